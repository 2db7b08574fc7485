import PyProof.Rows.All
import Wide.All
import OpenK.AllK
import Wide.FinOn
import HandS.ForMost
import HandS.ForExc
import HandS.Defaults
import HandS.Codes
import HandS.IsInst
import HandS.Wide
import HandS.Flow
import HandS.Evl
import HandS.Steps
import HandS.ExcField
import HandS.Head0
import HandS.Head1
import HandS.Head2
import HandS.HeadEnd
import HandS.HeadHook1
import HandS.HeadHook2
import HandS.HeadHook3
import HandS.HeadHook4
import KE.KExcInit
import HandS.ExcInit
import PyProof.Rows.FactsExc_KeyError
import PyProof.ExcBaseAll.LookupError
import KE.KEqSeq
import HandS.Words
import HandS.MakeKw
import HandS.MakeKwOnly
import HandS.Style
import HandS.Comp
import HandS.Text
import HandS.More
import PyProof.StrOps2
import HandS.Strs
import HandS.Walk
import HandS.StrMore
import KE.KLam
import KE.DataMinKey
import HandS.Dict
import HandS.Lambda
import HandS.HeadWalk
import HandS.Zip
import HandS.DictComp
import HandS.List
import HandS.Call
import KE.SortCalls
import KE.SortKeyed
import HandS.Iter
import HandS.Deep
import KE.LtData
import HandS.SetFor
import KE.KCallOwn
import KE.IntTextLaws
import PyProof.StrLawsAffix
import KE.KIndexOf
import HandS.FStr
import PyProof.ReprRoads
import PyProof.ReprDict
import HandS.OwnEq
import PyProof.ReprLen
import HandS.Sort
import KE.KDictList
import KE.SortData
import KE.DataMinMax
import KE.DatumOrd
import HandS.WideBits
import HandS.TupAny
import PySem.Challenge.RW_rideturns_k60_whole_paid_off_one_by_one
set_option Elab.async false
set_option linter.all false
set_option maxRecDepth 100000
set_option maxHeartbeats 4000000
namespace K60
open PySem PySem.Spec PyProof.Rows L2
def top (i : Nat) : Stmt := PySem.Challenge.pw_rideturns_k60_whole_paid_off_one_by_one.main.body.getD i (.Pass ⟨0, 0, 0, 0⟩)
abbrev s__wall : Stmt := top 0
abbrev N__wall : List Str := ["k"]
theorem sc__wall : FnScope N__wall ["k"] (defScope s__wall) := ⟨rfl, rfl, rfl, by decide +kernel, rfl, by decide +kernel, by decide +kernel⟩
def d__wall : He.DefD := ⟨("_wall", none), "_wall", "_wall", defArgs s__wall, defBody s__wall, defScope s__wall, [], []⟩
abbrev s_NoKind_init : Stmt := inClass (top 2) 0
abbrev N_NoKind_init : List Str := ["self", "thing"]
theorem sc_NoKind_init : FnScope N_NoKind_init ["self", "thing"] (defScope s_NoKind_init) := ⟨rfl, rfl, rfl, by decide +kernel, rfl, by decide +kernel, by decide +kernel⟩
def d_NoKind_init : He.DefD := ⟨("NoKind", some "__init__"), "__init__", "NoKind.__init__", defArgs s_NoKind_init, defBody s_NoKind_init, defScope s_NoKind_init, [], []⟩
abbrev s_Nought_init : Stmt := inClass (top 3) 0
abbrev N_Nought_init : List Str := ["self", "top"]
theorem sc_Nought_init : FnScope N_Nought_init ["self", "top"] (defScope s_Nought_init) := ⟨rfl, rfl, rfl, by decide +kernel, rfl, by decide +kernel, by decide +kernel⟩
def d_Nought_init : He.DefD := ⟨("Nought", some "__init__"), "__init__", "Nought.__init__", defArgs s_Nought_init, defBody s_Nought_init, defScope s_Nought_init, [], []⟩
abbrev s_Uneven_init : Stmt := inClass (top 4) 0
abbrev N_Uneven_init : List Str := ["self", "rest"]
theorem sc_Uneven_init : FnScope N_Uneven_init ["self", "rest"] (defScope s_Uneven_init) := ⟨rfl, rfl, rfl, by decide +kernel, rfl, by decide +kernel, by decide +kernel⟩
def d_Uneven_init : He.DefD := ⟨("Uneven", some "__init__"), "__init__", "Uneven.__init__", defArgs s_Uneven_init, defBody s_Uneven_init, defScope s_Uneven_init, [], []⟩
abbrev s_NoName_init : Stmt := inClass (top 5) 0
abbrev N_NoName_init : List Str := ["self", "name"]
theorem sc_NoName_init : FnScope N_NoName_init ["self", "name"] (defScope s_NoName_init) := ⟨rfl, rfl, rfl, by decide +kernel, rfl, by decide +kernel, by decide +kernel⟩
def d_NoName_init : He.DefD := ⟨("NoName", some "__init__"), "__init__", "NoName.__init__", defArgs s_NoName_init, defBody s_NoName_init, defScope s_NoName_init, [], []⟩
abbrev s_TooMany_init : Stmt := inClass (top 6) 0
abbrev N_TooMany_init : List Str := ["self", "most"]
theorem sc_TooMany_init : FnScope N_TooMany_init ["self", "most"] (defScope s_TooMany_init) := ⟨rfl, rfl, rfl, by decide +kernel, rfl, by decide +kernel, by decide +kernel⟩
def d_TooMany_init : He.DefD := ⟨("TooMany", some "__init__"), "__init__", "TooMany.__init__", defArgs s_TooMany_init, defBody s_TooMany_init, defScope s_TooMany_init, [], []⟩
abbrev s_NoRule_init : Stmt := inClass (top 7) 0
abbrev N_NoRule_init : List Str := ["self", "thing"]
theorem sc_NoRule_init : FnScope N_NoRule_init ["self", "thing"] (defScope s_NoRule_init) := ⟨rfl, rfl, rfl, by decide +kernel, rfl, by decide +kernel, by decide +kernel⟩
def d_NoRule_init : He.DefD := ⟨("NoRule", some "__init__"), "__init__", "NoRule.__init__", defArgs s_NoRule_init, defBody s_NoRule_init, defScope s_NoRule_init, [], []⟩
abbrev s_is_whole : Stmt := top 10
abbrev N_is_whole : List Str := ["thing"]
theorem sc_is_whole : FnScope N_is_whole ["thing"] (defScope s_is_whole) := ⟨rfl, rfl, rfl, by decide +kernel, rfl, by decide +kernel, by decide +kernel⟩
def d_is_whole : He.DefD := ⟨("is_whole", none), "is_whole", "is_whole", defArgs s_is_whole, defBody s_is_whole, defScope s_is_whole, [], []⟩
abbrev s_is_between : Stmt := top 11
abbrev N_is_between : List Str := ["thing", "low", "high"]
theorem sc_is_between : FnScope N_is_between ["thing", "low", "high"] (defScope s_is_between) := ⟨rfl, rfl, rfl, by decide +kernel, rfl, by decide +kernel, by decide +kernel⟩
def d_is_between : He.DefD := ⟨("is_between", none), "is_between", "is_between", defArgs s_is_between, defBody s_is_between, defScope s_is_between, [], []⟩
abbrev s_is_name : Stmt := top 12
abbrev N_is_name : List Str := ["thing", "sign"]
theorem sc_is_name : FnScope N_is_name ["thing"] (defScope s_is_name) := ⟨rfl, rfl, rfl, by decide +kernel, rfl, by decide +kernel, by decide +kernel⟩
def d_is_name : He.DefD := ⟨("is_name", none), "is_name", "is_name", defArgs s_is_name, defBody s_is_name, defScope s_is_name, [], []⟩
abbrev s_common_part : Stmt := top 14
abbrev N_common_part : List Str := ["one", "other"]
theorem sc_common_part : FnScope N_common_part ["one", "other"] (defScope s_common_part) := ⟨rfl, rfl, rfl, by decide +kernel, rfl, by decide +kernel, by decide +kernel⟩
def d_common_part : He.DefD := ⟨("common_part", none), "common_part", "common_part", defArgs s_common_part, defBody s_common_part, defScope s_common_part, [], []⟩
abbrev s_Share_init : Stmt := inClass (top 15) 0
abbrev N_Share_init : List Str := ["self", "top", "bottom", "thing", "common"]
theorem sc_Share_init : FnScope N_Share_init ["self", "top", "bottom"] (defScope s_Share_init) := ⟨rfl, rfl, rfl, by decide +kernel, rfl, by decide +kernel, by decide +kernel⟩
def d_Share_init : He.DefD := ⟨("Share", some "__init__"), "__init__", "Share.__init__", defArgs s_Share_init, defBody s_Share_init, defScope s_Share_init, [.int 1], []⟩
abbrev s_Share_eq : Stmt := inClass (top 15) 1
abbrev N_Share_eq : List Str := ["self", "other"]
theorem sc_Share_eq : FnScope N_Share_eq ["self", "other"] (defScope s_Share_eq) := ⟨rfl, rfl, rfl, by decide +kernel, rfl, by decide +kernel, by decide +kernel⟩
def d_Share_eq : He.DefD := ⟨("Share", some "__eq__"), "__eq__", "Share.__eq__", defArgs s_Share_eq, defBody s_Share_eq, defScope s_Share_eq, [], []⟩
abbrev s_Share_str : Stmt := inClass (top 15) 2
abbrev N_Share_str : List Str := ["self"]
theorem sc_Share_str : FnScope N_Share_str ["self"] (defScope s_Share_str) := ⟨rfl, rfl, rfl, by decide +kernel, rfl, by decide +kernel, by decide +kernel⟩
def d_Share_str : He.DefD := ⟨("Share", some "__str__"), "__str__", "Share.__str__", defArgs s_Share_str, defBody s_Share_str, defScope s_Share_str, [], []⟩
abbrev s_Share_repr : Stmt := inClass (top 15) 3
abbrev N_Share_repr : List Str := ["self"]
theorem sc_Share_repr : FnScope N_Share_repr ["self"] (defScope s_Share_repr) := ⟨rfl, rfl, rfl, by decide +kernel, rfl, by decide +kernel, by decide +kernel⟩
def d_Share_repr : He.DefD := ⟨("Share", some "__repr__"), "__repr__", "Share.__repr__", defArgs s_Share_repr, defBody s_Share_repr, defScope s_Share_repr, [], []⟩
abbrev s_Share_plus : Stmt := inClass (top 15) 4
abbrev N_Share_plus : List Str := ["self", "other"]
theorem sc_Share_plus : FnScope N_Share_plus ["self", "other"] (defScope s_Share_plus) := ⟨rfl, rfl, rfl, by decide +kernel, rfl, by decide +kernel, by decide +kernel⟩
def d_Share_plus : He.DefD := ⟨("Share", some "plus"), "plus", "Share.plus", defArgs s_Share_plus, defBody s_Share_plus, defScope s_Share_plus, [], []⟩
abbrev s_Share_less : Stmt := inClass (top 15) 5
abbrev N_Share_less : List Str := ["self", "other"]
theorem sc_Share_less : FnScope N_Share_less ["self", "other"] (defScope s_Share_less) := ⟨rfl, rfl, rfl, by decide +kernel, rfl, by decide +kernel, by decide +kernel⟩
def d_Share_less : He.DefD := ⟨("Share", some "less"), "less", "Share.less", defArgs s_Share_less, defBody s_Share_less, defScope s_Share_less, [], []⟩
abbrev s_Share_times : Stmt := inClass (top 15) 6
abbrev N_Share_times : List Str := ["self", "many"]
theorem sc_Share_times : FnScope N_Share_times ["self", "many"] (defScope s_Share_times) := ⟨rfl, rfl, rfl, by decide +kernel, rfl, by decide +kernel, by decide +kernel⟩
def d_Share_times : He.DefD := ⟨("Share", some "times"), "times", "Share.times", defArgs s_Share_times, defBody s_Share_times, defScope s_Share_times, [], []⟩
abbrev s_Share_over : Stmt := inClass (top 15) 7
abbrev N_Share_over : List Str := ["self", "many"]
theorem sc_Share_over : FnScope N_Share_over ["self", "many"] (defScope s_Share_over) := ⟨rfl, rfl, rfl, by decide +kernel, rfl, by decide +kernel, by decide +kernel⟩
def d_Share_over : He.DefD := ⟨("Share", some "over"), "over", "Share.over", defArgs s_Share_over, defBody s_Share_over, defScope s_Share_over, [], []⟩
abbrev s_Share_below : Stmt := inClass (top 15) 8
abbrev N_Share_below : List Str := ["self", "other"]
theorem sc_Share_below : FnScope N_Share_below ["self", "other"] (defScope s_Share_below) := ⟨rfl, rfl, rfl, by decide +kernel, rfl, by decide +kernel, by decide +kernel⟩
def d_Share_below : He.DefD := ⟨("Share", some "below"), "below", "Share.below", defArgs s_Share_below, defBody s_Share_below, defScope s_Share_below, [], []⟩
abbrev s_Share_whole : Stmt := inClass (top 15) 9
abbrev N_Share_whole : List Str := ["self"]
theorem sc_Share_whole : FnScope N_Share_whole ["self"] (defScope s_Share_whole) := ⟨rfl, rfl, rfl, by decide +kernel, rfl, by decide +kernel, by decide +kernel⟩
def d_Share_whole : He.DefD := ⟨("Share", some "whole"), "whole", "Share.whole", defArgs s_Share_whole, defBody s_Share_whole, defScope s_Share_whole, [], []⟩
abbrev s_same_share : Stmt := top 16
abbrev N_same_share : List Str := ["share", "told"]
theorem sc_same_share : FnScope N_same_share ["share"] (defScope s_same_share) := ⟨rfl, rfl, rfl, by decide +kernel, rfl, by decide +kernel, by decide +kernel⟩
def d_same_share : He.DefD := ⟨("same_share", none), "same_share", "same_share", defArgs s_same_share, defBody s_same_share, defScope s_same_share, [], []⟩
abbrev s_total : Stmt := top 17
abbrev N_total : List Str := ["shares", "start", "summed", "share"]
theorem sc_total : FnScope N_total ["shares", "start"] (defScope s_total) := ⟨rfl, rfl, rfl, by decide +kernel, rfl, by decide +kernel, by decide +kernel⟩
def d_total : He.DefD := ⟨("total", none), "total", "total", defArgs s_total, defBody s_total, defScope s_total, [.int 0], []⟩
abbrev s_in_order : Stmt := top 18
abbrev N_in_order : List Str := ["names", "shares", "nought", "ordered", "name", "share", "at"]
theorem sc_in_order : FnScope N_in_order ["names", "shares"] (defScope s_in_order) := ⟨rfl, rfl, rfl, by decide +kernel, rfl, by decide +kernel, by decide +kernel⟩
def d_in_order : He.DefD := ⟨("in_order", none), "in_order", "in_order", defArgs s_in_order, defBody s_in_order, defScope s_in_order, [], []⟩
abbrev s_check_even : Stmt := top 20
abbrev N_check_even : List Str := ["standing", "rest"]
theorem sc_check_even : FnScope N_check_even ["standing"] (defScope s_check_even) := ⟨rfl, rfl, rfl, by decide +kernel, rfl, by decide +kernel, by decide +kernel⟩
def d_check_even : He.DefD := ⟨("check_even", none), "check_even", "check_even", defArgs s_check_even, defBody s_check_even, defScope s_check_even, [], []⟩
abbrev s_joined : Stmt := top 21
abbrev N_joined : List Str := ["standing", "moves", "name", "told", "move"]
theorem sc_joined : FnScope N_joined ["standing", "moves"] (defScope s_joined) := ⟨rfl, rfl, rfl, by decide +kernel, rfl, by decide +kernel, by decide +kernel⟩
def d_joined : He.DefD := ⟨("joined", none), "joined", "joined", defArgs s_joined, defBody s_joined, defScope s_joined, [], []⟩
abbrev s_turned : Stmt := top 22
abbrev N_turned : List Str := ["standing", "name"]
theorem sc_turned : FnScope N_turned ["standing"] (defScope s_turned) := ⟨rfl, rfl, rfl, by decide +kernel, rfl, by decide +kernel, by decide +kernel⟩
def d_turned : He.DefD := ⟨("turned", none), "turned", "turned", defArgs s_turned, defBody s_turned, defScope s_turned, [], []⟩
abbrev s_after : Stmt := top 25
abbrev N_after : List Str := ["standing", "handed", "moves", "payer", "taker", "share"]
theorem sc_after : FnScope N_after ["standing", "handed"] (defScope s_after) := ⟨rfl, rfl, rfl, by decide +kernel, rfl, by decide +kernel, by decide +kernel⟩
def d_after : He.DefD := ⟨("after", none), "after", "after", defArgs s_after, defBody s_after, defScope s_after, [], []⟩
abbrev s_lesser : Stmt := top 26
abbrev N_lesser : List Str := ["one", "other"]
theorem sc_lesser : FnScope N_lesser ["one", "other"] (defScope s_lesser) := ⟨rfl, rfl, rfl, by decide +kernel, rfl, by decide +kernel, by decide +kernel⟩
def d_lesser : He.DefD := ⟨("lesser", none), "lesser", "lesser", defArgs s_lesser, defBody s_lesser, defScope s_lesser, [], []⟩
abbrev s_above_nought : Stmt := top 27
abbrev N_above_nought : List Str := ["standing", "name"]
theorem sc_above_nought : FnScope N_above_nought ["standing"] (defScope s_above_nought) := ⟨rfl, rfl, rfl, by decide +kernel, rfl, by decide +kernel, by decide +kernel⟩
def d_above_nought : He.DefD := ⟨("above_nought", none), "above_nought", "above_nought", defArgs s_above_nought, defBody s_above_nought, defScope s_above_nought, [], []⟩
abbrev s_paid_off : Stmt := top 28
abbrev N_paid_off : List Str := ["standing", "name", "owes", "seen", "left", "handed", "other", "share"]
theorem sc_paid_off : FnScope N_paid_off ["standing", "name"] (defScope s_paid_off) := ⟨rfl, rfl, rfl, by decide +kernel, rfl, by decide +kernel, by decide +kernel⟩
def d_paid_off : He.DefD := ⟨("paid_off", none), "paid_off", "paid_off", defArgs s_paid_off, defBody s_paid_off, defScope s_paid_off, [], []⟩
abbrev s_whole_credits : Stmt := top 29
abbrev N_whole_credits : List Str := ["standing", "names", "common", "name"]
theorem sc_whole_credits : FnScope N_whole_credits ["standing", "names"] (defScope s_whole_credits) := ⟨rfl, rfl, rfl, by decide +kernel, rfl, by decide +kernel, by decide +kernel⟩
def d_whole_credits : He.DefD := ⟨("whole_credits", none), "whole_credits", "whole_credits", defArgs s_whole_credits, defBody s_whole_credits, defScope s_whole_credits, [], []⟩
abbrev s_sums_of_sets : Stmt := top 30
abbrev N_sums_of_sets : List Str := ["numbers", "sums", "number", "one"]
theorem sc_sums_of_sets : FnScope N_sums_of_sets ["numbers"] (defScope s_sums_of_sets) := ⟨rfl, rfl, rfl, by decide +kernel, rfl, by decide +kernel, by decide +kernel⟩
def d_sums_of_sets : He.DefD := ⟨("sums_of_sets", none), "sums_of_sets", "sums_of_sets", defArgs s_sums_of_sets, defBody s_sums_of_sets, defScope s_sums_of_sets, [], []⟩
abbrev s_without_one : Stmt := top 31
abbrev N_without_one : List Str := ["chosen", "many", "place"]
theorem sc_without_one : FnScope N_without_one ["chosen", "many"] (defScope s_without_one) := ⟨rfl, rfl, rfl, by decide +kernel, rfl, by decide +kernel, by decide +kernel⟩
def d_without_one : He.DefD := ⟨("without_one", none), "without_one", "without_one", defArgs s_without_one, defBody s_without_one, defScope s_without_one, [], []⟩
abbrev s_best_takings : Stmt := top 32
abbrev N_best_takings : List Str := ["sums", "many", "noughts", "places", "chosen", "place", "best", "left"]
theorem sc_best_takings : FnScope N_best_takings ["sums", "many"] (defScope s_best_takings) := ⟨rfl, rfl, rfl, by decide +kernel, rfl, by decide +kernel, by decide +kernel⟩
def d_best_takings : He.DefD := ⟨("best_takings", none), "best_takings", "best_takings", defArgs s_best_takings, defBody s_best_takings, defScope s_best_takings, [], []⟩
abbrev s_lots : Stmt := top 33
abbrev N_lots : List Str := ["standing", "names", "sums", "places", "told", "lot", "chosen", "place", "name"]
theorem sc_lots : FnScope N_lots ["standing"] (defScope s_lots) := ⟨rfl, rfl, rfl, by decide +kernel, rfl, by decide +kernel, by decide +kernel⟩
def d_lots : He.DefD := ⟨("lots", none), "lots", "lots", defArgs s_lots, defBody s_lots, defScope s_lots, [], []⟩
abbrev s_settled_lot : Stmt := top 34
abbrev N_settled_lot : List Str := ["standing", "handed", "owed", "payer", "share"]
theorem sc_settled_lot : FnScope N_settled_lot ["standing"] (defScope s_settled_lot) := ⟨rfl, rfl, rfl, by decide +kernel, rfl, by decide +kernel, by decide +kernel⟩
def d_settled_lot : He.DefD := ⟨("settled_lot", none), "settled_lot", "settled_lot", defArgs s_settled_lot, defBody s_settled_lot, defScope s_settled_lot, [], []⟩
abbrev s_settled : Stmt := top 35
abbrev N_settled : List Str := ["standing", "handed", "lot", "name"]
theorem sc_settled : FnScope N_settled ["standing"] (defScope s_settled) := ⟨rfl, rfl, rfl, by decide +kernel, rfl, by decide +kernel, by decide +kernel⟩
def d_settled : He.DefD := ⟨("settled", none), "settled", "settled", defArgs s_settled, defBody s_settled, defScope s_settled, [], []⟩
abbrev s_is_order : Stmt := top 39
abbrev N_is_order : List Str := ["thing", "name"]
theorem sc_is_order : FnScope N_is_order ["thing"] (defScope s_is_order) := ⟨rfl, rfl, rfl, by decide +kernel, rfl, by decide +kernel, by decide +kernel⟩
def d_is_order : He.DefD := ⟨("is_order", none), "is_order", "is_order", defArgs s_is_order, defBody s_is_order, defScope s_is_order, [], []⟩
abbrev s_is_rule : Stmt := top 40
abbrev N_is_rule : List Str := ["thing"]
theorem sc_is_rule : FnScope N_is_rule ["thing"] (defScope s_is_rule) := ⟨rfl, rfl, rfl, by decide +kernel, rfl, by decide +kernel, by decide +kernel⟩
def d_is_rule : He.DefD := ⟨("is_rule", none), "is_rule", "is_rule", defArgs s_is_rule, defBody s_is_rule, defScope s_is_rule, [], []⟩
abbrev s_names_of : Stmt := top 43
abbrev N_names_of : List Str := ["order", "riders", "name"]
theorem sc_names_of : FnScope N_names_of ["order", "riders"] (defScope s_names_of) := ⟨rfl, rfl, rfl, by decide +kernel, rfl, by decide +kernel, by decide +kernel⟩
def d_names_of : He.DefD := ⟨("names_of", none), "names_of", "names_of", defArgs s_names_of, defBody s_names_of, defScope s_names_of, [], []⟩
abbrev s_first_memory : Stmt := top 44
abbrev N_first_memory : List Str := ["rule", "name"]
theorem sc_first_memory : FnScope N_first_memory ["rule"] (defScope s_first_memory) := ⟨rfl, rfl, rfl, by decide +kernel, rfl, by decide +kernel, by decide +kernel⟩
def d_first_memory : He.DefD := ⟨("first_memory", none), "first_memory", "first_memory", defArgs s_first_memory, defBody s_first_memory, defScope s_first_memory, [], []⟩
abbrev s_least_driver : Stmt := top 45
abbrev N_least_driver : List Str := ["rule", "held", "names", "grain", "name", "parts", "counts"]
theorem sc_least_driver : FnScope N_least_driver ["rule", "held", "names"] (defScope s_least_driver) := ⟨rfl, rfl, rfl, by decide +kernel, rfl, by decide +kernel, by decide +kernel⟩
def d_least_driver : He.DefD := ⟨("least_driver", none), "least_driver", "least_driver", defArgs s_least_driver, defBody s_least_driver, defScope s_least_driver, [], []⟩
abbrev s_driver_by : Stmt := top 46
abbrev N_driver_by : List Str := ["rule", "memory", "riders", "names", "gone", "same", "many"]
theorem sc_driver_by : FnScope N_driver_by ["rule", "memory", "riders"] (defScope s_driver_by) := ⟨rfl, rfl, rfl, by decide +kernel, rfl, by decide +kernel, by decide +kernel⟩
def d_driver_by : He.DefD := ⟨("driver_by", none), "driver_by", "driver_by", defArgs s_driver_by, defBody s_driver_by, defScope s_driver_by, [], []⟩
abbrev s_parts_behind : Stmt := top 47
abbrev N_parts_behind : List Str := ["order", "held", "riders", "driver", "behind", "name", "parts", "fare", "wage"]
theorem sc_parts_behind : FnScope N_parts_behind ["order", "held", "riders", "driver"] (defScope s_parts_behind) := ⟨rfl, rfl, rfl, by decide +kernel, rfl, by decide +kernel, by decide +kernel⟩
def d_parts_behind : He.DefD := ⟨("parts_behind", none), "parts_behind", "parts_behind", defArgs s_parts_behind, defBody s_parts_behind, defScope s_parts_behind, [], []⟩
abbrev s_line_behind : Stmt := top 48
abbrev N_line_behind : List Str := ["line", "riders", "driver", "name"]
theorem sc_line_behind : FnScope N_line_behind ["line", "riders", "driver"] (defScope s_line_behind) := ⟨rfl, rfl, rfl, by decide +kernel, rfl, by decide +kernel, by decide +kernel⟩
def d_line_behind : He.DefD := ⟨("line_behind", none), "line_behind", "line_behind", defArgs s_line_behind, defBody s_line_behind, defScope s_line_behind, [], []⟩
abbrev s_rounds_behind : Stmt := top 49
abbrev N_rounds_behind : List Str := ["order", "rounds", "riders", "names", "gone", "same", "many"]
theorem sc_rounds_behind : FnScope N_rounds_behind ["order", "rounds", "riders"] (defScope s_rounds_behind) := ⟨rfl, rfl, rfl, by decide +kernel, rfl, by decide +kernel, by decide +kernel⟩
def d_rounds_behind : He.DefD := ⟨("rounds_behind", none), "rounds_behind", "rounds_behind", defArgs s_rounds_behind, defBody s_rounds_behind, defScope s_rounds_behind, [], []⟩
abbrev s_memory_behind : Stmt := top 50
abbrev N_memory_behind : List Str := ["rule", "memory", "riders", "driver"]
theorem sc_memory_behind : FnScope N_memory_behind ["rule", "memory", "riders"] (defScope s_memory_behind) := ⟨rfl, rfl, rfl, by decide +kernel, rfl, by decide +kernel, by decide +kernel⟩
def d_memory_behind : He.DefD := ⟨("memory_behind", none), "memory_behind", "memory_behind", defArgs s_memory_behind, defBody s_memory_behind, defScope s_memory_behind, [], []⟩
abbrev s_Turns_init : Stmt := inClass (top 51) 0
abbrev N_Turns_init : List Str := ["self", "rule", "name"]
theorem sc_Turns_init : FnScope N_Turns_init ["self", "rule"] (defScope s_Turns_init) := ⟨rfl, rfl, rfl, by decide +kernel, rfl, by decide +kernel, by decide +kernel⟩
def d_Turns_init : He.DefD := ⟨("Turns", some "__init__"), "__init__", "Turns.__init__", defArgs s_Turns_init, defBody s_Turns_init, defScope s_Turns_init, [], []⟩
abbrev s_Turns_eq : Stmt := inClass (top 51) 1
abbrev N_Turns_eq : List Str := ["self", "other"]
theorem sc_Turns_eq : FnScope N_Turns_eq ["self", "other"] (defScope s_Turns_eq) := ⟨rfl, rfl, rfl, by decide +kernel, rfl, by decide +kernel, by decide +kernel⟩
def d_Turns_eq : He.DefD := ⟨("Turns", some "__eq__"), "__eq__", "Turns.__eq__", defArgs s_Turns_eq, defBody s_Turns_eq, defScope s_Turns_eq, [], []⟩
abbrev s_Turns_len : Stmt := inClass (top 51) 2
abbrev N_Turns_len : List Str := ["self"]
theorem sc_Turns_len : FnScope N_Turns_len ["self"] (defScope s_Turns_len) := ⟨rfl, rfl, rfl, by decide +kernel, rfl, by decide +kernel, by decide +kernel⟩
def d_Turns_len : He.DefD := ⟨("Turns", some "__len__"), "__len__", "Turns.__len__", defArgs s_Turns_len, defBody s_Turns_len, defScope s_Turns_len, [], []⟩
abbrev s_Turns_check_riders : Stmt := inClass (top 51) 3
abbrev N_Turns_check_riders : List Str := ["self", "riders", "at", "name"]
theorem sc_Turns_check_riders : FnScope N_Turns_check_riders ["self", "riders"] (defScope s_Turns_check_riders) := ⟨rfl, rfl, rfl, by decide +kernel, rfl, by decide +kernel, by decide +kernel⟩
def d_Turns_check_riders : He.DefD := ⟨("Turns", some "check_riders"), "check_riders", "Turns.check_riders", defArgs s_Turns_check_riders, defBody s_Turns_check_riders, defScope s_Turns_check_riders, [], []⟩
abbrev s_Turns_who : Stmt := inClass (top 51) 4
abbrev N_Turns_who : List Str := ["self", "riders"]
theorem sc_Turns_who : FnScope N_Turns_who ["self", "riders"] (defScope s_Turns_who) := ⟨rfl, rfl, rfl, by decide +kernel, rfl, by decide +kernel, by decide +kernel⟩
def d_Turns_who : He.DefD := ⟨("Turns", some "who"), "who", "Turns.who", defArgs s_Turns_who, defBody s_Turns_who, defScope s_Turns_who, [], []⟩
abbrev s_Turns_ride : Stmt := inClass (top 51) 5
abbrev N_Turns_ride : List Str := ["self", "riders", "driver"]
theorem sc_Turns_ride : FnScope N_Turns_ride ["self", "riders"] (defScope s_Turns_ride) := ⟨rfl, rfl, rfl, by decide +kernel, rfl, by decide +kernel, by decide +kernel⟩
def d_Turns_ride : He.DefD := ⟨("Turns", some "ride"), "ride", "Turns.ride", defArgs s_Turns_ride, defBody s_Turns_ride, defScope s_Turns_ride, [], []⟩
abbrev s_Turns_stands : Stmt := inClass (top 51) 6
abbrev N_Turns_stands : List Str := ["self", "name", "parts"]
theorem sc_Turns_stands : FnScope N_Turns_stands ["self"] (defScope s_Turns_stands) := ⟨rfl, rfl, rfl, by decide +kernel, rfl, by decide +kernel, by decide +kernel⟩
def d_Turns_stands : He.DefD := ⟨("Turns", some "stands"), "stands", "Turns.stands", defArgs s_Turns_stands, defBody s_Turns_stands, defScope s_Turns_stands, [], []⟩
abbrev s_Turns_drives : Stmt := inClass (top 51) 7
abbrev N_Turns_drives : List Str := ["self", "name"]
theorem sc_Turns_drives : FnScope N_Turns_drives ["self"] (defScope s_Turns_drives) := ⟨rfl, rfl, rfl, by decide +kernel, rfl, by decide +kernel, by decide +kernel⟩
def d_Turns_drives : He.DefD := ⟨("Turns", some "drives"), "drives", "Turns.drives", defArgs s_Turns_drives, defBody s_Turns_drives, defScope s_Turns_drives, [], []⟩
abbrev s_Turns_memory : Stmt := inClass (top 51) 8
abbrev N_Turns_memory : List Str := ["self", "parts"]
theorem sc_Turns_memory : FnScope N_Turns_memory ["self"] (defScope s_Turns_memory) := ⟨rfl, rfl, rfl, by decide +kernel, rfl, by decide +kernel, by decide +kernel⟩
def d_Turns_memory : He.DefD := ⟨("Turns", some "memory"), "memory", "Turns.memory", defArgs s_Turns_memory, defBody s_Turns_memory, defScope s_Turns_memory, [], []⟩
abbrev s_l_held : Stmt := top 53
abbrev N_l_held : List Str := ["_law_script"]
theorem sc_l_held : FnScope N_l_held ["_law_script"] (defScope s_l_held) := ⟨rfl, rfl, rfl, by decide +kernel, rfl, by decide +kernel, by decide +kernel⟩
def d_l_held : He.DefD := ⟨("_law_held", none), "_law_held", "_law_held", defArgs s_l_held, defBody s_l_held, defScope s_l_held, [], []⟩
abbrev s_l_draw : Stmt := top 54
abbrev N_l_draw : List Str := ["_law_held_here", "_law_many", "_law_found", "_law_at", "_law_cell", "_law_number"]
theorem sc_l_draw : FnScope N_l_draw ["_law_held_here", "_law_many"] (defScope s_l_draw) := ⟨rfl, rfl, rfl, by decide +kernel, rfl, by decide +kernel, by decide +kernel⟩
def d_l_draw : He.DefD := ⟨("_law_draw", none), "_law_draw", "_law_draw", defArgs s_l_draw, defBody s_l_draw, defScope s_l_draw, [], []⟩
abbrev s_l_names : Stmt := top 55
abbrev N_l_names : List Str := ["_law_held_here", "_law_many", "_law_letters", "_law_size", "_law_k", "_law_base", "_law_at", "_law_begin", "_law_step", "_law_lot", "_law_found", "_law_tail"]
theorem sc_l_names : FnScope N_l_names ["_law_held_here", "_law_many"] (defScope s_l_names) := ⟨rfl, rfl, rfl, by decide +kernel, rfl, by decide +kernel, by decide +kernel⟩
def d_l_names : He.DefD := ⟨("_law_names", none), "_law_names", "_law_names", defArgs s_l_names, defBody s_l_names, defScope s_l_names, [], []⟩
abbrev s_l_pair : Stmt := top 56
abbrev N_l_pair : List Str := ["_law_share", "_law_part"]
theorem sc_l_pair : FnScope N_l_pair ["_law_share"] (defScope s_l_pair) := ⟨rfl, rfl, rfl, by decide +kernel, rfl, by decide +kernel, by decide +kernel⟩
def d_l_pair : He.DefD := ⟨("_law_pair", none), "_law_pair", "_law_pair", defArgs s_l_pair, defBody s_l_pair, defScope s_l_pair, [], []⟩
abbrev s_l_day : Stmt := top 57
abbrev N_l_day : List Str := ["_law_held_here", "_law_order", "_law_many", "_law_left", "_law_found", "_law_turn"]
theorem sc_l_day : FnScope N_l_day ["_law_held_here", "_law_order"] (defScope s_l_day) := ⟨rfl, rfl, rfl, by decide +kernel, rfl, by decide +kernel, by decide +kernel⟩
def d_l_day : He.DefD := ⟨("_law_day", none), "_law_day", "_law_day", defArgs s_l_day, defBody s_l_day, defScope s_l_day, [], []⟩
abbrev s_l_rule : Stmt := top 58
abbrev N_l_rule : List Str := ["_law_held_here", "_law_order", "_law_grain"]
theorem sc_l_rule : FnScope N_l_rule ["_law_held_here", "_law_order"] (defScope s_l_rule) := ⟨rfl, rfl, rfl, by decide +kernel, rfl, by decide +kernel, by decide +kernel⟩
def d_l_rule : He.DefD := ⟨("_law_rule", none), "_law_rule", "_law_rule", defArgs s_l_rule, defBody s_l_rule, defScope s_l_rule, [], []⟩
abbrev s_l_handed : Stmt := top 59
abbrev N_l_handed : List Str := ["_law_found", "_law_rows", "_law_row"]
theorem sc_l_handed : FnScope N_l_handed ["_law_found"] (defScope s_l_handed) := ⟨rfl, rfl, rfl, by decide +kernel, rfl, by decide +kernel, by decide +kernel⟩
def d_l_handed : He.DefD := ⟨("_law_handed", none), "_law_handed", "_law_handed", defArgs s_l_handed, defBody s_l_handed, defScope s_l_handed, [], []⟩
abbrev s_l_signs : Stmt := top 60
abbrev N_l_signs : List Str := ["_law_stands", "_law_name"]
theorem sc_l_signs : FnScope N_l_signs ["_law_stands"] (defScope s_l_signs) := ⟨rfl, rfl, rfl, by decide +kernel, rfl, by decide +kernel, by decide +kernel⟩
def d_l_signs : He.DefD := ⟨("_law_signs", none), "_law_signs", "_law_signs", defArgs s_l_signs, defBody s_l_signs, defScope s_l_signs, [], []⟩
abbrev s_l_gone_right : Stmt := top 61
abbrev N_l_gone_right : List Str := ["_law_stands", "_law_rows", "_law_row", "_law_behind", "_law_old", "_law_new", "_law_name"]
theorem sc_l_gone_right : FnScope N_l_gone_right ["_law_stands", "_law_rows"] (defScope s_l_gone_right) := ⟨rfl, rfl, rfl, by decide +kernel, rfl, by decide +kernel, by decide +kernel⟩
def d_l_gone_right : He.DefD := ⟨("_law_gone_right", none), "_law_gone_right", "_law_gone_right", defArgs s_l_gone_right, defBody s_l_gone_right, defScope s_l_gone_right, [], []⟩
abbrev s_law : Stmt := top 62
abbrev N_law : List Str := ["_law_script", "_law_held_here", "_law_order", "_law_turns", "_law_turn", "_law_stands", "_law_rows", "_law_behind", "_law_name", "_law_left", "_law_paid", "_law_one"]
theorem sc_law : FnScope N_law ["_law_script"] (defScope s_law) := ⟨rfl, rfl, rfl, by decide +kernel, rfl, by decide +kernel, by decide +kernel⟩
def d_law : He.DefD := ⟨("law", none), "law", "law", defArgs s_law, defBody s_law, defScope s_law, [], []⟩
def fn : List He.DefD := [d__wall, d_NoKind_init, d_Nought_init, d_Uneven_init, d_NoName_init, d_TooMany_init, d_NoRule_init, d_is_whole, d_is_between, d_is_name, d_common_part, d_Share_init, d_Share_eq, d_Share_str, d_Share_repr, d_Share_plus, d_Share_less, d_Share_times, d_Share_over, d_Share_below, d_Share_whole, d_same_share, d_total, d_in_order, d_check_even, d_joined, d_turned, d_after, d_lesser, d_above_nought, d_paid_off, d_whole_credits, d_sums_of_sets, d_without_one, d_best_takings, d_lots, d_settled_lot, d_settled, d_is_order, d_is_rule, d_names_of, d_first_memory, d_least_driver, d_driver_by, d_parts_behind, d_line_behind, d_rounds_behind, d_memory_behind, d_Turns_init, d_Turns_eq, d_Turns_len, d_Turns_check_riders, d_Turns_who, d_Turns_ride, d_Turns_stands, d_Turns_drives, d_Turns_memory, d_l_held, d_l_draw, d_l_names, d_l_pair, d_l_day, d_l_rule, d_l_handed, d_l_signs, d_l_gone_right, d_law]
end K60
set_option Elab.async false
set_option linter.all false
set_option maxRecDepth 100000
set_option maxHeartbeats 4000000
/-! GX: own exceptions over any built-in base, whose own __init__ calls the base's and stores a field. -/
namespace GX
open PySem PySem.Spec PyProof.Rows L2

/-- what the written part tells of the class -/
structure Gx (K : PySem.W.Frag) (C : Addr) (bmB : List Value) (nid : String) : Prop where
  over : PySem.W.excOver K C bmB = true
  made : PySem.W.excInitIn K C bmB nid = true
  hasd : ∃ cd, PySem.W.clsIn K C = some cd ∧ cd.hasDict = true
  sets : PySem.W.findIn K (.ref C) "__setattr__" = some (some (.builtin "object.__setattr__"))
  base : PySem.W.subIn K (.ref C) (.type "BaseException") = some true
  typ : PySem.W.typeIn K (.ref C) = some (.type "type")
  keep : PySem.W.keepIn K (.ref C) = true

section
open Builtin Builtin.ObjectAttr
variable {prog : Program} {w : World} {A : Around} {R : Result → Shared → Prop} {hp : Heap} {g : Array GenState} {d : Drawn} {t : Nat} {os : OsState} {B : String} {bmB : List Value}
theorem first_store {K : PySem.W.Frag} {name : Str} {tk : Tok} {v : Value} {x C : Addr} {fv : Array Value} {cd : ClassData} (SF : StoreFacts B bmB "object.__setattr__" "object")
    (X : K.In hp) (hx : hp.get? x = some { cls := .ref C, data := .fields fv }) (ho : PySem.W.excOver K C bmB = true) (hc : PySem.W.clsIn K C = some cd) (hd : cd.hasDict = true)
    (hf : PySem.W.findIn K (.ref C) name = some none)
    (post : ∀ h' tk' dx, (∀ b o, b ≠ x → hp.get? b = some o → h'.get? b = some o) → hp.objs.size ≤ dx → dx ≠ x →
      h'.get? x = some { cls := .ref C, dict := some dx, data := .fields fv } → h'.Ns1 dx (fun y => if y = name then some v else none) → R (.ok (.ret .none)) ⟨h', g, d, tk', os⟩) :
    codeAny (model prog w) A (.call (.builtin "object.__setattr__") ⟨[.ref x, .str name tk, v], []⟩) R ⟨hp, g, d, t, os⟩ := by
  have inst : PySem.W.InstAt hp x { cls := .ref C, data := .fields fv } C none := ⟨hx, rfl, rfl, trivial⟩
  have far : x ≠ hp.objs.size := Nat.ne_of_lt (Heap.lt_size hx)
  have lc : PySem.W.Looks (model prog w) hp (classData C) cd := PySem.W.looks_clsIn X hc
  refine PySem.W.osa_openX (r := none) SF X inst ho (by unfold PySem.W.takerIn; rw [hf]; rfl) fun b => ?_
  dsimp only
  obtain ⟨n1, n2, n3, n4, n5, n6, n7, n8, n9, n10, n11⟩ := cd
  dsimp only at hd
  subst hd
  unfold storeInOwnDict ownDictForStores
  repeat (first | with_reducible refine PySem.HandSPX.store_in_new ?_ ?_ | with_reducible refine wpAny_loadPart_at hx ?_ | with_reducible refine lc.at ?_ | wp_step)
  · exact ⟨_, #[], _, (Heap.get?_update_ne _ _ _ _ far.symm).trans (Heap.get?_push_at rfl rfl), rfl, fun e he => absurd he (by simp), fun _ => rfl⟩
  · intro h' tk' hn hs
    have hx1 : (hp.push { cls := .type "dict", data := .dict #[] }).get? x = some { cls := .ref C, data := .fields fv } := Heap.get?_push_of_some _ hx
    refine post h' tk' hp.objs.size (fun b o hb hob => ?_) (Nat.le_refl _) far.symm ?_ hn
    · have e1 := hs.2 b (Nat.ne_of_lt (Heap.lt_size hob))
      rw [e1, Heap.get?_update_ne _ _ _ _ hb]
      exact Heap.get?_push_of_some _ hob
    · rw [hs.2 x far]
      exact Heap.get?_update_self _ hx1 rfl
end

section
variable {X : Cx} {pins : List (Addr × Obj)} {σ : L2.St} {H : Hp} {s : Shared} {a C dx : Addr} {f : Str} {y : V} {u : Value} {Q : Unit → Shared → Prop} {E : Value → Shared → Prop} {A : Around} {B : String} {bmB : List Value} {nid iid : String}
/-- self.f = y, the first store -/
theorem put_first (SF : StoreFacts B bmB "object.__setattr__" "object") (T : Gx X.K C bmB nid) (I : Inv X pins σ H s) (e : H a = some (exo a C none)) (hno : PySem.W.findIn X.K (.ref C) f = some none) (ry : RelV y u)
    (post : ∀ dx s', H dx = none → dx ≠ a → Inv X pins σ (upd (upd H dx (exd dx [(f, y)])) a (exo a C (some dx))) s' → Q () s') : wpAny (model X.prog X.w) A (setAttr (.ref a) f u) Q E s := by
  obtain ⟨cd, hcd, hdd⟩ := T.hasd
  obtain ⟨t1, at1⟩ := exo_at I.hok e
  obtain ⟨hp, g, d, t, os⟩ := s
  refine PySem.W.set_plain I.kIn (ox := { cls := .ref C, dict := none, data := .fields #[.ref t1, .none, .none, .none, .bool false, .none] }) (od := none) ⟨at1, rfl, rfl, trivial⟩ T.sets ?_
  refine first_store SF I.kIn at1 T.over hcd hdd hno (fun h' tk' dx kp dn dne hx hn => ?_)
  have fresh : H dx = none := I.hok.fresh dn
  have old : ∀ {b : Addr} {o : Obj}, hp.get? b = some o → b ≠ dx := fun {b o} q => Nat.ne_of_lt (Nat.lt_of_lt_of_le (Heap.lt_size q) dn)
  have other : ∀ {b : Addr}, H b = none → b ≠ a := fun {b} n z => by
    rw [z, e] at n
    cases n
  have un : Un X.fs [] H (upd (upd H dx (exd dx [(f, y)])) a (exo a C (some dx))) hp h' := {
    keep := fun b o q n _ _ => kp b o (other n) q
    slot := fun b o q n _ _ => ⟨o.slots, kp b o (other n) q⟩
    free := fun b o q n _ => by rw [upd_ne (other n), upd_ne (old q)]; exact n
    there := fun b o q _ => by
      by_cases hb : b = a
      · exact ⟨_, hb ▸ hx⟩
      · exact ⟨o, kp b o hb q⟩
    tups := fun b xs q => by rw [upd_ne (at_ne e q exo_tup), upd_ne (ne_of_none q fresh)]; exact q
    frzs := fun b o v q => by rw [upd_ne (at_ne e q exo_frz), upd_ne (ne_of_none q fresh)]; exact q
    tbls := fun b ps q => ⟨#[], by rw [upd_ne (at_ne e q exo_tbl), upd_ne (ne_of_none q fresh), q]; simp⟩ }
  refine post dx _ fresh dne (I.un (t' := tk') un fun b o q => ?_)
  by_cases hb : b = a
  · subst hb
    rw [upd_same] at q
    cases q
    exact exo_ok hx
  · rw [upd_ne hb] at q
    by_cases hd : b = dx
    · subst hd
      rw [upd_same] at q
      cases q
      exact exd_ok hn (relO_put (fs := []) ry fun g => True.intro)
    · rw [upd_ne hd] at q
      refine (I.hok b o q).stay (fun c v hc z => kp c v ?_ z) (fun c hc => ?_) (fun c xs hc => ?_)
      · rcases hc with hc | hc
        · exact hc ▸ hb
        · exact at_ne e hc exo_own
      · rw [upd_ne (at_ne e hc exo_own), upd_ne (ne_of_none hc fresh)]; exact hc
      · rw [upd_ne (at_ne e hc exo_tup), upd_ne (ne_of_none hc fresh)]; exact hc
/-- Base.__init__(self, ..) -/
theorem base_init {us : List Value} {Q : Value → Shared → Prop} (FB : ExcBaseFacts B nid iid bmB) (T : Gx X.K C bmB nid) (I : Inv X pins σ H s) (e : H a = some (exo a C none)) (hl : us.length ≤ sizeLine) (post : ∀ s', Inv X pins σ H s' → Q .none s') :
    wpAny (model X.prog X.w) A (call (.builtin iid) (.ref a :: us)) Q E s := by
  obtain ⟨nm, N, qn, bs, bm, hdct, sn, sub, ab, col, dd, k0, k1, k2, k3, k5, hC, hT⟩ := PySem.W.excInit_of I.kIn T.made
  obtain ⟨t1, at1⟩ := exo_at I.hok e
  obtain ⟨hp, g, d, t, os⟩ := s
  refine wpAny_call (PySem.HandSPX.init_base FB hT hC at1 hl fun h' t2 kp hx => ?_)
  have J := I.write (t' := t) (x := a) (e := a) (o := exo a C none) (by rw [e]; exact True.intro) (.inl rfl) kp ⟨_, hx⟩ (exo_ok hx)
  have same : upd H a (exo a C none) = H := funext fun b => by
    by_cases hb : b = a
    · rw [hb, upd_same, e]
    · rw [upd_ne hb]
  rw [same] at J
  exact post _ J
end

/-! ### readings and rules -/
/-- Base.__init__(self, ..) -/
def tBi (K : PySem.W.Frag) (bmB : List Value) (nid : String) (ta : TA) : TE := fun σ H Q => ta σ H fun vs H1 => ∃ (a C : Addr) (ws : List V), vs = .ref a :: ws ∧ ws.length ≤ 1000 ∧ Gx K C bmB nid ∧ H1 a = some (exo a C none) ∧ Q .non H1
/-- self.f = e, the first one -/
def tPf (K : PySem.W.Frag) (bmB : List Value) (nid : String) (f : Str) (to te : TE) : TS := fun D σ H => te σ H fun y H1 => to σ H1 fun x H2 => ∃ a C : Addr, x = .ref a ∧ Gx K C bmB nid ∧ PySem.W.findIn K (.ref C) f = some none ∧
  H2 a = some (exo a C none) ∧ ∀ dx, H2 dx = none → dx ≠ a → D.nx σ (upd (upd H2 dx (exd dx [(f, y)])) a (exo a C (some dx)))
section
variable {X : Cx} {o e : Expr} {es : List Expr} {to te : TE} {ta : TA} {f : Str} {p p' p1 p2 pos : Pos} {B nid iid : String} {bmB : List Value} {x : Str}
theorem pe_bi {pl : Sem Bool} (FB : ExcBaseFacts B nid iid bmB) (hg : Gl X x) (hm : X.mg x = none) (hv : bootBuiltins x = some (.type B)) (ty : typeOf (.type B) = pure (.type "type"))
    (vV : PySem.W.findCls X.K (.type B) (.type "type") "__init__" = some (.val (.builtin iid))) (hb : PySem.W.handedIn (.builtin iid) = true) (hst : Manifest.isStub B = false) (ha : PA X (e :: es) ta)
    (hc : eval (.Call (.Attribute (.Name x p1) "__init__" p2) (e :: es) [] pos) X.env = (do
      let ov ← eval (.Name x p1) X.env
      standAt p2.atName
      let (f, first) ← holding [ov] (getMethod ov "__init__" pl)
      callWith pos f first (backTo pos (starEach (e :: es) X.env)) (backToKw pos (keywordEach [] X.env))) := by rfl)
    (hn : x ≠ "__name__" := by decide) (hd : (x == ("__debug__" : Str)) = false := by decide)
    (he : starEach (e :: es) X.env = (false, eval e X.env) :: starEach es X.env := by rfl) (hpl : (backTo pos (starEach es X.env)).any (·.1) = false := by rfl) :
    PE X (.Call (.Attribute (.Name x p1) "__init__" p2) (e :: es) [] pos) (tBi X.K bmB nid ta) := by
  refine ⟨fun pins s σ H Q I h => ?_⟩
  refine PySem.W.methodCall_KW (ld_blt I hg hm hv ?_ hn hd) hc
  obtain ⟨m, fr⟩ := I.fr
  refine PySem.W.method_type fr I.ok.mod.kin ty hst vV hb ?_
  show wpAny _ _ (callWith pos (Value.builtin iid) [] (backTo pos (starEach (e :: es) X.env)) []) _ _ _
  refine PyProof.Rows.callWith_method1 (thn (ha.run pos pins _ σ H _ (I.tok _) h) fun us s1 hh => ?_) he hpl
  obtain ⟨vs, H1, I1, r1, a, C, ws, ev, hl, T, ea, q⟩ := hh
  subst ev
  cases r1 with
  | @cons _ u0 _ ur ra rw' =>
    obtain rfl : u0 = Value.ref a := ra
    have hlen : ur.length ≤ sizeLine := by
      have := Paired.length rw'
      rw [sizeLine_eq]
      omega
    exact base_init FB T I1 ea hlen fun s' J => ⟨.non, H1, J, rfl, q⟩
theorem ps_pf (SF : StoreFacts B bmB "object.__setattr__" "object") (ho : PE X o to) (he : PE X e te) (hs : swapsWith e (some (.Attribute o f p')) pos.line X.env = pure false := by rfl) : PS X (.Assign [.Attribute o f p'] e pos) (tPf X.K bmB nid f to te) := by
  refine ⟨fun pins s σ H D I h => ?_⟩
  refine plainObj_wpAny_Assign_Attribute (thn (he.run pins s σ H _ I h) fun v s1 h1 => ?_) hs
  obtain ⟨y, H1, I1, r1, q1⟩ := h1
  refine thn (ho.run pins s1 σ H1 _ I1 q1) fun u s2 h2 => ?_
  obtain ⟨z, H2, I2, r2, a, C, ex, T, hno, ea, q⟩ := h2
  subst ex
  obtain rfl : u = Value.ref a := r2
  exact put_first SF T I2 ea hno r1 fun dx s' n ne J => ⟨σ, _, J, q dx n ne⟩
/-- C(e, ..) as what is raised, C's own __init__ keeping sp -/
theorem pmk_gx {CX : CXT} {C fI : Addr} {k : Nat} {fd : FuncData} {ps : List Str} {sp : Sp} {ds : List Value} {dvs : List V} (FB : ExcBaseFacts B nid iid bmB) (T : Gx X.K C bmB nid) (iC : PySem.W.findIn X.K (.ref C) "__init__" = some (some (.ref fI)))
    (tI : PySem.W.typeIn X.K (.ref fI) = some (.type "function"))
    (F1 : FnOk X.prog X.w X.K X.mg X.base CX k fI fd ps sp) (hr : Room (k + 1) X.A) (hb : Binds X.K fd ps ds) (hd : Vals dvs ds) (hx : Passes CX X (fun _ _ _ => False)) (hg : Gl X x) (hm : X.mg x = some (.ref C)) (ha : PA X (e :: es) ta)
    (hdb : (x == ("__debug__" : Str)) = false := by decide) (he : starEach (e :: es) X.env = (false, eval e X.env) :: starEach es X.env := by rfl) (hpl : (backTo pos (starEach es X.env)).any (·.1) = false := by rfl) :
    PMk X (.Call (.Name x p) (e :: es) [] pos) (tMkO C sp dvs ta) := by
  intro pins s σ H Q I h
  refine wpAny_Call_Name_kw (ld_glob I hg hm ?_ hdb)
  refine PySem.W.callWith_K (h₀ := X.base) I.ok.mod.kin T.keep (thn (ha.run pos pins s σ H _ I h) fun us s1 hh => ?_) he hpl
  obtain ⟨vs, H1, I1, r1, hz, q1⟩ := hh
  refine ⟨I1.kIn, ?_⟩
  show wpAny _ _ (call (.ref C) us) _ _ _
  obtain ⟨nm, N, qn, bs, bm, hdct, sn, sub, ab, col, dd, k0, k1, k2, k3, k5, hC, hT⟩ := PySem.W.excInit_of I1.kIn T.made
  obtain ⟨hp, g, dr, tk, os⟩ := s1
  have big : hp.objs.size ≤ hp.objs.size + 1 := Nat.le_succ _
  have hq := q1 (hp.objs.size + 1) (I1.hok.fresh big)
  have kk : ∀ b o, hp.get? b = some o → ((hp.push (PySem.W.kdv_tup us)).push (PySem.HandSPX.excO C hp.objs.size)).get? b = some o := fun b o z =>
    Heap.get?_push_of_some _ (Heap.get?_push_of_some _ z)
  have there : ((hp.push (PySem.W.kdv_tup us)).push (PySem.HandSPX.excO C hp.objs.size)).get? (hp.objs.size + 1) = some (PySem.HandSPX.excO C hp.objs.size) := by heap_get
  have I2 := I1.laid (t' := tk) (a := hp.objs.size + 1) (o := exo (hp.objs.size + 1) C none) (h' := (hp.push (PySem.W.kdv_tup us)).push (PySem.HandSPX.excO C hp.objs.size)) kk big (exo_ok there)
  have r2 : Vals (V.ref (hp.objs.size + 1) :: (vs ++ dvs)) (Value.ref (hp.objs.size + 1) :: (us ++ ds)) := .cons rfl (r1.append hd)
  have hl : (Value.ref (hp.objs.size + 1) :: us ++ ds).length = ps.length := by
    have e1 := r2.length
    rw [F1.len _ _ _ _ hq] at e1
    exact e1.symm
  have few : us.length ≤ sizeLine := by
    have := Paired.length r1
    rw [sizeLine_eq]
    omega
  refine wpAny_call (PySem.HandSPX.call_own FB hT hC (PySem.W.looks_findIn I1.kIn iC) (fun self => PySem.W.bind_fn I1.kIn self tI) few (codeAny_mono
    (F1.run _ X.stack _ _ ⟨Value.ref (hp.objs.size + 1) :: us, []⟩ (Value.ref (hp.objs.size + 1) :: (us ++ ds)) _ _ (fun _ _ _ => False) (hr.make C us []) (I2.env0.make C us []) (hb _ (Value.ref (hp.objs.size + 1) :: us) I2.kIn hl) r2 hq) fun r s' hq' => ?_))
  cases r with
  | error er => exact hx pins σ _ _ er s' I2 hq'
  | ok fl =>
    cases fl with
    | ret u =>
      obtain ⟨v, H2, os2, bare2, un2, hok2, rv, ev, d, fs, ea, ed, hd1, q2⟩ := hq'
      subst ev
      obtain ⟨h2, g2, d2, t2, os'⟩ := s'
      exact ⟨rv, mk_end (raises_own T.base T.typ) I1 big kk un2 hok2 os2 bare2 ea ed hd1 q2⟩
    | next => exact False.elim hq'
    | brk => exact False.elim hq'
    | cont => exact False.elim hq'
end
/-! ### the head's look at such a class -/
def hasDB (K : PySem.W.Frag) (C : Addr) : Bool := match PySem.W.clsIn K C with
  | some cd => cd.hasDict
  | none => false
/-- Base.__init__, read off the class Base -/
def vvB (K : PySem.W.Frag) (B iid : String) : Bool := match PySem.W.findCls K (.type B) (.type "type") "__init__" with
  | some (.val (.builtin n)) => n == iid
  | _ => false
theorem vvB_ok {K : PySem.W.Frag} {B iid : String} (h : vvB K B iid = true) : PySem.W.findCls K (.type B) (.type "type") "__init__" = some (.val (.builtin iid)) := by
  unfold vvB at h
  split at h
  · rename_i n e
    rw [e, eq_of_beq h]
  · cases h
/-- what isinstance asks of an own class -/
def isB (K : PySem.W.Frag) (C : Addr) : Bool := He.eqO (PySem.W.findIn K (.ref C) "__class__") (some (some (.builtin "object.__class__"))) && (He.eqO (PySem.W.specialIn K (.builtin "object.__class__") "__get__") (some (some (.builtin "getset_descriptor.__get__"))) &&
  (decide (PySem.W.takesIn K (.builtin "object.__class__") = some true) && decide (PySem.W.mroIn K C (.type "object") = some true)))
def gxB (K : PySem.W.Frag) (C : Addr) (bmB : List Value) (nid : String) : Bool := PySem.W.excOver K C bmB && (PySem.W.excInitIn K C bmB nid && (hasDB K C &&
  (He.eqO (PySem.W.findIn K (.ref C) "__setattr__") (some (some (.builtin "object.__setattr__"))) && (decide (PySem.W.subIn K (.ref C) (.type "BaseException") = some true) &&
  (decide (PySem.W.typeIn K (.ref C) = some (.type "type")) && PySem.W.keepIn K (.ref C))))))
theorem gxB_ok {K : PySem.W.Frag} {C : Addr} {bmB : List Value} {nid : String} (h : gxB K C bmB nid = true) : Gx K C bmB nid := by
  unfold gxB at h
  simp only [Bool.and_eq_true, decide_eq_true_eq] at h
  obtain ⟨h1, h2, h3, h4, h5, h6, h7⟩ := h
  refine ⟨h1, h2, ?_, He.eqO_ok h4, h5, h6, h7⟩
  unfold hasDB at h3
  split at h3
  · rename_i cd e
    exact ⟨cd, e, h3⟩
  · cases h3
end GX
set_option Elab.async false
set_option linter.all false
set_option maxRecDepth 100000
set_option maxHeartbeats 4000000
/-! GXK: own exceptions over a base that has no __new__ of its own (KeyError: LookupError's is called). -/
namespace GXK
open PySem PySem.Spec L2 PySem.HandSPX
abbrev keT : List Value := [.type "KeyError", .type "LookupError", .type "Exception", .type "BaseException", .type "object"]
/-- what is asked of the base's own __init__ -/
structure InitF (B iid : String) (bmB : List Value) : Prop where
  entry : entryFor table iid = some Builtin.«BaseException.__init__»
  split : splitId iid = some (B, "__init__")
  kind : builtinKind iid = some .slot
  row : Manifest.signature? iid = some ⟨.positional, "*", B, .self, [⟨"args", .varPos, false⟩]⟩
  star : (B != "*") = true
  has : bmB.contains (.type B) = true
  init : Slot B "__init__" iid
/-- what is asked of the __new__ that is called -/
structure NewF (Bn nid inN : String) (bmN bmB : List Value) : Prop where
  base : ExcBaseFacts Bn nid inN bmN
  has : bmB.contains (.type Bn) = true
  noA : bmB.contains (.type "AttributeError") = false
  noN : bmB.contains (.type "NameError") = false
section
variable {prog : Program} {w : World} {M : Model} {A : Around} {E : Value → Shared → Prop} {R : Result → Shared → Prop} {h : Heap} {g : Array GenState} {d : Drawn} {t : Nat} {os : OsState}
variable {nm q : Str} {C N : Addr} {bs bm bmB bmN : List Value} {hdct : Bool} {sn : List Str} {sub : List Value} {ab : Bool} {col : Option Bool} {dd : Option Addr} {k0 k1 k2 k3 k5 : Option Value} {B Bn nid iid inN : String}
theorem new_checked (F : NewF Bn nid inN bmN bmB) (like : ∀ X : String, bm.contains (.type X) = bmB.contains (.type X)) {rest : List Value} {Q : Unit → Shared → Prop} (atC : h.get? C = some (excClassObj nm q C N bs bm hdct sn sub ab col dd k0 k1 k2 k3 k5 nid)) (post : Q () ⟨h, g, d, t, os⟩) : wpAny M A (checkBuiltinCall nid ⟨.ref C :: rest, []⟩) Q E ⟨h, g, d, t, os⟩ := by
  have yes : (Value.ref C :: bm).contains (.type Bn) = true := by rw [List.contains_cons, like, F.has, Bool.or_true]
  have hstar := F.base.noStar
  simp only [checkBuiltinCall, F.base.newKind, F.base.newSplit, F.base.newRow]
  repeat (first | refine wpAny_loadPart_at atC ?_ | (refine wpAny_isSubtype_exc atC ?_; rw [yes]) | refine wpAny_staticBase_exc atC ?_ | refine wpAny_madeBy_exc atC ?_ | simp only [bne_self_eq_false, Bool.false_eq_true, if_false] | wp_step)
  exact post
theorem init_checked (F : InitF B iid bmB) (like : ∀ X : String, bm.contains (.type X) = bmB.contains (.type X)) {e : Addr} {oe : Obj} {rest : List Value} {Q : Unit → Shared → Prop} (atC : h.get? C = some (excClassObj nm q C N bs bm hdct sn sub ab col dd k0 k1 k2 k3 k5 nid)) (ate : h.get? e = some oe) (clsC : oe.cls = .ref C) (post : Q () ⟨h, g, d, t, os⟩) : wpAny M A (checkBuiltinCall iid ⟨.ref e :: rest, []⟩) Q E ⟨h, g, d, t, os⟩ := by
  have yes : (Value.ref C :: bm).contains (.type B) = true := by rw [List.contains_cons, like, F.has, Bool.or_true]
  have hshort := F.star
  simp only [checkBuiltinCall, F.kind, F.split, F.row]
  repeat (first | (with_reducible refine wpAny_loadPart_at ate ?_; rw [clsC]) | with_reducible refine wpAny_loadPart_at atC ?_ | (with_reducible refine wpAny_isSubtype_exc atC ?_; rw [yes]) | wp_step)
  refine wpAny_onRaise ?_
  have star : ∀ (a b : String) (n : Nat), Bind.check ⟨.positional, "*", B, .self, [⟨"args", .varPos, false⟩]⟩ a b n (List.map (fun x => x.fst) ({ pos := Value.ref e :: rest } : Args).kw) = pure () := fun a b n => check_star_args _ _ _ _ _ _
  rw [star]
  exact wpAny_pure post
theorem made (F : NewF Bn nid inN bmN bmB) (like : ∀ X : String, bm.contains (.type X) = bmB.contains (.type X)) {rest : List Value} (atC : h.get? C = some (excClassObj nm q C N bs bm hdct sn sub ab col dd k0 k1 k2 k3 k5 nid))
    (post : R (.ok (.ret (.ref (h.objs.size + 1)))) ⟨(h.push (W.kdv_tup rest)).push (excO C h.objs.size), g, d, t, os⟩) (few : rest.length ≤ sizeLine) : codeAny (model prog w) A (.builtin nid ⟨.ref C :: rest, []⟩) R ⟨h, g, d, t, os⟩ := by
  have hends := F.base.ends
  have c1 : (Value.ref C :: bm).contains (.type Bn) = true := by rw [List.contains_cons, like, F.has, Bool.or_true]
  have c2 : (Value.ref C :: bm).contains (.type "AttributeError") = false := by rw [List.contains_cons, like, F.noA]; rfl
  have c3 : (Value.ref C :: bm).contains (.type "NameError") = false := by rw [List.contains_cons, like, F.noN]; rfl
  refine codeAny_builtinAt F.base.entry ?_
  unfold Builtin.«BaseException.__new__»; refine wpAt_bind ?_
  show wpAt _ _ _ (stack >>= _) _ _ _; refine wpAt_bind (wpAt_stack fun p below => wpAt_of_wpAny ?_)
  wp_walk
  refine wpAt_of_wpAny ?_
  rw [F.base.owner]
  repeat (first | with_reducible refine wpAny_madeHere_exc F.base.canon atC ?_ | with_reducible refine wpAny_loadPart_at atC ?_ | (with_reducible refine wpAny_isSubtype_exc atC ?_; first | rw [c1] | rw [c2] | rw [c3]) | wp_step)
  show R _ _
  rw [Heap.size_push]
  exact post
theorem type_called (F : NewF Bn nid inN bmN bmB) (like : ∀ X : String, bm.contains (.type X) = bmB.contains (.type X)) {rest : List Value} {fI : Addr} {Q : Fin → Shared → Prop} (atC : h.get? C = some (excClassObj nm q C N bs bm hdct sn sub ab col dd k0 k1 k2 k3 k5 nid))
    (hi : W.Looks (model prog w) h (typeLookup (.ref C) "__init__") (some (.ref fI))) (hb : ∀ self, W.Looks (model prog w) h (bindSpecial (.ref fI) self) (.ref fI, [self])) (few : rest.length ≤ sizeLine)
    (run : codeAny (model prog w) A (.call (.ref fI) ⟨.ref (h.objs.size + 1) :: rest, []⟩) (fun r s' => match r with | .ok (.ret v) => v = .none ∧ Q (.done (.ret (.ref (h.objs.size + 1)))) s' | .ok _ => False | .error e => E e s') ⟨(h.push (W.kdv_tup rest)).push (excO C h.objs.size), g, d, t, os⟩) :
    wpAny (model prog w) A (Builtin.«type.__call__» ⟨.ref C :: rest, []⟩) Q E ⟨h, g, d, t, os⟩ := by
  repeat (first | with_reducible refine wpAny_loadPart_at atC ?_ | with_reducible refine wpAny_madeBy_exc atC ?_ | wp_step)
  refine codeAny_call_builtin_code (Code.quiet_builtin _ F.base.quiet) (new_checked F like atC ?_)
  refine made F like atC ?_ few
  show wpAny _ _ _ _ _ _
  have keep : ∀ b o, h.get? b = some o → ((h.push (W.kdv_tup rest)).push (excO C h.objs.size)).get? b = some o := fun b o e => Heap.get?_push_of_some _ (Heap.get?_push_of_some _ e)
  have atC1 := keep _ _ atC
  have ate : ((h.push (W.kdv_tup rest)).push (excO C h.objs.size)).get? (h.objs.size + 1) = some (excO C h.objs.size) := by heap_get
  have own : (Value.ref C :: bm).contains (.ref C) = true := by simp
  have look := hi.keeps keep
  have bnd := (hb (.ref (h.objs.size + 1))).keeps keep
  unfold isInstance
  repeat (first | with_reducible refine wpAny_loadPart_at ate ?_ | (with_reducible refine wpAny_isSubtype_exc atC1 ?_; rw [own]) | wp_step)
  show wpAny _ _ (typeLookup (.ref C) _) _ _ _; refine look.at ?_
  refine wpAny_holding (wpAny_bind (bnd.at ?_)); refine wpAny_bind (wpAny_call (codeAny_mono run fun r s' z => ?_))
  rcases r with e | (v | _ | _ | _) <;> first | exact z | exact z.elim | skip
  obtain ⟨rfl, z⟩ := z
  first | exact wpAny_pure (wpAny_pure z) | (wp_walk; exact z)
theorem called (F : NewF Bn nid inN bmN bmB) (like : ∀ X : String, bm.contains (.type X) = bmB.contains (.type X)) {rest : List Value} {fI : Addr} (atC : h.get? C = some (excClassObj nm q C N bs bm hdct sn sub ab col dd k0 k1 k2 k3 k5 nid))
    (hi : W.Looks (model prog w) h (typeLookup (.ref C) "__init__") (some (.ref fI))) (hb : ∀ self, W.Looks (model prog w) h (bindSpecial (.ref fI) self) (.ref fI, [self])) (few : rest.length ≤ sizeLine)
    (run : codeAny (model prog w) (A.under (.builtin "type.__call__" ⟨.ref C :: rest, []⟩)) (.call (.ref fI) ⟨.ref (h.objs.size + 1) :: rest, []⟩) (W.InitBack (h.objs.size + 1) R) ⟨(h.push (W.kdv_tup rest)).push (excO C h.objs.size), g, d, t, os⟩) : codeAny (model prog w) A (.call (.ref C) ⟨rest, []⟩) R ⟨h, g, d, t, os⟩ := by
  have f1 := tc_lookup
  have f2 := tc_bind (.ref C)
  have hTy : (⟨h, g, d, t, os⟩ : Shared).TypeIs (.ref C) "type" := ⟨_, atC, rfl⟩
  refine codeAny_of_tree ?_
  show wpAny _ _ (callAny (.ref C) _) _ _ _
  repeat (any_goals (first | assumption | with_reducible refine wpAny_loadPart_at atC ?_ | wp_step))
  refine ⟨rfl, codeAny_call_builtin_at (Code.quiet_builtin _ (by decide +kernel)) entry_typeCall (wpAny_check_type_call_sub atC (type_called F like atC hi hb few (codeAny_mono run fun r s' z => ?_)))⟩
  rcases r with e | (v | _ | _ | _) <;> exact z
theorem inited (F : InitF B iid bmB) (like : ∀ X : String, bm.contains (.type X) = bmB.contains (.type X)) {e t0 : Addr} {rest : List Value} (atC : h.get? C = some (excClassObj nm q C N bs bm hdct sn sub ab col dd k0 k1 k2 k3 k5 nid)) (ate : h.get? e = some (excO C t0)) (few : rest.length ≤ sizeLine)
    (post : ∀ h' t1, (∀ b o, b ≠ e → h.get? b = some o → h'.get? b = some o) → h'.get? e = some (excO C t1) → R (.ok (.ret .none)) ⟨h', g, d, t, os⟩) : codeAny (model prog w) A (.call (.builtin iid) ⟨.ref e :: rest, []⟩) R ⟨h, g, d, t, os⟩ := by
  refine codeAny_call_builtin F.init.plain F.entry (init_checked F like atC ate rfl ?_)
  wp_walk
  refine post _ h.objs.size (fun b o hb ho => by rw [Heap.get?_update_other _ _ (Ne.symm hb)]; exact Heap.get?_push_of_some _ ho) ?_
  rw [Heap.get?_update_self _ (Heap.get?_push_of_some _ ate) rfl]; rfl
end
open PyProof.Rows
section
variable {X : Cx} {pins : List (Addr × Obj)} {σ : L2.St} {H : Hp} {s : Shared} {a C : Addr} {E : Value → Shared → Prop} {A : Around} {B Bn nid iid inN : String} {bmB bmN : List Value}
theorem base_init {us : List Value} {Q : Value → Shared → Prop} (FB : InitF B iid bmB) (T : GX.Gx X.K C bmB nid) (I : Inv X pins σ H s) (e : H a = some (exo a C none)) (few : us.length ≤ sizeLine) (post : ∀ s', Inv X pins σ H s' → Q .none s') : wpAny (model X.prog X.w) A (call (.builtin iid) (.ref a :: us)) Q E s := by
  obtain ⟨nm, N, qn, bs, bm, hdct, sn, sub, ab, col, dd, k0, k1, k2, k3, k5, hC, hT⟩ := PySem.W.excInit_of I.kIn T.made
  obtain ⟨t1, at1⟩ := exo_at I.hok e
  obtain ⟨hp, g, d, t, os⟩ := s
  refine wpAny_call (inited FB hT hC at1 few fun h' t2 kp hx => ?_)
  have J := I.write (t' := t) (x := a) (e := a) (o := exo a C none) (by rw [e]; exact True.intro) (.inl rfl) kp ⟨_, hx⟩ (exo_ok hx)
  have same : upd H a (exo a C none) = H := funext fun b => by
    by_cases hb : b = a
    · rw [hb, upd_same, e]
    · rw [upd_ne hb]
  rw [same] at J
  exact post _ J
end
section
variable {X : Cx} {e : Expr} {es : List Expr} {ta : TA} {p p1 p2 pos : Pos} {B Bn nid iid inN : String} {bmB bmN : List Value} {x : Str}
/-- Base.__init__(self, ..) -/
theorem pe_bi {pl : Sem Bool} (FB : InitF B iid bmB) (hg : Gl X x) (hm : X.mg x = none) (hv : bootBuiltins x = some (.type B)) (ty : typeOf (.type B) = pure (.type "type"))
    (vV : PySem.W.findCls X.K (.type B) (.type "type") "__init__" = some (.val (.builtin iid))) (hb : PySem.W.handedIn (.builtin iid) = true) (hst : Manifest.isStub B = false) (ha : PA X (e :: es) ta)
    (hc : eval (.Call (.Attribute (.Name x p1) "__init__" p2) (e :: es) [] pos) X.env = (do
      let ov ← eval (.Name x p1) X.env
      standAt p2.atName
      let (f, first) ← holding [ov] (getMethod ov "__init__" pl)
      callWith pos f first (backTo pos (starEach (e :: es) X.env)) (backToKw pos (keywordEach [] X.env))) := by rfl)
    (hn : x ≠ "__name__" := by decide) (hd : (x == ("__debug__" : Str)) = false := by decide)
    (he : starEach (e :: es) X.env = (false, eval e X.env) :: starEach es X.env := by rfl) (hpl : (backTo pos (starEach es X.env)).any (·.1) = false := by rfl) :
    PE X (.Call (.Attribute (.Name x p1) "__init__" p2) (e :: es) [] pos) (GX.tBi X.K bmB nid ta) := by
  refine ⟨fun pins s σ H Q I h => ?_⟩
  refine PySem.W.methodCall_KW (ld_blt I hg hm hv ?_ hn hd) hc
  obtain ⟨m, fr⟩ := I.fr
  refine PySem.W.method_type fr I.ok.mod.kin ty hst vV hb ?_
  show wpAny _ _ (callWith pos (Value.builtin iid) [] (backTo pos (starEach (e :: es) X.env)) []) _ _ _
  refine PyProof.Rows.callWith_method1 (thn (ha.run pos pins _ σ H _ (I.tok _) h) fun us s1 hh => ?_) he hpl
  obtain ⟨vs, H1, I1, r1, a, C, ws, ev, hl, T, ea, q⟩ := hh
  subst ev
  cases r1 with
  | @cons _ u0 _ ur ra rw' =>
    obtain rfl : u0 = Value.ref a := ra
    have few : ur.length ≤ sizeLine := by
      have := Paired.length rw'
      rw [sizeLine_eq]
      omega
    exact base_init FB T I1 ea few fun s' J => ⟨.non, H1, J, rfl, q⟩
/-- C(e, ..) as what is raised -/
theorem pmk {CX : CXT} {C fI : Addr} {k : Nat} {fd : FuncData} {ps : List Str} {sp : Sp} {ds : List Value} {dvs : List V} (FB : NewF Bn nid inN bmN bmB) (T : GX.Gx X.K C bmB nid) (iC : PySem.W.findIn X.K (.ref C) "__init__" = some (some (.ref fI)))
    (tI : PySem.W.typeIn X.K (.ref fI) = some (.type "function"))
    (F1 : FnOk X.prog X.w X.K X.mg X.base CX k fI fd ps sp) (hr : Room (k + 1) X.A) (hb : Binds X.K fd ps ds) (hd : Vals dvs ds) (hx : Passes CX X (fun _ _ _ => False)) (hg : Gl X x) (hm : X.mg x = some (.ref C)) (ha : PA X (e :: es) ta)
    (hdb : (x == ("__debug__" : Str)) = false := by decide) (he : starEach (e :: es) X.env = (false, eval e X.env) :: starEach es X.env := by rfl) (hpl : (backTo pos (starEach es X.env)).any (·.1) = false := by rfl) :
    PMk X (.Call (.Name x p) (e :: es) [] pos) (tMkO C sp dvs ta) := by
  intro pins s σ H Q I h
  refine wpAny_Call_Name_kw (ld_glob I hg hm ?_ hdb)
  refine PySem.W.callWith_K (h₀ := X.base) I.ok.mod.kin T.keep (thn (ha.run pos pins s σ H _ I h) fun us s1 hh => ?_) he hpl
  obtain ⟨vs, H1, I1, r1, hz, q1⟩ := hh
  refine ⟨I1.kIn, ?_⟩
  show wpAny _ _ (call (.ref C) us) _ _ _
  obtain ⟨nm, N, qn, bs, bm, hdct, sn, sub, ab, col, dd, k0, k1, k2, k3, k5, hC, hT⟩ := PySem.W.excInit_of I1.kIn T.made
  obtain ⟨hp, g, dr, tk, os⟩ := s1
  have big : hp.objs.size ≤ hp.objs.size + 1 := Nat.le_succ _
  have hq := q1 (hp.objs.size + 1) (I1.hok.fresh big)
  have kk : ∀ b o, hp.get? b = some o → ((hp.push (PySem.W.kdv_tup us)).push (excO C hp.objs.size)).get? b = some o := fun b o z => Heap.get?_push_of_some _ (Heap.get?_push_of_some _ z)
  have there : ((hp.push (PySem.W.kdv_tup us)).push (excO C hp.objs.size)).get? (hp.objs.size + 1) = some (excO C hp.objs.size) := by heap_get
  have I2 := I1.laid (t' := tk) (a := hp.objs.size + 1) (o := exo (hp.objs.size + 1) C none) (h' := (hp.push (PySem.W.kdv_tup us)).push (excO C hp.objs.size)) kk big (exo_ok there)
  have r2 : Vals (V.ref (hp.objs.size + 1) :: (vs ++ dvs)) (Value.ref (hp.objs.size + 1) :: (us ++ ds)) := .cons rfl (r1.append hd)
  have hl : (Value.ref (hp.objs.size + 1) :: us ++ ds).length = ps.length := by
    have e1 := r2.length
    rw [F1.len _ _ _ _ hq] at e1
    exact e1.symm
  have few : us.length ≤ sizeLine := by
    have := Paired.length r1
    rw [sizeLine_eq]
    omega
  refine wpAny_call (called FB hT hC (PySem.W.looks_findIn I1.kIn iC) (fun self => PySem.W.bind_fn I1.kIn self tI) few (codeAny_mono
    (F1.run _ X.stack _ _ ⟨Value.ref (hp.objs.size + 1) :: us, []⟩ (Value.ref (hp.objs.size + 1) :: (us ++ ds)) _ _ (fun _ _ _ => False) (hr.make C us []) (I2.env0.make C us []) (hb _ (Value.ref (hp.objs.size + 1) :: us) I2.kIn hl) r2 hq) fun r s' hq' => ?_))
  cases r with
  | error er => exact hx pins σ _ _ er s' I2 hq'
  | ok fl =>
    cases fl with
    | ret u =>
      obtain ⟨v, H2, os2, bare2, un2, hok2, rv, ev, d, fs, ea, ed, hd1, q2⟩ := hq'
      subst ev
      obtain ⟨h2, g2, d2, t2, os'⟩ := s'
      exact ⟨rv, mk_end (raises_own T.base T.typ) I1 big kk un2 hok2 os2 bare2 ea ed hd1 q2⟩
    | next => exact False.elim hq'
    | brk => exact False.elim hq'
    | cont => exact False.elim hq'
end
/-! KeyError -/
theorem initKE : InitF "KeyError" "KeyError.__init__" keT where
  entry := excClass_KeyError.initEntry
  split := by decide +kernel
  kind := by decide +kernel
  row := by kernel_rfl
  star := by decide +kernel
  has := by decide +kernel
  init := excClass_KeyError.init
theorem newKE : NewF "LookupError" "LookupError.__new__" "LookupError.__init__" [.type "LookupError", .type "Exception", .type "BaseException", .type "object"] keT where
  base := PySem.F.excBase_LookupError
  has := by decide +kernel
  noA := by decide +kernel
  noN := by decide +kernel
theorem storeKE : StoreFacts "KeyError" keT "object.__setattr__" "object" where
  mro := by kernel_rfl
  slot := .of (owner := "object") (n := "__setattr__") (by rw [typeLookup_type, builtinLookup_eq_fast]; kernel_rfl) (by decide +kernel) (by decide +kernel) (by decide +kernel) (by first | exact .inl (by decide +kernel) | exact .inr (by decide +kernel)) (by rw [isSubtype_type]; kernel_rfl)
  entry := PySem.F.store_ZeroDivisionError.entry
  kind := by decide +kernel
  split := by decide +kernel
  hasOwner := by decide +kernel
  args := fun a b c => by unfold argsOk; kernel_rfl
  passes := fun self => by kernel_rfl
theorem typKE : typeOf (.type "KeyError") = pure (.type "type") := by kernel_rfl
end GXK
set_option Elab.async false
set_option linter.all false
set_option maxRecDepth 100000
set_option maxHeartbeats 0
namespace K60
open PySem PySem.Spec PyProof.Rows L2
def fa : List He.Fa := [.glo "is_whole", .glo "is_between", .glo "is_name", .glo "is_order", .glo "is_rule", .glo "common_part", .glo "same_share", .glo "total", .glo "in_order", .glo "check_even", .glo "turned", .glo "joined", .glo "after", .glo "lesser", .glo "above_nought", .glo "paid_off", .glo "whole_credits", .glo "sums_of_sets", .glo "without_one", .glo "best_takings", .glo "lots", .glo "settled_lot", .glo "settled", .glo "names_of", .glo "first_memory", .glo "least_driver", .glo "driver_by", .glo "parts_behind", .glo "line_behind", .glo "rounds_behind", .glo "memory_behind", .glo "_law_held", .glo "_law_draw", .glo "_law_names", .glo "_law_pair", .glo "_law_day", .glo "_law_rule", .glo "_law_handed", .glo "_law_signs", .glo "_law_gone_right", .glo "law", .free "isinstance", .free "int", .free "bool", .free "abs", .free "list", .free "range", .free "len", .free "str", .free "all", .free "tuple", .free "set", .free "zip", .free "min", .free "enumerate", .free "sorted", .free "dict", .free "max", .glo "Share", .cls "Share", .mkr "Share", .glo "Turns", .cls "Turns", .mkr "Turns", .noat "Share" "top", .noat "Share" "bottom", .noat "Turns" "rule", .noat "Turns" "held", .noat "Turns" "kept", .noat "Turns" "past", .meth "Share" "plus", .meth "Share" "less", .meth "Share" "below", .meth "Share" "__eq__", .meth "Turns" "check_riders", .meth "Turns" "who", .meth "Turns" "ride", .meth "Turns" "stands", .int "LONGEST_NAME" 8, .int "MOST_NAMES" 8, .int "MOST_GRAIN" 1000, .int "RIDE_PARTS" 840, .int "MOST_UNEVEN" 10]
abbrev R : PySem.W.OpenRow := PySem.W.OpenLaw.row PySem.Challenge.rw_rideturns_k60_whole_paid_off_one_by_one
abbrev loose : List Str := [("_wall" : Str), ("NoKind" : Str), ("Nought" : Str), ("Uneven" : Str), ("NoName" : Str), ("TooMany" : Str), ("NoRule" : Str), ("LONGEST_NAME" : Str), ("is_whole" : Str), ("is_between" : Str), ("is_name" : Str), ("common_part" : Str), ("Share" : Str), ("same_share" : Str), ("total" : Str), ("in_order" : Str), ("check_even" : Str), ("joined" : Str), ("turned" : Str), ("MOST_UNEVEN" : Str), ("after" : Str), ("lesser" : Str), ("above_nought" : Str), ("paid_off" : Str), ("whole_credits" : Str), ("sums_of_sets" : Str), ("without_one" : Str), ("best_takings" : Str), ("lots" : Str), ("settled_lot" : Str), ("settled" : Str), ("MOST_NAMES" : Str), ("MOST_GRAIN" : Str), ("is_order" : Str), ("is_rule" : Str), ("RIDE_PARTS" : Str), ("names_of" : Str), ("first_memory" : Str), ("least_driver" : Str), ("driver_by" : Str), ("parts_behind" : Str), ("line_behind" : Str), ("rounds_behind" : Str), ("memory_behind" : Str), ("Turns" : Str), ("_law_held" : Str), ("_law_draw" : Str), ("_law_names" : Str), ("_law_pair" : Str), ("_law_day" : Str), ("_law_rule" : Str), ("_law_handed" : Str), ("_law_signs" : Str), ("_law_gone_right" : Str)]
def tf : List He.Defn := [("least_driver", none)]

def xk (K : PySem.W.Frag) : Bool := (fun K => He.eqO (PySem.W.findIn K (.ref (He.ga K "Share")) "__ne__") (some (some (.builtin "object.__ne__"))) && GX.isB K (He.ga K "Share")) K
noncomputable def eN (w : World) (os : PySem.OsState) : Option PySem.W.SharedT := HandSHeadRun.endF (HandSHeadRun.stepQ (HandSHeadRun.denQ HandSHeadRun.tabQ) R.prog w) 8000 R.prog w os
abbrev Kf (s : PySem.W.SharedT) : PySem.W.Frag := He.frT (HandSHeadRun.getT s) (He.asD (HandSHeadRun.getT s) 6)
theorem runB (w : World) (os : PySem.OsState) : (eN w os).map (fun s => fa.all fun f => f.ok (Kf s)) = some true := by
  kernel_rfl
section
open PySem.W PySem.Calls
theorem runL (w : World) (os : PySem.OsState) : (eN w os).map (fun s => HandSHeadRun.looksF R.prog (boot_heap w.params) s.abs) = some true := by
  kernel_rfl
end
section
open PySem.W PySem.Calls
theorem runS (w : World) (os : PySem.OsState) : (eN w os).map (fun s => HandSHeadRun.seenQ (PySem.W.view R.prog [62]) loose (importedModules R.prog.main.body) (fun s => xlAt (PySem.W.view R.prog [62]) [] s && recOk R.toRowW.records s) s.abs) = some (openGood (PySem.W.view R.prog [62]) loose) := by
  kernel_rfl
end
theorem runC (w : World) (os : PySem.OsState) : (eN w os).map (fun s => (fn.all fun d => d.ok (Kf s), (xk (Kf s) && He.tabsB (HandSHeadRun.getT s) tf (Kf s)), fn.map fun d => He.fnW (Kf s) d.at_)) = some (true, true, fn.map He.DefD.val) := by
  kernel_rfl
end K60
set_option linter.all false
namespace KM
/-- the signed common part -/
def sg (t b : Int) : Int := if b < 0 then -(Int.gcd t b : Int) else (Int.gcd t b : Int)
/-- a fraction in lowest terms -/
def low (t b : Int) : Int × Int := (t.fdiv (sg t b), b.fdiv (sg t b))
theorem gcd_pos {t b : Int} (h : b ≠ 0) : 0 < Int.gcd t b := Int.gcd_pos_of_ne_zero_right t h
theorem sg_ne {t b : Int} (h : b ≠ 0) : sg t b ≠ 0 := by
  have := gcd_pos (t := t) h
  unfold sg
  split <;> omega
theorem sg_dvd_left (t b : Int) : sg t b ∣ t := by
  unfold sg
  split
  · exact Int.neg_dvd.mpr (Int.gcd_dvd_left ..)
  · exact Int.gcd_dvd_left ..
theorem sg_dvd_right (t b : Int) : sg t b ∣ b := by
  unfold sg
  split
  · exact Int.neg_dvd.mpr (Int.gcd_dvd_right ..)
  · exact Int.gcd_dvd_right ..
theorem low_top {t b : Int} : sg t b * (low t b).1 = t := by
  show sg t b * t.fdiv (sg t b) = t
  rw [Int.fdiv_eq_ediv_of_dvd (sg_dvd_left t b)]
  exact Int.mul_ediv_cancel' (sg_dvd_left t b)
theorem low_bot {t b : Int} : sg t b * (low t b).2 = b := by
  show sg t b * b.fdiv (sg t b) = b
  rw [Int.fdiv_eq_ediv_of_dvd (sg_dvd_right t b)]
  exact Int.mul_ediv_cancel' (sg_dvd_right t b)
theorem sg_abs (t b : Int) : (sg t b).natAbs = Int.gcd t b := by
  unfold sg
  split <;> simp
theorem low_pos {t b : Int} (h : b ≠ 0) : 0 < (low t b).2 := by
  have e := low_bot (t := t) (b := b)
  have g := gcd_pos (t := t) h
  by_cases hb : b < 0
  · have hs : sg t b < 0 := by unfold sg; rw [if_pos hb]; omega
    refine Int.lt_of_not_ge fun hc => ?_
    have := Int.mul_nonneg_of_nonpos_of_nonpos (Int.le_of_lt hs) hc
    omega
  · have hs : 0 < sg t b := by unfold sg; rw [if_neg hb]; omega
    refine Int.lt_of_not_ge fun hc => ?_
    have := Int.mul_nonpos_of_nonneg_of_nonpos (Int.le_of_lt hs) hc
    omega
theorem low_cop {t b : Int} (h : b ≠ 0) : Int.gcd (low t b).1 (low t b).2 = 1 := by
  have e : Int.gcd (sg t b * (low t b).1) (sg t b * (low t b).2) = (sg t b).natAbs * Int.gcd (low t b).1 (low t b).2 := Int.gcd_mul_left ..
  rw [low_top, low_bot, sg_abs] at e
  have g := gcd_pos (t := t) h
  have : Int.gcd t b * Int.gcd (low t b).1 (low t b).2 = Int.gcd t b * 1 := by omega
  exact Nat.eq_of_mul_eq_mul_left g this
theorem low_id {t b : Int} (hb : 0 < b) (h : Int.gcd t b = 1) : low t b = (t, b) := by
  have e : sg t b = 1 := by unfold sg; rw [if_neg (by omega), h]; rfl
  unfold low
  rw [e]
  simp
theorem low_low {t b : Int} (h : b ≠ 0) : low (low t b).1 (low t b).2 = low t b := low_id (low_pos h) (low_cop h)
/-- the bottom stays: nothing is taken out -/
theorem low_same {t b : Int} (hb : 0 < b) (h : (low t b).2 = b) : low t b = (t, b) := by
  have e := low_bot (t := t) (b := b)
  rw [h] at e
  have e1 : sg t b * b = 1 * b := by omega
  have e2 := Int.eq_of_mul_eq_mul_right (Int.ne_of_gt hb) e1
  have e3 := low_top (t := t) (b := b)
  rw [e2] at e3
  refine Prod.ext ?_ h
  show (low t b).1 = t
  omega
theorem dvd_le {x y : Int} (h : x * y ≠ 0) : y.natAbs ≤ (x * y).natAbs := by
  rw [Int.natAbs_mul]
  have : x ≠ 0 := fun z => h (by rw [z, Int.zero_mul])
  exact Nat.le_mul_of_pos_left _ (by omega)
theorem low_top_le {t b : Int} (h : b ≠ 0) : (low t b).1.natAbs ≤ t.natAbs := by
  by_cases ht : t = 0
  · subst ht
    have e := low_top (t := 0) (b := b)
    rcases Int.mul_eq_zero.mp e with z | z
    · exact absurd z (sg_ne h)
    · rw [z]; exact Nat.le_refl _
  · have e := low_top (t := t) (b := b)
    have := dvd_le (x := sg t b) (y := (low t b).1) (by omega)
    rw [e] at this
    exact this
theorem low_bot_le {t b : Int} (h : b ≠ 0) : (low t b).2.natAbs ≤ b.natAbs := by
  have e := low_bot (t := t) (b := b)
  have := dvd_le (x := sg t b) (y := (low t b).2) (by omega)
  rw [e] at this
  exact this
theorem sg_le {t b : Int} (h : b ≠ 0) : (sg t b).natAbs ≤ b.natAbs := by
  have e := low_bot (t := t) (b := b)
  have := dvd_le (x := (low t b).2) (y := sg t b) (by rw [Int.mul_comm]; omega)
  rw [Int.mul_comm, e] at this
  exact this
/-- Euclid's turn over whole numbers from 0 on -/
theorem gcd_turn {a b : Int} (ha : 0 ≤ a) (hb : 0 < b) : Int.gcd b (a % b) = Int.gcd a b := by
  obtain ⟨m, rfl⟩ := Int.eq_ofNat_of_zero_le ha
  obtain ⟨n, rfl⟩ := Int.eq_ofNat_of_zero_le (Int.le_of_lt hb)
  show Nat.gcd (Int.natAbs (n : Int)) (Int.natAbs ((m : Int) % (n : Int))) = Nat.gcd (Int.natAbs (m : Int)) (Int.natAbs (n : Int))
  rw [← Int.natCast_emod, Int.natAbs_natCast, Int.natAbs_natCast, Int.natAbs_natCast, Nat.gcd_comm n, Nat.gcd_comm m n]
  exact (Nat.gcd_rec n m).symm
theorem gcd_succ (a : Int) : Int.gcd a (a + 1) = 1 := by
  have : Int.gcd (a + 1) a = Int.gcd 1 a := by
    rw [Int.add_comm, Int.gcd_add_self_left]
  rw [Int.gcd_comm, this, Int.gcd_comm]
  simp
end KM
set_option Elab.async false
set_option linter.all false
set_option maxRecDepth 100000
set_option maxHeartbeats 4000000
namespace K60
open PySem PySem.Spec PyProof.Rows L2
/-- a def of the text -/
abbrev Dn (K : PySem.W.Frag) (d : He.DefD) (f : Addr) (fd : FuncData) : Prop := FunD K d.name d.qual d.params d.body d.scope (d.dvs K) (d.kws K) f fd
/-- what the module's names are -/
structure Bl (mg : Str → Option Value) : Prop where
  isi : mg "isinstance" = none
  int : mg "int" = none
  bool : mg "bool" = none
  abs : mg "abs" = none
  list : mg "list" = none
  range : mg "range" = none
  len : mg "len" = none
theorem op_fdW {X : Cx} : OpR X (binaryOp .FloorDiv) (rI (fun _ j => j ≠ 0 ∧ j.natAbs.log2 < 9000) fun i j => .int (i.fdiv j)) := opI fun _ _ _ _ _ _ _ hc q => floordiv_int hc.1 q (.inl (PyProof.noPylong_of_log2 hc.2))
/-- the fields of a Share -/
def shF (q : Int × Int) : List (Str × V) := putF "bottom" (.int q.2) (putF "top" (.int q.1) [])
theorem tb : ¬ (("top" : Str) = "bottom") := by decide +kernel
theorem shF_top (q : Int × Int) : (shF q).lookup ("top" : Str) = some (.int q.1) := by
  unfold shF
  rw [lookup_putF, if_neg tb, lookup_putF, if_pos rfl]
theorem shF_bot (q : Int × Int) : (shF q).lookup ("bottom" : Str) = some (.int q.2) := by
  unfold shF
  rw [lookup_putF, if_pos rfl]
theorem shF_no (q : Int × Int) {m : Str} (h1 : ¬ m = "bottom") (h2 : ¬ m = "top") : (shF q).lookup m = none := by
  unfold shF
  rw [lookup_putF, if_neg h1, lookup_putF, if_neg h2]
  all_goals rfl
/-- a Share stands at p -/
def Sh (C : Addr) (H : Hp) (p : Addr) (q : Int × Int) : Prop := ∃ dx, H p = some (.ins C dx (shF q))
/-- small enough, the bottom above nought -/
def Bd (n : Nat) (q : Int × Int) : Prop := q.1.natAbs < 2 ^ n ∧ 0 < q.2 ∧ q.2.natAbs < 2 ^ n
theorem Sh.keep {C : Addr} {H H' : Hp} {p : Addr} {q : Int × Int} (s : Same H H') (h : Sh C H p q) : Sh C H' p q := let ⟨dx, e⟩ := h; ⟨dx, s _ _ e⟩
theorem log_lt {j : Int} {n : Nat} (h : j.natAbs < 2 ^ n) (h0 : 0 < n) (h9 : n ≤ 9000) : j.natAbs.log2 < 9000 := Nat.lt_of_lt_of_le (PySem.Flt.log2_lt_of h0 h) h9
/-- what is known of the class -/
structure Cl (K : PySem.W.Frag) (mg : Str → Option Value) (C : Addr) : Prop where
  cl : Cls K C
  nt : NoAttr K C "top"
  nb : NoAttr K C "bottom"
  g : mg "Share" = some (.ref C)
section
variable {P : Program} {w : World} {K : PySem.W.Frag} {mg : Str → Option Value} {base : Heap} {f C : Addr} {fd : FuncData}

def spWhole : Sp := fun vs H Q _ => ∃ n : Int, vs = [.int n] ∧ Q (.bl true) H
theorem ok_whole (F : Dn K d_is_whole f fd) (b : Bl mg) : FnOk P w K mg base CX0 1 f fd ["thing"] spWhole := by
  refine F.ok sc_is_whole (fun vs H Q E h => ?_) (fun cdv A outer s H vs Q E hr h => ?_)
  · obtain ⟨n, rfl, _⟩ := h
    rfl
  · obtain ⟨n, rfl, hQ⟩ := h
    refine ⟨_, PSs.nox (pss_one (ps_ret (pe_and
      (pe_callB call_isi rfl b.isi boot_isinstance (pa_cons (pv 0) (pa_cons (pe_bltn (v := .ty "int") rfl b.int boot_int rfl) pa_nil)))
      (pe_one (pe_not (pe_callB call_isi rfl b.isi boot_isinstance (pa_cons (pv 0) (pa_cons (pe_bltn (v := .ty "bool") rfl b.bool boot_bool rfl) pa_nil)))))))), ?_⟩
    refine ⟨_, rfl, _, _, _, _, true, rfl, ClsV.ty _, TyX.base (TyOf.int n), kit_ty (by decide +kernel), true, rfl, ?_⟩
    refine iteT ?_
    exact ⟨_, rfl, _, _, _, _, false, rfl, ClsV.ty _, TyX.base (TyOf.int n), kit_ty (by decide +kernel), false, rfl, hQ⟩
def spGcd : Sp := fun vs H Q _ => ∃ x y : Int, vs = [.int x, .int y] ∧ Q (.int (Int.gcd x y : Int)) H
theorem abs_eq (x : Int) : (if x < 0 then -x else x) = (x.natAbs : Int) := by split <;> omega
theorem ok_gcd (F : Dn K d_common_part f fd) (b : Bl mg) : FnOk P w K mg base CX0 1 f fd ["one", "other"] spGcd := by
  refine F.ok sc_common_part (fun vs H Q E h => ?_) (fun cdv A outer s H vs Q E hr h => ?_)
  · obtain ⟨x, y, rfl, _⟩ := h
    rfl
  · obtain ⟨x, y, rfl, hQ⟩ := h
    refine ⟨_, PSs.nox (pss_cons (ps_set (i := 0) sc_common_part.nd rfl (.inl rfl) (pe_callB call_abs rfl b.abs boot_abs (pa_cons (pv 0) pa_nil)))
      (pss_cons (ps_set (i := 1) sc_common_part.nd rfl (.inl rfl) (pe_callB call_abs rfl b.abs boot_abs (pa_cons (pv 1) pa_nil)))
      (pss_cons (ps_while PassesOwn.never (pt_cmpR op_ne (pv 1) pe_int (nomark _)) (pss_one (ps_par (i := 0) (j := 1) rfl sc_common_part.nd rfl rfl (by decide) rfl rfl (pa_cons (pv 1) (pa_cons (pe_op op_mod (pv 0) (pv 1)) pa_nil)) rfl)))
      (pss_one (ps_ret (pv 0)))))), ?_⟩
    refine ⟨_, rfl, _, rfl, _, rfl, _, rfl, while_by (fun σ H2 => H2 = H ∧ ∃ a c : Int, σ = [some (.int a), some (.int c)] ∧ 0 ≤ a ∧ 0 ≤ c ∧ Int.gcd a c = Int.gcd x y)
      (fun σ _ => match σ with | [_, some (.int c)] => c.toNat | _ => 0) ⟨rfl, _, _, rfl, ?_, ?_, ?_⟩ ?_ ?_⟩
    · split <;> omega
    · split <;> omega
    · rw [abs_eq, abs_eq]
      rfl
    · rintro σ H2 ⟨rfl, a, c, rfl, ha, hc, hg⟩
      refine ⟨_, rfl, rfl, _, rfl, ?_⟩
      by_cases h0 : c = 0
      · subst h0
        refine iteNS rfl ?_
        refine ⟨_, rfl, ?_⟩
        have e : Int.gcd x y = a.natAbs := by rw [← hg]; simp
        have e2 : (Int.gcd x y : Int) = a := by omega
        rw [e2] at hQ
        exact hQ
      · have hne : (!decide (V.int c = V.int 0)) = true := by simp [h0]
        rw [hne]
        refine iteT ?_
        have hp : 0 < c := by omega
        refine ⟨_, rfl, _, rfl, _, rfl, _, _, rfl, rfl, hp, _, _, rfl, ⟨rfl, _, _, rfl, hc, Int.emod_nonneg _ h0, ?_⟩, ?_⟩
        · rw [KM.gcd_turn ha hp, hg]
        · show (a % c).toNat < c.toNat
          have h1 := Int.emod_nonneg a h0
          have h2 := Int.emod_lt_of_pos a hp
          omega
    · rintro σ H2 Q1 Q2 hm ⟨v, hv, h1, k, hk, q⟩
      exact ⟨v, hv, h1, k, hk, hm _ _ q⟩
end
end K60
set_option Elab.async false
set_option linter.all false
set_option maxRecDepth 100000
set_option maxHeartbeats 4000000
namespace K60
open PySem PySem.Spec PyProof.Rows L2
open C8 (Cal Mak Met pe_c pe_mk pe_mt pe_mt0)
section
variable {P : Program} {w : World} {K : PySem.W.Frag} {mg : Str → Option Value} {base : Heap} {f C : Addr} {fd : FuncData}
abbrev CalW (P : Program) (w : World) (K : PySem.W.Frag) (mg : Str → Option Value) (base : Heap) : Prop := Cal P w K mg base 1 "is_whole" spWhole []
abbrev CalG (P : Program) (w : World) (K : PySem.W.Frag) (mg : Str → Option Value) (base : Heap) : Prop := Cal P w K mg base 1 "common_part" spGcd []
/-- __init__: a Share in lowest terms -/
def spInit (C : Addr) : Sp := fun vs H Q _ => ∃ (p dx : Addr) (t b : Int) (n : Nat), vs = [.ref p, .int t, .int b] ∧ b ≠ 0 ∧ b.natAbs < 2 ^ n ∧ 0 < n ∧ n ≤ 9000 ∧ H p = some (.ins C dx []) ∧
  ∀ H', (∀ a o, a ≠ p → H a = some o → H' a = some o) → H' p = some (.ins C dx (shF (KM.low t b))) → Q .non H'
theorem ok_init (F : Dn K d_Share_init f fd) (cW : CalW P w K mg base) (cG : CalG P w K mg base) (T : Cl K mg C) : FnOk P w K mg base CX0 2 f fd ["self", "top", "bottom"] (spInit C) := by
  refine F.ok sc_Share_init (fun vs H Q E h => ?_) (fun cdv A outer s H vs Q E hr h => ?_)
  · obtain ⟨p, dx, t, b, n, rfl, _⟩ := h
    rfl
  · obtain ⟨p, dx, t, b, n, rfl, hb, hn, hn0, hn9, hp, hQ⟩ := h
    refine ⟨_, PSs.nox (pss_cons (ps_for PassesOwn.never rfl (pi_tup (pe_tup (pa_cons (pv 1) (pa_cons (pv 2) pa_nil)))) (pg_name (i := 3) sc_Share_init.nd rfl (.inl rfl))
        (pss_one (ps_if (pt_not (pt_val (pe_c cW hr (by decide) rfl (pa_cons (pv 3) pa_nil)))) pss_never pss_nil)))
      (pss_cons (ps_if (pt_cmpR op_eq (pv 2) pe_int (nomark _)) pss_never pss_nil)
      (pss_cons (ps_set (i := 4) sc_Share_init.nd rfl (.inl rfl) (pe_c cG hr (by decide) rfl (pa_cons (pv 1) (pa_cons (pv 2) pa_nil))))
      (pss_cons (ps_if (pt_cmpR op_lt (pv 2) pe_int (nomark _)) (pss_one (ps_set (i := 4) sc_Share_init.nd rfl (.inl rfl) (pe_un un_neg (pv 4)))) pss_nil)
      (pss_cons (ps_fld (pv 0) (pe_op op_fdW (pv 1) (pv 4)) rfl)
      (pss_one (ps_fld (pv 0) (pe_op op_fdW (pv 2) (pv 4)) rfl))))))), ?_⟩
    refine ⟨_, rfl, _, rfl, by show 2 ≤ sizeLine; decide, fun u hu => ?_⟩
    have npu : p ≠ u := ne_of_none hp hu
    refine ⟨u, rfl, ⟨_, SqT.of upd_same⟩, for_tup (K := K) (xs := [.int t, .int b]) (fun i σ H2 => H2 = upd H u (.tup [.int t, .int b]) ∧ ∃ v, σ = [some (.ref p), some (.int t), some (.int b), v, none])
      ⟨rfl, none, rfl⟩ (fun i σ H2 _ h => by rw [h.1]; exact SqT.of upd_same) ?_ ?_⟩
    · rintro i y σ H2 hi ⟨rfl, v, rfl⟩
      have hy : ∃ n : Int, y = .int n := by
        match i, hi with
        | 0, e => exact ⟨t, (Option.some.inj e).symm⟩
        | 1, e => exact ⟨b, (Option.some.inj e).symm⟩
      obtain ⟨n, rfl⟩ := hy
      refine ⟨_, rfl, n, rfl, true, rfl, ?_⟩
      refine iteF ?_
      exact ⟨rfl, _, rfl⟩
    · rintro σ H2 ⟨rfl, v, rfl⟩
      refine ⟨_, rfl, rfl, _, rfl, ?_⟩
      have hb0 : decide (V.int b = V.int 0) = false := by simp [hb]
      rw [hb0]
      refine iteF ?_
      refine ⟨_, rfl, _, rfl, t, b, rfl, ?_⟩
      refine ⟨_, rfl, _, _, rfl, rfl, _, rfl, ?_⟩
      have hs9 : (KM.sg t b).natAbs.log2 < 9000 := log_lt (Nat.lt_of_le_of_lt (KM.sg_le hb) hn) hn0 hn9
      have fin : ∀ c : Int, c = KM.sg t b → ∀ v, tSeq (sFld K (tVar 0) (tOp (rI (fun _ j => j ≠ 0 ∧ j.natAbs.log2 < 9000) fun i j => .int (i.fdiv j)) (tVar 1) (tVar 4)) "top") (sFld K (tVar 0) (tOp (rI (fun _ j => j ≠ 0 ∧ j.natAbs.log2 < 9000) fun i j => .int (i.fdiv j)) (tVar 2) (tVar 4)) "bottom")
          { nx := fun _ H' => Q .non H', rt := Q } [some (.ref p), some (.int t), some (.int b), v, some (.int c)] (upd H u (.tup [.int t, .int b])) := by
        rintro c rfl v
        refine ⟨_, rfl, _, rfl, _, _, rfl, rfl, ⟨KM.sg_ne hb, hs9⟩, _, rfl, p, C, dx, _, rfl, (by rw [upd_ne npu]; exact hp), T.cl, T.nt, (by show 0 < 1000; decide), ?_⟩
        refine ⟨_, rfl, _, rfl, _, _, rfl, rfl, ⟨KM.sg_ne hb, hs9⟩, _, rfl, p, C, dx, _, rfl, upd_same, T.cl, T.nb, (by show 1 < 1000; decide), ?_⟩
        refine hQ _ (fun a o ha e => ?_) upd_same
        rw [upd_ne ha, upd_ne ha, upd_ne (ne_of_none e hu)]
        exact e
      refine ite2 (fun h => ?_) (fun h => ?_)
      · have h' : b < 0 := of_decide_eq_true h
        refine ⟨_, rfl, _, rfl, ?_⟩
        exact fin _ (by unfold KM.sg; rw [if_pos h']) _
      · have h' : ¬ b < 0 := fun z => h (decide_eq_true z)
        exact fin _ (by unfold KM.sg; rw [if_neg h']) _
end
end K60
set_option Elab.async false
set_option linter.all false
set_option maxRecDepth 100000
set_option maxHeartbeats 4000000
namespace K60
open PySem PySem.Spec PyProof.Rows L2
open C8 (Cal Mak Met pe_c pe_mk pe_mt pe_mt0)
section
variable {P : Program} {w : World} {K : PySem.W.Frag} {mg : Str → Option Value} {base : Heap} {f C : Addr} {fd : FuncData}
abbrev MakS (P : Program) (w : World) (K : PySem.W.Frag) (mg : Str → Option Value) (base : Heap) (C : Addr) : Prop := Mak P w K mg base 2 "Share" C (spInit C) []
/-- Share(t, b): what is left to show -/
theorem mk_at {H1 : Hp} {t b : Int} {n : Nat} {Q : VK} (hb : b ≠ 0) (hn : b.natAbs < 2 ^ n) (hn0 : 0 < n) (hn9 : n ≤ 9000)
    (hQ : ∀ r H', Same H1 H' → H1 r = none → Sh C H' r (KM.low t b) → Q (.ref r) H') :
    ∀ x dx, H1 x = none → H1 dx = none → dx ≠ x → spInit C (.ref x :: ([V.int t, V.int b] ++ [])) (upd (upd H1 dx (.own x)) x (.ins C dx [])) (fun v H2 => v = .non ∧ Q (.ref x) H2) E0 := by
  intro x dx nx nd ne
  refine ⟨x, dx, t, b, n, rfl, hb, hn, hn0, hn9, upd_same, fun H' kp hp => ⟨rfl, hQ x H' (fun a o e => ?_) nx ⟨dx, hp⟩⟩⟩
  refine kp a o (ne_of_none e nx) ?_
  rw [upd_ne (ne_of_none e nx), upd_ne (ne_of_none e nd)]
  exact e
theorem mul_pos_ne {a b : Int} (ha : 0 < a) (hb : 0 < b) : a * b ≠ 0 := fun z => by
  have := Int.mul_pos ha hb
  omega
def two (n : Nat) (a b : Int × Int) : Prop := Bd n a ∧ Bd n b ∧ 0 < n ∧ n ≤ 4000

def sp_plus (C : Addr) : Sp := fun vs H Q _ => ∃ (p q : Addr) (a b : Int × Int) (n : Nat), vs = [.ref p, .ref q] ∧ Sh C H p a ∧ Sh C H q b ∧ two n a b ∧
  ∀ r H', Same H H' → H r = none → Sh C H' r (KM.low (a.1 * b.2 + b.1 * a.2) (a.2 * b.2)) → Q (.ref r) H'
theorem ok_plus (F : Dn K d_Share_plus f fd) (M : MakS P w K mg base C) (T : Cl K mg C) : FnOk P w K mg base CX0 4 f fd ["self", "other"] (sp_plus C) := by
  refine F.ok sc_Share_plus (fun vs H Q E h => ?_) (fun cdv A outer s H vs Q E hr h => ?_)
  · obtain ⟨p, q, a, b, n, rfl, _⟩ := h
    rfl
  · obtain ⟨p, q, a, b, n, rfl, ⟨dp, hp⟩, ⟨dq, hq⟩, ⟨ba, bb, hn0, hn9⟩, hQ⟩ := h
    refine ⟨_, PSs.nox (pss_one (ps_ret (pe_mk M hr (by decide) rfl (pa_cons (pe_op op_add (pe_op op_mulW (pe_fld (pv 0) rfl) (pe_fld (pv 1) rfl)) (pe_op op_mulW (pe_fld (pv 1) rfl) (pe_fld (pv 0) rfl)))
      (pa_cons (pe_op op_mulW (pe_fld (pv 0) rfl) (pe_fld (pv 1) rfl)) pa_nil))))), ?_⟩
    refine ⟨_, rfl, p, C, dp, _, _, rfl, hp, T.cl, T.nt, shF_top a, _, rfl, q, C, dq, _, _, rfl, hq, T.cl, T.nb, shF_bot b, _, _, rfl, rfl, wide_mul ba.1 bb.2.2 hn0 hn0 (by omega), ?_⟩
    refine ⟨_, rfl, q, C, dq, _, _, rfl, hq, T.cl, T.nt, shF_top b, _, rfl, p, C, dp, _, _, rfl, hp, T.cl, T.nb, shF_bot a, _, _, rfl, rfl, wide_mul bb.1 ba.2.2 hn0 hn0 (by omega), _, _, rfl, rfl, ?_⟩
    refine ⟨_, rfl, p, C, dp, _, _, rfl, hp, T.cl, T.nb, shF_bot a, _, rfl, q, C, dq, _, _, rfl, hq, T.cl, T.nb, shF_bot b, _, _, rfl, rfl, wide_mul ba.2.2 bb.2.2 hn0 hn0 (by omega), ?_⟩
    exact mk_at (n := n + n) (mul_pos_ne ba.2.1 bb.2.1) (wide_lt ba.2.2 bb.2.2) (by omega) (by omega) hQ

def sp_less (C : Addr) : Sp := fun vs H Q _ => ∃ (p q : Addr) (a b : Int × Int) (n : Nat), vs = [.ref p, .ref q] ∧ Sh C H p a ∧ Sh C H q b ∧ two n a b ∧
  ∀ r H', Same H H' → H r = none → Sh C H' r (KM.low (a.1 * b.2 - b.1 * a.2) (a.2 * b.2)) → Q (.ref r) H'
theorem ok_less (F : Dn K d_Share_less f fd) (M : MakS P w K mg base C) (T : Cl K mg C) : FnOk P w K mg base CX0 4 f fd ["self", "other"] (sp_less C) := by
  refine F.ok sc_Share_less (fun vs H Q E h => ?_) (fun cdv A outer s H vs Q E hr h => ?_)
  · obtain ⟨p, q, a, b, n, rfl, _⟩ := h
    rfl
  · obtain ⟨p, q, a, b, n, rfl, ⟨dp, hp⟩, ⟨dq, hq⟩, ⟨ba, bb, hn0, hn9⟩, hQ⟩ := h
    refine ⟨_, PSs.nox (pss_one (ps_ret (pe_mk M hr (by decide) rfl (pa_cons (pe_op op_sub (pe_op op_mulW (pe_fld (pv 0) rfl) (pe_fld (pv 1) rfl)) (pe_op op_mulW (pe_fld (pv 1) rfl) (pe_fld (pv 0) rfl)))
      (pa_cons (pe_op op_mulW (pe_fld (pv 0) rfl) (pe_fld (pv 1) rfl)) pa_nil))))), ?_⟩
    refine ⟨_, rfl, p, C, dp, _, _, rfl, hp, T.cl, T.nt, shF_top a, _, rfl, q, C, dq, _, _, rfl, hq, T.cl, T.nb, shF_bot b, _, _, rfl, rfl, wide_mul ba.1 bb.2.2 hn0 hn0 (by omega), ?_⟩
    refine ⟨_, rfl, q, C, dq, _, _, rfl, hq, T.cl, T.nt, shF_top b, _, rfl, p, C, dp, _, _, rfl, hp, T.cl, T.nb, shF_bot a, _, _, rfl, rfl, wide_mul bb.1 ba.2.2 hn0 hn0 (by omega), _, _, rfl, rfl, ?_⟩
    refine ⟨_, rfl, p, C, dp, _, _, rfl, hp, T.cl, T.nb, shF_bot a, _, rfl, q, C, dq, _, _, rfl, hq, T.cl, T.nb, shF_bot b, _, _, rfl, rfl, wide_mul ba.2.2 bb.2.2 hn0 hn0 (by omega), ?_⟩
    exact mk_at (n := n + n) (mul_pos_ne ba.2.1 bb.2.1) (wide_lt ba.2.2 bb.2.2) (by omega) (by omega) hQ
end
end K60
set_option Elab.async false
set_option linter.all false
set_option maxRecDepth 100000
set_option maxHeartbeats 4000000
namespace K60
open PySem PySem.Spec PyProof.Rows L2
open C8 (Cal Mak Met pe_c pe_mk pe_mt pe_mt0)
/-- the held dict's pairs -/
def hd0 (l : Addr) (n m : Int) : List (Key × V) := [(Sum.inr "cells", .ref l), (Sum.inr "at", .int n), (Sum.inr "left", .int m)]
theorem hd_cells (l : Addr) (n m : Int) : valV (hd0 l n m) (Sum.inr "cells") = some (.ref l) := valV_pos rfl
theorem k1 : ¬ (("cells" : Str) = "at") := by decide +kernel
theorem k2 : ¬ (("cells" : Str) = "left") := by decide +kernel
theorem k3 : ¬ (("at" : Str) = "left") := by decide +kernel
theorem k1' : ¬ (("at" : Str) = "cells") := by decide +kernel
theorem k3' : ¬ (("left" : Str) = "at") := by decide +kernel
theorem inr_ne {x y : Str} (h : ¬ x = y) : ¬ ((Sum.inr x : Key) = Sum.inr y) := fun z => h (Sum.inr.inj z)
theorem hd_at (l : Addr) (n m : Int) : valV (hd0 l n m) (Sum.inr "at") = some (.int n) := (valV_neg (inr_ne k1)).trans (valV_pos rfl)
theorem hd_left (l : Addr) (n m : Int) : valV (hd0 l n m) (Sum.inr "left") = some (.int m) := (valV_neg (inr_ne k2)).trans ((valV_neg (inr_ne k3)).trans (valV_pos rfl))
theorem put_at (l : Addr) (n m k : Int) : putK (hd0 l n m) (Sum.inr "at") (.int k) = hd0 l k m := by
  unfold putK hd0
  simp [k1, k3']
theorem put_left (l : Addr) (n m k : Int) : putK (hd0 l n m) (Sum.inr "left") (.int k) = hd0 l n k := by
  unfold putK hd0
  simp [k2, k3]
theorem hd_merge (l : Addr) (n m : Int) : mergeK [] (hd0 l n m) = hd0 l n m := by
  simp [mergeK, hd0, putK, k1, k2, k3]
/-- the held dict at h, good for c draws more -/
def Held (H : Hp) (h : Addr) (c : Nat) : Prop := ∃ (l : Addr) (ns : List Int) (n m : Int), H h = some (.dK (hd0 l n m)) ∧ H l = some (.lst (ns.map V.int)) ∧ 0 ≤ n ∧ n + c ≤ 1000000000
theorem Held.weak {H : Hp} {h : Addr} {c c' : Nat} (hc : c' ≤ c) (x : Held H h c) : Held H h c' := by
  obtain ⟨l, ns, n, m, h1, h2, h3, h4⟩ := x
  exact ⟨l, ns, n, m, h1, h2, h3, by omega⟩
/-- all but h is kept -/
def Kp (h : Addr) (H H' : Hp) : Prop := (∀ b o, H b = some o → b ≠ h → H' b = some o) ∧ ∀ l n m, H h = some (.dK (hd0 l n m)) → ∃ n' m', H' h = some (.dK (hd0 l n' m'))
theorem Kp.refl (h : Addr) (H : Hp) : Kp h H H := ⟨fun _ _ e _ => e, fun _ n m e => ⟨n, m, e⟩⟩
theorem Kp.trans {h : Addr} {H H1 H2 : Hp} (a : Kp h H H1) (b : Kp h H1 H2) : Kp h H H2 := ⟨fun c o e n => b.1 c o (a.1 c o e n) n, fun l n m e => let ⟨n', m', e'⟩ := a.2 l n m e; b.2 l n' m' e'⟩
theorem Kp.same {h : Addr} {H H1 : Hp} (a : Same H H1) : Kp h H H1 := ⟨fun c o e _ => a c o e, fun _ n m e => ⟨n, m, a _ _ e⟩⟩
theorem hd_inj {l l' : Addr} {n m n' m' : Int} (h : HO.dK (hd0 l n m) = HO.dK (hd0 l' n' m')) : l = l' := by
  injection h with h
  injection h with h _
  injection h with _ h
  injection h
/-- the held dict put anew -/
theorem Kp.put {h l : Addr} {H : Hp} {n m : Int} (n' m' : Int) (e : H h = some (.dK (hd0 l n m))) : Kp h H (upd H h (.dK (hd0 l n' m'))) := by
  refine ⟨fun c o z ne => by rw [upd_ne ne]; exact z, fun l' n1 m1 z => ⟨n', m', ?_⟩⟩
  rw [upd_same, hd_inj (Option.some.inj (z.symm.trans e))]
theorem Held.same {H H' : Hp} {h : Addr} {c : Nat} (s : Same H H') (x : Held H h c) : Held H' h c := by
  obtain ⟨l, ns, n, m, h1, h2, h3, h4⟩ := x
  exact ⟨l, ns, n, m, s _ _ h1, s _ _ h2, h3, h4⟩
theorem same_new {H : Hp} {p : Addr} {o : HO} (h : H p = none) : Same H (upd H p o) := fun a u e => by
  rw [upd_ne (ne_of_none e h)]
  exact e
theorem dpInts {K : PySem.W.Frag} {H : Hp} : ∀ ns : List Int, DpAll K H (ns.map V.int) (ns.map PyData.int)
  | [] => .nil
  | n :: ns => .cons (.int n) (dpInts ns)
section
variable {P : Program} {w : World} {K : PySem.W.Frag} {mg : Str → Option Value} {base : Heap} {f C : Addr} {fd : FuncData}
def spHeld (K : PySem.W.Frag) : Sp := fun vs H Q _ => ∃ (a : Addr) (ns : List Int), vs = [.ref a] ∧ SqL K H a (ns.map V.int) ∧ ns.length ≤ 63 ∧ ∀ h H', Same H H' → H h = none → Held H' h 900000000 → Q (.ref h) H'
theorem ok_held (F : Dn K d_l_held f fd) (b : Bl mg) : FnOk P w K mg base CX0 1 f fd ["_law_script"] (spHeld K) := by
  refine F.ok sc_l_held (fun vs H Q E h => ?_) (fun cdv A outer s H vs Q E hr h => ?_)
  · obtain ⟨a, ns, rfl, _⟩ := h
    rfl
  · obtain ⟨a, ns, rfl, hS, hlen, hQ⟩ := h
    refine ⟨_, PSs.nox (pss_one (ps_ret (pe_disp (pps_cons pe_str (pe_callTy call_list_of rfl b.list boot_list (pa_cons (pe_slice sl_list (pv 0) po_none (po_some pe_int)) pa_nil)) (pps_cons pe_str pe_int (pps_cons pe_str pe_int pps_nil))) rfl rfl (by simp) (by decide)))), ?_⟩
    intro h hh
    have sS : SqL K (upd H h (.dK [])) a (ns.map V.int) := (same_new hh).seq hS
    refine ⟨_, rfl, 63, rfl, a, _, rfl, sS, fun p hp => ⟨p, _, rfl, Or.inl (SqL.of upd_same), fun l hl => ?_⟩⟩
    have nhp : h ≠ p := ne_of_none upd_same hp
    have nhl : h ≠ l := ne_of_none (by rw [upd_ne nhp]; exact upd_same) hl
    refine ⟨by rw [upd_ne nhl, upd_ne nhp, upd_same], hd0 l 0 0, rfl, by show 3 ≤ 15; decide, ?_⟩
    have e : cutV (ns.map V.int) none (some 63) = (ns.take 63).map V.int := by
      unfold cutV
      simp [HT.sIx, List.map_take]
    refine hQ h _ (fun c o z => ?_) hh ⟨l, ns.take 63, 0, 0, ?_, ?_, by decide, by decide⟩
    · have z1 : c ≠ h := ne_of_none z hh
      have z2 : (upd H h (.dK [])) c = some o := by rw [upd_ne z1]; exact z
      have z3 : c ≠ p := ne_of_none z2 hp
      have z4 : c ≠ l := ne_of_none (by rw [upd_ne z3]; exact z2) hl
      rw [upd_ne z1, upd_ne z4, upd_ne z3]
      exact z2
    · rw [upd_same, hd_merge]
    · rw [upd_ne nhl.symm, upd_same, ← e]

def spDraw : Sp := fun vs H Q _ => ∃ (h : Addr) (c : Nat) (k : Int), vs = [.ref h, .int k] ∧ Held H h (c + 1) ∧ 0 < k ∧ k < 1073741824 ∧
  ∀ r H', 0 ≤ r → r < k → Held H' h c → Kp h H H' → Q (.int r) H'
theorem cb_l {i j : Int} (h1 : -(2 ^ 64) < i) (h2 : i < 2 ^ 64) : CMul i j := .inl ⟨h1, h2⟩
theorem cb_r {i j : Int} (h1 : -(2 ^ 64) < j) (h2 : j < 2 ^ 64) : CMul i j := .inr ⟨h1, h2⟩
theorem ok_draw (F : Dn K d_l_draw f fd) (b : Bl mg) : FnOk P w K mg base CX0 1 f fd ["_law_held_here", "_law_many"] spDraw := by
  refine F.ok sc_l_draw (fun vs H Q E h => ?_) (fun cdv A outer s H vs Q E hr h => ?_)
  · obtain ⟨h, c, k, rfl, _⟩ := h
    rfl
  · obtain ⟨h, c, k, rfl, ⟨l, ns, n, m, hh, hl, hn, hc⟩, hk0, hk1, hQ⟩ := h
    have hu := hu_of hr
    have hu64 : (A.deeper (envOfC d_l_draw.qual d_l_draw.scope s.heap.objs.size f cdv)).units + 64 < cLine := by have := hr.un; omega
    have nlh : l ≠ h := ne_of hl hh (by intro z; cases z)
    refine ⟨_, PSs.nox (pss_cons (ps_if (pt_cmpR op_gt (pe_dget hu (pv 0) pe_str (fun _ _ => rfl)) pe_int (nomark _))
         (pss_cons (ps_set (i := 2) sc_l_draw.nd rfl (.inl rfl) (pe_op op_mod (pe_dget hu (pv 0) pe_str (fun _ _ => rfl)) (pv 1)))
         (pss_cons (ps_dput hu (pv 0) pe_str (pe_op op_fdiv (pe_dget hu (pv 0) pe_str (fun _ _ => rfl)) (pv 1)) rfl)
         (pss_one (ps_ret (pv 2))))) pss_nil)
      (pss_cons (ps_set (i := 3) sc_l_draw.nd rfl (.inl rfl) (pe_dget hu (pv 0) pe_str (fun _ _ => rfl)))
      (pss_cons (ps_dput hu (pv 0) pe_str (pe_op op_add (pv 3) pe_int) rfl)
      (C8.pss_cut (ps_set (i := 4) sc_l_draw.nd rfl (.inl rfl) (pe_ifExp (pt_cmpR (op_neD hu64) (pe_dget hu (pv 0) pe_str (fun _ _ => rfl)) (pe_lst pa_nil) (nomark _))
        (pe_ix ix_list (pe_dget hu (pv 0) pe_str (fun _ _ => rfl)) (pe_op op_mod (pv 3) (pe_callB call_len_seq rfl b.len boot_len (pa_cons (pe_dget hu (pv 0) pe_str (fun _ _ => rfl)) pa_nil))) (fun _ _ => rfl)) pe_int))
      (pss_cons (ps_if (PW.pt (pw_and (pt_cmpR op_ge (pv 4) (pe_op op_pow pe_int pe_int) (nomark _)) (pw_and1 (pt_cmpR op_lt (pv 3) (pe_callB call_len_seq rfl b.len boot_len (pa_cons (pe_dget hu (pv 0) pe_str (fun _ _ => rfl)) pa_nil)) (nomark _)))))
         (pss_cons (ps_dput hu (pv 0) pe_str (pe_op op_fdiv (pe_op op_sub (pv 4) (pe_op op_pow pe_int pe_int)) (pv 1)) rfl)
         (pss_one (ps_ret (pe_op op_mod (pe_op op_sub (pv 4) (pe_op op_pow pe_int pe_int)) (pv 1))))) pss_nil)
      (pss_cons (ps_set (i := 5) sc_l_draw.nd rfl (.inl rfl) (pe_op op_mod (pe_op op_add (pe_op op_add (pe_op op_add (pe_op op_mul (pe_op op_mod (pv 4) pe_int) pe_int) (pe_op op_mul (pe_op op_mul pe_int (pv 3)) (pv 3))) (pe_op op_mul pe_int (pv 3))) pe_int) pe_int))
      (pss_cons (ps_set (i := 5) sc_l_draw.nd rfl (.inl rfl) (pe_op op_mod (pe_op op_add (pe_op op_add (pe_op op_mul (pv 5) pe_int) (pe_op op_fdiv (pv 5) pe_int)) pe_int) pe_int))
      (pss_one (ps_ret (pe_op op_mod (pe_op op_fdiv (pv 5) pe_int) (pv 1))))))))))), ?_⟩
    have cM : ∀ x y : Int, 0 < y → (0 ≤ x % y ∧ x % y < y) := fun x y hy => ⟨Int.emod_nonneg _ (by omega), Int.emod_lt_of_pos _ hy⟩
    refine ⟨_, rfl, h, _, rfl, hd_left l n m ▸ DGet.k (k := Sum.inr "left") hh, _, _, rfl, rfl, _, rfl, ?_⟩
    refine ite2 (fun h1 => ?_) (fun h1 => ?_)
    · refine ⟨_, rfl, h, _, rfl, hd_left l n m ▸ DGet.k (k := Sum.inr "left") hh, _, rfl, _, _, rfl, rfl, hk0, ?_⟩
      refine ⟨_, rfl, h, _, rfl, hd_left l n m ▸ DGet.k (k := Sum.inr "left") hh, _, rfl, _, _, rfl, rfl, ⟨hk0, hk1⟩, _, rfl, h, _, rfl, DPut.k (k := Sum.inr "left") hh (by show 3 < sizeLine; decide), ?_⟩
      refine ⟨_, rfl, hQ _ _ (cM _ _ hk0).1 (cM _ _ hk0).2 ⟨l, ns, n, m / k, ?_, ?_, hn, by omega⟩ ?_⟩
      · rw [upd_same, put_left]
      · rw [upd_ne nlh]; exact hl
      · rw [put_left]; exact Kp.put _ _ hh
    · refine ⟨_, rfl, h, _, rfl, hd_at l n m ▸ DGet.k (k := Sum.inr "at") hh, ?_⟩
      refine ⟨_, rfl, _, _, rfl, rfl, _, rfl, h, _, rfl, DPut.k (k := Sum.inr "at") hh (by show 3 < sizeLine; decide), ?_⟩
      rw [put_at]
      have hh1 : (upd H h (.dK (hd0 l (n + 1) m))) h = some (.dK (hd0 l (n + 1) m)) := upd_same
      have hl1 : (upd H h (.dK (hd0 l (n + 1) m))) l = some (.lst (ns.map V.int)) := by rw [upd_ne nlh]; exact hl
      have kp1 : Kp h H (upd H h (.dK (hd0 l (n + 1) m))) := Kp.put _ _ hh
      refine ⟨fun σ' H' => ∃ (cell : Int), σ' = [some (.ref h), some (.int k), none, some (.int n), some (.int cell), none] ∧ H' h = some (.dK (hd0 l (n + 1) m)) ∧ H' l = some (.lst (ns.map V.int)) ∧ Kp h H H', ?_, ?_⟩
      · refine ⟨_, rfl, h, _, rfl, hd_cells l (n + 1) m ▸ DGet.k (k := Sum.inr "cells") hh1, (by show 0 ≤ sizeLine; decide), fun e he => ?_⟩
        have nhe : h ≠ e := ne_of_none hh1 he
        have nle : l ≠ e := ne_of_none hl1 he
        have hh2 : (upd (upd H h (.dK (hd0 l (n + 1) m))) e (.lst [])) h = some (.dK (hd0 l (n + 1) m)) := by rw [upd_ne nhe]; exact hh1
        have hl2 : (upd (upd H h (.dK (hd0 l (n + 1) m))) e (.lst [])) l = some (.lst (ns.map V.int)) := by rw [upd_ne nle]; exact hl1
        have kp2 : Kp h H (upd (upd H h (.dK (hd0 l (n + 1) m))) e (.lst [])) := kp1.trans (Kp.same (same_new he))
        refine ⟨.list (ns.map .int), .list [], Dp.lst (SqL.of hl2) (dpInts ns), Dp.lst (SqL.of upd_same) .nil, PySem.W.ke_shaped_ints ns, by decide, _, rfl, ?_⟩
        cases ns with
        | nil => exact iteF ⟨0, rfl, hh2, hl2, kp2⟩
        | cons z zs =>
          refine iteT ?_
          have hlen : (0 : Int) < (((z :: zs).map V.int).length : Int) := by simp
          refine ⟨_, rfl, h, _, rfl, hd_cells l (n + 1) m ▸ DGet.k (k := Sum.inr "cells") hh2, _, rfl, _, rfl, h, _, rfl, hd_cells l (n + 1) m ▸ DGet.k (k := Sum.inr "cells") hh2, l, _, rfl, Or.inl (SqL.of hl2), _, _, rfl, rfl, hlen, ?_⟩
          obtain ⟨q, hq⟩ := Int.eq_ofNat_of_zero_le (cM n _ hlen).1
          have hq2 := (cM n _ hlen).2
          rw [hq] at hq2
          have hq3 : q < (z :: zs).length := by rw [List.length_map] at hq2; omega
          refine ⟨l, _, _, .int ((z :: zs)[q]), rfl, rfl, SqL.of hl2, (by rw [hq]; exact atI_nat (by rw [List.getElem?_map, List.getElem?_eq_getElem hq3]; rfl)), ?_⟩
          exact ⟨_, rfl, hh2, hl2, kp2⟩
      · rintro σ' H' ⟨cell, rfl, hh2, hl2, kp2⟩
        have stay : ∀ m', Held (upd H' h (.dK (hd0 l (n + 1) m'))) h c := fun m' => ⟨l, ns, n + 1, m', upd_same, by rw [upd_ne nlh]; exact hl2, by omega, by omega⟩
        have stay0 : Held H' h c := ⟨l, ns, n + 1, m, hh2, hl2, by omega, by omega⟩
        have last : ∀ D : Ends, D.rt = Q → tSeq (tAsg (tOp (rI (fun _ j => 0 < j) fun i j => .int (i % j)) (tOp (rI0 fun i j => .int (i + j)) (tOp (rI0 fun i j => .int (i + j)) (tOp (rI0 fun i j => .int (i + j))
            (tOp (rI CMul fun i j => .int (i * j)) (tOp (rI (fun _ j => 0 < j) fun i j => .int (i % j)) (tVar 4) (tC (.int 2147483587))) (tC (.int 40692))) (tOp (rI CMul fun i j => .int (i * j)) (tOp (rI CMul fun i j => .int (i * j)) (tC (.int 7907)) (tVar 3)) (tVar 3)))
            (tOp (rI CMul fun i j => .int (i * j)) (tC (.int 104729)) (tVar 3))) (tC (.int 17))) (tC (.int 2147483629))) (gName 5))
          (tSeq (tAsg (tOp (rI (fun _ j => 0 < j) fun i j => .int (i % j)) (tOp (rI0 fun i j => .int (i + j)) (tOp (rI0 fun i j => .int (i + j)) (tOp (rI CMul fun i j => .int (i * j)) (tVar 5) (tC (.int 48271))) (tOp (rI CDiv fun i j => .int (i / j)) (tVar 5) (tC (.int 127)))) (tC (.int 31))) (tC (.int 2147483647))) (gName 5))
          (tRet (tOp (rI (fun _ j => 0 < j) fun i j => .int (i % j)) (tOp (rI CDiv fun i j => .int (i / j)) (tVar 5) (tC (.int 89))) (tVar 1)))) D [some (.ref h), some (.int k), none, some (.int n), some (.int cell), none] H' := by
          intro D hD
          refine ⟨_, rfl, _, _, rfl, rfl, (by decide : (0 : Int) < 2147483587), _, _, rfl, rfl, cb_r (by decide) (by decide), _, rfl, _, _, rfl, rfl, cb_l (by decide) (by decide), _, rfl, _, _, rfl, rfl, cb_r (by omega) (by omega), _, _, rfl, rfl, ?_⟩
          refine ⟨_, rfl, _, _, rfl, rfl, cb_l (by decide) (by decide), _, _, rfl, rfl, _, _, rfl, rfl, _, _, rfl, rfl, (by decide : (0 : Int) < 2147483629), ?_⟩
          refine ⟨_, rfl, _, _, rfl, rfl, cb_r (by decide) (by decide), _, rfl, _, _, rfl, rfl, ⟨by decide, by decide⟩, _, _, rfl, rfl, _, _, rfl, rfl, _, _, rfl, rfl, (by decide : (0 : Int) < 2147483647), ?_⟩
          refine ⟨_, rfl, _, _, rfl, rfl, ⟨by decide, by decide⟩, _, rfl, _, _, rfl, rfl, hk0, ?_⟩
          rw [hD]
          exact hQ _ _ (cM _ _ hk0).1 (cM _ _ hk0).2 stay0 kp2
        refine ⟨_, rfl, _, _, rfl, rfl, ⟨by decide, by decide, by decide⟩, _, _, rfl, rfl, _, rfl, ?_⟩
        refine ite2 (fun g1 => ?_) (fun g1 => iteF (last _ rfl))
        refine ⟨_, rfl, _, rfl, h, _, rfl, hd_cells l (n + 1) m ▸ DGet.k (k := Sum.inr "cells") hh2, l, _, rfl, Or.inl (SqL.of hl2), _, _, rfl, rfl, _, rfl, ?_⟩
        refine ite2 (fun g2 => ?_) (fun g2 => last _ rfl)
        refine ⟨_, rfl, _, _, rfl, rfl, ⟨by decide, by decide, by decide⟩, _, _, rfl, rfl, _, rfl, _, _, rfl, rfl, ⟨hk0, hk1⟩, _, rfl, h, _, rfl, DPut.k (k := Sum.inr "left") hh2 (by show 3 < sizeLine; decide), ?_⟩
        refine ⟨_, rfl, _, _, rfl, rfl, ⟨by decide, by decide, by decide⟩, _, _, rfl, rfl, _, rfl, _, _, rfl, rfl, hk0, ?_⟩
        rw [put_left]
        refine hQ _ _ (cM _ _ hk0).1 (cM _ _ hk0).2 (stay _) (kp2.trans (Kp.put _ _ hh2))
end
end K60
set_option linter.all false
namespace KM
/-- top and bottom of a rational number -/
def pr (r : Rat) : Int × Int := (r.num, (r.den : Int))
theorem pr_inj {r s : Rat} (h : pr r = pr s) : r = s := by
  have h1 : r.num = s.num := congrArg Prod.fst h
  have h2 : (r.den : Int) = (s.den : Int) := congrArg Prod.snd h
  rw [← Rat.num_divInt_den r, ← Rat.num_divInt_den s, h1, h2]
theorem den_ne (r : Rat) : (r.den : Int) ≠ 0 := by
  have := r.den_nz
  omega
theorem den_pos (r : Rat) : 0 < (r.den : Int) := by
  have := r.den_nz
  omega
theorem low_eq {t b : Int} (h : b ≠ 0) : low t b = pr (Rat.divInt t b) := by
  have hp := low_pos (t := t) h
  have hc := low_cop (t := t) h
  obtain ⟨d, hd⟩ := Int.eq_ofNat_of_zero_le (Int.le_of_lt hp)
  have hd0 : d ≠ 0 := by
    intro z
    rw [z] at hd
    omega
  have hcop : (low t b).1.natAbs.Coprime d := by
    have : Int.gcd (low t b).1 (low t b).2 = 1 := hc
    rw [hd] at this
    exact this
  have e1 : Rat.divInt (low t b).1 (d : Int) = Rat.divInt t b := by
    rw [Rat.divInt_eq_divInt_iff (by omega) h, ← hd]
    have h1 := low_top (t := t) (b := b)
    have h2 := low_bot (t := t) (b := b)
    calc (low t b).1 * b = (low t b).1 * (sg t b * (low t b).2) := by rw [h2]
      _ = sg t b * (low t b).1 * (low t b).2 := by rw [← Int.mul_assoc, Int.mul_comm (low t b).1]
      _ = t * (low t b).2 := by rw [h1]
  have e2 : ({ num := (low t b).1, den := d, den_nz := hd0, reduced := hcop } : Rat) = Rat.divInt t b := by rw [Rat.mk_eq_divInt, e1]
  rw [← e2]
  exact Prod.ext rfl hd
theorem pr_plus (r s : Rat) : low ((pr r).1 * (pr s).2 + (pr s).1 * (pr r).2) ((pr r).2 * (pr s).2) = pr (r + s) := by
  show low (r.num * s.den + s.num * r.den) (r.den * s.den) = _
  rw [low_eq (Int.mul_ne_zero (den_ne r) (den_ne s)), ← Rat.divInt_add_divInt _ _ (den_ne r) (den_ne s), Rat.num_divInt_den, Rat.num_divInt_den]
theorem pr_less (r s : Rat) : low ((pr r).1 * (pr s).2 - (pr s).1 * (pr r).2) ((pr r).2 * (pr s).2) = pr (r - s) := by
  show low (r.num * s.den - s.num * r.den) (r.den * s.den) = _
  rw [low_eq (Int.mul_ne_zero (den_ne r) (den_ne s)), ← Rat.divInt_sub_divInt _ _ (den_ne r) (den_ne s), Rat.num_divInt_den, Rat.num_divInt_den]
theorem pr_times (r : Rat) (k : Int) : low ((pr r).1 * k) (pr r).2 = pr (r * (Rat.divInt k 1)) := by
  show low (r.num * k) r.den = _
  have e : Rat.divInt (r.num * k) (r.den : Int) = Rat.divInt r.num r.den * Rat.divInt k 1 := by rw [Rat.divInt_mul_divInt, Int.mul_one]
  rw [low_eq (den_ne r), e, Rat.num_divInt_den]
theorem pr_over (r : Rat) {k : Int} (h : k ≠ 0) : low (pr r).1 ((pr r).2 * k) = pr (r * (Rat.divInt 1 k)) := by
  show low r.num (r.den * k) = _
  have e : Rat.divInt r.num (r.den * k : Int) = Rat.divInt r.num r.den * Rat.divInt 1 k := by rw [Rat.divInt_mul_divInt, Int.mul_one]
  rw [low_eq (Int.mul_ne_zero (den_ne r) h), e, Rat.num_divInt_den]
theorem inv_k {k : Int} (h : k ≠ 0) : Rat.divInt k 1 * Rat.divInt 1 k = 1 := by
  rw [Rat.divInt_mul_divInt, Int.mul_one, Int.one_mul]
  exact Rat.divInt_self' h
theorem pr_lt (r s : Rat) : ((pr r).1 * (pr s).2 < (pr s).1 * (pr r).2) ↔ r < s := (Rat.lt_iff r s).symm
theorem pr_bot (r : Rat) : 0 < (pr r).2 := den_pos r
theorem add_back (r s : Rat) : r + s - s = r := by
  rw [Rat.sub_eq_add_neg, Rat.add_assoc, Rat.add_neg_cancel, Rat.add_zero]
theorem sub_back (r s : Rat) : r - s + s = r := by
  rw [Rat.sub_eq_add_neg, Rat.add_assoc, Rat.neg_add_cancel, Rat.add_zero]
theorem mul_back (r : Rat) {k : Int} (h : k ≠ 0) : r * Rat.divInt k 1 * Rat.divInt 1 k = r := by
  rw [Rat.mul_assoc, inv_k h, Rat.mul_one]
theorem div_back (r : Rat) {k : Int} (h : k ≠ 0) : r * Rat.divInt 1 k * Rat.divInt k 1 = r := by
  rw [Rat.mul_assoc, Rat.mul_comm (Rat.divInt 1 k), inv_k h, Rat.mul_one]
/-- small -/
def Sz (n : Nat) (r : Rat) : Prop := r.num.natAbs < 2 ^ n ∧ r.den < 2 ^ n
theorem Sz.mono {n m : Nat} {r : Rat} (h : Sz n r) (hm : n ≤ m) : Sz m r := ⟨Nat.lt_of_lt_of_le h.1 (Nat.pow_le_pow_right (by decide) hm), Nat.lt_of_lt_of_le h.2 (Nat.pow_le_pow_right (by decide) hm)⟩
theorem sz_of_low {t b : Int} {n : Nat} (hb : b ≠ 0) (h1 : t.natAbs < 2 ^ n) (h2 : b.natAbs < 2 ^ n) : Sz n (Rat.divInt t b) := by
  have e := low_eq (t := t) hb
  have e1 : (low t b).1 = (Rat.divInt t b).num := congrArg Prod.fst e
  have e2 : (low t b).2 = ((Rat.divInt t b).den : Int) := congrArg Prod.snd e
  have l1 := low_top_le (t := t) hb
  have l2 := low_bot_le (t := t) hb
  constructor
  · rw [← e1]; omega
  · have : ((low t b).2).natAbs < 2 ^ n := by omega
    rw [e2] at this
    simpa using this
theorem two_lt {x y n m : Nat} (h1 : x < 2 ^ n) (h2 : y < 2 ^ m) : x * y < 2 ^ (n + m) := by
  rw [Nat.pow_add]
  exact Nat.mul_lt_mul'' h1 h2
theorem sz_sum {a b c d : Int} {n m : Nat} (h1 : a.natAbs < 2 ^ n) (h2 : d.natAbs < 2 ^ m) (h3 : c.natAbs < 2 ^ m) (h4 : b.natAbs < 2 ^ n) : (a * d + c * b).natAbs < 2 ^ (n + m + 1) ∧ (a * d - c * b).natAbs < 2 ^ (n + m + 1) := by
  have e1 : (a * d).natAbs < 2 ^ (n + m) := by rw [Int.natAbs_mul]; exact two_lt h1 h2
  have e2 : (c * b).natAbs < 2 ^ (n + m) := by rw [Int.natAbs_mul, Nat.add_comm]; exact two_lt h3 h4
  have e3 : 2 ^ (n + m + 1) = 2 * 2 ^ (n + m) := by rw [Nat.pow_succ, Nat.mul_comm]
  omega
theorem sz_plus {n m : Nat} {r s : Rat} (hr : Sz n r) (hs : Sz m s) : Sz (n + m + 1) (r + s) ∧ Sz (n + m + 1) (r - s) := by
  have d1 : ((r.den : Int)).natAbs < 2 ^ n := by simpa using hr.2
  have d2 : ((s.den : Int)).natAbs < 2 ^ m := by simpa using hs.2
  have hd : ((r.den : Int) * s.den).natAbs < 2 ^ (n + m + 1) := by
    have : ((r.den : Int) * s.den).natAbs < 2 ^ (n + m) := by rw [Int.natAbs_mul]; exact two_lt d1 d2
    exact Nat.lt_of_lt_of_le this (Nat.pow_le_pow_right (by decide) (by omega))
  have hn := sz_sum hr.1 d2 hs.1 d1
  have ne := Int.mul_ne_zero (den_ne r) (den_ne s)
  constructor
  · have := sz_of_low ne hn.1 hd
    rw [← Rat.divInt_add_divInt _ _ (den_ne r) (den_ne s), Rat.num_divInt_den, Rat.num_divInt_den] at this
    exact this
  · have := sz_of_low ne hn.2 hd
    rw [← Rat.divInt_sub_divInt _ _ (den_ne r) (den_ne s), Rat.num_divInt_den, Rat.num_divInt_den] at this
    exact this
theorem sz_times {n m : Nat} {r : Rat} {k : Int} (hr : Sz n r) (hk : k.natAbs < 2 ^ m) : Sz (n + m) (r * Rat.divInt k 1) := by
  have e : r * Rat.divInt k 1 = Rat.divInt (r.num * k) r.den := by
    have : Rat.divInt (r.num * k) (r.den : Int) = Rat.divInt r.num r.den * Rat.divInt k 1 := by rw [Rat.divInt_mul_divInt, Int.mul_one]
    rw [this, Rat.num_divInt_den]
  rw [e]
  refine sz_of_low (den_ne r) (by rw [Int.natAbs_mul]; exact two_lt hr.1 hk) ?_
  have d1 : ((r.den : Int)).natAbs < 2 ^ n := by simpa using hr.2
  exact Nat.lt_of_lt_of_le d1 (Nat.pow_le_pow_right (by decide) (by omega))
theorem sz_over {n m : Nat} {r : Rat} {k : Int} (hr : Sz n r) (h : k ≠ 0) (hk : k.natAbs < 2 ^ m) : Sz (n + m) (r * Rat.divInt 1 k) := by
  have e : r * Rat.divInt 1 k = Rat.divInt r.num (r.den * k) := by
    have : Rat.divInt r.num (r.den * k : Int) = Rat.divInt r.num r.den * Rat.divInt 1 k := by rw [Rat.divInt_mul_divInt, Int.mul_one]
    rw [this, Rat.num_divInt_den]
  rw [e]
  have d1 : ((r.den : Int)).natAbs < 2 ^ n := by simpa using hr.2
  refine sz_of_low (Int.mul_ne_zero (den_ne r) h) (Nat.lt_of_lt_of_le hr.1 (Nat.pow_le_pow_right (by decide) (by omega))) ?_
  rw [Int.natAbs_mul]
  exact two_lt d1 hk
end KM
set_option Elab.async false
set_option linter.all false
set_option maxRecDepth 100000
set_option maxHeartbeats 4000000
/-! KW: calls by keywords alone: f(k = v, ..), o.m(k = v, ..). -/
namespace KW
open PySem PySem.Spec PyProof.Rows L2
section
variable {X : Cx} {k j : Nat} {C f : Addr} {fd : FuncData} {ps ks : List Str} {sp : Sp} {x m : Str} {p pos apos : Pos} {o : Expr} {kws : List Keyword} {ta : TE} {tk : TA} {g : List Value → List Value → List Value} {gV : List V → List V → List V}
theorem pe_cK (F : FnOk X.prog X.w X.K X.mg X.base CX0 k f fd ps sp) (hr : Room k X.A) (hg : Gl X x) (hm : X.mg x = some (.ref f)) (hk : PySem.W.keepIn X.K (.ref f) = true) (hb : KBn X.K fd ps 0 ks g gV) (hkw : PK X kws tk)
    (hall : (backToKw pos (keywordEach kws X.env)).all (·.1.isSome) = true := by rfl) (hks : (backToKw pos (keywordEach kws X.env)).filterMap (·.1) = ks := by rfl) (hdb : (x == ("__debug__" : Str)) = false := by decide)
    (hpl : ((backTo pos (starEach [] X.env)).any (·.1) || (backToKw pos (keywordEach kws X.env)).any (·.1.isNone)) = false := by rfl) :
    PE X (.Call (.Name x p) [] kws pos) (fun σ H Q => tk σ H fun zs H1 => zs.length = ks.length ∧ sp (gV [] zs) H1 Q E0) := by
  refine ⟨fun pins s σ H Q I h => wpAny_Call_Name_kw (ld_glob I hg hm (PySem.W.callWith_KW0 (h₀ := X.base) I.ok.mod.kin hk hall ?_ hpl) hdb)⟩
  refine thn (hkw.run pos pins s σ H _ I h) fun ws s2 ⟨zs, H2, I2, rz, l2, q2⟩ => ⟨I2.kIn, ?_⟩
  rw [hks]
  exact run_fnN (us := []) (vs := []) F hr hb (fun _ _ _ _ _ _ _ h => False.elim h) I2 .nil rz rfl l2 q2
theorem pe_mtK {pl : Sem Bool} (he : PE X o ta) (c : Cls X.K C) (hm : Meth X.K C m f) (F : FnOk X.prog X.w X.K X.mg X.base CX0 k f fd ps sp) (hr : Room k X.A) (hb : KBn X.K fd ps 1 ks g gV) (hkw : PK X kws tk)
    (hall : (backToKw pos (keywordEach kws X.env)).all (·.1.isSome) = true := by rfl) (hks : (backToKw pos (keywordEach kws X.env)).filterMap (·.1) = ks := by rfl)
    (hpl : ((backTo pos (starEach [] X.env)).any (·.1) || (backToKw pos (keywordEach kws X.env)).any (·.1.isNone)) = false := by rfl)
    (ht : eval (.Call (.Attribute o m apos) [] kws pos) X.env = (do
      let ov ← eval o X.env
      standAt apos.atName
      let (f, first) ← holding [ov] (getMethod ov m pl)
      callWith pos f first (backTo pos (starEach [] X.env)) (backToKw pos (keywordEach kws X.env))) := by rfl) :
    PE X (.Call (.Attribute o m apos) [] kws pos) (fun σ H Q => ta σ H fun x H1 => ∃ a dx fs, x = .ref a ∧ H1 a = some (.ins C dx fs) ∧ fs.lookup m = none ∧ tk σ H1 fun zs H2 => zs.length = ks.length ∧ sp (gV [.ref a] zs) H2 Q E0) := by
  refine ⟨fun pins s σ H Q I h => ?_⟩
  refine PySem.W.methodCall_KW (pl := pl) (thn (he.run pins s σ H _ I h) fun u s1 ⟨x, H1, I1, rx, a, dx, fs, ex, ea, l, q⟩ => ?_) ht
  subst ex
  obtain rfl : u = Value.ref a := rx
  refine getmeth_ok I1 ea c hm l (PySem.W.callWith_KW0 (first := [.ref a]) (h₀ := X.base) I.ok.mod.kin hm.kp hall ?_ hpl)
  refine thn (hkw.run pos pins s1 σ H1 _ I1 q) fun ws s2 ⟨zs, H2, I2, rz, l2, q2⟩ => ⟨I2.kIn, ?_⟩
  rw [hks]
  exact run_fnN (us := [.ref a]) (vs := [.ref a]) F hr hb (fun _ _ _ _ _ _ _ h => False.elim h) I2 (.cons rfl .nil) rz rfl l2 q2
end
end KW
set_option Elab.async false
set_option linter.all false
set_option maxRecDepth 100000
set_option maxHeartbeats 4000000
namespace K60
open PySem PySem.Spec PyProof.Rows L2
open C8 (Cal Mak Met pe_c pe_mk pe_mt pe_mt0)
open KM (pr Sz)
/-- what isinstance asks of the class -/
structure IsC (K : PySem.W.Frag) (C : Addr) : Prop where
  ha : PySem.W.findIn K (.ref C) "__class__" = some (some (.builtin "object.__class__"))
  hn : PySem.W.specialIn K (.builtin "object.__class__") "__get__" = some (some (.builtin "getset_descriptor.__get__"))
  htk : PySem.W.takesIn K (.builtin "object.__class__") = some true
  hm : PySem.W.mroIn K C (.type "object") = some true
  kit : PySem.W.kitOne K (.ref C) (.ref C) = some true
theorem bd_of {n : Nat} {r : Rat} (h : Sz n r) : Bd n (pr r) := ⟨h.1, KM.den_pos r, by simpa [pr] using h.2⟩

section
variable {P : Program} {w : World} {K : PySem.W.Frag} {mg : Str → Option Value} {base : Heap} {f C : Addr} {fd : FuncData}
abbrev CalD (P : Program) (w : World) (K : PySem.W.Frag) (mg : Str → Option Value) (base : Heap) : Prop := Cal P w K mg base 1 "_law_draw" spDraw []
def tupP (q : Int × Int) : HO := .tup [.int q.1, .int q.2]
def spLow : Sp := fun vs H Q _ => ∃ (t b : Int) (n : Nat), vs = [.int t, .int b] ∧ b ≠ 0 ∧ b.natAbs < 2 ^ n ∧ 0 < n ∧ n ≤ 9000 ∧ ∀ r, H r = none → Q (.ref r) (upd H r (tupP (KM.low t b)))
abbrev CalL (P : Program) (w : World) (K : PySem.W.Frag) (mg : Str → Option Value) (base : Heap) : Prop := Cal P w K mg base 1 "_law_low" spLow []
def spAdd : Sp := fun vs H Q _ => ∃ (p q : Addr) (a b : Int × Int) (n : Nat), vs = [.ref p, .ref q] ∧ H p = some (tupP a) ∧ H q = some (tupP b) ∧ two n a b ∧
  ∀ r, H r = none → Q (.ref r) (upd H r (tupP (KM.low (a.1 * b.2 + b.1 * a.2) (a.2 * b.2))))
theorem at0 {a b : V} : atI [a, b] 0 = some a := rfl
theorem at1 {a b : V} : atI [a, b] 1 = some b := rfl
def spPair (C : Addr) : Sp := fun vs H Q _ => ∃ (p : Addr) (q : Int × Int), vs = [.ref p] ∧ Sh C H p q ∧ ∀ r H', Same H H' → H r = none → H' r = some (tupP q) → Q (.ref r) H'
theorem ok_pair (F : Dn K d_l_pair f fd) (b : Bl mg) (T : Cl K mg C) (S : IsC K C) : FnOk P w K mg base CX0 1 f fd ["_law_share"] (spPair C) := by
  refine F.ok sc_l_pair (fun vs H Q E h => ?_) (fun cdv A outer s H vs Q E hr h => ?_)
  · obtain ⟨p, q, rfl, _⟩ := h
    rfl
  · obtain ⟨p, q, rfl, ⟨dp, hp⟩, hQ⟩ := h
    refine ⟨_, PSs.nox (pss_cons (ps_if (pt_not (pt_val (pe_callB call_isi rfl b.isi boot_isinstance (pa_cons (pv 0) (pa_cons (pe_glob (v := .ref C) rfl T.g rfl) pa_nil))))) pss_never pss_nil)
      (pss_cons (ps_for PassesOwn.never rfl (pi_tup (pe_tup (pa_cons (pe_fld (pv 0) rfl) (pa_cons (pe_fld (pv 0) rfl) pa_nil)))) (pg_name (i := 1) sc_l_pair.nd rfl (.inl rfl))
        (pss_one (ps_if (PW.pt (pw_or (pt_not (pt_val (pe_callB call_isi rfl b.isi boot_isinstance (pa_cons (pv 1) (pa_cons (pe_bltn (v := .ty "int") rfl b.int boot_int rfl) pa_nil)))))
          (pw_or1 (pt_val (pe_callB call_isi rfl b.isi boot_isinstance (pa_cons (pv 1) (pa_cons (pe_bltn (v := .ty "bool") rfl b.bool boot_bool rfl) pa_nil))))))) pss_never pss_nil)))
      (pss_one (ps_ret (pe_tup (pa_cons (pe_fld (pv 0) rfl) (pa_cons (pe_fld (pv 0) rfl) pa_nil))))))), ?_⟩
    refine ⟨_, rfl, _, _, _, _, true, rfl, ClsV.own C, TyX.base (TyOf.ins hp T.cl S.ha S.hn S.htk S.hm), S.kit, true, rfl, ?_⟩
    refine iteF ?_
    refine ⟨_, rfl, p, C, dp, _, _, rfl, hp, T.cl, T.nt, shF_top q, _, rfl, p, C, dp, _, _, rfl, hp, T.cl, T.nb, shF_bot q, by show 2 ≤ sizeLine; decide, fun u hu => ?_⟩
    have npu : p ≠ u := ne_of_none hp hu
    refine ⟨u, rfl, ⟨_, SqT.of upd_same⟩, for_tup (K := K) (xs := [.int q.1, .int q.2]) (fun i σ H2 => H2 = upd H u (.tup [.int q.1, .int q.2]) ∧ ∃ v, σ = [some (.ref p), v])
      ⟨rfl, none, rfl⟩ (fun i σ H2 _ h => by rw [h.1]; exact SqT.of upd_same) ?_ ?_⟩
    · rintro i y σ H2 hi ⟨rfl, v, rfl⟩
      have hy : ∃ n : Int, y = .int n := by
        match i, hi with
        | 0, e => exact ⟨_, (Option.some.inj e).symm⟩
        | 1, e => exact ⟨_, (Option.some.inj e).symm⟩
      obtain ⟨n, rfl⟩ := hy
      refine ⟨_, rfl, _, _, _, _, true, rfl, ClsV.ty _, TyX.base (TyOf.int n), kit_ty (by decide +kernel), true, rfl, ?_⟩
      refine iteF ?_
      refine ⟨_, rfl, _, _, _, _, false, rfl, ClsV.ty _, TyX.base (TyOf.int n), kit_ty (by decide +kernel), false, rfl, ?_⟩
      exact iteF ⟨rfl, _, rfl⟩
    · rintro σ H2 ⟨rfl, v, rfl⟩
      have hp2 : (upd H u (.tup [.int q.1, .int q.2])) p = some (.ins C dp (shF q)) := by rw [upd_ne npu]; exact hp
      refine ⟨_, rfl, p, C, dp, _, _, rfl, hp2, T.cl, T.nt, shF_top q, _, rfl, p, C, dp, _, _, rfl, hp2, T.cl, T.nb, shF_bot q, by show 2 ≤ sizeLine; decide, fun r hr => ?_⟩
      exact hQ r _ ((same_new hu).trans (same_new hr)) ((same_new hu).free hr) upd_same
/-- two Shares in, a Share out -/
def sp2 (C : Addr) (g : Rat → Rat → Rat) : Sp := fun vs H Q _ => ∃ (p q : Addr) (r s : Rat) (n : Nat), vs = [.ref p, .ref q] ∧ Sh C H p (pr r) ∧ Sh C H q (pr s) ∧ Sz n r ∧ Sz n s ∧ 0 < n ∧ n ≤ 4000 ∧
  ∀ t H', Same H H' → H t = none → Sh C H' t (pr (g r s)) → Q (.ref t) H'
theorem plusR {vs : List V} {H : Hp} {Q : VK} {E : XK} (h : sp2 C (· + ·) vs H Q E) : sp_plus C vs H Q E := by
  obtain ⟨p, q, r, s, n, e, hp, hq, sr, ss, n0, n9, k⟩ := h
  refine ⟨p, q, _, _, n, e, hp, hq, ⟨bd_of sr, bd_of ss, n0, n9⟩, fun t H' a b c => k t H' a b ?_⟩
  rw [KM.pr_plus] at c
  exact c
abbrev MakS1 (P : Program) (w : World) (K : PySem.W.Frag) (mg : Str → Option Value) (base : Heap) (C : Addr) : Prop := Mak P w K mg base 2 "Share" C (spInit C) [.int 1]
theorem mk_in {C x dx : Addr} {H1 : Hp} {t b : Int} {n : Nat} {Qv : VK} {E : XK} (nx : H1 x = none) (nd : H1 dx = none) (hb : b ≠ 0) (hn : b.natAbs < 2 ^ n) (hn0 : 0 < n) (hn9 : n ≤ 9000)
    (hQ : ∀ H', Same H1 H' → Sh C H' x (pr (Rat.divInt t b)) → Qv .non H') : spInit C [.ref x, .int t, .int b] (upd (upd H1 dx (.own x)) x (.ins C dx [])) Qv E := by
  refine ⟨x, dx, t, b, n, rfl, hb, hn, hn0, hn9, upd_same, fun H' kp hp => hQ H' (fun a o e => ?_) ⟨dx, KM.low_eq hb ▸ hp⟩⟩
  refine kp a o (ne_of_none e nx) ?_
  rw [upd_ne (ne_of_none e nx), upd_ne (ne_of_none e nd)]
  exact e
end
end K60
set_option Elab.async false
set_option linter.all false
set_option maxRecDepth 100000
set_option maxHeartbeats 4000000
/-! NM: the names that a law draws: words by a base, a place, a spot and a way. -/
namespace NM
open PySem PySem.Spec
def ok (l : List Nat) : Prop := 1 ≤ l.length ∧ l.length ≤ 8 ∧ ∀ c ∈ l, 97 ≤ c ∧ c ≤ 122
def words : List (List Nat) := [[108, 97, 116, 101], [105, 110], [111, 117, 116], [114, 105, 100, 101], [104, 97, 110, 100], [108, 97, 99, 107], [121, 101, 115], [110, 111], [110, 97, 109, 101, 115], [103, 111, 110, 101], [116, 101, 120, 116], [112, 108, 97, 110], [117, 110, 100, 111], [117, 115, 117, 97, 108], [98, 97, 99, 107], [108, 101, 97, 118, 101]]
def lets : List Nat := (List.range 26).map (97 + ·)
def w0 (bs : List Nat) (at_ spot k : Nat) : List Nat := bs.take at_ ++ [97 + (spot + 5 * k) % 26] ++ bs.drop (at_ + 1)
def w1 (bs : List Nat) (at_ spot k : Nat) : List Nat := (w0 bs at_ spot k).take (bs.length - k % (bs.length - at_))
def w2 (spot k : Nat) : List Nat := (List.replicate 8 (97 + (spot + k / 8) % 26)).take (k % 8 + 1)
def w3 (spot k : Nat) : List Nat := words.getD ((spot + k) % 16) []
def word (bs : List Nat) (at_ spot way k : Nat) : List Nat := if way = 1 then w1 bs at_ spot k else if way = 2 then w2 spot k else if way = 3 then w3 spot k else w0 bs at_ spot k
theorem words_ok : ∀ i, i < 16 → ok (words.getD i []) := by
  have : ∀ i : Fin 16, 1 ≤ (words.getD i.1 []).length ∧ (words.getD i.1 []).length ≤ 8 ∧ (words.getD i.1 []).all (fun c => decide (97 ≤ c ∧ c ≤ 122)) = true := by decide +kernel
  intro i hi
  obtain ⟨h1, h2, h3⟩ := this ⟨i, hi⟩
  refine ⟨h1, h2, fun c hc => ?_⟩
  have := List.all_eq_true.mp h3 c hc
  exact of_decide_eq_true this
theorem words_inj : ∀ i j, i < 16 → j < 16 → words.getD i [] = words.getD j [] → i = j := by
  have : ∀ i j : Fin 16, words.getD i.1 [] = words.getD j.1 [] → i = j := by decide +kernel
  intro i j hi hj e
  exact congrArg Fin.val (this ⟨i, hi⟩ ⟨j, hj⟩ e)
section
variable {bs : List Nat} {at_ spot k : Nat}
theorem w0_len (h : at_ < bs.length) : (w0 bs at_ spot k).length = bs.length := by
  unfold w0
  simp only [List.length_append, List.length_take, List.length_drop, List.length_cons, List.length_nil]
  omega
theorem w0_at (h : at_ < bs.length) : (w0 bs at_ spot k)[at_]? = some (97 + (spot + 5 * k) % 26) := by
  unfold w0
  rw [List.append_assoc, List.getElem?_append_right (by rw [List.length_take]; omega), List.length_take, Nat.min_eq_left (by omega), Nat.sub_self]
  rfl
theorem w0_mem (hb : ∀ c ∈ bs, 97 ≤ c ∧ c ≤ 122) : ∀ c ∈ w0 bs at_ spot k, 97 ≤ c ∧ c ≤ 122 := by
  intro c hc
  unfold w0 at hc
  rcases List.mem_append.mp hc with hc | hc
  · rcases List.mem_append.mp hc with hc | hc
    · exact hb c (List.mem_of_mem_take hc)
    · rw [List.mem_singleton] at hc
      omega
  · exact hb c (List.mem_of_mem_drop hc)
theorem w1_len (h : at_ < bs.length) : at_ + 1 ≤ (w1 bs at_ spot k).length ∧ (w1 bs at_ spot k).length ≤ bs.length := by
  unfold w1
  rw [List.length_take, w0_len h]
  have := Nat.mod_lt k (show 0 < bs.length - at_ by omega)
  omega
theorem w1_at (h : at_ < bs.length) : (w1 bs at_ spot k)[at_]? = some (97 + (spot + 5 * k) % 26) := by
  have h1 := (w1_len (spot := spot) (k := k) h).1
  unfold w1 at h1 ⊢
  rw [List.length_take, w0_len h] at h1
  rw [List.getElem?_take_of_lt (by omega)]
  exact w0_at h
theorem spot_inj {i j : Nat} (hi : i < 16) (hj : j < 16) (e : 97 + (spot + 5 * i) % 26 = 97 + (spot + 5 * j) % 26) : i = j := by omega
theorem word_ok (hb0 : 1 ≤ bs.length) (hb8 : bs.length ≤ 8) (hb : ∀ c ∈ bs, 97 ≤ c ∧ c ≤ 122) (h : at_ < bs.length) (way : Nat) : ok (word bs at_ spot way k) := by
  unfold word
  split
  · have := w1_len (spot := spot) (k := k) h
    exact ⟨by omega, by omega, fun c hc => w0_mem hb c (List.mem_of_mem_take hc)⟩
  split
  · unfold w2
    refine ⟨by rw [List.length_take, List.length_replicate]; omega, by rw [List.length_take, List.length_replicate]; omega, fun c hc => ?_⟩
    have := List.eq_of_mem_replicate (List.mem_of_mem_take hc)
    omega
  split
  · exact words_ok _ (Nat.mod_lt _ (by decide))
  · exact ⟨by rw [w0_len h]; exact hb0, by rw [w0_len h]; exact hb8, w0_mem hb⟩
theorem word_inj (h : at_ < bs.length) (way : Nat) {i j : Nat} (hi : i < 16) (hj : j < 16) (e : word bs at_ spot way i = word bs at_ spot way j) : i = j := by
  unfold word at e
  split at e
  · have h1 := w1_at (spot := spot) (k := i) h
    rw [e, w1_at h] at h1
    exact (spot_inj hj hi (Option.some.inj h1)).symm
  split at e
  · unfold w2 at e
    have hl := congrArg List.length e
    rw [List.length_take, List.length_take, List.length_replicate, List.length_replicate] at hl
    have h0 : ((List.replicate 8 (97 + (spot + i / 8) % 26)).take (i % 8 + 1))[0]? = ((List.replicate 8 (97 + (spot + j / 8) % 26)).take (j % 8 + 1))[0]? := by rw [e]
    rw [List.getElem?_take_of_lt (by omega), List.getElem?_take_of_lt (by omega), List.getElem?_replicate, List.getElem?_replicate, if_pos (by decide), if_pos (by decide)] at h0
    have := Option.some.inj h0
    omega
  split at e
  · have := words_inj _ _ (Nat.mod_lt _ (by decide)) (Nat.mod_lt _ (by decide)) e
    omega
  · have h1 := w0_at (spot := spot) (k := i) h
    rw [e, w0_at h] at h1
    exact (spot_inj hj hi (Option.some.inj h1)).symm
/-- as many as are asked: unlike ones -/
theorem all_unlike (h : at_ < bs.length) (way n : Nat) (hn : n ≤ 16) : ((List.range n).map (word bs at_ spot way)).Pairwise (· ≠ ·) := by
  rw [List.pairwise_map]
  refine (List.pairwise_lt_range (n := n)).imp_of_mem fun {a b} ha hb hlt e => ?_
  have := word_inj h way (by have := List.mem_range.mp ha; omega) (by have := List.mem_range.mp hb; omega) e
  omega
end
end NM
set_option Elab.async false
set_option linter.all false
set_option maxRecDepth 100000
set_option maxHeartbeats 4000000
/-! NH: the names that a law with a held dict draws. -/
namespace NH
open PySem PySem.Spec
def word (bs : List Nat) (at_ begin_ step lot k : Nat) : List Nat := bs.take at_ ++ [97 + (begin_ + step * k) % 26] ++ (bs.drop at_).take (if lot = 0 then 8 else k % (bs.length - at_ + 1))
def steps : List Nat := [1, 3, 5, 7, 9, 11, 15, 17]
section
variable {bs : List Nat} {at_ begin_ step lot k : Nat}
theorem word_at (h : at_ ≤ bs.length) : (word bs at_ begin_ step lot k)[at_]? = some (97 + (begin_ + step * k) % 26) := by
  unfold word
  rw [List.append_assoc, List.getElem?_append_right (by rw [List.length_take]; omega), List.length_take, Nat.min_eq_left h, Nat.sub_self]
  rfl
theorem step_inj {i j : Nat} (hs : step ∈ steps) (hi : i < 13) (hj : j < 13) (e : 97 + (begin_ + step * i) % 26 = 97 + (begin_ + step * j) % 26) : i = j := by
  simp only [steps, List.mem_cons, List.not_mem_nil, or_false] at hs
  rcases hs with rfl | rfl | rfl | rfl | rfl | rfl | rfl | rfl <;> omega
theorem word_inj (h : at_ ≤ bs.length) (hs : step ∈ steps) {i j : Nat} (hi : i < 13) (hj : j < 13) (e : word bs at_ begin_ step lot i = word bs at_ begin_ step lot j) : i = j := by
  have h1 := word_at (begin_ := begin_) (step := step) (lot := lot) (k := i) h
  rw [e, word_at h] at h1
  exact (step_inj hs hj hi (Option.some.inj h1)).symm
theorem word_ok (h8 : bs.length ≤ 7) (hb : ∀ c ∈ bs, 97 ≤ c ∧ c ≤ 122) (h : at_ ≤ bs.length) : NM.ok (word bs at_ begin_ step lot k) := by
  unfold word
  refine ⟨?_, ?_, fun c hc => ?_⟩
  · simp only [List.length_append, List.length_take, List.length_drop, List.length_cons, List.length_nil]
    omega
  · simp only [List.length_append, List.length_take, List.length_drop, List.length_cons, List.length_nil]
    omega
  · rcases List.mem_append.mp hc with hc | hc
    · rcases List.mem_append.mp hc with hc | hc
      · exact hb c (List.mem_of_mem_take hc)
      · rw [List.mem_singleton] at hc
        omega
    · exact hb c (List.mem_of_mem_drop (List.mem_of_mem_take hc))
theorem all_unlike (h : at_ ≤ bs.length) (hs : step ∈ steps) (n : Nat) (hn : n ≤ 13) : ((List.range n).map (word bs at_ begin_ step lot)).Pairwise (· ≠ ·) := by
  rw [List.pairwise_map]
  refine (List.pairwise_lt_range (n := n)).imp_of_mem fun {a b} ha hb hlt e => ?_
  have := word_inj h hs (by have := List.mem_range.mp ha; omega) (by have := List.mem_range.mp hb; omega) e
  omega
end
end NH
set_option Elab.async false
set_option linter.all false
set_option maxRecDepth 100000
set_option maxHeartbeats 4000000
namespace K60
open PySem PySem.Spec PyProof.Rows L2
open C8 (Cal Mak Met pe_c pe_mk pe_mt pe_mt0)
open SX (S)
theorem lets_S : (Str.ofString "abcdefghijklmnopqrstuvwxyz").cps.toList = NM.lets := by decide +kernel
theorem at_lets {x : Int} {j : Nat} (e : x = (j : Int)) (hj : j < 26) : atI (Str.ofString "abcdefghijklmnopqrstuvwxyz").cps.toList x = some (97 + j) := by
  rw [e, lets_S]
  refine atI_nat ?_
  unfold NM.lets
  rw [List.getElem?_map, List.getElem?_range hj]
  rfl
theorem cut_t {l : List Nat} {x : Int} {j : Nat} (e : x = (j : Int)) (h : j ≤ l.length) : cutS (S l) none (some x) = S (l.take j) := by
  rw [e]
  unfold cutS
  rw [HT.sIx_nat, HT.sIx_none, SX.S_len, Nat.min_eq_left h]
  simp [S]
theorem cut_m {l : List Nat} {x y : Int} {j m : Nat} (e : x = (j : Int)) (e2 : y = ((j + m : Nat) : Int)) (h : j ≤ l.length) : cutS (S l) (some x) (some y) = S ((l.drop j).take m) := by
  rw [e, e2]
  unfold cutS
  rw [HT.sIx_nat, HT.sIx_nat, SX.S_len, Nat.min_eq_left h]
  have e3 : (l.drop j).take (min (j + m) l.length - j) = (l.drop j).take m := by
    by_cases c : j + m ≤ l.length
    · rw [Nat.min_eq_left c, Nat.add_sub_cancel_left]
    · rw [Nat.min_eq_right (by omega), List.take_of_length_le (Nat.le_of_eq (List.length_drop ..)), List.take_of_length_le (by rw [List.length_drop]; omega)]
  simp [S, e3]
theorem ones : ∀ bs : List Nat, ((bs.map fun c => S [c]).map (·.length)).sum = bs.length
  | [] => rfl
  | b :: bs => by
    rw [List.map_cons, List.map_cons, List.sum_cons, ones bs, List.length_cons, SX.S_len]
    simp
    omega
theorem joined : ∀ bs : List Nat, TL.joinL [] (bs.map fun c => [c]) = bs
  | [] => rfl
  | [b] => rfl
  | b :: d :: bs => by
    have := joined (d :: bs)
    simp only [List.map_cons, TL.joinL] at this ⊢
    simp [this]
theorem Held.ne_new {H : Hp} {h u : Addr} {c : Nat} (x : Held H h c) (e : H u = none) : u ≠ h := by
  obtain ⟨l, ns, n, m, h1, _⟩ := x
  exact (ne_of_none h1 e).symm
/-- the held dict's cells aren't at D -/
def Cel (h D : Addr) (H : Hp) : Prop := ∃ la n m, H h = some (.dK (hd0 la n m)) ∧ la ≠ D ∧ h ≠ D
theorem Cel.kp {h D : Addr} {H H' : Hp} (x : Cel h D H) (k : Kp h H H') : Cel h D H' := by
  obtain ⟨la, n, m, e, n1, n2⟩ := x
  obtain ⟨n', m', e'⟩ := k.2 _ _ _ e
  exact ⟨la, n', m', e', n1, n2⟩
theorem Cel.of {h D : Addr} {H : Hp} {c : Nat} (x : Held H h c) (f : H D = none) : Cel h D H := by
  obtain ⟨la, ns, n, m, e1, e2, _⟩ := x
  exact ⟨la, n, m, e1, ne_of_none e2 f, ne_of_none e1 f⟩
theorem Cel.ne {h D : Addr} {H : Hp} (x : Cel h D H) : D ≠ h := by
  obtain ⟨_, _, _, _, _, n⟩ := x
  exact n.symm
theorem Held.put {h D : Addr} {H : Hp} {o : HO} {c : Nat} (x : Held H h c) (y : Cel h D H) : Held (upd H D o) h c := by
  obtain ⟨la, ns, n, m, e1, e2, e3⟩ := x
  obtain ⟨la', n', m', e', n1, n2⟩ := y
  cases hd_inj (Option.some.inj (e1.symm.trans e'))
  exact ⟨la, ns, n, m, by rw [upd_ne n2]; exact e1, by rw [upd_ne n1]; exact e2, e3⟩
theorem Cel.put {h D D' : Addr} {H : Hp} {o : HO} (x : Cel h D H) (n : h ≠ D') : Cel h D (upd H D' o) := by
  obtain ⟨la', n', m', e', n1, n2⟩ := x
  exact ⟨la', n', m', by rw [upd_ne n]; exact e', n1, n2⟩
theorem Kp.new {h st : Addr} {H1 H2 : Hp} {o : HO} (k : Kp h H1 H2) (f : H1 st = none) : Kp h H1 (upd H2 st o) :=
  ⟨fun b u e ne => by rw [upd_ne (ne_of_none e f)]; exact k.1 b u e ne, fun l n m e => by
    obtain ⟨n', m', e'⟩ := k.2 l n m e
    exact ⟨n', m', by rw [upd_ne (ne_of_none e f)]; exact e'⟩⟩
theorem pick {α : Type} (g : α → V) {L : List α} {i : Int} (i0 : 0 ≤ i) (i1 : i < (L.length : Int)) : ∃ x ∈ L, atI (L.map g) i = some (g x) := by
  obtain ⟨j, rfl⟩ := Int.eq_ofNat_of_zero_le i0
  have hj : j < L.length := by omega
  exact ⟨L[j], List.getElem_mem hj, atI_nat (j := j) (by rw [List.getElem?_map, List.getElem?_eq_getElem hj]; rfl)⟩
section
variable {P : Program} {w : World} {K : PySem.W.Frag} {mg : Str → Option Value} {base : Heap} {f C : Addr} {fd : FuncData}
def spNames : Sp := fun vs H Q _ => ∃ (h : Addr) (c n : Nat), vs = [.ref h, .int n] ∧ Held H h (c + 40) ∧ n ≤ 13 ∧
  ∀ (o : Addr) (zs : List (List Nat)) (H' : Hp), Held H' h c → Kp h H H' → H o = none → H' o = some (.lst (zs.map fun l => V.str (S l))) → zs.length = n → (∀ z ∈ zs, NM.ok z) → zs.Pairwise (· ≠ ·) → Q (.ref o) H'
theorem ok_names (F : Dn K d_l_names f fd) (bl : Bl mg) (cD : CalD P w K mg base) : FnOk P w K mg base CX0 2 f fd ["_law_held_here", "_law_many"] spNames := by
  refine F.ok sc_l_names (fun vs H Q E h => ?_) (fun cdv A outer s H vs Q E hr h => ?_)
  · obtain ⟨p, c, n, rfl, _⟩ := h
    rfl
  · obtain ⟨p, c, n, rfl, pen, hn, hQ⟩ := h
    refine ⟨_, PSs.nox (pss_cons (ps_set (i := 2) sc_l_names.nd rfl (.inr rfl) pe_str)
      (pss_cons (ps_set (i := 3) sc_l_names.nd rfl (.inl rfl) (pe_c cD hr (by decide) rfl (pa_cons (pv 0) (pa_cons pe_int pa_nil))))
      (C8.pss_cut (ps_set (i := 5) sc_l_names.nd rfl (.inl rfl) (pe_join pe_str (pe_lc (own := [("_law_k", 4)]) (g := gName 4) (tt := tYes) rfl sc_l_names.nd (pi_range1 rfl bl.range (pa_cons (pv 3) pa_nil)) (blkOk_by (N := N_l_names) (sc := defScope s_l_names) (by decide +kernel))
          (fun _ _ _ _ _ => pg_name (i := 4) sc_l_names.nd rfl (Or.inl rfl)) (fun _ _ _ _ _ => pts_nil) (fun _ _ _ _ _ => pe_ix ix_str (pv 2) (pe_c cD hr (by decide) rfl (pa_cons (pv 0) (pa_cons pe_int pa_nil))) (fun _ _ => rfl)))))
      (pss_cons (ps_par (i := 6) (j := 7) rfl sc_l_names.nd rfl rfl (by decide) rfl rfl (pa_cons (pe_c cD hr (by decide) rfl (pa_cons (pv 0) (pa_cons (pe_op op_add (pv 3) pe_int) pa_nil))) (pa_cons (pe_c cD hr (by decide) rfl (pa_cons (pv 0) (pa_cons pe_int pa_nil))) pa_nil)) rfl)
      (pss_cons (ps_par (i := 8) (j := 9) rfl sc_l_names.nd rfl rfl (by decide) rfl rfl (pa_cons (pe_ix ix_list (pe_lst (pa_cons pe_int (pa_cons pe_int (pa_cons pe_int (pa_cons pe_int (pa_cons pe_int (pa_cons pe_int (pa_cons pe_int (pa_cons pe_int pa_nil))))))))) (pe_c cD hr (by decide) rfl (pa_cons (pv 0) (pa_cons pe_int pa_nil))) (fun _ _ => rfl)) (pa_cons (pe_c cD hr (by decide) rfl (pa_cons (pv 0) (pa_cons pe_int pa_nil))) pa_nil)) rfl)
      (pss_cons (ps_set (i := 10) sc_l_names.nd rfl (.inl rfl) (pe_lst pa_nil))
      (pss_cons (ps_for PassesOwn.never rfl (pi_range1 rfl bl.range (pa_cons (pv 1) pa_nil)) (pg_name (i := 4) sc_l_names.nd rfl (.inl rfl))
        (C8.pss_cut (ps_set (i := 11) sc_l_names.nd rfl (.inl rfl) (pe_slice sl_str (pv 5) (po_some (pv 6)) (po_some (pe_op op_add (pv 6) (pe_ix ix_list (pe_lst (pa_cons pe_int (pa_cons (pe_op op_mod (pv 4) (pe_op op_add (pe_op op_sub (pv 3) (pv 6)) pe_int)) pa_nil))) (pv 9) (fun _ _ => rfl))))))
        (pss_one (ps_expr (pe_bm PySem.F.plainAttrs_list PySem.F.slot_list_append PySem.F.type_list_append mt_append (pv 10) (pa_cons (pe_op op_add_str (pe_op op_add_str (pe_slice sl_str (pv 5) po_none (po_some (pv 6))) (pe_ix ix_str (pv 2) (pe_op op_mod (pe_op op_add (pv 7) (pe_op op_mul (pv 8) (pv 4))) pe_int) (fun _ _ => rfl))) (pv 11)) pa_nil))))))
      (pss_one (ps_ret (pv 10)))))))))), ?_⟩
    -- the size
    refine ⟨_, rfl, p, c + 39, _, rfl, pen, by decide, by decide, fun z0 H2 a2 b2 pen2 k2 => ?_⟩
    obtain ⟨sz, rfl⟩ := Int.eq_ofNat_of_zero_le a2
    have sz7 : sz ≤ 7 := by omega
    -- the base
    refine ⟨fun σ' H' => ∃ bs : List Nat, σ' = [some (.ref p), some (.int n), some (.str (Str.ofString "abcdefghijklmnopqrstuvwxyz")), some (.int (sz : Int)), none, some (.str (S bs)), none, none, none, none, none, none] ∧ bs.length = sz ∧ (∀ c ∈ bs, 97 ≤ c ∧ c ≤ 122) ∧
      Held H' p (c + 30) ∧ Kp p H H', ?_, ?_⟩
    · refine ⟨⟨_, rfl⟩, _, rfl, _, rfl, by omega, by omega, ?_⟩
      rw [Int.toNat_natCast]
      intro D hD
      have offD := Cel.of pen2 hD
      have sD := same_new (o := .lst []) hD
      refine lc_range (n := sz) (fun i H3 => ∃ bs : List Nat, bs.length = i ∧ (∀ c ∈ bs, 97 ≤ c ∧ c ≤ 122) ∧ H3 D = some (.lst (bs.map fun c => V.str (S [c]))) ∧ Held H3 p (c + 39 - i) ∧ Kp p H2 H3 ∧ Cel p D H3) ?_ ?_ ?_
      · exact ⟨[], rfl, by simp, upd_same, pen2.same sD, Kp.same sD, offD.kp (Kp.same sD)⟩
      · rintro i H3 hi ⟨bs, hbl, hbc, hd, pen3, k3, off3⟩
        refine ⟨rfl, ?_⟩
        refine ⟨_, rfl, _, rfl, p, c + 39 - (i + 1), _, rfl, pen3.weak (by omega), by decide, by decide, fun r H4 r0 r1 pen4 k4 => ?_⟩
        obtain ⟨rn, rfl⟩ := Int.eq_ofNat_of_zero_le r0
        have hd4 := k4.1 _ _ hd off3.ne
        have off4 := off3.kp k4
        refine ⟨_, _, 97 + rn, rfl, rfl, by decide +kernel, at_lets rfl (by omega), _, hd4, ?_, bs ++ [97 + rn], by simp [hbl], ?_, ?_, pen4.put off4, (k3.trans k4).new hD, ?_⟩
        · rw [List.length_map, hbl]
          exact Nat.lt_of_lt_of_le (by omega : i < 64) (by decide)
        · intro c' hc'
          rcases List.mem_append.mp hc' with hc' | hc'
          · exact hbc c' hc'
          · rw [List.mem_singleton] at hc'
            omega
        · rw [upd_same]
          simp [S]
        · exact off4.put off4.ne.symm
      · rintro H3 ⟨bs, hbl, hbc, hd, pen3, k3, off3⟩
        have ey : (bs.map fun c => V.str (S [c])) = (bs.map fun c => S [c]).map V.str := by rw [List.map_map]; rfl
        refine ⟨_, D, bs.map fun c => S [c], rfl, rfl, .inl (by rw [← ey]; exact SqL.of hd), ?_, bs, ?_, hbl, hbc, pen3.weak (by omega), k2.trans k3⟩
        · rw [ones bs, List.length_map]
          have e2 : (Str.ofString "").length = 0 := by decide +kernel
          rw [e2, hbl]
          omega
        · have e3 : Txt.join (Str.ofString "") (bs.map fun c => S [c]) = S bs := by
            have e4 : Str.ofString "" = S [] := by decide +kernel
            have e5 : (bs.map fun c => S [c]) = (bs.map fun c => [c]).map S := by rw [List.map_map]; rfl
            rw [e4, e5, SX.join_S, joined]
          rw [e3]
          rfl
    clear pen pen2 k2
    rintro σ' H3 ⟨bs, rfl, hbl, hbc, pen3, k3⟩
    refine ⟨_, rfl, _, rfl, _, _, rfl, rfl, p, c + 29, _, rfl, pen3, by omega, by omega, fun at_ H4 a4 b4 pen4 k4 => ?_⟩
    refine ⟨_, rfl, p, c + 28, _, rfl, pen4, by decide, by decide, fun bg H5 a5 b5 pen5 k5 => ⟨_, _, rfl, ?_⟩⟩
    refine ⟨by show 8 ≤ sizeLine; decide, fun u fu => ?_⟩
    have su := same_new (o := .lst [.int 1, .int 3, .int 5, .int 7, .int 9, .int 11, .int 15, .int 17]) fu
    refine ⟨_, rfl, p, c + 27, 8, rfl, pen5.same su, by decide, by decide, fun q6 H6 a6 b6 pen6 k6 => ?_⟩
    have hu6 := k6.1 u _ upd_same (pen5.ne_new fu)
    obtain ⟨st, hst, est⟩ := pick (fun n : Nat => V.int (n : Int)) (L := NH.steps) a6 (by simpa [NH.steps] using b6)
    refine ⟨u, _, _, _, rfl, rfl, SqL.of hu6, est, ?_⟩
    refine ⟨_, rfl, p, c + 26, 2, rfl, pen6, by decide, by decide, fun lot H7 a7 b7 pen7 k7 => ⟨_, _, rfl, ?_⟩⟩
    obtain ⟨at_, rfl⟩ := Int.eq_ofNat_of_zero_le a4
    obtain ⟨bg, rfl⟩ := Int.eq_ofNat_of_zero_le a5
    obtain ⟨lot, rfl⟩ := Int.eq_ofNat_of_zero_le a7
    have hat : at_ ≤ bs.length := by omega
    have k07 := ((k3.trans k4).trans k5).trans (((Kp.same su).trans k6).trans k7)
    have st17 : st ≤ 17 := by
      simp only [NH.steps, List.mem_cons, List.not_mem_nil, or_false] at hst
      omega
    clear k3 k4 k5 k6 k7 su pen3 pen4 pen5 pen6
    refine ⟨by show 0 ≤ sizeLine; decide, fun o fo => ?_⟩
    have so := same_new (o := .lst []) fo
    refine ⟨_, rfl, _, rfl, by omega, by omega, ?_⟩
    rw [Int.toNat_natCast]
    have fo0 : H o = none := by
      cases e : H o with
      | none => rfl
      | some ob =>
        by_cases z : o = p
        · rw [z] at fo
          obtain ⟨l0, ns0, n0, m0, h0, _⟩ := pen7
          rw [h0] at fo
          cases fo
        · rw [k07.1 o ob e z] at fo
          cases fo
    refine for_range (n := n) (fun i σ H8 => ∃ (v4 v11 : Option V), σ = [some (.ref p), some (.int n), some (.str (Str.ofString "abcdefghijklmnopqrstuvwxyz")), some (.int (sz : Int)), v4, some (.str (S bs)), some (.int (at_ : Int)), some (.int (bg : Int)), some (.int (st : Int)), some (.int (lot : Int)), some (.ref o), v11] ∧
        H8 o = some (.lst (((List.range i).map (NH.word bs at_ bg st lot)).map fun l => V.str (S l))) ∧ Held H8 p c ∧ Kp p H H8 ∧ Cel p o H8)
      ⟨none, none, rfl, upd_same, (pen7.same so).weak (by omega), k07.trans (Kp.same so), (Cel.of pen7 fo).kp (Kp.same so)⟩ ?_ ?_
    · rintro i σ H8 hi ⟨v4, v11, rfl, ho8, pen8, k8, off8⟩
      have len0 : (S bs).length ≤ sizeLine := by rw [SX.S_len]; exact Nat.le_trans (by omega : bs.length ≤ 8) (by decide)
      have lets_len : (Str.ofString "abcdefghijklmnopqrstuvwxyz").length ≤ sizeLine := by decide +kernel
      obtain ⟨m, hm⟩ : ∃ m : Nat, (if lot = 0 then 8 else i % (bs.length - at_ + 1)) = m := ⟨_, rfl⟩
      refine ⟨fun σ' H' => σ' = [some (.ref p), some (.int n), some (.str (Str.ofString "abcdefghijklmnopqrstuvwxyz")), some (.int (sz : Int)), some (.int (0 + (i : Int))), some (.str (S bs)), some (.int (at_ : Int)), some (.int (bg : Int)), some (.int (st : Int)), some (.int (lot : Int)), some (.ref o), some (.str (S ((bs.drop at_).take m)))] ∧ Same H8 H', ?_, ?_⟩
      · refine ⟨_, rfl, _, rfl, _, rfl, _, rfl, _, rfl, _, rfl, _, rfl, _, _, rfl, rfl, _, _, rfl, rfl, _, _, rfl, rfl, by omega, by show 2 ≤ sizeLine; decide, fun u2 fu2 => ?_⟩
        have eix : atI [V.int 8, .int ((0 + (i : Int)) % ((sz : Int) - (at_ : Int) + 1))] (lot : Int) = some (.int (m : Nat)) := by
          rcases (show lot = 0 ∨ lot = 1 by omega) with rfl | rfl
          · rw [← hm]
            rfl
          · have h1 : ((sz : Int) - (at_ : Int) + 1) = ((bs.length - at_ + 1 : Nat) : Int) := by omega
            rw [h1, Int.zero_add, ← Int.natCast_emod, ← hm]
            rfl
        refine ⟨_, rfl, u2, _, _, _, rfl, rfl, SqL.of upd_same, eix, _, _, rfl, rfl, _, rfl, _, rfl, len0, ?_⟩
        rw [cut_m (j := at_) (m := m) rfl (by omega) hat]
        exact ⟨rfl, same_new fu2⟩
      · rintro σ' H9 ⟨rfl, s9⟩
        have ho9 := s9 _ _ ho8
        have e5 : ((bg : Int) + (st : Int) * (0 + (i : Int))) % 26 = (((bg + st * i) % 26 : Nat) : Int) := by
          rw [Int.zero_add, ← Int.natCast_mul, ← Int.natCast_add]
          exact (Int.natCast_emod _ 26).symm
        refine ⟨_, rfl, Or.inl ⟨rfl, _, SqL.of ho9⟩, _, rfl, _, rfl, _, rfl, _, rfl, len0, ?_⟩
        rw [cut_t rfl hat]
        refine ⟨_, rfl, _, rfl, _, rfl, _, rfl, _, _, rfl, rfl, cb_l (by omega) (by omega), _, _, rfl, rfl, _, _, rfl, rfl, (by decide : (0 : Int) < 26), _, _, _, rfl, rfl, lets_len, at_lets e5 (Nat.mod_lt _ (by decide)), _, _, rfl, rfl, ?_, ?_⟩
        · rw [SX.S_len, List.length_take]
          exact Nat.le_trans (by show min at_ bs.length + 1 ≤ 64; omega) (by decide)
        have ec : S (bs.take at_) ++ (⟨#[97 + (bg + st * i) % 26]⟩ : Str) = S (bs.take at_ ++ [97 + (bg + st * i) % 26]) := SX.S_cat _ _
        rw [ec]
        refine ⟨_, rfl, _, _, rfl, rfl, ?_, ?_⟩
        · rw [SX.S_len, SX.S_len, List.length_append, List.length_take, List.length_take, List.length_drop]
          exact Nat.le_trans (by show min at_ bs.length + 1 + min m (bs.length - at_) ≤ 64; omega) (by decide)
        rw [SX.S_cat]
        have ew : bs.take at_ ++ [97 + (bg + st * i) % 26] ++ (bs.drop at_).take m = NH.word bs at_ bg st lot i := by rw [← hm]; rfl
        rw [ew]
        refine ⟨o, _, _, rfl, rfl, ho9, ?_, _, _, rfl, ?_, (pen8.same s9).put (off8.kp (Kp.same s9)), (k8.trans (Kp.same s9)).new fo0, (off8.kp (Kp.same s9)).put off8.ne.symm⟩
        · rw [List.length_map, List.length_map, List.length_range]
          exact Nat.lt_of_lt_of_le (by omega : i < 64) (by decide)
        · rw [upd_same, List.range_succ, List.map_append, List.map_append]
          rfl
    · rintro σ H8 ⟨v4, v11, rfl, ho8, pen8, k8, off8⟩
      refine ⟨_, rfl, hQ o _ H8 pen8 k8 fo0 ho8 (by simp) (fun z hz => ?_) (NH.all_unlike hat hst n hn)⟩
      obtain ⟨k, _, rfl⟩ := List.mem_map.mp hz
      exact NH.word_ok (by omega) hbc hat
end
end K60
set_option Elab.async false
set_option linter.all false
set_option maxRecDepth 100000
set_option maxHeartbeats 4000000
namespace K60
open PySem PySem.Spec PyProof.Rows L2
open C8 (Cal Mak Met pe_c pe_mk pe_mt pe_mt0)
/-- a day: unlike names of the order -/
structure DayOk (xs R : List Str) : Prop where
  ne : R ≠ []
  nd : R.Nodup
  sub : ∀ y ∈ R, y ∈ xs
  ln : R.length ≤ xs.length
theorem map_eraseIdx' {α β : Type} {g : α → β} : ∀ {xs : List α} {q : Nat}, (xs.map g).eraseIdx q = (xs.eraseIdx q).map g
  | [], _ => rfl
  | _ :: _, 0 => rfl
  | x :: xs, q + 1 => by simp [map_eraseIdx' (xs := xs) (q := q)]
theorem perm_eraseIdx {α : Type} : ∀ {xs : List α} {q : Nat} (h : q < xs.length), xs.Perm (xs[q] :: xs.eraseIdx q)
  | x :: xs, 0, _ => by simp
  | x :: xs, q + 1, h => by
    have hq : q < xs.length := by simpa using h
    simp only [List.getElem_cons_succ, List.eraseIdx_cons_succ]
    exact ((perm_eraseIdx hq).cons x).trans (List.Perm.swap _ _ _)
theorem Kp.free {h t : Addr} {H H' : Hp} {c : Nat} (k : Kp h H H') (pn : Held H' h c) (f : H' t = none) : H t = none := by
  cases e : H t with
  | none => rfl
  | some o =>
    by_cases z : t = h
    · rw [z] at f
      obtain ⟨l, ns, n, m, h1, _⟩ := pn
      rw [h1] at f
      cases f
    · rw [k.1 t o e z] at f
      cases f
theorem Kp.tupS {K : PySem.W.Frag} {h t : Addr} {H H' : Hp} {c : Nat} {xs : List V} (k : Kp h H H') (x : Held H h c) (e : H t = some (.tup xs)) : H' t = some (.tup xs) := by
  obtain ⟨l, ns, n, m, h1, _⟩ := x
  exact k.1 t _ e (ne_of e h1 (by intro z; cases z))
section
variable {P : Program} {w : World} {K : PySem.W.Frag} {mg : Str → Option Value} {base : Heap} {f C : Addr} {fd : FuncData}
def spDay : Sp := fun vs H Q _ => ∃ (h ot : Addr) (c : Nat) (xs : List Str), vs = [.ref h, .ref ot] ∧ Held H h (c + 20) ∧ H ot = some (.tup (xs.map V.str)) ∧ xs ≠ [] ∧ xs.Nodup ∧ xs.length ≤ 13 ∧
  ∀ (o : Addr) (R : List Str) (H' : Hp), Held H' h c → Kp h H H' → H o = none → H' o = some (.lst (R.map V.str)) → DayOk xs R → Q (.ref o) H'
theorem ok_day (F : Dn K d_l_day f fd) (bl : Bl mg) (bmin : mg "min" = none) (cD : CalD P w K mg base) : FnOk P w K mg base CX0 2 f fd ["_law_held_here", "_law_order"] spDay := by
  refine F.ok sc_l_day (fun vs H Q E h => ?_) (fun cdv A outer s H vs Q E hr h => ?_)
  · obtain ⟨h, ot, c, xs, rfl, _⟩ := h
    rfl
  · obtain ⟨h, ot, c, xs, rfl, hld, hot, xne, xnd, xlen, hQ⟩ := h
    refine ⟨_, PSs.nox (pss_cons (ps_set (i := 2) sc_l_day.nd rfl (.inl rfl) (pe_op op_add pe_int (pe_c cD hr (by decide) rfl (pa_cons (pv 0) (pa_cons (pe_callB call_len_seq rfl bl.len boot_len (pa_cons (pv 1) pa_nil)) pa_nil)))))
      (C8.pss_cut (ps_if (PW.pt (pw_and (pt_cmpR op_eq (pv 2) pe_int (nomark _)) (pw_and1 (pt_cmpR op_gt (pe_c cD hr (by decide) rfl (pa_cons (pv 0) (pa_cons pe_int pa_nil))) pe_int (nomark _)))))
        (pss_one (ps_set (i := 2) sc_l_day.nd rfl (.inl rfl) (pe_callB (call_min2 rfl) rfl bmin boot_min (pa_cons pe_int (pa_cons (pe_callB call_len_seq rfl bl.len boot_len (pa_cons (pv 1) pa_nil)) pa_nil))))) pss_nil)
      (pss_cons (ps_par (i := 3) (j := 4) rfl sc_l_day.nd rfl rfl (by decide) rfl rfl (pa_cons (pe_callTy call_list_of rfl bl.list boot_list (pa_cons (pv 1) pa_nil)) (pa_cons (pe_lst pa_nil) pa_nil)) rfl)
      (pss_cons (ps_for PassesOwn.never rfl (pi_range1 rfl bl.range (pa_cons (pv 2) pa_nil)) (pg_name (i := 5) sc_l_day.nd rfl (.inl rfl))
        (pss_one (ps_expr (pe_bm PySem.F.plainAttrs_list PySem.F.slot_list_append PySem.F.type_list_append mt_append (pv 4) (pa_cons (pe_bm PySem.F.plainAttrs_list PySem.F.slot_list_pop PySem.F.type_list_pop mt_popAt (pv 3) (pa_cons (pe_c cD hr (by decide) rfl (pa_cons (pv 0) (pa_cons (pe_callB call_len_seq rfl bl.len boot_len (pa_cons (pv 3) pa_nil)) pa_nil))) pa_nil)) pa_nil)))))
      (pss_one (ps_ret (pv 4))))))), ?_⟩
    have xpos : 0 < xs.length := List.length_pos_iff.mpr xne
    refine ⟨_, rfl, _, rfl, ot, _, rfl, .inr (SqT.of hot), h, c + 19, _, rfl, hld, by rw [List.length_map]; omega, by rw [List.length_map]; omega, fun r1 H1 a1 b1 held1 k1 => ⟨_, _, rfl, rfl, ?_⟩⟩
    rw [List.length_map] at b1
    have hot1 := k1.tupS (K := K) hld hot
    refine ⟨fun σ' H' => ∃ m : Nat, σ' = [some (.ref h), some (.ref ot), some (.int (m : Nat)), none, none, none] ∧ 1 ≤ m ∧ m ≤ xs.length ∧ Held H' h (c + 18) ∧ Kp h H H', ?_, ?_⟩
    · refine ⟨_, rfl, rfl, _, rfl, ?_⟩
      obtain ⟨k, rfl⟩ : ∃ k : Nat, r1 = k := ⟨r1.toNat, by omega⟩
      obtain ⟨m, hm⟩ : ∃ m : Nat, m = 1 + k := ⟨_, rfl⟩
      have hv : (fun i j => V.int (i + j)) 1 (k : Int) = V.int (m : Int) := by
        show V.int (1 + (k : Int)) = V.int (m : Int)
        rw [hm]; congr 1
      rw [hv]
      refine ite2 (fun _ => ?_) (fun _ => iteF ⟨m, rfl, by omega, by omega, held1.weak (by omega), k1⟩)
      refine ⟨_, rfl, h, c + 18, 4, rfl, held1, by decide, by decide, fun r2 H2 a2 b2 held2 k2 => ⟨_, _, rfl, rfl, _, rfl, ?_⟩⟩
      have hot2 := k2.tupS (K := K) held1 hot1
      refine ite2 (fun _ => ?_) (fun _ => ⟨m, rfl, by omega, by omega, held2, k1.trans k2⟩)
      refine ⟨_, rfl, ot, _, rfl, .inr (SqT.of hot2), _, _, rfl, ?_⟩
      rw [List.length_map]
      obtain ⟨m2, hm2, h21, h22⟩ : ∃ m2 : Nat, (if (xs.length : Int) < 2 then (xs.length : Int) else 2) = m2 ∧ 1 ≤ m2 ∧ m2 ≤ xs.length := by
        by_cases z : xs.length < 2
        · exact ⟨xs.length, if_pos (by omega), xpos, Nat.le_refl _⟩
        · exact ⟨2, if_neg (by omega), by decide, by omega⟩
      rw [hm2]
      exact ⟨m2, rfl, h21, h22, held2, k1.trans k2⟩
    rintro σ' H2 ⟨m, rfl, m1, mn, held2, k2⟩
    have hot2 := k2.tupS (K := K) hld hot
    refine ⟨_, rfl, ot, _, rfl, .inr (SqT.of hot2), fun ll fll => ⟨by show 0 ≤ sizeLine; decide, fun o fo => ⟨_, _, rfl, ?_⟩⟩⟩
    have sl := same_new (o := .lst (xs.map V.str)) fll
    have so := same_new (o := .lst []) fo
    have nlo : ll ≠ o := ne_of_none upd_same fo
    have fo2 : H2 o = none := sl.free fo
    have k4 : Kp h H (upd (upd H2 ll (.lst (xs.map V.str))) o (.lst [])) := k2.trans (Kp.same (sl.trans so))
    have fl0 : H ll = none := k2.free held2 fll
    have fo0 : H o = none := k2.free held2 fo2
    refine ⟨_, rfl, _, rfl, by omega, by omega, ?_⟩
    rw [Int.toNat_natCast]
    refine for_range (n := m) (fun i σ H5 => ∃ (L R : List Str) (v5 : Option V), σ = [some (.ref h), some (.ref ot), some (.int (m : Nat)), some (.ref ll), some (.ref o), v5] ∧ H5 ll = some (.lst (L.map V.str)) ∧ H5 o = some (.lst (R.map V.str)) ∧ (R ++ L).Perm xs ∧ R.length = i ∧ Held H5 h (c + 18 - i) ∧ Kp h H H5 ∧ Cel h ll H5 ∧ Cel h o H5)
      ⟨xs, [], _, rfl, by rw [upd_ne nlo]; exact upd_same, upd_same, List.Perm.refl _, rfl, held2.same (sl.trans so), k4, (Cel.of held2 fll).kp (Kp.same (sl.trans so)), (Cel.of held2 fo2).kp (Kp.same (sl.trans so))⟩ ?_ ?_
    · rintro i σ H5 hi ⟨L, R, v5, rfl, hL, hR, pm, rl, held5, k5, cl5, co5⟩
      have lenL : L.length = xs.length - i := by
        have := pm.length_eq
        rw [List.length_append] at this
        omega
      refine ⟨_, rfl, Or.inl ⟨rfl, _, SqL.of hR⟩, _, rfl, Or.inl ⟨rfl, _, SqL.of hL⟩, _, rfl, _, rfl, ll, _, rfl, .inl (SqL.of hL), h, c + 18 - (i + 1), _, rfl, held5.weak (by omega), by rw [List.length_map]; omega, by rw [List.length_map]; omega, fun r H6 a6 b6 held6 k6 => ?_⟩
      rw [List.length_map] at b6
      obtain ⟨q, rfl⟩ := Int.eq_ofNat_of_zero_le a6
      have hq : q < L.length := by omega
      have hL6 := k6.1 _ _ hL cl5.ne
      have hR6 := k6.1 _ _ hR co5.ne
      have cl6 := cl5.kp k6
      have co6 := co5.kp k6
      refine ⟨ll, _, _, q, .str L[q], rfl, rfl, hL6, by omega, by omega, ?_, ?_, ?_⟩
      · rw [List.length_map]
        unfold seqIndex?
        have z : ¬ ((q : Int) < 0) := by omega
        simp [hq, z]
      · rw [List.getElem?_map, List.getElem?_eq_getElem hq]
        rfl
      have hR7 : (upd H6 ll (.lst ((L.map V.str).eraseIdx q))) o = some (.lst (R.map V.str)) := by rw [upd_ne nlo.symm]; exact hR6
      refine ⟨o, _, _, rfl, rfl, hR7, ?_, L.eraseIdx q, R ++ [L[q]], _, rfl, ?_, ?_, ?_, by simp [rl], (held6.put cl6).put (co6.put cl6.ne.symm), ((k5.trans k6).new fl0).new fo0, (cl6.put cl6.ne.symm).put co6.ne.symm, (co6.put cl6.ne.symm).put co6.ne.symm⟩
      · rw [List.length_map, rl]
        exact Nat.lt_of_lt_of_le (by omega : i < 64) (by decide)
      · rw [upd_ne nlo, upd_same, map_eraseIdx']
      · rw [upd_same, List.map_append]
        rfl
      · have e1 : L.Perm (L[q] :: L.eraseIdx q) := perm_eraseIdx hq
        rw [List.append_assoc]
        exact (List.Perm.append_left R e1.symm).trans pm
    · rintro σ H5 ⟨L, R, v5, rfl, hL, hR, pm, rl, held5, k5, cl5, co5⟩
      have nd := pm.nodup_iff.mpr xnd
      refine ⟨_, rfl, hQ o R H5 (held5.weak (by omega)) k5 fo0 hR ⟨fun z => ?_, (List.nodup_append.mp nd).1, fun y hy => pm.mem_iff.mp (List.mem_append_left _ hy), by omega⟩⟩
      rw [z] at rl
      simp at rl
      omega
end
end K60
set_option Elab.async false
set_option linter.all false
set_option maxRecDepth 100000
set_option maxHeartbeats 4000000
/-! ST: len(set(xs)) of unlike texts, xs a list or a tuple. -/
namespace ST
open PySem PySem.Spec PyProof.Rows
theorem not_yet {xs : List Str} (hn : xs.Nodup) {i : Nat} (h : i < xs.length) : ((xs.take i).any (· == xs.getD i Str.empty)) = false := by
  have e : xs.getD i Str.empty = xs[i] := by rw [List.getD_eq_getElem?_getD, List.getElem?_eq_getElem h]; rfl
  rw [e, List.any_eq_false]
  intro x hx z
  obtain ⟨j, hj, ej⟩ := List.getElem_of_mem hx
  have hji : j < i := by rw [List.length_take] at hj; omega
  rw [List.getElem_take] at ej
  exact List.pairwise_iff_getElem.mp hn j i (by omega) h hji (ej.trans (beq_iff_eq.mp z))
theorem one_more (xs : List Str) {i : Nat} (h : i < xs.length) (k : Str) : ((xs.take i).any (· == k) || decide (k = xs.getD i Str.empty)) = (xs.take (i + 1)).any (· == k) := by
  have e : xs.getD i Str.empty = xs[i] := by rw [List.getD_eq_getElem?_getD, List.getElem?_eq_getElem h]; rfl
  rw [e, List.take_add_one, List.getElem?_eq_getElem h, List.any_append]
  congr 1
  show decide (k = xs[i]) = [xs[i]].any (· == k)
  rw [List.any_cons, List.any_nil, Bool.or_false, Bool.eq_iff_iff, decide_eq_true_eq, beq_iff_eq]
  exact ⟨Eq.symm, Eq.symm⟩
section
variable {prog : Program} {w : World} {A : Around} {R : Result → Shared → Prop} {I S : Addr} {fp wr : List Addr} {G : Array GenState → Array GenState → Prop} {n : Nat} {P : Nat → Value → Prop} {St : Nat → Shared → Prop}
/-- the set of the first i of them stands at S -/
abbrev Has (prog : Program) (w : World) (S : Addr) (xs : List Str) (i : Nat) (h : Heap) : Prop := h.SetOf (PySem.strKind prog w) S (fun k => (xs.take i).any (· == k)) i
theorem Has.to {xs : List Str} {i : Nat} {h h' : Heap} (x : Has prog w S xs i h) (k : ∀ o, h.get? S = some o → h'.get? S = some o) : Has prog w S xs i h' := by
  obtain ⟨o, es, ep, t, ho, r⟩ := x
  exact ⟨o, es, ep, t, k o ho, r⟩
theorem walk (W : WalksS prog w A.in1 I fp wr G n P St) (hf : S ∉ fp) {xs : List Str} (hn : xs.Nodup) (hl : xs.length = n) (hb : n + 1 < scanBound) (hv : ∀ i v, P i v → ∃ t, v = .str (xs.getD i Str.empty) t) :
    ∀ (r i : Nat) (s : Shared), i + r = n → St i s → Has prog w S xs i s.heap → (∀ s', Moved (S :: wr) G s s' → Has prog w S xs n s'.heap → R (.ok (.ret .none)) s') →
      codeAny (model prog w) A (.builtin "set.update.loop" ⟨[.ref S, .ref I], []⟩) R s := by
  have nw : S ∉ wr := fun z => hf (W.sub _ z)
  have up : ∀ b ∈ wr, b ∈ S :: wr := fun b z => List.mem_cons_of_mem _ z
  intro r
  induction r with
  | zero =>
    intro i s e st hs fin
    cases (show i = n from e)
    refine codeAny_builtin PyProof.Rows.F.entry_set_update_loop ?_; rw [Around.under_plainId PyProof.Rows.F.plain_set_update_loop _]
    show wpAny _ A.in1 (pyNext (.ref I) >>= _) _ _ s; refine wpAny_bind (W.done s _ _ st fun s' m => ?_)
    exact wpAny_pure (fin s' (m.mono up) (hs.to fun o => m.heap S o nw))
  | succ r ih =>
    intro i s e st hs fin
    have li : i < n := by omega
    refine codeAny_builtin PyProof.Rows.F.entry_set_update_loop ?_; rw [Around.under_plainId PyProof.Rows.F.plain_set_update_loop _]
    show wpAny _ A.in1 (pyNext (.ref I) >>= _) _ _ s; refine wpAny_bind (W.item i s _ _ li st fun v s' pv st' m => ?_)
    obtain ⟨t, rfl⟩ := hv i v pv
    have hs' := hs.to fun o => m.heap S o nw
    show wpAny _ A.in1 (holding [Value.str (xs.getD i Str.empty) t] (setAdd S (.str (xs.getD i Str.empty) t)) >>= _) _ _ s'; refine wpAny_bind (wpAny_holding ?_)
    unfold setAdd
    refine wpAny_holding (wpAny_bind ((PySem.strKind prog w).pyHash (k := xs.getD i Str.empty) (strKind_is _ _ _ _) ?_))
    refine wpAny_setAddHashed_of (knd := PySem.strKind prog w) (s := { s' with toks := s'.toks + 1 }) (strKind_is _ _ _ _) rfl hs' (by omega) fun h' but h2 => ?_
    have hs2 : Has prog w S xs (i + 1) h' := SetOf_congr h2 (fun k => one_more xs (by omega) k) (by
      have z : (xs.take i).any (· == xs.getD i Str.empty) = false := not_yet hn (by omega)
      show (if (xs.take i).any (· == xs.getD i Str.empty) = true then i else i + 1) = i + 1
      rw [z]; rfl)
    refine wpAny_pure ⟨plainId_quiet PyProof.Rows.F.plain_set_update_loop _, ih (i + 1) _ (by omega) (W.frame _ s' _ _ st' (Nat.le_succ _) fun b hb o eo => ?_) hs2 fun s2 m2 h3 => ?_⟩
    · rw [but.2 b (fun z : b = S => hf (z ▸ hb))]
      exact eo
    · refine fin s2 (Moved.trans W.gtrans ((m.mono up).then_heap (Nat.le_succ _) fun b o hb eo => ?_) m2) h3
      rw [but.2 b (fun z : b = S => hb (z ▸ List.mem_cons_self))]
      exact eo
end
/-- a new set -/
abbrev fresh (led : Bool) : Obj := { cls := .type "set", dict := none, data := .set #[] 0 (.fresh 0 0 led) }
section
variable {prog : Program} {w : World} {A : Around} {E : Value → Shared → Prop} {s : Shared}
/-- how the call of set ends -/
abbrev EndOf (prog : Program) (w : World) (xs : List Str) (s : Shared) (s2 : Shared) : Prop := ∃ h' tk, s2 = { s with heap := h', toks := tk } ∧ Has prog w s.heap.objs.size xs xs.length h' ∧ ∀ b o, s.heap.get? b = some o → h'.get? b = some o
set_option maxHeartbeats 8000000 in
/-- set(xs), given what __init__ does with the new set -/
theorem call_by {l : Addr} {xs : List Str} {Q : Value → Shared → Prop}
    (hi : ∀ led : Bool, wpAny (model prog w) A.in1.in1 (Builtin.«set.__init__» ⟨[.ref s.heap.objs.size, .ref l], []⟩)
      (fun fin s' => match fin with | .done f => wants (fun r s₂ => r = .none ∧ EndOf prog w xs s s₂) E (.ok f) s' | .again c' => c'.quiet = true ∧ codeAny (model prog w) A.in1 c' (wants (fun r s₂ => r = .none ∧ EndOf prog w xs s s₂) E) s')
      (fun e s' => wants (fun r s₂ => r = .none ∧ EndOf prog w xs s s₂) E (.error e) s') { s with heap := s.heap.push (fresh led) })
    (h : ∀ s2, EndOf prog w xs s s2 → Q (.ref s.heap.objs.size) s2) : wpAny (model prog w) A (call (.type "set") [.ref l]) Q E s := by
  obtain ⟨c0, t0, mro0⟩ := PySem.F.called_set.mro
  have made0 := PySem.F.called_set.made; have sub0 := PySem.F.called_set.sub
  refine wpAny_call (codeAny_of_tree ?_); show wpAny _ _ (callAny (.type "set") _) _ _ _
  refine wpAny_pure ⟨Code.quiet_builtin _ (by decide +kernel), codeAny_builtin PySem.F.entry_type_call ?_⟩; rw [Around.under_plain (weight_type_call_type "set" [.ref l] []) rfl]
  have nt0 := PySem.F.called_set.notType; have cc0 := PySem.F.called_set.canCreate; have ct0 := PySem.F.typeCall_set_1 (.ref l)
  (repeat (any_goals (first | assumption | wp_step)))
  refine codeAny_mono (code_set_new_1 (.ref l) (E := E) (Q₁ := fun ob s1 => ∃ led : Bool, ob = .ref s.heap.objs.size ∧ s1 = { s with heap := s.heap.push (fresh led) }) fun led => ⟨led, rfl, rfl⟩) fun r s1 hr => ?_
  match r, hr with
  | .error e, hr => exact hr
  | .ok .next, hr => exact hr.elim
  | .ok .brk, hr => exact hr.elim
  | .ok .cont, hr => exact hr.elim
  | .ok (.ret ob), hr =>
    obtain ⟨led, rfl, rfl⟩ := hr
    have at0 : (s.heap.push (fresh led)).get? s.heap.objs.size = some (fresh led) := Heap.get?_push_size _ rfl
    have ty0 : Shared.TypeIs { s with heap := s.heap.push (fresh led) } (.ref s.heap.objs.size) "set" := ⟨_, at0, rfl⟩
    have lo0 := PySem.F.called_set.init.lookup; have bi0 := PySem.F.called_set.init.bind (.ref s.heap.objs.size)
    (repeat (any_goals (first | assumption | wp_step)))
    refine codeAny_mono (codeAny_call_builtin (R := wants (fun r s₂ => r = .none ∧ EndOf prog w xs s s₂) E) PySem.F.called_set.init.plain PySem.F.entry_set_init (check_set_init_1 ty0 (hi led))) fun r2 s2 hr2 => ?_
    match r2, hr2 with
    | .error e, hr2 => exact hr2
    | .ok .next, hr2 => exact hr2.elim
    | .ok .brk, hr2 => exact hr2.elim
    | .ok .cont, hr2 => exact hr2.elim
    | .ok (.ret v), hr2 =>
      obtain ⟨rfl, en⟩ := hr2
      have q := h s2 en
      obtain ⟨h', tk, rfl, h1, h2⟩ := en
      (repeat (any_goals (first | assumption | wp_step)))
set_option maxHeartbeats 8000000 in
theorem call_tup {l : Addr} {items : Array Value} {xs : List Str} {Q : Value → Shared → Prop} (hh : A.handled = none) (hl : s.heap.IsTuple l items) (hi : PyProof.Rows.StrsAre items.toList xs) (hn : xs.Nodup) (hb : xs.length + 1 < scanBound)
    (h : ∀ s2, EndOf prog w xs s s2 → Q (.ref s.heap.objs.size) s2) : wpAny (model prog w) A (call (.type "set") [.ref l]) Q E s := by
  refine call_by (xs := xs) (fun led => ?_) h
  obtain ⟨ol, ho, hc, nl, hd⟩ := hl
  obtain ⟨cl, dc, dt, sl⟩ := ol
  simp only at hc hd
  subst hc; subst hd
  have o1 : (s.heap.push (fresh led)).get? l = some { cls := .type "tuple", dict := dc, data := .seq items nl, slots := sl } := Heap.get?_push_of_some _ ho
  have l1 : (s.heap.push (fresh led)).IsTuple l items := ⟨_, o1, rfl, nl, rfl⟩
  have at0 : (s.heap.push (fresh led)).get? s.heap.objs.size = some (fresh led) := Heap.get?_push_size _ rfl
  have u1 := PySem.F.sub_tuple_set; have u2 := PySem.F.sub_tuple_frozenset; have u3 : (Value.type "tuple" == Value.type "dict") = false := by decide
  unfold Builtin.«set.__init__» noKeywords Builtin.Frozenset.updateFrom; generalize hp : pyIter = pit
  wp_walk
  subst hp
  refine wpAny_pyIter_tuple l1 (wpAny_bind (wpAny_runValue ?_))
  have ls : l < s.heap.objs.size := Heap.lt_size ho
  have h3 : A.in1.in1.in1.handled = none := by simp [hh]
  have ne1 : l ≠ (s.heap.push (fresh led)).objs.size := by rw [Heap.size_push]; exact Nat.ne_of_lt (Nat.lt_succ_of_lt ls)
  have nf : s.heap.objs.size ∉ [(s.heap.push (fresh led)).objs.size, l] := by
    rw [Heap.size_push]
    intro z
    simp only [List.mem_cons, List.not_mem_nil, or_false] at z
    rcases z with z | z
    · exact Nat.ne_of_lt (Nat.lt_succ_self _) z
    · exact Nat.ne_of_gt ls z
  have sz : xs.length = items.size := by rw [← StrsAre.len_eq hi, Array.length_toList]
  refine walk ((Walks.tuple h3 _ l ne1 items).toS) nf hn sz (by omega) (fun i v hv => SS.strs_at hi i v (by rw [Array.getElem?_toList]; exact hv)) items.size 0 _ (by omega) ⟨⟨_, Heap.get?_push_size _ rfl, rfl, rfl⟩, l1.push _⟩ ?_ ?_
  · exact PyProof.Rows.SetOf_congr ((PyProof.Rows.setObjOf_fresh (knd := PySem.strKind prog w) led).setOf (Heap.get?_push_of_some _ at0) (by unfold scanBound; omega)) (fun _ => rfl) rfl
  · intro s' hm hs'
    obtain ⟨h', g', d', tk', os'⟩ := s'
    cases (show g' = s.gens from hm.gens); cases (show d' = s.drawn from hm.drawn); cases (show os' = s.os from hm.os)
    show wpAny _ _ _ _ _ _
    refine wpAny_pure ?_
    show wpAny _ _ (ret Value.none) _ _ _
    refine wpAny_pure ⟨rfl, h', tk', rfl, by rw [sz]; exact hs', fun b o e => ?_⟩
    have lb : b < s.heap.objs.size := Heap.lt_size e
    refine hm.heap b o (fun z => ?_) (Heap.get?_push_of_some _ (Heap.get?_push_of_some _ e))
    rw [Heap.size_push] at z
    simp only [List.mem_cons, List.not_mem_nil, or_false] at z
    rcases z with z | z
    · exact Nat.ne_of_lt lb z
    · exact Nat.ne_of_lt (Nat.lt_succ_of_lt lb) z
set_option maxHeartbeats 8000000 in
theorem call_lst {l : Addr} {items : Array Value} {xs : List Str} {Q : Value → Shared → Prop} (hh : A.handled = none) (hl : s.heap.IsList l items) (hi : PyProof.Rows.StrsAre items.toList xs) (hn : xs.Nodup) (hb : xs.length + 1 < scanBound)
    (h : ∀ s2, EndOf prog w xs s s2 → Q (.ref s.heap.objs.size) s2) : wpAny (model prog w) A (call (.type "set") [.ref l]) Q E s := by
  refine call_by (xs := xs) (fun led => ?_) h
  obtain ⟨ol, ho, hc, nl, hd⟩ := hl
  obtain ⟨cl, dc, dt, sl⟩ := ol
  simp only at hc hd
  subst hc; subst hd
  have o1 : (s.heap.push (fresh led)).get? l = some { cls := .type "list", dict := dc, data := .seq items nl, slots := sl } := Heap.get?_push_of_some _ ho
  have l1 : (s.heap.push (fresh led)).IsList l items := ⟨_, o1, rfl, nl, rfl⟩
  have at0 : (s.heap.push (fresh led)).get? s.heap.objs.size = some (fresh led) := Heap.get?_push_size _ rfl
  have u1 := PySem.F.sub_list_set; have u2 := PySem.F.sub_list_frozenset; have u3 : (Value.type "list" == Value.type "dict") = false := by decide
  unfold Builtin.«set.__init__» noKeywords Builtin.Frozenset.updateFrom; generalize hp : pyIter = pit
  wp_walk
  subst hp
  refine wpAny_pyIter_list l1 (wpAny_bind (wpAny_runValue ?_))
  have ls : l < s.heap.objs.size := Heap.lt_size ho
  have h3 : A.in1.in1.in1.handled = none := by simp [hh]
  have ne1 : l ≠ (s.heap.push (fresh led)).objs.size := by rw [Heap.size_push]; exact Nat.ne_of_lt (Nat.lt_succ_of_lt ls)
  have nf : s.heap.objs.size ∉ [(s.heap.push (fresh led)).objs.size, l] := by
    rw [Heap.size_push]
    intro z
    simp only [List.mem_cons, List.not_mem_nil, or_false] at z
    rcases z with z | z
    · exact Nat.ne_of_lt (Nat.lt_succ_self _) z
    · exact Nat.ne_of_gt ls z
  have sz : xs.length = items.size := by rw [← StrsAre.len_eq hi, Array.length_toList]
  refine walk ((Walks.list h3 _ l ne1 items).toS) nf hn sz (by omega) (fun i v hv => SS.strs_at hi i v (by rw [Array.getElem?_toList]; exact hv)) items.size 0 _ (by omega) ⟨⟨_, Heap.get?_push_size _ rfl, rfl, rfl⟩, l1.push _⟩ ?_ ?_
  · exact PyProof.Rows.SetOf_congr ((PyProof.Rows.setObjOf_fresh (knd := PySem.strKind prog w) led).setOf (Heap.get?_push_of_some _ at0) (by unfold scanBound; omega)) (fun _ => rfl) rfl
  · intro s' hm hs'
    obtain ⟨h', g', d', tk', os'⟩ := s'
    cases (show g' = s.gens from hm.gens); cases (show d' = s.drawn from hm.drawn); cases (show os' = s.os from hm.os)
    show wpAny _ _ _ _ _ _
    refine wpAny_pure ?_
    show wpAny _ _ (ret Value.none) _ _ _
    refine wpAny_pure ⟨rfl, h', tk', rfl, by rw [sz]; exact hs', fun b o e => ?_⟩
    have lb : b < s.heap.objs.size := Heap.lt_size e
    refine hm.heap b o (fun z => ?_) (Heap.get?_push_of_some _ (Heap.get?_push_of_some _ e))
    rw [Heap.size_push] at z
    simp only [List.mem_cons, List.not_mem_nil, or_false] at z
    rcases z with z | z
    · exact Nat.ne_of_lt lb z
    · exact Nat.ne_of_lt (Nat.lt_succ_of_lt lb) z
end
end ST
namespace ST
open PySem PySem.Spec PyProof.Rows L2
section
variable {X : Cx}
/-- len(set(xs)): unlike texts -/
def tLenSet (K : PySem.W.Frag) (ta : TE) : TE := fun σ H Q => ta σ H fun x H1 => ∃ (l : Addr) (xs : List Str), x = .ref l ∧ (SqL K H1 l (xs.map V.str) ∨ SqT K H1 l (xs.map V.str)) ∧ xs.Nodup ∧ xs.length < 64 ∧ Q (.int xs.length) H1
theorem pe_lenSet {a : Expr} {ta : TE} {p p2 q pos : Pos} (hc : X.calm = true) (hg : Gl X "len") (hm : X.mg "len" = none) (hg2 : Gl X "set") (hm2 : X.mg "set" = none) (ha : PE X a ta)
    (na : starEach [a] X.env = (false, eval a X.env) :: starEach [] X.env := by rfl) : PE X (.Call (.Name "len" p) [.Call (.Name "set" p2) [a] [] q] [] pos) (tLenSet X.K ta) := by
  refine ⟨fun pins s σ H Q I h => Call_ (ld_blt I hg hm boot_len (PyProof.Rows.callWith_builtin1 (PyProof.Rows.args_cons (Call_ (ld_blt I hg2 hm2 boot_set ?_)) rfl) rfl rfl))⟩
  refine PyProof.Rows.callWith_type1 (PyProof.Rows.args_cons (thn (ha.run pins s σ H _ I h) fun v s1 ⟨x, H1, I1, r1, z1⟩ => PyProof.Rows.args_nil ?_) na) na rfl
  obtain ⟨l, xs, rfl, hs, hn, h6, q1⟩ := z1
  cases r1
  have sb : xs.length + 1 < scanBound := by unfold scanBound; omega
  have fin : ∀ s2, EndOf X.prog X.w xs s1 s2 → wpAny (model X.prog X.w) X.A (spliced (backTo pos (starEach [] X.env))) (fun vs s₂ => wpAny (model X.prog X.w) X.A (call (.builtin "len") (Value.ref s1.heap.objs.size :: vs)) (EP X pins σ Q) X.xe s₂) X.xe s2 := by
    rintro _ ⟨h', tk, rfl, hS, hk⟩
    refine PyProof.Rows.args_nil ?_
    obtain ⟨o, es, ep, t, ho, ex, hd, _, _, _, hf, hn⟩ := hS
    have I2 : Inv X pins σ H1 { s1 with heap := h', toks := tk } := I1.kept hk
    exact call_len_set ho ex hd hf (by rw [hn]; omega) ⟨.int xs.length, H1, I2.tok _, ⟨_, by rw [hn]⟩, q1⟩
  rcases hs with hs | hs
  · obtain ⟨its, r, pl, hz⟩ := I1.list hs
    exact call_lst (I1.ok.hd hc) pl.isList (by simpa using strsAre_of r) hn sb fin
  · obtain ⟨its, r, pl, hz⟩ := I1.tuple hs
    exact call_tup (I1.ok.hd hc) pl (by simpa using strsAre_of r) hn sb fin
end
end ST
set_option Elab.async false
set_option linter.all false
set_option maxRecDepth 100000
set_option maxHeartbeats 4000000
namespace K60
open PySem PySem.Spec PyProof.Rows L2
open C8 (Cal Mak Met pe_c pe_mk pe_mt pe_mt0)
open SX (S)
/-- more of the module's names -/
structure Bl2 (mg : Str → Option Value) : Prop where
  str : mg "str" = none
  all : mg "all" = none
  tup : mg "tuple" = none
  set : mg "set" = none
  zip : mg "zip" = none
  min : mg "min" = none
  enum : mg "enumerate" = none
section
variable {P : Program} {w : World} {K : PySem.W.Frag} {mg : Str → Option Value} {base : Heap} {f C : Addr} {fd : FuncData}
def spBetween : Sp := fun vs H Q _ => ∃ n lo hi : Int, vs = [.int n, .int lo, .int hi] ∧ Q (.bl (decide (lo ≤ n ∧ n ≤ hi))) H
theorem ok_between (F : Dn K d_is_between f fd) (cW : CalW P w K mg base) : FnOk P w K mg base CX0 2 f fd ["thing", "low", "high"] spBetween := by
  refine F.ok sc_is_between (fun vs H Q E h => ?_) (fun cdv A outer s H vs Q E hr h => ?_)
  · obtain ⟨n, lo, hi, rfl, _⟩ := h
    rfl
  · obtain ⟨n, lo, hi, rfl, hQ⟩ := h
    refine ⟨_, PSs.nox (pss_one (ps_ret (pe_and (pe_c cW hr (by decide) rfl (pa_cons (pv 0) pa_nil)) (pe_one (pe_chain op_le op_le (pv 1) (pv 0) (pv 2)))))), ?_⟩
    refine ⟨_, rfl, n, rfl, true, rfl, iteT ?_⟩
    refine ⟨_, rfl, _, rfl, _, _, rfl, rfl, _, rfl, ?_⟩
    refine ite2 (fun h1 => ?_) (fun h1 => ?_)
    · have h1' : lo ≤ n := of_decide_eq_true h1
      refine ⟨_, rfl, _, _, rfl, rfl, ?_⟩
      have e : decide (n ≤ hi) = decide (lo ≤ n ∧ n ≤ hi) := decide_eq_decide.mpr ⟨fun z => ⟨h1', z⟩, fun z => z.2⟩
      show Q (.bl (decide (n ≤ hi))) H
      rw [e]
      exact hQ
    · have h1' : ¬ lo ≤ n := fun z => h1 (decide_eq_true z)
      have e : decide (lo ≤ n ∧ n ≤ hi) = false := decide_eq_false fun z => h1' z.1
      rw [e] at hQ
      exact hQ
abbrev CalB (P : Program) (w : World) (K : PySem.W.Frag) (mg : Str → Option Value) (base : Heap) : Prop := Cal P w K mg base 2 "is_between" spBetween []
/-- what is a name -/
def spName : Sp := fun vs H Q _ => ∃ l : List Nat, vs = [.str (S l)] ∧ NM.ok l ∧ ∀ H', Same H H' → Q (.bl true) H'
theorem ok_name (F : Dn K d_is_name f fd) (b : Bl mg) (b2 : Bl2 mg) (g : ∃ t, mg "LONGEST_NAME" = some (.int 8 t)) : FnOk P w K mg base CX0 1 f fd ["thing"] spName := by
  refine F.ok sc_is_name (fun vs H Q E h => ?_) (fun cdv A outer s H vs Q E hr h => ?_)
  · obtain ⟨l, rfl, _⟩ := h
    rfl
  · obtain ⟨l, rfl, ⟨l1, l8, lc⟩, hQ⟩ := h
    obtain ⟨t, g⟩ := g
    have hz : (S l).length ≤ sizeLine := by rw [SX.S_len]; exact Nat.le_trans l8 (by decide)
    refine ⟨_, PSs.nox (pss_cons (ps_if (PW.pt (pw_or (pt_not (pt_val (pe_callB call_isi rfl b.isi boot_isinstance (pa_cons (pv 0) (pa_cons (pe_bltn (v := .ty "str") rfl b2.str boot_str rfl) pa_nil)))))
        (pw_or1 (pt_not (pt_chain op_le op_le pe_int (pe_callB call_len_str rfl b.len boot_len (pa_cons (pv 0) pa_nil)) (pe_glob (v := .int 8) rfl g ⟨t, rfl⟩)))))) pss_never pss_nil)
      (pss_one (ps_ret (pe_callB (cr_all rfl) rfl b2.all boot_all (pa_cons (pe_lc (own := [("sign", 1)]) (g := gName 1) (tt := tYes) rfl sc_is_name.nd (pi_str (pv 0)) (blkOk_by (N := N_is_name) (sc := defScope s_is_name) (by decide +kernel))
          (fun _ _ _ _ _ => pg_name (i := 1) sc_is_name.nd rfl (Or.inl rfl)) (fun _ _ _ _ _ => pts_nil) (fun _ _ _ _ _ => pe_chain op_le_str op_le_str pe_str (pv 1) pe_str)) pa_nil))))), ?_⟩
    refine ⟨_, rfl, _, _, _, _, true, rfl, ClsV.ty _, TyX.base (TyOf.str _), kit_ty (by decide +kernel), true, rfl, iteF ?_⟩
    refine ⟨_, rfl, _, rfl, hz, _, _, rfl, rfl, _, rfl, ?_⟩
    rw [SX.S_len]
    refine ite2 (fun _ => ?_) (fun z => absurd (decide_eq_true (by omega)) z)
    refine ⟨_, _, rfl, rfl, _, rfl, ?_⟩
    have e8 : decide ((l.length : Int) ≤ 8) = true := decide_eq_true (by omega)
    rw [e8]
    refine iteF ?_
    refine ⟨_, rfl, _, rfl, fun D hD => lc_it walk_str (fun i H2 => H2 D = some (.lst ((List.replicate i true).map V.bl)) ∧ Same H H2) ⟨upd_same, same_new hD⟩ (fun _ _ _ _ => trivial) ?_ ?_⟩
    · rintro i x H2 H3 hi ⟨hd, sm⟩ ⟨rfl, c', hc', rfl⟩
      have hi' : i < l.length := by simpa [S] using hi
      have hmem : c' ∈ l := by
        have : l[i]? = some c' := by simpa [S] using hc'
        exact List.mem_of_getElem? this
      have hcc := lc c' hmem
      refine ⟨rfl, ?_⟩
      refine ⟨_, rfl, _, _, rfl, rfl, _, rfl, ?_⟩
      have ea : (!decide ((⟨#[c']⟩ : Str).cps.toList < (Str.ofString "a").cps.toList)) = true := by
        have e1 : (Str.ofString "a").cps.toList = [97] := by decide +kernel
        rw [e1]
        have : ¬ (([c'] : List Nat) < [97]) := by
          rw [List.cons_lt_cons_iff]
          rintro (z | ⟨z, z'⟩)
          · omega
          · exact absurd z' (by simp)
        simp [this]
      have ez : (!decide ((Str.ofString "z").cps.toList < (⟨#[c']⟩ : Str).cps.toList)) = true := by
        have e1 : (Str.ofString "z").cps.toList = [122] := by decide +kernel
        rw [e1]
        have : ¬ (([122] : List Nat) < [c']) := by
          rw [List.cons_lt_cons_iff]
          rintro (z | ⟨z, z'⟩)
          · omega
          · exact absurd z' (by simp)
        simp [this]
      rw [ea]
      refine iteT ⟨_, _, rfl, rfl, ?_⟩
      rw [ez]
      refine ⟨_, hd, ?_, ?_, ?_⟩
      · rw [List.length_map, List.length_replicate]
        exact Nat.lt_of_lt_of_le (by omega : i < 64) (by decide)
      · rw [upd_same]
        simp [List.replicate_succ']
      · intro a o e
        rw [upd_ne (ne_of_none e hD)]
        exact sm a o e
    · rintro H2 ⟨hd, sm⟩
      refine ⟨D, _, rfl, SqL.of hd, ?_⟩
      have e3 : (List.replicate (S l).cps.size true).all id = true := by simp
      rw [e3]
      exact hQ H2 sm

/-- an order: one to eight unlike names -/
structure Ord (xs : List Str) : Prop where
  ne : xs ≠ []
  l8 : xs.length ≤ 8
  nd : xs.Nodup
  nm : ∀ x ∈ xs, ∃ l, x = S l ∧ NM.ok l
abbrev CalN (P : Program) (w : World) (K : PySem.W.Frag) (mg : Str → Option Value) (base : Heap) : Prop := Cal P w K mg base 1 "is_name" spName []
def spOrder : Sp := fun vs H Q _ => ∃ (ot : Addr) (xs : List Str), vs = [.ref ot] ∧ H ot = some (.tup (xs.map V.str)) ∧ Ord xs ∧ ∀ H', Same H H' → Q (.bl true) H'
theorem ok_order (F : Dn K d_is_order f fd) (b : Bl mg) (b2 : Bl2 mg) (g : ∃ t, mg "MOST_NAMES" = some (.int 8 t)) (cN : CalN P w K mg base) : FnOk P w K mg base CX0 2 f fd ["thing"] spOrder := by
  refine F.ok sc_is_order (fun vs H Q E h => ?_) (fun cdv A outer s H vs Q E hr h => ?_)
  · obtain ⟨ot, xs, rfl, _⟩ := h
    rfl
  · obtain ⟨ot, xs, rfl, hot, ox, hQ⟩ := h
    obtain ⟨t, g⟩ := g
    have xpos : 0 < xs.length := List.length_pos_iff.mpr ox.ne
    have l8 := ox.l8
    refine ⟨_, PSs.nox (pss_cons (ps_if (PW.pt (pw_or (pt_not (pt_val (pe_callB call_isi rfl b.isi boot_isinstance (pa_cons (pv 0) (pa_cons (pe_bltn (v := .ty "tuple") rfl b2.tup boot_tuple rfl) pa_nil)))))
        (pw_or1 (pt_not (pt_chain op_le op_le pe_int (pe_callB call_len_seq rfl b.len boot_len (pa_cons (pv 0) pa_nil)) (pe_glob (v := .int 8) rfl g ⟨t, rfl⟩)))))) pss_never pss_nil)
      (pss_one (ps_ret (pe_and (pe_callB (cr_all rfl) rfl b2.all boot_all (pa_cons (pe_lc (own := [("name", 1)]) (g := gName 1) (tt := tYes) rfl sc_is_order.nd (pi_tup (pv 0)) (blkOk_by (N := N_is_order) (sc := defScope s_is_order) (by decide +kernel))
          (fun _ _ _ _ _ => pg_name (i := 1) sc_is_order.nd rfl (Or.inl rfl)) (fun _ _ _ _ _ => pts_nil) (fun _ _ _ _ _ => pe_c cN hr (by decide) rfl (pa_cons (pv 1) pa_nil))) pa_nil))
        (pe_one (pe_cmpR op_eq (ST.pe_lenSet rfl rfl b.len rfl b2.set (pv 0)) (pe_callB call_len_seq rfl b.len boot_len (pa_cons (pv 0) pa_nil)) (nomark _))))))), ?_⟩
    refine ⟨_, rfl, _, _, _, _, true, rfl, ClsV.ty _, TyX.base (TyOf.tup hot), kit_ty (by decide +kernel), true, rfl, iteF ?_⟩
    refine ⟨_, rfl, ot, _, rfl, .inr (SqT.of hot), _, _, rfl, rfl, _, rfl, ?_⟩
    rw [List.length_map]
    refine ite2 (fun _ => ?_) (fun z => absurd (decide_eq_true (by omega)) z)
    refine ⟨_, _, rfl, rfl, _, rfl, ?_⟩
    have e8 : decide ((xs.length : Int) ≤ 8) = true := decide_eq_true (by omega)
    rw [e8]
    refine iteF ?_
    refine ⟨_, rfl, ot, rfl, ⟨_, SqT.of hot⟩, fun D hD => lc_tup (fun i H2 => H2 D = some (.lst ((List.replicate i true).map V.bl)) ∧ Same H H2) ⟨upd_same, same_new hD⟩ (fun _ H2 _ z => SqT.of (z.2 _ _ hot)) ?_ ?_⟩
    · rintro i x H2 hx ⟨hd, sm⟩
      have hi' : i < xs.length := by
        have := (List.getElem?_eq_some_iff.mp hx).1
        simpa using this
      rw [List.getElem?_map] at hx
      obtain ⟨y, hy, rfl⟩ := Option.map_eq_some_iff.mp hx
      obtain ⟨l, rfl, hl⟩ := ox.nm y (List.mem_of_getElem? hy)
      refine ⟨rfl, ?_⟩
      refine ⟨_, rfl, l, rfl, hl, fun H3 s3 => ⟨_, s3 _ _ hd, ?_, ?_, ?_⟩⟩
      · rw [List.length_map, List.length_replicate]
        exact Nat.lt_of_lt_of_le (by omega : i < 64) (by decide)
      · rw [upd_same]
        simp [List.replicate_succ']
      · intro a o e
        rw [upd_ne (ne_of_none e hD)]
        exact s3 a o (sm a o e)
    · rintro H2 ⟨hd, sm⟩
      refine ⟨D, _, rfl, SqL.of hd, true, ?_, ?_⟩
      · have e3 : (List.replicate (xs.map V.str).length true).all id = true := by simp
        rw [e3]
      refine iteT ?_
      refine ⟨_, rfl, ot, xs, rfl, .inr (SqT.of (sm _ _ hot)), ox.nd, by omega, _, rfl, ot, _, rfl, .inr (SqT.of (sm _ _ hot)), ?_⟩
      rw [List.length_map]
      exact ⟨rfl, by simpa using hQ H2 sm⟩
/-- a rule by the least credit -/
def LeastR (H : Hp) (r ot : Addr) (xs : List Str) (g : Int) : Prop := H r = some (.tup [.str "least", .ref ot, .int g]) ∧ H ot = some (.tup (xs.map V.str)) ∧ Ord xs ∧ 0 ≤ g ∧ g ≤ 1000
theorem LeastR.ext {H H' : Hp} {r ot : Addr} {xs : List Str} {g : Int} (h : LeastR H r ot xs g) (e : ∀ a ys, H a = some (.tup ys) → H' a = some (.tup ys)) : LeastR H' r ot xs g := ⟨e _ _ h.1, e _ _ h.2.1, h.2.2⟩
/-- the word of a rule -/
inductive Word where
  | least (g : Int)
  | longest
  | rounds
def Word.vs (ot : Addr) : Word → List V
  | .least g => [.str "least", .ref ot, .int g]
  | .longest => [.str "longest", .ref ot]
  | .rounds => [.str "rounds", .ref ot]
def Word.ok : Word → Prop
  | .least g => 0 ≤ g ∧ g ≤ 1000
  | _ => True
theorem Word.at1 (ot : Addr) (w : Word) : atI (w.vs ot) 1 = some (.ref ot) := by cases w <;> rfl
theorem l_least : decide (V.str "longest" = V.str "least") = false := by decide +kernel
theorem l_rounds : decide (V.str "longest" = V.str "rounds") = false := by decide +kernel
theorem e_rounds : decide (V.str "least" = V.str "rounds") = false := by decide +kernel
theorem r_least : decide (V.str "rounds" = V.str "least") = false := by decide +kernel
theorem r_longest : decide (V.str "rounds" = V.str "longest") = false := by decide +kernel
/-- a rule of any word -/
structure Rule3 (H : Hp) (r ot : Addr) (xs : List Str) (w : Word) : Prop where
  hr : H r = some (.tup (w.vs ot))
  ho : H ot = some (.tup (xs.map V.str))
  ox : Ord xs
  ok : w.ok
theorem Rule3.ext {H H' : Hp} {r ot : Addr} {xs : List Str} {w : Word} (h : Rule3 H r ot xs w) (e : ∀ a ys, H a = some (.tup ys) → H' a = some (.tup ys)) : Rule3 H' r ot xs w := ⟨e _ _ h.hr, e _ _ h.ho, h.ox, h.ok⟩
theorem Rule3.same {H H' : Hp} {r ot : Addr} {xs : List Str} {w : Word} (h : Rule3 H r ot xs w) (e : Same H H') : Rule3 H' r ot xs w := h.ext fun a ys z => e _ _ z
theorem Rule3.least {H : Hp} {r ot : Addr} {xs : List Str} {g : Int} (h : Rule3 H r ot xs (.least g)) : LeastR H r ot xs g := ⟨h.hr, h.ho, h.ox, h.ok.1, h.ok.2⟩
def spRule : Sp := fun vs H Q _ => ∃ (r ot : Addr) (xs : List Str) (w : Word), vs = [.ref r] ∧ Rule3 H r ot xs w ∧ ∀ H', Same H H' → Q (.bl true) H'
theorem ok_or {k : Nat} {ps : List Str} {sp1 sp2 : Sp} (F1 : FnOk P w K mg base CX0 k f fd ps sp1) (F2 : FnOk P w K mg base CX0 k f fd ps sp2) : FnOk P w K mg base CX0 k f fd ps (fun vs H Q E => sp1 vs H Q E ∨ sp2 vs H Q E) :=
  ⟨fun vs H Q E h => h.elim (F1.len vs H Q E) (F2.len vs H Q E), fun A outer s H args us vs Q E hr he hb hv h => h.elim (F1.run A outer s H args us vs Q E hr he hb hv) (F2.run A outer s H args us vs Q E hr he hb hv)⟩
def spRuleW (wd : Str) : Sp := fun vs H Q _ => ∃ (r ot : Addr) (xs : List Str), vs = [.ref r] ∧ H r = some (.tup [.str wd, .ref ot]) ∧ H ot = some (.tup (xs.map V.str)) ∧ Ord xs ∧ ∀ H', Same H H' → Q (.bl true) H'
theorem ok_ruleW {wd : Str} (nl : decide (V.str wd = V.str "least") = false) (iv : inV (.str wd) [.str "longest", .str "rounds"] = true) (F : Dn K d_is_rule f fd) (b : Bl mg) (b2 : Bl2 mg) (cO : Cal P w K mg base 2 "is_order" spOrder []) : FnOk P w K mg base CX0 3 f fd ["thing"] (spRuleW wd) := by
  refine F.ok sc_is_rule (fun vs H Q E h => ?_) (fun cdv A outer s H vs Q E hr h => ?_)
  · obtain ⟨r, ot, xs, rfl, _⟩ := h
    rfl
  · obtain ⟨r, ot, xs, rfl, hrr, hot, ox, hQ⟩ := h
    refine ⟨_, PSs.nox (pss_cons (ps_if (PW.pt (pw_or (pt_not (pt_val (pe_callB call_isi rfl b.isi boot_isinstance (pa_cons (pv 0) (pa_cons (pe_bltn (v := .ty "tuple") rfl b2.tup boot_tuple rfl) pa_nil)))))
        (pw_or (pt_cmpR op_lt (pe_callB call_len_seq rfl b.len boot_len (pa_cons (pv 0) pa_nil)) pe_int (nomark _))
        (pw_or1 (pt_not (pt_val (pe_c cO hr (by decide) rfl (pa_cons (pe_ix ix_tup (pv 0) pe_int (fun _ _ => rfl)) pa_nil)))))))) pss_never pss_nil)
      (pss_cons (ps_if (pt_cmpR op_eq (pe_ix ix_tup (pv 0) pe_int (fun _ _ => rfl)) pe_str (nomark _)) pss_never pss_nil)
      (pss_one (ps_ret (pe_and (pe_cmpR op_eq (pe_callB call_len_seq rfl b.len boot_len (pa_cons (pv 0) pa_nil)) pe_int (nomark _))
        (pe_one (pe_cmpR op_in_seq (pe_ix ix_tup (pv 0) pe_int (fun _ _ => rfl)) (pe_tup (pa_cons pe_str (pa_cons pe_str pa_nil))) (by rfl)))))))), ?_⟩
    refine ⟨_, rfl, _, _, _, _, true, rfl, ClsV.ty _, TyX.base (TyOf.tup hrr), kit_ty (by decide +kernel), true, rfl, iteF ?_⟩
    refine ⟨_, rfl, r, _, rfl, .inr (SqT.of hrr), _, _, rfl, rfl, _, rfl, iteF ?_⟩
    refine ⟨_, rfl, r, _, _, _, rfl, rfl, SqT.of hrr, rfl, ot, xs, rfl, hot, ox, fun H2 s2 => ⟨true, rfl, iteF ?_⟩⟩
    have hrr2 := s2 _ _ hrr
    refine ⟨_, rfl, r, _, _, _, rfl, rfl, SqT.of hrr2, rfl, rfl, _, rfl, ?_⟩
    rw [nl]
    refine iteF ?_
    refine ⟨_, rfl, r, _, rfl, .inr (SqT.of hrr2), rfl, true, rfl, iteT ?_⟩
    refine ⟨_, rfl, r, _, _, _, rfl, rfl, SqT.of hrr2, rfl, by show 2 ≤ sizeLine; decide, fun t ft => ?_⟩
    refine ⟨t, _, rfl, .inr (SqT.of upd_same), rfl, rfl, ?_⟩
    simp only [Bool.false_eq_true, if_false]
    rw [iv]
    exact hQ _ (s2.trans (same_new ft))
def spRuleL : Sp := fun vs H Q _ => ∃ (r ot : Addr) (xs : List Str) (g : Int), vs = [.ref r] ∧ LeastR H r ot xs g ∧ ∀ H', Same H H' → Q (.bl true) H'
theorem ok_ruleL (F : Dn K d_is_rule f fd) (b : Bl mg) (b2 : Bl2 mg) (g : ∃ t, mg "MOST_GRAIN" = some (.int 1000 t)) (cO : Cal P w K mg base 2 "is_order" spOrder []) (cB : CalB P w K mg base) : FnOk P w K mg base CX0 3 f fd ["thing"] spRuleL := by
  refine F.ok sc_is_rule (fun vs H Q E h => ?_) (fun cdv A outer s H vs Q E hr h => ?_)
  · obtain ⟨r, ot, xs, gr, rfl, _⟩ := h
    rfl
  · obtain ⟨r, ot, xs, gr, rfl, ⟨hrr, hot, ox, g0, g1⟩, hQ⟩ := h
    obtain ⟨t, g⟩ := g
    refine ⟨_, PSs.nox (pss_cons (ps_if (PW.pt (pw_or (pt_not (pt_val (pe_callB call_isi rfl b.isi boot_isinstance (pa_cons (pv 0) (pa_cons (pe_bltn (v := .ty "tuple") rfl b2.tup boot_tuple rfl) pa_nil)))))
      (pw_or (pt_cmpR op_lt (pe_callB call_len_seq rfl b.len boot_len (pa_cons (pv 0) pa_nil)) pe_int (nomark _))
      (pw_or1 (pt_not (pt_val (pe_c cO hr (by decide) rfl (pa_cons (pe_ix ix_tup (pv 0) pe_int (fun _ _ => rfl)) pa_nil)))))))) pss_never pss_nil)
    (pss_cons (ps_if (pt_cmpR op_eq (pe_ix ix_tup (pv 0) pe_int (fun _ _ => rfl)) pe_str (nomark _)) (pss_one (ps_ret (pe_and (pe_cmpR op_eq (pe_callB call_len_seq rfl b.len boot_len (pa_cons (pv 0) pa_nil)) pe_int (nomark _))
      (pe_one (pe_c cB hr (by decide) rfl (pa_cons (pe_ix ix_tup (pv 0) pe_int (fun _ _ => rfl)) (pa_cons pe_int (pa_cons (pe_glob (v := .int 1000) rfl g ⟨t, rfl⟩) pa_nil)))))))) pss_nil) pss_never)), ?_⟩
    refine ⟨_, rfl, _, _, _, _, true, rfl, ClsV.ty _, TyX.base (TyOf.tup hrr), kit_ty (by decide +kernel), true, rfl, iteF ?_⟩
    refine ⟨_, rfl, r, _, rfl, .inr (SqT.of hrr), _, _, rfl, rfl, _, rfl, iteF ?_⟩
    refine ⟨_, rfl, r, _, _, _, rfl, rfl, SqT.of hrr, rfl, ot, xs, rfl, hot, ox, fun H2 s2 => ⟨true, rfl, iteF ?_⟩⟩
    have hrr2 := s2 _ _ hrr
    refine ⟨_, rfl, r, _, _, _, rfl, rfl, SqT.of hrr2, rfl, rfl, _, rfl, iteT ?_⟩
    refine ⟨_, rfl, r, _, rfl, .inr (SqT.of hrr2), rfl, true, rfl, iteT ?_⟩
    refine ⟨_, rfl, r, _, _, _, rfl, rfl, SqT.of hrr2, rfl, gr, 0, 1000, rfl, ?_⟩
    rw [decide_eq_true (show 0 ≤ gr ∧ gr ≤ 1000 from ⟨g0, g1⟩)]
    exact hQ H2 s2
theorem ok_rule (F : Dn K d_is_rule f fd) (b : Bl mg) (b2 : Bl2 mg) (g : ∃ t, mg "MOST_GRAIN" = some (.int 1000 t)) (cO : Cal P w K mg base 2 "is_order" spOrder []) (cB : CalB P w K mg base) : FnOk P w K mg base CX0 3 f fd ["thing"] spRule :=
  (ok_or (ok_ruleL F b b2 g cO cB) (ok_or (ok_ruleW l_least (by decide +kernel) F b b2 cO) (ok_ruleW r_least (by decide +kernel) F b b2 cO))).imp fun vs H Q E h => by
    obtain ⟨r, ot, xs, wd, e, x, hQ⟩ := h
    cases wd with
    | least g => exact .inl ⟨r, ot, xs, g, e, x.least, hQ⟩
    | longest => exact .inr (.inl ⟨r, ot, xs, e, x.hr, x.ho, x.ox, hQ⟩)
    | rounds => exact .inr (.inr ⟨r, ot, xs, e, x.hr, x.ho, x.ox, hQ⟩)
end
end K60
set_option Elab.async false
set_option linter.all false
set_option maxRecDepth 100000
set_option maxHeartbeats 4000000
/-! LK: min(xs, key=lambda a: d[a]), xs a tuple of texts, d a dict of whole numbers that the lambda captures. -/
namespace LK
open PySem PySem.Spec PyProof.Rows L2
open LamX (Tabs ExtN TabB lam_make2)
/-- one parameter a, one captured name d -/
structure Lam1 (scope : Scope) (a d : Str) : Prop where
  kind : scope.kind = .function
  co : scope.isCoroutine = false
  gen : scope.isGenerator = false
  cell : ∀ y ∈ scope.names, y.2 ≠ .cell
  loc : scope.names.lookup a = some .local
  fre : scope.names.lookup d = some .free
  da : (a == ("__debug__" : Str)) = false
  dd : (d == ("__debug__" : Str)) = false
  dc : (d == ("__classdict__" : Str)) = false
section
variable {prog : Program} {w : World} {A : Around} {E : Value → Shared → Prop} {s : Shared}
/-- the lambda called with a text -/
theorem lam_get {f c' cc dd : Addr} {qual a d key : Str} {params : Arguments} {scope : Scope} {cl : List (Str × Addr)} {pm ctv : Value} {p1 p2 p3 : Pos} {vs : List (Key × Value)} {u : Value} {tk : Tok} {Q : Value → Shared → Prop} (L : Lam1 scope a d)
    (hdep : A.depth < recursionLimit) (hlim : s.heap.NoLimit) (hf : s.heap.get? f = some (PySem.W.kla_obj "<lambda>" qual params (.Subscript (.Name d p1) (.Name a p2) p3) scope cl pm c' ctv))
    (hc : ∃ (oc : Obj) (ws : Array Value) (t : Tok), s.heap.get? c' = some oc ∧ oc.data = .fields ws ∧ ws[1]? = some (.str qual t)) (hcl : cl.lookup d = some cc) (hcc : s.heap.IsCell cc (some (.ref dd)))
    (hD : s.heap.DictOf (mixKind prog w) dd vs) (hv : valueAt vs (Sum.inr key) = some u) (hs : NoSl (.Name a p2))
    (hb : bindArgs (PySem.W.kla_fn "<lambda>" qual params (.Subscript (.Name d p1) (.Name a p2) p3) scope cl pm (.ref c') ctv) ⟨[.str key tk], []⟩ = pure [(a, .str key tk)])
    (h : ∀ h' tk', (∀ b o, s.heap.get? b = some o → h'.get? b = some o) → s.toks ≤ tk' → Q u { s with heap := h', toks := tk' }) : wpAny (model prog w) A (call (.ref f) [.str key tk]) Q E s := by
  obtain ⟨oc, ws, t, hoc, hdc, hq⟩ := hc
  refine wpAny_call (PySem.W.kla_callFunE hdep hf rfl L.co L.gen rfl ⟨c', oc, ws, t, rfl, hoc, hdc, hq⟩ ?_)
  rw [hb]
  refine wpAny_pure (wpAny_newFunctionEnv L.cell (fun y hy => ?_) (fun h₁ hns hsb => ⟨hlim.fresh _ hsb, ?_⟩) L.kind)
  · cases List.mem_singleton.mp hy
    exact L.loc
  have kp : ∀ b o, s.heap.get? b = some o → h₁.get? b = some o := fun b o e => hsb.extBut b o (Nat.ne_of_lt (Heap.lt_size e)) (Heap.get?_push_of_some _ e)
  have D1 : h₁.DictOf (mixKind prog w) dd vs := by
    obtain ⟨o, r⟩ := hD
    obtain ⟨es, ep, ho, r⟩ := r
    exact ⟨o, es, ep, kp _ _ ho, r⟩
  have C1 : h₁.IsCell cc (some (.ref dd)) := by
    obtain ⟨o, ho, hd⟩ := hcc
    exact ⟨o, kp _ _ ho, hd⟩
  show codeAny _ _ (.expr _ (PySem.W.envX qual scope s.heap.objs.size f (.ref c') cl)) _ _
  refine PySem.W.kla_codeExpr (subD_of PySem.F.slot_dict_getitem.lookup hs ?_)
  refine wpAny_Name (wpAny_loadName_free L.kind L.fre hcl C1 ?_ L.dc) L.dd
  refine wpAny_Name (wpAny_loadName_local L.kind L.loc hns (v := .str key tk) ?_ ?_) L.da
  · show (List.lookup a [(a, Value.str key tk)]) = _
    rw [List.lookup_cons, beq_self_eq_true]
  · refine ⟨D1.typeIs, wpAny_getItem_of (k := Sum.inr key) (kV_is (k := Sum.inr key) (show RelV (kV (Sum.inr key)) (.str key tk) from ⟨tk, rfl⟩)) D1.mapOf hv ?_⟩
    exact h h₁ _ kp (by show s.toks ≤ s.toks + 1 + 1; omega)
end
theorem best_min (val : Nat → Int) : ∀ k, argBest (fun i j => decide (val i < val j)) k ≤ k ∧ ∀ j, j ≤ k → val (argBest (fun i j => decide (val i < val j)) k) ≤ val j ∧ (j < argBest (fun i j => decide (val i < val j)) k → val (argBest (fun i j => decide (val i < val j)) k) < val j)
  | 0 => ⟨Nat.le_refl _, fun j hj => by
    cases (show j = 0 by omega)
    exact ⟨Int.le_refl _, fun z => absurd z (by show ¬ 0 < 0; omega)⟩⟩
  | k + 1 => by
    obtain ⟨i1, i2⟩ := best_min val k
    show (if decide (val (k + 1) < val (argBest (fun i j => decide (val i < val j)) k)) = true then k + 1 else argBest (fun i j => decide (val i < val j)) k) ≤ k + 1 ∧ ∀ j, j ≤ k + 1 → val (if decide (val (k + 1) < val (argBest (fun i j => decide (val i < val j)) k)) = true then k + 1 else argBest (fun i j => decide (val i < val j)) k) ≤ val j ∧ (j < (if decide (val (k + 1) < val (argBest (fun i j => decide (val i < val j)) k)) = true then k + 1 else argBest (fun i j => decide (val i < val j)) k) → val (if decide (val (k + 1) < val (argBest (fun i j => decide (val i < val j)) k)) = true then k + 1 else argBest (fun i j => decide (val i < val j)) k) < val j)
    generalize argBest (fun i j => decide (val i < val j)) k = b at i1 i2
    by_cases c : val (k + 1) < val b
    · rw [if_pos (decide_eq_true c)]
      refine ⟨Nat.le_refl _, fun j hj => ?_⟩
      by_cases e : j = k + 1
      · subst e
        exact ⟨Int.le_refl _, fun z => absurd z (by omega)⟩
      · have := i2 j (by omega)
        exact ⟨by omega, fun _ => by omega⟩
    · rw [if_neg (by simpa using c)]
      refine ⟨by omega, fun j hj => ?_⟩
      by_cases e : j = k + 1
      · subst e
        exact ⟨by omega, fun z => absurd z (by omega)⟩
      · exact i2 j (by omega)
/-- y is the first of xs whose number is least -/
def IsMin (κ : Str → Int) (xs : List Str) (y : Str) : Prop := ∃ i : Nat, xs[i]? = some y ∧ ∀ (j : Nat) (z : Str), xs[j]? = some z → κ y ≤ κ z ∧ (j < i → κ y < κ z)
section
variable {X : Cx} {pins : List (Addr × Obj)} {σ : L2.St} {H : Hp} {s : Shared}
theorem call_min {E : Value → Shared → Prop} {Q : Value → Shared → Prop} {f c' cc dd l : Addr} {qual a d : Str} {params : Arguments} {scope : Scope} {cl : List (Str × Addr)} {pm ctv : Value} {p1 p2 p3 : Pos} {vs : List (Key × Value)} {xs : List Str} {κ : Str → Int} (L : Lam1 scope a d)
    (I : Inv X pins σ H s) (hr : Room 2 X.A) (hf : s.heap.get? f = some (PySem.W.kla_obj "<lambda>" qual params (.Subscript (.Name d p1) (.Name a p2) p3) scope cl pm c' ctv))
    (hc : ∃ (oc : Obj) (ws : Array Value) (t : Tok), s.heap.get? c' = some oc ∧ oc.data = .fields ws ∧ ws[1]? = some (.str qual t)) (hcl : cl.lookup d = some cc) (hcc : s.heap.IsCell cc (some (.ref dd)))
    (hD : s.heap.DictOf (mixKind X.prog X.w) dd vs) (hs : NoSl (.Name a p2)) (hl : SqT X.K H l (xs.map V.str)) (hne : xs ≠ []) (hv : ∀ y ∈ xs, ∃ t, valueAt vs (Sum.inr y) = some (.int (κ y) t))
    (hb : ∀ u, bindArgs (PySem.W.kla_fn "<lambda>" qual params (.Subscript (.Name d p1) (.Name a p2) p3) scope cl pm (.ref c') ctv) ⟨[u], []⟩ = pure [(a, u)])
    (h : ∀ y t s', IsMin κ xs y → Inv X pins σ H s' → Q (.str y t) s') : wpAny (model X.prog X.w) X.A (call (.builtin "min") [.ref l] [(Str.ofString "key", .ref f)]) Q E s := by
  obtain ⟨its, r, pl, hz⟩ := I.tuple hl
  have hlen : its.toArray.size = xs.length := by rw [List.size_toArray, ← r.length, List.length_map]
  have hpos : 0 < xs.length := List.length_pos_iff.mpr hne
  have at_ : ∀ (i : Nat) (v : Value), its.toArray[i]? = some v → ∃ y t, xs[i]? = some y ∧ v = .str y t := fun i v hi => by
    have hi2 : its[i]? = some v := by rw [← List.getElem?_toArray]; exact hi
    have hl2 : i < xs.length := by
      have := (List.getElem?_eq_some_iff.mp hi2).1
      rw [← r.length, List.length_map] at this
      exact this
    obtain ⟨u, hu, t, ht⟩ := r.get (i := i) (x := .str xs[i]) (by rw [List.getElem?_map, List.getElem?_eq_getElem hl2]; rfl)
    rw [hi2] at hu
    cases Option.some.inj hu
    exact ⟨xs[i], t, List.getElem?_eq_getElem hl2, ht⟩
  have ls : l < s.heap.objs.size := by
    obtain ⟨o, ho, _⟩ := id pl
    exact Heap.lt_size ho
  have ne1 : l ≠ s.heap.objs.size := Nat.ne_of_lt ls
  have sz2 : (s.heap.push { cls := .type "tuple_iterator", data := .fields #[.ref l, .int 0 0] }).objs.size = s.heap.objs.size + 1 := Heap.size_push ..
  refine call_min_walkK (wpAny_pyIter_tuple pl ?_)
  have W := (Walks.tuple (prog := X.prog) (w := X.w) (A := X.A.in1) (by simp [hr.hd]) s.heap.objs.size l ne1 its.toArray).toS
  refine ⟨s.heap.objs.size, _, _, _, _, _, _, fun s1 => ∃ h' tk, s1 = { s with heap := h', toks := tk } ∧ ∀ b o, s.heap.get? b = some o → h'.get? b = some o, fun i k _ => ∃ t, k = .int (κ (xs.getD i Str.empty)) t, fun i j => decide (κ (xs.getD i Str.empty) < κ (xs.getD j Str.empty)), rfl, W, ⟨⟨_, Heap.get?_push_size _ rfl, rfl, rfl⟩, pl.push _⟩, fun b hb => ?_, by rw [hlen]; exact hpos, ?_, ⟨_, s.toks, rfl, fun b o e => Heap.get?_push_of_some _ e⟩, fun v s' hP hJ => ?_⟩
  · show b < (s.heap.push { cls := .type "tuple_iterator", data := .fields #[.ref l, .int 0 0] }).objs.size
    rw [sz2]
    rcases List.mem_cons.mp hb with rfl | hb
    · exact Nat.lt_succ_self _
    · cases List.mem_singleton.mp hb
      exact Nat.lt_succ_of_lt ls
  · refine ⟨?_, fun i k s1 s2 hk _ => hk, ?_, ?_⟩
    · rintro _ s2 ⟨h', tk, rfl, hk⟩ hm
      refine ⟨s2.heap, s2.toks, hm.eq_with, fun b o e => hm.heap b o (fun z => ?_) (hk b o e)⟩
      have lb : b < s.heap.objs.size := Heap.lt_size e
      rcases List.mem_cons.mp z with z | z
      · rw [sz2] at z
        exact Nat.ne_of_lt (Nat.lt_succ_of_lt lb) z
      · cases List.mem_singleton.mp z
        exact Nat.lt_irrefl _ lb
    · rintro i v _ o Q' E' hi hP ⟨h', tk, rfl, hk⟩ hSt hS hq
      obtain ⟨y, t, hy, rfl⟩ := at_ i v hP
      obtain ⟨t2, hv2⟩ := hv y (List.mem_of_getElem? hy)
      obtain ⟨oc, ws, t3, c1, c2, c3⟩ := hc
      have hD1 : h'.DictOf (mixKind X.prog X.w) dd vs := by
        obtain ⟨o, es, ep, ho, r⟩ := hD
        exact ⟨o, es, ep, hk _ _ ho, r⟩
      have hcc1 : h'.IsCell cc (some (.ref dd)) := by
        obtain ⟨o, ho, hd⟩ := hcc
        exact ⟨o, hk _ _ ho, hd⟩
      refine lam_get (s := { s with heap := h', toks := tk }) L hr.in1.depth ((I.nolimit).keeps hk) (hk _ _ hf) ⟨oc, ws, t3, hk _ _ c1, c2, c3⟩ hcl hcc1 hD1 hv2 hs (hb _) fun h2 tk2 hk2 htk => ?_
      have ey : xs.getD i Str.empty = y := by rw [List.getD_eq_getElem?_getD, hy]; rfl
      refine hq _ { s with heap := h2, toks := tk2 } ⟨h2, tk2, rfl, fun b o e => hk2 b o (hk b o e)⟩ ?_ (hk2 _ _ hS) ⟨t2, by rw [ey]⟩ fun _ _ z => z
      exact W.frame (i + 1) { s with heap := h', toks := tk } h2 tk2 hSt htk fun b _ o e => hk2 b o e
    · intro i j ki kj s1 Q' E' _ hi hj hq
      exact CmpOf.ints_lt (prog := X.prog) (w := X.w) (A := X.A.in1) (P := fun i v => ∃ t, v = .int (κ (xs.getD i Str.empty)) t) (fun i => κ (xs.getD i Str.empty)) (fun i v h => h) i j ki kj s1 Q' E' hi hj hq
  · obtain ⟨h', tk, rfl, hk⟩ := hJ
    obtain ⟨b1, b2⟩ := best_min (fun i => κ (xs.getD i Str.empty)) (its.toArray.size - 1)
    obtain ⟨y, t, hy, rfl⟩ := at_ _ v hP
    refine h y t _ ⟨_, hy, fun j z hz => ?_⟩ (I.kept hk)
    have hj : j < xs.length := (List.getElem?_eq_some_iff.mp hz).1
    have ey : xs.getD (argBest (fun i j => decide (κ (xs.getD i Str.empty) < κ (xs.getD j Str.empty))) (its.toArray.size - 1)) Str.empty = y := by rw [List.getD_eq_getElem?_getD, hy]; rfl
    have ez : xs.getD j Str.empty = z := by rw [List.getD_eq_getElem?_getD, hz]; rfl
    have := b2 j (by omega)
    simp only [ey, ez] at this
    exact this
/-- what min(te, key=lambda a: d[a]) wants: the tuple, the dict at slot jd, the tables -/
def tMinK (K : PySem.W.Frag) (T : List (Addr × Str)) (jd : Nat) (t : TA) : TE := fun σ H Q => t σ H fun vs H0 => ∃ (l dd : Addr) (xs : List Str) (kvs : List (Key × V)) (κ : Str → Int), vs = [.ref l] ∧ SqT K H0 l (xs.map V.str) ∧ xs ≠ [] ∧ σ[jd]? = some (some (.ref dd)) ∧ H0 dd = some (.dK kvs) ∧
  (∀ y ∈ xs, valV kvs (Sum.inr y) = some (.int (κ y))) ∧ Tabs T H0 ∧ ∀ H1, ExtN H0 H1 → Tabs T H1 → ∀ y, IsMin κ xs y → Q (.str y) H1
theorem pe_minKey {T : List (Addr × Str)} {c P : Addr} {a d : Str} {params : Arguments} {scope : Scope} {p p1 p2 p3 lpos kpos pos : Pos} {e : Expr} {ta : TA} {jd : Nat} (hg : Gl X "min") (hm : X.mg "min" = none) (ha : PA X [e] ta) (hr : Room 2 X.A) (TB : TabB X.base X.mg c P) (hcode : X.env.code = .ref c)
    (hmT : (P, X.env.qual ++ "<lambda>") ∈ T) (hu : ∀ p ∈ T, p.1 = P → p.2 = X.env.qual ++ "<lambda>") (L : Lam1 scope a d) (hfree : ∀ y ∈ scope.names, y.2 = .free → X.env.scope.names.lookup y.1 = some .cell ∨ X.env.scope.names.lookup y.1 = some .free)
    (hN : X.N[jd]? = some d) (hd : X.env.scope.names.lookup d = some .cell) (hdef : defaultsOf params X.env = ([], [])) (hs : NoSl (.Name a p2))
    (hb : ∀ (q : Str) (cl : List (Str × Addr)) (pm cv ctv u : Value), bindArgs (PySem.W.kla_fn "<lambda>" q params (.Subscript (.Name d p1) (.Name a p2) p3) scope cl pm cv ctv) ⟨[u], []⟩ = pure [(a, u)])
    (he : backTo pos (starEach [e] X.env) = (false, eval e X.env) :: backTo pos (starEach [] X.env) := by rfl) (hpl : (backTo pos (starEach [e] X.env)).any (·.1) = false := by rfl) :
    PE X (.Call (.Name "min" p) [e] [⟨some "key", .Lambda params (.Subscript (.Name d p1) (.Name a p2) p3) scope lpos, kpos⟩] pos) (tMinK X.K T jd ta) := by
  refine ⟨fun pins s σ H Q I h => ?_⟩
  refine wpAny_Call_Name_kw (ld_blt I hg hm boot_min ?_)
  refine PyProof.Rows.callWith_kw (thn (ha.run pos pins s σ H (fun vs H0 => ∃ (l dd : Addr) (xs : List Str) (kvs : List (Key × V)) (κ : Str → Int), vs = [.ref l] ∧ SqT X.K H0 l (xs.map V.str) ∧ xs ≠ [] ∧ σ[jd]? = some (some (.ref dd)) ∧ H0 dd = some (.dK kvs) ∧
    (∀ y ∈ xs, valV kvs (Sum.inr y) = some (.int (κ y))) ∧ Tabs T H0 ∧ ∀ H1, ExtN H0 H1 → Tabs T H1 → ∀ y, IsMin κ xs y → Q (.str y) H1) I h) fun us s1 ⟨vs, H1, I1, r1, q1⟩ => ?_) he hpl
  obtain ⟨l, dd, xs, kvs, κ, rfl, hl, hne, hdd, hD, hv, hT, hQ⟩ := q1
  obtain ⟨u, rfl, ru⟩ := vals1 r1
  cases (show u = Value.ref l from ru)
  have hfr : ∀ y ∈ scope.names, y.2 = .free → ∃ c, X.env.cells.lookup y.1 = some c := fun y hy e => I.ok.has _ (hfree y hy e)
  show wpAny _ _ (evalAll ((do let v ← eval (.Lambda params (.Subscript (.Name d p1) (.Name a p2) p3) scope lpos) X.env; standAt pos; pure v) :: [])) _ _ s1
  refine wpAny_evalAll_cons (wpAny_bind (lam_make2 I1 TB hcode hmT hu hT hdef hfr fun f c' pm ctv H2 s2 I2 eN T2 hf hfn hff hco => ?_))
  refine wpAny_bind (wpAny_standAt (wpAny_pure (wpAny_evalAll_nil ?_)))
  obtain ⟨⟨oc, ws, t, hoc, hdc, hvc⟩, _, _⟩ := I2.hok c' _ hco
  have hl2 : SqT X.K H2 l (xs.map V.str) := by
    rcases hl with z | z
    · rcases z with z | ⟨o, z⟩
      · exact .inl (.inl (eN _ _ z fun _ q => by cases q))
      · exact .inl (.inr ⟨o, eN _ _ z fun _ q => by cases q⟩)
    · exact .inr z
  have hD2 : H2 dd = some (.dK kvs) := eN _ _ hD fun _ q => by cases q
  obtain ⟨m, hn, hlk⟩ := I2.loc
  obtain ⟨w', rw', look⟩ := hlk jd d (.ref dd) hN hdd (.inr (.inl hd))
  cases (show w' = Value.ref dd from rw')
  obtain ⟨cc, hcc, hcell⟩ : ∃ cc, X.env.cells.lookup d = some cc ∧ s2.heap.IsCell cc (some (.ref dd)) := by
    rcases look with ⟨z, _⟩ | ⟨_, cc, z1, z2⟩
    · have z' : X.env.scope.names.lookup d = some .local := z
      rw [hd] at z'
      cases z'
    · exact ⟨cc, z1, z2⟩
  have hcl : (cloFrom X.env.cells scope.names []).lookup d = some cc := by
    have hy : (d, NameKind.free) ∈ scope.names := PySem.mem_of_lookup L.fre
    obtain ⟨c2, h2⟩ := mem_lookup (cloFrom_has (cells := X.env.cells) (acc := []) hy)
    rcases cloFrom_mem (PySem.mem_of_lookup h2) with z | ⟨z1, z2⟩
    · cases z
    · rw [h2, z2, hcc]
      rfl
  obtain ⟨_, _, vs, rel, hDo⟩ := dk_of I2.hok hD2
  refine call_min (κ := κ) L I2 hr hf ⟨oc, ws, t, hoc, hdc, hvc⟩ hcl hcell hDo hs hl2 hne (fun y hy => ?_) (fun u => hb _ _ _ _ _ u) fun y t s3 hm I3 => ⟨.str y, H2, I3, ⟨t, rfl⟩, hQ H2 eN T2 y hm⟩
  obtain ⟨u, hu2, t2, ht2⟩ := RelO.some_of (v := .int (κ y)) (o := valueAt vs (Sum.inr y)) (by rw [← hv y hy]; exact rel.val (Sum.inr y))
  exact ⟨t2, by rw [hu2, ht2]⟩
end
end LK
set_option Elab.async false
set_option linter.all false
set_option maxRecDepth 100000
set_option maxHeartbeats 4000000
namespace K60
open PySem PySem.Spec PyProof.Rows L2
open C8 (Cal Mak Met pe_c pe_mk pe_mt pe_mt0)
open LamX (Tabs ExtN TabB)
open SX (S)
theorem inV_strs (x : Str) : ∀ R : List Str, inV (.str x) (R.map V.str) = decide (x ∈ R)
  | [] => rfl
  | y :: R => by
    have ih := inV_strs x R
    unfold inV at ih ⊢
    rw [List.map_cons, List.any_cons, ih]
    have e : eqV (.str y) (.str x) = decide (x = y) := by
      show decide (y = x) = decide (x = y)
      exact decide_eq_decide.mpr ⟨Eq.symm, Eq.symm⟩
    rw [e]
    simp [Bool.decide_or]
theorem flat_strs (R : List Str) : (R.map V.str).all flatV = true := by
  rw [List.all_eq_true]
  intro v hv
  obtain ⟨y, _, rfl⟩ := List.mem_map.mp hv
  rfl
section
variable {P : Program} {w : World} {K : PySem.W.Frag} {mg : Str → Option Value} {base : Heap} {f C : Addr} {fd : FuncData}
def spNo : Sp := fun vs H Q _ => ∃ (ot rd : Addr) (xs R : List Str), vs = [.ref ot, .ref rd] ∧ H ot = some (.tup (xs.map V.str)) ∧ H rd = some (.lst (R.map V.str)) ∧ xs.length ≤ 13 ∧
  ∀ (t : Addr) (H' : Hp), Same H H' → H t = none → H' t = some (.tup ((xs.filter fun x => decide (x ∈ R)).map V.str)) → Q (.ref t) H'
theorem ok_no (F : Dn K d_names_of f fd) (b2 : Bl2 mg) : FnOk P w K mg base CX0 1 f fd ["order", "riders"] spNo := by
  refine F.ok sc_names_of (fun vs H Q E h => ?_) (fun cdv A outer s H vs Q E hr h => ?_)
  · obtain ⟨ot, rd, xs, R, rfl, _⟩ := h
    rfl
  · obtain ⟨ot, rd, xs, R, rfl, hot, hrd, l13, hQ⟩ := h
    refine ⟨_, PSs.nox (pss_one (ps_ret (pe_callTy call_tuple_of rfl b2.tup boot_tuple (pa_cons (pe_lc (own := [("name", 2)]) (g := gName 2) rfl sc_names_of.nd (pi_tup (pv 0)) (blkOk_by (N := N_names_of) (sc := defScope s_names_of) (by decide +kernel))
          (fun _ _ _ _ _ => pg_name (i := 2) sc_names_of.nd rfl (Or.inl rfl)) (fun _ _ _ _ _ => pts_one (pt_cmpR (r := rIn K false) op_in_seq (pv 2) (pv 1) (by rfl))) (fun _ _ _ _ _ => pv 2)) pa_nil)))), ?_⟩
    refine ⟨_, rfl, ot, rfl, ⟨_, SqT.of hot⟩, fun D hD => lc_tup (fun i H2 => H2 D = some (.lst (((xs.take i).filter fun x => decide (x ∈ R)).map V.str)) ∧ Same H H2) ⟨upd_same, same_new hD⟩ (fun _ H2 _ z => SqT.of (z.2 _ _ hot)) ?_ ?_⟩
    · rintro i x H2 hx ⟨hd, sm⟩
      have hi' : i < xs.length := by
        have := (List.getElem?_eq_some_iff.mp hx).1
        simpa using this
      rw [List.getElem?_map] at hx
      obtain ⟨y, hy, rfl⟩ := Option.map_eq_some_iff.mp hx
      have et : xs.take (i + 1) = xs.take i ++ [y] := by rw [List.take_succ, hy]; rfl
      refine ⟨rfl, ?_⟩
      refine ⟨_, rfl, _, rfl, rd, _, rfl, .inl (SqL.of (sm _ _ hrd)), rfl, flat_strs R, _, rfl, ?_⟩
      simp only [Bool.false_eq_true, if_false]
      rw [inV_strs]
      refine ite2 (fun hm => ?_) (fun hm => ?_)
      · refine ⟨_, rfl, _, hd, ?_, ?_, ?_⟩
        · rw [List.length_map]
          refine Nat.lt_of_le_of_lt (List.length_filter_le _ _) ?_
          rw [List.length_take]
          exact Nat.lt_of_lt_of_le (by omega : min i xs.length < 64) (by decide)
        · rw [upd_same, et, List.filter_append, List.map_append]
          simp [hm]
        · intro a o e
          rw [upd_ne (ne_of_none e hD)]
          exact sm a o e
      · refine ⟨?_, sm⟩
        rw [et, List.filter_append]
        simp [hm, hd]
    · rintro H2 ⟨hd, sm⟩
      rw [List.length_map, List.take_length] at hd
      refine ⟨D, _, rfl, .inl ⟨SqL.of hd, fun l fl => hQ l _ (sm.trans (same_new fl)) ?_ upd_same⟩⟩
      exact sm.free fl
theorem zs_take (xs : List Str) (i : Nat) (h : i < xs.length) : ((xs.take i).map fun _ => V.int 0) ++ [V.int 0] = (xs.take (i + 1)).map fun _ => V.int 0 := by
  rw [List.take_succ, List.getElem?_eq_getElem h, List.map_append]
  rfl
end
end K60
set_option Elab.async false
set_option linter.all false
set_option maxRecDepth 100000
set_option maxHeartbeats 4000000
namespace K60
open PySem PySem.Spec PyProof.Rows L2
open C8 (Cal Mak Met pe_c pe_mk pe_mt pe_mt0)
open LamX (Tabs ExtN TabB)
open SX (S)
/-- the def's code is known -/
theorem okT {P : Program} {w : World} {K : PySem.W.Frag} {mg : Str → Option Value} {base : Heap} {x qual : Str} {params : Arguments} {body : List Stmt} {scope : Scope} {dvs : List V} {kws : List (Str × V)} {p : He.Defn} {fd : FuncData}
    {CX : CXT} {N ps : List Str} {k : Nat} {sp : Sp} (F : FunD K x qual params body scope dvs kws (He.fAd K p) fd) (S : FnScope N ps scope) (len : ∀ vs H Q E, sp vs H Q E → vs.length = ps.length)
    (hbody : ∀ (A : Around) (outer : List Env) (s : Shared) (H : Hp) (vs : List V) (Q : VK) (E : XK), Room k (A.deeper (envOfC qual scope s.heap.objs.size (He.fAd K p) (.ref (He.cT K p).1))) → sp vs H Q E →
      ∃ t, PSs (cxOf CX P w K mg base N qual scope (He.fAd K p) (.ref (He.cT K p).1) A outer s H E) body t ∧ t { nx := fun _ H' => Q .non H', rt := Q } (start N vs) H) : FnOk P w K mg base CX (k + 1) (He.fAd K p) fd ps sp := by
  obtain ⟨oc, od, dV, kV, doc, pm, an, cdv, ct, osl, rfl, lk, hcd, _, _⟩ := F.ex
  obtain ⟨c, rfl⟩ := He.codeIn_ref hcd
  have e : (He.cT K p).1 = c := He.codeOf_eq lk rfl
  rw [e] at hbody
  exact fn_of lk hcd S len fun A outer s H vs Q E hr hsp => hbody A outer s H vs Q E hr hsp
/-- the table of the lambda -/
def T0 (K : PySem.W.Frag) : List (Addr × Str) := [((He.cT K ("least_driver", none)).2, (envOfC d_least_driver.qual d_least_driver.scope 0 0 .none).qual ++ "<lambda>")]
/-- what counts of a credit, by the grain -/
def cnt (g c : Int) : Int := if g = 0 then c else (c * g).fdiv 840
/-- credits stand at a -/
def Crd (H : Hp) (a : Addr) (xs : List Str) (c : Str → Int) : Prop := H a = some (.tup (xs.map fun x => V.int (c x)))
section
variable {P : Program} {w : World} {K : PySem.W.Frag} {mg : Str → Option Value} {base : Heap} {f C : Addr} {fd : FuncData}
def spLd (K : PySem.W.Frag) : Sp := fun vs H Q _ => ∃ (r ot hd nt : Addr) (xs ns : List Str) (g : Int) (c : Str → Int), vs = [.ref r, .ref hd, .ref nt] ∧ LeastR H r ot xs g ∧ Crd H hd xs c ∧ H nt = some (.tup (ns.map V.str)) ∧ ns ≠ [] ∧ (∀ y ∈ ns, y ∈ xs) ∧ Tabs (T0 K) H ∧
  ∀ H1, ExtN H H1 → Tabs (T0 K) H1 → ∀ y, LK.IsMin (fun x => cnt g (c x)) ns y → Q (.str y) H1
theorem ok_ld (F : Dn K d_least_driver (He.fAd K ("least_driver", none)) fd) (b2 : Bl2 mg) (gp : ∃ t, mg "RIDE_PARTS" = some (.int 840 t)) (TB : TabB base mg (He.cT K ("least_driver", none)).1 (He.cT K ("least_driver", none)).2) :
    FnOk P w K mg base CX0 3 (He.fAd K ("least_driver", none)) fd ["rule", "held", "names"] (spLd K) := by
  refine okT F sc_least_driver (fun vs H Q E h => ?_) (fun A outer s H vs Q E hr h => ?_)
  · obtain ⟨r, ot, hd, nt, xs, ns, g, c, rfl, _⟩ := h
    rfl
  · obtain ⟨r, ot, hd, nt, xs, ns, g, c, rfl, lr, hc, hnt, nne, sub, tabs, hQ⟩ := h
    obtain ⟨hrr, hot, ox, g0, g1⟩ := id lr
    obtain ⟨t, gp⟩ := gp
    have hu := hu_of hr
    have l8 := ox.l8
    refine ⟨_, PSs.nox (pss_cons (ps_set (i := 3) sc_least_driver.nd rfl (.inl rfl) (pe_ix ix_tup (pv 0) pe_int (fun _ _ => rfl)))
      (pss_cons (ps_set (i := 6) sc_least_driver.nd rfl (.inr rfl) pe_dnewK)
      (pss_cons (ps_for PassesOwn.never rfl (RZ.pi_zipA rfl b2.zip (pa_cons (pe_ix ix_tup (pv 0) pe_int (fun _ _ => rfl)) (pa_cons (pv 1) pa_nil))) (pg_tup rfl (pgs_cons (pg_name (i := 4) sc_least_driver.nd rfl (.inl rfl)) (pgs_cons (pg_name (i := 5) sc_least_driver.nd rfl (.inl rfl)) pgs_nil)))
        (pss_one (ps_dput hu (pv 6) (pv 4) (pe_ifExp (pt_cmpR op_eq (pv 3) pe_int (nomark _)) (pv 5) (pe_op op_fdW (pe_op op_mul (pv 5) (pv 3)) (pe_glob (v := .int 840) rfl gp ⟨t, rfl⟩))) rfl)))
      (pss_one (ps_ret (LK.pe_minKey (T := T0 K) (jd := 6) rfl b2.min (pa_cons (pv 2) pa_nil) hr TB rfl (List.mem_singleton.mpr rfl) (fun p hp _ => by rw [List.mem_singleton.mp hp]; rfl) ⟨rfl, rfl, rfl, by decide +kernel, by decide +kernel, by decide +kernel, by decide +kernel, by decide +kernel, by decide +kernel⟩ (by show ∀ (y : Str × NameKind), y ∈ _ → y.2 = NameKind.free → List.lookup y.1 d_least_driver.scope.names = some .cell ∨ List.lookup y.1 d_least_driver.scope.names = some .free; decide +kernel) rfl rfl rfl (fun _ _ => rfl) (fun _ _ _ _ _ _ => rfl))))))), ?_⟩
    refine ⟨_, rfl, r, _, _, _, rfl, rfl, SqT.of hrr, rfl, fun dd fdd => ?_⟩
    have sd := same_new (o := .dK []) fdd
    refine ⟨_, rfl, r, _, _, _, rfl, rfl, SqT.of (sd _ _ hrr), rfl, _, rfl, ot, hd, _, _, rfl, .inr ⟨SqT.of (sd _ _ hot), SqT.of (sd _ _ hc), ?_⟩⟩
    refine RZ.for_zipT (by simp) (fun i σ H2 => ∃ (v4 v5 : Option V) (kvs : List (Key × V)), σ = [some (.ref r), some (.ref hd), some (.ref nt), some (.int g), v4, v5, some (.ref dd)] ∧ H2 dd = some (.dK kvs) ∧ kvs.length ≤ i ∧ (∀ (j : Nat) (x : Str), j < i → xs[j]? = some x → valV kvs (Sum.inr x) = some (.int (cnt g (c x)))) ∧ Same H H2)
      ⟨_, _, [], rfl, upd_same, Nat.le_refl _, fun j x hj => absurd hj (Nat.not_lt_zero _), sd⟩ (fun i σ H2 ⟨_, _, _, _, _, _, _, sm⟩ => ⟨SqT.of (sm _ _ hot), SqT.of (sm _ _ hc)⟩) ?_ ?_
    · rintro i x y T σ H2 hx hy ⟨v4, v5, kvs, rfl, hdd, hlen, hval, sm⟩ hT
      have hi' : i < xs.length := by
        have := (List.getElem?_eq_some_iff.mp hx).1
        simpa using this
      rw [List.getElem?_map] at hx hy
      obtain ⟨z, hz, rfl⟩ := Option.map_eq_some_iff.mp hx
      rw [hz] at hy
      cases hy
      have sT := same_new (o := .tup [V.str z, V.int (c z)]) hT
      refine ⟨T, _, rfl, SqT.of upd_same, rfl, _, _, rfl, _, _, rfl, rfl, ?_⟩
      have fin : ∀ v : V, v = .int (cnt g (c z)) → ∃ a H4, V.ref dd = .ref a ∧ DPut (upd H2 T (.tup [V.str z, V.int (c z)])) a (.str z) v H4 ∧ (∃ (v4 v5 : Option V) (kvs : List (Key × V)), [some (.ref r), some (.ref hd), some (.ref nt), some (.int g), some (V.str z), some (V.int (c z)), some (.ref dd)] = [some (.ref r), some (.ref hd), some (.ref nt), some (.int g), v4, v5, some (.ref dd)] ∧ H4 dd = some (.dK kvs) ∧ kvs.length ≤ i + 1 ∧ (∀ (j : Nat) (x : Str), j < i + 1 → xs[j]? = some x → valV kvs (Sum.inr x) = some (.int (cnt g (c x)))) ∧ Same H H4) := by
        rintro v rfl
        refine ⟨dd, _, rfl, DPut.k (k := Sum.inr z) (sT _ _ hdd) (Nat.lt_of_le_of_lt (by omega : kvs.length ≤ 8) (by decide)), _, _, _, rfl, upd_same, Nat.le_trans (length_putK _ _ _) (by omega), ?_, ?_⟩
        · intro j x hj hjx
          rw [valV_put]
          by_cases e : x = z
          · rw [e, if_pos rfl]
          · rw [if_neg (fun q => e (Sum.inr.inj q))]
            refine hval j x ?_ hjx
            rcases Nat.lt_succ_iff_lt_or_eq.mp hj with h | h
            · exact h
            · rw [h, hz] at hjx
              exact absurd (Option.some.inj hjx).symm e
        · intro a o e
          rw [upd_ne (ne_of_none e fdd)]
          exact sT a o (sm a o e)
      by_cases hg : g = 0
      · have z0 : decide (V.int g = V.int 0) = true := by simp [hg]
        refine ⟨_, rfl, rfl, _, rfl, ?_⟩
        rw [z0]
        refine iteT ⟨_, rfl, _, rfl, _, rfl, fin _ ?_⟩
        unfold cnt
        rw [if_pos hg]
      · have z0 : decide (V.int g = V.int 0) = false := by simp [hg]
        refine ⟨_, rfl, rfl, _, rfl, ?_⟩
        rw [z0]
        refine iteF ⟨_, rfl, _, rfl, _, _, rfl, rfl, cb_r (by omega) (by omega), _, _, rfl, rfl, ⟨by decide, by decide⟩, _, rfl, _, rfl, fin _ ?_⟩
        unfold cnt
        rw [if_neg hg]
    · rintro σ H2 ⟨v4, v5, kvs, rfl, hdd, hlen, hval, sm⟩
      refine ⟨_, rfl, nt, dd, ns, kvs, fun x => cnt g (c x), rfl, SqT.of (sm _ _ hnt), nne, rfl, hdd, fun y hy => ?_, tabs.ext sm, fun H1 e1 t1 y hy => hQ H1 ((ExtN.of sm).trans e1) t1 y hy⟩
      obtain ⟨j, hj, rfl⟩ := List.mem_iff_getElem.mp (sub y hy)
      exact hval j _ (by simpa using hj) (List.getElem?_eq_getElem hj)
end
end K60
set_option Elab.async false
set_option linter.all false
set_option maxRecDepth 100000
set_option maxHeartbeats 4000000
/-! {k: v for target in xs}, the keys tuples of whole numbers and texts -/
namespace DCT
open PySem PySem.Spec PyProof.Rows L2
section
variable {X : Cx}
/-- a key goes in -/
theorem put_key {pins : List (Addr × Obj)} {σ : L2.St} {H : Hp} {s : Shared} {E : Value → Shared → Prop} {D b : Addr} {kvs : List (List Key × V)} {k : List Key} {v : V} {u : Value} {Q : Unit → Shared → Prop} (hu : X.A.units < cLine)
    (I : Inv X pins σ H s) (hD : H D = some (.dT kvs)) (hb : H b = some (.tup (k.map kV))) (hz : kvs.length < sizeLine) (rv : RelV v u) (fin : ∀ s', Inv X pins σ (upd H D (.dT (putK kvs k v))) s' → Q () s') :
    wpAny (model X.prog X.w) X.A (dictSet D (.ref b) u) Q E s := by
  obtain ⟨_, nm, xs, rel, dd⟩ := dt_of I.hok hD
  have ln := Paired.length rel
  have lp := length_putK kvs k v
  refine wpAny_dictSet_heap (hsz := by omega) (knd := tupleKind (mixKind X.prog X.w)) hu (key_of I.hok hb) dd fun h' new sb => fin _ ?_
  obtain ⟨o, es, ep, w1, w2, w3, w4, _, w5⟩ := new
  refine d_write I (by rw [hD]; exact True.intro) sb ⟨o, w1⟩ ⟨by omega, nm, _, (rel.put k hb rv).keeps fun c ys ec => ?_, o, es, ep, w1, w2, w3, w4, w5⟩
  rw [upd_ne (ne_of ec hD (fun z => nomatch z))]
  exact ec
/-- what is left to show: W by the turn, a measure and the heap, the new dict at D within -/
def tDt (wi : TI) (g : TG) (tk tv : TE) (vs : List Nat) : TE := fun σ H Q => wi σ H fun J H1 => ∀ D, H1 D = none → ∃ W : Nat → Nat → Hp → Prop, (∃ m, W 0 m (upd H1 D (.dT []))) ∧ ∀ i m Hi, W i m Hi →
  (J.stop i Hi ∧ Q (.ref D) Hi) ∨ (J.go i Hi ∧ ∃ Nx : Hp → Prop, (∀ H', Nx H' → ∃ m', m' < m ∧ W (i + 1) m' H') ∧ ∀ x H', J.yld i Hi x H' → g x (wipe σ vs) H' fun σ2 H2 => wipe σ2 vs = wipe σ vs ∧
    tk σ2 H2 fun y H3 => tv σ2 H3 fun z H4 => ∃ (b : Addr) (kvs : List (List Key × V)) (k : List Key), y = .ref b ∧ H4 b = some (.tup (k.map kV)) ∧ H4 D = some (.dT kvs) ∧ kvs.length < sizeLine ∧ Nx (upd H4 D (.dT (putK kvs k z))))
theorem core {pins : List (Addr × Obj)} {s : Shared} {σ : L2.St} {H : Hp} {Q : VK} {kx vx tg iter : Expr} {scope : Scope} {own : List (Str × Nat)} {pos pos' : Pos} {wi : TI} {g : TG} {tk tv : TE} {use : Option (Value → Sem Unit)} {Qf : Value → Shared → Prop}
    (hu : X.A.units < cLine) (hc : X.calm = true) (hN : X.N.Nodup) (I : Inv X pins σ H s) (hi : PI X tg iter wi) (ok : BlkOk X.N X.env.scope scope own)
    (hg : ∀ (s : Shared) (H : Hp) (C : Addr) (cl : List (Str × Addr)) (fp : List Addr), PG (X.blk s H scope (compEnvC scope cl C X.env) fp) tg g)
    (hk : ∀ (s : Shared) (H : Hp) (C : Addr) (cl : List (Str × Addr)) (fp : List Addr), PE (X.blk s H scope (compEnvC scope cl C X.env) fp) kx tk)
    (hv : ∀ (s : Shared) (H : Hp) (C : Addr) (cl : List (Str × Addr)) (fp : List Addr), PE (X.blk s H scope (compEnvC scope cl C X.env) fp) vx tv) (hs : ∀ x, foldedSetIterable iter X.env x = pure x)
    (h : tDt wi g tk tv (own.map (·.2)) σ H Q)
    (out : ∀ D C s' m H', Inv X pins σ H' s' → Q (.ref D) H' → s'.heap.Ns C m → FpOk X pins H' C → compPost (model X.prog X.w) X.A X.xe use Qf (.ref D) C (.ok .next) s') :
    wpAny (model X.prog X.w) X.A (comprehension (.DictComp kx vx [⟨tg, iter, [], 0⟩] scope pos) scope X.env pos' newDict false (eval iter X.env) use) Qf X.xe s := by
  have cells : ∀ y ∈ scope.names, y.2 = .free → ∃ c, X.env.cells.lookup y.1 = some c := fun y hy e => (ok.free y hy e).elim (fun q => I.ok.has _ (.inl q)) fun q => I.ok.has _ (.inr q)
  refine wpAny_comprehension_free (use := use) rfl hs (closure_ok cells) ok.kind (fun y hy e => by rw [ok.uniq y hy, e]) (thn (hi.run pins s σ H _ I h) fun _ s1 h1 => thn h1 fun _ s2 h2 => ?_)
  obtain ⟨it, fp, tn, J, HI, rfl, I2, T, st, ft, rest⟩ := h2
  refine wpAny_newObj_type (newEnv_comp ?_)
  -- the new dict
  obtain ⟨D, eD⟩ : ∃ D, D = s2.heap.objs.size := ⟨_, rfl⟩
  rw [← eD]
  have fD : HI D = none := I2.hok.fresh (Nat.le_of_eq eD.symm)
  obtain ⟨W, ⟨m0, w0⟩, turn⟩ := rest D fD
  obtain ⟨s3, e3⟩ : ∃ s3 : Shared, s3 = { s2 with heap := s2.heap.push { cls := .type "dict", data := .dict #[] } } := ⟨_, rfl⟩
  have h3 : s3.heap = s2.heap.push { cls := .type "dict", data := .dict #[] } := by rw [e3]
  have I3 : Inv X pins σ (upd HI D (.dT [])) s3 := by
    rw [e3]
    refine I2.laid (t' := s2.toks) (fun _ _ e => Heap.get?_push_of_some _ e) (Nat.le_of_eq eD.symm) ?_
    rw [eD]
    exact dt_empty s2.heap I2.big
  have foot : ∀ b ∈ fp, FpOk X pins (upd HI D (.dT [])) b ∧ b < s3.heap.objs.size := fun b hb => by
    obtain ⟨_, e, _⟩ := T.obj _ _ st b hb
    have lt := Heap.lt_size e
    refine ⟨⟨?_, (ft b hb).2⟩, by rw [h3, Heap.size_push]; exact Nat.lt_succ_of_lt lt⟩
    rw [upd_ne (by rw [eD]; exact Nat.ne_of_lt lt)]
    exact (ft b hb).1
  have st3 : tn 0 s3.heap := T.keep _ _ _ st fun b _ o e => by rw [h3]; exact Heap.get?_push_of_some _ e
  have I4 := block_start I3 ok hN foot
  have G := hg s3 (upd HI D (.dT [])) s3.heap.objs.size (cellsFrom (s3.heap.objs.size + 1) scope.names (cloFrom X.env.cells scope.names [])) fp
  have Kx := hk s3 (upd HI D (.dT [])) s3.heap.objs.size (cellsFrom (s3.heap.objs.size + 1) scope.names (cloFrom X.env.cells scope.names [])) fp
  have Vx := hv s3 (upd HI D (.dT [])) s3.heap.objs.size (cellsFrom (s3.heap.objs.size + 1) scope.names (cloFrom X.env.cells scope.names [])) fp
  rw [← e3]
  show codeAny _ _ (.compStart _ 0 (.ref it) (.ref D) (compEnvC scope (cellsFrom (s3.heap.objs.size + 1) scope.names (cloFrom X.env.cells scope.names [])) s3.heap.objs.size X.env)) _ { s3 with heap := pushCells (s3.heap.push { cls := .type "dict", data := .dict #[] }) scope.names }
  generalize eC : compEnvC scope (cellsFrom (s3.heap.objs.size + 1) scope.names (cloFrom X.env.cells scope.names [])) s3.heap.objs.size X.env = ce at I4 G Kx Vx ⊢
  have cL : ce.locals = s3.heap.objs.size := by rw [← eC]; rfl
  have nfp : ∀ b ∈ fp, (upd HI D (.dT [])) b = none := fun b hb => (foot b hb).1.1
  generalize upd HI D (.dT []) = H3 at I3 I4 G Kx Vx w0 nfp foot
  generalize e4 : ({ s3 with heap := pushCells (s3.heap.push { cls := .type "dict", data := .dict #[] }) scope.names } : Shared) = s4 at I4 ⊢
  have st4 : tn 0 s4.heap := T.keep _ _ _ st3 fun b _ o e => by rw [← e4]; exact pushCells_keeps _ _ _ _ (Heap.get?_push_of_some _ e)
  have stay : ∀ {σ' : L2.St} {H' : Hp} {s' : Shared}, Inv (X.blk s3 H3 scope ce fp) [] σ' H' s' → (∀ b ∈ fp, H' b = none) → ∀ b ∈ fp, FpOk (X.blk s3 H3 scope ce fp) [] H' b := fun {σ' H' s'} I' n b hb =>
    ⟨n b hb, (I'.ok.exf b hb).1, I'.ok.exfs b hb, .inl hb, fun x c e => (I'.ok.exf b hb).2 x c e, fun p hp => absurd (show p ∈ ([] : List (Addr × Obj)) ++ [] from hp) (by simp)⟩
  refine codeAny_compStart_dict ?loop (T.self X.A 0 _ _ _ st4 ?loop)
  refine compLoop_anyD (fun n s' => ∃ i Hi, Inv (X.blk s3 H3 scope ce fp) [] (wipe σ (own.map (·.2))) Hi s' ∧ tn i s'.heap ∧ (∀ b ∈ fp, Hi b = none) ∧ W i n Hi) ?_ m0 ⟨0, H3, I4, st4, nfp, w0⟩
  rintro n s5 ⟨i, H5, I5, st5, n5, w5⟩
  rcases turn i n H5 w5 with ⟨stop, done⟩ | ⟨go, Nx, less, step⟩
  · refine thnF (T.done (X.blk s3 H3 scope ce fp) rfl rfl rfl hc i [] s5 _ H5 (fun _ _ => False) I5 (stay I5 n5) st5 stop) fun r s6 ⟨er, I6⟩ => ?_
    subst er
    have I7 : Inv X pins σ H5 s6 := I3.call' (ch := fp) I6.os I6.base I6.hok I6.bare fun b hb => ⟨(foot b hb).1.2.2.2.1, (foot b hb).1.2.1, (foot b hb).1.2.2.2.2.1, (foot b hb).1.2.2.2.2.2⟩
    have nC : H5 s3.heap.objs.size = none := by rw [← cL]; exact I6.free
    obtain ⟨m, ns, _⟩ := I6.loc
    have ns : s6.heap.Ns ce.locals m := ns
    rw [cL] at ns
    exact out D s3.heap.objs.size s6 m H5 I7 done ns (I3.fpOk (Nat.le_refl _) nC)
  · refine thnF (T.item (X.blk s3 H3 scope ce fp) rfl rfl rfl hc i [] s5 _ H5 (fun _ _ => False) I5 (stay I5 n5) st5 go) fun r s6 ⟨u, er, h6⟩ => ?_
    subst er
    refine thnF h6 fun _ s7 ⟨x, H7, I7, r7, y7, st7, n7⟩ => ?_
    refine thnF (G.run _ s7 _ H7 x u _ (I7.pinned (stay I7 n7) (T.obj _ _ st7)) r7 (step x H7 y7)) fun _ s8 ⟨σ8, H8, I8, wi8, q8⟩ => ?_
    refine thnF ((pts_nil (X := X.blk s3 H3 scope ce fp)).run _ s8 σ8 H8 (fun b H' => b = true ∧ H' = H8) I8 ⟨rfl, rfl⟩) fun b s9 ⟨H9, I9, eb, e9⟩ => ?_
    subst eb e9
    simp only [if_true]
    refine thnF (Kx.run _ s9 σ8 _ _ I9 q8) fun ku s10 ⟨yk, H10, I10, r10, q10⟩ => ?_
    refine thnF (Vx.run _ s10 σ8 H10 _ I10 q10) fun vu s11 ⟨yv, H11, I11, r11, b, kvs, k, ek, hb, hD, hz, nx⟩ => ?_
    subst ek
    obtain rfl : ku = Value.ref b := r10
    refine put_key (X := X.blk s3 H3 scope ce fp) hu I11 hD hb hz r11 fun s12 I12 => ?_
    obtain ⟨m', lt, w'⟩ := less _ nx
    have pin : ∀ b ∈ fp, ∀ o, s7.heap.get? b = some o → s12.heap.get? b = some o ∧ (upd H11 D (.dT (putK kvs k yv))) b = none := fun b hb o e =>
      let z := I12.pin (b, o) (List.mem_append_right _ (List.mem_append_right _ (mem_pinsAt hb e)))
      ⟨z.1, z.2.1⟩
    have ls : (wipe σ (own.map (·.2))).length = σ8.length := by rw [← wi8, wipe_length]
    refine ⟨m', lt, i + 1, _, (I12.unpinned (pins := [])).weak ls (fun j v e => ?_), T.keep _ _ _ st7 fun b hb o e => (pin b hb o e).1, fun b hb => ?_, w'⟩
    · rw [← wi8] at e
      exact (wipe_some e).1
    · obtain ⟨o, e, _⟩ := T.obj _ _ st7 b hb
      exact (pin b hb o e).2
theorem pe_dt {kx vx tg iter : Expr} {scope : Scope} {own : List (Str × Nat)} {pos : Pos} {wi : TI} {g : TG} {tk tv : TE} (hu : X.A.units < cLine) (hc : X.calm = true) (hN : X.N.Nodup) (hi : PI X tg iter wi) (ok : BlkOk X.N X.env.scope scope own)
    (hg : ∀ (s : Shared) (H : Hp) (C : Addr) (cl : List (Str × Addr)) (fp : List Addr), PG (X.blk s H scope (compEnvC scope cl C X.env) fp) tg g)
    (hk : ∀ (s : Shared) (H : Hp) (C : Addr) (cl : List (Str × Addr)) (fp : List Addr), PE (X.blk s H scope (compEnvC scope cl C X.env) fp) kx tk)
    (hv : ∀ (s : Shared) (H : Hp) (C : Addr) (cl : List (Str × Addr)) (fp : List Addr), PE (X.blk s H scope (compEnvC scope cl C X.env) fp) vx tv) (hs : ∀ x, foldedSetIterable iter X.env x = pure x := by intro _; rfl) :
    PE X (.DictComp kx vx [⟨tg, iter, [], 0⟩] scope pos) (tDt wi g tk tv (own.map (·.2))) := by
  refine ⟨fun pins s σ H Q I h => ?_⟩
  rw [arm_eval_DictComp]
  refine core hu hc hN I hi ok hg hk hv hs h fun D C s' m H' I' q ns f => ⟨m, ns, fun h'' sb => ?_⟩
  obtain ⟨g0, g1, g2, g3, g4, g5⟩ := f
  exact ⟨.ref D, H', I'.turned (t' := s'.toks) (fun b o hb e => (sb.2 b hb).trans e) g0 g1 g3 g4 g5, rfl, q⟩
/-- put into a local name on one line -/
theorem ps_setDt {i : Nat} {y : Str} {py : Pos} {kx vx tg iter : Expr} {scope : Scope} {own : List (Str × Nat)} {pos spos : Pos} {wi : TI} {g : TG} {tk tv : TE} (hu : X.A.units < cLine) (hc : X.calm = true) (hN : X.N.Nodup) (hy : X.N[i]? = some y) (hyl : X.env.scope.names.lookup y = some .local)
    (hsw : swapsWith (.DictComp kx vx [⟨tg, iter, [], 0⟩] scope pos) (some (.Name y py)) spos.line X.env = pure true) (hi : PI X tg iter wi) (ok : BlkOk X.N X.env.scope scope own)
    (hg : ∀ (s : Shared) (H : Hp) (C : Addr) (cl : List (Str × Addr)) (fp : List Addr), PG (X.blk s H scope (compEnvC scope cl C X.env) fp) tg g)
    (hk : ∀ (s : Shared) (H : Hp) (C : Addr) (cl : List (Str × Addr)) (fp : List Addr), PE (X.blk s H scope (compEnvC scope cl C X.env) fp) kx tk)
    (hv : ∀ (s : Shared) (H : Hp) (C : Addr) (cl : List (Str × Addr)) (fp : List Addr), PE (X.blk s H scope (compEnvC scope cl C X.env) fp) vx tv) (hs : ∀ x, foldedSetIterable iter X.env x = pure x := by intro _; rfl) :
    PS X (.Assign [.Name y py] (.DictComp kx vx [⟨tg, iter, [], 0⟩] scope pos) spos) (tAsg (tDt wi g tk tv (own.map (·.2))) (gName i)) := by
  refine ⟨fun pins s σ H D I h => ?_⟩
  rw [exec_Assign_Name_used _ _ _ _ hsw]
  refine wpAny_bind (wpAny_standAt (wpAny_bind ?_))
  show wpAny _ X.A (do let _ ← comprehension (.DictComp kx vx [⟨tg, iter, [], 0⟩] scope pos) scope X.env (firstIterPos [⟨tg, iter, [], 0⟩] pos) newDict false (eval iter X.env) (some (assign (.Name y py) X.env))) _ _ s
  have h : tDt wi g tk tv (own.map (·.2)) σ H (fun x H1 => gName i x σ H1 D.nx) := h
  refine wpAny_bind (thn (core (Qf := fun _ s' => SP X pins D .next s') hu hc hN I hi ok hg hk hv hs h fun L C s' m H' I' q ns f => ?_) fun _ s' hq => wpAny_pure (wpAny_pure hq))
  show wpAny _ _ (assign (.Name y py) X.env (.ref L)) _ _ _
  refine wpAny_assign_Name (store_ok2 (v := V.ref L) I' hN hy (.inl hyl) rfl (fun s2 I2 ⟨a, sb, ha⟩ => ?_) (.inr hyl))
  obtain ⟨g0, g1, g2, g3, g4, g5⟩ := f
  have ca : C ≠ a := by
    rcases ha with z | z
    · rw [z]; exact g1
    · exact fun e => g4 y a z e.symm
  refine ⟨m, ns.sameBut sb ca, fun h3 sb3 => ?_⟩
  exact ⟨_, H', I2.turned (t' := s2.toks) (fun b o hb e => (sb3.2 b hb).trans e) g0 g1 g3 g4 g5, q⟩
end
/-- over anything that is walked -/
theorem dt_it {J : It} {n : Nat} {G : Hp → Prop} {Y : Nat → Hp → V → Hp → Prop} (w : Walk J n G Y) {g : TG} {tk tv : TE} {vs : List Nat} {σ : L2.St} {H1 : Hp} {D : Addr} {Qd : Hp → Prop} (Pv : Nat → Hp → Prop) (h0 : Pv 0 (upd H1 D (.dT []))) (hG : ∀ i H, i ≤ n → Pv i H → G H)
    (hs : ∀ i x H H', i < n → Pv i H → Y i H x H' → g x (wipe σ vs) H' fun σ2 H2 => wipe σ2 vs = wipe σ vs ∧
      tk σ2 H2 fun y H3 => tv σ2 H3 fun z H4 => ∃ (b : Addr) (kvs : List (List Key × V)) (k : List Key), y = .ref b ∧ H4 b = some (.tup (k.map kV)) ∧ H4 D = some (.dT kvs) ∧ kvs.length < sizeLine ∧ Pv (i + 1) (upd H4 D (.dT (putK kvs k z)))) (hd : ∀ H, Pv n H → Qd H) :
    ∃ W : Nat → Nat → Hp → Prop, (∃ m, W 0 m (upd H1 D (.dT []))) ∧ ∀ i m Hi, W i m Hi →
      (J.stop i Hi ∧ Qd Hi) ∨ (J.go i Hi ∧ ∃ Nx : Hp → Prop, (∀ H', Nx H' → ∃ m', m' < m ∧ W (i + 1) m' H') ∧ ∀ x H', J.yld i Hi x H' → g x (wipe σ vs) H' fun σ2 H2 => wipe σ2 vs = wipe σ vs ∧
        tk σ2 H2 fun y H3 => tv σ2 H3 fun z H4 => ∃ (b : Addr) (kvs : List (List Key × V)) (k : List Key), y = .ref b ∧ H4 b = some (.tup (k.map kV)) ∧ H4 D = some (.dT kvs) ∧ kvs.length < sizeLine ∧ Nx (upd H4 D (.dT (putK kvs k z)))) := by
  refine ⟨fun i m H => m + i = n ∧ Pv i H, ⟨n, by simp, h0⟩, ?_⟩
  rintro i m H ⟨em, p⟩
  have hi : i ≤ n := by omega
  have q := hG i H hi p
  rcases Nat.lt_or_eq_of_le hi with lt | e
  · exact .inr ⟨w.goes i H lt q, Pv (i + 1), fun H' p' => ⟨n - (i + 1), by omega, by omega, p'⟩, fun x H' y => hs i x H H' lt p (w.yields i H x H' lt q y)⟩
  · subst e
    exact .inl ⟨w.stops H q, hd H p⟩
end DCT
set_option Elab.async false
set_option linter.all false
set_option maxRecDepth 100000
set_option maxHeartbeats 4000000
/-! sorted(xs), xs a list of data at any depth -/
namespace SRT
open PySem PySem.Spec PyProof.Rows L2
/-- p stands not behind q -/
def leD (p q : V × PyData) : Bool := !PySem.W.dataLt q.2 p.2
/-- the sorted list -/
def srt (xs : List V) (ds : List PyData) : List V := ((xs.zip ds).mergeSort leD).map Prod.fst
theorem len_of {K : PySem.W.Frag} {H : Hp} : ∀ {xs : List V} {ds : List PyData}, DpAll K H xs ds → xs.length = ds.length
  | _, _, .nil => rfl
  | _, _, .cons _ t => congrArg (· + 1) (len_of t)
theorem srt_perm {xs : List V} {ds : List PyData} (h : xs.length = ds.length) : (srt xs ds).Perm xs := by
  unfold srt
  refine ((List.mergeSort_perm _ _).map Prod.fst).trans ?_
  rw [List.map_fst_zip (by omega)]
theorem vals_each : ∀ {xs : List V} {us : List Value} {ds : List PyData}, Vals xs us → xs.length = ds.length → PySem.W.EachIs (fun v (b : V × PyData) => RelV b.1 v) us (xs.zip ds)
  | [], _, [], .nil, _ => .nil
  | x :: xs, _, d :: ds, .cons r rs, h => .cons r (vals_each rs (by simpa using h))
theorem each_vals : ∀ {us : List Value} {bs : List (V × PyData)}, PySem.W.EachIs (fun v (b : V × PyData) => RelV b.1 v) us bs → Vals (bs.map Prod.fst) us
  | _, _, .nil => .nil
  | _, _, .cons r rs => .cons r (each_vals rs)
def rSortedD (K : PySem.W.Frag) : List V → Hp → VK → Prop := fun vs H Q => ∃ (a : Addr) (xs : List V) (ds : List PyData), vs = [V.ref a] ∧ (SqL K H a xs ∨ SqT K H a xs) ∧ DpAll K H xs ds ∧ PySem.W.AllAlike ds ∧ PySem.W.Sortable ds ∧ (∀ d ∈ ds, d.depth ≤ 60) ∧
  ∀ p : Addr, H p = none → Q (.ref p) (upd H p (.lst (srt xs ds)))
/-! sorted of a tuple -/
section
variable {prog : Program} {w : World} {A : Around} {E : Value → Shared → Prop} {s : Shared} {κ : KeyKind}
theorem gather_tup {b : Addr} {us : List Value} {R : List Value → Shared → Prop} (ht : s.heap.IsTuple b us.toArray) (hz : us.length ≤ sizeLine)
    (h : R us { s with heap := (s.heap.push (seqObj "list" #[] 0)).update s.heap.objs.size (Obj.mapSeq (· ++ us.toArray)) }) : wpAny (model prog w) A (collect (.ref b)) R E s := by
  obtain ⟨ob, e1, e2, k, e3⟩ := id ht
  have e4 : (s.heap.push (seqObj "list" #[] 0)).get? b = some ob := Heap.get?_push_of_some _ e1
  have em : (s.heap.push (seqObj "list" #[] 0)).get? s.heap.objs.size = some (seqObj "list" #[] 0) := Heap.get?_push_size _ rfl
  unfold collect
  refine wpAny_bind (wpAny_runValue (codeAny_builtin entry_proto_collect' ?_))
  show wpAny _ _ (do again (.builtin "list.__iadd__" ⟨[← newList [], .ref b], []⟩)) _ _ s
  refine wpAny_bind (wpAny_newList (wpAny_pure ⟨Code.quiet_builtin _ (by decide +kernel), codeAny_builtin entry_list_iadd' ?_⟩))
  show wpAny _ _ (Builtin.List.listExtendWith (.ref s.heap.objs.size) (.ref b) (.ref s.heap.objs.size)) _ _ { s with heap := s.heap.push (seqObj "list" #[] 0) }
  unfold Builtin.List.listExtendWith
  refine wpAny_bind (wpAny_typeOf (T := "tuple") ⟨ob, e4, e2⟩ ?_)
  have et : (Value.type "tuple" == Value.type "tuple") = true := by rfl
  rw [if_pos (by rw [et]; simp)]
  refine wpAny_bind (listItems_at e4 e3 (wpAny_bind (listItems_at em rfl ?_)))
  rw [if_neg (by simp)]
  refine wpAny_bind (listUpdate_at em rfl ?_ (Nat.zero_le _) (by simp only [Array.size_append, List.size_toArray, List.length_nil]; omega))
  refine wpAny_pure ?_
  show wpAny (model prog w) A (load s.heap.objs.size >>= fun o => match o.data with | .seq xs _ => pure xs.toList | _ => unsupported "internal:collect") R E _
  refine wpAny_bind (wpAny_load (get?_update_seq em _) ?_)
  show wpAny _ _ (pure ((#[] : Array Value) ++ us.toArray).toList) R E _
  have e5 : ((#[] : Array Value) ++ us.toArray).toList = us := by simp
  rw [e5]
  exact wpAny_pure h
theorem sorted_tupV {b : Addr} {us : List Value} {R : Value → Shared → Prop} (ht : s.heap.IsTuple b us.toArray) (hz : us.length ≤ sizeLine)
    (S : PySem.W.SortsAt prog w A.in1.in1 { s with heap := PySem.W.sortingHeap (PySem.W.copyHeap s.heap us) (s.heap.objs.size + 1) us } κ us)
    (h : R (.ref (s.heap.objs.size + 1)) { s with heap := sortedAll s.heap us (PySem.W.sortVals κ false us us).toArray }) : wpAny (model prog w) A (call (.builtin "sorted") [.ref b]) R E s := by
  refine Calls.call_function_entry kind_sorted plain_sorted entry_sorted (args_sorted1 _) ?_
  unfold Builtin.«sorted»
  refine wpAny_bind (m := checkCount "sorted" 1 1 _) (wpAny_pure (wpAny_bind (gather_tup ht hz (wpAny_bind (wpAny_newList ?_ hz)))))
  have e : ((s.heap.push (seqObj "list" #[] 0)).update s.heap.objs.size (Obj.mapSeq (· ++ us.toArray))).objs.size = s.heap.objs.size + 1 := (Heap.size_update ..).trans (size_push' ..)
  show wpAny _ _ _ _ _ { s with heap := PySem.W.copyHeap s.heap us }
  rw [e]
  refine wpAny_bind (wpAny_holding (wpAny_call_entry slot_list_sort ⟨_, PySem.W.copyHeap_at s.heap us, rfl⟩ entry_list_sort ?_ (args_list_sort _)))
  exact PySem.W.list_sort_vals (s := { s with heap := PySem.W.copyHeap s.heap us }) (PySem.W.copyHeap_at s.heap us) S hz ⟨_, rfl, wpAny_pure ⟨_, rfl, h⟩⟩
end
section
variable {X : Cx} {pins : List (Addr × Obj)} {σ : L2.St} {H : Hp} {s : Shared}
theorem reads_each (I : Inv X pins σ H s) : ∀ {ds : List PyData} {vs : List V} {us : List Value}, DpAll X.K H vs ds → Vals vs us → PySem.W.EachIs (fun v d => ∃ as, Reads s.heap v d as) us ds
  | [], _, _, h, r => by
    cases h
    cases r
    exact .nil
  | d :: ds, _, _, h, r => by
    cases h with
    | cons h1 h2 =>
      cases r with
      | cons r1 r2 => exact .cons (Dp.reads I d _ _ h1 r1) (reads_each I h2 r2)
theorem cr_sortedD (hu : X.A.units + 64 < cLine) : CallR X (.builtin "sorted") (rSortedD X.K) := by
  intro pins s σ H vs us Q I r h
  obtain ⟨a, xs, ds, rfl, hs, hd, al, so, dp, q⟩ := h
  rw [Vals.ref1 r]
  have ln := len_of hd
  have main : ∀ its : List Value, Vals xs its → xs.length ≤ sizeLine → ∃ κ : KeyKind, PySem.W.SortsAt X.prog X.w X.A.in1.in1 { s with heap := PySem.W.sortingHeap (PySem.W.copyHeap s.heap its) (s.heap.objs.size + 1) its } κ its ∧
      EP X pins σ Q (.ref (s.heap.objs.size + 1)) { s with heap := sortedAll s.heap its (PySem.W.sortVals κ false its its).toArray } := fun its rv hz => by
    have e := reads_each I hd rv
    have e2 : PySem.W.EachIs (fun v d => ∃ as, Reads (PySem.W.sortingHeap (PySem.W.copyHeap s.heap its) (s.heap.objs.size + 1) its) v d as) its ds := e.mono fun v d ⟨as, h⟩ => ⟨as, Reads.keeps (fun b o z => PySem.W.sorting_copy_old z) h⟩
    have S := PySem.W.SortsAt.data (prog := X.prog) (w := X.w) (A := X.A.in1.in1) (s := { s with heap := PySem.W.sortingHeap (PySem.W.copyHeap s.heap its) (s.heap.objs.size + 1) its }) e2 al so (fun d hd => by have := dp d hd; show X.A.units + 1 + 1 + d.depth < cLine; omega)
    refine ⟨_, S, ?_⟩
    have ek : PySem.W.EachIs (fun v (b : V × PyData) => (PySem.W.dataKind (PySem.W.sortingHeap (PySem.W.copyHeap s.heap its) (s.heap.objs.size + 1) its) ds).keyOf v = some (PySem.W.keyToks b.2)) its (xs.zip ds) := by
      have f := PySem.W.each_keys al e2
      have mz : (xs.zip ds).map Prod.snd = ds := List.map_snd_zip (by omega)
      rw [← mz] at f
      have f' := PySem.W.each_of_map (fun b : V × PyData => b.2) f
      rw [mz] at f'
      exact f'
    have eo := PySem.W.sortVals_each (κ := PySem.W.dataKind (PySem.W.sortingHeap (PySem.W.copyHeap s.heap its) (s.heap.objs.size + 1) its) ds) (rev := false) (fun b : V × PyData => PySem.W.keyToks b.2) (vals_each rv ln) ek
    have vo := each_vals eo
    generalize PySem.W.sortVals _ false its its = out at vo ⊢
    obtain ⟨ep, he'⟩ := PyProof.Rows.sortedAll_at s.heap its out.toArray
    have hlen : (srt xs ds).length ≤ sizeLine := by rw [(srt_perm ln).length_eq]; exact hz
    exact ⟨.ref _, upd H (s.heap.objs.size + 1) (.lst (srt xs ds)), I.laid (t' := s.toks) (fun _ _ => PyProof.Rows.sortedAll_old) (Nat.le_succ _) ⟨hlen, out, ep, vo, he'⟩, rfl, q _ (I.hok.fresh (Nat.le_succ _))⟩
  rcases hs with hs | hs
  · obtain ⟨its, rv, hl, hz⟩ := I.list hs
    obtain ⟨κ, S, k⟩ := main its rv hz
    exact PySem.W.sorted_vals hl.isList S (by rw [← rv.length]; exact hz) k
  · obtain ⟨its, rv, hl, hz⟩ := I.tuple hs
    obtain ⟨κ, S, k⟩ := main its rv hz
    exact sorted_tupV hl (by rw [← rv.length]; exact hz) S k
/-- texts -/
def leS (x y : Str) : Prop := ¬ y.cps.toList < x.cps.toList
theorem dpS {H : Hp} : ∀ xs : List Str, DpAll X.K H (xs.map V.str) (xs.map PyData.str)
  | [] => .nil
  | x :: xs => .cons (.str x) (dpS xs)
theorem srtS (xs : List Str) : ∃ ys : List Str, srt (xs.map V.str) (xs.map PyData.str) = ys.map V.str ∧ ys.Perm xs ∧ ys.Pairwise leS := by
  have tot := PySem.W.sortLe_total (listOrd itemOrd) false (fun p : V × PyData => PySem.W.keyToks p.2)
  have pw := PySem.W.sort_pairwise tot ((xs.map V.str).zip (xs.map PyData.str))
  have pm := List.mergeSort_perm ((xs.map V.str).zip (xs.map PyData.str)) leD
  have mem : ∀ p ∈ ((xs.map V.str).zip (xs.map PyData.str)).mergeSort leD, ∃ x, p = (V.str x, PyData.str x) := fun p hp => by
    have := pm.mem_iff.mp hp
    rw [List.zip_map'] at this
    obtain ⟨x, _, e⟩ := List.mem_map.mp this
    exact ⟨x, e.symm⟩
  have pw' : (((xs.map V.str).zip (xs.map PyData.str)).mergeSort leD).Pairwise fun a b => leD a b = true := pw
  unfold srt
  generalize ((xs.map V.str).zip (xs.map PyData.str)).mergeSort leD = L at pm mem pw'
  have : ∃ ys : List Str, L = ys.map fun x => (V.str x, PyData.str x) := by
    clear pm pw'
    induction L with
    | nil => exact ⟨[], rfl⟩
    | cons p L ih =>
      obtain ⟨x, e⟩ := mem p List.mem_cons_self
      obtain ⟨ys, e2⟩ := ih fun q hq => mem q (List.mem_cons_of_mem _ hq)
      exact ⟨x :: ys, by rw [e, e2]; rfl⟩
  obtain ⟨ys, rfl⟩ := this
  refine ⟨ys, ?_, ?_, ?_⟩
  · rw [List.map_map]
    rfl
  · have p2 := pm.map fun p : V × PyData => match p.1 with | .str x => x | _ => ""
    rw [List.map_map, List.zip_map', List.map_map] at p2
    simpa [Function.comp_def] using p2
  · refine (List.pairwise_map.mp pw').imp fun {a b} h => ?_
    have h' : (!PySem.W.dataLt (.str b) (.str a)) = true := h
    rw [PySem.W.dataLt_str] at h'
    simpa [leS] using h'
/-- sorted of texts, a list or a tuple -/
def rSortedTx (K : PySem.W.Frag) : List V → Hp → VK → Prop := fun vs H Q => ∃ (a : Addr) (xs : List Str), vs = [V.ref a] ∧ (SqL K H a (xs.map V.str) ∨ SqT K H a (xs.map V.str)) ∧
  ∀ (ys : List Str) (p : Addr), ys.Perm xs → ys.Pairwise leS → H p = none → Q (.ref p) (upd H p (.lst (ys.map V.str)))
theorem cr_sortedTx (hu : X.A.units + 64 < cLine) : CallR X (.builtin "sorted") (rSortedTx X.K) := by
  intro pins s σ H vs us Q I r h
  obtain ⟨a, xs, rfl, hs, q⟩ := h
  obtain ⟨ys, e, pm, pw⟩ := srtS xs
  refine cr_sortedD hu pins s σ H _ us Q I r ⟨a, _, xs.map PyData.str, rfl, hs, dpS xs, fun d h1 d' h2 => ?_, .inr fun d h1 => ?_, fun d h1 => ?_, fun p fp => ?_⟩
  · obtain ⟨x, _, rfl⟩ := List.mem_map.mp h1
    obtain ⟨y, _, rfl⟩ := List.mem_map.mp h2
    rfl
  · obtain ⟨x, _, rfl⟩ := List.mem_map.mp h1
    refine ⟨fun z => ?_, fun l z => ?_⟩ <;> cases z
  · obtain ⟨x, _, rfl⟩ := List.mem_map.mp h1
    show 0 ≤ 60
    decide
  · rw [e]
    exact q ys p pm pw fp
end
end SRT
set_option Elab.async false
set_option linter.all false
set_option maxRecDepth 100000
set_option maxHeartbeats 4000000
/-! SDC: a dict comprehension assigned to a plain local on one line; a dict comprehension over a list. -/
namespace SDC
open PySem PySem.Spec PyProof.Rows L2
section
variable {X : Cx}
theorem ps_setDc {i : Nat} {y : Str} {py : Pos} {kx vx tg iter : Expr} {ifs : List Expr} {scope : Scope} {own : List (Str × Nat)} {pos spos : Pos} {wi : TI} {g : TG} {tt : TT} {tk tv : TE} (hc : X.calm = true) (hN : X.N.Nodup) (hy : X.N[i]? = some y) (hyl : X.env.scope.names.lookup y = some .local)
    (hsw : swapsWith (.DictComp kx vx [⟨tg, iter, ifs, 0⟩] scope pos) (some (.Name y py)) spos.line X.env = pure true) (hi : PI X tg iter wi) (ok : BlkOk X.N X.env.scope scope own)
    (hg : ∀ (s : Shared) (H : Hp) (C : Addr) (cl : List (Str × Addr)) (fp : List Addr), PG (X.blk s H scope (compEnvC scope cl C X.env) fp) tg g) (ht : ∀ (s : Shared) (H : Hp) (C : Addr) (cl : List (Str × Addr)) (fp : List Addr), PTs (X.blk s H scope (compEnvC scope cl C X.env) fp) ifs tt)
    (hk : ∀ (s : Shared) (H : Hp) (C : Addr) (cl : List (Str × Addr)) (fp : List Addr), PE (X.blk s H scope (compEnvC scope cl C X.env) fp) kx tk)
    (he : ∀ (s : Shared) (H : Hp) (C : Addr) (cl : List (Str × Addr)) (fp : List Addr), PE (X.blk s H scope (compEnvC scope cl C X.env) fp) vx tv) (hs : ∀ x, foldedSetIterable iter X.env x = pure x := by intro _; rfl) :
    PS X (.Assign [.Name y py] (.DictComp kx vx [⟨tg, iter, ifs, 0⟩] scope pos) spos) (tAsg (tDc wi g tt tk tv (own.map (·.2))) (gName i)) := by
  refine ⟨fun pins s σ H D I h => ?_⟩
  rw [exec_Assign_Name_used _ _ _ _ hsw]
  refine wpAny_bind (wpAny_standAt (wpAny_bind ?_))
  show wpAny _ X.A (do let _ ← comprehension (.DictComp kx vx [⟨tg, iter, ifs, 0⟩] scope pos) scope X.env (firstIterPos [⟨tg, iter, ifs, 0⟩] pos) newDict false (eval iter X.env) (some (assign (.Name y py) X.env))) _ _ s
  have h : tDc wi g tt tk tv (own.map (·.2)) σ H (fun x H1 => gName i x σ H1 D.nx) := h
  refine wpAny_bind (thn (dc_core (Qf := fun _ s' => SP X pins D .next s') hc hN I hi ok hg ht hk he hs h fun L C s' m H' I' q hn f => ?_) fun _ s' hq => wpAny_pure (wpAny_pure hq))
  show wpAny _ _ (assign (.Name y py) X.env (.ref L)) _ _ _
  refine wpAny_assign_Name (store_ok2 (v := V.ref L) I' hN hy (.inl hyl) rfl (fun s2 I2 ⟨a, sb, ha⟩ => ?_) (.inr hyl))
  obtain ⟨f0, f1, f2, f3, f4, f5⟩ := f
  have haC : C ≠ a := by
    rcases ha with z | z
    · rw [z]; exact f1
    · exact fun e => f4 y a z e.symm
  refine ⟨m, hn.sameBut sb haC, fun h3 sb3 => ?_⟩
  exact ⟨_, H', I2.turned (t' := s2.toks) (fun b o hb e => (sb3.2 b hb).trans e) f0 f1 f3 f4 f5, q⟩
theorem sw_true {kx vx : Expr} {gs : List Comprehension} {scope : Scope} {pos py : Pos} {y : Str} {l : Nat} {env : Env} (hk : env.scope.kind = .function) (hy : env.scope.names.lookup y = some .local) (hl : (py.line == pos.line) = true)
    (ha : (scope.names.any fun (n, k) => n == y && (k == .local || k == .cell)) = false) : swapsWith (.DictComp kx vx gs scope pos) (some (.Name y py)) l env = pure true := by
  have ky : env.kindOf y = some .local := hy
  have hb : env.blockKind = .function := by unfold Env.blockKind; rw [hk]; rfl
  unfold swapsWith
  simp only [hb, ky, ha, Expr.pos, hl]
  rfl
end
theorem dc_list {K : PySem.W.Frag} {a : Addr} {xs : List V} {g : TG} {tt : TT} {tk tv : TE} {vs : List Nat} {σ : L2.St} {H1 : Hp} {D : Addr} {Qd : Hp → Prop} (Pv : Nat → Hp → Prop) (h0 : Pv 0 (upd H1 D (.dK []))) (hl : ∀ i H, i ≤ xs.length → Pv i H → SqL K H a xs)
    (hs : ∀ i x H, xs[i]? = some x → Pv i H → g x (wipe σ vs) H fun σ2 H2 => wipe σ2 vs = wipe σ vs ∧ tt σ2 H2 fun b H3 =>
      if b = true then tk σ2 H3 fun y H4 => tv σ2 H4 fun z H5 => ∃ kvs k, y = kV k ∧ H5 D = some (.dK kvs) ∧ kvs.length < sizeLine ∧ Pv (i + 1) (upd H5 D (.dK (putK kvs k z))) else Pv (i + 1) H3) (hd : ∀ H, Pv xs.length H → Qd H) :
    ∃ W : Nat → Nat → Hp → Prop, (∃ m, W 0 m (upd H1 D (.dK []))) ∧ ∀ i m H, W i m H →
      ((Itl K a).stop i H ∧ Qd H) ∨ ((Itl K a).go i H ∧ ∃ Nx : Hp → Prop, (∀ H', Nx H' → ∃ m', m' < m ∧ W (i + 1) m' H') ∧ ∀ x H', (Itl K a).yld i H x H' → g x (wipe σ vs) H' fun σ2 H2 => wipe σ2 vs = wipe σ vs ∧ tt σ2 H2 fun b H3 =>
        if b = true then tk σ2 H3 fun y H4 => tv σ2 H4 fun z H5 => ∃ kvs k, y = kV k ∧ H5 D = some (.dK kvs) ∧ kvs.length < sizeLine ∧ Nx (upd H5 D (.dK (putK kvs k z))) else Nx H3) := by
  refine ⟨fun i m H => m = xs.length - i ∧ i ≤ xs.length ∧ Pv i H, ⟨xs.length, by simp, Nat.zero_le _, h0⟩, ?_⟩
  rintro i m H ⟨rfl, hi, p⟩
  have q := hl i H hi p
  by_cases hlt : i < xs.length
  · refine .inr ⟨⟨xs, xs[i], q, by simp [hlt]⟩, Pv (i + 1), fun H' p' => ⟨xs.length - (i + 1), by omega, rfl, hlt, p'⟩, fun x H' y => ?_⟩
    obtain ⟨e, y⟩ := y
    subst e
    exact hs i x _ (y xs q) p
  · have e : i = xs.length := by omega
    subst e
    exact .inl ⟨⟨xs, q, Nat.le_refl _⟩, hd H p⟩
/-- a row that is put anew comes from one of the row -/
theorem perm_inv {α β : Type} {f : α → β} : ∀ {l' z : List β}, l'.Perm z → ∀ {l : List α}, l.map f = z → ∃ m : List α, m.Perm l ∧ l' = m.map f := by
  intro l' z h
  induction h with
  | nil =>
    intro l e
    cases l with
    | nil => exact ⟨[], .nil, rfl⟩
    | cons _ _ => cases e
  | cons x h ih =>
    intro l e
    cases l with
    | nil => cases e
    | cons a as =>
      simp only [List.map_cons, List.cons.injEq] at e
      obtain ⟨m, p, rfl⟩ := ih e.2
      exact ⟨a :: m, p.cons a, by rw [List.map_cons, e.1]⟩
  | swap x y t =>
    intro l e
    match l, e with
    | a :: b :: t', e =>
      simp only [List.map_cons, List.cons.injEq] at e
      obtain ⟨e1, e2, e3⟩ := e
      exact ⟨b :: a :: t', List.Perm.swap _ _ _, by rw [List.map_cons, List.map_cons, e1, e2, e3]⟩
  | trans h1 h2 ih1 ih2 =>
    intro l e
    obtain ⟨m2, p2, e2⟩ := ih2 e
    obtain ⟨m1, p1, e1⟩ := ih1 e2.symm
    exact ⟨m1, p1.trans p2, e1⟩
end SDC
set_option Elab.async false
set_option linter.all false
set_option maxRecDepth 100000
set_option maxHeartbeats 4000000
namespace K60
open PySem PySem.Spec PyProof.Rows L2
open C8 (Cal Mak Met pe_c pe_mk pe_mt pe_mt0)
open LamX (Tabs ExtN TabB)
open SX (S)
/-- who drives by the line -/
def DrvL (ln R : List Str) (y : Str) : Prop := (ln.filter fun x => decide (x ∈ R))[0]? = some y
/-- the line behind a day -/
def nl (ln R : List Str) (y : Str) : List Str := if R.length = 1 then ln else (ln.filter fun x => !decide (x = y)) ++ [y]
theorem DrvL.same {ln R : List Str} {y z : Str} (a : DrvL ln R y) (b : DrvL ln R z) : y = z := Option.some.inj (a.symm.trans b)
theorem DrvL.mem {ln R : List Str} {y : Str} (a : DrvL ln R y) : y ∈ R ∧ y ∈ ln := by
  have := List.mem_filter.mp (List.mem_of_getElem? a)
  exact ⟨of_decide_eq_true this.2, this.1⟩
theorem DrvL.ex {xs ln R : List Str} (p : ln.Perm xs) (dy : DayOk xs R) : ∃ y, DrvL ln R y := by
  obtain ⟨y, hy⟩ := List.exists_mem_of_ne_nil R dy.ne
  have : y ∈ ln.filter fun x => decide (x ∈ R) := List.mem_filter.mpr ⟨p.mem_iff.mpr (dy.sub y hy), decide_eq_true hy⟩
  unfold DrvL
  cases e : ln.filter fun x => decide (x ∈ R) with
  | nil => rw [e] at this; cases this
  | cons z zs => exact ⟨z, rfl⟩
theorem nl_perm {xs ln R : List Str} {y : Str} (p : ln.Perm xs) (nd : xs.Nodup) (hy : y ∈ ln) : (nl ln R y).Perm xs := by
  unfold nl
  split
  · exact p
  · have nl : ln.Nodup := p.symm.nodup nd
    refine List.Perm.trans ?_ p
    refine (List.perm_append_singleton y _).trans ?_
    clear p nd
    induction ln with
    | nil => cases hy
    | cons z zs ih =>
      have nz := List.nodup_cons.mp nl
      by_cases e : z = y
      · subst e
        have : (zs.filter fun x => !decide (x = z)) = zs := List.filter_eq_self.mpr fun a ha => by
          have : a ≠ z := fun q => nz.1 (q ▸ ha)
          simp [this]
        simp [this]
      · have hy' : y ∈ zs := by
          rcases List.mem_cons.mp hy with q | q
          · exact absurd q.symm e
          · exact q
        have := ih hy' nz.2
        rw [List.filter_cons_of_pos (by simp [e])]
        exact (List.Perm.swap _ _ _).trans (this.cons z)
/-- a set amid its round -/
structure Ent where
  pt : Addr
  nt : Addr
  ns : List Str
  m : Nat
def EntOk (H : Hp) (e : Ent) : Prop := H e.pt = some (.tup [.ref e.nt, .int (e.m : Nat)]) ∧ H e.nt = some (.tup (e.ns.map V.str)) ∧ e.m < e.ns.length
/-- what a rule remembers -/
def KeptOk (n : Nat) (w : Word) (xs : List Str) (H : Hp) (kp : Addr) : Prop := match w with
  | .least _ => ∃ c, Crd H kp xs c
  | .longest => ∃ ln : List Str, H kp = some (.tup (ln.map V.str)) ∧ ln.Perm xs
  | .rounds => ∃ es : List Ent, H kp = some (.tup (es.map fun e => V.ref e.pt)) ∧ (∀ e ∈ es, EntOk H e) ∧ es.length ≤ n
theorem EntOk.ext {H H' : Hp} {e : Ent} (h : EntOk H e) (k : ∀ a ys, H a = some (.tup ys) → H' a = some (.tup ys)) : EntOk H' e := ⟨k _ _ h.1, k _ _ h.2.1, h.2.2⟩
theorem KeptOk.ext {n : Nat} {w : Word} {xs : List Str} {H H' : Hp} {kp : Addr} (h : KeptOk n w xs H kp) (k : ∀ a ys, H a = some (.tup ys) → H' a = some (.tup ys)) : KeptOk n w xs H' kp := by
  cases w with
  | least g => obtain ⟨c, h⟩ := h; exact ⟨c, k _ _ h⟩
  | longest => obtain ⟨ln, h, p⟩ := h; exact ⟨ln, k _ _ h, p⟩
  | rounds => obtain ⟨es, h, q, l⟩ := h; exact ⟨es, k _ _ h, fun e he => (q e he).ext k, l⟩
theorem KeptOk.same {n : Nat} {w : Word} {xs : List Str} {H H' : Hp} {kp : Addr} (h : KeptOk n w xs H kp) (s : Same H H') : KeptOk n w xs H' kp := h.ext fun a ys e => s _ _ e
theorem KeptOk.extN {n : Nat} {w : Word} {xs : List Str} {H H' : Hp} {kp : Addr} (h : KeptOk n w xs H kp) (s : ExtN H H') : KeptOk n w xs H' kp := h.ext fun a ys e => s _ _ e fun _ q => by cases q
theorem Rule3.extN {H H' : Hp} {r ot : Addr} {xs : List Str} {w : Word} (h : Rule3 H r ot xs w) (e : ExtN H H') : Rule3 H' r ot xs w := h.ext fun a ys z => e _ _ z fun _ q => by cases q
section
variable {P : Program} {w : World} {K : PySem.W.Frag} {mg : Str → Option Value} {base : Heap} {f C : Addr} {fd : FuncData}
def spFm : Sp := fun vs H Q _ => ∃ (r ot : Addr) (xs : List Str) (wd : Word), vs = [.ref r] ∧ Rule3 H r ot xs wd ∧ ∀ (t : Addr) (H' : Hp), Same H H' → KeptOk 0 wd xs H' t → Q (.ref t) H'
theorem ok_fm (F : Dn K d_first_memory f fd) (b2 : Bl2 mg) : FnOk P w K mg base CX0 1 f fd ["rule"] spFm := by
  refine F.ok sc_first_memory (fun vs H Q E h => ?_) (fun cdv A outer s H vs Q E hr h => ?_)
  · obtain ⟨r, ot, xs, g, rfl, _⟩ := h
    rfl
  · obtain ⟨r, ot, xs, wd, rfl, ⟨hrr, hot, ox, wok⟩, hQ⟩ := h
    have l8 := ox.l8
    cases wd with
    | longest =>
      have hrr : H r = some (.tup [.str "longest", .ref ot]) := hrr
      refine ⟨_, PSs.nox (pss_cons (ps_if (pt_cmpR op_eq (pe_ix ix_tup (pv 0) pe_int (fun _ _ => rfl)) pe_str (nomark _)) pss_never pss_nil)
        (pss_cons (ps_if (pt_cmpR op_eq (pe_ix ix_tup (pv 0) pe_int (fun _ _ => rfl)) pe_str (nomark _)) (pss_one (ps_ret (pe_ix ix_tup (pv 0) pe_int (fun _ _ => rfl)))) pss_nil) pss_never)), ?_⟩
      refine ⟨_, rfl, r, _, _, _, rfl, rfl, SqT.of hrr, rfl, rfl, _, rfl, ?_⟩
      rw [l_least]
      refine iteF ?_
      refine ⟨_, rfl, r, _, _, _, rfl, rfl, SqT.of hrr, rfl, rfl, _, rfl, iteT ?_⟩
      exact ⟨_, rfl, r, _, _, _, rfl, rfl, SqT.of hrr, rfl, hQ ot H (Same.refl _) ⟨xs, hot, List.Perm.refl _⟩⟩
    | rounds =>
      have hrr : H r = some (.tup [.str "rounds", .ref ot]) := hrr
      refine ⟨_, PSs.nox (pss_cons (ps_if (pt_cmpR op_eq (pe_ix ix_tup (pv 0) pe_int (fun _ _ => rfl)) pe_str (nomark _)) pss_never pss_nil)
        (pss_cons (ps_if (pt_cmpR op_eq (pe_ix ix_tup (pv 0) pe_int (fun _ _ => rfl)) pe_str (nomark _)) pss_never pss_nil) (pss_one (ps_ret (pe_tup pa_nil))))), ?_⟩
      refine ⟨_, rfl, r, _, _, _, rfl, rfl, SqT.of hrr, rfl, rfl, _, rfl, ?_⟩
      rw [r_least]
      refine iteF ?_
      refine ⟨_, rfl, r, _, _, _, rfl, rfl, SqT.of hrr, rfl, rfl, _, rfl, ?_⟩
      rw [r_longest]
      refine iteF ?_
      exact ⟨by show 0 ≤ sizeLine; decide, fun t ft => hQ t _ (same_new ft) ⟨[], upd_same, fun e he => (by cases he), Nat.le_refl _⟩⟩
    | least g =>
      have hrr : H r = some (.tup [.str "least", .ref ot, .int g]) := hrr
      refine ⟨_, PSs.nox (pss_cons (ps_if (pt_cmpR op_eq (pe_ix ix_tup (pv 0) pe_int (fun _ _ => rfl)) pe_str (nomark _)) (pss_one (ps_ret (pe_callTy call_tuple_of rfl b2.tup boot_tuple (pa_cons (pe_lc (own := [("name", 1)]) (g := gName 1) (tt := tYes) rfl sc_first_memory.nd (pi_tup (pe_ix ix_tup (pv 0) pe_int (fun _ _ => rfl))) (blkOk_by (N := N_first_memory) (sc := defScope s_first_memory) (by decide +kernel))
          (fun _ _ _ _ _ => pg_name (i := 1) sc_first_memory.nd rfl (Or.inl rfl)) (fun _ _ _ _ _ => pts_nil) (fun _ _ _ _ _ => pe_int)) pa_nil)))) pss_nil) pss_never), ?_⟩
      refine ⟨_, rfl, r, _, _, _, rfl, rfl, SqT.of hrr, rfl, rfl, _, rfl, iteT ?_⟩
      refine ⟨_, rfl, r, _, _, _, rfl, rfl, SqT.of hrr, rfl, ot, rfl, ⟨_, SqT.of hot⟩, fun D hD => lc_tup (fun i H2 => H2 D = some (.lst ((xs.take i).map fun _ => V.int 0)) ∧ Same H H2) ⟨upd_same, same_new hD⟩ (fun _ H2 _ z => SqT.of (z.2 _ _ hot)) ?_ ?_⟩
      · rintro i x H2 hx ⟨hd, sm⟩
        have hi' : i < xs.length := by
          have := (List.getElem?_eq_some_iff.mp hx).1
          simpa using this
        refine ⟨rfl, _, hd, ?_, ?_, ?_⟩
        · rw [List.length_map, List.length_take]
          exact Nat.lt_of_lt_of_le (by omega : min i xs.length < 64) (by decide)
        · rw [upd_same, zs_take xs i hi']
        · intro a o e
          rw [upd_ne (ne_of_none e hD)]
          exact sm a o e
      · rintro H2 ⟨hd, sm⟩
        rw [List.length_map, List.take_length] at hd
        exact ⟨D, _, rfl, .inl ⟨SqL.of hd, fun l fl => hQ l _ (sm.trans (same_new fl)) ⟨fun _ => 0, upd_same⟩⟩⟩
end
end K60
set_option Elab.async false
set_option linter.all false
set_option maxRecDepth 100000
set_option maxHeartbeats 4000000
namespace K60
open PySem PySem.Spec PyProof.Rows L2
open C8 (Cal Mak Met pe_c pe_mk pe_mt pe_mt0)
open LamX (Tabs ExtN TabB)
open SX (S)
/-- credits behind a day -/
def nxt (R : List Str) (d : Str) (c : Str → Int) (x : Str) : Int := c x - (if x ∈ R then (840 : Int).fdiv (R.length : Int) else 0) + (if x = d then 840 else 0)
/-- who may drive -/
def Drv (g : Int) (c : Str → Int) (xs R : List Str) (y : Str) : Prop := LK.IsMin (fun x => cnt g (c x)) (xs.filter fun x => decide (x ∈ R)) y
theorem LeastR.extN {H H' : Hp} {r ot : Addr} {xs : List Str} {g : Int} (h : LeastR H r ot xs g) (e : ExtN H H') : LeastR H' r ot xs g := h.ext fun a ys z => e _ _ z fun _ q => by cases q
theorem LeastR.same {H H' : Hp} {r ot : Addr} {xs : List Str} {g : Int} (h : LeastR H r ot xs g) (e : Same H H') : LeastR H' r ot xs g := h.ext fun a ys z => e _ _ z
theorem Crd.extN {H H' : Hp} {a : Addr} {xs : List Str} {c : Str → Int} (h : Crd H a xs c) (e : ExtN H H') : Crd H' a xs c := e _ _ h fun _ q => by cases q
theorem Crd.same {H H' : Hp} {a : Addr} {xs : List Str} {c : Str → Int} (h : Crd H a xs c) (e : Same H H') : Crd H' a xs c := e _ _ h

/-- texts as keys -/
def kS (ns : List Str) : List Key := ns.map Sum.inr
theorem kS_map (ns : List Str) : (kS ns).map kV = ns.map V.str := by
  unfold kS
  rw [List.map_map]
  rfl
theorem kS_inj {a b : List Str} (h : kS a = kS b) : a = b := by
  unfold kS at h
  exact (List.map_inj_right fun x y e => Sum.inr.inj e).mp h
/-- a table of rounds: each many below the set's size -/
def Gn (kvs : List (List Key × V)) : Prop := ∀ k v, valV kvs k = some v → ∃ (ns : List Str) (m : Nat), k = kS ns ∧ v = .int (m : Nat) ∧ m < ns.length
theorem Gn.nil : Gn [] := fun k v h => by rw [valV_nil] at h; cases h
theorem Gn.put {kvs : List (List Key × V)} (g : Gn kvs) {ns : List Str} {m : Nat} (h : m < ns.length) : Gn (putK kvs (kS ns) (.int (m : Nat))) := fun k v e => by
  rw [valV_put] at e
  by_cases q : k = kS ns
  · rw [if_pos q] at e
    exact ⟨ns, m, q, (Option.some.inj e).symm, h⟩
  · rw [if_neg q] at e
    exact g k v e
theorem Gn.getD {kvs : List (List Key × V)} (g : Gn kvs) {ns : List Str} (h : 0 < ns.length) : ∃ m : Nat, (valV kvs (kS ns)).getD (.int 0) = .int (m : Nat) ∧ m < ns.length := by
  cases e : valV kvs (kS ns) with
  | none => exact ⟨0, rfl, h⟩
  | some v =>
    obtain ⟨ns', m, e1, rfl, e3⟩ := g _ _ e
    rw [← kS_inj e1] at e3
    exact ⟨m, rfl, e3⟩
theorem Gn.at {kvs : List (List Key × V)} (g : Gn kvs) {i : Nat} {k : List Key} {v : V} (h : kvs[i]? = some (k, v)) : ∃ (ns : List Str) (m : Nat), k = kS ns ∧ valV kvs k = some (.int (m : Nat)) ∧ m < ns.length := by
  have : (kvs.any fun kv => decide (kv.1 = k)) = true := List.any_eq_true.mpr ⟨_, List.mem_of_getElem? h, by simp⟩
  rw [valV_any] at this
  obtain ⟨v', e⟩ := Option.isSome_iff_exists.mp this
  obtain ⟨ns, m, e1, rfl, e3⟩ := g _ _ e
  exact ⟨ns, m, e1, e, e3⟩
theorem fs_ne {xs R : List Str} (dy : DayOk xs R) : (xs.filter fun x => decide (x ∈ R)) ≠ [] := fun z => by
  obtain ⟨y, hy⟩ := List.exists_mem_of_ne_nil R dy.ne
  have : y ∈ xs.filter fun x => decide (x ∈ R) := List.mem_filter.mpr ⟨dy.sub y hy, decide_eq_true hy⟩
  rw [z] at this
  cases this
theorem fs_mem {xs R : List Str} {y : Str} (h : y ∈ xs.filter fun x => decide (x ∈ R)) : y ∈ R := of_decide_eq_true (List.mem_filter.mp h).2
section
variable {P : Program} {w : World} {K : PySem.W.Frag} {mg : Str → Option Value} {base : Heap} {f C : Addr} {fd : FuncData}
def spDb (K : PySem.W.Frag) : Sp := fun vs H Q _ => ∃ (r ot kp rd : Addr) (xs R : List Str) (wd : Word) (n : Nat), vs = [.ref r, .ref kp, .ref rd] ∧ Rule3 H r ot xs wd ∧ KeptOk n wd xs H kp ∧ n ≤ 1000 ∧ H rd = some (.lst (R.map V.str)) ∧ DayOk xs R ∧ Tabs (T0 K) H ∧
  ∀ H1, ExtN H H1 → Tabs (T0 K) H1 → ∀ y ∈ R, Q (.str y) H1
theorem ok_db (F : Dn K d_driver_by f fd) (cNo : Cal P w K mg base 1 "names_of" spNo []) (cLd : Cal P w K mg base 3 "least_driver" (spLd K) []) : FnOk P w K mg base CX0 4 f fd ["rule", "memory", "riders"] (spDb K) := by
  refine F.ok sc_driver_by (fun vs H Q E h => ?_) (fun cdv A outer s H vs Q E hr h => ?_)
  · obtain ⟨r, ot, kp, rd, xs, R, wd, n, rfl, _⟩ := h
    rfl
  · obtain ⟨r, ot, kp, rd, xs, R, wd, n, rfl, rl, kt, n1, hrd, dy, tabs, hQ⟩ := h
    have l8 := rl.ox.l8
    have hu := hu_of hr
    have hu0 : (A.deeper (envOfC d_driver_by.qual d_driver_by.scope s.heap.objs.size f cdv)).units < cLine := by have := hr.un; omega
    cases wd with
    | least g =>
      obtain ⟨hrr, hot, ox, g0, g1⟩ := rl.least
      obtain ⟨c, hc⟩ := kt
      refine ⟨_, PSs.nox (pss_cons (ps_set (i := 3) sc_driver_by.nd rfl (.inl rfl) (pe_c cNo hr (by decide) rfl (pa_cons (pe_ix ix_tup (pv 0) pe_int (fun _ _ => rfl)) (pa_cons (pv 2) pa_nil))))
        (pss_cons (ps_if (pt_cmpR op_eq (pe_ix ix_tup (pv 0) pe_int (fun _ _ => rfl)) pe_str (nomark _)) (pss_one (ps_ret (pe_c cLd hr (by decide) rfl (pa_cons (pv 0) (pa_cons (pv 1) (pa_cons (pv 3) pa_nil)))))) pss_nil) pss_never)), ?_⟩
      refine ⟨_, rfl, r, _, _, _, rfl, rfl, SqT.of hrr, rfl, _, rfl, ot, rd, xs, R, rfl, hot, hrd, by omega, fun t H2 s2 ft ht => ?_⟩
      refine ⟨_, rfl, r, _, _, _, rfl, rfl, SqT.of (s2 _ _ hrr), rfl, rfl, _, rfl, iteT ?_⟩
      refine ⟨_, rfl, _, rfl, _, rfl, r, ot, kp, t, xs, _, g, c, rfl, rl.least.same s2, hc.same s2, ht, fs_ne dy, fun y hy => (List.mem_filter.mp hy).1, tabs.ext s2, fun H3 e3 t3 y hy => hQ H3 ((ExtN.of s2).trans e3) t3 y ?_⟩
      obtain ⟨j, hj, _⟩ := hy
      exact fs_mem (List.mem_of_getElem? hj)
    | longest =>
      have hrr : H r = some (.tup [.str "longest", .ref ot]) := rl.hr
      have hot := rl.ho
      obtain ⟨ln, hk, pm⟩ := kt
      have ll := pm.length_eq
      refine ⟨_, PSs.nox (pss_cons (ps_set (i := 3) sc_driver_by.nd rfl (.inl rfl) (pe_c cNo hr (by decide) rfl (pa_cons (pe_ix ix_tup (pv 0) pe_int (fun _ _ => rfl)) (pa_cons (pv 2) pa_nil))))
        (pss_cons (ps_if (pt_cmpR op_eq (pe_ix ix_tup (pv 0) pe_int (fun _ _ => rfl)) pe_str (nomark _)) pss_never pss_nil)
        (pss_cons (ps_if (pt_cmpR op_eq (pe_ix ix_tup (pv 0) pe_int (fun _ _ => rfl)) pe_str (nomark _)) (pss_one (ps_ret (pe_ix ix_tup (pe_c cNo hr (by decide) rfl (pa_cons (pv 1) (pa_cons (pv 2) pa_nil))) pe_int (fun _ _ => rfl)))) pss_nil) pss_never))), ?_⟩
      refine ⟨_, rfl, r, _, _, _, rfl, rfl, SqT.of hrr, rfl, _, rfl, ot, rd, xs, R, rfl, hot, hrd, by omega, fun t H2 s2 ft ht => ?_⟩
      refine ⟨_, rfl, r, _, _, _, rfl, rfl, SqT.of (s2 _ _ hrr), rfl, rfl, _, rfl, ?_⟩
      rw [l_least]
      refine iteF ?_
      refine ⟨_, rfl, r, _, _, _, rfl, rfl, SqT.of (s2 _ _ hrr), rfl, rfl, _, rfl, iteT ?_⟩
      refine ⟨_, rfl, _, rfl, kp, rd, ln, R, rfl, s2 _ _ hk, s2 _ _ hrd, by omega, fun t2 H3 s3 ft2 ht2 => ?_⟩
      obtain ⟨y, hy⟩ := DrvL.ex pm dy
      refine ⟨t2, _, _, .str y, rfl, rfl, SqT.of ht2, atI_nat (j := 0) ?_, hQ H3 (ExtN.of (s2.trans s3)) (tabs.ext (s2.trans s3)) y hy.mem.1⟩
      rw [List.getElem?_map, hy]
      rfl
    | rounds =>
      have hrr : H r = some (.tup [.str "rounds", .ref ot]) := rl.hr
      have hot := rl.ho
      obtain ⟨es, hk, hes, le⟩ := kt
      refine ⟨_, PSs.nox (pss_cons (ps_set (i := 3) sc_driver_by.nd rfl (.inl rfl) (pe_c cNo hr (by decide) rfl (pa_cons (pe_ix ix_tup (pv 0) pe_int (fun _ _ => rfl)) (pa_cons (pv 2) pa_nil))))
        (pss_cons (ps_if (pt_cmpR op_eq (pe_ix ix_tup (pv 0) pe_int (fun _ _ => rfl)) pe_str (nomark _)) pss_never pss_nil)
        (pss_cons (ps_if (pt_cmpR op_eq (pe_ix ix_tup (pv 0) pe_int (fun _ _ => rfl)) pe_str (nomark _)) pss_never pss_nil)
        (pss_cons (DCT.ps_setDt (i := 4) (own := [("same", 5), ("many", 6)]) (g := gTup K 2 (gCons (gName 5) (gCons (gName 6) gNil))) hu0 rfl sc_driver_by.nd rfl rfl (SDC.sw_true rfl rfl rfl (by decide +kernel)) (pi_tup (pv 1)) (blkOk_by (N := N_driver_by) (sc := defScope s_driver_by) (by decide +kernel))
          (fun _ _ _ _ _ => pg_tup rfl (pgs_cons (pg_name (i := 5) sc_driver_by.nd rfl (.inl rfl)) (pgs_cons (pg_name (i := 6) sc_driver_by.nd rfl (.inl rfl)) pgs_nil))) (fun _ _ _ _ _ => pv 5) (fun _ _ _ _ _ => pv 6))
        (pss_one (ps_ret (pe_ix ix_tup (pv 3) (pe_dget2 hu (pv 4) (pv 3) pe_int ⟨rfl, rfl, rfl, rfl⟩) (fun _ _ => rfl)))))))), ?_⟩
      refine ⟨_, rfl, r, _, _, _, rfl, rfl, SqT.of hrr, rfl, _, rfl, ot, rd, xs, R, rfl, hot, hrd, by omega, fun t H2 s2 ft ht => ?_⟩
      refine ⟨_, rfl, r, _, _, _, rfl, rfl, SqT.of (s2 _ _ hrr), rfl, rfl, _, rfl, ?_⟩
      rw [r_least]
      refine iteF ?_
      refine ⟨_, rfl, r, _, _, _, rfl, rfl, SqT.of (s2 _ _ hrr), rfl, rfl, _, rfl, ?_⟩
      rw [r_longest]
      refine iteF ?_
      have hk2 := s2 _ _ hk
      have hes2 : ∀ e ∈ es, EntOk H2 e := fun e he => (hes e he).ext fun a ys z => s2 _ _ z
      refine ⟨_, rfl, kp, rfl, ⟨_, SqT.of hk2⟩, fun D hD => DCT.dt_it walk_tup (fun i H3 => ∃ kvs, H3 D = some (.dT kvs) ∧ kvs.length ≤ i ∧ Gn kvs ∧ Same H2 H3) ⟨[], upd_same, Nat.le_refl _, Gn.nil, same_new hD⟩ (fun i H3 _ z => by obtain ⟨_, _, _, _, sm⟩ := z; exact SqT.of (sm _ _ hk2)) ?_ ?_⟩
      · rintro i x H3 H3' hi ⟨kvs, hd, lk, gn, sm⟩ ⟨rfl, hx⟩
        rw [List.getElem?_map] at hx
        obtain ⟨e, he, rfl⟩ := Option.map_eq_some_iff.mp hx
        rw [List.length_map] at hi
        obtain ⟨e1, e2, e3⟩ := (hes2 e (List.mem_of_getElem? he)).ext fun a ys z => sm _ _ z
        refine ⟨e.pt, _, rfl, SqT.of e1, rfl, _, _, rfl, _, _, rfl, rfl, rfl, ?_⟩
        refine ⟨_, rfl, _, rfl, e.nt, kvs, kS e.ns, rfl, by rw [kS_map]; exact e2, hd, Nat.lt_of_le_of_lt (by omega : kvs.length ≤ 1000) (by decide), _, upd_same, ?_, gn.put e3, ?_⟩
        · exact Nat.le_trans (length_putK _ _ _) (by omega)
        · intro a o z
          rw [upd_ne (ne_of_none z hD)]
          exact sm a o z
      · rintro H3 ⟨kvs, hd, lk, gn, sm⟩
        have ht3 := sm _ _ ht
        have fpos : 0 < (xs.filter fun x => decide (x ∈ R)).length := List.length_pos_iff.mpr (fs_ne dy)
        obtain ⟨m, em, lm⟩ := gn.getD fpos
        refine ⟨_, rfl, _, rfl, D, rfl, .inr ⟨kvs, .inl hd⟩, _, rfl, _, DGet.t hd (k := kS (xs.filter fun x => decide (x ∈ R))) (by rw [kS_map]; exact ht3), ?_⟩
        rw [em]
        refine ⟨t, _, _, .str ((xs.filter fun x => decide (x ∈ R))[m]), rfl, rfl, SqT.of ht3, atI_nat ?_, hQ H3 (ExtN.of (s2.trans sm)) (tabs.ext (s2.trans sm)) _ (fs_mem (List.getElem_mem lm))⟩
        rw [List.getElem?_map, List.getElem?_eq_getElem lm]
        rfl
def spPb : Sp := fun vs H Q _ => ∃ (ot hd rd : Addr) (xs R : List Str) (d : Str) (c : Str → Int), vs = [.ref ot, .ref hd, .ref rd, .str d] ∧ H ot = some (.tup (xs.map V.str)) ∧ xs.length ≤ 13 ∧ Crd H hd xs c ∧ H rd = some (.lst (R.map V.str)) ∧ R ≠ [] ∧ R.length ≤ 13 ∧
  ∀ (t : Addr) (H' : Hp), Same H H' → H t = none → Crd H' t xs (nxt R d c) → Q (.ref t) H'
theorem ok_pb (F : Dn K d_parts_behind f fd) (b : Bl mg) (b2 : Bl2 mg) (gp : ∃ t, mg "RIDE_PARTS" = some (.int 840 t)) : FnOk P w K mg base CX0 1 f fd ["order", "held", "riders", "driver"] spPb := by
  refine F.ok sc_parts_behind (fun vs H Q E h => ?_) (fun cdv A outer s H vs Q E hr h => ?_)
  · obtain ⟨ot, hd, rd, xs, R, d, c, rfl, _⟩ := h
    rfl
  · obtain ⟨ot, hd, rd, xs, R, d, c, rfl, hot, l13, hc, hrd, rne, r13, hQ⟩ := h
    obtain ⟨t, gp⟩ := gp
    have rpos : 0 < R.length := List.length_pos_iff.mpr rne
    refine ⟨_, PSs.nox (pss_cons (ps_set (i := 4) sc_parts_behind.nd rfl (.inl rfl) (pe_lst pa_nil))
      (pss_cons (ps_for PassesOwn.never rfl (RZ.pi_zipA rfl b2.zip (pa_cons (pv 0) (pa_cons (pv 1) pa_nil))) (pg_tup rfl (pgs_cons (pg_name (i := 5) sc_parts_behind.nd rfl (.inl rfl)) (pgs_cons (pg_name (i := 6) sc_parts_behind.nd rfl (.inl rfl)) pgs_nil)))
        (C8.pss_cut (ps_set (i := 7) sc_parts_behind.nd rfl (.inl rfl) (pe_ifExp (pt_cmpR op_in_seq (pv 5) (pv 2) (by rfl)) (pe_op op_fdW (pe_glob (v := .int 840) rfl gp ⟨t, rfl⟩) (pe_callB call_len_seq rfl b.len boot_len (pa_cons (pv 2) pa_nil))) pe_int))
        (C8.pss_cut (ps_set (i := 8) sc_parts_behind.nd rfl (.inl rfl) (pe_ifExp (pt_cmpR op_eq (pv 5) (pv 3) (nomark _)) (pe_glob (v := .int 840) rfl gp ⟨t, rfl⟩) pe_int))
        (pss_one (ps_expr (pe_bm PySem.F.plainAttrs_list PySem.F.slot_list_append PySem.F.type_list_append mt_append (pv 4) (pa_cons (pe_op op_add (pe_op op_sub (pv 6) (pv 7)) (pv 8)) pa_nil)))))))
      (pss_one (ps_ret (pe_callTy call_tuple_of rfl b2.tup boot_tuple (pa_cons (pv 4) pa_nil)))))), ?_⟩
    refine ⟨by show 0 ≤ sizeLine; decide, fun o fo => ?_⟩
    have so := same_new (o := .lst []) fo
    refine ⟨_, rfl, _, rfl, ot, hd, _, _, rfl, .inr ⟨SqT.of (so _ _ hot), SqT.of (so _ _ hc), ?_⟩⟩
    refine RZ.for_zipT (by simp) (fun i σ H2 => ∃ (v5 v6 v7 v8 : Option V), σ = [some (.ref ot), some (.ref hd), some (.ref rd), some (.str d), some (.ref o), v5, v6, v7, v8] ∧ H2 o = some (.lst ((xs.take i).map fun x => V.int (nxt R d c x))) ∧ Same H H2)
      ⟨_, _, _, _, rfl, upd_same, so⟩ (fun i σ H2 ⟨_, _, _, _, _, _, sm⟩ => ⟨SqT.of (sm _ _ hot), SqT.of (sm _ _ hc)⟩) ?_ ?_
    · rintro i x y T σ H2 hx hy ⟨v5, v6, v7, v8, rfl, ho, sm⟩ hT
      have hi' : i < xs.length := by
        have := (List.getElem?_eq_some_iff.mp hx).1
        simpa using this
      rw [List.getElem?_map] at hx hy
      obtain ⟨z, hz, rfl⟩ := Option.map_eq_some_iff.mp hx
      rw [hz] at hy
      cases hy
      have et : xs.take (i + 1) = xs.take i ++ [z] := by rw [List.take_succ, hz]; rfl
      have sT := same_new (o := .tup [V.str z, V.int (c z)]) hT
      refine ⟨T, _, rfl, SqT.of upd_same, rfl, _, _, rfl, _, _, rfl, rfl, ?_⟩
      refine ⟨fun σ' H' => H' = upd H2 T (.tup [V.str z, V.int (c z)]) ∧ ∃ v8, σ' = [some (.ref ot), some (.ref hd), some (.ref rd), some (.str d), some (.ref o), some (.str z), some (.int (c z)), some (.int (if z ∈ R then (840 : Int).fdiv (R.length : Int) else 0)), v8], ?_, ?_⟩
      · refine ⟨_, rfl, _, rfl, rd, _, rfl, .inl (SqL.of (sT _ _ (sm _ _ hrd))), rfl, flat_strs R, _, rfl, ?_⟩
        simp only [Bool.false_eq_true, if_false]
        rw [inV_strs]
        refine ite2 (fun hm => ?_) (fun hm => ?_)
        · refine ⟨_, rfl, rd, _, rfl, .inl (SqL.of (sT _ _ (sm _ _ hrd))), _, _, rfl, rfl, ?_, rfl, v8, ?_⟩
          · rw [List.length_map]
            exact ⟨by omega, log_lt (n := 4) (by omega) (by decide) (by decide)⟩
          · rw [if_pos (of_decide_eq_true hm), List.length_map]
            rfl
        · refine ⟨rfl, v8, ?_⟩
          rw [if_neg (fun q => hm (decide_eq_true q))]
          rfl
      rintro σ' H' ⟨rfl, v8, rfl⟩
      refine ⟨fun σ' H' => H' = upd H2 T (.tup [V.str z, V.int (c z)]) ∧ σ' = [some (.ref ot), some (.ref hd), some (.ref rd), some (.str d), some (.ref o), some (.str z), some (.int (c z)), some (.int (if z ∈ R then (840 : Int).fdiv (R.length : Int) else 0)), some (.int (if z = d then 840 else 0))], ?_, ?_⟩
      · refine ⟨_, rfl, _, rfl, rfl, _, rfl, ?_⟩
        by_cases e : z = d
        · have z0 : decide (V.str z = V.str d) = true := by simp [e]
          rw [z0]
          refine iteT ⟨rfl, ?_⟩
          rw [if_pos e]
          rfl
        · have z0 : decide (V.str z = V.str d) = false := by simp [e]
          rw [z0]
          refine iteF ⟨rfl, ?_⟩
          rw [if_neg e]
          rfl
      rintro σ' H' ⟨rfl, rfl⟩
      refine ⟨_, rfl, Or.inl ⟨rfl, _, SqL.of (sT _ _ ho)⟩, _, rfl, _, rfl, _, _, rfl, rfl, _, rfl, _, _, rfl, rfl, o, _, _, rfl, rfl, sT _ _ ho, ?_, _, _, _, _, rfl, ?_, ?_⟩
      · rw [List.length_map, List.length_take]
        exact Nat.lt_of_lt_of_le (by omega : min i xs.length < 64) (by decide)
      · rw [upd_same, et, List.map_append]
        rfl
      · intro a u e
        rw [upd_ne (ne_of_none e fo)]
        exact sT a u (sm a u e)
    · rintro σ H2 ⟨v5, v6, v7, v8, rfl, ho, sm⟩
      rw [List.length_map, List.take_length] at ho
      exact ⟨_, rfl, o, _, rfl, .inl ⟨SqL.of ho, fun l fl => hQ l _ (sm.trans (same_new fl)) (sm.free fl) upd_same⟩⟩
def spLb : Sp := fun vs H Q _ => ∃ (kp rd : Addr) (ln R : List Str) (y : Str), vs = [.ref kp, .ref rd, .str y] ∧ H kp = some (.tup (ln.map V.str)) ∧ ln.length ≤ 13 ∧ H rd = some (.lst (R.map V.str)) ∧
  ∀ (t : Addr) (H' : Hp), Same H H' → H' t = some (.tup ((nl ln R y).map V.str)) → Q (.ref t) H'
theorem ok_lb (F : Dn K d_line_behind f fd) (b : Bl mg) (b2 : Bl2 mg) : FnOk P w K mg base CX0 1 f fd ["line", "riders", "driver"] spLb := by
  refine F.ok sc_line_behind (fun vs H Q E h => ?_) (fun cdv A outer s H vs Q E hr h => ?_)
  · obtain ⟨kp, rd, ln, R, y, rfl, _⟩ := h
    rfl
  · obtain ⟨kp, rd, ln, R, y, rfl, hk, l13, hrd, hQ⟩ := h
    refine ⟨_, PSs.nox (pss_cons (ps_if (pt_cmpR op_eq (pe_callB call_len_seq rfl b.len boot_len (pa_cons (pv 1) pa_nil)) pe_int (nomark _)) (pss_one (ps_ret (pv 0))) pss_nil)
      (pss_one (ps_ret (pe_callTy call_tuple_of rfl b2.tup boot_tuple (pa_cons (pe_op op_cat (pe_lc (own := [("name", 3)]) (g := gName 3) rfl sc_line_behind.nd (pi_tup (pv 0)) (blkOk_by (N := N_line_behind) (sc := defScope s_line_behind) (by decide +kernel))
          (fun _ _ _ _ _ => pg_name (i := 3) sc_line_behind.nd rfl (Or.inl rfl)) (fun _ _ _ _ _ => pts_one (pt_cmpR (r := rNe) op_ne (pv 3) (pv 2) (nomark _))) (fun _ _ _ _ _ => pv 3)) (pe_lst (pa_cons (pv 2) pa_nil))) pa_nil))))), ?_⟩
    refine ⟨_, rfl, rd, _, rfl, .inl (SqL.of hrd), rfl, _, rfl, ?_⟩
    by_cases e1 : R.length = 1
    · have z0 : decide (V.int ((R.map V.str).length : Nat) = V.int 1) = true := by
        rw [List.length_map, e1]
        rfl
      rw [z0]
      refine iteT ⟨_, rfl, hQ kp H (fun _ _ e => e) ?_⟩
      unfold nl
      rw [if_pos e1]
      exact hk
    · have z0 : decide (V.int ((R.map V.str).length : Nat) = V.int 1) = false := by
        rw [List.length_map]
        exact decide_eq_false fun q => by injection q with q; omega
      rw [z0]
      refine iteF ?_
      refine ⟨_, rfl, kp, rfl, ⟨_, SqT.of hk⟩, fun D hD => lc_tup (fun i H2 => H2 D = some (.lst (((ln.take i).filter fun x => !decide (x = y)).map V.str)) ∧ Same H H2) ⟨upd_same, same_new hD⟩ (fun _ H2 _ z => SqT.of (z.2 _ _ hk)) ?_ ?_⟩
      · rintro i x H2 hx ⟨hd, sm⟩
        have hi' : i < ln.length := by
          have := (List.getElem?_eq_some_iff.mp hx).1
          simpa using this
        rw [List.getElem?_map] at hx
        obtain ⟨z, hz, rfl⟩ := Option.map_eq_some_iff.mp hx
        have et : ln.take (i + 1) = ln.take i ++ [z] := by rw [List.take_succ, hz]; rfl
        refine ⟨rfl, ?_⟩
        refine ⟨_, rfl, _, rfl, rfl, _, rfl, ?_⟩
        by_cases e : z = y
        · have z0 : (!decide (V.str z = V.str y)) = false := by simp [e]
          rw [z0]
          refine iteF ⟨?_, sm⟩
          rw [et, List.filter_append]
          simp [e, hd]
        · have z0 : (!decide (V.str z = V.str y)) = true := by simp [e]
          rw [z0]
          refine iteT ?_
          refine ⟨_, rfl, _, hd, ?_, ?_, ?_⟩
          · rw [List.length_map]
            refine Nat.lt_of_le_of_lt (List.length_filter_le _ _) ?_
            rw [List.length_take]
            exact Nat.lt_of_lt_of_le (by omega : min i ln.length < 64) (by decide)
          · rw [upd_same, et, List.filter_append, List.map_append]
            simp [e]
          · intro a o e
            rw [upd_ne (ne_of_none e hD)]
            exact sm a o e
      · rintro H2 ⟨hd, sm⟩
        rw [List.length_map, List.take_length] at hd
        refine ⟨_, rfl, by show 1 ≤ sizeLine; decide, fun q fq => ?_⟩
        have sq := same_new (o := .lst [.str y]) fq
        have fl : (ln.filter fun x => !decide (x = y)).length ≤ 13 := Nat.le_trans (List.length_filter_le _ _) l13
        refine ⟨D, q, _, _, rfl, rfl, sq _ _ hd, upd_same, by rw [List.length_map]; exact Nat.le_trans (by show _ + 1 ≤ 64; omega) (by decide), fun p fp => ?_⟩
        have sp := same_new (o := .lst ((ln.filter fun x => !decide (x = y)).map V.str ++ [.str y])) fp
        refine ⟨p, _, rfl, .inl ⟨SqL.of upd_same, fun l fl => hQ l _ (((sm.trans sq).trans sp).trans (same_new fl)) ?_⟩⟩
        rw [upd_same]
        unfold nl
        rw [if_neg e1, List.map_append]
        rfl
end
end K60
set_option Elab.async false
set_option linter.all false
set_option maxRecDepth 100000
set_option maxHeartbeats 4000000
namespace K60
open PySem PySem.Spec PyProof.Rows L2
open C8 (Cal Mak Met pe_c pe_mk pe_mt pe_mt0)
open LamX (Tabs ExtN TabB)
open SX (S)
def entD (e : Ent) : PyData := .tuple [.tuple (e.ns.map .str), .int (e.m : Nat)]
theorem dp_ent {K : PySem.W.Frag} {H : Hp} {e : Ent} (h : EntOk H e) : Dp K H (.ref e.pt) (entD e) :=
  Dp.tup (SqT.of h.1) (.cons (Dp.tup (SqT.of h.2.1) (dpS' e.ns)) (.cons (Dp.int _) .nil))
where
  dpS' : ∀ ns : List Str, DpAll K H (ns.map V.str) (ns.map PyData.str)
    | [] => .nil
    | _ :: t => .cons (Dp.str _) (dpS' t)
theorem dp_ents {K : PySem.W.Frag} {H : Hp} : ∀ {es : List Ent}, (∀ e ∈ es, EntOk H e) → DpAll K H (es.map fun e => V.ref e.pt) (es.map entD)
  | [], _ => .nil
  | e :: es, h => .cons (dp_ent (h e List.mem_cons_self)) (dp_ents fun x hx => h x (List.mem_cons_of_mem _ hx))
theorem alikeS : ∀ a b : List Str, PySem.W.alikeAll (a.map PyData.str) (b.map PyData.str) = true
  | [], _ => by simp [PySem.W.alikeAll]
  | _ :: _, [] => by simp [PySem.W.alikeAll]
  | _ :: a, _ :: b => by simp [PySem.W.alikeAll, PySem.W.alike, alikeS a b]
theorem depthS : ∀ a : List Str, PyData.depthAll (a.map PyData.str) ≤ 1
  | [] => by simp [PyData.depthAll]
  | _ :: a => by
    have := depthS a
    simp [PyData.depthAll, PyData.depth]
    omega
section
variable {P : Program} {w : World} {K : PySem.W.Frag} {mg : Str → Option Value} {base : Heap} {f C : Addr} {fd : FuncData}
def spRb : Sp := fun vs H Q _ => ∃ (ot kp rd : Addr) (xs R : List Str) (n : Nat), vs = [.ref ot, .ref kp, .ref rd] ∧ H ot = some (.tup (xs.map V.str)) ∧ xs.length ≤ 8 ∧ KeptOk n .rounds xs H kp ∧ n ≤ 1000 ∧ H rd = some (.lst (R.map V.str)) ∧ DayOk xs R ∧
  ∀ (t : Addr) (H' : Hp), Same H H' → KeptOk (n + 1) .rounds xs H' t → Q (.ref t) H'
theorem ok_rb (F : Dn K d_rounds_behind f fd) (b : Bl mg) (b2 : Bl2 mg) (srt : mg "sorted" = none) (cNo : Cal P w K mg base 1 "names_of" spNo []) : FnOk P w K mg base CX0 2 f fd ["order", "rounds", "riders"] spRb := by
  refine F.ok sc_rounds_behind (fun vs H Q E h => ?_) (fun cdv A outer s H vs Q E hr h => ?_)
  · obtain ⟨ot, kp, rd, xs, R, n, rfl, _⟩ := h
    rfl
  · obtain ⟨ot, kp, rd, xs, R, n, rfl, hot, l8, kt, n1, hrd, dy, hQ⟩ := h
    have hu := hu_of hr
    have hu0 : (A.deeper (envOfC d_rounds_behind.qual d_rounds_behind.scope s.heap.objs.size f cdv)).units < cLine := by have := hr.un; omega
    have hu64 : (A.deeper (envOfC d_rounds_behind.qual d_rounds_behind.scope s.heap.objs.size f cdv)).units + 64 < cLine := by have := hr.un; omega
    obtain ⟨es, hk, hes, le⟩ := kt
    refine ⟨_, PSs.nox (pss_cons (ps_set (i := 3) sc_rounds_behind.nd rfl (.inl rfl) (pe_c cNo hr (by decide) rfl (pa_cons (pv 0) (pa_cons (pv 2) pa_nil))))
      (pss_cons (ps_set (i := 4) sc_rounds_behind.nd rfl (.inr rfl) (DCT.pe_dt (own := [("same", 5), ("many", 6)]) (g := gTup K 2 (gCons (gName 5) (gCons (gName 6) gNil))) hu0 rfl sc_rounds_behind.nd (pi_tup (pv 1)) (blkOk_by (N := N_rounds_behind) (sc := defScope s_rounds_behind) (by decide +kernel))
          (fun _ _ _ _ _ => pg_tup rfl (pgs_cons (pg_name (i := 5) sc_rounds_behind.nd rfl (.inl rfl)) (pgs_cons (pg_name (i := 6) sc_rounds_behind.nd rfl (.inl rfl)) pgs_nil))) (fun _ _ _ _ _ => pv 5) (fun _ _ _ _ _ => pv 6)))
      (pss_cons (ps_dput hu (pv 4) (pv 3) (pe_op op_mod (pe_op op_add (pe_dget2 hu (pv 4) (pv 3) pe_int ⟨rfl, rfl, rfl, rfl⟩) pe_int) (pe_callB call_len_seq rfl b.len boot_len (pa_cons (pv 3) pa_nil))) rfl)
      (pss_one (ps_ret (pe_callTy call_tuple_of rfl b2.tup boot_tuple (pa_cons (pe_callB (SRT.cr_sortedD hu64) rfl srt boot_sorted (pa_cons (pe_lock (pe_lc (own := [("same", 5)]) (g := gName 5) rfl sc_rounds_behind.nd (pi_keys (pv 4)) (blkOk_by (N := N_rounds_behind) (sc := defScope s_rounds_behind) (by decide +kernel))
          (fun _ _ _ _ _ => pg_name (i := 5) sc_rounds_behind.nd rfl (Or.inl rfl)) (fun _ _ _ _ _ => pts_one (pt_cmpR op_gt (pe_dget hu (pv 4) (pv 5) (fun _ _ => rfl)) pe_int (nomark _))) (fun _ _ _ _ _ => pe_tup (pa_cons (pv 5) (pa_cons (pe_dget hu (pv 4) (pv 5) (fun _ _ => rfl)) pa_nil))))) pa_nil)) pa_nil))))))), ?_⟩
    refine ⟨_, rfl, _, rfl, ot, rd, xs, R, rfl, hot, hrd, by omega, fun t H2 s2 ft ht => ?_⟩
    have hk2 := s2 _ _ hk
    have hes2 : ∀ e ∈ es, EntOk H2 e := fun e he => (hes e he).ext fun a ys z => s2 _ _ z
    refine ⟨_, rfl, kp, rfl, ⟨_, SqT.of hk2⟩, fun D hD => DCT.dt_it walk_tup (fun i H3 => ∃ kvs, H3 D = some (.dT kvs) ∧ kvs.length ≤ i ∧ Gn kvs ∧ Same H2 H3) ⟨[], upd_same, Nat.le_refl _, Gn.nil, same_new hD⟩ (fun i H3 _ z => by obtain ⟨_, _, _, _, sm⟩ := z; exact SqT.of (sm _ _ hk2)) ?_ ?_⟩
    · rintro i x H3 H3' hi ⟨kvs, hd, lk, gn, sm⟩ ⟨rfl, hx⟩
      rw [List.getElem?_map] at hx
      obtain ⟨e, he, rfl⟩ := Option.map_eq_some_iff.mp hx
      rw [List.length_map] at hi
      obtain ⟨e1, e2, e3⟩ := (hes2 e (List.mem_of_getElem? he)).ext fun a ys z => sm _ _ z
      refine ⟨e.pt, _, rfl, SqT.of e1, rfl, _, _, rfl, _, _, rfl, rfl, rfl, ?_⟩
      refine ⟨_, rfl, _, rfl, e.nt, kvs, kS e.ns, rfl, by rw [kS_map]; exact e2, hd, Nat.lt_of_le_of_lt (by omega : kvs.length ≤ 1000) (by decide), _, upd_same, ?_, gn.put e3, ?_⟩
      · exact Nat.le_trans (length_putK _ _ _) (by omega)
      · intro a o z
        rw [upd_ne (ne_of_none z hD)]
        exact sm a o z
    · rintro H3 ⟨kvs, hd, lk, gn, sm⟩
      rw [List.length_map] at lk
      have ht3 := sm _ _ ht
      have fpos : 0 < (xs.filter fun x => decide (x ∈ R)).length := List.length_pos_iff.mpr (fs_ne dy)
      obtain ⟨m, em, lm⟩ := gn.getD fpos
      refine ⟨_, rfl, D, rfl, .inr ⟨kvs, .inl hd⟩, _, rfl, _, DGet.t hd (k := kS (xs.filter fun x => decide (x ∈ R))) (by rw [kS_map]; exact ht3), ?_⟩
      rw [em]
      refine ⟨_, _, rfl, rfl, _, rfl, t, _, rfl, .inr (SqT.of ht3), _, _, rfl, rfl, by rw [List.length_map]; omega, ?_⟩
      rw [List.length_map]
      have lm' : (m + 1) % (xs.filter fun x => decide (x ∈ R)).length < (xs.filter fun x => decide (x ∈ R)).length := Nat.mod_lt _ fpos
      have ev : (((m : Nat) : Int) + 1) % (((xs.filter fun x => decide (x ∈ R)).length : Nat) : Int) = (((m + 1) % (xs.filter fun x => decide (x ∈ R)).length : Nat) : Int) := by push_cast; rfl
      have hput := DPut.t (v := .int (((m + 1) % (xs.filter fun x => decide (x ∈ R)).length : Nat))) hd (k := kS (xs.filter fun x => decide (x ∈ R))) (by rw [kS_map]; exact ht3) (Nat.lt_of_le_of_lt (by omega : kvs.length ≤ 1000) (by decide))
      have gn2 := gn.put lm'
      have lk2 := length_putK kvs (kS (xs.filter fun x => decide (x ∈ R))) (.int (((m + 1) % (xs.filter fun x => decide (x ∈ R)).length : Nat)))
      generalize putK kvs (kS (xs.filter fun x => decide (x ∈ R))) (.int (((m + 1) % (xs.filter fun x => decide (x ∈ R)).length : Nat))) = kv2 at gn2 lk2 hput
      have hd4 : (upd H3 D (.dT kv2)) D = some (.dT kv2) := upd_same
      have s4 : ∀ a o, a ≠ D → H2 a = some o → (upd H3 D (.dT kv2)) a = some o := fun a o na e => by
        rw [upd_ne na]
        exact sm a o e
      generalize upd H3 D (.dT kv2) = H4 at hd4 s4 hput
      have nD : ∀ {a : Addr} {o : HO}, H2 a = some o → a ≠ D := fun e => ne_of_none e hD
      refine ⟨_, rfl, _, rfl, D, H4, rfl, ?_, ?_⟩
      · show DPut H3 D (.ref t) (V.int ((((m : Nat) : Int) + 1) % (((xs.filter fun x => decide (x ∈ R)).length : Nat) : Int))) H4
        rw [ev]
        exact hput
      refine ⟨D, _, hd4, trivial, fun od => ?_⟩
      refine ⟨_, rfl, D, od, rfl, .inr ⟨_, upd_same, fun Dn hDn => ?_⟩⟩
      have nDn : Dn ≠ D := (ne_of_none upd_same hDn).symm
      have fDn : H4 Dn = none := by rw [upd_ne nDn] at hDn; exact hDn
      refine lc_it walk_keysT (fun j H' => ∃ es' : List Ent, H' Dn = some (.lst (es'.map fun e => V.ref e.pt)) ∧ (∀ e ∈ es', EntOk H' e) ∧ es'.length ≤ j ∧ H' D = some (.frz od (.dT kv2)) ∧ ∀ a o, a ≠ D → H4 a = some o → H' a = some o) ?_ (fun j H' _ z => by
        obtain ⟨_, _, _, _, e, _⟩ := z
        exact e) ?_ ?_
      · refine ⟨[], upd_same, (fun e he => nomatch he), Nat.le_refl _, by rw [upd_ne nDn.symm]; exact upd_same, fun a o na e => ?_⟩
        rw [upd_ne (ne_of_none e fDn), upd_ne na]
        exact e
      · rintro j y Ha Hb hj ⟨es', hdn, hes', lj, hDa, ka⟩ ⟨rfl, k, v, q, ek, rfl, hq⟩
        obtain ⟨ns, mm, rfl, ev, lt⟩ := gn2.at ek
        have dg : DGet Hb D (.ref q) (some (.int (mm : Nat))) := .inr ⟨kv2, kS ns, q, .inr ⟨od, hDa⟩, rfl, hq, ev.symm⟩
        refine ⟨rfl, ?_⟩
        refine ⟨_, rfl, _, rfl, D, _, rfl, dg, _, _, rfl, rfl, _, rfl, ?_⟩
        refine ite2 (fun hm => ?_) (fun hm => ?_)
        · refine ⟨_, rfl, _, rfl, _, rfl, D, _, rfl, dg, by show 2 ≤ sizeLine; decide, fun T fT => ?_⟩
          have sT := same_new (o := .tup [.ref q, .int (mm : Nat)]) fT
          have hdn2 := sT _ _ hdn
          have noL : ∀ {a : Addr} {zs : List V}, (upd Hb T (.tup [.ref q, .int (mm : Nat)])) a = some (.tup zs) → a ≠ Dn := fun e z => by rw [z, hdn2] at e; cases e
          refine ⟨_, hdn2, Nat.lt_of_le_of_lt (by rw [List.length_map]; omega : _ ≤ 2000) (by decide), es' ++ [⟨T, q, ns, mm⟩], ?_, ?_, by rw [List.length_append]; simp; omega, ?_, ?_⟩
          · rw [upd_same, List.map_append]
            rfl
          · intro e he
            refine EntOk.ext ?_ fun a ys z => by
              rw [upd_ne (noL z)]
              exact z
            rcases List.mem_append.mp he with he | he
            · exact (hes' e he).ext fun a ys z => sT _ _ z
            · rw [List.mem_singleton] at he
              subst he
              exact ⟨upd_same, by rw [← kS_map]; exact sT _ _ hq, lt⟩
          · rw [upd_ne nDn.symm]
            exact sT _ _ hDa
          · intro a o na e
            rw [upd_ne (ne_of_none e fDn)]
            exact sT _ _ (ka a o na e)
        · exact ⟨es', hdn, hes', by omega, hDa, ka⟩
      · rintro H5 ⟨es', hdn, hes', lj, hD5, k5⟩
        refine ⟨hD5, ?_⟩
        have hdn6 : (upd H5 D (.dT kv2)) Dn = some (.lst (es'.map fun e => V.ref e.pt)) := by rw [upd_ne nDn]; exact hdn
        have hes6 : ∀ e ∈ es', EntOk (upd H5 D (.dT kv2)) e := fun e he => (hes' e he).ext fun a ys z => by
          rw [upd_ne (fun q => by rw [q, hD5] at z; cases z)]
          exact z
        have s6 : Same H2 (upd H5 D (.dT kv2)) := fun a o e => by
          rw [upd_ne (nD e)]
          exact k5 a o (nD e) (s4 a o (nD e) e)
        generalize upd H5 D (.dT kv2) = H6 at hdn6 hes6 s6 ⊢
        refine ⟨Dn, _, es'.map entD, rfl, .inl (SqL.of hdn6), dp_ents hes6, ?_, ?_, ?_, fun sl fsl => ?_⟩
        · intro x hx y hy
          obtain ⟨e, _, rfl⟩ := List.mem_map.mp hx
          obtain ⟨e', _, rfl⟩ := List.mem_map.mp hy
          unfold entD
          simp [PySem.W.alike, PySem.W.alikeAll, alikeS]
        · refine .inl fun x hx => ?_
          obtain ⟨e, _, rfl⟩ := List.mem_map.mp hx
          exact ⟨_, _, rfl⟩
        · intro x hx
          obtain ⟨e, _, rfl⟩ := List.mem_map.mp hx
          have := depthS e.ns
          unfold entD
          simp [PyData.depth, PyData.depthAll]
          omega
        obtain ⟨gs, pm, eg⟩ := SDC.perm_inv (SRT.srt_perm (xs := es'.map fun e => V.ref e.pt) (ds := es'.map entD) (by simp)) (l := es') rfl
        rw [eg]
        have ss := same_new (o := .lst (gs.map fun e => V.ref e.pt)) fsl
        refine ⟨sl, _, rfl, .inl ⟨SqL.of upd_same, fun l fl => hQ l _ (((s2.trans s6).trans ss).trans (same_new fl)) ⟨gs, upd_same, fun e he => ?_, ?_⟩⟩⟩
        · exact (hes6 e (pm.mem_iff.mp he)).ext fun a ys z => same_new fl _ _ (ss _ _ z)
        · rw [pm.length_eq]
          omega
end
end K60
set_option Elab.async false
set_option linter.all false
set_option maxRecDepth 100000
set_option maxHeartbeats 4000000
namespace K60
open PySem PySem.Spec PyProof.Rows L2
open C8 (Cal Mak Met pe_c pe_mk pe_mt pe_mt0)
open LamX (Tabs ExtN TabB)
open SX (S)
section
variable {P : Program} {w : World} {K : PySem.W.Frag} {mg : Str → Option Value} {base : Heap} {f C : Addr} {fd : FuncData}
def spMb (K : PySem.W.Frag) : Sp := fun vs H Q _ => ∃ (r ot kp rd : Addr) (xs R : List Str) (wd : Word) (n : Nat), vs = [.ref r, .ref kp, .ref rd] ∧ Rule3 H r ot xs wd ∧ KeptOk n wd xs H kp ∧ n ≤ 1000 ∧ H rd = some (.lst (R.map V.str)) ∧ DayOk xs R ∧ Tabs (T0 K) H ∧
  ∀ (t : Addr) (H1 : Hp), ExtN H H1 → Tabs (T0 K) H1 → KeptOk (n + 1) wd xs H1 t → Q (.ref t) H1
theorem ok_mb (F : Dn K d_memory_behind f fd) (cDb : Cal P w K mg base 4 "driver_by" (spDb K) []) (cPb : Cal P w K mg base 1 "parts_behind" spPb []) (cLb : Cal P w K mg base 1 "line_behind" spLb []) (cRb : Cal P w K mg base 2 "rounds_behind" spRb []) : FnOk P w K mg base CX0 5 f fd ["rule", "memory", "riders"] (spMb K) := by
  refine F.ok sc_memory_behind (fun vs H Q E h => ?_) (fun cdv A outer s H vs Q E hr h => ?_)
  · obtain ⟨r, ot, kp, rd, xs, R, wd, n, rfl, _⟩ := h
    rfl
  · obtain ⟨r, ot, kp, rd, xs, R, wd, n, rfl, rl, kt, n1, hrd, dy, tabs, hQ⟩ := h
    have l8 := rl.ox.l8
    cases wd with
    | least g =>
      have hrr : H r = some (.tup [.str "least", .ref ot, .int g]) := rl.hr
      refine ⟨_, PSs.nox (pss_cons (ps_if (pt_cmpR op_eq (pe_ix ix_tup (pv 0) pe_int (fun _ _ => rfl)) pe_str (nomark _)) pss_never pss_nil)
        (pss_cons (ps_set (i := 3) sc_memory_behind.nd rfl (.inl rfl) (pe_c cDb hr (by decide) rfl (pa_cons (pv 0) (pa_cons (pv 1) (pa_cons (pv 2) pa_nil)))))
        (pss_cons (ps_if (pt_cmpR op_eq (pe_ix ix_tup (pv 0) pe_int (fun _ _ => rfl)) pe_str (nomark _)) (pss_one (ps_ret (pe_c cPb hr (by decide) rfl (pa_cons (pe_ix ix_tup (pv 0) pe_int (fun _ _ => rfl)) (pa_cons (pv 1) (pa_cons (pv 2) (pa_cons (pv 3) pa_nil))))))) pss_nil) pss_never))), ?_⟩
      refine ⟨_, rfl, r, _, _, _, rfl, rfl, SqT.of hrr, rfl, rfl, _, rfl, ?_⟩
      rw [e_rounds]
      refine iteF ?_
      refine ⟨_, rfl, _, rfl, _, rfl, r, ot, kp, rd, xs, R, .least g, n, rfl, rl, kt, n1, hrd, dy, tabs, fun H2 e2 t2 y hy => ?_⟩
      have hrr2 : H2 r = some (.tup [.str "least", .ref ot, .int g]) := (rl.extN e2).hr
      have hrd2 : H2 rd = some (.lst (R.map V.str)) := e2 _ _ hrd fun _ q => by cases q
      obtain ⟨c, hc⟩ := kt
      refine ⟨_, rfl, r, _, _, _, rfl, rfl, SqT.of hrr2, rfl, rfl, _, rfl, iteT ?_⟩
      refine ⟨_, rfl, r, _, _, _, rfl, rfl, SqT.of hrr2, rfl, _, rfl, _, rfl, _, rfl, ot, kp, rd, xs, R, y, c, rfl, (rl.extN e2).ho, by omega, hc.extN e2, hrd2, dy.ne, by have := dy.ln; omega, fun t H3 s3 ft hcr => ?_⟩
      exact hQ t H3 (e2.trans (ExtN.of s3)) (t2.ext s3) ⟨_, hcr⟩
    | longest =>
      have hrr : H r = some (.tup [.str "longest", .ref ot]) := rl.hr
      refine ⟨_, PSs.nox (pss_cons (ps_if (pt_cmpR op_eq (pe_ix ix_tup (pv 0) pe_int (fun _ _ => rfl)) pe_str (nomark _)) pss_never pss_nil)
        (pss_cons (ps_set (i := 3) sc_memory_behind.nd rfl (.inl rfl) (pe_c cDb hr (by decide) rfl (pa_cons (pv 0) (pa_cons (pv 1) (pa_cons (pv 2) pa_nil)))))
        (pss_cons (ps_if (pt_cmpR op_eq (pe_ix ix_tup (pv 0) pe_int (fun _ _ => rfl)) pe_str (nomark _)) pss_never pss_nil)
        (pss_one (ps_ret (pe_c cLb hr (by decide) rfl (pa_cons (pv 1) (pa_cons (pv 2) (pa_cons (pv 3) pa_nil))))))))), ?_⟩
      refine ⟨_, rfl, r, _, _, _, rfl, rfl, SqT.of hrr, rfl, rfl, _, rfl, ?_⟩
      rw [l_rounds]
      refine iteF ?_
      refine ⟨_, rfl, _, rfl, _, rfl, r, ot, kp, rd, xs, R, .longest, n, rfl, rl, kt, n1, hrd, dy, tabs, fun H2 e2 t2 y hy => ?_⟩
      have hrr2 : H2 r = some (.tup [.str "longest", .ref ot]) := (rl.extN e2).hr
      have hrd2 : H2 rd = some (.lst (R.map V.str)) := e2 _ _ hrd fun _ q => by cases q
      obtain ⟨ln, hk, pm⟩ := kt.extN e2
      have ll := pm.length_eq
      refine ⟨_, rfl, r, _, _, _, rfl, rfl, SqT.of hrr2, rfl, rfl, _, rfl, ?_⟩
      rw [l_least]
      refine iteF ?_
      exact ⟨_, rfl, _, rfl, _, rfl, kp, rd, ln, R, y, rfl, hk, by omega, hrd2, fun t H3 s3 ht => hQ t H3 (e2.trans (ExtN.of s3)) (t2.ext s3) ⟨_, ht, nl_perm pm rl.ox.nd (pm.mem_iff.mpr (dy.sub y hy))⟩⟩
    | rounds =>
      have hrr : H r = some (.tup [.str "rounds", .ref ot]) := rl.hr
      refine ⟨_, PSs.nox (pss_cons (ps_if (pt_cmpR op_eq (pe_ix ix_tup (pv 0) pe_int (fun _ _ => rfl)) pe_str (nomark _)) (pss_one (ps_ret (pe_c cRb hr (by decide) rfl (pa_cons (pe_ix ix_tup (pv 0) pe_int (fun _ _ => rfl)) (pa_cons (pv 1) (pa_cons (pv 2) pa_nil)))))) pss_nil) pss_never), ?_⟩
      refine ⟨_, rfl, r, _, _, _, rfl, rfl, SqT.of hrr, rfl, rfl, _, rfl, iteT ?_⟩
      exact ⟨_, rfl, r, _, _, _, rfl, rfl, SqT.of hrr, rfl, _, rfl, _, rfl, ot, kp, rd, xs, R, n, rfl, rl.ho, l8, kt, n1, hrd, dy, fun t H3 s3 ht => hQ t H3 (ExtN.of s3) (tabs.ext s3) ht⟩
end
end K60
set_option Elab.async false
set_option linter.all false
set_option maxRecDepth 100000
set_option maxHeartbeats 4000000
namespace K60
open PySem PySem.Spec PyProof.Rows L2
open C8 (Cal Mak Met pe_c pe_mk pe_mt pe_mt0)
open LamX (Tabs ExtN TabB)
open SX (S)
/-- the fields of a Turns -/
def trF (r hd kp ps : Addr) : List (Str × V) := putF "past" (.ref ps) (putF "kept" (.ref kp) (putF "held" (.ref hd) (putF "rule" (.ref r) [])))
theorem f1 : ¬ (("rule" : Str) = "held") := by decide +kernel
theorem f2 : ¬ (("rule" : Str) = "kept") := by decide +kernel
theorem f3 : ¬ (("rule" : Str) = "past") := by decide +kernel
theorem f4 : ¬ (("held" : Str) = "kept") := by decide +kernel
theorem f5 : ¬ (("held" : Str) = "past") := by decide +kernel
theorem f6 : ¬ (("kept" : Str) = "past") := by decide +kernel
theorem trF_eq (r hd kp ps : Addr) : trF r hd kp ps = [(("rule" : Str), V.ref r), (("held" : Str), V.ref hd), (("kept" : Str), V.ref kp), (("past" : Str), V.ref ps)] := by
  unfold trF putF
  simp only [putF, if_neg f1, if_neg f2, if_neg f3, if_neg f4, if_neg f5, if_neg f6]
theorem tr_rule (r hd kp ps : Addr) : (trF r hd kp ps).lookup ("rule" : Str) = some (.ref r) := by
  unfold trF
  rw [lookup_putF, if_neg f3, lookup_putF, if_neg f2, lookup_putF, if_neg f1, lookup_putF, if_pos rfl]
theorem tr_held (r hd kp ps : Addr) : (trF r hd kp ps).lookup ("held" : Str) = some (.ref hd) := by
  unfold trF
  rw [lookup_putF, if_neg f5, lookup_putF, if_neg f4, lookup_putF, if_pos rfl]
theorem tr_kept (r hd kp ps : Addr) : (trF r hd kp ps).lookup ("kept" : Str) = some (.ref kp) := by
  unfold trF
  rw [lookup_putF, if_neg f6, lookup_putF, if_pos rfl]
theorem tr_past (r hd kp ps : Addr) : (trF r hd kp ps).lookup ("past" : Str) = some (.ref ps) := by
  unfold trF
  rw [lookup_putF, if_pos rfl]
theorem tr_no (r hd kp ps : Addr) {m : Str} (h1 : ¬ m = "rule") (h2 : ¬ m = "held") (h3 : ¬ m = "kept") (h4 : ¬ m = "past") : (trF r hd kp ps).lookup m = none := by
  unfold trF
  rw [lookup_putF, if_neg h4, lookup_putF, if_neg h3, lookup_putF, if_neg h2, lookup_putF, if_neg h1]
  all_goals rfl
theorem put_held (r hd kp ps hd' : Addr) : putF "held" (.ref hd') (trF r hd kp ps) = trF r hd' kp ps := by
  rw [trF_eq, trF_eq]
  simp only [putF, if_neg f1, if_pos]
theorem put_kept (r hd kp ps kp' : Addr) : putF "kept" (.ref kp') (trF r hd kp ps) = trF r hd kp' ps := by
  rw [trF_eq, trF_eq]
  simp only [putF, if_neg f2, if_neg f4, if_pos]
/-- a Turns by a rule, its credits twice, the past -/
def Tr (CT : Addr) (H : Hp) (tu r hd kp ps : Addr) : Prop := ∃ dx, H tu = some (.ins CT dx (trF r hd kp ps))
/-- what is known of the class -/
structure ClT (K : PySem.W.Frag) (CT : Addr) : Prop where
  cl : Cls K CT
  nr : NoAttr K CT "rule"
  nh : NoAttr K CT "held"
  nk : NoAttr K CT "kept"
  np : NoAttr K CT "past"
section
variable {P : Program} {w : World} {K : PySem.W.Frag} {mg : Str → Option Value} {base : Heap} {f C CT : Addr} {fd : FuncData}
def spTi (CT : Addr) : Sp := fun vs H Q _ => ∃ (p dx r ot : Addr) (xs : List Str) (wd : Word), vs = [.ref p, .ref r] ∧ H p = some (.ins CT dx []) ∧ Rule3 H r ot xs wd ∧
  ∀ (H' : Hp) (hd kp ps : Addr), (∀ a o, a ≠ p → H a = some o → H' a = some o) → H ps = none → H' p = some (.ins CT dx (trF r hd kp ps)) → Crd H' hd xs (fun _ => 0) → KeptOk 0 wd xs H' kp → H' ps = some (.lst []) → Q .non H'
theorem ok_ti (F : Dn K d_Turns_init f fd) (b2 : Bl2 mg) (T : ClT K CT) (cR : Cal P w K mg base 3 "is_rule" spRule []) (cFm : Cal P w K mg base 1 "first_memory" spFm []) : FnOk P w K mg base CX0 4 f fd ["self", "rule"] (spTi CT) := by
  refine F.ok sc_Turns_init (fun vs H Q E h => ?_) (fun cdv A outer s H vs Q E hr h => ?_)
  · obtain ⟨p, dx, r, ot, xs, g, rfl, _⟩ := h
    rfl
  · obtain ⟨p, dx, r, ot, xs, wd, rfl, hp, lr, hQ⟩ := h
    obtain ⟨hrr, hot, ox, wok⟩ := id lr
    have l8 := ox.l8
    refine ⟨_, PSs.nox (pss_cons (ps_if (pt_not (pt_val (pe_c cR hr (by decide) rfl (pa_cons (pv 1) pa_nil)))) pss_never pss_nil)
      (pss_cons (ps_fld (pv 0) (pv 1) rfl)
      (pss_cons (ps_fld (pv 0) (pe_callTy call_tuple_of rfl b2.tup boot_tuple (pa_cons (pe_lc (own := [("name", 2)]) (g := gName 2) (tt := tYes) rfl sc_Turns_init.nd (pi_tup (pe_ix ix_tup (pv 1) pe_int (fun _ _ => rfl))) (blkOk_by (N := N_Turns_init) (sc := defScope s_Turns_init) (by decide +kernel))
          (fun _ _ _ _ _ => pg_name (i := 2) sc_Turns_init.nd rfl (Or.inl rfl)) (fun _ _ _ _ _ => pts_nil) (fun _ _ _ _ _ => pe_int)) pa_nil)) rfl)
      (pss_cons (ps_fld (pv 0) (pe_c cFm hr (by decide) rfl (pa_cons (pv 1) pa_nil)) rfl)
      (pss_one (ps_fld (pv 0) (pe_lst pa_nil) rfl)))))), ?_⟩
    refine ⟨_, rfl, r, ot, xs, wd, rfl, lr, fun H1 s1 => ⟨true, rfl, iteF ?_⟩⟩
    refine ⟨_, rfl, _, rfl, p, CT, dx, _, rfl, s1 _ _ hp, T.cl, T.nr, by show 0 < 1000; decide, ?_⟩
    have tn : ∀ {a : Addr} {ys : List V} {H2 : Hp}, H2 p = some (.ins CT dx []) → H2 a = some (.tup ys) → a ≠ p := fun e1 e2 z => by rw [z, e1] at e2; cases e2
    have hrr1 : (upd H1 p (.ins CT dx (putF "rule" (.ref r) []))) r = some (.tup (wd.vs ot)) := by rw [upd_ne (tn hp hrr)]; exact s1 _ _ hrr
    have hot1 : (upd H1 p (.ins CT dx (putF "rule" (.ref r) []))) ot = some (.tup (xs.map V.str)) := by rw [upd_ne (tn hp hot)]; exact s1 _ _ hot
    refine ⟨_, rfl, r, _, _, _, rfl, rfl, SqT.of hrr1, wd.at1 ot, ot, rfl, ⟨_, SqT.of hot1⟩, fun D hD => lc_tup (fun i H2 => H2 D = some (.lst ((xs.take i).map fun _ => V.int 0)) ∧ Same (upd H1 p (.ins CT dx (putF "rule" (.ref r) []))) H2) ⟨upd_same, same_new hD⟩ (fun _ H2 _ z => SqT.of (z.2 _ _ hot1)) ?_ ?_⟩
    · rintro i x H2 hx ⟨hd, sm⟩
      have hi' : i < xs.length := by
        have := (List.getElem?_eq_some_iff.mp hx).1
        simpa using this
      refine ⟨rfl, _, hd, ?_, ?_, ?_⟩
      · rw [List.length_map, List.length_take]
        exact Nat.lt_of_lt_of_le (by omega : min i xs.length < 64) (by decide)
      · rw [upd_same, zs_take xs i hi']
      · intro a o e
        rw [upd_ne (ne_of_none e hD)]
        exact sm a o e
    · rintro H2 ⟨hd, sm⟩
      rw [List.length_map, List.take_length] at hd
      refine ⟨D, _, rfl, .inl ⟨SqL.of hd, fun hl fl => ?_⟩⟩
      have s3 := sm.trans (same_new (o := .tup (xs.map fun _ => V.int 0)) fl)
      have hp3 := s3 _ _ (upd_same : (upd H1 p (.ins CT dx (putF "rule" (.ref r) []))) p = _)
      refine ⟨_, rfl, p, CT, dx, _, rfl, hp3, T.cl, T.nh, by show 1 < 1000; decide, ?_⟩
      have nhl : hl ≠ p := fun z => by rw [z] at fl; rw [sm _ _ (upd_same : (upd H1 p (.ins CT dx (putF "rule" (.ref r) []))) p = _)] at fl; cases fl
      have key : ∀ (a : Addr) (ys : List V), a ≠ p → (upd H1 p (.ins CT dx (putF "rule" (.ref r) []))) a = some (.tup ys) → (upd (upd H2 hl (.tup (xs.map fun _ => V.int 0))) p (.ins CT dx (putF "held" (.ref hl) (putF "rule" (.ref r) [])))) a = some (.tup ys) := fun a ys na e => by
        rw [upd_ne na]
        exact s3 _ _ e
      refine ⟨_, rfl, r, ot, xs, wd, rfl, ⟨key _ _ (tn hp hrr) hrr1, key _ _ (tn hp hot) hot1, ox, wok⟩, fun kl H4 s4 hk => ?_⟩
      have hp4 := s4 _ _ (upd_same : (upd (upd H2 hl (.tup (xs.map fun _ => V.int 0))) p (.ins CT dx (putF "held" (.ref hl) (putF "rule" (.ref r) [])))) p = _)
      refine ⟨_, rfl, p, CT, dx, _, rfl, hp4, T.cl, T.nk, by show (putF "held" (V.ref hl) (putF "rule" (V.ref r) [])).length < 1000; simp only [putF, if_neg f1]; show 2 < 1000; decide, ?_⟩
      refine ⟨by show 0 ≤ sizeLine; decide, fun pl fp => ?_⟩
      have npl : pl ≠ p := fun z => by rw [z, upd_same] at fp; cases fp
      have hp5 : (upd (upd H4 p (.ins CT dx (putF "kept" (.ref kl) (putF "held" (.ref hl) (putF "rule" (.ref r) []))))) pl (.lst [])) p = some (.ins CT dx (putF "kept" (.ref kl) (putF "held" (.ref hl) (putF "rule" (.ref r) [])))) := by
        rw [upd_ne npl.symm, upd_same]
      refine ⟨_, rfl, p, CT, dx, _, rfl, hp5, T.cl, T.np, by show (putF "kept" (V.ref kl) (putF "held" (V.ref hl) (putF "rule" (V.ref r) []))).length < 1000; simp only [putF, if_neg f1, if_neg f2, if_neg f4]; show 3 < 1000; decide, ?_⟩
      have back : ∀ a o, a ≠ p → H a = some o → H4 a = some o := fun a o na e => by
        refine s4 _ _ ?_
        rw [upd_ne na]
        refine s3 _ _ ?_
        rw [upd_ne na]
        exact s1 _ _ e
      rw [upd_ne npl] at fp
      have fpH : H pl = none := by
        cases e : H pl with
        | none => rfl
        | some o => rw [back pl o npl e] at fp; cases fp
      have hhl4 : H4 hl = some (.tup (xs.map fun _ => V.int 0)) := s4 _ _ (by rw [upd_ne nhl, upd_same])
      have nph : hl ≠ pl := ne_of_none hhl4 fp
      refine hQ _ hl kl pl (fun a o na e => ?_) fpH upd_same ?_ ?_ ?_
      · have e4 := back a o na e
        rw [upd_ne na, upd_ne (ne_of_none e4 fp), upd_ne na]
        exact e4
      · show (upd _ p _) hl = _
        rw [upd_ne nhl, upd_ne nph, upd_ne nhl]
        exact hhl4
      · refine hk.ext fun a ys e => ?_
        have na : a ≠ p := fun z => by rw [z, hp4] at e; cases e
        rw [upd_ne na, upd_ne (ne_of_none e fp), upd_ne na]
        exact e
      · rw [upd_ne npl, upd_same]
end
end K60
set_option Elab.async false
set_option linter.all false
set_option maxRecDepth 100000
set_option maxHeartbeats 4000000
namespace K60
open PySem PySem.Spec PyProof.Rows L2
open C8 (Cal Mak Met pe_c pe_mk pe_mt pe_mt0)
open LamX (Tabs ExtN TabB)
open SX (S)
theorem cut_strs (R : List Str) (i : Nat) (h : i ≤ R.length) : cutV (R.map V.str) none (some (i : Int)) = (R.take i).map V.str := by
  have z : ¬ ((i : Int) < 0) := by omega
  have z2 : ((i : Int) ≤ (R.length : Int)) := by omega
  unfold cutV HT.sIx
  simp [z, z2, Nat.min_eq_left h]
section
variable {P : Program} {w : World} {K : PySem.W.Frag} {mg : Str → Option Value} {base : Heap} {f C CT : Addr} {fd : FuncData}
def spCk (CT : Addr) : Sp := fun vs H Q _ => ∃ (tu rd r ot hd kp ps : Addr) (xs R : List Str) (wd : Word), vs = [.ref tu, .ref rd] ∧ Tr CT H tu r hd kp ps ∧ Rule3 H r ot xs wd ∧ H rd = some (.lst (R.map V.str)) ∧ DayOk xs R ∧ ∀ H', Same H H' → Q .non H'
theorem ok_ck (F : Dn K d_Turns_check_riders f fd) (b : Bl mg) (b2 : Bl2 mg) (T : ClT K CT) : FnOk P w K mg base CX0 1 f fd ["self", "riders"] (spCk CT) := by
  refine F.ok sc_Turns_check_riders (fun vs H Q E h => ?_) (fun cdv A outer s H vs Q E hr h => ?_)
  · obtain ⟨tu, rd, r, ot, hd, kp, ps, xs, R, g, rfl, _⟩ := h
    rfl
  · obtain ⟨tu, rd, r, ot, hd, kp, ps, xs, R, wd, rfl, ⟨dx, htu⟩, lr, hrd, dy, hQ⟩ := h
    obtain ⟨hrr, hot, ox, wok⟩ := id lr
    have rpos : 0 < R.length := List.length_pos_iff.mpr dy.ne
    refine ⟨_, PSs.nox (pss_cons (ps_if (pt_cmpR op_eq (pe_callB call_len_seq rfl b.len boot_len (pa_cons (pv 1) pa_nil)) pe_int (nomark _)) pss_never pss_nil)
      (pss_one (ps_for PassesOwn.never rfl (pi_enum rfl b2.enum (pa_cons (pv 1) pa_nil)) (pg_tup rfl (pgs_cons (pg_name (i := 2) sc_Turns_check_riders.nd rfl (.inl rfl)) (pgs_cons (pg_name (i := 3) sc_Turns_check_riders.nd rfl (.inl rfl)) pgs_nil)))
        (pss_one (ps_if (PW.pt (pw_or (pt_cmpR op_notIn_seq (pv 3) (pe_ix ix_tup (pe_fld (pv 0) rfl) pe_int (fun _ _ => rfl)) (by rfl)) (pw_or1 (pt_cmpR op_in_seq (pv 3) (pe_slice sl_list (pv 1) po_none (po_some (pv 2))) (by rfl))))) pss_never pss_nil))))), ?_⟩
    refine ⟨_, rfl, rd, _, rfl, .inl (SqL.of hrd), rfl, _, rfl, ?_⟩
    have z0 : decide (V.int ((R.map V.str).length : Nat) = V.int 0) = false := by
      rw [List.length_map]
      exact decide_eq_false fun q => by injection q with q; omega
    rw [z0]
    refine iteF ?_
    refine ⟨_, rfl, rd, _, rfl, SqL.of hrd, for_it walk_enum (fun i σ H2 => ∃ v2 v3 : Option V, σ = [some (.ref tu), some (.ref rd), v2, v3] ∧ Same H H2) ⟨_, _, rfl, fun _ _ e => e⟩ (fun i σ H2 _ ⟨_, _, _, sm⟩ => SqL.of (sm _ _ hrd)) ?_ ?_⟩
    · rintro i x σ H2 H3 hi ⟨v2, v3, rfl, sm⟩ ⟨Tp, x1, x2, rfl, hT, rfl, e1, e2⟩
      rw [List.length_map] at hi
      cases e1
      have e2 : (List.map V.str R)[i]? = some x2 := e2
      rw [List.getElem?_map] at e2
      obtain ⟨z, hz, rfl⟩ := Option.map_eq_some_iff.mp e2
      have sT := same_new (o := .tup [V.int (i : Nat), V.str z]) hT
      have s3 := sm.trans sT
      refine ⟨Tp, _, rfl, SqT.of upd_same, rfl, _, _, rfl, _, _, rfl, rfl, ?_⟩
      refine ⟨_, rfl, _, rfl, tu, CT, dx, _, _, rfl, s3 _ _ htu, T.cl, T.nr, tr_rule _ _ _ _, r, _, _, _, rfl, rfl, SqT.of (s3 _ _ hrr), wd.at1 ot, ot, _, rfl, .inr (SqT.of (s3 _ _ hot)), rfl, flat_strs xs, _, rfl, ?_⟩
      rw [inV_strs, decide_eq_true (dy.sub z (List.mem_of_getElem? hz))]
      refine iteF ?_
      refine ⟨_, rfl, _, rfl, _, rfl, _, rfl, rd, _, rfl, SqL.of (s3 _ _ hrd), fun sl fsl => ?_⟩
      rw [cut_strs R i (by omega)]
      have s4 := s3.trans (same_new (o := .lst ((R.take i).map V.str)) fsl)
      refine ⟨sl, _, rfl, .inl (SqL.of upd_same), rfl, flat_strs _, _, rfl, ?_⟩
      have nin : ¬ z ∈ R.take i := fun hm => by
        obtain ⟨j, hj, e⟩ := List.mem_iff_getElem.mp hm
        rw [List.getElem_take] at e
        rw [List.length_take] at hj
        have e3 : R[j]? = R[i]? := by rw [hz, List.getElem?_eq_getElem (by omega), e]
        have := (List.getElem?_inj (by omega) dy.nd).mp e3
        omega
      simp only [Bool.false_eq_true, if_false]
      rw [inV_strs, decide_eq_false nin]
      exact iteF ⟨_, _, rfl, s4⟩
    · rintro σ H2 ⟨v2, v3, rfl, sm⟩
      exact hQ H2 sm
def spWho (K : PySem.W.Frag) (CT : Addr) : Sp := fun vs H Q _ => ∃ (tu rd r ot hd kp ps : Addr) (xs R : List Str) (wd : Word) (n : Nat), vs = [.ref tu, .ref rd] ∧ Tr CT H tu r hd kp ps ∧ Rule3 H r ot xs wd ∧ KeptOk n wd xs H kp ∧ n ≤ 1000 ∧ H rd = some (.lst (R.map V.str)) ∧ DayOk xs R ∧ Tabs (T0 K) H ∧
  ∀ H1, ExtN H H1 → Tabs (T0 K) H1 → ∀ y ∈ R, Q (.str y) H1
theorem ok_who (F : Dn K d_Turns_who f fd) (T : ClT K CT) (mC : Met P w K mg base 1 CT "check_riders" (spCk CT) []) (cDb : Cal P w K mg base 4 "driver_by" (spDb K) []) : FnOk P w K mg base CX0 5 f fd ["self", "riders"] (spWho K CT) := by
  refine F.ok sc_Turns_who (fun vs H Q E h => ?_) (fun cdv A outer s H vs Q E hr h => ?_)
  · obtain ⟨tu, rd, r, ot, hd, kp, ps, xs, R, wd, n, rfl, _⟩ := h
    rfl
  · obtain ⟨tu, rd, r, ot, hd, kp, ps, xs, R, wd, n, rfl, tr, lr, kt, n1, hrd, dy, tabs, hQ⟩ := h
    obtain ⟨dx, htu⟩ := id tr
    refine ⟨_, PSs.nox (pss_cons (ps_expr (pe_mt mC hr (by decide) (pv 0) (pa_cons (pv 1) pa_nil)))
      (pss_one (ps_ret (pe_c cDb hr (by decide) rfl (pa_cons (pe_fld (pv 0) rfl) (pa_cons (pe_fld (pv 0) rfl) (pa_cons (pv 1) pa_nil))))))), ?_⟩
    refine ⟨_, rfl, tu, dx, _, rfl, htu, tr_no _ _ _ _ (by decide +kernel) (by decide +kernel) (by decide +kernel) (by decide +kernel), _, rfl, tu, rd, r, ot, hd, kp, ps, xs, R, wd, rfl, tr, lr, hrd, dy, fun H2 s2 => ?_⟩
    have htu2 := s2 _ _ htu
    exact ⟨_, rfl, tu, CT, dx, _, _, rfl, htu2, T.cl, T.nr, tr_rule _ _ _ _, _, rfl, tu, CT, dx, _, _, rfl, htu2, T.cl, T.nk, tr_kept _ _ _ _, _, rfl, r, ot, kp, rd, xs, R, wd, n, rfl, lr.same s2, kt.same s2, n1, s2 _ _ hrd, dy, tabs.ext s2, fun H3 e3 t3 y hy => hQ H3 ((ExtN.of s2).trans e3) t3 y hy⟩
/-- all is kept but the Turns, its past, the tables -/
def KpT (tu ps : Addr) (H H' : Hp) : Prop := ∀ b o, H b = some o → (∀ q, o ≠ .tbl q) → b ≠ tu → b ≠ ps → H' b = some o
def spRide (K : PySem.W.Frag) (CT : Addr) : Sp := fun vs H Q _ => ∃ (tu rd r ot hd kp ps : Addr) (xs R : List Str) (wd : Word) (n : Nat) (c : Str → Int) (past : List V), vs = [.ref tu, .ref rd] ∧ Tr CT H tu r hd kp ps ∧ Rule3 H r ot xs wd ∧ Crd H hd xs c ∧ KeptOk n wd xs H kp ∧ n ≤ 1000 ∧ H rd = some (.lst (R.map V.str)) ∧ DayOk xs R ∧ Tabs (T0 K) H ∧
  H ps = some (.lst past) ∧ past.length ≤ 1000 ∧ rd ≠ ps ∧
  ∀ (H1 : Hp) (hd' kp' : Addr) (y : Str), KpT tu ps H H1 → Tabs (T0 K) H1 → y ∈ R → Tr CT H1 tu r hd' kp' ps → Crd H1 hd' xs (nxt R y c) → KeptOk (n + 1) wd xs H1 kp' → H1 ps = some (.lst (past ++ [.str y])) → Q (.str y) H1
theorem ok_ride (F : Dn K d_Turns_ride f fd) (T : ClT K CT) (mW : Met P w K mg base 5 CT "who" (spWho K CT) []) (cPb : Cal P w K mg base 1 "parts_behind" spPb []) (cMb : Cal P w K mg base 5 "memory_behind" (spMb K) []) : FnOk P w K mg base CX0 6 f fd ["self", "riders"] (spRide K CT) := by
  refine F.ok sc_Turns_ride (fun vs H Q E h => ?_) (fun cdv A outer s H vs Q E hr h => ?_)
  · obtain ⟨tu, rd, r, ot, hd, kp, ps, xs, R, wd, n, c, past, rfl, _⟩ := h
    rfl
  · obtain ⟨tu, rd, r, ot, hd, kp, ps, xs, R, wd, n, c, past, rfl, tr, lr, hcd, hck, n1, hrd, dy, tabs, hps, pl, nrp, hQ⟩ := h
    obtain ⟨dx, htu⟩ := id tr
    have l8 := lr.ox.l8
    have r8 := dy.ln
    refine ⟨_, PSs.nox (pss_cons (ps_set (i := 2) sc_Turns_ride.nd rfl (.inl rfl) (pe_mt mW hr (by decide) (pv 0) (pa_cons (pv 1) pa_nil)))
      (pss_cons (ps_fld (pv 0) (pe_c cPb hr (by decide) rfl (pa_cons (pe_ix ix_tup (pe_fld (pv 0) rfl) pe_int (fun _ _ => rfl)) (pa_cons (pe_fld (pv 0) rfl) (pa_cons (pv 1) (pa_cons (pv 2) pa_nil))))) rfl)
      (pss_cons (ps_fld (pv 0) (pe_c cMb hr (by decide) rfl (pa_cons (pe_fld (pv 0) rfl) (pa_cons (pe_fld (pv 0) rfl) (pa_cons (pv 1) pa_nil)))) rfl)
      (pss_cons (ps_expr (pe_bm PySem.F.plainAttrs_list PySem.F.slot_list_append PySem.F.type_list_append mt_append (pe_fld (pv 0) rfl) (pa_cons (pv 2) pa_nil)))
      (pss_one (ps_ret (pv 2))))))), ?_⟩
    refine ⟨_, rfl, tu, dx, _, rfl, htu, tr_no _ _ _ _ (by decide +kernel) (by decide +kernel) (by decide +kernel) (by decide +kernel), _, rfl, tu, rd, r, ot, hd, kp, ps, xs, R, wd, n, rfl, tr, lr, hck, n1, hrd, dy, tabs, fun H2 e2 t2 y hy => ?_⟩
    have htu2 : H2 tu = some (.ins CT dx (trF r hd kp ps)) := e2 _ _ htu fun _ q => by cases q
    have hrd2 : H2 rd = some (.lst (R.map V.str)) := e2 _ _ hrd fun _ q => by cases q
    have hps2 : H2 ps = some (.lst past) := e2 _ _ hps fun _ q => by cases q
    have lr2 := lr.extN e2
    obtain ⟨hrr2, hot2, _⟩ := id lr2
    refine ⟨_, rfl, tu, CT, dx, _, _, rfl, htu2, T.cl, T.nr, tr_rule _ _ _ _, r, _, _, _, rfl, rfl, SqT.of hrr2, wd.at1 ot, _, rfl, tu, CT, dx, _, _, rfl, htu2, T.cl, T.nh, tr_held _ _ _ _, _, rfl, _, rfl, ot, hd, rd, xs, R, y, c, rfl, hot2, by omega, hcd.extN e2, hrd2, dy.ne, by omega, fun hd' H3 s3 fh hh => ?_⟩
    have len4 : ∀ a b c d : Addr, (trF a b c d).length < 1000 := fun a b c d => by rw [trF_eq]; show 4 < 1000; decide
    refine ⟨_, rfl, tu, CT, dx, _, rfl, s3 _ _ htu2, T.cl, T.nh, len4 _ _ _ _, ?_⟩
    rw [put_held]
    have nt : ∀ {a : Addr} {ys : List V}, H3 a = some (.tup ys) → a ≠ tu := fun e z => by rw [z, s3 _ _ htu2] at e; cases e
    have nl : ∀ {a : Addr} {ys : List V}, H3 a = some (.lst ys) → a ≠ tu := fun e z => by rw [z, s3 _ _ htu2] at e; cases e
    have lr4 : Rule3 (upd H3 tu (.ins CT dx (trF r hd' kp ps))) r ot xs wd := (lr2.same s3).ext fun a ys e => by rw [upd_ne (nt e)]; exact e
    have hck4 : KeptOk n wd xs (upd H3 tu (.ins CT dx (trF r hd' kp ps))) kp := ((hck.extN e2).same s3).ext fun a ys e => by rw [upd_ne (nt e)]; exact e
    have hrd4 : (upd H3 tu (.ins CT dx (trF r hd' kp ps))) rd = some (.lst (R.map V.str)) := by
      rw [upd_ne (nl (s3 _ _ hrd2))]
      exact s3 _ _ hrd2
    have tabs4 : Tabs (T0 K) (upd H3 tu (.ins CT dx (trF r hd' kp ps))) := by
      intro p hp
      obtain ⟨q, hq, tq, cq⟩ := (t2.ext s3) p hp
      refine ⟨q, ?_, tq, fun pos cv e => ?_⟩
      · rw [upd_ne (fun z => by rw [z, s3 _ _ htu2] at hq; cases hq)]
        exact hq
      · obtain ⟨c0, e1, e2⟩ := cq pos cv e
        refine ⟨c0, e1, ?_⟩
        rw [upd_ne (fun z => by rw [z, s3 _ _ htu2] at e2; cases e2)]
        exact e2
    refine ⟨_, rfl, tu, CT, dx, _, _, rfl, upd_same, T.cl, T.nr, tr_rule _ _ _ _, _, rfl, tu, CT, dx, _, _, rfl, upd_same, T.cl, T.nk, tr_kept _ _ _ _, _, rfl, r, ot, kp, rd, xs, R, wd, n, rfl, lr4, hck4, n1, hrd4, dy, tabs4, fun kp' H5 e5 t5 hk' => ?_⟩
    have htu5 : H5 tu = some (.ins CT dx (trF r hd' kp ps)) := e5 _ _ upd_same fun _ q => by cases q
    refine ⟨_, rfl, tu, CT, dx, _, rfl, htu5, T.cl, T.nk, len4 _ _ _ _, ?_⟩
    rw [put_kept]
    have nt5 : ∀ {a : Addr} {ys : List V}, H5 a = some (.tup ys) → a ≠ tu := fun e z => by rw [z, htu5] at e; cases e
    have hps4 : (upd H3 tu (.ins CT dx (trF r hd' kp ps))) ps = some (.lst past) := by
      rw [upd_ne (nl (s3 _ _ hps2))]
      exact s3 _ _ hps2
    have hps5 : H5 ps = some (.lst past) := e5 _ _ hps4 fun _ q => by cases q
    have npt : ps ≠ tu := fun z => by rw [z, htu5] at hps5; cases hps5
    have hps6 : (upd H5 tu (.ins CT dx (trF r hd' kp' ps))) ps = some (.lst past) := by rw [upd_ne npt]; exact hps5
    have hh5 : Crd H5 hd' xs (nxt R y c) := e5 _ _ (by rw [upd_ne (nt hh)]; exact hh) fun _ q => by cases q
    have ntp : ∀ {a : Addr} {ys : List V}, H5 a = some (.tup ys) → a ≠ ps := fun e z => by rw [z, hps5] at e; cases e
    refine ⟨_, rfl, tu, CT, dx, _, _, rfl, upd_same, T.cl, T.np, tr_past _ _ _ _, Or.inl ⟨rfl, _, SqL.of hps6⟩, _, rfl, ps, _, _, rfl, rfl, hps6, Nat.lt_of_le_of_lt pl (by decide), _, rfl, ?_⟩
    refine hQ _ hd' kp' y (fun b o e hn n1 n2 => ?_) (fun p hp => ?_) hy ⟨dx, by rw [upd_ne npt.symm, upd_same]⟩ ?_ ?_ upd_same
    · rw [upd_ne n2, upd_ne n1]
      refine e5 _ _ ?_ hn
      rw [upd_ne n1]
      exact s3 _ _ (e2 _ _ e hn)
    · obtain ⟨q, hq, tq, cq⟩ := t5 p hp
      refine ⟨q, ?_, tq, fun pos cv e => ?_⟩
      · rw [upd_ne (fun z => by rw [z, hps5] at hq; cases hq), upd_ne (fun z => by rw [z, htu5] at hq; cases hq)]
        exact hq
      · obtain ⟨c0, e1, e2⟩ := cq pos cv e
        refine ⟨c0, e1, ?_⟩
        rw [upd_ne (fun z => by rw [z, hps5] at e2; cases e2), upd_ne (fun z => by rw [z, htu5] at e2; cases e2)]
        exact e2
    · show (upd _ ps _) hd' = _
      rw [upd_ne (ntp hh5), upd_ne (nt5 hh5)]
      exact hh5
    · refine hk'.ext fun a ys e => ?_
      rw [upd_ne (ntp e), upd_ne (nt5 e)]
      exact e
end
end K60
set_option Elab.async false
set_option linter.all false
set_option maxRecDepth 100000
set_option maxHeartbeats 4000000
/-! data: texts, pairs -/
namespace DQ
open PySem PySem.Spec PyProof.Rows L2
def pD (q : Int × Int) : PyData := .tuple [.int q.1, .int q.2]
theorem all_strs : ∀ xs : List Str, (∀ x ∈ xs, PyData.strOk x = true) → PyData.canLayAll0 (xs.map PyData.str) = true ∧ PyData.depthAll (xs.map PyData.str) = 0
  | [], _ => ⟨rfl, rfl⟩
  | x :: r, h => by
    obtain ⟨h1, h2⟩ := all_strs r fun y hy => h y (List.mem_cons_of_mem _ hy)
    have h3 := h x List.mem_cons_self
    exact ⟨by simp [PyData.canLayAll0, PyData.canLay0, h1, h3], by simp [PyData.depthAll, PyData.depth, h2]⟩
theorem sh_strs {xs : List Str} (h : ∀ x ∈ xs, PyData.strOk x = true) : SeqAt.shaped (.list (xs.map PyData.str)) = true := by
  obtain ⟨h1, h2⟩ := all_strs xs h
  simp [SeqAt.shaped, PyData.canLay0, PyData.depth, h1, h2]
theorem all_pairs : ∀ qs : List (Int × Int), PyData.canLayAll0 (qs.map pD) = true ∧ PyData.depthAll (qs.map pD) ≤ 2
  | [] => ⟨rfl, by decide⟩
  | _ :: r => by
    obtain ⟨h1, h2⟩ := all_pairs r
    refine ⟨by simp [PyData.canLayAll0, PyData.canLay0, pD, h1], ?_⟩
    show max (PyData.depth (pD _)) (PyData.depthAll (r.map pD)) ≤ 2
    have h3 : ∀ q, PyData.depth (pD q) ≤ 2 := fun q => by show 1 ≤ 2; decide
    exact Nat.max_le.mpr ⟨h3 _, h2⟩
theorem sh_pair (q : Int × Int) : SeqAt.shaped (pD q) = true := rfl
theorem sh_pairs (qs : List (Int × Int)) : SeqAt.shaped (.list (qs.map pD)) = true := by
  obtain ⟨h1, h2⟩ := all_pairs qs
  have h3 : PyData.depthAll (qs.map pD) + 1 ≤ 64 := by omega
  simp [SeqAt.shaped, PyData.canLay0, PyData.depth, h1]
  omega
theorem eq_strs (xs : List Str) : PyData.eqv (.list (xs.map PyData.str)) (.list (xs.map PyData.str)) = true := by
  refine PySem.W.eqv_refl_alike _ ?_
  induction xs with
  | nil => rfl
  | cons x xs ih => simpa [PySem.W.alike, PySem.W.alikeAll] using ih
theorem eq_pair (q : Int × Int) : PyData.eqv (pD q) (pD q) = true := PySem.W.eqv_refl_alike _ rfl
theorem eq_pairs (qs : List (Int × Int)) : PyData.eqv (.list (qs.map pD)) (.list (qs.map pD)) = true := by
  refine PySem.W.eqv_refl_alike _ ?_
  induction qs with
  | nil => rfl
  | cons x xs ih => simpa [PySem.W.alike, PySem.W.alikeAll, pD] using ih
theorem dp_strs {K : PySem.W.Frag} {H : Hp} : ∀ xs : List Str, DpAll K H (xs.map V.str) (xs.map PyData.str)
  | [] => .nil
  | x :: xs => .cons (.str x) (dp_strs xs)
theorem dp_pair {K : PySem.W.Frag} {H : Hp} {t : Addr} {q : Int × Int} (h : H t = some (.tup [.int q.1, .int q.2])) : Dp K H (.ref t) (pD q) := .tup (SqT.of h) (.cons (.int _) (.cons (.int _) .nil))
theorem dp_pairs {K : PySem.W.Frag} {H : Hp} : ∀ L : List (Addr × (Int × Int)), (∀ p ∈ L, H p.1 = some (.tup [.int p.2.1, .int p.2.2])) → DpAll K H (L.map fun p => V.ref p.1) ((L.map (·.2)).map pD)
  | [], _ => .nil
  | p :: L, h => .cons (dp_pair (h p List.mem_cons_self)) (dp_pairs L fun q hq => h q (List.mem_cons_of_mem _ hq))
/-- a dict by names -/
theorem val_map (f : Str → V) {y : Str} : ∀ {l : List Str}, y ∈ l → valV (l.map fun x => ((Sum.inr x : Key), f x)) (Sum.inr y) = some (f y)
  | x :: l, h => by
    rw [List.map_cons]
    by_cases e : x = y
    · rw [valV_pos (by rw [e])]
      rw [e]
    · rw [valV_neg (fun z => e (Sum.inr.inj z))]
      exact val_map f ((List.mem_cons.mp h).resolve_left fun z => e z.symm)
theorem val_none (f : Str → V) {y : Str} : ∀ {l : List Str}, y ∉ l → valV (l.map fun x => ((Sum.inr x : Key), f x)) (Sum.inr y) = none
  | [], _ => rfl
  | x :: l, h => by
    rw [List.map_cons, valV_neg (fun z => h (by rw [Sum.inr.inj z]; exact List.mem_cons_self))]
    exact val_none f fun z => h (List.mem_cons_of_mem _ z)
theorem put_new (f : Str → V) {y : Str} {l : List Str} (h : y ∉ l) : putK (l.map fun x => ((Sum.inr x : Key), f x)) (Sum.inr y) (f y) = (l ++ [y]).map fun x => ((Sum.inr x : Key), f x) := by
  rw [putK_new _ (val_none f h), List.map_append]
  rfl
theorem put_old (f : Str → V) {y : Str} {v : V} {l : List Str} (h : y ∈ l) : putK (l.map fun x => ((Sum.inr x : Key), f x)) (Sum.inr y) v = l.map fun x => ((Sum.inr x : Key), if x = y then v else f x) := by
  have a : ((l.map fun x => ((Sum.inr x : Key), f x)).any fun kv => decide (kv.1 = Sum.inr y)) = true := by
    rw [List.any_eq_true]
    exact ⟨(Sum.inr y, f y), List.mem_map.mpr ⟨y, h, rfl⟩, by simp⟩
  unfold putK
  rw [if_pos a, List.map_map]
  refine List.map_congr_left fun x _ => ?_
  show (if (Sum.inr x : Key) = Sum.inr y then ((Sum.inr x : Key), v) else (Sum.inr x, f x)) = _
  by_cases e : x = y
  · rw [if_pos (by rw [e]), if_pos e]
  · rw [if_neg (fun z => e (Sum.inr.inj z)), if_neg e]
theorem merge_map (f : Str → V) : ∀ {l m : List Str}, (m ++ l).Nodup → mergeK (m.map fun x => ((Sum.inr x : Key), f x)) (l.map fun x => ((Sum.inr x : Key), f x)) = (m ++ l).map fun x => ((Sum.inr x : Key), f x)
  | [], m, _ => by rw [List.append_nil]; rfl
  | y :: l, m, h => by
    have h' : (m ++ [y] ++ l).Nodup := by rw [List.append_assoc]; exact h
    have ny : y ∉ m := fun z => by
      have := (List.nodup_append.mp h).2.2 y z y List.mem_cons_self
      exact this rfl
    show mergeK (putK _ (Sum.inr y) (f y)) (l.map fun x => ((Sum.inr x : Key), f x)) = _
    rw [put_new f ny, merge_map f h', List.append_assoc]
    rfl
end DQ
set_option Elab.async false
set_option linter.all false
set_option maxRecDepth 100000
set_option maxHeartbeats 4000000
/-! xs.count(x), texts -/
namespace CS
open PySem PySem.Spec PyProof.Rows L2
def eqs (z : Str) : Value → Bool
  | .str c _ => c == z
  | _ => false
theorem vals_str {bs : List Str} : ∀ {us : List Value}, Vals (bs.map V.str) us → (∀ u ∈ us, ∃ c t, u = Value.str c t) ∧ ∀ z, us.countP (eqs z) = bs.count z := by
  induction bs with
  | nil =>
    intro us r
    cases r
    exact ⟨fun u h => by simp at h, fun z => rfl⟩
  | cons b bs ih =>
    intro us r
    rw [List.map_cons] at r
    cases r with
    | cons h t =>
      obtain ⟨i1, i2⟩ := ih t
      obtain ⟨tk, rfl⟩ := h
      refine ⟨fun u hu => ?_, fun z => ?_⟩
      · rcases List.mem_cons.mp hu with e | hu
        · exact ⟨b, tk, e⟩
        · exact i1 u hu
      · rw [List.countP_cons, List.count_cons, i2]
        rfl
def rCntS (K : PySem.W.Frag) : V → List V → Hp → VK → Prop := fun x xs H Q => ∃ (p : Addr) (bs : List Str) (z : Str), x = .ref p ∧ xs = [.str z] ∧ SqL K H p (bs.map V.str) ∧ Q (.int (bs.count z : Nat)) H
theorem mt_scount {X : Cx} : MtR X "list.count" (rCntS X.K) := by
  intro pins s σ H x xs v us Q I rx rxs h
  obtain ⟨p, bs, z, rfl, rfl, hs, q⟩ := h
  cases rx
  obtain ⟨u, rfl, ru⟩ := rxs.one
  obtain ⟨tz, rfl⟩ := ru
  obtain ⟨its, rv, ⟨⟨cls, dd, data, sl⟩, n, ho, hc, hdn, hd⟩, hlen⟩ := I.list hs
  simp only at hc hd
  subst hc hd
  obtain ⟨i1, i2⟩ := vals_str rv
  refine call_meets PySem.F.slot_list_count ⟨_, ho, rfl⟩ PySem.F.entry_list_count (PySem.F.args_list_count_2 _ _) (SeqAt.list_countAt p _ n dd sl (.str z tz) (eqs z)) ⟨ho, fun y hy => ?_, ?_⟩
  · obtain ⟨c, t, rfl⟩ := i1 y (by simpa using hy)
    exact SeqAt.EqAt.str_str c t z tz
  · refine ⟨.int (bs.count z : Nat), H, I.tok _, ⟨s.toks, ?_⟩, q⟩
    show Value.int ((its.toArray.toList.countP (eqs z) : Nat) : Int) s.toks = Value.int ((bs.count z : Nat) : Int) s.toks
    rw [show its.toArray.toList = its from rfl, i2]
end CS
set_option Elab.async false
set_option linter.all false
set_option maxRecDepth 100000
set_option maxHeartbeats 4000000
namespace K60
open PySem PySem.Spec PyProof.Rows L2
open C8 (Cal Mak Met pe_c pe_mk pe_mt pe_mt0)
open LamX (Tabs ExtN TabB)
open KM (pr)
/-- a dict over zip of two tuples of one length -/
theorem dc_zipT {K : PySem.W.Frag} {a b : Addr} {xs ys : List V} {g : TG} {tt : TT} {tk tv : TE} {vs : List Nat} {σ : L2.St} {H1 : Hp} {D : Addr} {Qd : Hp → Prop} (hl : xs.length = ys.length) (Pv : Nat → Hp → Prop) (h0 : Pv 0 (upd H1 D (.dK []))) (hq : ∀ i H, Pv i H → SqT K H a xs ∧ SqT K H b ys)
    (hs : ∀ (i : Nat) (x y : V) (T : Addr) (H : Hp), xs[i]? = some x → ys[i]? = some y → Pv i H → H T = none → g (.ref T) (wipe σ vs) (upd H T (.tup [x, y])) fun σ2 H2 => wipe σ2 vs = wipe σ vs ∧ tt σ2 H2 fun b H3 =>
      if b = true then tk σ2 H3 fun y H4 => tv σ2 H4 fun z H5 => ∃ kvs k, y = kV k ∧ H5 D = some (.dK kvs) ∧ kvs.length < sizeLine ∧ Pv (i + 1) (upd H5 D (.dK (putK kvs k z))) else Pv (i + 1) H3) (hd : ∀ H, Pv xs.length H → Qd H) :
    ∃ W : Nat → Nat → Hp → Prop, (∃ m, W 0 m (upd H1 D (.dK []))) ∧ ∀ i m H, W i m H →
      ((RZ.ItzT K a b).stop i H ∧ Qd H) ∨ ((RZ.ItzT K a b).go i H ∧ ∃ Nx : Hp → Prop, (∀ H', Nx H' → ∃ m', m' < m ∧ W (i + 1) m' H') ∧ ∀ x H', (RZ.ItzT K a b).yld i H x H' → g x (wipe σ vs) H' fun σ2 H2 => wipe σ2 vs = wipe σ vs ∧ tt σ2 H2 fun b H3 =>
        if b = true then tk σ2 H3 fun y H4 => tv σ2 H4 fun z H5 => ∃ kvs k, y = kV k ∧ H5 D = some (.dK kvs) ∧ kvs.length < sizeLine ∧ Nx (upd H5 D (.dK (putK kvs k z))) else Nx H3) := by
  refine ⟨fun i m H => m = xs.length - i ∧ i ≤ xs.length ∧ Pv i H, ⟨xs.length, rfl, Nat.zero_le _, h0⟩, ?_⟩
  rintro i m H ⟨rfl, hi, p⟩
  obtain ⟨qx, qy⟩ := hq i H p
  by_cases hlt : i < xs.length
  · have hx : xs[i]? = some xs[i] := List.getElem?_eq_getElem hlt
    have hlt2 : i < ys.length := by omega
    have hy : ys[i]? = some ys[i] := List.getElem?_eq_getElem hlt2
    refine .inr ⟨⟨xs, ys, _, _, qx, qy, hx, hy⟩, Pv (i + 1), fun H' p' => ⟨xs.length - (i + 1), by omega, rfl, hlt, p'⟩, fun v H' y => ?_⟩
    obtain ⟨T, x', y', rfl, hT, rfl, f1, f2⟩ := y
    exact hs i x' y' T H (f1 xs qx) (f2 ys qy) p hT
  · have e : i = xs.length := by omega
    subst e
    exact .inl ⟨⟨xs, ys, qx, qy, Or.inl (Nat.le_refl _)⟩, hd H p⟩
section
variable {P : Program} {w : World} {K : PySem.W.Frag} {mg : Str → Option Value} {base : Heap} {f C CT : Addr} {fd : FuncData}
/-- a dict by names -/
def dctO (l : List Str) (g : Str → V) : HO := .dK (l.map fun x => ((Sum.inr x : Key), g x))
/-- a credit as a share of a ride -/
def rt (c : Int) : Rat := Rat.divInt c 840
theorem nin_take {xs : List Str} (nd : xs.Nodup) {i : Nat} {z : Str} (h : xs[i]? = some z) : z ∉ xs.take i := fun hm => by
  obtain ⟨j, hj, e⟩ := List.mem_iff_getElem.mp hm
  rw [List.getElem_take] at e
  rw [List.length_take] at hj
  have e3 : xs[j]? = xs[i]? := by rw [h, List.getElem?_eq_getElem (by omega), e]
  have := (List.getElem?_inj (by omega) nd).mp e3
  omega
theorem map_ne {l : List Str} {z : Str} (h : z ∉ l) {f g : Str → V} (e : ∀ x, x ≠ z → f x = g x) : (l.map fun x => ((Sum.inr x : Key), f x)) = l.map fun x => ((Sum.inr x : Key), g x) :=
  List.map_congr_left fun x hx => by rw [e x fun q => h (q ▸ hx)]
def spSt (C CT : Addr) : Sp := fun vs H Q _ => ∃ (tu r ot hd kp ps : Addr) (xs : List Str) (wd : Word) (c : Str → Int), vs = [.ref tu] ∧ Tr CT H tu r hd kp ps ∧ Rule3 H r ot xs wd ∧ Crd H hd xs c ∧
  ∀ (D : Addr) (H' : Hp) (ad : Str → Addr), Same H H' → H D = none → H' D = some (dctO xs fun x => .ref (ad x)) → (∀ x ∈ xs, Sh C H' (ad x) (pr (rt (c x)))) → Q (.ref D) H'
theorem ok_st (F : Dn K d_Turns_stands f fd) (b2 : Bl2 mg) (T : ClT K CT) (gp : ∃ t, mg "RIDE_PARTS" = some (.int 840 t)) (MS : MakS P w K mg base C) : FnOk P w K mg base CX0 4 f fd ["self"] (spSt C CT) := by
  refine F.ok sc_Turns_stands (fun vs H Q E h => ?_) (fun cdv A outer s H vs Q E hr h => ?_)
  · obtain ⟨tu, r, ot, hd, kp, ps, xs, wd, c, rfl, _⟩ := h
    rfl
  · obtain ⟨tu, r, ot, hd, kp, ps, xs, wd, c, rfl, ⟨dx, htu⟩, lr, hc, hQ⟩ := h
    obtain ⟨hrr, hot, ox, wok⟩ := id lr
    obtain ⟨t, gp⟩ := gp
    have l8 := ox.l8
    refine ⟨_, PSs.nox (pss_one (ps_ret (pe_dc (own := [("name", 1), ("parts", 2)]) (g := gTup K 2 (gCons (gName 1) (gCons (gName 2) gNil))) (tt := tYes) rfl sc_Turns_stands.nd (RZ.pi_zipA rfl b2.zip (pa_cons (pe_ix ix_tup (pe_fld (pv 0) rfl) pe_int (fun _ _ => rfl)) (pa_cons (pe_fld (pv 0) rfl) pa_nil)))
      (blkOk_by (N := N_Turns_stands) (sc := defScope s_Turns_stands) (by decide +kernel)) (fun _ _ _ _ _ => pg_tup rfl (pgs_cons (pg_name (i := 1) sc_Turns_stands.nd rfl (.inl rfl)) (pgs_cons (pg_name (i := 2) sc_Turns_stands.nd rfl (.inl rfl)) pgs_nil))) (fun _ _ _ _ _ => pts_nil)
      (fun _ _ _ _ _ => pv 1) (fun _ _ _ _ _ => pe_mk MS hr (by decide) rfl (pa_cons (pv 2) (pa_cons (pe_glob (v := .int 840) rfl gp ⟨t, rfl⟩) pa_nil)))))), ?_⟩
    refine ⟨_, rfl, tu, CT, dx, _, _, rfl, htu, T.cl, T.nr, tr_rule _ _ _ _, r, _, _, _, rfl, rfl, SqT.of hrr, wd.at1 ot, _, rfl, tu, CT, dx, _, _, rfl, htu, T.cl, T.nh, tr_held _ _ _ _, ot, hd, _, _, rfl, .inr ⟨SqT.of hot, SqT.of hc, fun D hD => ?_⟩⟩
    refine dc_zipT (by simp) (fun i H2 => ∃ ad : Str → Addr, H2 D = some (dctO (xs.take i) fun x => .ref (ad x)) ∧ Same H H2 ∧ ∀ x ∈ xs.take i, Sh C H2 (ad x) (pr (rt (c x))))
      ⟨fun _ => 0, upd_same, same_new hD, fun x hx => by simp at hx⟩ (fun i H2 ⟨_, _, sm, _⟩ => ⟨SqT.of (sm _ _ hot), SqT.of (sm _ _ hc)⟩) ?_ ?_
    · rintro i x y Tp H2 hx hy ⟨ad, hdd, sm, hval⟩ hT
      have hi' : i < xs.length := by
        have := (List.getElem?_eq_some_iff.mp hx).1
        simpa using this
      rw [List.getElem?_map] at hx hy
      obtain ⟨z, hz, rfl⟩ := Option.map_eq_some_iff.mp hx
      rw [hz] at hy
      cases hy
      have nz := nin_take ox.nd hz
      have et : xs.take (i + 1) = xs.take i ++ [z] := by rw [List.take_succ, hz]; rfl
      have sT := same_new (o := .tup [V.str z, V.int (c z)]) hT
      refine ⟨Tp, _, rfl, SqT.of upd_same, rfl, _, _, rfl, _, _, rfl, rfl, rfl, ?_⟩
      refine ⟨_, rfl, _, rfl, ?_⟩
      intro q dq nq nd ne
      refine mk_in (n := 10) nq nd (by decide) (by decide) (by decide) (by decide) fun H3 s3 hq => ⟨rfl, ?_⟩
      have s23 := sT.trans s3
      have hD3 := s23 _ _ hdd
      refine ⟨_, Sum.inr z, rfl, hD3, ?_, fun x => if x = z then q else ad x, ?_, ?_, ?_⟩
      · rw [List.length_map, List.length_take]
        exact Nat.lt_of_lt_of_le (by omega : min i xs.length < 64) (by decide)
      · rw [upd_same, et]
        have e1 : (xs.take i).map (fun x => ((Sum.inr x : Key), V.ref (ad x))) = (xs.take i).map fun x => ((Sum.inr x : Key), V.ref (if x = z then q else ad x)) := map_ne nz fun x n => by rw [if_neg n]
        unfold dctO
        rw [e1]
        have e2 := DQ.put_new (fun x => V.ref (if x = z then q else ad x)) nz
        rw [if_pos rfl] at e2
        rw [e2]
      · intro a o e
        rw [upd_ne (ne_of_none e hD)]
        exact s23 a o (sm a o e)
      · have keep : ∀ {p : Addr} {v : Int × Int} {o : HO}, Sh C H3 p v → Sh C (upd H3 D o) p v := fun {p v o} ⟨dp, hp⟩ => ⟨dp, by
          rw [upd_ne (fun e => by rw [e, hD3] at hp; cases hp)]
          exact hp⟩
        intro x hx
        rw [et] at hx
        rcases List.mem_append.mp hx with hx | hx
        · have n : x ≠ z := fun e => nz (e ▸ hx)
          show Sh C _ (if x = z then q else ad x) _
          rw [if_neg n]
          exact keep ((hval x hx).keep s23)
        · rw [List.mem_singleton] at hx
          show Sh C _ (if x = z then q else ad x) _
          rw [hx, if_pos rfl]
          exact keep hq
    · rintro H2 ⟨ad, hdd, sm, hval⟩
      rw [List.length_map, List.take_length] at hdd hval
      exact hQ D H2 ad sm hD hdd hval
def spDr (CT : Addr) : Sp := fun vs H Q _ => ∃ (tu r ot hd kp ps : Addr) (xs past : List Str) (wd : Word), vs = [.ref tu] ∧ Tr CT H tu r hd kp ps ∧ Rule3 H r ot xs wd ∧ H ps = some (.lst (past.map V.str)) ∧
  ∀ (D : Addr) (H' : Hp), Same H H' → H D = none → H' D = some (dctO xs fun x => .int (past.count x : Nat)) → Q (.ref D) H'
theorem ok_dr (F : Dn K d_Turns_drives f fd) (T : ClT K CT) : FnOk P w K mg base CX0 1 f fd ["self"] (spDr CT) := by
  refine F.ok sc_Turns_drives (fun vs H Q E h => ?_) (fun cdv A outer s H vs Q E hr h => ?_)
  · obtain ⟨tu, r, ot, hd, kp, ps, xs, past, wd, rfl, _⟩ := h
    rfl
  · obtain ⟨tu, r, ot, hd, kp, ps, xs, past, wd, rfl, ⟨dx, htu⟩, lr, hps, hQ⟩ := h
    obtain ⟨hrr, hot, ox, wok⟩ := id lr
    have l8 := ox.l8
    refine ⟨_, PSs.nox (pss_one (ps_ret (pe_dc (own := [("name", 1)]) (g := gName 1) (tt := tYes) (tv := tBM K "list" (CS.rCntS K) (tFld K (tVar 0) "past") (tCons (tVar 1) tNil)) rfl sc_Turns_drives.nd (pi_tup (pe_ix ix_tup (pe_fld (pv 0) rfl) pe_int (fun _ _ => rfl)))
      (blkOk_by (N := N_Turns_drives) (sc := defScope s_Turns_drives) (by decide +kernel)) (fun _ _ _ _ _ => pg_name (i := 1) sc_Turns_drives.nd rfl (.inl rfl)) (fun _ _ _ _ _ => pts_nil)
      (fun _ _ _ _ _ => pv 1) (fun _ _ _ _ _ => pe_bm (r := CS.rCntS K) PySem.F.plainAttrs_list PySem.F.slot_list_count PySem.F.type_list_count CS.mt_scount (pe_fld (pv 0) rfl) (pa_cons (pv 1) pa_nil))))), ?_⟩
    refine ⟨_, rfl, tu, CT, dx, _, _, rfl, htu, T.cl, T.nr, tr_rule _ _ _ _, r, _, _, _, rfl, rfl, SqT.of hrr, wd.at1 ot, ot, rfl, ⟨_, SqT.of hot⟩, fun D hD => ?_⟩
    refine dc_tup (fun i H2 => H2 D = some (dctO (xs.take i) fun x => .int (past.count x : Nat)) ∧ Same H H2) ⟨upd_same, same_new hD⟩ (fun i H2 _ z => SqT.of (z.2 _ _ hot)) ?_ ?_
    · rintro i x H2 hx ⟨hdd, sm⟩
      have hi' : i < xs.length := by
        have := (List.getElem?_eq_some_iff.mp hx).1
        simpa using this
      rw [List.getElem?_map] at hx
      obtain ⟨z, hz, rfl⟩ := Option.map_eq_some_iff.mp hx
      have nz := nin_take ox.nd hz
      have et : xs.take (i + 1) = xs.take i ++ [z] := by rw [List.take_succ, hz]; rfl
      refine ⟨rfl, ?_⟩
      refine ⟨_, rfl, _, rfl, tu, CT, dx, _, _, rfl, sm _ _ htu, T.cl, T.np, tr_past _ _ _ _, Or.inl ⟨rfl, _, SqL.of (sm _ _ hps)⟩, _, rfl, ps, past, z, rfl, rfl, SqL.of (sm _ _ hps), ?_⟩
      refine ⟨_, Sum.inr z, rfl, hdd, ?_, ?_, ?_⟩
      · rw [List.length_map, List.length_take]
        exact Nat.lt_of_lt_of_le (by omega : min i xs.length < 64) (by decide)
      · rw [upd_same, et]
        exact congrArg (fun l => some (HO.dK l)) (DQ.put_new (fun x => V.int (past.count x : Nat)) nz)
      · intro a o e
        rw [upd_ne (ne_of_none e hD)]
        exact sm a o e
    · rintro H2 ⟨hdd, sm⟩
      rw [List.length_map, List.take_length] at hdd
      exact hQ D H2 sm hD hdd
def spLen (CT : Addr) : Sp := fun vs H Q _ => ∃ (tu r hd kp ps : Addr) (past : List V), vs = [.ref tu] ∧ Tr CT H tu r hd kp ps ∧ H ps = some (.lst past) ∧ Q (.int (past.length : Nat)) H
theorem ok_len (F : Dn K d_Turns_len f fd) (b : Bl mg) (T : ClT K CT) : FnOk P w K mg base CX0 1 f fd ["self"] (spLen CT) := by
  refine F.ok sc_Turns_len (fun vs H Q E h => ?_) (fun cdv A outer s H vs Q E hr h => ?_)
  · obtain ⟨tu, r, hd, kp, ps, past, rfl, _⟩ := h
    rfl
  · obtain ⟨tu, r, hd, kp, ps, past, rfl, ⟨dx, htu⟩, hps, hQ⟩ := h
    refine ⟨_, PSs.nox (pss_one (ps_ret (pe_callB call_len_seq rfl b.len boot_len (pa_cons (pe_fld (pv 0) rfl) pa_nil)))), ?_⟩
    exact ⟨_, rfl, tu, CT, dx, _, _, rfl, htu, T.cl, T.np, tr_past _ _ _ _, ps, _, rfl, .inl (SqL.of hps), hQ⟩
end
end K60
set_option Elab.async false
set_option linter.all false
set_option maxRecDepth 100000
set_option maxHeartbeats 4000000
namespace K60
open PySem PySem.Spec PyProof.Rows L2
open C8 (Cal Mak Met pe_c pe_mk pe_mt pe_mt0)
open KM (pr Sz)
section
variable {P : Program} {w : World} {K : PySem.W.Frag} {mg : Str → Option Value} {base : Heap} {f C CR : Addr} {fd : FuncData}
def spSEq (C : Addr) : Sp := fun vs H Q _ => ∃ (p q : Addr) (r s : Rat), vs = [.ref p, .ref q] ∧ Sh C H p (pr r) ∧ Sh C H q (pr s) ∧ Q (.bl (decide (r = s))) H
theorem ok_eq (F : Dn K d_Share_eq f fd) (b : Bl mg) (T : Cl K mg C) (S : IsC K C) : FnOk P w K mg base CX0 1 f fd ["self", "other"] (spSEq C) := by
  refine F.ok sc_Share_eq (fun vs H Q E h => ?_) (fun cdv A outer s H vs Q E hr h => ?_)
  · obtain ⟨p, q, r, s, rfl, _⟩ := h
    rfl
  · obtain ⟨p, q, r, t, rfl, ⟨dp, hp⟩, ⟨dq, hq⟩, hQ⟩ := h
    refine ⟨_, PSs.nox (pss_one (ps_ret (pe_and (pe_callB call_isi rfl b.isi boot_isinstance (pa_cons (pv 1) (pa_cons (pe_glob (v := .ref C) rfl T.g rfl) pa_nil)))
      (pe_and (pe_cmpR op_eq (pe_fld (pv 0) rfl) (pe_fld (pv 1) rfl) (nomark _)) (pe_one (pe_cmpR op_eq (pe_fld (pv 0) rfl) (pe_fld (pv 1) rfl) (nomark _))))))), ?_⟩
    refine ⟨_, rfl, _, _, _, _, true, rfl, ClsV.own C, TyX.base (TyOf.ins hq T.cl S.ha S.hn S.htk S.hm), S.kit, true, rfl, iteT ?_⟩
    refine ⟨_, rfl, p, C, dp, _, _, rfl, hp, T.cl, T.nt, shF_top _, _, rfl, q, C, dq, _, _, rfl, hq, T.cl, T.nt, shF_top _, rfl, _, rfl, ?_⟩
    refine ite2 (fun h1 => ?_) (fun h1 => ?_)
    · have e1 : (pr r).1 = (pr t).1 := V.int.inj (of_decide_eq_true h1)
      refine ⟨_, rfl, p, C, dp, _, _, rfl, hp, T.cl, T.nb, shF_bot _, _, rfl, q, C, dq, _, _, rfl, hq, T.cl, T.nb, shF_bot _, rfl, ?_⟩
      have e : decide (V.int (pr r).2 = V.int (pr t).2) = decide (r = t) := by
        refine decide_eq_decide.mpr ⟨fun z => KM.pr_inj (Prod.ext e1 (V.int.inj z)), fun z => by rw [z]⟩
      rw [e]
      exact hQ
    · have e : decide (r = t) = false := decide_eq_false fun z => h1 (by rw [z]; simp)
      rw [e] at hQ
      exact hQ
def sumR (rs : List Rat) : Rat := rs.foldl (· + ·) 0
theorem fold_from (a : Rat) : ∀ rs : List Rat, rs.foldl (· + ·) a = a + sumR rs
  | [] => by show a = a + 0; rw [Rat.add_zero]
  | r :: rs => by
    show rs.foldl (· + ·) (a + r) = a + rs.foldl (· + ·) (0 + r)
    rw [fold_from (a + r) rs, fold_from (0 + r) rs, Rat.zero_add, Rat.add_assoc]
theorem sumR_app (xs ys : List Rat) : sumR (xs ++ ys) = sumR xs + sumR ys := by
  unfold sumR
  rw [List.foldl_append]
  exact fold_from _ ys
theorem sumR_cons (r : Rat) (rs : List Rat) : sumR (r :: rs) = r + sumR rs := by
  have := sumR_app [r] rs
  rw [List.singleton_append] at this
  rw [this]
  show (0 + r) + _ = _
  rw [Rat.zero_add]
theorem sz_sum {k : Nat} : ∀ {rs : List Rat}, (∀ r ∈ rs, Sz k r) → Sz (1 + (k + 1) * rs.length) (sumR rs) := by
  intro rs
  induction rs with
  | nil =>
    intro _
    refine ⟨Nat.two_pow_pos _, ?_⟩
    show 1 < 2 ^ (1 + (k + 1) * 0)
    simp
  | cons r rs ih =>
    intro h
    rw [sumR_cons]
    have h1 := h r (List.mem_cons_self ..)
    have h2 := ih fun x hx => h x (List.mem_cons_of_mem _ hx)
    refine (KM.sz_plus h1 h2).1.mono ?_
    rw [List.length_cons, Nat.mul_add]
    omega
def ShL (K : PySem.W.Frag) (C : Addr) (H : Hp) (l : Addr) (L : List (Addr × Rat)) : Prop := SqL K H l (L.map fun x => V.ref x.1) ∧ ∀ x ∈ L, Sh C H x.1 (pr x.2)
theorem ShL.keep {H H' : Hp} {l : Addr} {L : List (Addr × Rat)} (s : Same H H') (h : ShL K C H l L) : ShL K C H' l L := ⟨s.seq h.1, fun x hx => (h.2 x hx).keep s⟩
def ratsOf (L : List (Addr × Rat)) : List Rat := L.map (·.2)
def spTotal (K : PySem.W.Frag) (C : Addr) : Sp := fun vs H Q _ => ∃ (l : Addr) (L : List (Addr × Rat)), vs = [.ref l, .int 0] ∧ ShL K C H l L ∧ (∀ x ∈ L, Sz 270 x.2) ∧ L.length ≤ 12 ∧
  ∀ t H', Same H H' → H t = none → Sh C H' t (pr (sumR (ratsOf L))) → Q (.ref t) H'
theorem ok_total (F : Dn K d_total f fd) (M1 : MakS1 P w K mg base C) (mp : Met P w K mg base 4 C "plus" (sp2 C (· + ·)) []) : FnOk P w K mg base CX0 5 f fd ["shares", "start"] (spTotal K C) := by
  refine F.ok sc_total (fun vs H Q E h => ?_) (fun cdv A outer s H vs Q E hr h => ?_)
  · obtain ⟨l, L, rfl, _⟩ := h
    rfl
  · obtain ⟨l, L, rfl, hL, hS, hlen, hQ⟩ := h
    refine ⟨_, PSs.nox (pss_cons (ps_set (i := 2) sc_total.nd rfl (.inl rfl) (pe_mk M1 hr (by decide) rfl (pa_cons (pv 1) pa_nil)))
      (pss_cons (ps_for PassesOwn.never rfl (pi_list (pv 0)) (pg_name (i := 3) sc_total.nd rfl (.inl rfl))
        (pss_one (ps_set (i := 2) sc_total.nd rfl (.inl rfl) (pe_mt mp hr (by decide) (pv 2) (pa_cons (pv 3) pa_nil)))))
      (pss_one (ps_ret (pv 2))))), ?_⟩
    refine ⟨_, rfl, ?_⟩
    intro p pd np nd ne
    refine mk_in (n := 1) np nd (by decide) (by decide) (by decide) (by decide) fun H1 s1 hp => ⟨rfl, ?_⟩
    have z0 : Rat.divInt 0 1 = 0 := by rfl
    rw [z0] at hp
    refine ⟨_, rfl, l, rfl, ⟨_, s1.seq hL.1⟩, for_list (K := K) (xs := L.map fun x => V.ref x.1) (fun i σ H2 => ∃ (q : Addr) (v : Option V), σ = [some (.ref l), some (.int 0), some (.ref q), v] ∧ Same H H2 ∧ H q = none ∧ Sh C H2 q (pr (sumR (ratsOf (L.take i)))))
      ⟨p, none, rfl, s1, np, hp⟩ (fun i σ H2 _ z => by obtain ⟨q, v, _, s2, _⟩ := z; exact s2.seq hL.1) ?_ ?_⟩
    · rintro i y σ H2 hi ⟨q, v, rfl, s2, fq, hq⟩
      rw [List.getElem?_map] at hi
      cases hx : L[i]? with
      | none =>
        rw [hx] at hi
        cases hi
      | some x =>
        rw [hx] at hi
        cases (Option.some.inj hi : V.ref x.1 = y)
        have hm : x ∈ L := List.mem_of_getElem? hx
        have hil : i < L.length := (List.getElem?_eq_some_iff.mp hx).1
        have et : L.take (i + 1) = L.take i ++ [x] := by rw [List.take_add_one, hx]; rfl
        have szt : Sz 3600 (sumR (ratsOf (L.take i))) := by
          refine (sz_sum (k := 270) fun r hr => ?_).mono ?_
          · obtain ⟨x', hx', rfl⟩ := List.mem_map.mp hr
            exact hS x' (List.mem_of_mem_take hx')
          · unfold ratsOf
            rw [List.length_map, List.length_take]
            omega
        obtain ⟨dq, hq1⟩ := id hq
        refine ⟨_, rfl, q, dq, _, rfl, hq1, shF_no _ (by decide +kernel) (by decide +kernel), _, rfl, q, x.1, _, x.2, 3600, rfl, hq, (hL.2 x hm).keep s2, szt, (hS x hm).mono (by decide), by decide, by decide, fun t H3 s3 ft ht => ?_⟩
        refine ⟨t, _, rfl, s2.trans s3, s2.free ft, ?_⟩
        have er : sumR (ratsOf (L.take i)) + x.2 = sumR (ratsOf (L.take (i + 1))) := by
          rw [et]
          unfold ratsOf
          rw [List.map_append, sumR_app]
          show _ = _ + (0 + x.2)
          rw [Rat.zero_add]
        rw [← er]
        exact ht
    · rintro σ H2 ⟨q, v, rfl, s2, fq, hq⟩
      rw [List.length_map, List.take_length] at hq
      exact ⟨_, rfl, hQ q H2 s2 fq hq⟩
end
end K60
set_option Elab.async false
set_option linter.all false
set_option maxRecDepth 100000
set_option maxHeartbeats 4000000
namespace K60
open PySem PySem.Spec PyProof.Rows L2
open KM (pr)
theorem rt_add {c t : Int} {k m : Int} (hk : k ≠ 0) (h : (c * k + t * 840) * 840 = m * (840 * k)) : rt c + Rat.divInt t k = rt m := by
  unfold rt
  rw [Rat.divInt_add_divInt _ _ (by decide) hk, Rat.divInt_eq_divInt_iff (Int.mul_ne_zero (by decide) hk) (by decide)]
  exact h
theorem one_k {k : Int} (h1 : 1 ≤ k) (h8 : k ≤ 8) : ((-1 : Int), k) = pr (Rat.divInt (-1) k) := by
  rw [← KM.low_eq (by omega)]
  rcases (show k = 1 ∨ k = 2 ∨ k = 3 ∨ k = 4 ∨ k = 5 ∨ k = 6 ∨ k = 7 ∨ k = 8 by omega) with rfl | rfl | rfl | rfl | rfl | rfl | rfl | rfl <;> decide +kernel
theorem low_less (c : Int) {k : Int} (h1 : 1 ≤ k) (h8 : k ≤ 8) : KM.low ((pr (rt c)).1 * k + (-1) * (pr (rt c)).2) ((pr (rt c)).2 * k) = pr (rt (c - (840 : Int).fdiv k)) := by
  have e := KM.pr_plus (rt c) (Rat.divInt (-1) k)
  rw [← one_k h1 h8] at e
  have e2 : (c * k + (-1) * 840) * 840 = (c - (840 : Int).fdiv k) * (840 * k) := by
    rcases (show k = 1 ∨ k = 2 ∨ k = 3 ∨ k = 4 ∨ k = 5 ∨ k = 6 ∨ k = 7 ∨ k = 8 by omega) with rfl | rfl | rfl | rfl | rfl | rfl | rfl | rfl <;> simp [Int.fdiv] <;> omega
  rw [rt_add (by omega) e2] at e
  exact e
theorem low_plus (c : Int) : KM.low ((pr (rt c)).1 * 1 + 1 * (pr (rt c)).2) ((pr (rt c)).2 * 1) = pr (rt (c + 840)) := by
  have e := KM.pr_plus (rt c) (Rat.divInt 1 1)
  have e1 : pr (Rat.divInt 1 1) = (1, 1) := by decide +kernel
  rw [e1, rt_add (m := c + 840) (by decide) (by omega)] at e
  exact e
theorem sz_rt {c : Int} {n : Nat} (h : c.natAbs < 2 ^ n) (hn : 10 ≤ n) : KM.Sz n (rt c) := KM.sz_of_low (by decide) h (Nat.lt_of_lt_of_le (by decide : (840 : Int).natAbs < 2 ^ 10) (Nat.pow_le_pow_right (by decide) hn))
/-- what the days cost a name -/
def fare (x : Str) (R : List Str) : Int := if x ∈ R then (840 : Int).fdiv (R.length : Int) else 0
/-- a name's credit by the days and who drove -/
def cf (days : List (List Str)) (drs : List Str) (x : Str) : Int := 840 * (drs.count x : Int) - (days.map (fare x)).sum
theorem cf_nil : cf [] [] = fun _ => 0 := by
  funext x
  simp [cf]
theorem cf_next (days : List (List Str)) (drs R : List Str) (y : Str) : nxt R y (cf days drs) = cf (days ++ [R]) (drs ++ [y]) := by
  funext x
  unfold nxt cf fare
  rw [List.count_append, List.map_append, List.sum_append]
  by_cases e : x = y
  · subst e
    simp
    omega
  · have e2 : List.count x [y] = 0 := List.count_eq_zero.mpr (by simpa using e)
    rw [if_neg e, e2]
    simp
    omega
theorem cf_take (days : List (List Str)) (drs : List Str) (x : Str) (i : Nat) (R : List Str) (h : days[i]? = some R) : cf (days.take (i + 1)) drs x = cf (days.take i) drs x - fare x R := by
  unfold cf
  rw [List.take_succ, h]
  simp
  omega
theorem sum_add (f g : Str → Int) : ∀ xs : List Str, (xs.map fun x => f x + g x).sum = (xs.map f).sum + (xs.map g).sum
  | [] => rfl
  | x :: xs => by
    have := sum_add f g xs
    simp only [List.map_cons, List.sum_cons, this]
    omega
theorem sum_mul (k : Int) (f : Str → Int) : ∀ xs : List Str, (xs.map fun x => k * f x).sum = k * (xs.map f).sum
  | [] => by simp
  | x :: xs => by
    have := sum_mul k f xs
    simp only [List.map_cons, List.sum_cons, this, Int.mul_add]
theorem sum_zero : ∀ xs : List Str, (xs.map fun _ => (0 : Int)).sum = 0
  | [] => rfl
  | x :: xs => by
    have := sum_zero xs
    simp only [List.map_cons, List.sum_cons, this]
    omega
theorem sum_congr {f g : Str → Int} {xs : List Str} (h : ∀ x ∈ xs, f x = g x) : (xs.map f).sum = (xs.map g).sum := by rw [List.map_congr_left h]
theorem sum_one {y : Str} : ∀ {xs : List Str}, xs.Nodup → y ∈ xs → (xs.map fun x => if x = y then (1 : Int) else 0).sum = 1
  | [], _, h => nomatch h
  | x :: xs, nd, h => by
    have n := List.nodup_cons.mp nd
    simp only [List.map_cons, List.sum_cons]
    by_cases e : x = y
    · subst e
      have : (xs.map fun z => if z = x then (1 : Int) else 0).sum = (xs.map fun _ => (0 : Int)).sum := sum_congr fun z hz => if_neg fun (q : z = x) => n.1 (by rw [← q]; exact hz)
      rw [this, sum_zero, if_pos rfl]
      rfl
    · have hy : y ∈ xs := by
        rcases List.mem_cons.mp h with q | q
        · exact absurd q.symm e
        · exact q
      rw [if_neg e, sum_one n.2 hy]
      rfl
theorem sum_in {xs : List Str} (nd : xs.Nodup) (k : Int) : ∀ {R : List Str}, R.Nodup → (∀ y ∈ R, y ∈ xs) → (xs.map fun x => if x ∈ R then k else 0).sum = k * (R.length : Int)
  | [], _, _ => by
    have : (xs.map fun x => if x ∈ ([] : List Str) then k else 0).sum = (xs.map fun _ => (0 : Int)).sum := sum_congr fun x _ => if_neg (by simp)
    rw [this, sum_zero]
    simp
  | y :: R, ndR, sub => by
    have n := List.nodup_cons.mp ndR
    have : (xs.map fun x => if x ∈ y :: R then k else 0).sum = (xs.map fun x => k * (if x = y then (1 : Int) else 0) + (if x ∈ R then k else 0)).sum := sum_congr fun x _ => by
      by_cases e : x = y
      · subst e
        rw [if_pos List.mem_cons_self, if_pos rfl, if_neg n.1]
        omega
      · rw [if_neg e]
        by_cases e2 : x ∈ R
        · rw [if_pos (List.mem_cons_of_mem _ e2), if_pos e2]
          omega
        · rw [if_neg (fun q => (List.mem_cons.mp q).elim e e2), if_neg e2]
          omega
    rw [this, sum_add, sum_mul, sum_one nd (sub y List.mem_cons_self), sum_in nd k n.2 fun z hz => sub z (List.mem_cons_of_mem _ hz), List.length_cons]
    push_cast
    rw [Int.mul_add]
    omega
theorem sum_cnt {xs : List Str} (nd : xs.Nodup) : ∀ {drs : List Str}, (∀ y ∈ drs, y ∈ xs) → (xs.map fun x => (drs.count x : Int)).sum = (drs.length : Int)
  | [], _ => by
    have : (xs.map fun x => (([] : List Str).count x : Int)).sum = (xs.map fun _ => (0 : Int)).sum := sum_congr fun x _ => by simp
    rw [this, sum_zero]
    rfl
  | y :: drs, sub => by
    have : (xs.map fun x => ((y :: drs).count x : Int)).sum = (xs.map fun x => (if x = y then (1 : Int) else 0) + (drs.count x : Int)).sum := sum_congr fun x _ => by
      rw [List.count_cons]
      by_cases e : x = y
      · subst e
        simp
        omega
      · have : (y == x) = false := by simp; exact fun q => e q.symm
        rw [if_neg e, this]
        simp
    rw [this, sum_add, sum_one nd (sub y List.mem_cons_self), sum_cnt nd fun z hz => sub z (List.mem_cons_of_mem _ hz), List.length_cons]
    push_cast
    omega
theorem fd_all {k : Nat} (h1 : 1 ≤ k) (h8 : k ≤ 8) : (840 : Int).fdiv (k : Int) * (k : Int) = 840 := by
  rcases (show k = 1 ∨ k = 2 ∨ k = 3 ∨ k = 4 ∨ k = 5 ∨ k = 6 ∨ k = 7 ∨ k = 8 by omega) with rfl | rfl | rfl | rfl | rfl | rfl | rfl | rfl <;> decide
theorem sum_fares {xs : List Str} (ox : Ord xs) : ∀ {days : List (List Str)}, (∀ R ∈ days, DayOk xs R) → (xs.map fun x => (days.map (fare x)).sum).sum = 840 * (days.length : Int)
  | [], _ => by
    have := sum_zero xs
    simpa using this
  | R :: days, h => by
    have dy := h R List.mem_cons_self
    have rpos : 0 < R.length := List.length_pos_iff.mpr dy.ne
    have rl := dy.ln
    have l8 := ox.l8
    have e : (xs.map fun x => ((R :: days).map (fare x)).sum).sum = (xs.map fun x => fare x R + (days.map (fare x)).sum).sum := sum_congr fun x _ => by simp
    have e2 : (xs.map fun x => fare x R).sum = (840 : Int).fdiv (R.length : Int) * (R.length : Int) := sum_in ox.nd _ dy.nd dy.sub
    rw [e, sum_add, e2, fd_all (by omega) (by omega), sum_fares ox fun z hz => h z (List.mem_cons_of_mem _ hz), List.length_cons]
    push_cast
    omega
theorem cf_sum {xs : List Str} (ox : Ord xs) {days : List (List Str)} {drs : List Str} (hd : ∀ R ∈ days, DayOk xs R) (hs : ∀ y ∈ drs, y ∈ xs) (hl : days.length = drs.length) : (xs.map (cf days drs)).sum = 0 := by
  have e : (xs.map (cf days drs)).sum = (xs.map fun x => 840 * (drs.count x : Int) + (-1) * (days.map (fare x)).sum).sum := sum_congr fun x _ => by
    unfold cf
    omega
  rw [e, sum_add, sum_mul, sum_cnt ox.nd hs, sum_mul, sum_fares ox hd, hl]
  omega
theorem fare_small {xs R : List Str} (dy : DayOk xs R) (h8 : xs.length ≤ 8) (x : Str) : 0 ≤ fare x R ∧ fare x R ≤ 840 := by
  have rpos : 0 < R.length := List.length_pos_iff.mpr dy.ne
  have rl := dy.ln
  unfold fare
  split
  · rcases (show R.length = 1 ∨ R.length = 2 ∨ R.length = 3 ∨ R.length = 4 ∨ R.length = 5 ∨ R.length = 6 ∨ R.length = 7 ∨ R.length = 8 by omega) with e | e | e | e | e | e | e | e <;> rw [e] <;> decide
  · omega
theorem cf_small {xs : List Str} (h8 : xs.length ≤ 8) : ∀ {days : List (List Str)} {drs : List Str}, (∀ R ∈ days, DayOk xs R) → ∀ x, (cf days drs x).natAbs ≤ 840 * (days.length + drs.length) := by
  intro days drs h x
  have e : ∀ {days : List (List Str)}, (∀ R ∈ days, DayOk xs R) → 0 ≤ (days.map (fare x)).sum ∧ (days.map (fare x)).sum ≤ 840 * (days.length : Int) := by
    intro days
    induction days with
    | nil => intro _; simp
    | cons R days ih =>
      intro h
      have := ih fun z hz => h z (List.mem_cons_of_mem _ hz)
      have := fare_small (h R List.mem_cons_self) h8 x
      simp only [List.map_cons, List.sum_cons, List.length_cons]
      push_cast
      omega
  have := e h
  have := List.count_le_length (a := x) (l := drs)
  unfold cf
  omega
theorem rt_sum (c : Str → Int) : ∀ xs : List Str, sumR (xs.map fun x => rt (c x)) = rt ((xs.map c).sum)
  | [] => by
    show (0 : Rat) = Rat.divInt 0 840
    rw [Rat.zero_divInt]
  | x :: xs => by
    rw [List.map_cons, sumR_cons, rt_sum c xs, List.map_cons, List.sum_cons]
    unfold rt
    rw [Rat.divInt_add_divInt _ _ (by decide) (by decide)]
    exact (Rat.divInt_eq_divInt_iff (by decide) (by decide)).mpr (by rw [← Int.add_mul]; rw [Int.mul_assoc])
end K60
set_option Elab.async false
set_option linter.all false
set_option maxRecDepth 100000
set_option maxHeartbeats 4000000
/-! KB: what a call by keywords binds, for a def without keyword-only parameters. -/
namespace KW
open PySem PySem.Spec PyProof.Rows L2
section
variable {K : PySem.W.Frag} {x qual : Str} {params : Arguments} {body : List Stmt} {scope : Scope} {dvs : List V} {kws : List (Str × V)} {f : Addr} {fd : FuncData} {ps : List Str}
theorem kb1 (F : FunD K x qual params body scope dvs kws f fd) (n : Nat) (ks : List Str) (g : {α : Type} → List α → List α → List α → List α) (hd : dvs ≠ [])
    (hrel : ∀ {vs ds zs : List V} {us its ws : List Value}, Vals vs us → Vals ds its → Vals zs ws → Vals (g vs ds zs) (g us its ws))
    (h : ∀ (T : Addr) (kV doc pm : Value) (an : Option Addr) (cdv ct : Value) (us its ws : List Value), us.length = n → its.length = dvs.length → ws.length = ks.length →
      ∃ k, bindArgs (PySem.W.fnOf x qual params body scope (.ref T) kV doc pm an cdv ct) ⟨us, ks.zip ws⟩ = seqItems? (.ref T) >>= k ∧ k (some its.toArray) = pure (ps.zip (g us its ws))) :
    ∃ its : List Value, KBn K fd ps n ks (fun us ws => g us its ws) (fun vs zs => g vs dvs zs) := by
  obtain ⟨oc, od, dV, kV, doc, pm, an, cdv, ct, osl, rfl, lk, hcd, hD, hK⟩ := F.ex
  rcases hD with ⟨e, _⟩ | ⟨_, T, o, its, m, rfl, lT, oT, rT⟩
  · exact absurd e hd
  · refine ⟨its, ⟨fun s us ws X l1 l2 => ?_, fun r1 r2 => hrel r1 rT r2⟩⟩
    obtain ⟨k, e1, e2⟩ := h T kV doc pm an cdv ct us its ws l1 rT.length.symm l2
    refine BindsTo.of_looks fun M => ?_
    rw [e1]
    exact looks_items X lT oT (.of_pure e2)
theorem kb0 (F : FunD K x qual params body scope [] kws f fd) (n : Nat) (ks : List Str) (g : {α : Type} → List α → List α → List α)
    (hrel : ∀ {vs zs : List V} {us ws : List Value}, Vals vs us → Vals zs ws → Vals (g vs zs) (g us ws))
    (h : ∀ (kV doc pm : Value) (an : Option Addr) (cdv ct : Value) (us ws : List Value), us.length = n → ws.length = ks.length →
      bindArgs (PySem.W.fnOf x qual params body scope .none kV doc pm an cdv ct) ⟨us, ks.zip ws⟩ = pure (ps.zip (g us ws))) :
    KBn K fd ps n ks (fun us ws => g us ws) (fun vs zs => g vs zs) := by
  obtain ⟨oc, od, dV, kV, doc, pm, an, cdv, ct, osl, rfl, lk, hcd, hD, hK⟩ := F.ex
  rcases hD with ⟨_, rfl⟩ | ⟨e, _⟩
  · exact ⟨fun s us ws X l1 l2 => .of_eq (h kV doc pm an cdv ct us ws l1 l2), fun r1 r2 => hrel r1 r2⟩
  · exact absurd rfl e
end
end KW
set_option Elab.async false
set_option linter.all false
set_option maxRecDepth 100000
set_option maxHeartbeats 4000000
namespace K60
open PySem PySem.Spec PyProof.Rows L2
open C8 (Cal Mak Met pe_c pe_mk pe_mt pe_mt0)
open LamX (Tabs ExtN TabB)
open SX (S)
theorem at3 {a b c : V} {r : Int} (h0 : 0 ≤ r) (h1 : r < 3) : ∃ v, atI [a, b, c] r = some v ∧ (v = a ∨ v = b ∨ v = c) := by
  rcases (show r = 0 ∨ r = 1 ∨ r = 2 by omega) with rfl | rfl | rfl
  · exact ⟨a, rfl, .inl rfl⟩
  · exact ⟨b, rfl, .inr (.inl rfl)⟩
  · exact ⟨c, rfl, .inr (.inr rfl)⟩
section
variable {P : Program} {w : World} {K : PySem.W.Frag} {mg : Str → Option Value} {base : Heap} {f C CT : Addr} {fd : FuncData}
def spRl : Sp := fun vs H Q _ => ∃ (h ot : Addr) (c : Nat) (xs : List Str), vs = [.ref h, .ref ot] ∧ Held H h (c + 4) ∧ H ot = some (.tup (xs.map V.str)) ∧ Ord xs ∧
  ∀ (r : Addr) (wd : Word) (H' : Hp), Held H' h c → Kp h H H' → Rule3 H' r ot xs wd → Q (.ref r) H'
theorem ok_rl (F : Dn K d_l_rule f fd) (cD : CalD P w K mg base) : FnOk P w K mg base CX0 2 f fd ["_law_held_here", "_law_order"] spRl := by
  refine F.ok sc_l_rule (fun vs H Q E h => ?_) (fun cdv A outer s H vs Q E hr h => ?_)
  · obtain ⟨h, ot, c, xs, rfl, _⟩ := h
    rfl
  · obtain ⟨h, ot, c, xs, rfl, held, hot, ox, hQ⟩ := h
    refine ⟨_, PSs.nox (pss_cons (ps_set (i := 2) sc_l_rule.nd rfl (.inl rfl) (pe_ix ix_list (pe_lst (pa_cons pe_int (pa_cons (pe_op op_add pe_int (pe_c cD hr (by decide) rfl (pa_cons (pv 0) (pa_cons pe_int pa_nil)))) (pa_cons (pe_op op_add pe_int (pe_c cD hr (by decide) rfl (pa_cons (pv 0) (pa_cons pe_int pa_nil)))) pa_nil)))) (pe_c cD hr (by decide) rfl (pa_cons (pv 0) (pa_cons pe_int pa_nil))) (fun _ _ => rfl)))
      (pss_one (ps_ret (pe_ix ix_list (pe_lst (pa_cons (pe_tup (pa_cons pe_str (pa_cons (pv 1) (pa_cons (pv 2) pa_nil)))) (pa_cons (pe_tup (pa_cons pe_str (pa_cons (pv 1) pa_nil))) (pa_cons (pe_tup (pa_cons pe_str (pa_cons (pv 1) pa_nil))) pa_nil)))) (pe_c cD hr (by decide) rfl (pa_cons (pv 0) (pa_cons pe_int pa_nil))) (fun _ _ => rfl))))), ?_⟩
    refine ⟨_, rfl, h, c + 3, 12, rfl, held, by decide, by decide, fun p1 H1 p10 p11 held1 k1 => ?_⟩
    refine ⟨_, _, rfl, rfl, _, rfl, h, c + 2, 1000, rfl, held1, by decide, by decide, fun p2 H2 p20 p21 held2 k2 => ?_⟩
    refine ⟨_, _, rfl, rfl, by show 3 ≤ sizeLine; decide, fun u fu => ?_⟩
    have su := same_new (o := .lst [.int 0, .int (1 + p1), .int (1 + p2)]) fu
    refine ⟨_, rfl, h, c + 1, 3, rfl, held2.same su, by decide, by decide, fun r H3 r0 r1 held3 k3 => ?_⟩
    have hu3 : H3 u = some (.lst [.int 0, .int (1 + p1), .int (1 + p2)]) := k3.1 u _ upd_same (held2.ne_new fu)
    obtain ⟨v, hv, hv3⟩ := at3 (a := .int 0) (b := .int (1 + p1)) (c := .int (1 + p2)) r0 r1
    obtain ⟨g, rfl, g0, g1⟩ : ∃ x : Int, v = .int x ∧ 0 ≤ x ∧ x ≤ 1000 := by
      rcases hv3 with rfl | rfl | rfl
      · exact ⟨_, rfl, by decide, by decide⟩
      · exact ⟨_, rfl, by omega, by omega⟩
      · exact ⟨_, rfl, by omega, by omega⟩
    have k03 : Kp h H H3 := ((k1.trans k2).trans (Kp.same su)).trans k3
    refine ⟨u, _, _, _, rfl, rfl, SqL.of hu3, hv, ?_⟩
    refine ⟨_, rfl, _, rfl, by show 3 ≤ sizeLine; decide, fun t1 f1 => ⟨_, rfl, by show 2 ≤ sizeLine; decide, fun t2 f2 => ⟨_, rfl, by show 2 ≤ sizeLine; decide, fun t3 f3 => ⟨by show 3 ≤ sizeLine; decide, fun l fl => ?_⟩⟩⟩⟩
    have s1 := same_new (o := .tup [.str "least", .ref ot, .int g]) f1
    have s2 := same_new (o := .tup [.str "longest", .ref ot]) f2
    have s3 := same_new (o := .tup [.str "rounds", .ref ot]) f3
    have sl := same_new (o := .lst [.ref t1, .ref t2, .ref t3]) fl
    have s4 := ((s1.trans s2).trans s3).trans sl
    refine ⟨_, rfl, h, c, 3, rfl, held3.same s4, by decide, by decide, fun q H4 q0 q1 held4 k4 => ?_⟩
    have up : ∀ {a : Addr} {o : HO}, (upd (upd (upd (upd H3 t1 (.tup [.str "least", .ref ot, .int g])) t2 (.tup [.str "longest", .ref ot])) t3 (.tup [.str "rounds", .ref ot])) l (.lst [.ref t1, .ref t2, .ref t3])) a = some o → a ≠ h → H4 a = some o := fun e n => k4.1 _ _ e n
    have hl4 := up upd_same ((held3.same ((s1.trans s2).trans s3)).ne_new fl)
    have h14 : H4 t1 = some (.tup [.str "least", .ref ot, .int g]) := up (sl _ _ (s3 _ _ (s2 _ _ upd_same))) (held3.ne_new f1)
    have h24 : H4 t2 = some (.tup [.str "longest", .ref ot]) := up (sl _ _ (s3 _ _ upd_same)) ((held3.same s1).ne_new f2)
    have h34 : H4 t3 = some (.tup [.str "rounds", .ref ot]) := up (sl _ _ upd_same) ((held3.same (s1.trans s2)).ne_new f3)
    have k04 : Kp h H H4 := (k03.trans (Kp.same s4)).trans k4
    have hot4 := k04.tupS (K := K) held hot
    obtain ⟨v, hv, hv3⟩ := at3 (a := .ref t1) (b := .ref t2) (c := .ref t3) q0 q1
    refine ⟨l, _, _, _, rfl, rfl, SqL.of hl4, hv, ?_⟩
    rcases hv3 with rfl | rfl | rfl
    · exact hQ t1 (.least g) H4 held4 k04 ⟨h14, hot4, ox, ⟨g0, g1⟩⟩
    · exact hQ t2 .longest H4 held4 k04 ⟨h24, hot4, ox, trivial⟩
    · exact hQ t3 .rounds H4 held4 k04 ⟨h34, hot4, ox, trivial⟩
end
end K60
set_option Elab.async false
set_option linter.all false
set_option maxRecDepth 100000
set_option maxHeartbeats 4000000
/-! OW: ==, !=, str and repr of instances of an own class by its own __eq__, __str__, __repr__. -/
namespace OW
open PySem PySem.Spec PyProof.Rows L2
/-- what is known of a special def of the class: where it stands, that it keeps its promise -/
structure Spc (P : Program) (w : World) (K : PySem.W.Frag) (mg : Str → Option Value) (base : Heap) (k : Nat) (C : Addr) (m : Str) (sp : Sp) : Prop where
  ex : ∃ (f : Addr) (fd : FuncData) (ps : List Str), PySem.W.findIn K (.ref C) m = some (some (.ref f)) ∧ PySem.W.isFn K (.ref f) = true ∧ FnOk P w K mg base CX0 k f fd ps sp ∧ Binds K fd ps []
section
variable {X : Cx} {pins : List (Addr × Obj)} {σ : L2.St} {H : Hp} {s : Shared} {Q : VK} {k : Nat} {C a b : Addr} {sp : Sp}
/-- a def called at any around with room -/
theorem run_at {f : Addr} {fd : FuncData} {ps : List Str} {A : Around} {us : List Value} {vs : List V} {E' : Value → Shared → Prop} (F : FnOk X.prog X.w X.K X.mg X.base CX0 k f fd ps sp) (hb : Binds X.K fd ps []) (hr : Room k A) (I : Inv X pins σ H s)
    (he : Env0 X.prog X.w X.K X.mg X.base A X.stack s H) (r : Vals vs us) (h : sp vs H Q E0) : wpAny (model X.prog X.w) A (call (.ref f) us) (EP X pins σ Q) E' s := by
  have hl : us.length = ps.length := by rw [← r.length]; exact F.len _ _ _ _ h
  have b := hb s us I.kIn (by rw [List.append_nil]; exact hl)
  rw [List.append_nil] at b
  refine wpAny_call (codeAny_mono (F.run A X.stack s H ⟨us, []⟩ us vs Q E0 hr he b r h) fun r s' hq => ?_)
  cases r with
  | error e => exact False.elim hq
  | ok fl =>
    cases fl with
    | ret u => exact I.after hq
    | next => exact False.elim hq
    | brk => exact False.elim hq
    | cont => exact False.elim hq
theorem same_first : PySem.W.notFirst X.K C (.ref C) = true := by
  unfold PySem.W.notFirst
  rw [beq_self_eq_true, Bool.true_or]
/-- x == y, both of the class -/
def rEqO (C : Addr) (sp : Sp) : R2 := fun x y H Q => ∃ a dx fs b dy gs, x = .ref a ∧ y = .ref b ∧ H a = some (.ins C dx fs) ∧ H b = some (.ins C dy gs) ∧ sp [x, y] H (fun v H' => ∃ z, v = .bl z ∧ Q (.bl z) H') E0
def rNeO (C : Addr) (sp : Sp) : R2 := fun x y H Q => ∃ a dx fs b dy gs, x = .ref a ∧ y = .ref b ∧ H a = some (.ins C dx fs) ∧ H b = some (.ins C dy gs) ∧ sp [x, y] H (fun v H' => ∃ z, v = .bl z ∧ Q (.bl (!z)) H') E0
theorem op_eqO (S : Spc X.prog X.w X.K X.mg X.base k C "__eq__" sp) (hr : Room k X.A) : OpR X (compareOp .Eq) (rEqO C sp) := by
  obtain ⟨f, fd, ps, h1, h2, F, hb⟩ := S.ex
  intro pins s σ H x y v u Q I rx ry h
  obtain ⟨a, dx, fs, b, dy, gs, rfl, rfl, ea, eb, q⟩ := h
  cases (show v = Value.ref a from rx)
  cases (show u = Value.ref b from ry)
  obtain ⟨mA, O, _⟩ := ins_get I.hok ea
  obtain ⟨od, J, _⟩ := O.look
  obtain ⟨mB, O', _⟩ := ins_get I.hok eb
  obtain ⟨od', J', _⟩ := O'.look
  obtain ⟨m, hF⟩ := I.fr
  show wpAny _ _ (richCompare .Eq (.ref a) (.ref b)) _ _ _
  refine PySem.W.cmp_K (op := .Eq) (tb := .ref C) hr.units0 hF I.ok.mod.kin J J'.type same_first h1 h2 ?_
  refine wpAny_mono (run_at (E' := X.xe) (vs := [.ref a, .ref b]) F hb hr I I.env0 (.cons rfl (.cons rfl .nil)) q) (fun w s' z => ?_) fun _ _ x => x
  obtain ⟨z', H', I', rz, z, rfl, qz⟩ := z
  cases (show w = Value.bool z from rz)
  exact ⟨.bl z, H', I', rfl, qz⟩
open Builtin in
theorem op_neO (S : Spc X.prog X.w X.K X.mg X.base (k + 1) C "__eq__" sp) (hn : PySem.W.findIn X.K (.ref C) "__ne__" = some (some (.builtin "object.__ne__"))) (hm : PySem.W.mroIn X.K C (.type "object") = some true) (hr : Room (k + 2) X.A) : OpR X (compareOp .NotEq) (rNeO C sp) := by
  obtain ⟨f, fd, ps, h1, h2, F, hb⟩ := S.ex
  intro pins s σ H x y v u Q I rx ry h
  obtain ⟨a, dx, fs, b, dy, gs, rfl, rfl, ea, eb, q⟩ := h
  cases (show v = Value.ref a from rx)
  cases (show u = Value.ref b from ry)
  obtain ⟨mA, O, _⟩ := ins_get I.hok ea
  obtain ⟨od, J, _⟩ := O.look
  obtain ⟨mB, O', _⟩ := ins_get I.hok eb
  obtain ⟨od', J', _⟩ := O'.look
  have KI := I.kIn
  have callEq : wpAny (model X.prog X.w) X.A.in1 (call (.ref f) [.ref a, .ref b]) (fun v s' => ∃ z, v = .bool z ∧ EP X pins σ Q (.bool (!z)) s') X.xe s := by
    refine wpAny_mono (run_at (E' := X.xe) (vs := [.ref a, .ref b]) F hb hr.in1 I I.env0.in1 (.cons rfl (.cons rfl .nil)) q) (fun w s' z => ?_) fun _ _ x => x
    obtain ⟨z', H', I', rz, z, rfl, qz⟩ := z
    exact ⟨z, rz, .bl (!z), H', I', rfl, qz⟩
  have slot := PySem.F.cmp_object.ne
  have sub : PySem.W.Looks (model X.prog X.w) s.heap (isInstance (.ref a) (.type "object")) true := J.type.andThen (PySem.W.looks_mroIn KI hm)
  have uu : X.A.in1.units < cLine := hr.in1.units0
  have body : wpAny (model X.prog X.w) X.A.in1 (Builtin.«object.__ne__» ⟨[.ref a, .ref b], []⟩) (fun fin s' => match fin with | .done f => (match f with | .ret v => EP X pins σ Q v s' ∧ ∃ z, v = .bool z | _ => False) | .again _ => False) X.xe s := by
    unfold Builtin.«object.__ne__»
    repeat (first
      | with_reducible refine wpAny_cRoomFor uu ?_
      | (refine wpAny_bind (m := callSpecialIfBound? (.ref a) (Str.ofString "__eq__") [.ref b]) (PySem.W.ifBound_K KI J h1 h2 (wpAny_mono callEq (fun r s' hr => by
          obtain ⟨z, rfl, hq⟩ := hr
          repeat (first | exact ⟨hq, _, rfl⟩ | exact wpAny_pure ⟨hq, _, rfl⟩ | (refine wpAny_bind (m := truthy (.bool _)) (wpAny_truthy_bool ?_)) | wp_step)) fun _ _ e => e)))
      | wp_step)
  have callNe : wpAny (model X.prog X.w) X.A (call (.builtin "object.__ne__") [.ref a, .ref b]) (fun v s' => EP X pins σ Q v s' ∧ ∃ z, v = .bool z) X.xe s := by
    refine wpAny_call (codeAny_call_builtin slot.plain PySem.F.cmpEntry_ne (PySem.W.check_slot PySem.F.cmpKind_ne PySem.F.cmpSplit_ne sub (PySem.F.cmpArgs_ne _ _) ?_))
    refine wpAny_mono body (fun fin s' z => ?_) fun _ _ x => x
    cases fin with
    | done fl =>
      cases fl with
      | ret v => exact z
      | next => exact z.elim
      | brk => exact z.elim
      | cont => exact z.elim
    | again c => exact z.elim
  show wpAny _ _ (richCompare .NotEq (.ref a) (.ref b)) _ _ _
  unfold richCompare
  simp only [oneThing_ref]
  refine wpAny_holding (wpAny_bind (wpAny_cRoomFor hr.units0 ?_))
  rw [cmpInfo_NotEq]
  dsimp only
  refine wpAny_bind (J.type.here (wpAny_bind (J'.type.here ?_)))
  rw [show (Value.ref C != Value.ref C) = false from by simp]
  simp only [Bool.false_eq_true, if_false]
  refine wpAny_bind (wpAny_pure ?_)
  simp only [Bool.false_eq_true, if_false, tryCompare]
  have fin : wpAny (model X.prog X.w) X.A (call (.builtin "object.__ne__") ([.ref a] ++ [.ref b]) >>= fun v => pure (some v)) (fun r s' => ∃ v, r = some v ∧ EP X pins σ Q v s' ∧ ∃ z, v = .bool z) X.xe s :=
    wpAny_bind (wpAny_mono callNe (fun v s' h' => wpAny_pure ⟨v, rfl, h'⟩) fun _ _ h' => h')
  have bound : wpAny (model X.prog X.w) X.A (callSpecialIfBound? (.ref a) "__ne__" [.ref b]) (fun r s' => ∃ v, r = some v ∧ EP X pins σ Q v s' ∧ ∃ z, v = .bool z) X.xe s := by
    simp only [callSpecialIfBound?, bindSpecialIfBound?]
    refine wpAny_holding (wpAny_bind (wpAny_bind (wpAny_bind (J.type.here ((PySem.W.looks_findIn KI hn).here ?_)))))
    simp only [slot.bind]
    refine wpAny_bind (wpAny_askSetting (wpAny_ite ?_))
    split
    · exact wpAny_bind (wpAny_pure (wpAny_pure fin))
    · exact wpAny_tryCatch (wpAny_bind (wpAny_pure (wpAny_pure fin)))
  refine wpAny_bind (wpAny_bind (wpAny_mono bound (fun r s' z => ?_) fun _ _ h => h))
  obtain ⟨v, rfl, hq, z, rfl⟩ := z
  first | exact wpAny_pure (wpAny_pure hq) | exact wpAny_pure hq
/-- str(x), repr(x) -/
def rStrO (C : Addr) (sp : Sp) : List V → Hp → VK → Prop := fun xs H Q => ∃ a dx fs, xs = [.ref a] ∧ H a = some (.ins C dx fs) ∧ sp [.ref a] H (fun v H' => ∃ z, v = .str z ∧ Q (.str z) H') E0
theorem call_strO (S : Spc X.prog X.w X.K X.mg X.base k C "__str__" sp) (hr : Room (k + 2) X.A) : CallR X (.type "str") (rStrO C sp) := by
  obtain ⟨f, fd, ps, h1, h2, F, hb⟩ := S.ex
  intro pins s σ H xs us Q I r h
  obtain ⟨a, dx, fs, rfl, ea, q⟩ := h
  obtain ⟨u, rfl, ru⟩ := vals1 r
  cases (show u = Value.ref a from ru)
  obtain ⟨mA, O, _⟩ := ins_get I.hok ea
  obtain ⟨od, J, _⟩ := O.look
  refine PySem.W.kso_call hr.in1.in1.units0 I.kIn J h1 h2 ?_
  refine wpAny_mono (run_at (E' := X.xe) (vs := [.ref a]) F hb hr.in1.in1 I I.env0.in1.in1 (.cons rfl .nil) q) (fun w s' z => ?_) fun _ _ x => x
  obtain ⟨z', H', I', rz, z, rfl, qz⟩ := z
  obtain ⟨t, rfl⟩ := rz
  exact ⟨.str z, H', I', ⟨t, rfl⟩, qz⟩
theorem call_reprO (S : Spc X.prog X.w X.K X.mg X.base k C "__repr__" sp) (hr : Room (k + 1) X.A) : CallR X (.builtin "repr") (rStrO C sp) := by
  obtain ⟨f, fd, ps, h1, h2, F, hb⟩ := S.ex
  intro pins s σ H xs us Q I r h
  obtain ⟨a, dx, fs, rfl, ea, q⟩ := h
  obtain ⟨u, rfl, ru⟩ := vals1 r
  cases (show u = Value.ref a from ru)
  obtain ⟨mA, O, _⟩ := ins_get I.hok ea
  obtain ⟨od, J, _⟩ := O.look
  obtain ⟨m, hF⟩ := I.fr
  refine PySem.W.repr_K hr.in1.units0 hF I.ok.mod.kin J h1 h2 ?_
  refine wpAny_mono (run_at (E' := X.xe) (vs := [.ref a]) F hb hr.in1 I I.env0.in1 (.cons rfl .nil) q) (fun w s' z => ?_) fun _ _ x => x
  obtain ⟨z', H', I', rz, z, rfl, qz⟩ := z
  obtain ⟨t, rfl⟩ := rz
  exact ⟨.str z, H', I', ⟨t, rfl⟩, qz⟩
end
end OW
set_option linter.all false
set_option Elab.async false
set_option maxRecDepth 100000
/-! TX: the texts of whole numbers and of fractions, sign by sign. -/
namespace TX
open PySem SX TL NumText
/-- the signs of a whole number -/
def intL (i : Int) : List Nat := if i < 0 then 45 :: numL i.natAbs else numL i.natAbs
theorem tl_int (i : Int) : Str.ofString (toString i) = S (intL i) := by
  by_cases h : i < 0
  · obtain ⟨n, rfl⟩ : ∃ n : Nat, i = -((n + 1 : Nat) : Int) := ⟨i.natAbs - 1, by omega⟩
    have e : toString (-((n + 1 : Nat) : Int)) = "-" ++ toString ((n + 1 : Nat) : Int) := by rfl
    unfold intL
    rw [if_pos h, e]
    have e2 : (-((n + 1 : Nat) : Int)).natAbs = n + 1 := by omega
    rw [e2]
    refine TL.ext_tl ?_
    have e3 : (Str.ofString (toString ((n + 1 : Nat) : Int))).cps.toList = numL (n + 1) := tl_num (n + 1)
    show (Str.ofString ("-" ++ toString ((n + 1 : Nat) : Int))).cps.toList = 45 :: numL (n + 1)
    rw [← e3]
    rw [Str.ofString_eq_toList, Str.ofString_eq_toList, String.toList_append]
    rfl
  · obtain ⟨n, rfl⟩ := Int.eq_ofNat_of_zero_le (by omega : 0 ≤ i)
    unfold intL
    rw [if_neg h]
    exact num_S n
theorem no_minus (n : Nat) : 45 ∉ numL n := numL_free (.inl (by decide))
theorem no_stroke_int (i : Int) : 47 ∉ intL i := by
  unfold intL
  split
  · intro h
    rcases List.mem_cons.mp h with z | z
    · cases z
    · exact numL_free (.inl (by decide)) z
  · exact numL_free (.inl (by decide))
theorem minus_S : (Str.ofString "-") = S [45] := by decide +kernel
theorem stroke_S : (Str.ofString "/") = S [47] := by decide +kernel
theorem one_S : (Str.ofString "1") = S [49] := by decide +kernel
theorem zero_S : (Str.ofString "0") = S [48] := by decide +kernel
theorem empty_S : (Str.ofString "") = S [] := by decide +kernel
theorem rp_cons (l : List Nat) : Txt.removeprefix (S (45 :: l)) (S [45]) = S l := by
  rw [StrLaws.removeprefix_eq, StrLaws.subAt_eq]
  have h1 : (decide (0 + (S [45]).length ≤ (S (45 :: l)).length)) = true := by
    rw [S_len, S_len]
    simp
  rw [h1]
  have h2 : (((S (45 :: l)).cps.toList.drop 0).take (S [45]).length == (S [45]).cps.toList) = true := by
    rw [S_len]
    simp
  rw [h2]
  simp only [Bool.and_self, if_true]
  rw [S_len, S_len]
  simp
theorem rp_other {c : Nat} {l : List Nat} (h : c ≠ 45) : Txt.removeprefix (S (c :: l)) (S [45]) = S (c :: l) := by
  rw [StrLaws.removeprefix_eq, StrLaws.subAt_eq]
  have h2 : (((S (c :: l)).cps.toList.drop 0).take (S [45]).length == (S [45]).cps.toList) = false := by
    rw [S_len]
    simp [h]
  rw [h2, Bool.and_false]
  simp
theorem rp_int (i : Int) : Txt.removeprefix (S (intL i)) (S [45]) = S (numL i.natAbs) := by
  unfold intL
  split
  · exact rp_cons _
  · have hne := numL_ne i.natAbs
    have hno := no_minus i.natAbs
    cases hl : numL i.natAbs with
    | nil => exact absurd hl hne
    | cons c l =>
      rw [hl] at hno
      exact rp_other fun z => hno (by rw [z]; exact List.mem_cons_self ..)
theorem intL_len {i : Int} {k : Nat} (hk : 0 < k) (h : i.natAbs < 10 ^ k) : (intL i).length ≤ k + 1 := by
  have := numL_len hk h
  unfold intL
  split
  · rw [List.length_cons]; omega
  · omega
theorem int_int {i : Int} (h : (intL i).length ≤ 4300) : intText? (S (intL i)) = some i := by
  unfold intL at h ⊢
  split
  · rename_i hi
    have e := intText_neg (x := S (45 :: numL i.natAbs)) (cs := numL i.natAbs) rfl (numL_digits _) (numL_ne _) (by rw [S_len]; rw [if_pos hi] at h; exact h)
    rw [e, numL_val]
    congr 1
    omega
  · rename_i hi
    have e := intText_digits (x := S (numL i.natAbs)) (numL_digits _) (numL_ne _) (by rw [S_len]; rw [if_neg hi] at h; exact h)
    rw [e]
    show some ((digitsVal (numL i.natAbs) : Nat) : Int) = some i
    rw [numL_val]
    congr 1
    omega
/-- the text of a fraction -/
def txL (r : Rat) : List Nat := if r.den = 1 then intL r.num else intL r.num ++ (47 :: numL r.den)
theorem numL_head : ∀ n : Nat, 0 < n → ∃ c l, numL n = c :: l ∧ c ≠ 48 := by
  intro n
  induction n using Nat.strongRecOn with
  | _ n ih =>
    intro hn
    by_cases h : n < 10
    · rw [numL_lt h]
      exact ⟨48 + n, [], rfl, by omega⟩
    · rw [numL_step (by omega)]
      obtain ⟨c, l, e, hc⟩ := ih (n / 10) (by omega) (by omega)
      exact ⟨c, l ++ [48 + n % 10], by rw [e]; rfl, hc⟩
theorem numL_zero : numL 0 = [48] := numL_lt (by decide)
theorem part_one (i : Int) : Txt.partition (S (intL i)) (S [47]) = (S (intL i), S [], S []) := partition_none (by simp) (par_head_none (no_stroke_int i))
theorem part_two (i : Int) (l : List Nat) : Txt.partition (S (intL i ++ (47 :: l))) (S [47]) = (S (intL i), S [47], S l) := partition_some (by simp) (par_head (sep := []) l (no_stroke_int i))
theorem numL_pow {n k : Nat} (h : n < 2 ^ k) (hk : 0 < k) : (numL n).length ≤ k := numL_len hk (Nat.lt_of_lt_of_le h (Nat.pow_le_pow_left (by decide) k))
theorem intL_pow {i : Int} {k : Nat} (h : i.natAbs < 2 ^ k) (hk : 0 < k) : (intL i).length ≤ k + 1 := intL_len hk (Nat.lt_of_lt_of_le h (Nat.pow_le_pow_left (by decide) k))
theorem txL_len {r : Rat} {k : Nat} (h : KM.Sz k r) (hk : 0 < k) : (txL r).length ≤ 2 * k + 2 := by
  have h1 := intL_pow h.1 hk
  have h2 := numL_pow h.2 hk
  unfold txL
  split
  · omega
  · rw [List.length_append, List.length_cons]; omega
end TX
set_option Elab.async false
set_option linter.all false
set_option maxRecDepth 100000
set_option maxHeartbeats 4000000
/-! ts.index(x) of a tuple of texts -/
namespace TI
open PySem PySem.Spec PyProof.Rows L2
def rIxOf (K : PySem.W.Frag) : V → List V → Hp → VK → Prop := fun x xs H Q => ∃ (a : Addr) (ys : List Str) (k : Str), x = .ref a ∧ xs = [.str k] ∧ SqT K H a (ys.map V.str) ∧ k ∈ ys ∧ Q (.int (ys.idxOf k : Nat)) H
theorem mt_tindex {X : Cx} : MtR X "tuple.index" (rIxOf X.K) := by
  intro pins s σ H x xs v us Q I rx rxs h
  obtain ⟨a, ys, k, rfl, rfl, hs, hk, q⟩ := h
  cases rx
  obtain ⟨u, rfl, ru⟩ := rxs.one
  obtain ⟨t, rfl⟩ := ru
  obtain ⟨its, rv, it, hlen⟩ := I.tuple hs
  exact PySem.SeqAt.tuple_index_strs (vs := its) it (Vals.strs rv) hk ⟨.int _, H, I.tok _, ⟨_, rfl⟩, q⟩
/-- len of a list or a tuple, where the reading must be named -/
def rLen (K : PySem.W.Frag) : List V → Hp → VK → Prop := fun xs H Q => ∃ (p : Addr) (ys : List V), xs = [V.ref p] ∧ (SqL K H p ys ∨ SqT K H p ys) ∧ Q (V.int (ys.length : Nat)) H
theorem call_lenK {X : Cx} : CallR X (.builtin "len") (rLen X.K) := call_len_seq
end TI
set_option Elab.async false
set_option linter.all false
set_option maxRecDepth 100000
set_option maxHeartbeats 4000000
namespace K60.Q
open PySem PySem.Spec PyProof.Rows L2
open C8 (Cal Mak Met pe_c pe_mk pe_mt pe_mt0)
open KM (pr Sz)
section
variable {P : Program} {w : World} {K : PySem.W.Frag} {mg : Str → Option Value} {base : Heap} {f C CT : Addr} {fd : FuncData}
theorem log_1920 {i : Int} {n : Nat} (h : i.natAbs < 2 ^ n) (h0 : 0 < n) (h9 : n ≤ 1920) : i.natAbs.log2 < 1920 := Nat.lt_of_lt_of_le (PySem.Flt.log2_lt_of h0 h) h9
def spStr (C : Addr) (g : Rat → Str) : Sp := fun vs H Q _ => ∃ (p : Addr) (r : Rat) (n : Nat), vs = [.ref p] ∧ Sh C H p (pr r) ∧ Sz n r ∧ 0 < n ∧ n ≤ 1900 ∧ Q (.str (g r)) H
theorem S_len_le {l : List Nat} {k : Nat} (h : l.length ≤ k) (hk : k ≤ 100000) : (SX.S l).length ≤ sizeLine := by
  rw [SX.S_len]
  exact Nat.le_trans h (Nat.le_trans hk (by decide))
theorem ok_str (F : Dn K d_Share_str f fd) (T : Cl K mg C) : FnOk P w K mg base CX0 1 f fd ["self"] (spStr C fun r => SX.S (TX.txL r)) := by
  refine F.ok sc_Share_str (fun vs H Q E h => ?_) (fun cdv A outer s H vs Q E hr h => ?_)
  · obtain ⟨p, r, n, rfl, _⟩ := h
    rfl
  · obtain ⟨p, r, n, rfl, ⟨dp, hp⟩, sr, n0, n9, hQ⟩ := h
    refine ⟨_, PSs.nox (pss_cons (ps_if (pt_cmpR op_eq (pe_fld (pv 0) rfl) pe_int (nomark _)) (pss_one (ps_ret (pe_joined1 (pe_fmt (pe_fld (pv 0) rfl))))) pss_nil)
      (pss_one (ps_ret (pe_joined (.cons (pe_fmt (pe_fld (pv 0) rfl)) (.cons pe_str (.cons (pe_fmt (pe_fld (pv 0) rfl)) .nil))))))), ?_⟩
    have l1 : (pr r).1.natAbs.log2 < 1920 := log_1920 (bd_of sr).1 n0 (by omega)
    have l2 : (pr r).2.natAbs.log2 < 1920 := log_1920 (bd_of sr).2.2 n0 (by omega)
    refine ⟨_, rfl, p, C, dp, _, _, rfl, hp, T.cl, T.nb, shF_bot _, rfl, _, rfl, ?_⟩
    refine ite2 (fun h1 => ?_) (fun h1 => ?_)
    · have e1 : r.den = 1 := by
        have : (pr r).2 = 1 := V.int.inj (of_decide_eq_true h1)
        have : (r.den : Int) = 1 := this
        omega
      refine ⟨_, rfl, p, C, dp, _, _, rfl, hp, T.cl, T.nt, shF_top _, .inr ⟨_, rfl, l1, ?_⟩⟩
      have e2 : (Str.ofString (toString (pr r).1)) = SX.S (TX.txL r) := by
        rw [TX.tl_int]
        unfold TX.txL
        rw [if_pos e1]
        rfl
      show Q (.str (Str.ofString (toString (pr r).1))) H
      rw [e2]
      exact hQ
    · have e1 : ¬ r.den = 1 := fun z => h1 (by
        have : (pr r).2 = 1 := by show (r.den : Int) = 1; omega
        rw [this]
        rfl)
      have k1 : (TX.intL r.num).length ≤ n + 1 := TX.intL_pow sr.1 n0
      have k2 := TX.numL_pow sr.2 n0
      refine ⟨_, rfl, p, C, dp, _, _, rfl, hp, T.cl, T.nt, shF_top _, .inr ⟨_, rfl, l1, _, rfl, ?_, _, rfl, ?_, _, rfl, p, C, dp, _, _, rfl, hp, T.cl, T.nb, shF_bot _, .inr ⟨_, rfl, l2, _, rfl, ?_, ?_⟩⟩⟩
      · show (Str.empty ++ Str.ofString (toString (pr r).1)).length ≤ sizeLine
        rw [show Str.empty ++ Str.ofString (toString (pr r).1) = SX.S (TX.intL r.num) from by rw [TX.tl_int]; exact SX.S_cat [] _]
        exact S_len_le k1 (by omega)
      · show (Str.empty ++ Str.ofString (toString (pr r).1) ++ Str.ofString "/").length ≤ sizeLine
        rw [show Str.empty ++ Str.ofString (toString (pr r).1) = SX.S (TX.intL r.num) from by rw [TX.tl_int]; exact SX.S_cat [] _, TX.stroke_S, SX.S_cat]
        exact S_len_le (k := n + 2) (by rw [List.length_append]; simp; omega) (by omega)
      · show (Str.empty ++ Str.ofString (toString (pr r).1) ++ Str.ofString "/" ++ Str.ofString (toString (pr r).2)).length ≤ sizeLine
        rw [show Str.empty ++ Str.ofString (toString (pr r).1) = SX.S (TX.intL r.num) from by rw [TX.tl_int]; exact SX.S_cat [] _, TX.stroke_S, SX.S_cat,
          show Str.ofString (toString (pr r).2) = SX.S (TL.numL r.den) from SX.num_S r.den, SX.S_cat]
        exact S_len_le (k := n + 2 + n) (by rw [List.length_append, List.length_append]; simp; omega) (by omega)
      · show Q (.str (Str.empty ++ Str.ofString (toString (pr r).1) ++ Str.ofString "/" ++ Str.ofString (toString (pr r).2))) H
        rw [show Str.empty ++ Str.ofString (toString (pr r).1) = SX.S (TX.intL r.num) from by rw [TX.tl_int]; exact SX.S_cat [] _, TX.stroke_S, SX.S_cat,
          show Str.ofString (toString (pr r).2) = SX.S (TL.numL r.den) from SX.num_S r.den, SX.S_cat,
          show TX.intL r.num ++ [47] ++ TL.numL r.den = TX.txL r from by unfold TX.txL; rw [if_neg e1]; simp]
        exact hQ
/-- the text that repr tells -/
def rpS (r : Rat) : Str := Str.empty ++ Str.ofString "Share(" ++ Str.ofString (toString (pr r).1) ++ Str.ofString ", " ++ Str.ofString (toString (pr r).2) ++ Str.ofString ")"
theorem ok_repr (F : Dn K d_Share_repr f fd) (T : Cl K mg C) : FnOk P w K mg base CX0 1 f fd ["self"] (spStr C rpS) := by
  refine F.ok sc_Share_repr (fun vs H Q E h => ?_) (fun cdv A outer s H vs Q E hr h => ?_)
  · obtain ⟨p, r, n, rfl, _⟩ := h
    rfl
  · obtain ⟨p, r, n, rfl, ⟨dp, hp⟩, sr, n0, n9, hQ⟩ := h
    refine ⟨_, PSs.nox (pss_one (ps_ret (pe_joined (.cons pe_str (.cons (pe_fmt (pe_fld (pv 0) rfl)) (.cons pe_str (.cons (pe_fmt (pe_fld (pv 0) rfl)) (.cons pe_str .nil)))))))), ?_⟩
    have l1 : (pr r).1.natAbs.log2 < 1920 := log_1920 (bd_of sr).1 n0 (by omega)
    have l2 : (pr r).2.natAbs.log2 < 1920 := log_1920 (bd_of sr).2.2 n0 (by omega)
    have k1 : (TX.intL r.num).length ≤ n + 1 := TX.intL_pow sr.1 n0
    have k2 := TX.numL_pow sr.2 n0
    have t1 : Str.ofString (toString (pr r).1) = SX.S (TX.intL r.num) := TX.tl_int r.num
    have t2 : Str.ofString (toString (pr r).2) = SX.S (TL.numL r.den) := SX.num_S r.den
    have c1 : Str.empty ++ Str.ofString "Share(" = SX.S [83, 104, 97, 114, 101, 40] := by decide +kernel
    have c2 : Str.ofString ", " = SX.S [44, 32] := by decide +kernel
    have c3 : Str.ofString ")" = SX.S [41] := by decide +kernel
    refine ⟨_, rfl, ?_, _, rfl, p, C, dp, _, _, rfl, hp, T.cl, T.nt, shF_top _, .inr ⟨_, rfl, l1, _, rfl, ?_, _, rfl, ?_, _, rfl, p, C, dp, _, _, rfl, hp, T.cl, T.nb, shF_bot _, .inr ⟨_, rfl, l2, _, rfl, ?_, _, rfl, ?_, hQ⟩⟩⟩
    · show (Str.empty ++ Str.ofString "Share(").length ≤ sizeLine
      rw [c1]
      exact S_len_le (k := 6) (by decide) (by decide)
    · show (Str.empty ++ Str.ofString "Share(" ++ Str.ofString (toString (pr r).1)).length ≤ sizeLine
      rw [c1, t1, SX.S_cat]
      exact S_len_le (k := n + 7) (by rw [List.length_append]; simp; omega) (by omega)
    · show (Str.empty ++ Str.ofString "Share(" ++ Str.ofString (toString (pr r).1) ++ Str.ofString ", ").length ≤ sizeLine
      rw [c1, t1, c2, SX.S_cat, SX.S_cat]
      exact S_len_le (k := n + 9) (by rw [List.length_append, List.length_append]; simp; omega) (by omega)
    · show (Str.empty ++ Str.ofString "Share(" ++ Str.ofString (toString (pr r).1) ++ Str.ofString ", " ++ Str.ofString (toString (pr r).2)).length ≤ sizeLine
      rw [c1, t1, c2, t2, SX.S_cat, SX.S_cat, SX.S_cat]
      exact S_len_le (k := n + 9 + n) (by rw [List.length_append, List.length_append, List.length_append]; simp; omega) (by omega)
    · show (Str.empty ++ Str.ofString "Share(" ++ Str.ofString (toString (pr r).1) ++ Str.ofString ", " ++ Str.ofString (toString (pr r).2) ++ Str.ofString ")").length ≤ sizeLine
      rw [c1, t1, c2, t2, c3, SX.S_cat, SX.S_cat, SX.S_cat, SX.S_cat]
      exact S_len_le (k := n + 10 + n) (by rw [List.length_append, List.length_append, List.length_append, List.length_append]; simp; omega) (by omega)
end
end K60.Q
set_option Elab.async false
set_option linter.all false
set_option maxRecDepth 100000
set_option maxHeartbeats 4000000
/-! GL: promises of defs that are asked only where no repr is under way (A.guards = some []); what such a def may do more: repr of lists and tuples. -/
namespace GL
open PySem PySem.Spec PyProof.Rows L2
/-- a def's promise, where no repr is under way -/
structure FnG (P : Program) (w : World) (K : PySem.W.Frag) (mg : Str → Option Value) (base : Heap) (k : Nat) (f : Addr) (fd : FuncData) (ps : List Str) (sp : Sp) : Prop where
  len : ∀ vs H Q E, sp vs H Q E → vs.length = ps.length
  run : ∀ (A : Around) (outer : List Env) (s : Shared) (H : Hp) (args : Args) (us : List Value) (vs : List V) (Q : VK) (E : XK), A.guards = some [] → Room k A → Env0 P w K mg base A outer s H → BindsTo s fd args (ps.zip us) → Vals vs us → sp vs H Q E →
    codeAny (model P w) A (.call (.ref f) args) (CR CX0 outer P w H s Q E) s
section
variable {P : Program} {w : World} {K : PySem.W.Frag} {mg : Str → Option Value} {base : Heap} {k : Nat} {f : Addr} {fd : FuncData} {ps : List Str} {sp : Sp}
theorem FnG.of (F : FnOk P w K mg base CX0 k f fd ps sp) : FnG P w K mg base k f fd ps sp := ⟨F.len, fun A outer s H args us vs Q E _ => F.run A outer s H args us vs Q E⟩
/-- by its body -/
theorem okG {x qual : Str} {params : Arguments} {body : List Stmt} {scope : Scope} {dvs : List V} {kws : List (Str × V)} {N : List Str} (F : FunD K x qual params body scope dvs kws f fd) (S : FnScope N ps scope) (len : ∀ vs H Q E, sp vs H Q E → vs.length = ps.length)
    (hbody : ∀ (cdv : Value) (A : Around) (outer : List Env) (s : Shared) (H : Hp) (vs : List V) (Q : VK) (E : XK), A.guards = some [] → Room k (A.deeper (envOfC qual scope s.heap.objs.size f cdv)) → sp vs H Q E →
      ∃ t, PSs (cxOf CX0 P w K mg base N qual scope f cdv A outer s H E) body t ∧ t { nx := fun _ H' => Q .non H', rt := Q } (start N vs) H) : FnG P w K mg base (k + 1) f fd ps sp := by
  refine ⟨len, fun A outer s H args us vs Q E hg hr e0 hb r hsp => ?_⟩
  obtain ⟨oc, od, dV, kV, doc, pm, an, cdv, ct, osl, hfd, lk, hcd, _, _⟩ := F.ex
  subst hfd
  obtain ⟨t, ht, hq⟩ := hbody cdv A outer s H vs Q E hg (hr.deeper _) hsp
  have keep : ∀ b o, base.get? b = some o → s.heap.get? b = some o := fun b o e => (e0.bs b o e).1
  have KX : K.In s.heap := e0.mod.kin.keeps keep
  refine codeAny_call_function hr.depth (KX _ _ lk) rfl S.co S.gen rfl (PySem.W.codeRec_of KX hcd) (hb _ _ _ _ (wpAny_newFunctionEnv_cells S.kind (fun y hy => ?_) fun env he s1 x => ?_))
  · exact (S.par y.1 (List.of_mem_zip hy).1).imp id fun q => ⟨q, PySem.W.cellsFrom_some _ _ _ (.inl q)⟩
  · subst he
    refine ⟨(e0.mod.nolimit.keeps keep).keeps x.toInCall.keep, codeAny_func (wpAny_mono (ht.run [] s1 (start N vs) H _ (inv_start S hr.hd e0 (len _ _ _ _ hsp) r x) hq) (fun fl s' hs => ?_) fun e s' hs => hs)⟩
    match fl, hs with
    | .ret u, ⟨v, σ', H', J, rv, q⟩ => exact ⟨v, H', J.os, J.bare, J.base, J.hok, rv, q⟩
    | .next, ⟨σ', H', J, q⟩ => exact ⟨.non, H', J.os, J.bare, J.base, J.hok, rfl, q⟩
    | .brk, ⟨_, _, _, q⟩ => exact q.elim
    | .cont, ⟨_, _, _, q⟩ => exact q.elim
end
/-- the package of a def of this kind -/
structure CalG (P : Program) (w : World) (K : PySem.W.Frag) (mg : Str → Option Value) (base : Heap) (k : Nat) (x : Str) (sp : Sp) (dvs : List V) : Prop where
  ex : ∃ (f : Addr) (fd : FuncData) (ps : List Str) (ds : List Value), FnG P w K mg base k f fd ps sp ∧ mg x = some (.ref f) ∧ PySem.W.keepIn K (.ref f) = true ∧ Binds K fd ps ds ∧ Vals dvs ds
section
variable {X : Cx} {k j : Nat} {x : Str} {sp : Sp} {dvs : List V} {e : Expr} {es : List Expr} {t : TA} {p pos : Pos}
theorem pe_cG (c : CalG X.prog X.w X.K X.mg X.base k x sp dvs) (hgd : X.A.guards = some []) (hr : Room j X.A) (hk : k ≤ j) (hg : Gl X x) (ha : PA X (e :: es) t)
    (hdb : (x == ("__debug__" : Str)) = false := by decide) (he : starEach (e :: es) X.env = (false, eval e X.env) :: starEach es X.env := by rfl) (hpl : (backTo pos (starEach es X.env)).any (·.1) = false := by rfl) :
    PE X (.Call (.Name x p) (e :: es) [] pos) (tCall sp dvs E0 t) := by
  obtain ⟨f, fd, ps, ds, F, hm, kp, b, d⟩ := c.ex
  refine ⟨fun pins s σ H Q I h => wpAny_Call_Name_kw (ld_glob I hg hm (PySem.W.callWith_K (h₀ := X.base) I.ok.mod.kin kp (thn (ha.run pos pins s σ H _ I h) fun us s1 ⟨vs, H1, I1, r, q⟩ => ⟨I1.kIn, ?_⟩) he hpl) hdb)⟩
  have r2 := r.append d
  refine wpAny_call (codeAny_mono (F.run X.A X.stack s1 H1 ⟨us, []⟩ (us ++ ds) (vs ++ dvs) Q E0 hgd (hr.mono hk) I1.env0 (b s1 us I1.kIn (r2.length.symm.trans (F.len _ _ _ _ q))) r2 q) fun r s' hq => ?_)
  match r, hq with
  | .error _, hq => exact hq.elim
  | .ok (.ret u), hq => exact I1.after hq
  | .ok .next, hq => exact hq.elim
  | .ok .brk, hq => exact hq.elim
  | .ok .cont, hq => exact hq.elim
/-- repr of what is flat, of lists and tuples -/
def rRepr (K : PySem.W.Frag) : List V → Hp → VK → Prop := fun xs H Q => ∃ (y : V) (d : PyData), xs = [y] ∧ Dp K H y d ∧ d.showable = true ∧ d.hasDict = false ∧ d.depth ≤ 60 ∧ d.shown.length ≤ sizeLine ∧ Q (.str d.shown) H
theorem call_reprD (hgd : X.A.guards = some []) (hu : X.A.units + 64 < cLine) : CallR X (.builtin "repr") (rRepr X.K) := by
  intro pins s σ H xs us Q I r h
  obtain ⟨y, d, rfl, hd, hs, hn, hdp, hsz, q⟩ := h
  obtain ⟨u, rfl, ru⟩ := r.one
  obtain ⟨as, rd⟩ := Dp.reads I d y u hd ru
  have fin : ∀ h' tk t, (∀ b o, s.heap.get? b = some o → h'.get? b = some o) → EP X pins σ Q (.str d.shown t) { s with heap := h', toks := tk } := fun h' tk t hk => ⟨.str d.shown, H, I.kept hk, ⟨t, rfl⟩, q⟩
  cases hd with
  | non => cases ru; exact PySem.P.repr_of_none (fin s.heap _ _ fun _ _ e => e)
  | bl b => cases ru; exact PySem.P.repr_of_bool (fin s.heap _ _ fun _ _ e => e)
  | int i =>
    obtain ⟨t, rfl⟩ := ru
    exact PySem.P.repr_of_int (of_decide_eq_true hs) (fin s.heap _ _ fun _ _ e => e)
  | str z =>
    obtain ⟨t, rfl⟩ := ru
    exact PySem.P.repr_of_str (fin s.heap _ _ fun _ _ e => e) hsz
  | lst _ _ =>
    cases ru
    exact repr_of_reads' rd hs (fun z => absurd z (by rw [hn]; decide)) hgd (by omega) (fun _ _ e => e) (fun h' u tk hk => fin h' tk u hk) hsz
  | tup _ _ =>
    cases ru
    exact repr_of_reads' rd hs (fun z => absurd z (by rw [hn]; decide)) hgd (by omega) (fun _ _ e => e) (fun h' u tk hk => fin h' tk u hk) hsz
end
end GL
set_option Elab.async false
set_option linter.all false
set_option maxRecDepth 100000
set_option maxHeartbeats 4000000
/-! RPO: repr of lists, tuples and dicts that hold own instances, of any depth. -/
namespace RPO
open PySem PySem.Spec PyProof.Rows L2
open Builtin Builtin.List
/-- the guards stand on these alone -/
def Gd (g : List Code) (outs : List Addr) : Prop := ∀ id v rest kw, Code.builtin id ⟨v :: rest, kw⟩ ∈ g → ∃ a ∈ outs, v = .ref a
theorem Gd.nil : Gd [] [] := fun _ _ _ _ h => nomatch h
theorem Gd.cons {g : List Code} {outs : List Addr} {id : String} {a : Addr} {rest : List Value} {kw : List (Str × Value)} (h : Gd g outs) : Gd (.builtin id ⟨.ref a :: rest, kw⟩ :: g) (a :: outs) := by
  intro id' v rest' kw' hm
  rcases List.mem_cons.mp hm with e | hm
  · cases e
    exact ⟨a, List.mem_cons_self, rfl⟩
  · obtain ⟨b, hb, e⟩ := h _ _ _ _ hm
    exact ⟨b, List.mem_cons_of_mem _ hb, e⟩
theorem Gd.clear {g : List Code} {outs : List Addr} {a : Addr} (h : Gd g outs) (n : a ∉ outs) : Clear g a := fun id v rest kw hm e => by
  obtain ⟨b, hb, e2⟩ := h id v rest kw hm
  rw [e] at e2
  cases e2
  exact n hb
/-- all but these are as they were -/
def Ex (outs : List Addr) (H H' : Hp) : Prop := ∀ a o, H a = some o → a ∉ outs → H' a = some o
theorem Ex.refl (outs : List Addr) (H : Hp) : Ex outs H H := fun _ _ h _ => h
theorem Ex.ext {outs : List Addr} {H H1 H2 : Hp} (x : Ex outs H H1) (e : Ext H1 H2) : Ex outs H H2 := fun a o h n => e a o (x a o h n)
theorem Ex.more {outs : List Addr} {H H1 : Hp} {a : Addr} (x : Ex outs H H1) : Ex (a :: outs) H H1 := fun b o h n => x b o h fun z => n (List.mem_cons_of_mem _ z)
section
variable {X : Cx}
/-- what a thing shows as, within containers at outs -/
def RpU (X : Cx) (n : Nat) (outs : List Addr) (H0 : Hp) (v : V) (t : Str) : Prop := ∀ (A : Around) (g : List Code) (pins : List (Addr × Obj)) (s : Shared) (σ : L2.St) (H : Hp) (u : Value) (bs : Nat),
  Ex outs H0 H → Sub X n A → A.guards = some g → Gd g outs → Inv X pins σ H s → RelV v u → bs + t.length ≤ sizeLine →
  wpAny (model X.prog X.w) A (pyReprUnder bs u) (fun r s' => r = t ∧ ∃ H', Inv X pins σ H' s' ∧ Ext H H') X.xe s
theorem RpU.mono {n m : Nat} {outs : List Addr} {H0 : Hp} {v : V} {t : Str} (h : RpU X n outs H0 v t) (nm : n ≤ m) : RpU X m outs H0 v t := fun A g pins s σ H u bs x sb => h A g pins s σ H u bs x (sb.mono nm)
theorem RpU.non {n : Nat} {outs : List Addr} {H0 : Hp} : RpU X n outs H0 .non "None" := fun A g pins s σ H u bs x sb hg gd I r hb => by
  cases r
  exact ReprIs.none bs hb _ _ _ _ fun tk => ⟨rfl, H, I.tok tk, Ext.rfl'⟩
theorem RpU.bl {n : Nat} {outs : List Addr} {H0 : Hp} {b : Bool} : RpU X n outs H0 (.bl b) (if b then "True" else "False") := fun A g pins s σ H u bs x sb hg gd I r hb => by
  cases r
  exact ReprIs.bool b bs hb _ _ _ _ fun tk => ⟨rfl, H, I.tok tk, Ext.rfl'⟩
theorem RpU.int {n : Nat} {outs : List Addr} {H0 : Hp} {i : Int} (h : i.natAbs.log2 < 1920) : RpU X n outs H0 (.int i) (toString i) := fun A g pins s σ H u bs x sb hg gd I r hb => by
  obtain ⟨t, rfl⟩ := r
  exact ReprIs.int t h bs hb _ _ _ _ fun tk => ⟨rfl, H, I.tok tk, Ext.rfl'⟩
theorem RpU.str {n : Nat} {outs : List Addr} {H0 : Hp} {z : Str} : RpU X n outs H0 (.str z) (reprText z) := fun A g pins s σ H u bs x sb hg gd I r hb => by
  obtain ⟨t, rfl⟩ := r
  exact ReprIs.str z t (by omega) bs hb _ _ _ _ fun tk => ⟨rfl, H, I.tok tk, Ext.rfl'⟩
/-- an own instance, by its own __repr__ -/
theorem RpU.own {k n : Nat} {outs : List Addr} {H0 : Hp} {a C dx : Addr} {fs : List (Str × V)} {sp : Sp} {t : Str} (S : OW.Spc X.prog X.w X.K X.mg X.base k C "__repr__" sp) (ha : H0 a = some (.ins C dx fs)) (na : a ∉ outs)
    (hsp : ∀ H, H a = some (.ins C dx fs) → sp [.ref a] H (fun v H' => v = .str t ∧ Ext H H') E0) (kn : k ≤ n) : RpU X n outs H0 (.ref a) t := fun A g pins s σ H u bs x sb hg gd I r hb => by
  obtain ⟨f, fd, ps, h1, h2, F, hbi⟩ := S.ex
  cases (show u = Value.ref a from r)
  have ea := x a _ ha na
  obtain ⟨mA, O, _⟩ := ins_get I.hok ea
  obtain ⟨od, J, _⟩ := O.look
  have KI := I.kIn
  have e0 : Env0 X.prog X.w X.K X.mg X.base A X.stack s H := by
    have z := I.env0
    exact ⟨sb.fr.trans z.frames, z.mod, z.bs, z.bsz, z.funs, z.frf, z.hok, z.bare⟩
  refine wpAny_pyReprUnder_ref (by omega) ?_
  unfold pyReprObjUnder pyReprObjBy
  refine wpAny_bind (wpAny_cRoomFor sb.room.units0 ?_)
  refine wpAny_bind (wpAny_bind (J.type.here ((PySem.W.looks_findIn KI h1).here ?_)))
  show wpAny _ _ (if (some (Value.ref f)).isNone = true then _ else _) _ _ _
  rw [if_neg (by simp)]
  have called : wpAny (model X.prog X.w) A (call (.ref f) [.ref a]) (fun v s' => ∃ tk, v = .str t tk ∧ ∃ H', Inv X pins σ H' s' ∧ Ext H H') X.xe s := by
    refine wpAny_mono (OW.run_at (E' := X.xe) (vs := [.ref a]) F hbi (sb.room.mono kn) I e0 (.cons rfl .nil) (hsp H ea)) (fun w s' z => ?_) fun _ _ x => x
    obtain ⟨z', H', I', rz, z, e⟩ := z
    rw [z] at rz
    obtain ⟨tk, rfl⟩ := rz
    exact ⟨tk, rfl, H', I', e⟩
  refine wpAny_bind (m := callSpecialIfBoundBy? _ (.ref a) (Str.ofString "__repr__")) ?_
  have fin : wpAny (model X.prog X.w) A (callSpecialIfBoundBy? (fun g first => match reprUnder? g, first with | some twin, [self] => call twin [self, rawInt bs] | _, _ => call g (first ++ [])) (.ref a) (Str.ofString "__repr__"))
      (fun r s' => ∃ tk, r = some (.str t tk) ∧ ∃ H', Inv X pins σ H' s' ∧ Ext H H') X.xe s := by
    simp only [callSpecialIfBoundBy?, bindSpecialIfBound?]
    refine wpAny_holding (wpAny_bind (wpAny_bind (wpAny_bind (J.type.here ((PySem.W.looks_findIn KI h1).here ?_)))))
    refine wpAny_bind (wpAny_askSetting (wpAny_ite ?_))
    have ends : wpAny (model X.prog X.w) A (call (.ref f) ([.ref a] ++ []) >>= fun v => pure (some v)) (fun r s' => ∃ tk, r = some (.str t tk) ∧ ∃ H', Inv X pins σ H' s' ∧ Ext H H') X.xe s :=
      wpAny_bind (wpAny_mono called (fun v s' h' => wpAny_pure (by obtain ⟨tk, rfl, h⟩ := h'; exact ⟨tk, rfl, h⟩)) fun _ _ h' => h')
    split
    · exact wpAny_bind ((PySem.W.bind_fn KI _ (beq_iff_eq.mp h2)).here (wpAny_pure (by exact ends)))
    · exact wpAny_tryCatch (wpAny_bind ((PySem.W.bind_fn KI _ (beq_iff_eq.mp h2)).here (wpAny_pure (by exact ends))))
  refine wpAny_mono fin (fun r s' h' => ?_) fun _ _ x => x
  obtain ⟨tk, rfl, h⟩ := h'
  exact wpAny_bind (wpAny_isInstance (T := "str") (b := true) rfl isSubtype_str_str (wpAny_pure ⟨_, _, rfl, rfl, h⟩))
end
end RPO
set_option Elab.async false
set_option linter.all false
set_option maxRecDepth 100000
set_option maxHeartbeats 4000000
/-! RPL: the containers of RPO: lists, tuples, dicts. -/
namespace RPO
open PySem PySem.Spec PyProof.Rows L2
open Builtin Builtin.List
theorem strs_of : ∀ {ts : List Str} {us : List Value}, Vals (ts.map V.str) us → ∃ done : List (Str × Tok), us = strValues done ∧ done.map (·.1) = ts
  | [], _, .nil => ⟨[], rfl, rfl⟩
  | t :: ts, _, .cons r h => by
    obtain ⟨tk, rfl⟩ := r
    obtain ⟨done, rfl, e⟩ := strs_of h
    exact ⟨(t, tk) :: done, rfl, by simp [e]⟩
theorem sub_loop {X : Cx} {n : Nat} {A : Around} {args : Args} (h : Sub X (n + 1) A) : Sub X n (A.under (.builtin "list.__repr__.loop" args)) := by
  have hd : (A.under (.builtin "list.__repr__.loop" args)).depth ≤ A.depth + 1 := by
    first | exact Nat.le_refl _ | simp [Around.under, Code.weight, Code.isCreation, Code.isGuard, Code.isCaller, Code.frames, Code.isFrame, guardIds]
  have hu := units_under_list_loop A args
  have hf : (A.under (.builtin "list.__repr__.loop" args)).frames = A.frames := by
    have e : (Code.builtin "list.__repr__.loop" args).envs = [] := by first | rfl | simp [Code.envs, Code.isFrame]
    have e2 : (A.under (.builtin "list.__repr__.loop" args)).frames = pushEnvs (Code.envs (.builtin "list.__repr__.loop" args)) A.frames := by first | rfl | simp [Around.under]
    rw [e2, e]
    cases A.frames <;> first | rfl | simp [pushEnvs]
  obtain ⟨⟨h1, h2, h3⟩, h4⟩ := h
  exact ⟨⟨h1, by omega, by rw [hu]; omega⟩, hf.trans h4⟩
section
variable {X : Cx} {n : Nat} {outs : List Addr} {H0 : Hp} {a : Addr} {xs : List V} {ts : List Str}
theorem list_loop {A : Around} {g : List Code} {P : Addr} {bs : Nat} {pins : List (Addr × Obj)} {σ : L2.St} {Hb : Hp} {R : Result → Shared → Prop} (sb : Sub X (n + 1) A) (hg : A.guards = some g) (gd : Gd g outs) (ha : Hb a = some (.lst xs)) (hP : Hb P = none) (xe : Ex outs H0 Hb) (hlen : ts.length = xs.length)
    (hT : ∀ (i : Nat) (x : V), xs[i]? = some x → ∃ t, ts[i]? = some t ∧ RpU X n (a :: outs) H0 x t) (hsz : bs + (listText ts).length ≤ sizeLine)
    (hE : ∀ e s', X.xe e s' → R (.error e) s')
    (fin : ∀ (s' : Shared) (H' : Hp) (u : Tok), Inv X pins σ H' s' → Ext Hb H' → R (.ok (.ret (.str (listText ts) u))) s') :
    ∀ (k i : Nat) (s : Shared) (H : Hp), xs.length - i = k → i ≤ xs.length → Inv X pins σ H s → Ext Hb H → H P = some (.lst ((ts.take i).map V.str)) →
      codeAny (model X.prog X.w) A (.builtin "list.__repr__.loop" ⟨[.ref a, rawInt i, .ref P, rawInt ((bs + piled (ts.take i) : Nat) : Int)], []⟩) R s := by
  have hX : (listText ts).length = (textFrom 0 "[" ts).length + 1 := by
    show (textFrom 0 "[" ts ++ "]").length = _
    rw [strLen_append]; rfl
  have hL := textFrom_len ts 0 "["
  have each : ∀ t ∈ ts, t.length ≤ sizeLine := fun t ht => by
    have := hL.2.1 t ht
    omega
  have many : ts.length ≤ sizeLine := by
    have h1 := hL.1
    rw [if_neg (Nat.lt_irrefl 0)] at h1
    omega
  have hp3 := piled_le_listText ts
  have uu : A.in1.units < cLine := by have := sb.room.un; show A.units + 1 < cLine; omega
  intro k
  induction k with
  | zero =>
    intro i s H hk hi I eb hPi
    have hin : i = ts.length := by omega
    obtain ⟨_, its, m, rv, _, e⟩ := I.lstM (eb _ _ ha)
    obtain ⟨_, ups, c, rp, _, ep⟩ := I.lstM hPi
    have nits : its[i]? = none := by
      have := rv.length
      exact List.getElem?_eq_none (by omega)
    refine codeAny_builtin F.entry_list_repr_loop ?_
    show wpAny _ _ («list.__repr__.loop» ⟨[.ref a, .int i 0, .ref P, .int ((bs + piled (ts.take i) : Nat) : Int) 0], []⟩) _ _ s
    rw [repr_loop_tree]
    refine wpAny_bind (wpAny_listItems e rfl ?_)
    have hnone : its.toArray[((i : Int)).toNat]? = none := by simpa using nits
    simp only [hnone]
    unfold reprEnd
    refine wpAny_bind (wpAny_listItems ep rfl ?_)
    obtain ⟨done, rfl, ed⟩ := strs_of rp
    rw [show (strValues done).toArray.toList = strValues done from by simp, repr_fold]
    refine wpAny_bind (wpAny_pure ?_)
    have hall : done.map (·.1) = ts := by rw [ed, hin, List.take_length]
    rw [hall]
    refine wpAny_bind (wpAny_mkStr (wpAny_pure ?_) (by show (listText ts).length ≤ sizeLine; omega))
    exact fin _ H _ (I.tok _) eb
  | succ k ih =>
    intro i s H hk hi I eb hPi
    have hlt : i < xs.length := by omega
    obtain ⟨t, ht, hrep⟩ := hT i xs[i] (List.getElem?_eq_getElem hlt)
    obtain ⟨_, its, m, rv, lv, e⟩ := I.lstM (eb _ _ ha)
    have hlt2 : i < its.length := by omega
    have rvi : RelV xs[i] its[i] := by
      obtain ⟨u, e1, e2⟩ := rv.get (List.getElem?_eq_getElem hlt)
      rw [List.getElem?_eq_getElem hlt2] at e1
      cases e1
      exact e2
    have hp1 := piled_take_succ ht
    have hp2 := piled_take_le ts (i + 1)
    refine codeAny_builtin F.entry_list_repr_loop ?_
    show wpAny _ _ («list.__repr__.loop» ⟨[.ref a, .int i 0, .ref P, .int ((bs + piled (ts.take i) : Nat) : Int) 0], []⟩) _ _ s
    rw [repr_loop_tree]
    refine wpAny_bind (wpAny_listItems e rfl ?_)
    have hsome : its.toArray[((i : Int)).toNat]? = some its[i] := by simp [hlt2]
    simp only [hsome]
    rw [Int.toNat_natCast]
    refine wpAny_bind (wpAny_holding (wpAny_mono (hrep _ _ pins s σ H its[i] (bs + piled (ts.take i) + 1) ((xe.ext eb).more) (sub_loop sb) (guards_under_guard (isGuard_list_loop _) hg) gd.cons I rvi (by omega)) (fun r s2 h2 => ?_) fun e' s' h' => hE e' s' h'))
    obtain ⟨rfl, H2, I2, e2⟩ := h2
    refine wpAny_bind (wpAny_mkStr ?_ (each r (List.mem_of_getElem? ht)))
    have hP2 := e2 _ _ hPi
    obtain ⟨_, ups, c, rp, _, ep⟩ := I2.lstM hP2
    refine wpAny_bind ?_
    show wpAny _ _ (updateSeq P _) _ _ _
    have lp := rp.length
    rw [List.length_map, List.length_take] at lp
    refine wpAny_updateSeq ep rfl (wpAny_pure ⟨F.quiet_list_repr_loop _, ?_⟩) (by rw [List.size_toArray]; omega) (by rw [Array.size_push, List.size_toArray]; omega)
    have e1' : ((i : Int) + 1) = ((i + 1 : Nat) : Int) := by omega
    have e2' : bs + piled (ts.take i) + (r.length + 2) = bs + piled (ts.take (i + 1)) := by omega
    rw [e1', e2']
    have I3 := I2.lset (its' := ups ++ [.str r s2.toks]) (f := fun x => x.push (.str r s2.toks)) (t' := s2.toks + 1) hP2 ep (by simp) (ys := (ts.take (i + 1)).map V.str) (by
      rw [List.take_add_one, ht, List.map_append]
      exact rp.append (.cons ⟨_, rfl⟩ .nil)) (by rw [List.length_map, List.length_take]; omega)
    exact ih (i + 1) _ _ (by omega) hlt I3 (fun b o hb => by
      rw [upd_ne (fun z => by rw [z, hP] at hb; cases hb)]
      exact e2 _ _ (eb _ _ hb)) upd_same
end
end RPO
set_option Elab.async false
set_option linter.all false
set_option maxRecDepth 100000
set_option maxHeartbeats 4000000
namespace RPO
open PySem PySem.Spec PyProof.Rows L2
open Builtin Builtin.List
/-- things one by one -/
inductive RpAll (X : Cx) (n : Nat) (outs : List Addr) (H0 : Hp) : List V → List Str → Prop
  | nil : RpAll X n outs H0 [] []
  | cons {v : V} {t : Str} {vs : List V} {ts : List Str} : RpU X n outs H0 v t → RpAll X n outs H0 vs ts → RpAll X n outs H0 (v :: vs) (t :: ts)
theorem RpAll.len {X : Cx} {n : Nat} {outs : List Addr} {H0 : Hp} : ∀ {vs : List V} {ts : List Str}, RpAll X n outs H0 vs ts → ts.length = vs.length
  | _, _, .nil => rfl
  | _, _, .cons _ h => by rw [List.length_cons, List.length_cons, h.len]
theorem RpAll.get {X : Cx} {n : Nat} {outs : List Addr} {H0 : Hp} : ∀ {vs : List V} {ts : List Str}, RpAll X n outs H0 vs ts → ∀ (i : Nat) (x : V), vs[i]? = some x → ∃ t, ts[i]? = some t ∧ RpU X n outs H0 x t
  | _, _, .nil, _, _, h => by simp at h
  | _, _, .cons r h, 0, _, e => by
    simp at e
    subst e
    exact ⟨_, rfl, r⟩
  | _, _, .cons r h, i + 1, x, e => by
    obtain ⟨t, e1, e2⟩ := h.get i x (by simpa using e)
    exact ⟨t, by simpa using e1, e2⟩
section
variable {X : Cx} {n : Nat} {outs : List Addr} {H0 : Hp} {a : Addr} {xs : List V} {ts : List Str}
/-- what is asked of the end of a text -/
def Told (X : Cx) (pins : List (Addr × Obj)) (σ : L2.St) (H : Hp) (t : Str) (v : Value) (s' : Shared) : Prop := ∃ tk, v = .str t tk ∧ ∃ H', Inv X pins σ H' s' ∧ Ext H H'
theorem list_at {A : Around} {g : List Code} {bs : Nat} {pins : List (Addr × Obj)} {σ : L2.St} {s : Shared} {H : Hp} {Q : Value → Shared → Prop} (sb : Sub X (n + 1) A) (hg : A.guards = some g) (gd : Gd g outs) (I : Inv X pins σ H s) (ha : H a = some (.lst xs)) (na : a ∉ outs) (xe : Ex outs H0 H) (hx : xs ≠ [])
    (hT : RpAll X n (a :: outs) H0 xs ts) (hsz : bs + (listText ts).length ≤ sizeLine) (fin : ∀ v s', Told X pins σ H (listText ts) v s' → Q v s') :
    wpAny (model X.prog X.w) A.in1 (Builtin.listReprAt bs ⟨[.ref a], []⟩) (fun fin s' => match fin with | .done f => callEnd Q X.xe (.ok f) s' | .again c' => c'.quiet = true ∧ codeAny (model X.prog X.w) A c' (callEnd Q X.xe) s') (fun e s' => callEnd Q X.xe (.error e) s') s := by
  obtain ⟨_, its, m, rv, lv, e⟩ := I.lstM ha
  obtain ⟨y, l, rfl⟩ : ∃ y l, its = y :: l := by
    cases its with
    | nil =>
      have : xs.length = 0 := lv
      exact absurd (List.length_eq_zero_iff.mp this) hx
    | cons y l => exact ⟨y, l, rfl⟩
  refine wpAny_list_repr_head (A := A.in1) hg (fun v rest kw hm => listSameRef_of_ne ((gd.clear na) _ _ _ _ hm)) e rfl ?_
  refine wpAny_bind (m := newList []) (wpAny_newObj_type ?_)
  refine wpAny_pure ⟨F.quiet_list_repr_loop _, ?_⟩
  have I1 := I.lnew (its := []) (ys := []) (t' := s.toks) .nil (Nat.zero_le _)
  have hn := I.fresh
  exact list_loop (n := n) (Hb := H) (R := callEnd Q X.xe) sb hg gd ha hn xe hT.len hT.get hsz (fun _ _ h => h) (fun s' H' u I' e' => fin _ _ ⟨u, rfl, H', I', e'⟩) _ 0 _ _ rfl (Nat.zero_le _) I1 (Ext.upd hn) upd_same
theorem RpU.list (ha : H0 a = some (.lst xs)) (na : a ∉ outs) (hx : xs ≠ []) (hT : RpAll X n (a :: outs) H0 xs ts) : RpU X (n + 1) outs H0 (.ref a) (listText ts) := fun A g pins s σ H u bs x sb hg gd I r hb => by
  cases (show u = Value.ref a from r)
  have ea := x a _ ha na
  obtain ⟨_, its, m, rv, lv, e⟩ := I.lstM ea
  refine wpAny_pyReprUnder_ref (by omega) (wpAny_pyReprObjUnder_twin (twin := "list.__repr__.under") ⟨_, e, rfl⟩ F.slot_list_repr.toG rfl sb.room.units0
    (call_twin_plain F.plain_list_repr_under F.entry_list_repr_under F.check_list_repr_under ⟨_, e, rfl⟩ F.slot_list_repr.toG (F.args_list_repr_1 _) (list_at sb hg gd I ea na x hx hT hb fun v s' h => ?_)))
  obtain ⟨tk, rfl, h⟩ := h
  exact ⟨⟨_, _, rfl⟩, _, _, rfl, rfl, h⟩
theorem RpU.list0 (ha : H0 a = some (.lst [])) (na : a ∉ outs) : RpU X n outs H0 (.ref a) "[]" := fun A g pins s σ H u bs x sb hg gd I r hb => by
  cases (show u = Value.ref a from r)
  have ea := x a _ ha na
  obtain ⟨_, its, m, rv, lv, e⟩ := I.lstM ea
  obtain rfl : its = [] := List.length_eq_zero_iff.mp lv.symm
  exact wpAny_pyReprUnder_ref (by omega) (wpAny_pyReprObjUnder_list_empty ⟨_, e, rfl⟩ sb.room.units0 e rfl ⟨_, _, rfl, rfl, H, I.tok _, Ext.rfl'⟩)
theorem tup_fold {A : Around} {g : List Code} {pins : List (Addr × Obj)} {σ : L2.St} {Hb : Hp} {Q : (Array Str × Nat) → Shared → Prop} (sb : Sub X n A) (hg : A.guards = some g) (gd : Gd g (a :: outs)) (xe : Ex outs H0 Hb) :
    ∀ {vs : List V} {ts : List Str}, RpAll X n (a :: outs) H0 vs ts → ∀ (us : List Value) (acc : Array Str) (m : Nat) (s : Shared) (H : Hp), Vals vs us → m + piled ts ≤ sizeLine → Inv X pins σ H s → Ext Hb H →
      (∀ s' H', Inv X pins σ H' s' → Ext Hb H' → Q ⟨acc ++ ts.toArray, m + piled ts⟩ s') → wpAny (model X.prog X.w) A (forIn us (⟨acc, m⟩ : (Array Str × Nat)) tupBody) Q X.xe s := by
  intro vs ts h
  induction h with
  | nil =>
    intro us acc m s H rv hm I eb fin
    cases rv
    have h0 := fin s H I eb
    simp only [List.forIn_nil]
    exact wpAny_pure (by simpa [piled] using h0)
  | @cons v t vs ts hr hl ih =>
    intro us acc m s H rv hm I eb fin
    cases rv with
    | @cons _ u _ us r rv =>
      rw [piled_cons] at hm
      rw [List.forIn_cons]
      refine wpAny_bind (wpAny_bind (wpAny_mono (hr A g pins s σ H u (m + 1) (xe.ext eb).more sb hg gd I r (by omega)) (fun r' s2 h2 => ?_) fun _ _ x => x))
      obtain ⟨rfl, H2, I2, e2⟩ := h2
      refine wpAny_pure ?_
      refine ih us (acc.push r') (m + (r'.length + 2)) s2 H2 rv (by omega) I2 (eb.trans e2) fun s' H' I' e' => ?_
      have h1 := fin s' H' I' e'
      have e : m + piled (r' :: ts) = m + (r'.length + 2) + piled ts := by rw [piled_cons]; omega
      rw [e] at h1
      simpa using h1
theorem tup_at {A : Around} {g : List Code} {bs : Nat} {pins : List (Addr × Obj)} {σ : L2.St} {s : Shared} {H : Hp} {Q : Value → Shared → Prop} {id : String} {rest : List Value} (hcg : (Code.builtin id ⟨.ref a :: rest, []⟩).isGuard = true) (sb : Sub X n (A.under (.builtin id ⟨.ref a :: rest, []⟩)))
    (hg : A.guards = some g) (gd : Gd g outs) (I : Inv X pins σ H s) (ha : H a = some (.tup xs)) (na : a ∉ outs) (xe : Ex outs H0 H) (hT : RpAll X n (a :: outs) H0 xs ts) (hsz : bs + (tupleText ts).length ≤ sizeLine) (fin : ∀ v s', Told X pins σ H (tupleText ts) v s' → Q v s') :
    wpOwn (model X.prog X.w) A (.builtin id ⟨.ref a :: rest, []⟩) (Builtin.tupleReprAt bs ⟨[.ref a], []⟩) (fun fin s' => match fin with | .done f => callEnd Q X.xe (.ok f) s' | .again c' => c'.quiet = true ∧ codeAny (model X.prog X.w) A c' (callEnd Q X.xe) s') (fun e s' => callEnd Q X.xe (.error e) s') s := by
  obtain ⟨its, rv, ⟨o, ho, hc, m, hd⟩, hz⟩ := I.tuple (SqT.of (K := X.K) ha)
  have hca : Clear g a := gd.clear na
  have hlen : ts.length = its.length := hT.len.trans rv.length
  have hp := piled_le_tupleText ts
  have hsz0 : (tupleText ts).length ≤ sizeLine := by omega
  rw [tuple_repr_tree, tupleReprUnderWay_eq]
  refine wpOwn_bind (wpOwn_stackTailAny hg (tupGuardF_off _) (tupGuardF_pos _) ?_)
  have hn : (g.any fun c => tupGuardF (.ref a) (c, default)) = false := by
    rw [List.any_eq_false]
    intro c hcm
    rw [tupGuardF_of_clear hca c hcm]
    exact Bool.false_ne_true
  rw [hn]
  refine wpOwn_of_wpAny ?_
  show wpAny _ _ (tupleReprRest bs (.ref a)) _ _ s
  unfold tupleReprRest Builtin.Tuple.tupleItemsOf
  refine wpAny_bind (wpAny_bind (wpAny_seqItems ho hd (wpAny_pure ?_)))
  rw [← Array.forIn_toList]
  refine wpAny_bind (tup_fold (Hb := H) sb (guards_under_guard hcg hg) gd.cons xe hT _ _ _ s H (by simpa using rv) (by omega) I Ext.rfl' fun s' H' I' e' => ?_)
  refine wpAny_bind (wpAny_mkStr (wpAny_pure ?_) (by simpa [tupleText, hlen] using hsz0))
  have h1 := fin (.str (tupleText ts) s'.toks) { s' with toks := s'.toks + 1 } ⟨_, rfl, H', I'.tok _, e'⟩
  simpa [tupleText, hlen] using h1
theorem sub_code {A : Around} {id : String} {args : Args} (h : Sub X (n + 1) A) (hw : (Code.builtin id args).weight ≤ 1) (he : (Code.builtin id args).envs = []) (hu : (A.under (.builtin id args)).units = A.units + 1) : Sub X n (A.under (.builtin id args)) := by
  have e2 : (A.under (.builtin id args)).frames = pushEnvs (Code.envs (.builtin id args)) A.frames := by first | rfl | simp [Around.under]
  have hf : (A.under (.builtin id args)).frames = A.frames := by
    rw [e2, he]
    cases A.frames <;> first | rfl | simp [pushEnvs]
  have hd : (A.under (.builtin id args)).depth = A.depth + (Code.builtin id args).weight := by first | rfl | simp [Around.under]
  obtain ⟨⟨h1, h2, h3⟩, h4⟩ := h
  exact ⟨⟨h1, by omega, by rw [hu]; omega⟩, hf.trans h4⟩
theorem w_tup {args : Args} : (Code.builtin "tuple.__repr__" args).weight ≤ 1 := by
  first | exact Nat.le_refl _ | simp [Code.weight, Code.isCreation, Code.isGuard, Code.isCaller, Code.frames, Code.isFrame, guardIds]
theorem w_tupU {args : Args} : (Code.builtin "tuple.__repr__.under" args).weight ≤ 1 := by
  first | exact Nat.le_refl _ | simp [Code.weight, Code.isCreation, Code.isGuard, Code.isCaller, Code.frames, Code.isFrame, guardIds]
theorem e_b {id : String} {args : Args} (h : (Code.builtin id args).isFrame = false := by rfl) : (Code.builtin id args).envs = [] := by simp [Code.envs, h]
theorem RpU.tup (ha : H0 a = some (.tup xs)) (na : a ∉ outs) (hT : RpAll X n (a :: outs) H0 xs ts) : RpU X (n + 1) outs H0 (.ref a) (tupleText ts) := fun A g pins s σ H u bs x sb hg gd I r hb => by
  cases (show u = Value.ref a from r)
  have ea := x a _ ha na
  obtain ⟨its, rv, ⟨o, ho, hc, m, hd⟩, hz⟩ := I.tuple (SqT.of (K := X.K) ea)
  refine wpAny_pyReprUnder_ref (by omega) (wpAny_pyReprObjUnder_twin (twin := "tuple.__repr__.under") ⟨o, ho, hc⟩ F.slot_tuple_repr rfl sb.room.units0
    (call_twin_own (F.quiet_tuple_repr_under _) F.entry_tuple_repr_under F.check_tuple_repr_under ⟨o, ho, hc⟩ F.slot_tuple_repr (F.args_tuple_repr_1 _)
      (tup_at (isGuard_tuple_repr_under _) (sub_code sb w_tupU e_b (units_under_tuple_repr_under _ _)) hg gd I ea na x hT hb fun v s' h => ?_)))
  obtain ⟨tk, rfl, h⟩ := h
  exact ⟨⟨_, _, rfl⟩, _, _, rfl, rfl, h⟩
/-- repr of a tuple, where no repr is under way -/
def rReprT (X : Cx) (n : Nat) : List V → Hp → VK → Prop := fun ys H Q => ∃ (a : Addr) (xs : List V) (ts : List Str), ys = [.ref a] ∧ H a = some (.tup xs) ∧ RpAll X n [a] H xs ts ∧ (tupleText ts).length ≤ sizeLine ∧ ∀ H', Ext H H' → Q (.str (tupleText ts)) H'
theorem call_reprT (hgd : X.A.guards = some []) (hr : Room (n + 2) X.A) : CallR X (.builtin "repr") (rReprT X n) := by
  intro pins s σ H ys us Q I r h
  obtain ⟨a, xs, ts, rfl, ea, hT, hb, q⟩ := h
  obtain ⟨u, rfl, ru⟩ := r.one
  cases (show u = Value.ref a from ru)
  obtain ⟨its, rv, ⟨o, ho, hc, m, hd⟩, hz⟩ := I.tuple (SqT.of (K := X.K) ea)
  have sb : Sub X (n + 1) X.A.in1 := ⟨hr.in1, rfl⟩
  refine call_repr_slot (by have := hr.un; omega) ⟨o, ho, hc⟩ F.slot_tuple_repr ?_
  refine wpAny_call (codeAny_call_builtin_own (Code.quiet_builtin _ (by decide +kernel)) F.entry_tuple_repr (F.slot_tuple_repr.check _ _ _ _ _ _ _ _ ⟨o, ho, hc⟩ (F.args_tuple_repr_1 _)
    (tup_at (outs := []) (H0 := H) (bs := 0) (isGuard_tuple_repr _) (sub_code sb w_tup e_b (units_under_tuple_repr _ _)) hgd Gd.nil I ea (by simp) (Ex.refl _ _) hT (by omega) fun v s' h => ?_)))
  obtain ⟨tk, rfl, H', I', e⟩ := h
  exact ⟨_, _, rfl, .str _, H', I', ⟨_, rfl⟩, q H' e⟩
end
end RPO
set_option Elab.async false
set_option linter.all false
set_option maxRecDepth 100000
set_option maxHeartbeats 4000000
namespace RPO
open PySem PySem.Spec PyProof.Rows L2
open Builtin Builtin.List
/-- what the entries of a dict show as -/
inductive RpEnt (X : Cx) (n : Nat) (outs : List Addr) (H0 : Hp) : List (Key × V) → List Str → Prop
  | nil : RpEnt X n outs H0 [] []
  | cons {k : Key} {v : V} {tk tv : Str} {kvs : List (Key × V)} {ps : List Str} : RpU X n outs H0 (kV k) tk → RpU X n outs H0 v tv → RpEnt X n outs H0 kvs ps → RpEnt X n outs H0 ((k, v) :: kvs) ((tk ++ ": " ++ tv) :: ps)
section
variable {X : Cx} {n : Nat} {outs : List Addr} {H0 : Hp} {a : Addr} {kvs : List (Key × V)} {ps : List Str}
theorem RpEnt.len : ∀ {kvs : List (Key × V)} {ps : List Str}, RpEnt X n outs H0 kvs ps → ps.length = kvs.length
  | _, _, .nil => rfl
  | _, _, .cons _ _ h => by rw [List.length_cons, List.length_cons, h.len]
theorem RpEnt.get : ∀ {kvs : List (Key × V)} {ps : List Str}, RpEnt X n outs H0 kvs ps → ∀ (i : Nat) (e : Key × V), kvs[i]? = some e → ∃ tk tv : Str, ps[i]? = some (tk ++ ": " ++ tv) ∧ RpU X n outs H0 (kV e.1) tk ∧ RpU X n outs H0 e.2 tv
  | _, _, .nil, _, _, h => by simp at h
  | _, _, .cons r1 r2 h, 0, _, e => by
    simp at e
    subst e
    exact ⟨_, _, rfl, r1, r2⟩
  | _, _, .cons _ _ h, i + 1, x, e => by
    obtain ⟨t1, t2, e1, e2⟩ := h.get i x (by simpa using e)
    exact ⟨t1, t2, by simpa using e1, e2⟩
theorem pairs_at {P : Program} {w : World} : ∀ {es : List DictEntry} {vs : List (Key × Value)}, Pairs (mixKind P w) es vs → ∀ (i : Nat) (kv : Key × Value), vs[i]? = some kv → ∃ e, es[i]? = some e ∧ (mixKind P w).is kv.1 e.key = true ∧ e.val = kv.2
  | _, _, .nil, _, _, h => by simp at h
  | _, _, .cons h1 h2 h, 0, _, e => by
    simp at e
    subst e
    exact ⟨_, rfl, h1, h2⟩
  | _, _, .cons _ _ h, i + 1, kv, e => by
    obtain ⟨en, e1, e2⟩ := pairs_at h i kv (by simpa using e)
    exact ⟨en, by simpa using e1, e2⟩
theorem key_rel {k : Key} {v : Value} (h : keyIs k v = true) : RelV (kV k) v := by
  rcases keyIs_shape h with ⟨i, t, rfl, rfl⟩ | ⟨x, t, rfl, rfl⟩
  · exact ⟨_, rfl⟩
  · exact ⟨_, rfl⟩
theorem kv_at : ∀ {ks : List (Key × V)} {va : List (Key × Value)}, KV ks va → ∀ (i : Nat) (e : Key × V), ks[i]? = some e → ∃ u : Key × Value, va[i]? = some u ∧ e.1 = u.1 ∧ RelV e.2 u.2
  | _, _, .nil, _, _, h => by simp at h
  | _, _, .cons r h, 0, _, e => by
    simp at e
    subst e
    exact ⟨_, rfl, r.1, r.2⟩
  | _, _, .cons _ h, i + 1, x, e => by
    obtain ⟨u, e1, e2⟩ := kv_at h i x (by simpa using e)
    exact ⟨u, by simpa using e1, e2⟩
/-- the entries of a locked dict -/
theorem entry_of {pins : List (Addr × Obj)} {σ : L2.St} {s : Shared} {H : Hp} {o : Obj} (I : Inv X pins σ H s) (h : H a = some (.frz o (.dK kvs))) {es : Array DictEntry} {ep : Nat} (hd : o.data = .dict es ep) (i : Nat) (hi : i < kvs.length) :
    ∃ e, es[i]? = some e ∧ RelV (kV kvs[i].1) e.key ∧ RelV kvs[i].2 e.val := by
  obtain ⟨_, hg, _, es', ep', vs, hd', hs, kv, o2, es2, g2, x2, d2, k2, p2, _⟩ := I.frzK h
  rw [hg] at g2
  cases g2
  rw [hd] at d2
  cases d2
  obtain ⟨u, e1, e2, e3⟩ := kv_at kv i kvs[i] (List.getElem?_eq_getElem hi)
  obtain ⟨e, f1, f2, f3⟩ := pairs_at p2 i u e1
  refine ⟨e, by simpa using f1, ?_, by rw [f3]; exact e3⟩
  rw [e2]
  exact key_rel f2
theorem dct_at {A : Around} {g : List Code} {bs : Nat} {pins : List (Addr × Obj)} {σ : L2.St} {s : Shared} {H : Hp} {Q : Value → Shared → Prop} {id : String} {rest : List Value} (hcg : (Code.builtin id ⟨.ref a :: rest, []⟩).isGuard = true) (sb : Sub X n (A.under (.builtin id ⟨.ref a :: rest, []⟩)))
    (hg : A.guards = some g) (gd : Gd g outs) (I : Inv X pins σ H s) (ha : H a = some (.dK kvs)) (na : a ∉ outs) (xe : Ex outs H0 H) (hT : RpEnt X n (a :: outs) H0 kvs ps) (hsz : bs + (dictText ps).length ≤ sizeLine) (fin : ∀ v s', Told X pins σ H (dictText ps) v s' → Q v s') :
    wpOwn (model X.prog X.w) A (.builtin id ⟨.ref a :: rest, []⟩) (Builtin.dictReprAt bs ⟨[.ref a], []⟩) (fun fin s' => match fin with | .done f => callEnd Q X.xe (.ok f) s' | .again c' => c'.quiet = true ∧ codeAny (model X.prog X.w) A c' (callEnd Q X.xe) s') (fun e s' => callEnd Q X.xe (.error e) s') s := by
  have mu : Mut (some (HO.dK kvs)) := trivial
  have nf := I.nofrz ha mu
  obtain ⟨o, I1⟩ := I.lock ha mu
  have e1 : (upd H a (.frz o (.dK kvs))) a = some (.frz o (.dK kvs)) := upd_same
  have x1 : Ex (a :: outs) H0 (upd H a (.frz o (.dK kvs))) := fun b u e nb => by
    rw [upd_ne fun z => nb (by rw [z]; exact List.mem_cons_self)]
    exact xe b u e fun z => nb (List.mem_cons_of_mem _ z)
  have back : ∀ {H' : Hp} {s' : Shared}, Inv X pins σ H' s' → Ext (upd H a (.frz o (.dK kvs))) H' → ∃ H2, Inv X pins σ H2 s' ∧ Ext H H2 := fun {H' s'} I' e' => by
    refine ⟨_, I'.unlock (e' _ _ e1) nf, fun b u e => ?_⟩
    by_cases hb : b = a
    · subst hb
      rw [upd_same, ← e, ha]
    · rw [upd_ne hb]
      refine e' _ _ ?_
      rw [upd_ne hb]
      exact e
  generalize upd H a (.frz o (.dK kvs)) = H1 at I1 e1 x1 back
  obtain ⟨hsys, hget, hex, es, ep, vs, hd, hsize, _, _⟩ := I1.frzK e1
  have got : ∀ {H' : Hp} {s' : Shared}, Inv X pins σ H' s' → Ext H1 H' → s'.heap.get? a = some o := fun I' e' => (I'.frzK (e' _ _ e1)).2.1
  have hTy : s.TypeIs (.ref a) "dict" := ⟨o, hget, hex.1⟩
  have hca : Clear g a := gd.clear na
  have hlen : ps.length = es.size := hT.len.trans hsize.symm
  have hp3 := piled_le_dictText ps
  have hsz0 : (dictText ps).length ≤ sizeLine := by omega
  unfold Builtin.dictReprAt
  refine wpOwn_bind (wpOwn_of_wpAny ?_)
  unfold Builtin.Dict.dictSlotNone
  refine wpAny_bind (wpAny_notOrdered_dict hTy ?_)
  show wpAny _ _ (pure (Value.ref a)) _ _ s
  refine wpAny_pure ?_
  rw [dictReprRunning_eq]
  refine wpOwn_bind (wpOwn_stackTailAny hg (dictGuardF_off _) (dictGuardF_pos _) ?_)
  have hn : (g.any fun c => dictGuardF (.ref a) (c, default)) = false := by
    rw [List.any_eq_false]
    intro c hcm
    rw [dictGuardF_of_clear hca c hcm]
    exact Bool.false_ne_true
  rw [hn]
  refine wpOwn_of_wpAny ?_
  have hg' := guards_under_guard hcg hg
  show wpAny _ _ (Builtin.Dict.addrOf (.ref a) >>= _) _ _ s
  refine wpAny_bind (wpAny_pure ?_)
  show wpAny _ _ (Builtin.Dict.showsAll a >>= _) _ _ s
  unfold Builtin.Dict.showsAll
  rw [if_neg (by rw [hsys]; exact Bool.false_ne_true)]
  refine wpAny_bind (wpAny_pure ?_)
  refine wpAny_bind (wpAny_dictEpoch hget hd ?_)
  refine wpAny_bind (wpAny_dictEntries hget hd ?_)
  refine wpAny_bind ?_
  rw [Std.Legacy.Range.forIn_eq_forIn_range']
  simp only [Std.Legacy.Range.size, Nat.sub_zero, Nat.add_sub_cancel, Nat.div_one]
  refine wpAny_forIn_list _
    (fun rest' r s' => ∃ i H', rest' = List.range' i (es.size - i) ∧ i ≤ es.size ∧ r = (⟨(ps.take i).toArray, bs + piled (ps.take i)⟩ : (Array Str × Nat)) ∧ Inv X pins σ H' s' ∧ Ext H1 H')
    _ ?_ ?_ _ _ ⟨0, H1, by simp, Nat.zero_le _, by simp [piled], I1, Ext.rfl'⟩
  · rintro x rest' _ s' ⟨i, H', hr, hi, rfl, I', e'⟩
    have hlt : i < es.size := by
      rcases Nat.lt_or_ge i es.size with h | h
      · exact h
      · rw [Nat.sub_eq_zero_of_le h] at hr; simp at hr
    obtain ⟨rfl, hrest⟩ : x = i ∧ rest' = List.range' (i + 1) (es.size - (i + 1)) := by
      have e : es.size - i = (es.size - (i + 1)) + 1 := by omega
      rw [e, List.range'_succ] at hr
      injection hr with h1 h2
      exact ⟨h1, h2⟩
    have hx2 : x < kvs.length := by omega
    obtain ⟨tk, tv, hp, rk, rv⟩ := hT.get x kvs[x] (List.getElem?_eq_getElem hx2)
    obtain ⟨en, f1, f2, f3⟩ := entry_of I' (e' _ _ e1) hd x hx2
    have hpl : (tk ++ ": " ++ tv).length = tk.length + 2 + tv.length := by
      rw [strLen_append, strLen_append]; rfl
    have hp1 := piled_take_succ hp
    have hp2 := piled_take_le ps (x + 1)
    rw [hpl] at hp1
    refine wpAny_bind (wpAny_dictEntries (got I' e') hd ?_)
    rw [f1]
    refine wpAny_bind (wpAny_holding (wpAny_bind (wpAny_mono (rk _ _ pins s' σ H' en.key (bs + piled (ps.take x) + 1) (x1.ext e') sb hg' gd.cons I' f2 (by omega)) (fun r2 s2 h2 => ?_) fun _ _ z => z)))
    obtain ⟨rfl, H2, I2, e2⟩ := h2
    refine wpAny_bind (wpAny_mono (rv _ _ pins s2 σ H2 en.val (bs + piled (ps.take x) + (r2.length + 3)) (x1.ext (e'.trans e2)) sb hg' gd.cons I2 f3 (by omega)) (fun r3 s3 h3 => ?_) fun _ _ z => z)
    obtain ⟨rfl, H3, I3, e3⟩ := h3
    have e13 := (e'.trans e2).trans e3
    refine wpAny_pure ?_
    refine wpAny_bind (wpAny_dictEpoch (got I3 e13) hd ?_)
    rw [if_neg (by simp)]
    have g1 : (ps.take x).toArray.push (r2 ++ ": " ++ r3) = (ps.take (x + 1)).toArray := by
      rw [List.take_add_one, hp]
      simp
    have g2 : bs + piled (ps.take x) + (r2.length + r3.length + 4) = bs + piled (ps.take (x + 1)) := by omega
    refine wpAny_pure ⟨x + 1, H3, hrest, hlt, ?_, I3, e13⟩
    rw [g1, g2]
  · rintro _ s' ⟨i, H', hr, hi, rfl, I', e'⟩
    have hin : i = es.size := by
      rcases Nat.lt_or_ge i es.size with h | h
      · have e : es.size - i = (es.size - (i + 1)) + 1 := by omega
        rw [e, List.range'_succ] at hr; exact nomatch hr
      · exact Nat.le_antisymm hi h
    rw [hin, ← hlen, List.take_length]
    refine wpAny_bind (wpAny_mkStr (wpAny_pure ?_) (by simpa [dictText] using hsz0))
    have h1 := fin (.str (dictText ps) s'.toks) { s' with toks := s'.toks + 1 } ⟨_, rfl, back (I'.tok _) e'⟩
    simpa [dictText] using h1
theorem w_dct {args : Args} : (Code.builtin "dict.__repr__" args).weight ≤ 1 := by
  first | exact Nat.le_refl _ | simp [Code.weight, Code.isCreation, Code.isGuard, Code.isCaller, Code.frames, Code.isFrame, guardIds]
theorem w_dctU {args : Args} : (Code.builtin "dict.__repr__.under" args).weight ≤ 1 := by
  first | exact Nat.le_refl _ | simp [Code.weight, Code.isCreation, Code.isGuard, Code.isCaller, Code.frames, Code.isFrame, guardIds]
theorem RpU.dct (ha : H0 a = some (.dK kvs)) (na : a ∉ outs) (hT : RpEnt X n (a :: outs) H0 kvs ps) : RpU X (n + 1) outs H0 (.ref a) (dictText ps) := fun A g pins s σ H u bs x sb hg gd I r hb => by
  cases (show u = Value.ref a from r)
  have ea := x a _ ha na
  have mu : Mut (some (HO.dK kvs)) := trivial
  obtain ⟨o, I1⟩ := I.lock ea mu
  obtain ⟨_, hget, hex, _⟩ := I1.frzK (upd_same : (upd H a (.frz o (.dK kvs))) a = _)
  refine wpAny_pyReprUnder_ref (by omega) (wpAny_pyReprObjUnder_twin (twin := "dict.__repr__.under") ⟨o, hget, hex.1⟩ F.slot_dict_repr rfl sb.room.units0
    (call_twin_own (F.quiet_dict_repr_under _) F.entry_dict_repr_under F.check_dict_repr_under ⟨o, hget, hex.1⟩ F.slot_dict_repr (F.args_dict_repr_1 _)
      (dct_at (isGuard_dict_repr_under _) (sub_code sb w_dctU e_b (units_under_dict_repr_under _ _)) hg gd I ea na x hT hb fun v s' h => ?_)))
  obtain ⟨tk, rfl, h⟩ := h
  exact ⟨⟨_, _, rfl⟩, _, _, rfl, rfl, h⟩
/-- repr of a list, of a dict, where no repr is under way -/
def rReprL (X : Cx) (n : Nat) : List V → Hp → VK → Prop := fun ys H Q => ∃ (a : Addr) (xs : List V) (ts : List Str), ys = [.ref a] ∧ H a = some (.lst xs) ∧ xs ≠ [] ∧ RpAll X n [a] H xs ts ∧ (listText ts).length ≤ sizeLine ∧ ∀ H', Ext H H' → Q (.str (listText ts)) H'
theorem call_reprL (hgd : X.A.guards = some []) (hr : Room (n + 2) X.A) : CallR X (.builtin "repr") (rReprL X n) := by
  intro pins s σ H ys us Q I r h
  obtain ⟨a, xs, ts, rfl, ea, hx, hT, hb, q⟩ := h
  obtain ⟨u, rfl, ru⟩ := r.one
  cases (show u = Value.ref a from ru)
  obtain ⟨_, its, m, rv, lv, e⟩ := I.lstM ea
  have sb : Sub X (n + 1) X.A.in1 := ⟨hr.in1, rfl⟩
  refine call_repr_slot (by have := hr.un; omega) ⟨_, e, rfl⟩ F.slot_list_repr.toG ?_
  refine wpAny_call (codeAny_call_builtin F.slot_list_repr.plain F.entry_list_repr (F.slot_list_repr.check _ _ _ _ _ _ _ _ ⟨_, e, rfl⟩ (F.args_list_repr_1 _)
    (list_at (outs := []) (H0 := H) (bs := 0) sb hgd Gd.nil I ea (by simp) (Ex.refl _ _) hx hT (by omega) fun v s' h => ?_)))
  obtain ⟨tk, rfl, H', I', e⟩ := h
  exact ⟨_, _, rfl, .str _, H', I', ⟨_, rfl⟩, q H' e⟩
def rReprDc (X : Cx) (n : Nat) : List V → Hp → VK → Prop := fun ys H Q => ∃ (a : Addr) (kvs : List (Key × V)) (ps : List Str), ys = [.ref a] ∧ H a = some (.dK kvs) ∧ RpEnt X n [a] H kvs ps ∧ (dictText ps).length ≤ sizeLine ∧ ∀ H', Ext H H' → Q (.str (dictText ps)) H'
theorem call_reprDc (hgd : X.A.guards = some []) (hr : Room (n + 2) X.A) : CallR X (.builtin "repr") (rReprDc X n) := by
  intro pins s σ H ys us Q I r h
  obtain ⟨a, kvs, ps, rfl, ea, hT, hb, q⟩ := h
  obtain ⟨u, rfl, ru⟩ := r.one
  cases (show u = Value.ref a from ru)
  have mu : Mut (some (HO.dK kvs)) := trivial
  obtain ⟨o, I1⟩ := I.lock ea mu
  obtain ⟨_, hget, hex, _⟩ := I1.frzK (upd_same : (upd H a (.frz o (.dK kvs))) a = _)
  have sb : Sub X (n + 1) X.A.in1 := ⟨hr.in1, rfl⟩
  refine call_repr_slot (by have := hr.un; omega) ⟨o, hget, hex.1⟩ F.slot_dict_repr ?_
  refine wpAny_call (codeAny_call_builtin_own (Code.quiet_builtin _ (by decide +kernel)) F.entry_dict_repr (F.slot_dict_repr.check _ _ _ _ _ _ _ _ ⟨o, hget, hex.1⟩ (F.args_dict_repr_1 _)
    (dct_at (outs := []) (H0 := H) (bs := 0) (isGuard_dict_repr _) (sub_code sb w_dct e_b (units_under_dict_repr _ _)) hgd Gd.nil I ea (by simp) (Ex.refl _ _) hT (by omega) fun v s' h => ?_)))
  obtain ⟨tk, rfl, H', I', e⟩ := h
  exact ⟨_, _, rfl, .str _, H', I', ⟨_, rfl⟩, q H' e⟩
end
end RPO
set_option Elab.async false
set_option linter.all false
set_option maxRecDepth 100000
set_option maxHeartbeats 4000000
namespace K60.Q
open PySem PySem.Spec PyProof.Rows L2
open C8 (Cal Mak Met pe_c pe_mk pe_mt pe_mt0)
open KM (pr Sz)
theorem take_one {α : Type} {l : List α} {i : Nat} {x : α} (h : l[i]? = some x) : l.take (i + 1) = l.take i ++ [x] := by rw [List.take_succ, h]; rfl
theorem line_of {n : Nat} (h : n ≤ 100000) : n ≤ sizeLine := by have := sizeLine_eq; omega
theorem line_lt {n : Nat} (h : n ≤ 100000) : n < sizeLine := by have := sizeLine_eq; omega
/-! ### dicts by names -/
def dctO (l : List Str) (g : Str → V) : HO := .dK (l.map fun x => ((Sum.inr x : Key), g x))
/-- a dict of Shares -/
def SDc (C : Addr) (H : Hp) (d : Addr) (L : List Str) (c : Str → Rat) : Prop := ∃ ad : Str → Addr, H d = some (dctO L fun x => .ref (ad x)) ∧ ∀ x ∈ L, Sh C H (ad x) (pr (c x))
/-- a dict of fractions -/
def TDc (H : Hp) (d : Addr) (L : List Str) (c : Str → Rat) : Prop := ∃ ad : Str → Addr, H d = some (dctO L fun x => .ref (ad x)) ∧ ∀ x ∈ L, H (ad x) = some (tupP (pr (c x)))
theorem SDc.same {C : Addr} {H H' : Hp} {d : Addr} {L : List Str} {c : Str → Rat} (h : SDc C H d L c) (s : Same H H') : SDc C H' d L c := by
  obtain ⟨ad, h1, h2⟩ := h
  exact ⟨ad, s _ _ h1, fun x hx => (h2 x hx).keep s⟩
theorem TDc.same {H H' : Hp} {d : Addr} {L : List Str} {c : Str → Rat} (h : TDc H d L c) (s : Same H H') : TDc H' d L c := by
  obtain ⟨ad, h1, h2⟩ := h
  exact ⟨ad, s _ _ h1, fun x hx => s _ _ (h2 x hx)⟩
/-! ### what is put -/
def addK (L : List Str) (x : Str) : List Str := if x ∈ L then L else L ++ [x]
def setc (c : Str → Rat) (x : Str) (v : Rat) : Str → Rat := fun y => if y = x then v else c y
def get0 (L : List Str) (c : Str → Rat) (x : Str) : Rat := if x ∈ L then c x else 0
def mv (u : List Str × (Str → Rat)) (m : Str × Rat) : List Str × (Str → Rat) := (addK u.1 m.1, setc u.2 m.1 (get0 u.1 u.2 m.1 + m.2))
def mvL (u : List Str × (Str → Rat)) (ms : List (Str × Rat)) : List Str × (Str → Rat) := ms.foldl mv u
theorem mvL_snoc (u : List Str × (Str → Rat)) (ms : List (Str × Rat)) (m : Str × Rat) : mvL u (ms ++ [m]) = mv (mvL u ms) m := by
  unfold mvL
  rw [List.foldl_append]
  rfl
theorem mvL_app (u : List Str × (Str → Rat)) (ms ns : List (Str × Rat)) : mvL u (ms ++ ns) = mvL (mvL u ms) ns := by
  unfold mvL
  rw [List.foldl_append]
theorem mem_addK {L : List Str} {x : Str} : x ∈ addK L x := by
  unfold addK
  split
  · assumption
  · exact List.mem_append_right _ (List.mem_singleton.mpr rfl)
theorem addK_sub {L : List Str} {x y : Str} (h : y ∈ addK L x) : y ∈ L ∨ y = x := by
  unfold addK at h
  split at h
  · exact .inl h
  · rcases List.mem_append.mp h with z | z
    · exact .inl z
    · exact .inr (List.mem_singleton.mp z)
theorem addK_len (L : List Str) (x : Str) : (addK L x).length ≤ L.length + 1 := by
  unfold addK
  split
  · omega
  · rw [List.length_append]
    exact Nat.le_refl _
theorem addK_nd {L : List Str} {x : Str} (h : L.Nodup) : (addK L x).Nodup := by
  unfold addK
  split
  · exact h
  · rename_i n
    rw [List.nodup_append]
    exact ⟨h, by simp, fun a ha b hb e => by
      rw [List.mem_singleton] at hb
      subst hb
      exact n (e ▸ ha)⟩
theorem mvL_len (ms : List (Str × Rat)) : ∀ u : List Str × (Str → Rat), (mvL u ms).1.length ≤ u.1.length + ms.length := by
  induction ms with
  | nil => intro u; exact Nat.le_refl _
  | cons m ms ih =>
    intro u
    have h1 := ih (mv u m)
    have h2 := addK_len u.1 m.1
    rw [List.length_cons]
    show (mvL (mv u m) ms).1.length ≤ _
    have : (mv u m).1.length ≤ u.1.length + 1 := h2
    omega
theorem mvL_nd (ms : List (Str × Rat)) : ∀ u : List Str × (Str → Rat), u.1.Nodup → (mvL u ms).1.Nodup := by
  induction ms with
  | nil => intro u h; exact h
  | cons m ms ih => intro u h; exact ih (mv u m) (addK_nd h)
/-- how great it gets -/
theorem mvL_sz {k : Nat} (ms : List (Str × Rat)) : ∀ (u : List Str × (Str → Rat)) (n : Nat), (∀ x, Sz n (get0 u.1 u.2 x)) → (∀ m ∈ ms, Sz k m.2) → ∀ x, Sz (n + (k + 1) * ms.length) (get0 (mvL u ms).1 (mvL u ms).2 x) := by
  induction ms with
  | nil => intro u n h _ x; exact h x
  | cons m ms ih =>
    intro u n h hm x
    have h1 : ∀ y, Sz (n + (k + 1)) (get0 (mv u m).1 (mv u m).2 y) := fun y => by
      unfold mv get0 setc
      dsimp only
      by_cases e : y = m.1
      · subst e
        rw [if_pos mem_addK, if_pos rfl]
        have := (KM.sz_plus (h m.1) (hm m List.mem_cons_self)).1
        exact this.mono (by omega)
      · rw [if_neg e]
        have : (y ∈ addK u.1 m.1) ↔ y ∈ u.1 := ⟨fun z => (addK_sub z).elim id fun z => absurd z e, fun z => by
          unfold addK
          split
          · exact z
          · exact List.mem_append_left _ z⟩
        have h2 := h y
        unfold get0 at h2
        simp only [this]
        exact h2.mono (by omega)
    have := ih (mv u m) (n + (k + 1)) h1 (fun m' hm' => hm m' (List.mem_cons_of_mem _ hm')) x
    refine this.mono ?_
    rw [List.length_cons, Nat.mul_add]
    omega
theorem put_dct {L : List Str} {ad : Str → Addr} {x : Str} {t : Addr} : putK (L.map fun y => ((Sum.inr y : Key), V.ref (ad y))) (Sum.inr x) (.ref t) = (addK L x).map fun y => ((Sum.inr y : Key), V.ref (if y = x then t else ad y)) := by
  unfold addK
  split
  · rename_i h
    rw [DQ.put_old (fun y => V.ref (ad y)) h]
    exact List.map_congr_left fun y _ => by by_cases e : y = x <;> simp [e]
  · rename_i h
    have e1 : (L.map fun y => ((Sum.inr y : Key), V.ref (ad y))) = L.map fun y => ((Sum.inr y : Key), V.ref (if y = x then t else ad y)) := List.map_congr_left fun y hy => by rw [if_neg (show ¬ y = x from fun e => h (e ▸ hy))]
    rw [e1]
    have e2 := DQ.put_new (fun y => V.ref (if y = x then t else ad y)) h
    rw [if_pos rfl] at e2
    exact e2
/-- a value put in, read -/
theorem val_dct {L : List Str} {ad : Str → Addr} (x : Str) : valV (L.map fun y => ((Sum.inr y : Key), V.ref (ad y))) (Sum.inr x) = if x ∈ L then some (.ref (ad x)) else none := by
  split
  · rename_i h
    exact DQ.val_map (fun y => V.ref (ad y)) h
  · rename_i h
    exact DQ.val_none (fun y => V.ref (ad y)) h
theorem _root_.K60.Sh.at_ne {C : Addr} {H : Hp} {p d : Addr} {q : Int × Int} {kvs : List (Key × V)} (h : Sh C H p q) (hd : H d = some (.dK kvs)) : p ≠ d := fun z => by
  obtain ⟨dx, e⟩ := h
  rw [z, hd] at e
  cases e
/-- the dict with one more put in -/
theorem SDc.put {C : Addr} {H : Hp} {d t : Addr} {L : List Str} {c : Str → Rat} {ad : Str → Addr} {x : Str} {v : Rat} (h1 : H d = some (dctO L fun y => .ref (ad y))) (h2 : ∀ y ∈ L, Sh C H (ad y) (pr (c y))) (ht : Sh C H t (pr v)) :
    SDc C (upd H d (.dK (putK (L.map fun y => ((Sum.inr y : Key), V.ref (ad y))) (Sum.inr x) (.ref t)))) d (addK L x) (setc c x v) := by
  rw [put_dct]
  refine ⟨fun y => if y = x then t else ad y, upd_same, fun y hy => ?_⟩
  have keep : ∀ {p : Addr} {q : Int × Int} {o : HO}, Sh C H p q → Sh C (upd H d o) p q := fun {p q o} hp => by
    have n := hp.at_ne h1
    obtain ⟨dx, e⟩ := hp
    exact ⟨dx, by rw [upd_ne n]; exact e⟩
  unfold setc
  dsimp only
  by_cases e : y = x
  · rw [if_pos e, if_pos e]
    exact keep ht
  · rw [if_neg e, if_neg e]
    exact keep (h2 y ((addK_sub hy).elim id fun z => absurd z e))
theorem TDc.put {H : Hp} {d t : Addr} {L : List Str} {c : Str → Rat} {ad : Str → Addr} {x : Str} {v : Rat} (h1 : H d = some (dctO L fun y => .ref (ad y))) (h2 : ∀ y ∈ L, H (ad y) = some (tupP (pr (c y)))) (ht : H t = some (tupP (pr v))) :
    TDc (upd H d (.dK (putK (L.map fun y => ((Sum.inr y : Key), V.ref (ad y))) (Sum.inr x) (.ref t)))) d (addK L x) (setc c x v) := by
  rw [put_dct]
  refine ⟨fun y => if y = x then t else ad y, upd_same, fun y hy => ?_⟩
  have keep : ∀ {p : Addr} {q : Int × Int} {o : HO}, H p = some (tupP q) → (upd H d o) p = some (tupP q) := fun {p q o} hp => by
    rw [upd_ne fun z => by rw [z, h1] at hp; cases hp]
    exact hp
  unfold setc
  dsimp only
  by_cases e : y = x
  · rw [if_pos e, if_pos e]
    exact keep ht
  · rw [if_neg e, if_neg e]
    exact keep (h2 y ((addK_sub hy).elim id fun z => absurd z e))
/-- a dict made by a walk -/
theorem dc_it {J : It} {n : Nat} {G : Hp → Prop} {Y : Nat → Hp → V → Hp → Prop} (w : Walk J n G Y) {g : TG} {tt : TT} {tk tv : TE} {vs : List Nat} {σ : L2.St} {H1 : Hp} {D : Addr} {Qd : Hp → Prop} (Pv : Nat → Hp → Prop) (h0 : Pv 0 (upd H1 D (.dK []))) (hG : ∀ i H, i ≤ n → Pv i H → G H)
    (hs : ∀ i x H H', i < n → Pv i H → Y i H x H' → g x (wipe σ vs) H' fun σ2 H2 => wipe σ2 vs = wipe σ vs ∧ tt σ2 H2 fun b H3 =>
      if b = true then tk σ2 H3 fun y H4 => tv σ2 H4 fun z H5 => ∃ kvs k, y = kV k ∧ H5 D = some (.dK kvs) ∧ kvs.length < sizeLine ∧ Pv (i + 1) (upd H5 D (.dK (putK kvs k z))) else Pv (i + 1) H3) (hd : ∀ H, Pv n H → Qd H) :
    ∃ W : Nat → Nat → Hp → Prop, (∃ m, W 0 m (upd H1 D (.dK []))) ∧ ∀ i m H, W i m H →
      (J.stop i H ∧ Qd H) ∨ (J.go i H ∧ ∃ Nx : Hp → Prop, (∀ H', Nx H' → ∃ m', m' < m ∧ W (i + 1) m' H') ∧ ∀ x H', J.yld i H x H' → g x (wipe σ vs) H' fun σ2 H2 => wipe σ2 vs = wipe σ vs ∧ tt σ2 H2 fun b H3 =>
        if b = true then tk σ2 H3 fun y H4 => tv σ2 H4 fun z H5 => ∃ kvs k, y = kV k ∧ H5 D = some (.dK kvs) ∧ kvs.length < sizeLine ∧ Nx (upd H5 D (.dK (putK kvs k z))) else Nx H3) := by
  refine ⟨fun i m H => m = n - i ∧ i ≤ n ∧ Pv i H, ⟨n, rfl, Nat.zero_le _, h0⟩, ?_⟩
  rintro i m H ⟨rfl, hi, p⟩
  by_cases hlt : i < n
  · exact .inr ⟨w.goes i H hlt (hG i H hi p), Pv (i + 1), fun H' p' => ⟨n - (i + 1), by omega, rfl, hlt, p'⟩, fun x H' y => hs i x H H' hlt p (w.yields i H x H' hlt (hG i H hi p) y)⟩
  · have e : i = n := by omega
    subst e
    exact .inl ⟨w.stops H (hG i H hi p), hd H p⟩
end K60.Q
set_option Elab.async false
set_option linter.all false
set_option maxRecDepth 100000
set_option maxHeartbeats 4000000
namespace K60.Q
open PySem PySem.Spec PyProof.Rows L2
open C8 (Cal Mak Met pe_c pe_mk pe_mt pe_mt0)
open KM (pr Sz)
theorem zero_sub' (r : Rat) : 0 - r = -r := by rw [Rat.sub_eq_add_neg, Rat.zero_add]
theorem pr0 : pr (0 : Rat) = (0, 1) := rfl
theorem div01 : Rat.divInt 0 1 = 0 := by rw [Rat.zero_divInt]
theorem sz0 {n : Nat} (h : 0 < n) : Sz n (0 : Rat) := ⟨by show 0 < 2 ^ n; exact Nat.pow_pos (by decide), by show 1 < 2 ^ n; exact Nat.one_lt_two_pow (by omega)⟩
theorem put_top (q : Int × Int) (t : Int) : putF "top" (.int t) (shF q) = shF (t, q.2) := by
  unfold shF
  simp only [putF, if_neg tb, if_neg (show ¬ (("bottom" : Str) = "top") from fun z => tb z.symm), if_pos]
theorem put_bot (q : Int × Int) (b : Int) : putF "bottom" (.int b) (shF q) = shF (q.1, b) := by
  unfold shF
  simp only [putF, if_neg tb, if_neg (show ¬ (("bottom" : Str) = "top") from fun z => tb z.symm), if_pos]
theorem shF_len (q : Int × Int) : (shF q).length < 1000 := by
  unfold shF
  simp only [putF, if_neg tb, if_neg (show ¬ (("bottom" : Str) = "top") from fun z => tb z.symm)]
  show 2 < 1000
  decide
/-- the puts of a row of moves -/
def puts (ms : List (Addr × List Str × (Str → Rat))) : List (Str × Rat) := ms.flatMap fun m => m.2.1.map fun x => (x, m.2.2 x)
/-- a dict locked: what is known of the heap -/
theorem lockf {C : Addr} {H : Hp} {d : Addr} {L : List Str} {ad : Str → Addr} (hd : H d = some (dctO L fun x => .ref (ad x))) (od : Obj) :
    (upd H d (.frz od (dctO L fun x => .ref (ad x)))) d = some (.frz od (.dK (L.map fun x => ((Sum.inr x : Key), V.ref (ad x))))) ∧
    (∀ b o, H b = some o → b ≠ d → (upd H d (.frz od (dctO L fun x => .ref (ad x)))) b = some o) ∧
    (∀ b, (upd H d (.frz od (dctO L fun x => .ref (ad x)))) b = none → H b = none ∧ b ≠ d) ∧
    (∀ H', Same (upd H d (.frz od (dctO L fun x => .ref (ad x)))) H' → Same H (upd H' d (dctO L fun x => .ref (ad x)))) := by
  refine ⟨upd_same, fun b o e n => by rw [upd_ne n]; exact e, fun b e => ?_, fun H' s b o e => ?_⟩
  · by_cases z : b = d
    · subst z
      rw [upd_same] at e
      cases e
    · rw [upd_ne z] at e
      exact ⟨e, z⟩
  · by_cases z : b = d
    · subst z
      rw [upd_same, ← e, hd]
    · rw [upd_ne z]
      exact s _ _ (by rw [upd_ne z]; exact e)
theorem _root_.K60.Sh.at_frz {C : Addr} {H : Hp} {p d : Addr} {q : Int × Int} {od : Obj} {u : HO} (h : Sh C H p q) (hd : H d = some (.frz od u)) : p ≠ d := fun z => by
  obtain ⟨dx, e⟩ := h
  rw [z, hd] at e
  cases e
theorem _root_.K60.Sh.un {C : Addr} {H : Hp} {p d : Addr} {q : Int × Int} {o : HO} (h : Sh C H p q) (n : p ≠ d) : Sh C (upd H d o) p q := by
  obtain ⟨dx, e⟩ := h
  exact ⟨dx, by rw [upd_ne n]; exact e⟩
theorem nin_take {xs : List Str} (nd : xs.Nodup) {i : Nat} {z : Str} (h : xs[i]? = some z) : z ∉ xs.take i := fun hm => by
  obtain ⟨j, hj, e⟩ := List.mem_iff_getElem.mp hm
  rw [List.getElem_take] at e
  rw [List.length_take] at hj
  have e3 : xs[j]? = xs[i]? := by rw [h, List.getElem?_eq_getElem (by omega), e]
  have := (List.getElem?_inj (by omega) nd).mp e3
  omega
/-- one more put at the end, new -/
theorem SDc.more {C : Addr} {H : Hp} {D t : Addr} {L : List Str} {c : Str → Rat} {ad : Str → Addr} {i : Nat} {z : Str} (nd : L.Nodup) (hz : L[i]? = some z) (h1 : H D = some (dctO (L.take i) fun y => .ref (ad y))) (h2 : ∀ y ∈ L.take i, Sh C H (ad y) (pr (c y))) (ht : Sh C H t (pr (c z))) :
    SDc C (upd H D (.dK (putK ((L.take i).map fun y => ((Sum.inr y : Key), V.ref (ad y))) (Sum.inr z) (.ref t)))) D (L.take (i + 1)) c := by
  have := SDc.put (x := z) (v := c z) h1 h2 ht
  rw [take_one hz]
  have ek : addK (L.take i) z = L.take i ++ [z] := by unfold addK; rw [if_neg (nin_take nd hz)]
  rw [ek] at this
  obtain ⟨a3, q1, q2⟩ := this
  refine ⟨a3, q1, fun y hy => ?_⟩
  have := q2 y hy
  unfold setc at this
  by_cases e : y = z
  · subst e
    rw [if_pos rfl] at this
    exact this
  · rw [if_neg e] at this
    exact this
section
variable {P : Program} {w : World} {K : PySem.W.Frag} {mg : Str → Option Value} {base : Heap} {f C CT : Addr} {fd : FuncData}
theorem lessR {vs : List V} {H : Hp} {Q : VK} {E : XK} (h : sp2 C (· - ·) vs H Q E) : sp_less C vs H Q E := by
  obtain ⟨p, q, r, s, n, e, hp, hq, sr, ss, n0, n9, k⟩ := h
  refine ⟨p, q, _, _, n, e, hp, hq, ⟨bd_of sr, bd_of ss, n0, n9⟩, fun t H' a b c => k t H' a b ?_⟩
  rw [KM.pr_less] at c
  exact c
def spSS (C : Addr) : Sp := fun vs H Q _ => ∃ (p : Addr) (q : Int × Int), vs = [.ref p] ∧ Sh C H p q ∧ ∀ t H', Same H H' → H t = none → Sh C H' t q → Q (.ref t) H'
theorem ok_ss (F : Dn K d_same_share f fd) (T : Cl K mg C) (M1 : MakS1 P w K mg base C) : FnOk P w K mg base CX0 4 f fd ["share"] (spSS C) := by
  refine F.ok sc_same_share (fun vs H Q E h => ?_) (fun cdv A outer s H vs Q E hr h => ?_)
  · obtain ⟨p, q, rfl, _⟩ := h
    rfl
  · obtain ⟨p, q, rfl, ⟨dp, hp⟩, hQ⟩ := h
    refine ⟨_, PSs.nox (pss_cons (ps_set (i := 1) sc_same_share.nd rfl (.inl rfl) (pe_mk M1 hr (by decide) rfl (pa_cons pe_int pa_nil)))
      (pss_cons (ps_fld (pv 1) (pe_fld (pv 0) rfl) rfl)
      (pss_cons (ps_fld (pv 1) (pe_fld (pv 0) rfl) rfl)
      (pss_one (ps_ret (pv 1)))))), ?_⟩
    intro t dt nt ndt ne
    refine mk_in (n := 10) nt ndt (by decide) (by decide) (by decide) (by decide) fun H1 s1 ht => ⟨rfl, ?_⟩
    obtain ⟨d2, ht⟩ := ht
    have hp1 := s1 _ _ hp
    have npt : p ≠ t := ne_of_none hp nt
    refine ⟨_, rfl, p, C, dp, _, _, rfl, hp1, T.cl, T.nt, shF_top q, _, rfl, t, C, d2, _, rfl, ht, T.cl, T.nt, shF_len _, ?_⟩
    rw [put_top]
    have hp2 : (upd H1 t (.ins C d2 (shF (q.1, (pr (Rat.divInt 0 1)).2)))) p = some (.ins C dp (shF q)) := by rw [upd_ne npt]; exact hp1
    refine ⟨_, rfl, p, C, dp, _, _, rfl, hp2, T.cl, T.nb, shF_bot q, _, rfl, t, C, d2, _, rfl, upd_same, T.cl, T.nb, shF_len _, ?_⟩
    rw [put_bot]
    refine ⟨_, rfl, hQ t _ (fun b o e => ?_) nt ⟨d2, upd_same⟩⟩
    have nb : b ≠ t := ne_of_none e nt
    rw [upd_ne nb, upd_ne nb]
    exact s1 _ _ e
def spTu (C : Addr) : Sp := fun vs H Q _ => ∃ (d : Addr) (L : List Str) (c : Str → Rat), vs = [.ref d] ∧ SDc C H d L c ∧ L.Nodup ∧ L.length ≤ 300 ∧ (∀ x ∈ L, Sz 3900 (c x)) ∧
  ∀ d' H', Same H H' → H d' = none → SDc C H' d' L (fun x => -(c x)) → Q (.ref d') H'
theorem ok_tu (F : Dn K d_turned f fd) (M1 : MakS1 P w K mg base C) (mL : Met P w K mg base 4 C "less" (sp2 C (· - ·)) []) : FnOk P w K mg base CX0 5 f fd ["standing"] (spTu C) := by
  refine F.ok sc_turned (fun vs H Q E h => ?_) (fun cdv A outer s H vs Q E hr h => ?_)
  · obtain ⟨d, L, c, rfl, _⟩ := h
    rfl
  · obtain ⟨d, L, c, rfl, ⟨ad, hd, hv⟩, nd, l3, hz, hQ⟩ := h
    have hu := hu_of hr
    refine ⟨_, PSs.nox (pss_one (ps_ret (pe_lock (pe_dc (own := [("name", 1)]) (g := gName 1) (tt := tYes) rfl sc_turned.nd (pi_keys (pv 0)) (blkOk_by (N := N_turned) (sc := defScope s_turned) (by decide +kernel))
      (fun _ _ _ _ _ => pg_name (i := 1) sc_turned.nd rfl (.inl rfl)) (fun _ _ _ _ _ => pts_nil) (fun _ _ _ _ _ => pv 1)
      (fun _ _ _ _ _ => pe_mt mL hr (by decide) (pe_mk M1 hr (by decide) rfl (pa_cons pe_int pa_nil)) (pa_cons (pe_dget hu (pv 0) (pv 1) (fun _ _ => rfl)) pa_nil)))))), ?_⟩
    refine ⟨d, _, hd, trivial, fun od => ?_⟩
    have hd1 : (upd H d (.frz od (dctO L fun x => .ref (ad x)))) d = some (.frz od (.dK (L.map fun x => ((Sum.inr x : Key), V.ref (ad x))))) := upd_same
    have hv1 : ∀ x ∈ L, Sh C (upd H d (.frz od (dctO L fun x => .ref (ad x)))) (ad x) (pr (c x)) := fun x hx => by
      have n := (hv x hx).at_ne hd
      obtain ⟨dx, e⟩ := hv x hx
      exact ⟨dx, by rw [upd_ne n]; exact e⟩
    have back : ∀ {H' : Hp}, Same (upd H d (.frz od (dctO L fun x => .ref (ad x)))) H' → Same H (upd H' d (dctO L fun x => .ref (ad x))) := fun {H'} s b o e => by
      by_cases z : b = d
      · subst z
        rw [upd_same, ← e, hd]
      · rw [upd_ne z]
        exact s _ _ (by rw [upd_ne z]; exact e)
    have new : ∀ {b : Addr}, (upd H d (.frz od (dctO L fun x => .ref (ad x)))) b = none → H b = none ∧ b ≠ d := fun {b} e => by
      by_cases z : b = d
      · subst z
        rw [hd1] at e
        cases e
      · rw [upd_ne z] at e
        exact ⟨e, z⟩
    generalize upd H d (.frz od (dctO L fun x => .ref (ad x))) = H1 at hd1 hv1 back new
    refine ⟨_, rfl, d, od, rfl, .inl ⟨_, hd1, fun D hD => dc_it walk_keys (fun i H2 => SDc C H2 D (L.take i) (fun x => -(c x)) ∧ Same H1 H2) ⟨⟨fun _ => 0, upd_same, fun x hx => by simp at hx⟩, same_new hD⟩ (fun i H2 _ z => z.2 _ _ hd1) ?_ ?_⟩⟩
    · rintro i x H2 H3 hi ⟨⟨a2, hdd, hval⟩, sm⟩ ⟨rfl, k, v, hk, rfl⟩
      rw [List.length_map] at hi
      rw [List.getElem?_map] at hk
      obtain ⟨z, hz0, e0⟩ := Option.map_eq_some_iff.mp hk
      cases e0
      have hzL := List.mem_of_getElem? hz0
      have nz : z ∉ L.take i := fun hm => by
        obtain ⟨j, hj, e⟩ := List.mem_iff_getElem.mp hm
        rw [List.getElem_take] at e
        rw [List.length_take] at hj
        have e3 : L[j]? = L[i]? := by rw [hz0, List.getElem?_eq_getElem (by omega), e]
        have := (List.getElem?_inj (by omega) nd).mp e3
        omega
      refine ⟨rfl, ?_⟩
      refine ⟨_, rfl, ?_⟩
      intro t dt nt ndt ne
      refine mk_in (n := 10) nt ndt (by decide) (by decide) (by decide) (by decide) fun H4 s4 ht => ⟨rfl, ?_⟩
      rw [div01] at ht
      obtain ⟨d2, htt⟩ := id ht
      have s14 := sm.trans s4
      have dg : DGet H4 d (.str z) (some (.ref (ad z))) := .inl ⟨_, Sum.inr z, .inr ⟨od, s14 _ _ hd1⟩, rfl, by rw [val_dct, if_pos hzL]⟩
      refine ⟨t, d2, _, rfl, htt, shF_no _ (by decide +kernel) (by decide +kernel), _, rfl, _, rfl, d, _, rfl, dg, ?_⟩
      refine ⟨t, ad z, 0, c z, 3900, rfl, ht, (hv1 z hzL).keep s14, sz0 (by decide), hz z hzL, by decide, by decide, fun r H5 s5 fr hr5 => ?_⟩
      have hr5 : Sh C H5 r (pr (-(c z))) := by rw [← zero_sub']; exact hr5
      have s25 := s4.trans s5
      have hD5 := s25 _ _ hdd
      refine ⟨_, Sum.inr z, rfl, hD5, by rw [List.length_map, List.length_take]; exact line_lt (by omega), ?_, fun b o e => ?_⟩
      · have := SDc.put (x := z) (v := -(c z)) hD5 (fun y hy => (hval y hy).keep s25) hr5
        rw [take_one hz0]
        have ek : addK (L.take i) z = L.take i ++ [z] := by unfold addK; rw [if_neg nz]
        rw [ek] at this
        obtain ⟨a3, q1, q2⟩ := this
        refine ⟨a3, q1, fun y hy => ?_⟩
        have := q2 y hy
        unfold setc at this
        by_cases e : y = z
        · subst e
          rw [if_pos rfl] at this
          exact this
        · rw [if_neg e] at this
          exact this
      · rw [upd_ne (ne_of_none e hD)]
        exact s25 _ _ (sm _ _ e)
    · rintro H2 ⟨⟨a2, hdd, hval⟩, sm⟩
      rw [List.length_map, List.take_length] at hdd hval
      obtain ⟨nD, nDd⟩ := new hD
      refine ⟨sm _ _ hd1, hQ D _ (back sm) nD ⟨a2, by rw [upd_ne nDd]; exact hdd, fun x hx => ?_⟩⟩
      obtain ⟨dx, e⟩ := hval x hx
      have n : a2 x ≠ d := fun z => by rw [z, sm _ _ hd1] at e; cases e
      exact ⟨dx, by rw [upd_ne n]; exact e⟩
/-- moves stand in a list -/
def MvL (C : Addr) (H : Hp) (l : Addr) (ms : List (Addr × List Str × (Str → Rat))) : Prop := H l = some (.lst (ms.map fun m => V.ref m.1)) ∧ ∀ m ∈ ms, SDc C H m.1 m.2.1 m.2.2
theorem MvL.same {H H' : Hp} {l : Addr} {ms : List (Addr × List Str × (Str → Rat))} (h : MvL C H l ms) (s : Same H H') : MvL C H' l ms := ⟨s _ _ h.1, fun m hm => (h.2 m hm).same s⟩
theorem puts_app (ms ns : List (Addr × List Str × (Str → Rat))) : puts (ms ++ ns) = puts ms ++ puts ns := by
  unfold puts
  rw [List.flatMap_append]
theorem puts_one (m : Addr × List Str × (Str → Rat)) : puts [m] = m.2.1.map fun x => (x, m.2.2 x) := by
  unfold puts
  simp
def spJo (C : Addr) : Sp := fun vs H Q _ => ∃ (d l : Addr) (L : List Str) (c : Str → Rat) (ms : List (Addr × List Str × (Str → Rat))) (n k : Nat), vs = [.ref d, .ref l] ∧ SDc C H d L c ∧ L.Nodup ∧ MvL C H l ms ∧ (∀ x ∈ L, Sz n (c x)) ∧ 0 < n ∧ (∀ p ∈ puts ms, Sz k p.2) ∧ n + (k + 1) * (puts ms).length ≤ 3900 ∧ k ≤ 3900 ∧ L.length + (puts ms).length ≤ 3000 ∧
  ∀ D H', Same H H' → H D = none → SDc C H' D (mvL (L, c) (puts ms)).1 (mvL (L, c) (puts ms)).2 → Q (.ref D) H'
theorem ok_jo (F : Dn K d_joined f fd) (M1 : MakS1 P w K mg base C) (mP : Met P w K mg base 4 C "plus" (sp2 C (· + ·)) []) (cS : Cal P w K mg base 4 "same_share" (spSS C) []) : FnOk P w K mg base CX0 5 f fd ["standing", "moves"] (spJo C) := by
  refine F.ok sc_joined (fun vs H Q E h => ?_) (fun cdv A outer s H vs Q E hr h => ?_)
  · obtain ⟨d, l, L, c, ms, n, k, rfl, _⟩ := h
    rfl
  · obtain ⟨d, l, L, c, ms, n, k, rfl, ⟨ad, hd, hv⟩, nd, hms, hz, n0, hk, hnk, hk9, hl9, hQ⟩ := h
    have hu := hu_of hr
    have gz : ∀ x, Sz n (get0 L c x) := fun x => by
      unfold get0
      split
      · rename_i hx
        exact hz x hx
      · exact sz0 n0
    refine ⟨_, PSs.nox (pss_cons (ps_lock (SDC.ps_setDc (i := 3) (own := [("name", 2)]) (g := gName 2) (tt := tYes) rfl sc_joined.nd rfl rfl (SDC.sw_true rfl rfl rfl (by decide +kernel)) (pi_keys (pv 0)) (blkOk_by (N := N_joined) (sc := defScope s_joined) (by decide +kernel))
        (fun _ _ _ _ _ => pg_name (i := 2) sc_joined.nd rfl (.inl rfl)) (fun _ _ _ _ _ => pts_nil) (fun _ _ _ _ _ => pv 2)
        (fun _ _ _ _ _ => pe_c cS hr (by decide) rfl (pa_cons (pe_dget hu (pv 0) (pv 2) (fun _ _ => rfl)) pa_nil))))
      (pss_cons (ps_for PassesOwn.never rfl (pi_list (pv 1)) (pg_name (i := 4) sc_joined.nd rfl (.inl rfl))
        (pss_one (ps_lock (ps_for PassesOwn.never rfl (pi_keys (pv 4)) (pg_name (i := 2) sc_joined.nd rfl (.inl rfl))
          (pss_one (ps_dput hu (pv 3) (pv 2) (pe_mt mP hr (by decide) (pe_dget2 hu (pv 3) (pv 2) (pe_mk M1 hr (by decide) rfl (pa_cons pe_int pa_nil)) ⟨rfl, rfl, rfl, rfl⟩) (pa_cons (pe_dget hu (pv 4) (pv 2) (fun _ _ => rfl)) pa_nil)) rfl))))))
      (pss_one (ps_ret (pv 3))))), ?_⟩
    refine ⟨d, _, hd, trivial, fun od => ?_⟩
    obtain ⟨hd1, kp1, new1, back1⟩ := lockf (C := C) hd od
    have hv1 : ∀ x ∈ L, Sh C (upd H d (.frz od (dctO L fun x => .ref (ad x)))) (ad x) (pr (c x)) := fun x hx => (hv x hx).un ((hv x hx).at_ne hd)
    generalize upd H d (.frz od (dctO L fun x => .ref (ad x))) = H1 at hd1 kp1 new1 back1 hv1
    refine ⟨_, rfl, d, od, rfl, .inl ⟨_, hd1, fun D hD => dc_it walk_keys (fun i H2 => SDc C H2 D (L.take i) c ∧ Same H1 H2) ⟨⟨fun _ => 0, upd_same, fun x hx => by simp at hx⟩, same_new hD⟩ (fun i H2 _ z => z.2 _ _ hd1) ?_ ?_⟩⟩
    · rintro i x H2 H3 hi ⟨⟨a2, hdd, hval⟩, sm⟩ ⟨eH, kk, v, hkk, rfl⟩
      have eH := eH.symm
      subst eH
      rw [List.length_map] at hi
      rw [List.getElem?_map] at hkk
      obtain ⟨z, hz0, e0⟩ := Option.map_eq_some_iff.mp hkk
      cases e0
      have hzL := List.mem_of_getElem? hz0
      refine ⟨rfl, ?_⟩
      have dg : DGet H2 d (.str z) (some (.ref (ad z))) := .inl ⟨_, Sum.inr z, .inr ⟨od, sm _ _ hd1⟩, rfl, by rw [val_dct, if_pos hzL]⟩
      refine ⟨_, rfl, _, rfl, _, rfl, d, _, rfl, dg, ad z, _, rfl, (hv1 z hzL).keep sm, fun t H4 s4 ft ht => ?_⟩
      have hD4 := s4 _ _ hdd
      refine ⟨_, Sum.inr z, rfl, hD4, by rw [List.length_map, List.length_take]; exact line_lt (by omega), SDc.more nd hz0 hD4 (fun y hy => (hval y hy).keep s4) ht, fun b o e => ?_⟩
      rw [upd_ne (ne_of_none e hD)]
      exact s4 _ _ (sm _ _ e)
    rintro H2 ⟨⟨a2, hdd, hval⟩, sm⟩
    rw [List.length_map, List.take_length] at hdd hval
    obtain ⟨nD, nDd⟩ := new1 D hD
    have s02 := back1 H2 sm
    have hd2 := sm _ _ hd1
    have S0 : SDc C (upd H2 d (dctO L fun x => .ref (ad x))) D L c := ⟨a2, by rw [upd_ne nDd]; exact hdd, fun x hx => (hval x hx).un ((hval x hx).at_frz hd2)⟩
    refine ⟨hd2, ?_⟩
    generalize upd H2 d (dctO L fun x => .ref (ad x)) = H3 at s02 S0
    clear hv1 hd1 kp1 new1 back1 hval hdd hd2 sm
    -- the moves
    refine ⟨_, rfl, l, rfl, ⟨_, SqL.of (s02 _ _ hms.1)⟩, for_list (K := K) (xs := ms.map fun m => V.ref m.1) (fun i σ H' => ∃ (v2 v4 : Option V), σ = [some (.ref d), some (.ref l), v2, some (.ref D), v4] ∧ Same H H' ∧ SDc C H' D (mvL (L, c) (puts (ms.take i))).1 (mvL (L, c) (puts (ms.take i))).2)
      ⟨_, _, rfl, s02, S0⟩ (fun i σ H' _ z => by obtain ⟨_, _, _, sm, _⟩ := z; exact SqL.of (sm _ _ hms.1)) ?_ ?_⟩
    · rintro i v σ H4 hi ⟨v2, v4, rfl, s4, S4⟩
      rw [List.getElem?_map] at hi
      obtain ⟨m, hm, rfl⟩ := Option.map_eq_some_iff.mp hi
      have hmm := List.mem_of_getElem? hm
      have hil : i < ms.length := (List.getElem?_eq_some_iff.mp hm).1
      obtain ⟨am, hmd0, hmv0⟩ := hms.2 m hmm
      have hmd := s4 _ _ hmd0
      have nDm : D ≠ m.1 := fun z => by rw [← z, nD] at hmd0; cases hmd0
      -- how many puts
      have tot : puts ms = puts (ms.take i) ++ ((m.2.1.map fun x => (x, m.2.2 x)) ++ puts (ms.drop (i + 1))) := by
        have : ms = ms.take i ++ ([m] ++ ms.drop (i + 1)) := by
          have h1 : ms[i] = m := by rw [List.getElem?_eq_getElem hil] at hm; exact Option.some.inj hm
          rw [List.singleton_append, ← h1, ← List.drop_eq_getElem_cons hil, List.take_append_drop]
        conv => lhs; rw [this]
        rw [puts_app, puts_app, puts_one]
      have tl := congrArg List.length tot
      rw [List.length_append, List.length_append, List.length_map] at tl
      refine ⟨m.1, _, hmd, trivial, fun od2 => ?_⟩
      obtain ⟨he1, kp2, new2, back2⟩ := lockf (C := C) hmd od2
      have S5 : SDc C (upd H4 m.1 (.frz od2 (dctO m.2.1 fun x => .ref (am x)))) D (mvL (L, c) (puts (ms.take i))).1 (mvL (L, c) (puts (ms.take i))).2 := by
        obtain ⟨a4, q1, q2⟩ := S4
        exact ⟨a4, kp2 _ _ q1 nDm, fun x hx => (q2 x hx).un ((q2 x hx).at_ne hmd)⟩
      have hmv1 : ∀ x ∈ m.2.1, Sh C (upd H4 m.1 (.frz od2 (dctO m.2.1 fun x => .ref (am x)))) (am x) (pr (m.2.2 x)) := fun x hx => ((hmv0 x hx).keep s4).un (((hmv0 x hx).keep s4).at_ne hmd)
      generalize upd H4 m.1 (.frz od2 (dctO m.2.1 fun x => .ref (am x))) = H5 at he1 kp2 new2 back2 S5 hmv1
      refine ⟨_, rfl, m.1, od2, rfl, .inl ⟨_, he1, for_it walk_keys (fun j σ H' => ∃ (v2 : Option V), σ = [some (.ref d), some (.ref l), v2, some (.ref D), some (.ref m.1)] ∧ (∀ b o, H5 b = some o → b ≠ D → H' b = some o) ∧ SDc C H' D (mvL (L, c) (puts (ms.take i) ++ (m.2.1.take j).map fun x => (x, m.2.2 x))).1 (mvL (L, c) (puts (ms.take i) ++ (m.2.1.take j).map fun x => (x, m.2.2 x))).2)
        ⟨_, rfl, fun b o e _ => e, by rw [List.take_zero, List.map_nil, List.append_nil]; exact S5⟩ (fun j σ H' _ z => by obtain ⟨_, _, k5, _⟩ := z; exact k5 _ _ he1 nDm.symm) ?_ ?_⟩⟩
      · rintro j x σ H6 H7 hj ⟨v2, rfl, k6, a6, hdd6, hval6⟩ ⟨eH, kk, v, hkk, rfl⟩
        have eH := eH.symm
        subst eH
        rw [List.length_map] at hj
        rw [List.getElem?_map] at hkk
        obtain ⟨z, hz0, e0⟩ := Option.map_eq_some_iff.mp hkk
        cases e0
        have hzM := List.mem_of_getElem? hz0
        obtain ⟨u, hu0⟩ : ∃ u, u = mvL (L, c) (puts (ms.take i) ++ (m.2.1.take j).map fun x => (x, m.2.2 x)) := ⟨_, rfl⟩
        have zs := mvL_sz (k := k) (puts (ms.take i) ++ (m.2.1.take j).map fun x => (x, m.2.2 x)) (L, c) n gz (fun p hp => hk p (by
          rw [tot]
          rcases List.mem_append.mp hp with q | q
          · exact List.mem_append_left _ q
          · obtain ⟨y, hy, rfl⟩ := List.mem_map.mp q
            exact List.mem_append_right _ (List.mem_append_left _ (List.mem_map.mpr ⟨y, List.mem_of_mem_take hy, rfl⟩))))
        have ul := mvL_len (puts (ms.take i) ++ (m.2.1.take j).map fun x => (x, m.2.2 x)) (L, c)
        rw [List.length_append, List.length_map, List.length_take] at zs ul
        rw [← hu0] at hdd6 hval6 zs ul
        have ul : u.1.length ≤ L.length + ((puts (ms.take i)).length + min j m.2.1.length) := ul
        have pl : (puts (ms.take i)).length + min j m.2.1.length ≤ (puts ms).length := by omega
        have mul : (k + 1) * ((puts (ms.take i)).length + min j m.2.1.length) ≤ (k + 1) * (puts ms).length := Nat.mul_le_mul_left _ pl
        have kz : Sz k (m.2.2 z) := hk (z, m.2.2 z) (by
          rw [tot]
          exact List.mem_append_right _ (List.mem_append_left _ (List.mem_map.mpr ⟨z, hzM, rfl⟩)))
        have dgm : DGet H6 m.1 (.str z) (some (.ref (am z))) := .inl ⟨_, Sum.inr z, .inr ⟨od2, k6 _ _ he1 nDm.symm⟩, rfl, by rw [val_dct, if_pos hzM]⟩
        have shm : Sh C H6 (am z) (pr (m.2.2 z)) := by
          obtain ⟨dx, e⟩ := hmv0 z hzM
          have nD2 : am z ≠ D := fun q => by rw [q, nD] at e; cases e
          obtain ⟨dx2, e2⟩ := hmv1 z hzM
          exact ⟨dx2, k6 _ _ e2 nD2⟩
        refine ⟨_, rfl, D, rfl, .inl ⟨_, .inl hdd6⟩, _, rfl, ?_⟩
        intro t dt nt ndt ne
        refine mk_in (n := 10) nt ndt (by decide) (by decide) (by decide) (by decide) fun H7 s7 ht => ⟨rfl, ?_⟩
        rw [div01] at ht
        have hD7 := s7 _ _ hdd6
        have dg7 : DGet H7 D (.str z) (valV (u.1.map fun y => ((Sum.inr y : Key), V.ref (a6 y))) (Sum.inr z)) := DGet.k (k := Sum.inr z) hD7
        rw [val_dct] at dg7
        obtain ⟨w0, hw0, sw0⟩ : ∃ w0, ((if z ∈ u.1 then some (V.ref (a6 z)) else none).getD (.ref t)) = .ref w0 ∧ Sh C H7 w0 (pr (get0 u.1 u.2 z)) := by
          unfold get0
          by_cases hzu : z ∈ u.1
          · rw [if_pos hzu, if_pos hzu]
            exact ⟨_, rfl, (hval6 z hzu).keep s7⟩
          · rw [if_neg hzu, if_neg hzu]
            exact ⟨_, rfl, ht⟩
        obtain ⟨dw, hw1⟩ := id sw0
        refine ⟨_, dg7, w0, dw, _, hw0, hw1, shF_no _ (by decide +kernel) (by decide +kernel), _, rfl, _, rfl, m.1, .ref (am z), rfl, ?_, ?_⟩
        · obtain ⟨kvs, kk2, r1, r2, r3⟩ | ⟨_, _, _, _, r2, _⟩ := dgm
          · refine .inl ⟨kvs, kk2, ?_, r2, r3⟩
            rcases r1 with r1 | ⟨o1, r1⟩
            · exact .inl (s7 _ _ r1)
            · exact .inr ⟨o1, s7 _ _ r1⟩
          · cases r2
        refine ⟨w0, am z, _, _, 3900, (by rw [hw0]; rfl), sw0, shm.keep s7, (zs z).mono (by omega), kz.mono hk9, by decide, by decide, fun r H8 s8 fr hr8 => ?_⟩
        have s68 := s7.trans s8
        have hD8 := s68 _ _ hdd6
        have fin := SDc.put (x := z) (v := get0 u.1 u.2 z + m.2.2 z) hD8 (fun y hy => (hval6 y hy).keep s68) hr8
        refine ⟨_, rfl, _, rfl, D, _, rfl, DPut.k (k := Sum.inr z) hD8 (by rw [List.length_map]; exact line_lt (by omega)), _, rfl, fun b o e nb => ?_, ?_⟩
        · rw [upd_ne nb]
          exact s68 _ _ (k6 _ _ e nb)
        · rw [take_one hz0, List.map_append, ← List.append_assoc]
          have e : mvL (L, c) ((puts (ms.take i) ++ (m.2.1.take j).map fun x => (x, m.2.2 x)) ++ [(z, m.2.2 z)]) = mv u (z, m.2.2 z) := by rw [mvL_snoc, ← hu0]
          show SDc C _ D (mvL (L, c) ((puts (ms.take i) ++ (m.2.1.take j).map fun x => (x, m.2.2 x)) ++ [(z, m.2.2 z)])).1 (mvL (L, c) ((puts (ms.take i) ++ (m.2.1.take j).map fun x => (x, m.2.2 x)) ++ [(z, m.2.2 z)])).2
          rw [e]
          exact fin
      · rintro σ H6 ⟨v2, rfl, k6, S6⟩
        rw [List.length_map, List.take_length] at S6
        have he6 := k6 _ _ he1 nDm.symm
        refine ⟨he6, _, _, rfl, fun b o e => ?_, ?_⟩
        · have nb : b ≠ D := ne_of_none e nD
          by_cases z : b = m.1
          · subst z
            rw [upd_same, ← s4 _ _ e, hmd]
          · rw [upd_ne z]
            exact k6 _ _ (kp2 _ _ (s4 _ _ e) z) nb
        · rw [take_one hm, puts_app, puts_one]
          obtain ⟨a6, q1, q2⟩ := S6
          exact ⟨a6, by rw [upd_ne nDm]; exact q1, fun x hx => (q2 x hx).un ((q2 x hx).at_frz he6)⟩
    · rintro σ H4 ⟨v2, v4, rfl, s4, S4⟩
      rw [List.length_map, List.take_length] at S4
      exact ⟨_, rfl, hQ D H4 s4 nD S4⟩
end
end K60.Q
set_option Elab.async false
set_option linter.all false
set_option maxRecDepth 100000
set_option maxHeartbeats 4000000
namespace K60.Q
open PySem PySem.Spec PyProof.Rows L2
open C8 (Cal Mak Met pe_c pe_mk pe_mt pe_mt0)
open KM (pr Sz)
/-- a hand-over: where it stands, who pays, who takes, its share -/
structure Ro where
  a : Addr
  p : Str
  t : Str
  s : Addr
  v : Rat
def mvs (rows : List Ro) : List (Str × Rat) := rows.flatMap fun r => [(r.p, r.v), (r.t, -r.v)]
theorem mvs_snoc (rows : List Ro) (r : Ro) : mvs (rows ++ [r]) = mvs rows ++ [(r.p, r.v), (r.t, -r.v)] := by
  unfold mvs
  rw [List.flatMap_append]
  simp
theorem mvs_len (rows : List Ro) : (mvs rows).length = 2 * rows.length := by
  unfold mvs
  induction rows with
  | nil => rfl
  | cons r rows ih =>
    rw [List.flatMap_cons, List.length_append, ih]
    simp
    omega
theorem sz_neg {n : Nat} {r : Rat} (h : Sz n r) : Sz n (-r) := ⟨by rw [Rat.neg_num, Int.natAbs_neg]; exact h.1, by rw [Rat.neg_den]; exact h.2⟩
theorem mvs_sz {n : Nat} {rows : List Ro} (h : ∀ r ∈ rows, Sz n r.v) : ∀ p ∈ mvs rows, Sz n p.2 := fun p hp => by
  obtain ⟨r, hr, hp⟩ := List.mem_flatMap.mp hp
  simp only [List.mem_cons, List.not_mem_nil, or_false] at hp
  rcases hp with rfl | rfl
  · exact h r hr
  · exact sz_neg (h r hr)
/-- hand-overs of Shares in a list -/
def HL (C : Addr) (H : Hp) (l : Addr) (rows : List Ro) : Prop := H l = some (.lst (rows.map fun r => V.ref r.a)) ∧ ∀ r ∈ rows, H r.a = some (.tup [.str r.p, .str r.t, .ref r.s]) ∧ Sh C H r.s (pr r.v)
theorem HL.same {C : Addr} {H H' : Hp} {l : Addr} {rows : List Ro} (h : HL C H l rows) (s : Same H H') : HL C H' l rows := ⟨s _ _ h.1, fun r hr => ⟨s _ _ (h.2 r hr).1, (h.2 r hr).2.keep s⟩⟩
theorem SDc.un {C : Addr} {H : Hp} {d l : Addr} {L : List Str} {c : Str → Rat} {xs : List V} {o : HO} (h : SDc C H d L c) (hl : H l = some (.lst xs)) : SDc C (upd H l o) d L c := by
  obtain ⟨ad, h1, h2⟩ := h
  refine ⟨ad, by rw [upd_ne fun z => by rw [z, hl] at h1; cases h1]; exact h1, fun x hx => ?_⟩
  obtain ⟨dx, e⟩ := h2 x hx
  exact ⟨dx, by rw [upd_ne fun z => by rw [z, hl] at e; cases e]; exact e⟩
/-- {x: share} -/
theorem one_dict {C : Addr} {H : Hp} {d s : Addr} {x : Str} {v : Rat} (hd : H d = none) (hs : Sh C H s (pr v)) : SDc C (upd H d (.dK (putK [] (Sum.inr x) (.ref s)))) d [x] (fun _ => v) := by
  refine ⟨fun _ => s, upd_same, fun y hy => ?_⟩
  obtain ⟨dx, e⟩ := hs
  exact ⟨dx, by rw [upd_ne (ne_of_none e hd)]; exact e⟩
section
variable {P : Program} {w : World} {K : PySem.W.Frag} {mg : Str → Option Value} {base : Heap} {f C CT : Addr} {fd : FuncData}
def spAf (C : Addr) : Sp := fun vs H Q _ => ∃ (d l : Addr) (L : List Str) (c : Str → Rat) (rows : List Ro), vs = [.ref d, .ref l] ∧ SDc C H d L c ∧ L.Nodup ∧ HL C H l rows ∧ (∀ x ∈ L, Sz 300 (c x)) ∧ (∀ r ∈ rows, Sz 300 r.v) ∧ L.length ≤ 30 ∧ rows.length ≤ 1 ∧
  ∀ D H', Same H H' → H D = none → SDc C H' D (mvL (L, c) (mvs rows)).1 (mvL (L, c) (mvs rows)).2 → Q (.ref D) H'
theorem ok_af (F : Dn K d_after f fd) (cT : Cal P w K mg base 5 "turned" (spTu C) []) (cJ : Cal P w K mg base 5 "joined" (spJo C) []) : FnOk P w K mg base CX0 6 f fd ["standing", "handed"] (spAf C) := by
  refine F.ok sc_after (fun vs H Q E h => ?_) (fun cdv A outer s H vs Q E hr h => ?_)
  · obtain ⟨d, l, L, c, rows, rfl, _⟩ := h
    rfl
  · obtain ⟨d, l, L, c, rows, rfl, hS, nd, hl, hz, hr12, ll, lr, hQ⟩ := h
    refine ⟨_, PSs.nox (pss_cons (ps_set (i := 2) sc_after.nd rfl (.inl rfl) (pe_lst pa_nil))
      (pss_cons (ps_for PassesOwn.never rfl (pi_list (pv 1)) (pg_tup rfl (pgs_cons (pg_name (i := 3) sc_after.nd rfl (.inl rfl)) (pgs_cons (pg_name (i := 4) sc_after.nd rfl (.inl rfl)) (pgs_cons (pg_name (i := 5) sc_after.nd rfl (.inl rfl)) pgs_nil))))
        (pss_cons (ps_expr (pe_bm PySem.F.plainAttrs_list PySem.F.slot_list_append PySem.F.type_list_append mt_append (pv 2) (pa_cons (pe_disp (pps_cons (pv 3) (pv 5) pps_nil) rfl rfl (by simp) (by decide)) pa_nil)))
        (pss_one (ps_expr (pe_bm PySem.F.plainAttrs_list PySem.F.slot_list_append PySem.F.type_list_append mt_append (pv 2) (pa_cons (pe_c cT hr (by decide) rfl (pa_cons (pe_disp (pps_cons (pv 4) (pv 5) pps_nil) rfl rfl (by simp) (by decide)) pa_nil)) pa_nil))))))
      (pss_one (ps_ret (pe_c cJ hr (by decide) rfl (pa_cons (pv 0) (pa_cons (pv 2) pa_nil))))))), ?_⟩
    refine ⟨by show 0 ≤ sizeLine; decide, fun ml fml => ?_⟩
    have s1 := same_new (o := .lst []) fml
    have hml : (upd H ml (.lst [])) ml = some (.lst []) := upd_same
    generalize upd H ml (.lst []) = H1 at s1 hml
    refine ⟨_, rfl, l, rfl, ⟨_, SqL.of (s1 _ _ hl.1)⟩, for_list (K := K) (xs := rows.map fun r => V.ref r.a) (fun i σ H' => ∃ (v3 v4 v5 : Option V) (ms : List (Addr × List Str × (Str → Rat))), σ = [some (.ref d), some (.ref l), some (.ref ml), v3, v4, v5] ∧ Same H H' ∧ MvL C H' ml ms ∧ ms.length = 2 * i ∧ puts ms = mvs (rows.take i))
      ⟨_, _, _, [], rfl, s1, ⟨hml, fun m hm => nomatch hm⟩, rfl, rfl⟩ (fun i σ H' _ z => by obtain ⟨_, _, _, _, _, sm, _⟩ := z; exact SqL.of (sm _ _ hl.1)) ?_ ?_⟩
    · rintro i v σ H2 hi ⟨v3, v4, v5, ms, rfl, s2, hms, hlen, hp⟩
      rw [List.getElem?_map] at hi
      obtain ⟨r, hr0, rfl⟩ := Option.map_eq_some_iff.mp hi
      have hrm := List.mem_of_getElem? hr0
      have hil : i < rows.length := (List.getElem?_eq_some_iff.mp hr0).1
      obtain ⟨ht0, hs0⟩ := hl.2 r hrm
      refine ⟨r.a, _, rfl, SqT.of (s2 _ _ ht0), rfl, _, _, rfl, _, _, rfl, _, _, rfl, rfl, ?_⟩
      refine ⟨_, rfl, .inl ⟨rfl, _, SqL.of hms.1⟩, fun d1 fd1 => ?_⟩
      have sa := same_new (o := .dK []) fd1
      refine ⟨_, rfl, _, rfl, upd_same, [(Sum.inr r.p, .ref r.s)], rfl, by show 1 ≤ 15; decide, ?_⟩
      have D1 : SDc C (upd (upd H2 d1 (.dK [])) d1 (.dK (mergeK [] [((Sum.inr r.p : Key), V.ref r.s)]))) d1 [r.p] (fun _ => r.v) := by
        have := one_dict (x := r.p) fd1 (hs0.keep s2)
        have e : upd (upd H2 d1 (.dK [])) d1 (.dK (mergeK [] [((Sum.inr r.p : Key), V.ref r.s)])) = upd H2 d1 (.dK (putK [] (Sum.inr r.p) (.ref r.s))) := by
          funext b
          by_cases z : b = d1
          · subst z; rw [upd_same, upd_same]; rfl
          · rw [upd_ne z, upd_ne z, upd_ne z]
        rw [e]
        exact this
      have s23 : Same H2 (upd (upd H2 d1 (.dK [])) d1 (.dK (mergeK [] [((Sum.inr r.p : Key), V.ref r.s)]))) := fun b o e => by
        have n := ne_of_none e fd1
        rw [upd_ne n, upd_ne n]
        exact e
      generalize upd (upd H2 d1 (.dK [])) d1 (.dK (mergeK [] [((Sum.inr r.p : Key), V.ref r.s)])) = H3 at D1 s23
      have M3 := hms.same s23
      refine ⟨ml, _, _, rfl, rfl, M3.1, by rw [List.length_map, hlen]; exact line_lt (by omega), ?_⟩
      have M4 : MvL C (upd H3 ml (.lst ((ms.map fun m => V.ref m.1) ++ [.ref d1]))) ml (ms ++ [(d1, [r.p], fun _ => r.v)]) := ⟨by rw [upd_same, List.map_append]; rfl, fun m hm => by
        rcases List.mem_append.mp hm with q | q
        · exact (M3.2 m q).un M3.1
        · rw [List.mem_singleton] at q
          subst q
          exact D1.un M3.1⟩
      have s04 : Same H (upd H3 ml (.lst ((ms.map fun m => V.ref m.1) ++ [.ref d1]))) := fun b o e => by
        rw [upd_ne (ne_of_none e fml)]
        exact s23 _ _ (s2 _ _ e)
      generalize upd H3 ml (.lst ((ms.map fun m => V.ref m.1) ++ [.ref d1])) = H4 at M4 s04
      refine ⟨_, rfl, .inl ⟨rfl, _, SqL.of M4.1⟩, fun d2 fd2 => ?_⟩
      refine ⟨_, rfl, _, rfl, upd_same, [(Sum.inr r.t, .ref r.s)], rfl, by show 1 ≤ 15; decide, ?_⟩
      have D2 : SDc C (upd (upd H4 d2 (.dK [])) d2 (.dK (mergeK [] [((Sum.inr r.t : Key), V.ref r.s)]))) d2 [r.t] (fun _ => r.v) := by
        have := one_dict (x := r.t) fd2 (hs0.keep s04)
        have e : upd (upd H4 d2 (.dK [])) d2 (.dK (mergeK [] [((Sum.inr r.t : Key), V.ref r.s)])) = upd H4 d2 (.dK (putK [] (Sum.inr r.t) (.ref r.s))) := by
          funext b
          by_cases z : b = d2
          · subst z; rw [upd_same, upd_same]; rfl
          · rw [upd_ne z, upd_ne z, upd_ne z]
        rw [e]
        exact this
      have s45 : Same H4 (upd (upd H4 d2 (.dK [])) d2 (.dK (mergeK [] [((Sum.inr r.t : Key), V.ref r.s)]))) := fun b o e => by
        have n := ne_of_none e fd2
        rw [upd_ne n, upd_ne n]
        exact e
      generalize upd (upd H4 d2 (.dK [])) d2 (.dK (mergeK [] [((Sum.inr r.t : Key), V.ref r.s)])) = H5 at D2 s45
      refine ⟨d2, [r.t], fun _ => r.v, rfl, D2, by simp, by show 1 ≤ 300; decide, fun x _ => (hr12 r hrm).mono (by decide), fun d3 H6 s6 fd3 D3 => ?_⟩
      have M6 := M4.same (s45.trans s6)
      refine ⟨ml, _, _, rfl, rfl, M6.1, by rw [List.length_map, List.length_append, hlen]; exact line_lt (by show 2 * i + 1 ≤ 100000; omega), ?_⟩
      refine ⟨_, _, _, (ms ++ [(d1, [r.p], fun _ => r.v)]) ++ [(d3, [r.t], fun x => -(r.v))], rfl, fun b o e => ?_, ⟨?_, fun m hm => ?_⟩, ?_, ?_⟩
      · rw [upd_ne (ne_of_none e fml)]
        exact s6 _ _ (s45 _ _ (s04 _ _ e))
      · simp only [upd_same, List.map_append, List.map_cons, List.map_nil]
      · rcases List.mem_append.mp hm with q | q
        · exact (M6.2 m q).un M6.1
        · rw [List.mem_singleton] at q
          subst q
          exact D3.un M6.1
      · rw [List.length_append, List.length_append, hlen]
        show 2 * i + 1 + 1 = 2 * (i + 1)
        omega
      · rw [puts_app, puts_app, hp, take_one hr0, mvs_snoc, puts_one, puts_one, List.append_assoc]
        rfl
    · rintro σ H2 ⟨v3, v4, v5, ms, rfl, s2, hms, hlen, hp⟩
      rw [List.length_map, List.take_length] at hp
      have pl : (puts ms).length ≤ 2 := by
        rw [hp, mvs_len]
        omega
      have pz : ∀ p ∈ puts ms, Sz 300 p.2 := by
        rw [hp]
        exact mvs_sz hr12
      refine ⟨_, rfl, _, rfl, d, ml, L, c, ms, 300, 300, rfl, hS.same s2, nd, hms, hz, by decide, pz, by omega, by decide, by omega, fun D H3 s3 fD hD => ?_⟩
      rw [hp] at hD
      exact hQ D H3 (s2.trans s3) (s2.free fD) hD
end
end K60.Q
set_option Elab.async false
set_option linter.all false
set_option maxRecDepth 100000
set_option maxHeartbeats 4000000
namespace K60.Q
open PySem PySem.Spec PyProof.Rows L2
open C8 (Cal Mak Met pe_c pe_mk pe_mt pe_mt0)
open KM (pr Sz)
theorem paired_map {α : Type} {R : Addr → Key × V → Prop} {g : α → Addr} {k : α → Key × V} : ∀ {l : List α}, (∀ x ∈ l, R (g x) (k x)) → Paired R (l.map g) (l.map k)
  | [], _ => .nil
  | x :: l, h => .cons (h x List.mem_cons_self) (paired_map fun y hy => h y (List.mem_cons_of_mem _ hy))
theorem pr_neg (v : Rat) : (0 - (pr v).1, (pr v).2) = pr (-v) := by
  show (0 - v.num, (v.den : Int)) = ((-v).num, ((-v).den : Int))
  rw [Rat.neg_num, Rat.neg_den, Int.zero_sub]
/-- hand-overs of fractions in a list -/
def TL (H : Hp) (l : Addr) (rows : List Ro) : Prop := H l = some (.lst (rows.map fun r => V.ref r.a)) ∧ ∀ r ∈ rows, H r.a = some (.tup [.str r.p, .str r.t, .ref r.s]) ∧ H r.s = some (tupP (pr r.v))
theorem TL.same {H H' : Hp} {l : Addr} {rows : List Ro} (h : TL H l rows) (s : Same H H') : TL H' l rows := ⟨s _ _ h.1, fun r hr => ⟨s _ _ (h.2 r hr).1, s _ _ (h.2 r hr).2⟩⟩
theorem mvs_pre {rows : List Ro} {i : Nat} {r : Ro} (h : rows[i]? = some r) : mvs (rows.take i) <+: mvs rows ∧ (mvs (rows.take i) ++ [(r.p, r.v)]) <+: mvs rows := by
  have e : rows = rows.take i ++ r :: rows.drop (i + 1) := by
    have h2 := List.getElem?_eq_some_iff.mp h
    obtain ⟨hl, e⟩ := h2
    rw [← e, List.getElem_cons_drop, List.take_append_drop]
  have e2 : mvs rows = mvs (rows.take i) ++ ([(r.p, r.v), (r.t, -r.v)] ++ mvs (rows.drop (i + 1))) := by
    conv => lhs; rw [e]
    unfold mvs
    rw [List.flatMap_append, List.flatMap_cons]
  refine ⟨⟨_, e2.symm⟩, ⟨(r.t, -r.v) :: mvs (rows.drop (i + 1)), ?_⟩⟩
  rw [e2]
  simp
end K60.Q
set_option Elab.async false
set_option linter.all false
set_option maxRecDepth 100000
set_option maxHeartbeats 4000000
namespace K60.Q
open PySem PySem.Spec PyProof.Rows L2
open C8 (Cal Mak Met pe_c pe_mk pe_mt pe_mt0)
open KM (pr Sz)
open SX (S)
open RPO
/-! ### how long the texts are -/
theorem rpS_len {r : Rat} {n : Nat} (sr : Sz n r) (n0 : 0 < n) (n9 : n ≤ 1900) : (rpS r).length ≤ 2 * n + 10 := by
  have k1 : (TX.intL r.num).length ≤ n + 1 := TX.intL_pow sr.1 n0
  have k2 := TX.numL_pow sr.2 n0
  have t1 : Str.ofString (toString (pr r).1) = SX.S (TX.intL r.num) := TX.tl_int r.num
  have t2 : Str.ofString (toString (pr r).2) = SX.S (TL.numL r.den) := SX.num_S r.den
  have c1 : Str.empty ++ Str.ofString "Share(" = SX.S [83, 104, 97, 114, 101, 40] := by decide +kernel
  have c2 : Str.ofString ", " = SX.S [44, 32] := by decide +kernel
  have c3 : Str.ofString ")" = SX.S [41] := by decide +kernel
  unfold rpS
  rw [c1, t1, c2, t2, c3, SX.S_cat, SX.S_cat, SX.S_cat, SX.S_cat, SX.S_len]
  simp
  omega
theorem rt_len {z : List Nat} (h : NM.ok z) : (reprText (S z)).length ≤ 133 := by
  have ok : PyData.strOk (S z) = true := by
    unfold PyData.strOk
    rw [← Array.all_toList, List.all_eq_true]
    intro c hc
    have := h.2.2 c hc
    exact decide_eq_true (by omega)
  have hc : (S z).cps.toList.all (fun c => decide (c < 16 ^ 8)) = true := by
    rw [List.all_eq_true]
    intro c hc
    have := h.2.2 c hc
    exact decide_eq_true (by omega)
  have h1 := PyData.shown_le 13 (by decide) (.str (S z)) (by simp only [PyData.leavesShort]; exact hc)
  have e : (PyData.str (S z)).shown = reprText (S z) := by simp only [PyData.shown]
  have w1 : (PyData.str (S z)).weight = z.length := by simp only [PyData.weight]; rfl
  have := h.2.1
  rw [e] at h1
  omega
theorem piled_le {ts : List Str} {n : Nat} (h : ∀ t ∈ ts, t.length ≤ n) : piled ts ≤ (n + 2) * ts.length := by
  induction ts with
  | nil => exact Nat.zero_le _
  | cons t ts ih =>
    rw [piled_cons, List.length_cons, Nat.mul_add]
    have := h t List.mem_cons_self
    have := ih fun x hx => h x (List.mem_cons_of_mem _ hx)
    omega
theorem join_le (ts : List Str) : (Str.join ", " ts).length ≤ piled ts := by
  by_cases h : ts = []
  · subst h
    decide
  · have := join_length_add ts h
    omega
theorem tt_le (ts : List Str) : (tupleText ts).length ≤ piled ts + 3 := by
  unfold tupleText
  rw [PySem.strLen_append, PySem.strLen_append]
  have e1 : ((("(" : String) : Str)).length = 1 := rfl
  have e3 : (((if ts.length == 1 then ",)" else ")" : String) : Str)).length ≤ 2 := by split <;> decide
  rw [e1]
  have := join_le ts
  omega
theorem dt_le (ps : List Str) : (dictText ps).length ≤ piled ps + 2 := by
  unfold dictText
  rw [PySem.strLen_append, PySem.strLen_append]
  have e1 : ((("{" : String) : Str)).length = 1 := rfl
  have e2 : ((("}" : String) : Str)).length = 1 := rfl
  rw [e1, e2]
  have := join_le ps
  omega
theorem lt_le (ts : List Str) : (listText ts).length ≤ piled ts + 2 := by
  unfold listText
  rw [PySem.strLen_append]
  have e2 : ((("]" : String) : Str)).length = 1 := rfl
  have e1 : ((("[" : String) : Str)).length = 1 := rfl
  have h := textFrom_len_le ts 0 "["
  have hp : piled ts = (ts.map (·.length)).sum + 2 * ts.length := by
    clear h
    induction ts with
    | nil => rfl
    | cons t ts ih => rw [piled_cons, ih, List.map_cons, List.sum_cons, List.length_cons]; omega
  rw [e1] at h
  rw [e2]
  omega
/-! ### the text of the dict -/
def entT (c : Str → Rat) (x : Str) : Str := reprText x ++ ": " ++ rpS (c x)
def Nmd (x : Str) : Prop := ∃ l, x = S l ∧ NM.ok l
theorem dict_len {L : List Str} {c : Str → Rat} (ll : L.length ≤ 30) (nL : ∀ x ∈ L, Nmd x) (hz : ∀ x ∈ L, Sz 20 (c x)) : (dictText (L.map (entT c))).length ≤ sizeLine := by
  have h1 := dt_le (L.map (entT c))
  have h2 := piled_le (ts := L.map (entT c)) (n := 185) fun t ht => by
    obtain ⟨x, hx, rfl⟩ := List.mem_map.mp ht
    obtain ⟨l, rfl, ok⟩ := nL x hx
    unfold entT
    rw [PySem.strLen_append, PySem.strLen_append]
    have a := rt_len ok
    have b := rpS_len (hz _ hx) (by decide) (by decide)
    have e : (((": " : String) : Str)).length = 2 := rfl
    omega
  rw [List.length_map] at h2
  have := Nat.mul_le_mul_left (185 + 2) ll
  have := sizeLine_eq
  omega
section
variable {X : Cx} {C : Addr} {k n : Nat}
theorem rp_share {outs : List Addr} {H : Hp} {p : Addr} {r : Rat} (Sp : OW.Spc X.prog X.w X.K X.mg X.base k C "__repr__" (spStr C rpS)) (kn : k ≤ n) (h : Sh C H p (pr r)) (z : Sz 20 r) (no : p ∉ outs) : RpU X n outs H (.ref p) (rpS r) := by
  obtain ⟨dx, hp⟩ := h
  exact RpU.own Sp hp no (fun H' hp' => ⟨p, r, 20, rfl, ⟨dx, hp'⟩, z, by decide, by decide, rfl, fun a o e => e⟩) kn
theorem rp_ent {outs : List Addr} {H : Hp} {g : Str → V} {t : Str → Str} : ∀ {l : List Str}, (∀ x ∈ l, RpU X n outs H (g x) (t x)) → RpEnt X n outs H (l.map fun x => ((Sum.inr x : Key), g x)) (l.map fun x => reprText x ++ ": " ++ t x)
  | [], _ => .nil
  | x :: l, h => .cons .str (h x List.mem_cons_self) (rp_ent fun y hy => h y (List.mem_cons_of_mem _ hy))
theorem rp_dict {H : Hp} {d : Addr} {L : List Str} {c : Str → Rat} {ad : Str → Addr} (Sp : OW.Spc X.prog X.w X.K X.mg X.base k C "__repr__" (spStr C rpS)) (kn : k ≤ n) (hd1 : H d = some (dctO L fun x => .ref (ad x))) (hd2 : ∀ x ∈ L, Sh C H (ad x) (pr (c x))) (hz : ∀ x ∈ L, Sz 20 (c x)) :
    RpEnt X n [d] H (L.map fun x => ((Sum.inr x : Key), V.ref (ad x))) (L.map (entT c)) := rp_ent (t := fun x => rpS (c x)) fun x hx => rp_share Sp kn (hd2 x hx) (hz x hx) fun m => by
  have e := List.mem_singleton.mp m
  obtain ⟨dx, e2⟩ := hd2 x hx
  rw [e, hd1] at e2
  cases e2
end
end K60.Q
set_option Elab.async false
set_option linter.all false
set_option maxRecDepth 100000
set_option maxHeartbeats 4000000
namespace K60.Q
open PySem PySem.Spec PyProof.Rows L2
open C8 (Cal Mak Met pe_c pe_mk pe_mt pe_mt0)
open KM (pr Sz)
section
variable {P : Program} {w : World} {K : PySem.W.Frag} {mg : Str → Option Value} {base : Heap} {f C : Addr} {fd : FuncData}
def sp_below (C : Addr) : Sp := fun vs H Q _ => ∃ (p q : Addr) (a b : Int × Int) (n : Nat), vs = [.ref p, .ref q] ∧ Sh C H p a ∧ Sh C H q b ∧ two n a b ∧ Q (.bl (decide (a.1 * b.2 < b.1 * a.2))) H
theorem ok_below (F : Dn K d_Share_below f fd) (T : Cl K mg C) : FnOk P w K mg base CX0 1 f fd ["self", "other"] (sp_below C) := by
  refine F.ok sc_Share_below (fun vs H Q E h => ?_) (fun cdv A outer s H vs Q E hr h => ?_)
  · obtain ⟨p, q, a, b, n, rfl, _⟩ := h
    rfl
  · obtain ⟨p, q, a, b, n, rfl, ⟨dp, hp⟩, ⟨dq, hq⟩, ⟨ba, bb, hn0, hn9⟩, hQ⟩ := h
    refine ⟨_, PSs.nox (pss_one (ps_ret (pe_cmpR op_lt (pe_op op_mulW (pe_fld (pv 0) rfl) (pe_fld (pv 1) rfl)) (pe_op op_mulW (pe_fld (pv 1) rfl) (pe_fld (pv 0) rfl)) (nomark _)))), ?_⟩
    refine ⟨_, rfl, p, C, dp, _, _, rfl, hp, T.cl, T.nt, shF_top a, _, rfl, q, C, dq, _, _, rfl, hq, T.cl, T.nb, shF_bot b, _, _, rfl, rfl, wide_mul ba.1 bb.2.2 hn0 hn0 (by omega), ?_⟩
    exact ⟨_, rfl, q, C, dq, _, _, rfl, hq, T.cl, T.nt, shF_top b, _, rfl, p, C, dp, _, _, rfl, hp, T.cl, T.nb, shF_bot a, _, _, rfl, rfl, wide_mul bb.1 ba.2.2 hn0 hn0 (by omega), _, _, rfl, rfl, hQ⟩
def spLt (C : Addr) : Sp := fun vs H Q _ => ∃ (p q : Addr) (r s : Rat) (n : Nat), vs = [.ref p, .ref q] ∧ Sh C H p (pr r) ∧ Sh C H q (pr s) ∧ Sz n r ∧ Sz n s ∧ 0 < n ∧ n ≤ 4000 ∧ Q (.bl (decide (r < s))) H
theorem belowR {vs : List V} {H : Hp} {Q : VK} {E : XK} (h : spLt C vs H Q E) : sp_below C vs H Q E := by
  obtain ⟨p, q, r, s, n, e, hp, hq, sr, ss, n0, n9, k⟩ := h
  refine ⟨p, q, _, _, n, e, hp, hq, ⟨bd_of sr, bd_of ss, n0, n9⟩, ?_⟩
  have : decide ((pr r).1 * (pr s).2 < (pr s).1 * (pr r).2) = decide (r < s) := decide_eq_decide.mpr (KM.pr_lt r s)
  rw [this]
  exact k
end
end K60.Q
set_option Elab.async false
set_option linter.all false
set_option maxRecDepth 100000
set_option maxHeartbeats 4000000
namespace K60.Q
open PySem PySem.Spec PyProof.Rows L2
open C8 (Cal Mak Met pe_c pe_mk pe_mt pe_mt0)
open KM (pr Sz)
section
variable {P : Program} {w : World} {K : PySem.W.Frag} {mg : Str → Option Value} {base : Heap} {f C : Addr} {fd : FuncData}
/-! ### total -/
/-- the sum from the left -/
def sumR (rs : List Rat) : Rat := rs.foldl (· + ·) 0
theorem fold_from (a : Rat) : ∀ rs : List Rat, rs.foldl (· + ·) a = a + sumR rs
  | [] => by show a = a + 0; rw [Rat.add_zero]
  | r :: rs => by
    show rs.foldl (· + ·) (a + r) = a + rs.foldl (· + ·) (0 + r)
    rw [fold_from (a + r) rs, fold_from (0 + r) rs, Rat.zero_add, Rat.add_assoc]
theorem sumR_app (xs ys : List Rat) : sumR (xs ++ ys) = sumR xs + sumR ys := by
  unfold sumR
  rw [List.foldl_append]
  exact fold_from _ ys
theorem sumR_cons (r : Rat) (rs : List Rat) : sumR (r :: rs) = r + sumR rs := by
  have := sumR_app [r] rs
  rw [List.singleton_append] at this
  rw [this]
  show (0 + r) + _ = _
  rw [Rat.zero_add]
theorem sumR_rev : ∀ rs : List Rat, sumR rs.reverse = sumR rs
  | [] => rfl
  | r :: rs => by
    rw [List.reverse_cons, sumR_app, sumR_rev rs, sumR_cons r rs, Rat.add_comm]
    show (0 + r) + _ = _
    rw [Rat.zero_add]
theorem sz_sum {k : Nat} : ∀ {rs : List Rat}, (∀ r ∈ rs, Sz k r) → Sz (1 + (k + 1) * rs.length) (sumR rs) := by
  intro rs
  induction rs with
  | nil =>
    intro _
    refine ⟨Nat.two_pow_pos _, ?_⟩
    show 1 < 2 ^ (1 + (k + 1) * 0)
    simp
  | cons r rs ih =>
    intro h
    rw [sumR_cons]
    have h1 := h r (List.mem_cons_self ..)
    have h2 := ih fun x hx => h x (List.mem_cons_of_mem _ hx)
    refine (KM.sz_plus h1 h2).1.mono ?_
    rw [List.length_cons, Nat.mul_add]
    omega
/-- a list of Shares at l -/
def ShL (K : PySem.W.Frag) (C : Addr) (H : Hp) (l : Addr) (L : List (Addr × Rat)) : Prop := SqL K H l (L.map fun x => V.ref x.1) ∧ ∀ x ∈ L, Sh C H x.1 (pr x.2)
theorem ShL.keep {H H' : Hp} {l : Addr} {L : List (Addr × Rat)} (s : Same H H') (h : ShL K C H l L) : ShL K C H' l L := ⟨s.seq h.1, fun x hx => (h.2 x hx).keep s⟩
def ratsOf (L : List (Addr × Rat)) : List Rat := L.map (·.2)
def spTotal (K : PySem.W.Frag) (C : Addr) : Sp := fun vs H Q _ => ∃ (l : Addr) (L : List (Addr × Rat)) (n : Nat), vs = [.ref l, .int 0] ∧ ShL K C H l L ∧ (∀ x ∈ L, Sz n x.2) ∧ (n + 1) * L.length ≤ 3800 ∧ n ≤ 3800 ∧
  ∀ t H', Same H H' → H t = none → Sh C H' t (pr (sumR (ratsOf L))) → Q (.ref t) H'
theorem ok_total (F : Dn K d_total f fd) (M1 : MakS1 P w K mg base C) (mp : Met P w K mg base 4 C "plus" (sp2 C (· + ·)) []) : FnOk P w K mg base CX0 5 f fd ["shares", "start"] (spTotal K C) := by
  refine F.ok sc_total (fun vs H Q E h => ?_) (fun cdv A outer s H vs Q E hr h => ?_)
  · obtain ⟨l, L, n, rfl, _⟩ := h
    rfl
  · obtain ⟨l, L, n, rfl, hL, hS, hlen, hn9, hQ⟩ := h
    refine ⟨_, PSs.nox (pss_cons (ps_set (i := 2) sc_total.nd rfl (.inl rfl) (pe_mk M1 hr (by decide) rfl (pa_cons (pv 1) pa_nil)))
      (pss_cons (ps_for PassesOwn.never rfl (pi_list (pv 0)) (pg_name (i := 3) sc_total.nd rfl (.inl rfl))
        (pss_one (ps_set (i := 2) sc_total.nd rfl (.inl rfl) (pe_mt mp hr (by decide) (pv 2) (pa_cons (pv 3) pa_nil)))))
      (pss_one (ps_ret (pv 2))))), ?_⟩
    refine ⟨_, rfl, ?_⟩
    intro p pd np nd ne
    refine mk_in (n := 1) np nd (by decide) (by decide) (by decide) (by decide) fun H1 s1 hp => ⟨rfl, ?_⟩
    have z0 : Rat.divInt 0 1 = 0 := by rfl
    rw [z0] at hp
    refine ⟨_, rfl, l, rfl, ⟨_, s1.seq hL.1⟩, for_list (K := K) (xs := L.map fun x => V.ref x.1) (fun i σ H2 => ∃ (q : Addr) (v : Option V), σ = [some (.ref l), some (.int 0), some (.ref q), v] ∧ Same H H2 ∧ H q = none ∧ Sh C H2 q (pr (sumR (ratsOf (L.take i)))))
      ⟨p, none, rfl, s1, np, hp⟩ (fun i σ H2 _ z => by obtain ⟨q, v, _, s2, _⟩ := z; exact s2.seq hL.1) ?_ ?_⟩
    · rintro i y σ H2 hi ⟨q, v, rfl, s2, fq, hq⟩
      rw [List.getElem?_map] at hi
      cases hx : L[i]? with
      | none =>
        rw [hx] at hi
        cases hi
      | some x =>
        rw [hx] at hi
        cases (Option.some.inj hi : V.ref x.1 = y)
        have hm : x ∈ L := List.mem_of_getElem? hx
        have hil : i < L.length := (List.getElem?_eq_some_iff.mp hx).1
        have et : L.take (i + 1) = L.take i ++ [x] := by rw [List.take_add_one, hx]; rfl
        have szt : Sz 3900 (sumR (ratsOf (L.take i))) := by
          refine (sz_sum (k := n) fun r hr => ?_).mono ?_
          · obtain ⟨x', hx', rfl⟩ := List.mem_map.mp hr
            exact hS x' (List.mem_of_mem_take hx')
          · unfold ratsOf
            rw [List.length_map, List.length_take]
            have := Nat.mul_le_mul_left (n + 1) (Nat.min_le_right i L.length)
            omega
        obtain ⟨dq, hq1⟩ := id hq
        refine ⟨_, rfl, q, dq, _, rfl, hq1, shF_no _ (by decide +kernel) (by decide +kernel), _, rfl, q, x.1, _, x.2, 3900, rfl, hq, (hL.2 x hm).keep s2, szt, (hS x hm).mono (by omega), by decide, by decide, fun t H3 s3 ft ht => ?_⟩
        refine ⟨t, _, rfl, s2.trans s3, s2.free ft, ?_⟩
        have er : sumR (ratsOf (L.take i)) + x.2 = sumR (ratsOf (L.take (i + 1))) := by
          rw [et]
          unfold ratsOf
          rw [List.map_append, sumR_app]
          show _ = _ + (0 + x.2)
          rw [Rat.zero_add]
        rw [← er]
        exact ht
    · rintro σ H2 ⟨q, v, rfl, s2, fq, hq⟩
      rw [List.length_map, List.take_length] at hq
      exact ⟨_, rfl, hQ q H2 s2 fq hq⟩
end
end K60.Q
set_option linter.all false
set_option Elab.async false
/-! IO: names put in order by worths, one behind another. -/
namespace IO
open PySem
/-- x is ahead of y, as texts -/
def slt (x y : Str) : Prop := x.cps.toList < y.cps.toList
instance (x y : Str) : Decidable (slt x y) := inferInstanceAs (Decidable (x.cps.toList < y.cps.toList))
theorem slt_trans_not {x y z : Str} (h1 : ¬ slt y x) (h2 : ¬ slt z y) : ¬ slt z x := by
  have a : x.cps.toList ≤ y.cps.toList := h1
  have b : y.cps.toList ≤ z.cps.toList := h2
  exact List.le_trans a b
theorem slt_antisymm {x y : Str} (h1 : ¬ slt y x) (h2 : ¬ slt x y) : x = y := by
  have a : x.cps.toList ≤ y.cps.toList := h1
  have b : y.cps.toList ≤ x.cps.toList := h2
  exact TL.ext_tl (List.le_antisymm a b)
theorem rising : ∀ (l : List Str) (p : Str), PyProof.Rows.risingS p l = true → (p :: l).Pairwise fun a b => ¬ slt b a
  | [], p, _ => List.pairwise_singleton ..
  | x :: r, p, h => by
    have h' : (!PySem.Spec.ltCps x.cps.toList p.cps.toList && PyProof.Rows.risingS x r) = true := h
    rw [Bool.and_eq_true, PyProof.Rows.ltCps_eq] at h'
    have h1 : ¬ slt x p := by
      have := h'.1
      simpa [slt] using this
    have ih := rising r x h'.2
    refine List.pairwise_cons.mpr ⟨fun y hy => ?_, ih⟩
    rcases List.mem_cons.mp hy with e | hy
    · rw [e]; exact h1
    · exact slt_trans_not h1 ((List.pairwise_cons.mp ih).1 y hy)
theorem sorted_pw {l : List Str} (h : PyProof.Rows.sortedS l = true) : l.Pairwise fun a b => ¬ slt b a := by
  cases l with
  | nil => exact List.Pairwise.nil
  | cons x r => exact rising r x h
/-- two lists in order, of the same texts, are one -/
theorem sorted_same {l m : List Str} (h1 : l.Pairwise fun a b => ¬ slt b a) (h2 : m.Pairwise fun a b => ¬ slt b a) (p : l.Perm m) : l = m :=
  List.Perm.eq_of_pairwise (le := fun a b => ¬ slt b a) (fun a b _ _ x y => slt_antisymm x y) h1 h2 p
/-- by worths, alike ones by names -/
def le (ρ : Str → Rat) (x y : Str) : Prop := ρ x < ρ y ∨ (ρ x = ρ y ∧ ¬ slt y x)
theorem le_rat {ρ : Str → Rat} {x y : Str} (h : le ρ x y) : ρ x ≤ ρ y := by
  rcases h with h | h
  · exact Rat.le_of_lt h
  · rw [h.1]; exact Rat.le_refl
theorem put_in {ρ : Str → Rat} {zs : List Str} {x : Str} {j : Nat} (hz : zs.Pairwise (le ρ)) (hx : ∀ z ∈ zs, ¬ slt x z) (hj : j ≤ zs.length) (hi : ∀ z ∈ zs.drop j, ρ x < ρ z) (lo : ∀ z ∈ zs.take j, ρ z ≤ ρ x) :
    (zs.take j ++ [x] ++ zs.drop j).Pairwise (le ρ) := by
  have h0 := hz
  rw [← List.take_append_drop j zs] at h0
  obtain ⟨h1, h2, h3⟩ := List.pairwise_append.mp h0
  rw [List.append_assoc]
  refine List.pairwise_append.mpr ⟨h1, ?_, fun a ha b hb => ?_⟩
  · exact List.pairwise_cons.mpr ⟨fun b hb => .inl (hi b hb), h2⟩
  · rcases List.mem_cons.mp hb with e | hb
    · subst e
      rcases Rat.le_iff_lt_or_eq.mp (lo a ha) with h | h
      · exact .inl h
      · exact .inr ⟨h, hx a (List.mem_of_mem_take ha)⟩
    · exact h3 a ha b hb
theorem put_perm {zs : List Str} {x : Str} (j : Nat) : (zs.take j ++ [x] ++ zs.drop j).Perm (x :: zs) := by
  rw [List.append_assoc]
  have h : (zs.take j ++ ([x] ++ zs.drop j)).Perm (x :: (zs.take j ++ zs.drop j)) := List.perm_middle
  rw [List.take_append_drop] at h
  exact h
end IO
set_option Elab.async false
set_option linter.all false
set_option maxRecDepth 100000
set_option maxHeartbeats 4000000
namespace K60.Q
open PySem PySem.Spec PyProof.Rows L2
open C8 (Cal Mak Met pe_c pe_mk pe_mt pe_mt0)
open KM (pr Sz)
section
variable {P : Program} {w : World} {K : PySem.W.Frag} {mg : Str → Option Value} {base : Heap} {f C : Addr} {fd : FuncData}
/-- a dict from names to Shares: who isn't in it has nought -/
def ShD (C : Addr) (H : Hp) (d : Addr) (kvs : List (Key × V)) (ρ : Str → Rat) : Prop := H d = some (.dK kvs) ∧ (∀ x v, valV kvs (Sum.inr x) = some v → ∃ p, v = .ref p ∧ Sh C H p (pr (ρ x))) ∧ ∀ x, valV kvs (Sum.inr x) = none → ρ x = 0
theorem ShD.keep {H H' : Hp} {d : Addr} {kvs : List (Key × V)} {ρ : Str → Rat} (s : Same H H') (h : ShD C H d kvs ρ) : ShD C H' d kvs ρ :=
  ⟨s _ _ h.1, fun x v e => let ⟨p, e1, e2⟩ := h.2.1 x v e; ⟨p, e1, e2.keep s⟩, h.2.2⟩
/-- what get tells -/
theorem ShD.get {H : Hp} {d n0 : Addr} {kvs : List (Key × V)} {ρ : Str → Rat} (h : ShD C H d kvs ρ) (h0 : Sh C H n0 (pr 0)) (x : Str) : ∃ p, ((valV kvs (Sum.inr x)).getD (.ref n0)) = .ref p ∧ Sh C H p (pr (ρ x)) := by
  cases e : valV kvs (Sum.inr x) with
  | none =>
    rw [h.2.2 x e]
    exact ⟨n0, rfl, h0⟩
  | some v =>
    obtain ⟨p, rfl, hp⟩ := h.2.1 x v e
    exact ⟨p, rfl, hp⟩
def spInOrder (K : PySem.W.Frag) (C : Addr) : Sp := fun vs H Q _ => ∃ (l d : Addr) (xs : List Str) (kvs : List (Key × V)) (ρ : Str → Rat) (n : Nat), vs = [.ref l, .ref d] ∧ SqL K H l (xs.map V.str) ∧ xs.length < 64 ∧ ShD C H d kvs ρ ∧ (∀ x, Sz n (ρ x)) ∧ 0 < n ∧ n ≤ 4000 ∧
  ∀ (o : Addr) (zs : List Str) (H' : Hp), Same H H' → H o = none → H' o = some (.lst (zs.map V.str)) → zs.Perm xs → zs.Pairwise (IO.le ρ) → Q (.ref o) H'
theorem ok_in_order (F : Dn K d_in_order f fd) (bl : Bl mg) (bs : mg "sorted" = none) (M1 : MakS1 P w K mg base C) (mb : Met P w K mg base 1 C "below" (spLt C) []) : FnOk P w K mg base CX0 4 f fd ["names", "shares"] (spInOrder K C) := by
  refine F.ok sc_in_order (fun vs H Q E h => ?_) (fun cdv A outer s H vs Q E hr h => ?_)
  · obtain ⟨l, d, xs, kvs, ρ, n, rfl, _⟩ := h
    rfl
  · obtain ⟨l, d, xs, kvs, ρ, n, rfl, hl, hlen, hd, hS, n0, n9, hQ⟩ := h
    have hu := hu_of hr
    refine ⟨_, PSs.nox (pss_cons (ps_set (i := 2) sc_in_order.nd rfl (.inl rfl) (pe_mk M1 hr (by decide) rfl (pa_cons pe_int pa_nil)))
      (pss_cons (ps_set (i := 3) sc_in_order.nd rfl (.inl rfl) (pe_lst pa_nil))
      (pss_cons (ps_for PassesOwn.never rfl (pi_list (pe_callB cr_sortedS rfl bs boot_sorted (pa_cons (pv 0) pa_nil))) (pg_name (i := 4) sc_in_order.nd rfl (.inl rfl))
        (pss_cons (ps_set (i := 5) sc_in_order.nd rfl (.inl rfl) (pe_dget2 hu (pv 1) (pv 4) (pv 2) ⟨rfl, rfl, rfl, rfl⟩))
        (pss_cons (ps_set (i := 6) sc_in_order.nd rfl (.inl rfl) (pe_callB call_len_seq rfl bl.len boot_len (pa_cons (pv 3) pa_nil)))
        (pss_cons (ps_while PassesOwn.never (PW.pt (pw_and (pt_cmpR op_gt (pv 6) pe_int (nomark _)) (pw_and1 (pt_val (pe_mt mb hr (by decide) (pv 5) (pa_cons (pe_dget2 hu (pv 1) (pe_ix ix_list (pv 3) (pe_op op_sub (pv 6) pe_int) (fun _ _ => rfl)) (pv 2) ⟨rfl, rfl, rfl, rfl⟩) pa_nil))))))
          (pss_one (ps_aug (i := 6) sc_in_order.nd rfl (.inl rfl) pe_int ip_sub)))
        (pss_one (ps_expr (pe_bm PySem.F.plainAttrs_list PySem.F.slot_list_insert PySem.F.type_list_insert mt_insert (pv 3) (pa_cons (pv 6) (pa_cons (pv 4) pa_nil)))))))))
      (pss_one (ps_ret (pv 3)))))), ?_⟩
    intro p pd np nd ne
    refine mk_in (n := 1) np nd (by decide) (by decide) (by decide) (by decide) fun H1 s1 hp => ⟨rfl, ?_⟩
    have z0 : Rat.divInt 0 1 = 0 := by rfl
    rw [z0] at hp
    refine ⟨by show 0 ≤ sizeLine; decide, fun o ho => ?_⟩
    have so := same_new (o := .lst []) ho
    refine ⟨_, rfl, l, xs, rfl, (s1.trans so).seq hl, hlen, fun ys q hperm hsort hq => ?_⟩
    have sq := same_new (o := .lst (ys.map V.str)) hq
    have noq : o ≠ q := ne_of_none upd_same hq
    have hpw := IO.sorted_pw hsort
    have s3 : Same H1 (upd (upd H1 o (.lst [])) q (.lst (ys.map V.str))) := so.trans sq
    have ho3 : (upd (upd H1 o (.lst [])) q (.lst (ys.map V.str))) o = some (.lst []) := by rw [upd_ne noq]; exact upd_same
    have hq3 : (upd (upd H1 o (.lst [])) q (.lst (ys.map V.str))) q = some (.lst (ys.map V.str)) := upd_same
    generalize upd (upd H1 o (.lst [])) q (.lst (ys.map V.str)) = H3 at s3 ho3 hq3 ⊢
    have ylen : ys.length < 64 := by rw [hperm.length_eq]; exact hlen
    refine ⟨q, rfl, ⟨_, SqL.of hq3⟩, for_list (K := K) (xs := ys.map V.str) (fun i σ H2 => Same H1 H2 ∧ H2 q = some (.lst (ys.map V.str)) ∧ ∃ (zs : List Str) (v4 v5 v6 : Option V), σ = [some (.ref l), some (.ref d), some (.ref p), some (.ref o), v4, v5, v6] ∧ H2 o = some (.lst (zs.map V.str)) ∧ zs.Perm (ys.take i) ∧ zs.Pairwise (IO.le ρ))
      ⟨s3, hq3, [], none, none, none, rfl, ho3, List.Perm.refl _, List.Pairwise.nil⟩ (fun i σ H2 _ z => SqL.of z.2.1) ?_ ?_⟩
    · rintro i y σ H2 hi ⟨s2, hq2, zs, v4, v5, v6, rfl, ho2, zperm, zpw⟩
      rw [List.getElem?_map] at hi
      cases hx : ys[i]? with
      | none =>
        rw [hx] at hi
        cases hi
      | some x =>
        rw [hx] at hi
        cases (Option.some.inj hi : V.str x = y)
        have hd2 := hd.keep (s1.trans s2)
        have hp2 := hp.keep s2
        obtain ⟨px, ex, hpx⟩ := hd2.get hp2 x
        refine ⟨_, rfl, d, rfl, .inl ⟨kvs, .inl hd2.1⟩, _, rfl, _, rfl, _, DGet.k (k := Sum.inr x) hd2.1, ?_⟩
        rw [ex]
        refine ⟨_, rfl, o, _, rfl, Or.inl (SqL.of ho2), ?_⟩
        have hzl : zs.length ≤ i := by rw [zperm.length_eq, List.length_take]; exact Nat.min_le_left _ _
        have hil : i < ys.length := (List.getElem?_eq_some_iff.mp hx).1
        rw [List.length_map]
        refine ⟨fun m σ' H' => H' = H2 ∧ m ≤ zs.length ∧ σ' = [some (.ref l), some (.ref d), some (.ref p), some (.ref o), some (.str x), some (.ref px), some (.int (m : Int))] ∧ ∀ z ∈ zs.drop m, ρ x < ρ z, ⟨zs.length, rfl, Nat.le_refl _, rfl, by simp⟩, ?_⟩
        rintro m σ' H' ⟨rfl, hm, rfl, hgt⟩
        refine ⟨_, rfl, _, _, rfl, rfl, _, rfl, ?_⟩
        have leave : (∀ z ∈ zs.take m, ρ z ≤ ρ x) → tDrop (tBM K "list" (fun x vs H Q => ∃ (l : Addr) (xs : List V) (i : Int) (y : V), x = .ref l ∧ vs = [.int i, y] ∧ H l = some (.lst xs) ∧ xs.length < sizeLine ∧ 0 ≤ i ∧ i < 2 ^ 63 ∧ Q .non (upd H l (.lst (xs.take i.toNat ++ [y] ++ xs.drop i.toNat))))
            (tVar 3) (tCons (tVar 6) (tCons (tVar 4) tNil))) { nx := fun σ' H' => Same H1 H' ∧ H' q = some (.lst (ys.map V.str)) ∧ ∃ (zs : List Str) (v4 v5 v6 : Option V), σ' = [some (.ref l), some (.ref d), some (.ref p), some (.ref o), v4, v5, v6] ∧ H' o = some (.lst (zs.map V.str)) ∧ zs.Perm (ys.take (i + 1)) ∧ zs.Pairwise (IO.le ρ), rt := Q }
            [some (.ref l), some (.ref d), some (.ref p), some (.ref o), some (.str x), some (.ref px), some (.int (m : Int))] H' := by
          intro hlo
          refine ⟨_, rfl, Or.inl ⟨rfl, _, SqL.of ho2⟩, _, rfl, _, rfl, o, _, _, _, rfl, rfl, ho2, ?_, Int.natCast_nonneg m, ?_, ?_⟩
          · rw [List.length_map]
            exact Nat.lt_of_lt_of_le (by omega : zs.length < 64) (by decide)
          · omega
          · refine ⟨fun a u e => ?_, ?_, zs.take m ++ [x] ++ zs.drop m, _, _, _, rfl, ?_, ?_, ?_⟩
            · rw [upd_ne (fun z => by rw [z, ho] at e; cases e)]
              exact s2 a u e
            · rw [upd_ne (Ne.symm noq)]
              exact hq2
            · rw [upd_same, Int.toNat_natCast]
              simp [List.map_append, List.map_take, List.map_drop]
            · refine (IO.put_perm m).trans ?_
              rw [List.take_add_one, hx]
              exact (List.Perm.cons x zperm).trans (List.perm_append_singleton x _).symm
            · refine IO.put_in zpw (fun z hz => ?_) hm hgt hlo
              have hz' : z ∈ ys.take i := zperm.subset hz
              have hsplit : ys = ys.take i ++ x :: ys.drop (i + 1) := by
                have h1 := List.take_append_drop i ys
                rw [List.drop_eq_getElem_cons hil] at h1
                have h2 : ys[i] = x := (List.getElem?_eq_some_iff.mp hx).2
                rw [h2] at h1
                exact h1.symm
              rw [hsplit] at hpw
              exact (List.pairwise_append.mp hpw).2.2 z hz' x (List.mem_cons_self ..)
        cases m with
        | zero =>
          refine ite2 (fun hh => absurd (of_decide_eq_true hh) (by decide)) (fun _ => iteF ?_)
          exact leave (by simp)
        | succ m =>
          have hmm : m < zs.length := hm
          refine ite2 (fun _ => ?_) (fun hh => (hh (decide_eq_true (by omega))).elim)
          have hat : atI (zs.map V.str) (((m + 1 : Nat) : Int) - 1) = some (.str zs[m]) := by
            have e : ((m + 1 : Nat) : Int) - 1 = (m : Int) := by omega
            rw [e]
            exact atI_nat (by rw [List.getElem?_map, List.getElem?_eq_getElem hmm]; rfl)
          obtain ⟨pz, ez, hpz⟩ := hd2.get hp2 zs[m]
          obtain ⟨dx, hpx1⟩ := id hpx
          refine ⟨_, rfl, px, dx, _, rfl, hpx1, shF_no _ (by decide +kernel) (by decide +kernel), _, rfl, d, rfl, .inl ⟨kvs, .inl hd2.1⟩, _, rfl, _, rfl, _, _, rfl, rfl, o, _, _, _, rfl, rfl, SqL.of ho2, hat, _, rfl, _, DGet.k (k := Sum.inr zs[m]) hd2.1, ?_⟩
          rw [ez]
          refine ⟨px, pz, ρ x, ρ zs[m], n, rfl, hpx, hpz, hS x, hS _, n0, n9, _, rfl, ?_⟩
          refine ite2 (fun g => ?_) (fun g => ?_)
          · have g' : ρ x < ρ zs[m] := of_decide_eq_true g
            refine ⟨fun σ' H'' => H'' = H' ∧ σ' = [some (.ref l), some (.ref d), some (.ref p), some (.ref o), some (.str x), some (.ref px), some (.int (m : Int))], ?_, ?_⟩
            · rintro σ' H'' ⟨rfl, rfl⟩
              refine ⟨m, Nat.lt_succ_self m, rfl, Nat.le_of_lt hmm, rfl, fun z hz => ?_⟩
              rw [List.drop_eq_getElem_cons hmm] at hz
              rcases List.mem_cons.mp hz with e | hz
              · rw [e]; exact g'
              · exact hgt z hz
            · refine ⟨_, rfl, _, _, rfl, rfl, rfl, ?_⟩
              show [_, _, _, _, _, _, some (V.int (((m + 1 : Nat) : Int) - 1))] = _
              rw [show ((m + 1 : Nat) : Int) - 1 = (m : Int) by omega]
          · have g' : ¬ ρ x < ρ zs[m] := fun z => g (decide_eq_true z)
            refine leave fun z hz => ?_
            obtain ⟨j, hj, ej⟩ := List.mem_iff_getElem.mp hz
            rw [List.length_take] at hj
            have hjm : j ≤ m := by omega
            have hjz : j < zs.length := by omega
            rw [List.getElem_take] at ej
            have hlast : ρ zs[m] ≤ ρ x := Rat.not_lt.mp g'
            rcases Nat.lt_or_ge j m with hlt | hge
            · have := List.pairwise_iff_getElem.mp zpw j m hjz hmm hlt
              rw [ej] at this
              exact Rat.le_trans (IO.le_rat this) hlast
            · have : j = m := by omega
              subst this
              rw [ej] at hlast
              exact hlast
    · rintro σ H2 ⟨s2, hq2, zs, v4, v5, v6, rfl, ho2, zperm, zpw⟩
      rw [List.length_map, List.take_length] at zperm
      exact ⟨_, rfl, hQ o zs H2 (s1.trans s2) (s1.free ho) ho2 (zperm.trans hperm) zpw⟩
end
end K60.Q
set_option Elab.async false
set_option linter.all false
set_option maxRecDepth 100000
set_option maxHeartbeats 4000000
namespace K60.Q
open PySem PySem.Spec PyProof.Rows L2
open KM (pr Sz)
open SX (S)
/-! ### multiples of one part -/
def Gr (B m : Nat) (r : Rat) : Prop := ∃ t : Int, r = Rat.divInt t B ∧ t.natAbs ≤ m
theorem Gr.mono {B m k : Nat} {r : Rat} (h : Gr B m r) (e : m ≤ k) : Gr B k r := let ⟨t, a, b⟩ := h; ⟨t, a, Nat.le_trans b e⟩
theorem Gr.add {B m k : Nat} {r s : Rat} (hB : 0 < B) (h : Gr B m r) (g : Gr B k s) : Gr B (m + k) (r + s) := by
  obtain ⟨t, rfl, a⟩ := h
  obtain ⟨u, rfl, b⟩ := g
  have hb : (B : Int) ≠ 0 := by omega
  refine ⟨t + u, ?_, by omega⟩
  rw [Rat.divInt_add_divInt _ _ hb hb, ← Int.add_mul, Rat.divInt_mul_right hb]
theorem Gr.neg {B m : Nat} {r : Rat} (h : Gr B m r) : Gr B m (-r) := by
  obtain ⟨t, rfl, a⟩ := h
  exact ⟨-t, by rw [Rat.neg_divInt], by omega⟩
theorem Gr.sub {B m k : Nat} {r s : Rat} (hB : 0 < B) (h : Gr B m r) (g : Gr B k s) : Gr B (m + k) (r - s) := by
  rw [Rat.sub_eq_add_neg]
  exact h.add hB g.neg
theorem Gr.zero {B m : Nat} : Gr B m 0 := ⟨0, by rw [Rat.zero_divInt], Nat.zero_le _⟩
theorem Gr.sz {B m n : Nat} {r : Rat} (hB : 0 < B) (h : Gr B m r) (hm : m < 2 ^ n) (hb : B < 2 ^ n) : Sz n r := by
  obtain ⟨t, rfl, a⟩ := h
  exact KM.sz_of_low (by omega) (by omega) (by omega)
/-! ### who is paid, one behind another -/
def mn (a b : Rat) : Rat := if a < b then a else b
def step (s : Str → Rat) (u : List (Str × Rat) × Rat) (z : Str) : List (Str × Rat) × Rat := if u.2 = 0 then u else (u.1 ++ [(z, mn (s z) u.2)], u.2 - mn (s z) u.2)
def st (s : Str → Rat) (zs : List Str) (l0 : Rat) : List (Str × Rat) × Rat := zs.foldl (step s) ([], l0)
theorem st_snoc (s : Str → Rat) (zs : List Str) (z : Str) (l0 : Rat) : st s (zs ++ [z]) l0 = step s (st s zs l0) z := by
  unfold st
  rw [List.foldl_append]
  rfl
theorem fold_zero (s : Str → Rat) : ∀ (zs : List Str) (u : List (Str × Rat) × Rat), u.2 = 0 → zs.foldl (step s) u = u
  | [], _, _ => rfl
  | z :: zs, u, h => by
    rw [List.foldl_cons]
    have e : step s u z = u := by unfold step; rw [if_pos h]
    rw [e]
    exact fold_zero s zs u h
theorem st_done {s : Str → Rat} {zs : List Str} {l0 : Rat} (h : (st s zs l0).2 = 0) (ws : List Str) : st s (zs ++ ws) l0 = st s zs l0 := by
  unfold st at *
  rw [List.foldl_append]
  exact fold_zero s ws _ h
theorem fold_inv (s : Str → Rat) : ∀ (zs : List Str) (u : List (Str × Rat) × Rat), 0 ≤ u.2 → (∀ z ∈ zs, 0 < s z) → 0 ≤ (zs.foldl (step s) u).2 ∧ ((zs.foldl (step s) u).2 ≠ 0 → (zs.foldl (step s) u).2 = u.2 - sumR (zs.map s)) := by
  intro zs
  induction zs with
  | nil =>
    intro u h _
    refine ⟨h, fun _ => ?_⟩
    show u.2 = u.2 - 0
    grind
  | cons z zs ih =>
    intro u h hz
    by_cases e : u.2 = 0
    · rw [fold_zero s _ u e]
      exact ⟨h, fun n => absurd e n⟩
    · rw [List.foldl_cons]
      have es : step s u z = (u.1 ++ [(z, mn (s z) u.2)], u.2 - mn (s z) u.2) := by unfold step; rw [if_neg e]
      have hp : 0 ≤ (step s u z).2 := by
        rw [es]
        show 0 ≤ u.2 - mn (s z) u.2
        unfold mn
        split <;> grind
      obtain ⟨h1, h2⟩ := ih (step s u z) hp fun y hy => hz y (List.mem_cons_of_mem _ hy)
      refine ⟨h1, fun n => ?_⟩
      rw [h2 n, List.map_cons, sumR_cons]
      by_cases c : s z < u.2
      · rw [es]
        show u.2 - mn (s z) u.2 - _ = _
        unfold mn
        rw [if_pos c]
        grind
      · exfalso
        have e0 : (step s u z).2 = 0 := by
          rw [es]
          show u.2 - mn (s z) u.2 = 0
          unfold mn
          rw [if_neg c]
          grind
        rw [fold_zero s zs _ e0] at n
        exact n e0
theorem sumR_nil : sumR [] = 0 := rfl
theorem sumR_perm {xs ys : List Rat} (h : xs.Perm ys) : sumR xs = sumR ys := by
  induction h with
  | nil => rfl
  | cons x _ ih => rw [sumR_cons, sumR_cons, ih]
  | swap x y l => rw [sumR_cons, sumR_cons, sumR_cons, sumR_cons]; grind
  | trans _ _ a b => exact a.trans b
/-- those above nought carry the others -/
theorem sum_pos (s : Str → Rat) (x : Str) (hx : s x ≤ 0) : ∀ L : List Str, sumR (L.map s) ≤ sumR ((L.filter fun y => decide (0 < s y)).map s) + (if x ∈ L then s x else 0) := by
  intro L
  induction L with
  | nil => rw [if_neg (by simp)]; simp [sumR_nil]; grind
  | cons y L ih =>
    rw [List.map_cons, sumR_cons]
    by_cases p : 0 < s y
    · rw [List.filter_cons_of_pos (by simp [p]), List.map_cons, sumR_cons]
      have ne : ¬ x = y := fun e => by rw [e] at hx; grind
      have e : (x ∈ y :: L) ↔ x ∈ L := by simp [ne]
      simp only [e]
      grind
    · rw [List.filter_cons_of_neg (by simp [p])]
      by_cases e : x = y
      · subst e
        rw [if_pos (List.mem_cons_self)]
        split at ih <;> grind
      · have e2 : (x ∈ y :: L) ↔ x ∈ L := by simp [e]
        simp only [e2]
        grind
/-- all is paid -/
theorem st_paid {s : Str → Rat} {L zs : List Str} {x : Str} (hp : zs.Perm (L.filter fun y => decide (0 < s y))) (hx : x ∈ L) (h0 : s x ≤ 0) (hs : sumR (L.map s) = 0) : (st s zs (-(s x))).2 = 0 := by
  have pos : ∀ z ∈ zs, 0 < s z := fun z hz => by
    have := List.mem_filter.mp (hp.mem_iff.mp hz)
    exact of_decide_eq_true this.2
  obtain ⟨h1, h2⟩ := fold_inv s zs ([], -(s x)) (by show 0 ≤ -(s x); grind) pos
  by_cases e : (st s zs (-(s x))).2 = 0
  · exact e
  · have h3 := h2 e
    have h4 := sum_pos s x h0 L
    rw [if_pos hx, hs, ← sumR_perm (hp.map s)] at h4
    have h5 : (st s zs (-(s x))).2 = -(s x) - sumR (zs.map s) := h3
    have h6 : 0 ≤ (st s zs (-(s x))).2 := h1
    grind
theorem st_nonneg {s : Str → Rat} {zs : List Str} {l0 : Rat} (h : 0 ≤ l0) (pos : ∀ z ∈ zs, 0 < s z) : 0 ≤ (st s zs l0).2 := (fold_inv s zs ([], l0) h pos).1
/-! ### how great -/
theorem fold_gr {B m : Nat} {s : Str → Rat} (hB : 0 < B) : ∀ (zs : List Str) (u : List (Str × Rat) × Rat) (b : Nat), Gr B b u.2 → m ≤ b → (∀ z ∈ zs, Gr B m (s z)) → (∀ q ∈ u.1, Gr B b q.2) →
    Gr B (b + m * zs.length) (zs.foldl (step s) u).2 ∧ ∀ q ∈ (zs.foldl (step s) u).1, Gr B (b + m * zs.length) q.2 := by
  intro zs
  induction zs with
  | nil => intro u b h _ _ hq; exact ⟨h, hq⟩
  | cons z zs ih =>
    intro u b h hm hs hq
    rw [List.foldl_cons, List.length_cons, show b + m * (zs.length + 1) = b + m + m * zs.length from by rw [Nat.mul_add]; omega]
    have sz := hs z List.mem_cons_self
    refine ih (step s u z) (b + m) ?_ (by omega) (fun y hy => hs y (List.mem_cons_of_mem _ hy)) ?_
    · unfold step
      split
      · exact h.mono (by omega)
      · show Gr B (b + m) (u.2 - mn (s z) u.2)
        unfold mn
        split
        · exact h.sub hB sz
        · have e : u.2 - u.2 = 0 := by grind
          rw [e]
          exact Gr.zero
    · unfold step
      split
      · exact fun q q' => (hq q q').mono (by omega)
      · intro q q'
        rcases List.mem_append.mp q' with y | y
        · exact (hq q y).mono (by omega)
        · rw [List.mem_singleton.mp y]
          show Gr B (b + m) (mn (s z) u.2)
          unfold mn
          split
          · exact sz.mono (by omega)
          · exact h.mono (by omega)
theorem st_gr {B m b : Nat} {s : Str → Rat} {zs : List Str} {l0 : Rat} (hB : 0 < B) (h : Gr B b l0) (hm : m ≤ b) (hs : ∀ z ∈ zs, Gr B m (s z)) : Gr B (b + m * zs.length) (st s zs l0).2 ∧ ∀ q ∈ (st s zs l0).1, Gr B (b + m * zs.length) q.2 :=
  fold_gr hB zs ([], l0) b h hm hs fun q hq => nomatch hq
theorem mvL_gr {B k : Nat} (hB : 0 < B) (ms : List (Str × Rat)) : ∀ (u : List Str × (Str → Rat)) (b : Nat), (∀ x, Gr B b (get0 u.1 u.2 x)) → (∀ m ∈ ms, Gr B k m.2) → ∀ x, Gr B (b + k * ms.length) (get0 (mvL u ms).1 (mvL u ms).2 x) := by
  induction ms with
  | nil => intro u b h _ x; exact h x
  | cons m ms ih =>
    intro u b h hm x
    have h1 : ∀ y, Gr B (b + k) (get0 (mv u m).1 (mv u m).2 y) := fun y => by
      unfold mv get0 setc
      dsimp only
      by_cases e : y = m.1
      · subst e
        rw [if_pos mem_addK, if_pos rfl]
        exact (h m.1).add hB (hm m List.mem_cons_self)
      · rw [if_neg e]
        have : (y ∈ addK u.1 m.1) ↔ y ∈ u.1 := ⟨fun z => (addK_sub z).elim id fun z => absurd z e, fun z => by
          unfold addK
          split
          · exact z
          · exact List.mem_append_left _ z⟩
        have h2 := h y
        unfold get0 at h2
        simp only [this]
        exact h2.mono (by omega)
    have := ih (mv u m) (b + k) h1 (fun m' hm' => hm m' (List.mem_cons_of_mem _ hm')) x
    rw [List.length_cons, show b + k * (ms.length + 1) = b + k + k * ms.length from by rw [Nat.mul_add]; omega]
    exact this
/-! ### what is put, at one name -/
def at_ (x : Str) : List (Str × Rat) → Rat
  | [] => 0
  | m :: ms => (if m.1 = x then m.2 else 0) + at_ x ms
theorem mvL_val (x : Str) : ∀ (ms : List (Str × Rat)) (u : List Str × (Str → Rat)), get0 (mvL u ms).1 (mvL u ms).2 x = get0 u.1 u.2 x + at_ x ms
  | [], u => by show get0 u.1 u.2 x = get0 u.1 u.2 x + 0; rw [Rat.add_zero]
  | m :: ms, u => by
    have h := mvL_val x ms (mv u m)
    have e : get0 (mv u m).1 (mv u m).2 x = get0 u.1 u.2 x + (if m.1 = x then m.2 else 0) := by
      unfold mv
      dsimp only
      by_cases c : m.1 = x
      · rw [if_pos c, ← c]
        unfold setc
        conv => lhs; unfold get0
        rw [if_pos mem_addK]
        dsimp only
        rw [if_pos rfl]
        rfl
      · rw [if_neg c, Rat.add_zero]
        unfold get0 setc
        have ne : ¬ x = m.1 := fun z => c z.symm
        rw [if_neg ne]
        have : (x ∈ addK u.1 m.1) ↔ x ∈ u.1 := ⟨fun z => (addK_sub z).elim id fun z => absurd z ne, fun z => by
          unfold addK
          split
          · exact z
          · exact List.mem_append_left _ z⟩
        simp only [this]
    show get0 (mvL (mv u m) ms).1 (mvL (mv u m) ms).2 x = _ + ((if m.1 = x then m.2 else 0) + at_ x ms)
    rw [h, e, Rat.add_assoc]
theorem at_app (x : Str) : ∀ (xs ys : List (Str × Rat)), at_ x (xs ++ ys) = at_ x xs + at_ x ys
  | [], ys => by show at_ x ys = 0 + at_ x ys; rw [Rat.zero_add]
  | m :: xs, ys => by
    show (if m.1 = x then m.2 else 0) + at_ x (xs ++ ys) = ((if m.1 = x then m.2 else 0) + at_ x xs) + at_ x ys
    rw [at_app x xs ys, Rat.add_assoc]
def Ro.key (r : Ro) : Str × Str × Rat := (r.p, r.t, r.v)
def mvk (ks : List (Str × Str × Rat)) : List (Str × Rat) := ks.flatMap fun k => [(k.1, k.2.2), (k.2.1, -k.2.2)]
theorem mvs_mvk (rows : List Ro) : mvs rows = mvk (rows.map Ro.key) := by
  unfold mvs mvk
  rw [List.flatMap_map]
  rfl
def keyOf (ow : Bool) (x : Str) (q : Str × Rat) : Str × Str × Rat := if ow = true then (x, q.1, q.2) else (q.1, x, q.2)
theorem at_keys (ow : Bool) (x : Str) : ∀ qs : List (Str × Rat), (∀ q ∈ qs, q.1 ≠ x) → at_ x (mvk (qs.map (keyOf ow x))) = if ow = true then sumR (qs.map (·.2)) else -(sumR (qs.map (·.2)))
  | [], _ => by cases ow <;> simp [mvk, at_, sumR_nil]
  | q :: qs, h => by
    have ih := at_keys ow x qs fun y hy => h y (List.mem_cons_of_mem _ hy)
    have ne := h q List.mem_cons_self
    have e : mvk ((q :: qs).map (keyOf ow x)) = [((keyOf ow x q).1, (keyOf ow x q).2.2), ((keyOf ow x q).2.1, -(keyOf ow x q).2.2)] ++ mvk (qs.map (keyOf ow x)) := by
      unfold mvk
      rw [List.map_cons, List.flatMap_cons]
    rw [e, at_app, ih, List.map_cons, sumR_cons]
    cases ow
    · have e1 : keyOf false x q = (q.1, x, q.2) := rfl
      rw [e1]
      simp [at_, ne]
      grind
    · have e1 : keyOf true x q = (x, q.1, q.2) := rfl
      rw [e1]
      simp [at_, ne]
      grind
theorem fold_sum (s : Str → Rat) : ∀ (zs : List Str) (u : List (Str × Rat) × Rat), sumR ((zs.foldl (step s) u).1.map (·.2)) + (zs.foldl (step s) u).2 = sumR (u.1.map (·.2)) + u.2
  | [], u => rfl
  | z :: zs, u => by
    rw [List.foldl_cons, fold_sum s zs (step s u z)]
    unfold step
    split
    · rfl
    · dsimp only
      rw [List.map_append, sumR_app]
      show _ + (0 + mn (s z) u.2) + (u.2 - mn (s z) u.2) = _
      grind
theorem fold_names (s : Str → Rat) : ∀ (zs : List Str) (u : List (Str × Rat) × Rat), ∀ q ∈ (zs.foldl (step s) u).1, q ∈ u.1 ∨ q.1 ∈ zs
  | [], u, q, h => .inl h
  | z :: zs, u, q, h => by
    rw [List.foldl_cons] at h
    rcases fold_names s zs (step s u z) q h with c | c
    · unfold step at c
      split at c
      · exact .inl c
      · rcases List.mem_append.mp c with c | c
        · exact .inl c
        · rw [List.mem_singleton.mp c]
          exact .inr List.mem_cons_self
    · exact .inr (List.mem_cons_of_mem _ c)
theorem fold_len (s : Str → Rat) : ∀ (zs : List Str) (u : List (Str × Rat) × Rat), (zs.foldl (step s) u).1.length ≤ u.1.length + zs.length
  | [], u => Nat.le_refl _
  | z :: zs, u => by
    rw [List.foldl_cons]
    have := fold_len s zs (step s u z)
    have e : (step s u z).1.length ≤ u.1.length + 1 := by
      unfold step
      split
      · omega
      · rw [List.length_append]
        exact Nat.le_refl _
    rw [List.length_cons]
    omega
/-- the sign of the seen credits -/
def seen (ow : Bool) (c : Str → Rat) (x : Str) : Rat := if ow = true then c x else -(c x)
theorem behind0 {c : Str → Rat} {L zs : List Str} {x : Str} {rows : List Ro} (ow : Bool) (hx : x ∈ L) (nz : ∀ z ∈ zs, z ≠ x) (e : rows.map Ro.key = (st (seen ow c) zs (-(seen ow c x))).1.map (keyOf ow x)) (h0 : (st (seen ow c) zs (-(seen ow c x))).2 = 0) :
    get0 (mvL (L, c) (mvs rows)).1 (mvL (L, c) (mvs rows)).2 x = 0 := by
  rw [mvL_val, mvs_mvk, e, at_keys ow x _ fun q hq => ?_]
  · have h1 := fold_sum (seen ow c) zs ([], -(seen ow c x))
    have h2 : sumR ((st (seen ow c) zs (-(seen ow c x))).1.map (·.2)) + (st (seen ow c) zs (-(seen ow c x))).2 = 0 + -(seen ow c x) := h1
    rw [h0] at h2
    have h3 : get0 L c x = c x := by unfold get0; rw [if_pos hx]
    show get0 L c x + _ = 0
    rw [h3]
    cases ow
    · rw [if_neg (by simp)]
      have h4 : seen false c x = -(c x) := rfl
      rw [h4] at h2 ⊢
      grind
    · rw [if_pos rfl]
      have h4 : seen true c x = c x := rfl
      rw [h4] at h2 ⊢
      grind
  · rcases fold_names _ _ _ q hq with z | z
    · exact nomatch z
    · exact nz _ z
/-! ### the greatest, by name -/
theorem pick_head {s : Str → Rat} {z b : Str} {zs ys : List Str} (hp : ys.Perm (z :: zs)) (pw : (z :: zs).Pairwise (IO.le fun x => -(s x))) (hb : b ∈ ys) (h : ∀ y ∈ ys, s y ≤ s b ∧ (s y = s b → ¬ IO.slt y b)) : b = z := by
  rcases List.mem_cons.mp (hp.mem_iff.mp hb) with e | e
  · exact e
  · have hz := h z (hp.mem_iff.mpr List.mem_cons_self)
    rcases (List.pairwise_cons.mp pw).1 b e with c | ⟨c, d⟩
    · have := hz.1
      exfalso
      have c : -(s z) < -(s b) := c
      grind
    · have c : -(s z) = -(s b) := c
      exact IO.slt_antisymm (hz.2 (by grind)) d
theorem le_same {ρ : Str → Rat} {l m : List Str} (h1 : l.Pairwise (IO.le ρ)) (h2 : m.Pairwise (IO.le ρ)) (p : l.Perm m) : l = m :=
  p.eq_of_pairwise (fun a b _ _ h g => by
    rcases h with h | ⟨h, h'⟩
    · rcases g with g | ⟨g, g'⟩
      · grind
      · grind
    · rcases g with g | ⟨g, g'⟩
      · grind
      · exact IO.slt_antisymm h' g') h1 h2
end K60.Q
set_option Elab.async false
set_option linter.all false
set_option maxRecDepth 100000
set_option maxHeartbeats 4000000
/-! VL: list(d.values()), whatever the values. -/
namespace VL
open PySem PySem.Spec PyProof.Rows L2
theorem vals_get : ∀ {xs : List V} {us : List Value}, xs.length = us.length → (∀ (j : Nat) (x : V) (u : Value), xs[j]? = some x → us[j]? = some u → RelV x u) → Vals xs us
  | [], [], _, _ => .nil
  | x :: xs, u :: us, l, h => .cons (h 0 x u rfl rfl) (vals_get (by simpa using l) fun j x' u' e1 e2 => h (j + 1) x' u' (by simpa using e1) (by simpa using e2))
def tListVals (td : TE) : TE := fun σ H Q => td σ H fun x H1 => ∃ a kvs, x = V.ref a ∧ H1 a = some (.dK kvs) ∧ ∀ p, H1 p = none → Q (.ref p) (upd H1 p (.lst (kvs.map (·.2))))
theorem pe_listVals {X : Cx} {o : Expr} {p pos apos mpos : Pos} {td : TE} (hc : X.calm = true) (hg : Gl X "list") (hm : X.mg "list" = none) (hd : PE X o td) (hbase : attributeBase o "values" X.env (eval o X.env) = eval o X.env := by rfl) (hline : (apos.endLine == mpos.line) = true := by rfl)
    (na : starEach [Expr.Call (.Attribute o "values" apos) [] [] mpos] X.env = (false, eval (Expr.Call (.Attribute o "values" apos) [] [] mpos) X.env) :: starEach [] X.env := by rfl) :
    PE X (.Call (.Name "list" p) [.Call (.Attribute o "values" apos) [] [] mpos] [] pos) (tListVals td) := by
  refine ⟨fun pins s σ H Q I h => ?_⟩
  refine Call_ (ld_blt I hg hm boot_list (PyProof.Rows.callWith_type1 (args_cons (wpAny_Call_method0_late hbase hline (thn (hd.run pins s σ H _ I h) fun v s1 ⟨x, H1, I1, r1, a, kvs, ex, ha, q⟩ => ?_)) na) na))
  subst ex
  obtain rfl : v = Value.ref a := r1
  obtain ⟨hlen, hsys, vs, rel, dof⟩ := dk_of I1.hok ha
  obtain ⟨ep, dat⟩ := dof.dictAt
  have dat' := dat
  obtain ⟨ob, es, ho, ex, hdat, hko, hpr, hnd⟩ := dat'
  refine ⟨"dict", "dict.values", F.plainAttrs_dict, F.slot_dict_values, F.type_dict_values, ⟨ob, ho, ex.1⟩, fun b e => ?_, Calls.callWith_builtin rfl (PySem.evalArgs_none ?_)⟩
  · cases e
    exact ⟨ob, ho, ex.2.1⟩
  refine call_meetsIn F.slot_dict_values ⟨ob, ho, ex.1⟩ F.entry_dict_values (F.args_dict_values_1 _) (meets_dict_values (mixKind X.prog X.w) a hsys) ⟨⟨vs, dof⟩, args_nil ?_⟩
  have k1 : ∀ b u, s1.heap.get? b = some u → (s1.heap.push { cls := .type "dict_values", data := .fields #[.ref a] }).get? b = some u := fun b u e => Heap.get?_push_of_some _ e
  have dat1 : (s1.heap.push { cls := .type "dict_values", data := .fields #[.ref a] }).DictAt (mixKind X.prog X.w) a vs ep := dat.keep k1
  have hl : kvs.length = vs.length := KV.length rel
  have I2 : Inv X pins σ H1 { s1 with heap := s1.heap.push { cls := .type "dict_values", data := .fields #[.ref a] } } := I1.kept (t' := s1.toks) k1
  refine PySem.W.kdl_call (s := { s1 with heap := s1.heap.push { cls := .type "dict_values", data := .fields #[.ref a] } }) (PySem.W.kdl_values (knd := mixKind X.prog X.w) (d := a) (r := s1.heap.objs.size) (kvs := vs) (ep := ep)) (I1.ok.hd hc) ⟨⟨_, Heap.get?_push_size _ rfl, rfl, rfl⟩, dat1⟩ (by rw [← hl]; exact hlen) fun h' tk acc c' hk hD hacc => ?_
  refine ⟨.ref _, upd H1 (s1.heap.push { cls := .type "dict_values", data := .fields #[.ref a] }).objs.size (.lst (kvs.map (·.2))), I2.laid (t' := tk) hk (Nat.le_refl _) (show ObjOk X.prog X.w _ _ _ (.lst (kvs.map (·.2))) from ⟨by rw [List.length_map]; exact hlen, acc.toList, c', vals_get ?_ fun j x u e1 e2 => ?_, ?_⟩), rfl, q _ (I2.hok.fresh (Nat.le_refl _))⟩
  · exact (List.length_map ..).trans (hl.trans (hacc.1.symm.trans (Array.length_toList (xs := acc)).symm))
  · obtain ⟨k, hk2⟩ := hacc.2 j u (by rw [← Array.getElem?_toList]; exact e2)
    obtain ⟨y, h1, h2⟩ := KV.at' rel hk2
    rw [List.getElem?_map, h1] at e1
    cases e1
    exact h2
  · rw [Array.toArray_toList]
    exact hD
end VL
set_option Elab.async false
set_option linter.all false
set_option maxRecDepth 100000
set_option maxHeartbeats 4000000
namespace K60.Q
open PySem PySem.Spec PyProof.Rows L2
open C8 (Cal Mak Met pe_c pe_mk pe_mt pe_mt0)
open KM (pr Sz)
open SX (S)
theorem ne_same (v : V) : (!decide (v = v)) = false := by simp
theorem no_below (q : Int × Int) : (shF q).lookup ("below" : Str) = none := shF_no q (by decide +kernel) (by decide +kernel)
theorem no_less (q : Int × Int) : (shF q).lookup ("less" : Str) = none := shF_no q (by decide +kernel) (by decide +kernel)
theorem num0 {r : Rat} : (pr r).1 = 0 ↔ r = 0 := Rat.num_eq_zero
theorem HL.app {C : Addr} {H : Hp} {l : Addr} {rows : List Ro} (h : HL C H l rows) (r : Ro) (h1 : H r.a = some (.tup [.str r.p, .str r.t, .ref r.s])) (h2 : Sh C H r.s (pr r.v)) : HL C (upd H l (.lst ((rows.map fun r => V.ref r.a) ++ [.ref r.a]))) l (rows ++ [r]) := by
  have shn : ∀ {p : Addr} {k : Int × Int}, Sh C H p k → Sh C (upd H l (.lst ((rows.map fun r => V.ref r.a) ++ [.ref r.a]))) p k := fun {p k} g => by
    obtain ⟨dx, e⟩ := g
    exact ⟨dx, by rw [upd_ne fun z => by rw [z, h.1] at e; cases e]; exact e⟩
  refine ⟨by rw [upd_same, List.map_append]; rfl, fun y hy => ?_⟩
  rcases List.mem_append.mp hy with z | z
  · obtain ⟨g1, g2⟩ := h.2 y z
    exact ⟨by rw [upd_ne fun z => by rw [z, h.1] at g1; cases g1]; exact g1, shn g2⟩
  · cases List.mem_singleton.mp z
    exact ⟨by rw [upd_ne fun z => by rw [z, h.1] at h1; cases h1]; exact h1, shn h2⟩
section
variable {P : Program} {w : World} {K : PySem.W.Frag} {mg : Str → Option Value} {base : Heap} {f C : Addr} {fd : FuncData}
def spCE (C : Addr) : Sp := fun vs H Q _ => ∃ (d : Addr) (L : List Str) (c : Str → Rat), vs = [.ref d] ∧ SDc C H d L c ∧ L.length ≤ 20 ∧ (∀ x ∈ L, Sz 20 (c x)) ∧ sumR (L.map c) = 0 ∧ ∀ H', Same H H' → Q .non H'
theorem ok_ce (F : Dn K d_check_even f fd) (bl : Bl mg) (T : Cl K mg C) (cT : Cal P w K mg base 5 "total" (spTotal K C) [.int 0]) : FnOk P w K mg base CX0 6 f fd ["standing"] (spCE C) := by
  refine F.ok sc_check_even (fun vs H Q E h => ?_) (fun cdv A outer s H vs Q E hr h => ?_)
  · obtain ⟨d, L, c, rfl, _⟩ := h
    rfl
  · obtain ⟨d, L, c, rfl, ⟨ad, hd, hv⟩, ll, hz, h0, hQ⟩ := h
    refine ⟨_, PSs.nox (pss_cons (ps_set (i := 1) sc_check_even.nd rfl (.inl rfl) (pe_c cT hr (by decide) rfl (pa_cons (VL.pe_listVals rfl rfl bl.list (pv 0)) pa_nil)))
      (pss_one (ps_if (pt_cmpR op_ne (pe_fld (pv 1) rfl) pe_int (nomark _)) pss_never pss_nil))), ?_⟩
    refine ⟨_, rfl, d, _, rfl, hd, fun l fl => ?_⟩
    have sl := same_new (o := .lst ((L.map fun x => ((Sum.inr x : Key), V.ref (ad x))).map (·.2))) fl
    have el : ((L.map fun x => ((Sum.inr x : Key), V.ref (ad x))).map (·.2)) = (L.map fun x => (ad x, c x)).map fun y => V.ref y.1 := by rw [List.map_map, List.map_map]; rfl
    refine ⟨l, L.map fun x => (ad x, c x), 20, rfl, ⟨by rw [← el]; exact SqL.of upd_same, fun y hy => ?_⟩, fun y hy => ?_, by rw [List.length_map]; omega, by decide, fun t H2 s2 ft ht => ?_⟩
    · obtain ⟨x, hx, rfl⟩ := List.mem_map.mp hy
      exact (hv x hx).keep sl
    · obtain ⟨x, hx, rfl⟩ := List.mem_map.mp hy
      exact hz x hx
    · have e : ratsOf (L.map fun x => (ad x, c x)) = L.map c := by unfold ratsOf; rw [List.map_map]; rfl
      rw [e, h0] at ht
      obtain ⟨dt, ht⟩ := ht
      refine ⟨_, rfl, t, C, dt, _, _, rfl, ht, T.cl, T.nt, shF_top _, rfl, _, rfl, ?_⟩
      have e0 : (!decide (V.int (pr 0).1 = V.int 0)) = false := ne_same (V.int 0)
      rw [e0]
      refine iteF ?_
      exact hQ H2 (sl.trans s2)
def spAN (C : Addr) : Sp := fun vs H Q _ => ∃ (d : Addr) (L : List Str) (c : Str → Rat), vs = [.ref d] ∧ SDc C H d L c ∧ L.length ≤ 300 ∧ (∀ x ∈ L, Sz 3900 (c x)) ∧
  ∀ o H', Same H H' → H o = none → H' o = some (.lst ((L.filter fun x => decide (0 < c x)).map V.str)) → Q (.ref o) H'
theorem ok_an (F : Dn K d_above_nought f fd) (M1 : MakS1 P w K mg base C) (mB : Met P w K mg base 1 C "below" (spLt C) []) : FnOk P w K mg base CX0 4 f fd ["standing"] (spAN C) := by
  refine F.ok sc_above_nought (fun vs H Q E h => ?_) (fun cdv A outer s H vs Q E hr h => ?_)
  · obtain ⟨d, L, c, rfl, _⟩ := h
    rfl
  · obtain ⟨d, L, c, rfl, ⟨ad, hd, hv⟩, ll, hz, hQ⟩ := h
    have hu := hu_of hr
    refine ⟨_, PSs.nox (pss_one (ps_ret (pe_lock (pe_lc (own := [("name", 1)]) (g := gName 1) rfl sc_above_nought.nd (pi_keys (pv 0)) (blkOk_by (N := N_above_nought) (sc := defScope s_above_nought) (by decide +kernel))
      (fun _ _ _ _ _ => pg_name (i := 1) sc_above_nought.nd rfl (Or.inl rfl)) (fun _ _ _ _ _ => pts_one (pt_val (pe_mt mB hr (by decide) (pe_mk M1 hr (by decide) rfl (pa_cons pe_int pa_nil)) (pa_cons (pe_dget hu (pv 0) (pv 1) (fun _ _ => rfl)) pa_nil))))
      (fun _ _ _ _ _ => pv 1))))), ?_⟩
    refine ⟨d, _, hd, trivial, fun od => ?_⟩
    obtain ⟨hd1, kp1, new1, back1⟩ := lockf (C := C) hd od
    have hv1 : ∀ x ∈ L, Sh C (upd H d (.frz od (dctO L fun x => .ref (ad x)))) (ad x) (pr (c x)) := fun x hx => (hv x hx).un ((hv x hx).at_ne hd)
    generalize upd H d (.frz od (dctO L fun x => .ref (ad x))) = H1 at hd1 kp1 new1 back1 hv1
    refine ⟨_, rfl, d, od, rfl, .inl ⟨_, hd1, fun D hD => lc_it walk_keys (fun i H2 => H2 D = some (.lst (((L.take i).filter fun x => decide (0 < c x)).map V.str)) ∧ Same H1 H2) ⟨upd_same, same_new hD⟩ (fun i H2 _ z => z.2 _ _ hd1) ?_ ?_⟩⟩
    · rintro i x H2 H3 hi ⟨hD2, sm⟩ ⟨eH, kk, v, hkk, rfl⟩
      have eH := eH.symm
      subst eH
      rw [List.length_map] at hi
      rw [List.getElem?_map] at hkk
      obtain ⟨z, hz0, e0⟩ := Option.map_eq_some_iff.mp hkk
      cases e0
      have hzL := List.mem_of_getElem? hz0
      refine ⟨rfl, ?_⟩
      intro t dt nt ndt ne
      refine mk_in (n := 1) nt ndt (by decide) (by decide) (by decide) (by decide) fun H4 s4 ht => ⟨rfl, ?_⟩
      rw [div01] at ht
      have dg : DGet H4 d (.str z) (some (.ref (ad z))) := .inl ⟨_, Sum.inr z, .inr ⟨od, s4 _ _ (sm _ _ hd1)⟩, rfl, by rw [val_dct, if_pos hzL]⟩
      obtain ⟨dt, ht⟩ := ht
      refine ⟨t, dt, _, rfl, ht, no_below _, _, rfl, _, rfl, d, _, rfl, dg, t, ad z, 0, c z, 3900, rfl, ⟨dt, ht⟩, ((hv1 z hzL).keep sm).keep s4, sz0 (by decide), hz z hzL, by decide, by decide, _, rfl, ?_⟩
      have hD4 := s4 _ _ hD2
      have ef : (L.take (i + 1)).filter (fun x => decide (0 < c x)) = (L.take i).filter (fun x => decide (0 < c x)) ++ if decide (0 < c z) = true then [z] else [] := by
        rw [take_one hz0, List.filter_append]
        by_cases q : 0 < c z <;> simp [q]
      refine ite2 (fun q => ?_) (fun q => ?_)
      · refine ⟨_, rfl, _, hD4, by rw [List.length_map]; exact Nat.lt_of_le_of_lt (List.length_filter_le _ _) (by rw [List.length_take]; exact line_lt (by omega)), ?_, fun b o e => ?_⟩
        · rw [upd_same, ef, if_pos q, List.map_append]
          rfl
        · rw [upd_ne (ne_of_none e hD)]
          exact s4 _ _ (sm _ _ e)
      · rw [ef, if_neg q, List.append_nil]
        exact ⟨hD4, sm.trans s4⟩
    · rintro H2 ⟨hD2, sm⟩
      rw [List.length_map, List.take_length] at hD2
      obtain ⟨nD, nDd⟩ := new1 D hD
      refine ⟨sm _ _ hd1, hQ D _ (back1 H2 sm) nD ?_⟩
      rw [upd_ne nDd]
      exact hD2
def spLe (C : Addr) : Sp := fun vs H Q _ => ∃ (p q : Addr) (r s : Rat) (n : Nat), vs = [.ref p, .ref q] ∧ Sh C H p (pr r) ∧ Sh C H q (pr s) ∧ Sz n r ∧ Sz n s ∧ 0 < n ∧ n ≤ 4000 ∧
  ∀ t H', Same H H' → H t = none → Sh C H' t (pr (mn r s)) → Q (.ref t) H'
theorem ok_le (F : Dn K d_lesser f fd) (mB : Met P w K mg base 1 C "below" (spLt C) []) (cS : Cal P w K mg base 4 "same_share" (spSS C) []) : FnOk P w K mg base CX0 5 f fd ["one", "other"] (spLe C) := by
  refine F.ok sc_lesser (fun vs H Q E h => ?_) (fun cdv A outer s H vs Q E hr h => ?_)
  · obtain ⟨p, q, r, s, n, rfl, _⟩ := h
    rfl
  · obtain ⟨p, q, r, s, n, rfl, hp, hq, sr, ss, n0, n9, hQ⟩ := h
    refine ⟨_, PSs.nox (pss_one (ps_ret (pe_c cS hr (by decide) rfl (pa_cons (pe_ifExp (pt_val (pe_mt mB hr (by decide) (pv 0) (pa_cons (pv 1) pa_nil))) (pv 0) (pv 1)) pa_nil)))), ?_⟩
    obtain ⟨dp, hp'⟩ := id hp
    refine ⟨_, rfl, p, dp, _, rfl, hp', no_below _, _, rfl, p, q, r, s, n, rfl, hp, hq, sr, ss, n0, n9, _, rfl, ?_⟩
    refine ite2 (fun c => ?_) (fun c => ?_)
    · have c := of_decide_eq_true c
      refine ⟨_, rfl, p, _, rfl, hp, fun t H2 s2 ft ht => hQ t H2 s2 ft ?_⟩
      unfold mn
      rw [if_pos c]
      exact ht
    · have c : ¬ r < s := fun z => c (decide_eq_true z)
      refine ⟨_, rfl, q, _, rfl, hq, fun t H2 s2 ft ht => hQ t H2 s2 ft ?_⟩
      unfold mn
      rw [if_neg c]
      exact ht
end
end K60.Q
set_option Elab.async false
set_option linter.all false
set_option maxRecDepth 100000
set_option maxHeartbeats 4000000
namespace K60.Q
open PySem PySem.Spec PyProof.Rows L2
open C8 (Cal Mak Met pe_c pe_mk pe_mt pe_mt0)
open KM (pr Sz)
open SX (S)
theorem seen_t (c : Str → Rat) : seen true c = c := rfl
theorem seen_f (c : Str → Rat) : seen false c = fun x => -(c x) := rfl
theorem seen_gr {B m : Nat} {c : Str → Rat} {x : Str} (ow : Bool) (h : Gr B m (c x)) : Gr B m (seen ow c x) := by
  cases ow
  · exact h.neg
  · exact h
theorem sum_neg (c : Str → Rat) : ∀ L : List Str, sumR (L.map fun x => -(c x)) = -(sumR (L.map c))
  | [] => by show (0 : Rat) = -0; grind
  | x :: L => by
    rw [List.map_cons, List.map_cons, sumR_cons, sumR_cons, sum_neg c L]
    grind
theorem sum_seen {c : Str → Rat} {L : List Str} (ow : Bool) (h : sumR (L.map c) = 0) : sumR (L.map (seen ow c)) = 0 := by
  cases ow
  · rw [seen_f, sum_neg, h]
    grind
  · exact h
/-- whom the order holds -/
def OrdOf (L : List Str) (s : Str → Rat) (zs : List Str) : Prop := zs.Perm (L.filter fun y => decide (0 < s y)) ∧ zs.Pairwise (IO.le fun x => -(s x))
theorem OrdOf.same {L : List Str} {s : Str → Rat} {zs ys : List Str} (h : OrdOf L s zs) (g : OrdOf L s ys) : zs = ys := le_same h.2 g.2 (h.1.trans g.1.symm)
theorem OrdOf.len {L : List Str} {s : Str → Rat} {zs : List Str} (h : OrdOf L s zs) : zs.length ≤ L.length := by
  rw [h.1.length_eq]
  exact List.length_filter_le _ _
theorem OrdOf.mem {L : List Str} {s : Str → Rat} {zs : List Str} {z : Str} (h : OrdOf L s zs) (hz : z ∈ zs) : z ∈ L ∧ 0 < s z := by
  have := List.mem_filter.mp (h.1.mem_iff.mp hz)
  exact ⟨this.1, of_decide_eq_true this.2⟩
/-- the credits of one turn -/
structure Crd (L : List Str) (c : Str → Rat) (B : Nat) : Prop where
  nd : L.Nodup
  ll : L.length ≤ 12
  B0 : 0 < B
  B1 : B ≤ 840
  gr : ∀ x ∈ L, Gr B 42000 (c x)
  s0 : sumR (L.map c) = 0
theorem Crd.sz {L : List Str} {c : Str → Rat} {B : Nat} (h : Crd L c B) {x : Str} (hx : x ∈ L) : Sz 20 (c x) := (h.gr x hx).sz h.B0 (by decide) (by have := h.B1; omega)
theorem Crd.szS {L : List Str} {c : Str → Rat} {B : Nat} (h : Crd L c B) (ow : Bool) {x : Str} (hx : x ∈ L) : Sz 20 (seen ow c x) := (seen_gr ow (h.gr x hx)).sz h.B0 (by decide) (by have := h.B1; omega)
theorem Crd.st {L : List Str} {c : Str → Rat} {B : Nat} (h : Crd L c B) (ow : Bool) {x : Str} (hx : x ∈ L) {zs ys : List Str} (o : OrdOf L (seen ow c) zs) (hy : ∀ y ∈ ys, y ∈ zs) (l : ys.length ≤ zs.length) :
    Gr B 546000 (st (seen ow c) ys (-(seen ow c x))).2 ∧ ∀ q ∈ (st (seen ow c) ys (-(seen ow c x))).1, Gr B 546000 q.2 := by
  have e := st_gr (s := seen ow c) (zs := ys) (m := 42000) (b := 42000) h.B0 (seen_gr ow (h.gr x hx)).neg (Nat.le_refl _) fun z hz => seen_gr ow (h.gr z (o.mem (hy z hz)).1)
  have l2 := o.len
  have l3 := h.ll
  have b : 42000 + 42000 * ys.length ≤ 546000 := by omega
  exact ⟨e.1.mono b, fun q hq => (e.2 q hq).mono b⟩
section
variable {P : Program} {w : World} {K : PySem.W.Frag} {mg : Str → Option Value} {base : Heap} {f C : Addr} {fd : FuncData}
def spPO (C : Addr) : Sp := fun vs H Q _ => ∃ (d : Addr) (L : List Str) (c : Str → Rat) (B : Nat) (x : Str), vs = [.ref d, .str x] ∧ SDc C H d L c ∧ Crd L c B ∧ x ∈ L ∧
  ∀ (l : Addr) (H' : Hp) (rows : List Ro) (zs : List Str), Same H H' → H l = none → HL C H' l rows → OrdOf L (seen (decide (c x < 0)) c) zs → rows.map Ro.key = (st (seen (decide (c x < 0)) c) zs (-(seen (decide (c x < 0)) c x))).1.map (keyOf (decide (c x < 0)) x) → Q (.ref l) H'
theorem ok_po (F : Dn K d_paid_off f fd) (bl : Bl mg) (bstr : mg "str" = none) (T : Cl K mg C) (M1 : MakS1 P w K mg base C) (mB : Met P w K mg base 1 C "below" (spLt C) []) (mL : Met P w K mg base 4 C "less" (sp2 C (· - ·)) []) (cCE : Cal P w K mg base 6 "check_even" (spCE C) []) (cTu : Cal P w K mg base 5 "turned" (spTu C) [])
    (cAN : Cal P w K mg base 4 "above_nought" (spAN C) []) (cIO : Cal P w K mg base 4 "in_order" (spInOrder K C) []) (cLe : Cal P w K mg base 5 "lesser" (spLe C) []) : FnOk P w K mg base CX0 7 f fd ["standing", "name"] (spPO C) := by
  refine F.ok sc_paid_off (fun vs H Q E h => ?_) (fun cdv A outer s H vs Q E hr h => ?_)
  · obtain ⟨d, L, c, B, x, rfl, _⟩ := h
    rfl
  · obtain ⟨d, L, c, B, x, rfl, hS, cr, hx, hQ⟩ := h
    have hu := hu_of hr
    refine ⟨_, PSs.nox (pss_cons (ps_expr (pe_c cCE hr (by decide) rfl (pa_cons (pv 0) pa_nil)))
      (pss_cons (ps_if (PW.pt (pw_or (pt_not (pt_val (pe_callB call_isi rfl bl.isi boot_isinstance (pa_cons (pv 1) (pa_cons (pe_bltn (v := .ty "str") rfl bstr boot_str rfl) pa_nil))))) (pw_or1 (pt_cmp (pc_dnotin hu (pv 1) (pv 0)))))) pss_never pss_nil)
      (pss_cons (ps_set (i := 2) sc_paid_off.nd rfl (.inl rfl) (pe_mt mB hr (by decide) (pe_dget hu (pv 0) (pv 1) (fun _ _ => rfl)) (pa_cons (pe_mk M1 hr (by decide) rfl (pa_cons pe_int pa_nil)) pa_nil)))
      (C8.pss_cut (ps_set (i := 3) sc_paid_off.nd rfl (.inl rfl) (pe_ifExp (pt_val (pv 2)) (pv 0) (pe_c cTu hr (by decide) rfl (pa_cons (pv 0) pa_nil))))
      (pss_cons (ps_set (i := 4) sc_paid_off.nd rfl (.inl rfl) (pe_mt mL hr (by decide) (pe_mk M1 hr (by decide) rfl (pa_cons pe_int pa_nil)) (pa_cons (pe_dget hu (pv 3) (pv 1) (fun _ _ => rfl)) pa_nil)))
      (pss_cons (ps_set (i := 5) sc_paid_off.nd rfl (.inl rfl) (pe_lst pa_nil))
      (pss_cons (ps_for PassesOwn.never rfl (pi_list (pe_c cIO hr (by decide) rfl (pa_cons (pe_c cAN hr (by decide) rfl (pa_cons (pv 3) pa_nil)) (pa_cons (pe_c cTu hr (by decide) rfl (pa_cons (pv 3) pa_nil)) pa_nil)))) (pg_name (i := 6) sc_paid_off.nd rfl (.inl rfl))
        (pss_one (ps_if (pt_cmpR op_ne (pe_fld (pv 4) rfl) pe_int (nomark _))
          (pss_cons (ps_set (i := 7) sc_paid_off.nd rfl (.inl rfl) (pe_c cLe hr (by decide) rfl (pa_cons (pe_dget hu (pv 3) (pv 6) (fun _ _ => rfl)) (pa_cons (pv 4) pa_nil))))
          (C8.pss_cut (ps_expr (pe_bm PySem.F.plainAttrs_list PySem.F.slot_list_append PySem.F.type_list_append mt_append (pv 5) (pa_cons (pe_ifExp (pt_val (pv 2)) (pe_tup (pa_cons (pv 1) (pa_cons (pv 6) (pa_cons (pv 7) pa_nil)))) (pe_tup (pa_cons (pv 6) (pa_cons (pv 1) (pa_cons (pv 7) pa_nil))))) pa_nil)))
          (pss_one (ps_set (i := 4) sc_paid_off.nd rfl (.inl rfl) (pe_mt mL hr (by decide) (pv 4) (pa_cons (pv 7) pa_nil)))))) pss_nil)))
      (pss_one (ps_ret (pv 5)))))))))), ?_⟩
    obtain ⟨ow, how⟩ : ∃ ow, ow = decide (c x < 0) := ⟨_, rfl⟩
    rw [← how] at hQ
    refine ⟨_, rfl, d, L, c, rfl, hS, by have := cr.ll; omega, fun y hy => cr.sz hy, cr.s0, fun H1 s1 => ?_⟩
    have S1 := hS.same s1
    obtain ⟨ad, hd1, hv1⟩ := id S1
    have dgx : ∀ {H' : Hp} {y : Str}, Same H1 H' → y ∈ L → DGet H' d (.str y) (some (.ref (ad y))) := fun {H' y} sm hy => by
      have := DGet.k (k := Sum.inr y) (sm _ _ hd1)
      rw [val_dct, if_pos hy] at this
      exact this
    refine ⟨_, rfl, _, _, _, _, true, rfl, ClsV.ty _, TyX.base (TyOf.str _), kit_ty (by decide +kernel), true, rfl, iteF ?_⟩
    refine ⟨_, rfl, _, rfl, d, _, rfl, dgx (Same.refl _) hx, _, rfl, iteF ?_⟩
    refine ⟨_, rfl, _, rfl, d, _, rfl, dgx (Same.refl _) hx, ?_⟩
    obtain ⟨dxx, hxx⟩ := hv1 x hx
    refine ⟨ad x, dxx, _, rfl, hxx, no_below _, ?_⟩
    intro t dt nt ndt ne
    refine mk_in (n := 1) nt ndt (by decide) (by decide) (by decide) (by decide) fun H2 s2 ht => ⟨rfl, ?_⟩
    rw [div01] at ht
    refine ⟨ad x, t, c x, 0, 20, rfl, (hv1 x hx).keep s2, ht, cr.sz hx, sz0 (by decide), by decide, by decide, ?_⟩
    rw [← how]
    have S2 := S1.same s2
    have s02 := s1.trans s2
    -- what is seen
    refine ⟨fun σ' H' => ∃ sd, σ' = [some (.ref d), some (.str x), some (.bl ow), some (.ref sd), none, none, none, none] ∧ Same H H' ∧ SDc C H' sd L (seen ow c), ?_, ?_⟩
    · clear how hQ
      cases ow
      · refine ⟨_, rfl, false, rfl, ?_⟩
        refine iteF ?_
        exact ⟨_, rfl, d, L, c, rfl, S2, cr.nd, by have := cr.ll; omega, fun y hy => (cr.sz hy).mono (by decide), fun sd H3 s3 fsd Sd => ⟨sd, rfl, s02.trans s3, Sd⟩⟩
      · refine ⟨_, rfl, true, rfl, ?_⟩
        refine iteT ?_
        exact ⟨_, rfl, d, rfl, s02, S2⟩
    clear dgx hxx dxx ht nt ndt ne S2
    rintro σ' H3 ⟨sd, rfl, s3, Sd3⟩
    obtain ⟨as, hsd, hsv⟩ := id Sd3
    have dgs : ∀ {H' : Hp} {y : Str}, Same H3 H' → y ∈ L → DGet H' sd (.str y) (some (.ref (as y))) := fun {H' y} sm hy => by
      have := DGet.k (k := Sum.inr y) (sm _ _ hsd)
      rw [val_dct, if_pos hy] at this
      exact this
    intro t2 dt2 nt2 ndt2 ne2
    refine mk_in (n := 1) nt2 ndt2 (by decide) (by decide) (by decide) (by decide) fun H4 s4 ht4 => ⟨rfl, ?_⟩
    rw [div01] at ht4
    obtain ⟨d4, ht4⟩ := ht4
    refine ⟨t2, d4, _, rfl, ht4, no_less _, _, rfl, _, rfl, sd, _, rfl, dgs s4 hx, t2, as x, 0, seen ow c x, 20, rfl, ⟨d4, ht4⟩, (hsv x hx).keep s4, sz0 (by decide), cr.szS ow hx, by decide, by decide, fun lf H5 s5 flf hlf => ?_⟩
    have hlf : Sh C H5 lf (pr (-(seen ow c x))) := by
      have e : (0 : Rat) - seen ow c x = -(seen ow c x) := zero_sub' _
      rw [← e]
      exact hlf
    refine ⟨by show 0 ≤ sizeLine; decide, fun hl fhl => ?_⟩
    have s35 := s4.trans s5
    have s6 := same_new (o := .lst []) fhl
    have hl6 : HL C (upd H5 hl (.lst [])) hl [] := ⟨upd_same, fun r hr => nomatch hr⟩
    have s05 := s3.trans s35
    have Sd5 := Sd3.same s35
    generalize upd H5 hl (.lst []) = H6 at s6 hl6
    have ll := cr.ll
    refine ⟨_, rfl, sd, L, seen ow c, rfl, Sd5.same s6, by omega, fun y hy => (cr.szS ow hy).mono (by decide), fun o1 H7 s7 fo1 ho1 => ⟨_, rfl, sd, L, seen ow c, rfl, (Sd5.same s6).same s7, cr.nd, by omega, fun y hy => (cr.szS ow hy).mono (by decide), fun d2 H8 s8 fd2 Sd2 => ?_⟩⟩
    obtain ⟨a2, hd2, hv2⟩ := Sd2
    refine ⟨o1, d2, _, _, fun y => if y ∈ L then -(seen ow c y) else 0, 20, rfl, SqL.of (s8 _ _ ho1), ?_, ⟨hd2, fun y v e => ?_, fun y e => ?_⟩, fun y => ?_, by decide, by decide, fun o zs H9 s9 fo ho hpm hpw => ?_⟩
    · exact Nat.lt_of_le_of_lt (List.length_filter_le _ _) (by omega)
    · rw [val_dct] at e
      split at e
      · rename_i hy
        cases e
        exact ⟨_, rfl, by dsimp only; rw [if_pos hy]; exact hv2 y hy⟩
      · cases e
    · rw [val_dct] at e
      split at e
      · cases e
      · rename_i hy
        dsimp only
        rw [if_neg hy]
    · dsimp only
      split
      · rename_i hy
        have g := (seen_gr ow (cr.gr y hy)).neg
        exact g.sz cr.B0 (by decide) (by have := cr.B1; omega)
      · exact sz0 (by decide)
    have ord : OrdOf L (seen ow c) zs := ⟨hpm, hpw.imp_of_mem fun {a b} ha hb h => by
      have ha := (List.mem_filter.mp (hpm.mem_iff.mp ha)).1
      have hb := (List.mem_filter.mp (hpm.mem_iff.mp hb)).1
      unfold IO.le at h ⊢
      dsimp only at h ⊢
      rw [if_pos ha, if_pos hb] at h
      exact h⟩
    have s59 := s6.trans (s7.trans (s8.trans s9))
    have hl9 := hl6.same (s7.trans (s8.trans s9))
    have hlf9 := hlf.keep s59
    have noh : o ≠ hl := fun q => by
      have h1 := (s7.trans s8) _ _ hl6.1
      rw [q] at fo
      rw [fo] at h1
      cases h1
    clear hl6 hd2 hv2 ho1
    refine ⟨o, rfl, ⟨_, SqL.of ho⟩, for_list (K := K) (xs := zs.map V.str) (fun i σ H' => ∃ (lf' : Addr) (rows : List Ro) (v6 v7 : Option V), σ = [some (.ref d), some (.str x), some (.bl ow), some (.ref sd), some (.ref lf'), some (.ref hl), v6, v7] ∧ Same H5 H' ∧ H' o = some (.lst (zs.map V.str)) ∧ HL C H' hl rows ∧ rows.map Ro.key = (st (seen ow c) (zs.take i) (-(seen ow c x))).1.map (keyOf ow x) ∧ Sh C H' lf' (pr (st (seen ow c) (zs.take i) (-(seen ow c x))).2))
      ⟨lf, [], none, none, rfl, s59, ho, hl9, rfl, hlf9⟩ (fun i σ H' _ z => by obtain ⟨_, _, _, _, _, _, e, _⟩ := z; exact SqL.of e) ?_ ?_⟩
    · rintro i v σ H10 hi ⟨lf', rows, w6, w7, rfl, s10, ho10, hl10, ek, hlf10⟩
      rw [List.getElem?_map] at hi
      obtain ⟨z, hz0, rfl⟩ := Option.map_eq_some_iff.mp hi
      have hzm := List.mem_of_getElem? hz0
      obtain ⟨hzL, hz1⟩ := ord.mem hzm
      have hil : i < zs.length := (List.getElem?_eq_some_iff.mp hz0).1
      obtain ⟨u, hu0⟩ : ∃ u, u = st (seen ow c) (zs.take i) (-(seen ow c x)) := ⟨_, rfl⟩
      have gu := cr.st ow hx ord (ys := zs.take i) (fun y hy => List.mem_of_mem_take hy) (by rw [List.length_take]; omega)
      have e1 : st (seen ow c) (zs.take (i + 1)) (-(seen ow c x)) = step (seen ow c) u z := by rw [take_one hz0, st_snoc, hu0]
      rw [← hu0] at ek hlf10 gu
      have szu : Sz 20 u.2 := gu.1.sz cr.B0 (by decide) (by have := cr.B1; omega)
      obtain ⟨dl, hdl⟩ := id hlf10
      refine ⟨_, rfl, lf', C, dl, _, _, rfl, hdl, T.cl, T.nt, shF_top _, rfl, _, rfl, ?_⟩
      by_cases e0 : u.2 = 0
      · have e2 : (!decide (V.int (pr u.2).1 = V.int 0)) = false := by rw [e0]; exact ne_same (V.int 0)
        rw [e2]
        refine iteF ?_
        have e3 : step (seen ow c) u z = u := by unfold step; rw [if_pos e0]
        exact ⟨lf', rows, _, _, rfl, s10, ho10, hl10, by rw [e1, e3]; exact ek, by rw [e1, e3]; exact hlf10⟩
      · have e2 : (!decide (V.int (pr u.2).1 = V.int 0)) = true := by
          have : (pr u.2).1 ≠ 0 := fun q => e0 (num0.mp q)
          simp [this]
        rw [e2]
        refine iteT ?_
        have e3 : step (seen ow c) u z = (u.1 ++ [(z, mn (seen ow c z) u.2)], u.2 - mn (seen ow c z) u.2) := by unfold step; rw [if_neg e0]
        have s310 := s35.trans s10
        refine ⟨_, rfl, _, rfl, sd, _, rfl, dgs s310 hzL, _, rfl, as z, lf', seen ow c z, u.2, 20, rfl, (hsv z hzL).keep s310, hlf10, cr.szS ow hzL, szu, by decide, by decide, fun sh H11 s11 fsh hsh => ?_⟩
        have hl11 := hl10.same s11
        have hlf11 := hlf10.keep s11
        have ho11 := s11 _ _ ho10
        have lrows : rows.length ≤ 100 := by
          have h1 := congrArg List.length ek
          rw [List.length_map, List.length_map, hu0] at h1
          have h2 : (st (seen ow c) (zs.take i) (-(seen ow c x))).1.length ≤ 0 + (zs.take i).length := fold_len _ _ _
          rw [List.length_take] at h2
          have := ord.len
          omega
        refine ⟨fun σ' H' => ∃ rows', σ' = [some (.ref d), some (.str x), some (.bl ow), some (.ref sd), some (.ref lf'), some (.ref hl), some (.str z), some (.ref sh)] ∧ Same H5 H' ∧ H' o = some (.lst (zs.map V.str)) ∧ HL C H' hl rows' ∧ rows'.map Ro.key = rows.map Ro.key ++ [keyOf ow x (z, mn (seen ow c z) u.2)] ∧ Sh C H' lf' (pr u.2) ∧ Sh C H' sh (pr (mn (seen ow c z) u.2)), ?_, ?_⟩
        · refine ⟨_, rfl, .inl ⟨rfl, _, SqL.of hl11.1⟩, _, rfl, ow, rfl, ?_⟩
          have fin : ∀ (p q : Str) (u2 : Addr), H11 u2 = none → keyOf ow x (z, mn (seen ow c z) u.2) = (p, q, mn (seen ow c z) u.2) →
              ∃ rows', [some (V.ref d), some (.str x), some (.bl ow), some (.ref sd), some (.ref lf'), some (.ref hl), some (.str z), some (.ref sh)] = [some (V.ref d), some (.str x), some (.bl ow), some (.ref sd), some (.ref lf'), some (.ref hl), some (.str z), some (.ref sh)] ∧
                Same H5 (upd (upd H11 u2 (.tup [.str p, .str q, .ref sh])) hl (.lst ((rows.map fun r => V.ref r.a) ++ [.ref u2]))) ∧ (upd (upd H11 u2 (.tup [.str p, .str q, .ref sh])) hl (.lst ((rows.map fun r => V.ref r.a) ++ [.ref u2]))) o = some (.lst (zs.map V.str)) ∧
                HL C (upd (upd H11 u2 (.tup [.str p, .str q, .ref sh])) hl (.lst ((rows.map fun r => V.ref r.a) ++ [.ref u2]))) hl rows' ∧ rows'.map Ro.key = rows.map Ro.key ++ [keyOf ow x (z, mn (seen ow c z) u.2)] ∧
                Sh C (upd (upd H11 u2 (.tup [.str p, .str q, .ref sh])) hl (.lst ((rows.map fun r => V.ref r.a) ++ [.ref u2]))) lf' (pr u.2) ∧ Sh C (upd (upd H11 u2 (.tup [.str p, .str q, .ref sh])) hl (.lst ((rows.map fun r => V.ref r.a) ++ [.ref u2]))) sh (pr (mn (seen ow c z) u.2)) := fun p q u2 fu ekey => by
            have su := same_new (o := .tup [.str p, .str q, .ref sh]) fu
            have hl12 := hl11.same su
            have hu2 : (upd H11 u2 (.tup [.str p, .str q, .ref sh])) u2 = some (.tup [.str p, .str q, .ref sh]) := upd_same
            have hlf12 := hlf11.keep su
            have hsh12 := hsh.keep su
            have ho12 := su _ _ ho11
            have s12 := s10.trans (s11.trans su)
            generalize upd H11 u2 (.tup [.str p, .str q, .ref sh]) = H12 at hl12 hu2 hlf12 hsh12 ho12 s12
            have shn : ∀ {p' : Addr} {k : Int × Int}, Sh C H12 p' k → Sh C (upd H12 hl (.lst ((rows.map fun r => V.ref r.a) ++ [.ref u2]))) p' k := fun {p' k} g => by
              obtain ⟨dx, e⟩ := g
              exact ⟨dx, by rw [upd_ne fun z => by rw [z, hl12.1] at e; cases e]; exact e⟩
            refine ⟨rows ++ [⟨u2, p, q, sh, mn (seen ow c z) u.2⟩], rfl, fun b o' e => by rw [upd_ne (ne_of_none e fhl)]; exact s12 _ _ e, by rw [upd_ne noh]; exact ho12, hl12.app ⟨u2, p, q, sh, mn (seen ow c z) u.2⟩ hu2 hsh12, ?_, shn hlf12, shn hsh12⟩
            rw [List.map_append, ekey]
            rfl
          refine ite2 (fun q => ?_) (fun q => ?_)
          · refine ⟨_, rfl, _, rfl, _, rfl, by show 3 ≤ sizeLine; decide, fun u2 fu => ⟨hl, _, _, rfl, rfl, same_new fu _ _ hl11.1, by rw [List.length_map]; exact line_lt (by omega), fin x z u2 fu (by unfold keyOf; rw [if_pos q])⟩⟩
          · refine ⟨_, rfl, _, rfl, _, rfl, by show 3 ≤ sizeLine; decide, fun u2 fu => ⟨hl, _, _, rfl, rfl, same_new fu _ _ hl11.1, by rw [List.length_map]; exact line_lt (by omega), fin z x u2 fu (by unfold keyOf; rw [if_neg q])⟩⟩
        · rintro σ' H12 ⟨rows', rfl, s12, ho12, hl12, ek12, hlf12, hsh12⟩
          obtain ⟨dl2, hdl2⟩ := id hlf12
          have szm : Sz 20 (mn (seen ow c z) u.2) := by
            unfold mn
            split
            · exact cr.szS ow hzL
            · exact szu
          refine ⟨_, rfl, lf', dl2, _, rfl, hdl2, no_less _, _, rfl, lf', sh, u.2, mn (seen ow c z) u.2, 20, rfl, hlf12, hsh12, szu, szm, by decide, by decide, fun lf2 H13 s13 flf2 hlf2 => ?_⟩
          refine ⟨lf2, rows', _, _, rfl, s12.trans s13, s13 _ _ ho12, hl12.same s13, ?_, ?_⟩
          · rw [e1, e3, ek12, ek, List.map_append]
            rfl
          · rw [e1, e3]
            exact hlf2
    · rintro σ H10 ⟨lf', rows, w6, w7, rfl, s10, ho10, hl10, ek, hlf10⟩
      rw [List.length_map, List.take_length] at ek
      exact ⟨_, rfl, hQ hl H10 rows zs (s05.trans s10) (s05.free fhl) hl10 ord ek⟩
end
end K60.Q
set_option Elab.async false
set_option linter.all false
set_option maxRecDepth 100000
set_option maxHeartbeats 4000000
namespace K60.Q
open PySem PySem.Spec PyProof.Rows L2
open C8 (Cal Mak Met pe_c pe_mk pe_mt pe_mt0)
open KM (pr Sz)
open SX (S)
theorem S_inj' {l m : List Nat} (h : S l = S m) : l = m := by
  have := congrArg (fun z : Str => z.cps.toList) h
  simpa [S] using this
theorem cut_from1 {α : Type} (g : α → V) (L : List α) : cutV (L.map g) (some 1) none = (L.drop 1).map g := by
  unfold cutV
  rw [show (1 : Int) = ((1 : Nat) : Int) from rfl, HT.sIx_nat, HT.sIx_none, List.length_map, List.map_drop]
  by_cases h : L.length = 0
  · rw [List.length_eq_zero_iff.mp h]
    rfl
  · rw [Nat.min_eq_left (by omega), List.take_of_length_le (by rw [List.length_drop, List.length_map]; omega)]
theorem _root_.K60.Held.no {H : Hp} {h a : Addr} {c : Nat} {o : HO} (x : Held H h c) (e : H a = some o) (n : ∀ kvs, o ≠ .dK kvs) : a ≠ h := fun z => by
  obtain ⟨l, ns, m, k, h1, _⟩ := x
  rw [z, h1] at e
  exact n _ (Option.some.inj e).symm
theorem TDc.kp {H H' : Hp} {h d : Addr} {k : Nat} {L : List Str} {c : Str → Rat} (x : TDc H d L c) (he : Held H h k) (n : d ≠ h) (kp : Kp h H H') : TDc H' d L c := by
  obtain ⟨ad, h1, h2⟩ := x
  exact ⟨ad, kp.1 _ _ h1 n, fun y hy => kp.1 _ _ (h2 y hy) (he.no (h2 y hy) fun kvs e => by cases e)⟩
theorem sum_setc {c : Str → Rat} {L : List Str} {x : Str} {v : Rat} (h : x ∉ L) : sumR ((L ++ [x]).map (setc c x v)) = sumR (L.map c) + v := by
  have e : L.map (setc c x v) = L.map c := List.map_congr_left fun y hy => by
    unfold setc
    rw [if_neg (show ¬ y = x from fun z => h (z ▸ hy))]
  rw [List.map_append, sumR_app, e]
  show _ + (0 + setc c x v x) = _
  unfold setc
  rw [if_pos rfl, Rat.zero_add]
end K60.Q
set_option Elab.async false
set_option linter.all false
set_option maxRecDepth 100000
set_option maxHeartbeats 4000000
/-! MXP: max of a list of pairs of whole numbers: one of those whose first is the greatest. -/
namespace MXP
open PySem PySem.Spec PyProof.Rows L2
open PySem.W (DatumOrd Datum)
theorem lt_fst {x y : Int × Int} (h : DatumOrd.lt x y = true) : x.1 ≤ y.1 := by
  have h' : (if x.1 = y.1 then decide (x.2 < y.2) else decide (x.1 < y.1)) = true := h
  split at h'
  · omega
  · have := of_decide_eq_true h'
    omega
theorem nlt_fst {x y : Int × Int} (h : ¬ DatumOrd.lt x y = true) : y.1 ≤ x.1 := by
  have h' : ¬ (if x.1 = y.1 then decide (x.2 < y.2) else decide (x.1 < y.1)) = true := h
  split at h'
  · omega
  · simp only [decide_eq_true_eq] at h'
    omega
theorem max_fst : ∀ (xs : List (Int × Int)) (x : Int × Int), x.1 ≤ (PySem.W.maxOf x xs).1 ∧ ∀ q ∈ xs, q.1 ≤ (PySem.W.maxOf x xs).1
  | [], x => ⟨Int.le_refl _, fun q h => nomatch h⟩
  | y :: ys, x => by
    have e : PySem.W.maxOf x (y :: ys) = PySem.W.maxOf (if DatumOrd.lt x y = true then y else x) ys := rfl
    by_cases h : DatumOrd.lt x y = true
    · rw [e, if_pos h]
      obtain ⟨a, b⟩ := max_fst ys y
      refine ⟨Int.le_trans (lt_fst h) a, fun q hq => ?_⟩
      rcases List.mem_cons.mp hq with rfl | hq
      · exact a
      · exact b q hq
    · rw [e, if_neg h]
      obtain ⟨a, b⟩ := max_fst ys x
      refine ⟨a, fun q hq => ?_⟩
      rcases List.mem_cons.mp hq with rfl | hq
      · exact Int.le_trans (nlt_fst h) a
      · exact b q hq
def pD (p : Int × Int) : PyData := .tuple [.int p.1, .int p.2]
theorem depth_p : ∀ ps : List (Int × Int), PyData.depthAll (ps.map pD) ≤ 1
  | [] => by simp [PyData.depthAll]
  | p :: ps => by
    rw [List.map_cons, PyData.depthAll]
    have := depth_p ps
    have e : (pD p).depth = 1 := by simp [pD, PyData.depth, PyData.depthAll]
    omega
theorem inv_p {h : Heap} {v : Value} {p : Int × Int} {a : Addr} {o : Obj} {c : Nat} {t1 t2 : Tok} {i j : Int} {as : List Addr} (e : v = .ref a) (ho : h.get? a = some o) (hd : o.data = .seq #[.int i t1, .int j t2] c) (r : Reads h v (pD p) as) : p = (i, j) := by
  subst e
  unfold pD at r
  cases r with
  | tuple ho' hc' hd' hr' =>
    rw [ho] at ho'
    cases ho'
    rw [hd] at hd'
    cases hd'
    cases hr' with
    | cons r1 r2 =>
      cases r1
      cases r2 with
      | cons r3 r4 =>
        cases r3
        rfl
section
variable {X : Cx}
def rMaxP (K : PySem.W.Frag) : List V → Hp → VK → Prop := fun vs H Q => ∃ (l : Addr) (rs : List (Addr × Int × Int)), vs = [.ref l] ∧ SqL K H l (rs.map fun r => V.ref r.1) ∧ rs ≠ [] ∧ (∀ r ∈ rs, H r.1 = some (.tup [.int r.2.1, .int r.2.2])) ∧
  ∀ r ∈ rs, (∀ q ∈ rs, q.2.1 ≤ r.2.1) → Q (.ref r.1) H
theorem dp_rs {K : PySem.W.Frag} {H : Hp} : ∀ {rs : List (Addr × Int × Int)}, (∀ r ∈ rs, H r.1 = some (.tup [.int r.2.1, .int r.2.2])) → DpAll K H (rs.map fun r => V.ref r.1) ((rs.map fun r => r.2).map pD)
  | [], _ => .nil
  | r :: rs, h => .cons (.tup (SqT.of (h r List.mem_cons_self)) (.cons (.int _) (.cons (.int _) .nil))) (dp_rs fun q hq => h q (List.mem_cons_of_mem _ hq))
theorem call_maxP (hc : X.calm = true) (hu : X.A.units + 64 < cLine) : CallR X (.builtin "max") (rMaxP X.K) := by
  intro pins s σ H vs us Q I rv h
  obtain ⟨l, rs, rfl, hs, ne, hp, q⟩ := h
  obtain ⟨u, rfl, ru⟩ := rv.one
  cases ru
  obtain ⟨its, rvl, hl, hz⟩ := I.list hs
  obtain ⟨as, hr⟩ := Dp.readsAll I _ _ its (dp_rs (K := X.K) hp) rvl
  obtain ⟨r0, rt, rfl⟩ : ∃ r0 rt, rs = r0 :: rt := by
    cases rs with
    | nil => exact absurd rfl ne
    | cons a b => exact ⟨a, b, rfl⟩
  have eP : pD = (Datum.toD : Int × Int → PyData) := funext fun _ => rfl
  have eD : PySem.W.maxD (pD r0.2) ((rt.map fun r => r.2).map pD) = pD (PySem.W.maxOf r0.2 (rt.map fun r => r.2)) := by
    rw [eP]
    exact PySem.W.maxD_map (α := Int × Int) r0.2 (rt.map fun r => r.2)
  have al : PySem.W.AlikeAll (pD r0.2 :: (rt.map fun r => r.2).map pD) := by
    rw [eP]
    exact PySem.W.alikeAll_datum (α := Int × Int) (r0.2 :: rt.map fun r => r.2)
  refine PySem.W.max_list_data (x := pD r0.2) (xs := (rt.map fun r => r.2).map pD) (I.ok.hd hc) hl.isList (by simpa using hr) al (by have := depth_p ((r0 :: rt).map fun r => r.2); simp only [List.map_cons] at this; omega) (fun i v h' tk bs hi hr' hk => ?_)
  rw [eD] at hr'
  have hi' : its[i]? = some v := by simpa using hi
  have il : i < ((r0 :: rt).map fun r => V.ref r.1).length := by
    rw [rvl.length]
    exact (List.getElem?_eq_some_iff.mp hi').1
  have ir : i < (r0 :: rt).length := by simpa using il
  obtain ⟨u1, e1, q1⟩ := rvl.get (List.getElem?_eq_getElem il)
  rw [hi'] at e1
  cases e1
  rw [List.getElem_map] at q1
  have ev : v = Value.ref ((r0 :: rt)[i]).1 := q1
  have hm : (r0 :: rt)[i] ∈ r0 :: rt := List.getElem_mem ir
  have hx := hp _ hm
  obtain ⟨js, rj, ⟨o, ho, hcl, n, hd⟩, _⟩ := I.tuple (SqT.of (K := X.K) hx)
  have em : PySem.W.maxOf r0.2 (rt.map fun r => r.2) = ((r0 :: rt)[i]).2 := by
    match js, rj with
    | [_, _], .cons r1 (.cons r2 .nil) =>
      obtain ⟨t1, rfl⟩ := r1
      obtain ⟨t2, rfl⟩ := r2
      exact inv_p ev (hk _ _ ho) hd hr'
  refine ⟨.ref ((r0 :: rt)[i]).1, H, I.kept hk, ev, q _ hm fun y hy => ?_⟩
  rw [← em]
  obtain ⟨a, b⟩ := max_fst (rt.map fun r => r.2) r0.2
  rcases List.mem_cons.mp hy with rfl | hy
  · exact a
  · exact b _ (List.mem_map.mpr ⟨y, hy, rfl⟩)
end
end MXP
set_option Elab.async false
set_option linter.all false
set_option maxRecDepth 100000
set_option maxHeartbeats 4000000
namespace K60.Q
open PySem PySem.Spec PyProof.Rows L2
open C8 (Cal Mak Met pe_c pe_mk pe_mt pe_mt0)
open KM (pr Sz)
/-- the product of the bottoms -/
def comN (c : Str → Rat) (xs : List Str) : Nat := xs.foldl (fun a x => a * (c x).den) 1
theorem comN_snoc (c : Str → Rat) (xs : List Str) (x : Str) : comN c (xs ++ [x]) = comN c xs * (c x).den := by
  unfold comN
  rw [List.foldl_append]
  rfl
/-- small credits -/
def Cs (r : Rat) : Prop := r.den ≤ 840 ∧ r.num.natAbs ≤ 42000
theorem com_lt {c : Str → Rat} : ∀ (n : Nat) {xs : List Str}, xs.length = n → (∀ x ∈ xs, Cs (c x)) → comN c xs < 2 ^ (10 * n + 1)
  | 0, xs, e, _ => by
    rw [List.length_eq_zero_iff.mp e]
    show 1 < 2 ^ 1
    decide
  | n + 1, xs, e, h => by
    have ne : xs ≠ [] := fun z => by rw [z] at e; simp at e
    rw [← List.dropLast_concat_getLast ne] at h ⊢
    rw [comN_snoc]
    have ih := com_lt n (xs := xs.dropLast) (by rw [List.length_dropLast]; omega) fun x hx => h x (List.mem_append_left _ hx)
    have hd := (h (xs.getLast ne) (by simp)).1
    have e2 : 2 ^ (10 * (n + 1) + 1) = 2 ^ (10 * n + 1) * 1024 := by
      rw [show 10 * (n + 1) + 1 = (10 * n + 1) + 10 by omega, Nat.pow_add]
    rw [e2]
    exact Nat.lt_of_le_of_lt (Nat.mul_le_mul_left _ (Nat.le_trans hd (by decide : 840 ≤ 1024))) (Nat.mul_lt_mul_of_pos_right ih (by decide))
theorem com_pos {c : Str → Rat} : ∀ (n : Nat) {xs : List Str}, xs.length = n → 0 < comN c xs
  | 0, xs, e => by
    rw [List.length_eq_zero_iff.mp e]
    show 0 < 1
    decide
  | n + 1, xs, e => by
    have ne : xs ≠ [] := fun z => by rw [z] at e; simp at e
    rw [← List.dropLast_concat_getLast ne, comN_snoc]
    exact Nat.mul_pos (com_pos n (by rw [List.length_dropLast]; omega)) (Rat.den_pos _)
theorem pe_fldK {X : Cx} {K : PySem.W.Frag} {e : Expr} {ta : TE} {f : Str} {pos : Pos} (hK : X.K = K) (he : PE X e ta) (hb : attributeBase e f X.env (eval e X.env) = eval e X.env) : PE X (.Attribute e f pos) (tFld K ta f) := hK ▸ pe_fld he hb
/-- a credit as a whole number -/
def wcr (c : Str → Rat) (m : Nat) (x : Str) : Int := (c x).num * ((m : Int) / ((c x).den : Int))
theorem take_all {α : Type} (l : List α) : l.take l.length = l := List.take_length
theorem dct_dg {H : Hp} {d : Addr} {L : List Str} {ad : Str → Addr} {x : Str} (hd : H d = some (dctO L fun y => .ref (ad y))) (hx : x ∈ L) : DGet H d (.str x) (some (.ref (ad x))) := by
  have := DGet.k (k := Sum.inr x) hd
  rw [val_dct, if_pos hx] at this
  exact this
section
variable {P : Program} {w : World} {K : PySem.W.Frag} {mg : Str → Option Value} {base : Heap} {f C : Addr} {fd : FuncData}
def spWC (C : Addr) : Sp := fun vs H Q _ => ∃ (d nl : Addr) (L xs : List Str) (c : Str → Rat), vs = [.ref d, .ref nl] ∧ SDc C H d L c ∧ H nl = some (.lst (xs.map V.str)) ∧ (∀ x ∈ xs, x ∈ L) ∧ xs.length ≤ 20 ∧ (∀ x ∈ xs, Cs (c x)) ∧
  ∀ o H', Same H H' → H o = none → H' o = some (.lst ((xs.map (wcr c (comN c xs))).map V.int)) → Q (.ref o) H'
theorem ok_wc (F : Dn K d_whole_credits f fd) (T : Cl K mg C) : FnOk P w K mg base CX0 1 f fd ["standing", "names"] (spWC C) := by
  refine F.ok sc_whole_credits (fun vs H Q E h => ?_) (fun cdv A outer s H vs Q E hr h => ?_)
  · obtain ⟨d, nl, L, xs, c, rfl, _⟩ := h
    rfl
  · obtain ⟨d, nl, L, xs, c, rfl, ⟨ad, hd, hv⟩, hn, sub, xl, cs, hQ⟩ := h
    have hu := hu_of hr
    refine ⟨_, PSs.nox (pss_cons (ps_set (i := 2) sc_whole_credits.nd rfl (.inr rfl) pe_int)
      (pss_cons (ps_for PassesOwn.never rfl (pi_list (pv 1)) (pg_name (i := 3) sc_whole_credits.nd rfl (.inl rfl)) (pss_one (ps_set (i := 2) sc_whole_credits.nd rfl (.inr rfl) (pe_op op_mulW (pv 2) (pe_fld (pe_dget hu (pv 0) (pv 3) (fun _ _ => rfl)) rfl)))))
      (pss_one (ps_ret (pe_lc (own := [("name", 3)]) (g := gName 3) (tt := tYes) rfl sc_whole_credits.nd (pi_list (pv 1)) (blkOk_by (N := N_whole_credits) (sc := defScope s_whole_credits) (by decide +kernel))
        (fun _ _ _ _ _ => pg_name (i := 3) sc_whole_credits.nd rfl (Or.inl rfl)) (fun _ _ _ _ _ => pts_nil)
        (fun _ _ _ _ _ => pe_op op_mulW (pe_fldK (K := K) rfl (pe_dget hu (pv 0) (pv 3) (fun _ _ => rfl)) rfl) (pe_op op_fdW (pv 2) (pe_fldK (K := K) rfl (pe_dget hu (pv 0) (pv 3) (fun _ _ => rfl)) rfl)))))))), ?_⟩
    have sz : ∀ i, comN c (xs.take i) < 2 ^ 201 := fun i => by
      have h1 := com_lt (c := c) _ (xs := xs.take i) rfl fun x hx => cs x (List.mem_of_mem_take hx)
      have h2 : (xs.take i).length ≤ 20 := Nat.le_trans (List.length_take_le' _ _) xl
      exact Nat.lt_of_lt_of_le h1 (Nat.pow_le_pow_right (by decide) (by omega))
    refine ⟨_, rfl, nl, rfl, ⟨_, SqL.of hn⟩, for_list (K := K) (xs := xs.map V.str) (fun i σ H' => ∃ v3, σ = [some (.ref d), some (.ref nl), some (.int ((comN c (xs.take i) : Nat) : Int)), v3] ∧ H' = H) ⟨_, rfl, rfl⟩ (fun i σ H' _ z => by obtain ⟨_, _, e⟩ := z; rw [e]; exact SqL.of hn) ?_ ?_⟩
    · rintro i v σ H' hi ⟨v3, rfl, eH⟩
      subst eH
      rw [List.getElem?_map] at hi
      obtain ⟨z, hz, rfl⟩ := Option.map_eq_some_iff.mp hi
      have hzx := List.mem_of_getElem? hz
      obtain ⟨dz, hvz⟩ := hv z (sub z hzx)
      refine ⟨_, rfl, _, rfl, _, rfl, d, _, rfl, dct_dg hd (sub z hzx), ad z, C, dz, _, _, rfl, hvz, T.cl, T.nb, shF_bot _, _, _, rfl, rfl, wide_mul (a := 201) (b := 10) (by show ((comN c (xs.take i) : Nat) : Int).natAbs < _; have := sz i; omega) (by show (((c z).den : Nat) : Int).natAbs < 2 ^ 10; have := (cs z hzx).1; omega) (by decide) (by decide) (by decide), ?_⟩
      refine ⟨some (.str z), ?_, rfl⟩
      rw [take_one hz, comN_snoc]
      show [some (V.ref d), some (V.ref nl), some (V.int ((comN c (xs.take i) : Int) * ((c z).den : Int))), some (V.str z)] = _
      rw [Int.natCast_mul]
    · rintro σ H' ⟨v3, rfl, eH⟩
      subst eH
      rw [List.length_map, take_all]
      have szA : comN c xs < 2 ^ 201 := by
        have := sz xs.length
        rw [take_all] at this
        exact this
      refine ⟨_, rfl, nl, rfl, ⟨_, SqL.of hn⟩, fun D fD => lc_list (K := K) (xs := xs.map V.str) (fun j H2 => H2 D = some (.lst (((xs.take j).map (wcr c (comN c xs))).map V.int)) ∧ Same H' H2) ⟨upd_same, same_new fD⟩ (fun j H2 _ z => SqL.of (z.2 _ _ hn)) ?_ ?_⟩
      · rintro j v H2 hj ⟨hD, s2⟩
        rw [List.getElem?_map] at hj
        obtain ⟨z, hz, rfl⟩ := Option.map_eq_some_iff.mp hj
        have hzx := List.mem_of_getElem? hz
        obtain ⟨dz, hvz⟩ := hv z (sub z hzx)
        have hd2 := s2 _ _ hd
        have hvz2 := s2 _ _ hvz
        have dp := Rat.den_pos (c z)
        have d60 := (cs z hzx).1
        refine ⟨rfl, ?_⟩
        refine ⟨_, rfl, _, rfl, d, _, rfl, dct_dg hd2 (sub z hzx), ad z, C, dz, _, _, rfl, hvz2, T.cl, T.nt, shF_top _, _, rfl, _, rfl, _, rfl, d, _, rfl, dct_dg hd2 (sub z hzx), ad z, C, dz, _, _, rfl, hvz2, T.cl, T.nb, shF_bot _, _, _, rfl, rfl, ⟨by show (((c z).den : Nat) : Int) ≠ 0; omega, log_lt (n := 10) (by show (((c z).den : Nat) : Int).natAbs < 2 ^ 10; omega) (by decide) (by decide)⟩, ?_⟩
        have e : ((comN c xs : Nat) : Int).fdiv (((c z).den : Nat) : Int) = ((comN c xs : Nat) : Int) / (((c z).den : Nat) : Int) := Int.fdiv_eq_ediv_of_nonneg _ (by omega)
        have lq : (((comN c xs : Nat) : Int) / (((c z).den : Nat) : Int)).natAbs < 2 ^ 201 := by
          rw [← Int.natCast_ediv, Int.natAbs_natCast]
          exact Nat.lt_of_le_of_lt (Nat.div_le_self _ _) szA
        refine ⟨_, _, rfl, rfl, ?_, ?_⟩
        · show CMulW (pr (c z)).1 (((comN c xs : Nat) : Int).fdiv (((c z).den : Nat) : Int))
          rw [e]
          exact wide_mul (a := 16) (b := 201) (by show (c z).num.natAbs < 2 ^ 16; have := (cs z hzx).2; omega) lq (by decide) (by decide) (by decide)
        · show ∃ acc, H2 D = some (.lst acc) ∧ acc.length < sizeLine ∧ _ ∧ _
          refine ⟨_, hD, by rw [List.length_map, List.length_map, List.length_take]; exact line_lt (by omega), ?_, fun b o eo => ?_⟩
          · rw [upd_same, take_one hz, List.map_append, List.map_append]
            show some (HO.lst (_ ++ [V.int ((pr (c z)).1 * ((comN c xs : Nat) : Int).fdiv (((c z).den : Nat) : Int))])) = _
            rw [e]
            rfl
          · rw [upd_ne (ne_of_none eo fD)]
            exact s2 _ _ eo
      · rintro H2 ⟨hD, s2⟩
        rw [List.length_map, take_all] at hD
        exact hQ D _ s2 fD hD
end
end K60.Q
set_option Elab.async false
set_option linter.all false
set_option maxHeartbeats 1000000
/-! SETM: sets as numbers: sums over sets, the most noughts on the way down. -/
namespace SETM
/-- the members -/
def bs (n S : Nat) : List Nat := (List.range n).filter fun k => S.testBit k
theorem mem_bs {n S k : Nat} : k ∈ bs n S ↔ k < n ∧ S.testBit k = true := by
  unfold bs
  rw [List.mem_filter, List.mem_range]
theorem nd_range : ∀ n : Nat, (List.range n).Nodup := fun n => List.nodup_range
theorem bs_nd (n S : Nat) : (bs n S).Nodup := (nd_range n).sublist List.filter_sublist
theorem rem : ∀ (k S : Nat), S.testBit k = true → 2 ^ k ≤ S ∧ ∀ j, (S - 2 ^ k).testBit j = (S.testBit j && decide (j ≠ k))
  | 0, S, h => by
    rw [Nat.testBit_zero, decide_eq_true_eq] at h
    refine ⟨by show 1 ≤ S; omega, fun j => ?_⟩
    cases j with
    | zero =>
      rw [Nat.testBit_zero, Nat.testBit_zero]
      show decide ((S - 1) % 2 = 1) = _
      rw [decide_eq_false (by omega)]
      simp
    | succ j =>
      rw [Nat.testBit_succ, Nat.testBit_succ]
      have e : (S - 2 ^ 0) / 2 = S / 2 := by show (S - 1) / 2 = S / 2; omega
      rw [e]
      simp
  | k + 1, S, h => by
    rw [Nat.testBit_succ] at h
    obtain ⟨h1, h2⟩ := rem k (S / 2) h
    have e : 2 ^ (k + 1) = 2 * 2 ^ k := by rw [Nat.pow_succ]; omega
    refine ⟨by omega, fun j => ?_⟩
    cases j with
    | zero =>
      rw [Nat.testBit_zero, Nat.testBit_zero]
      have : (S - 2 ^ (k + 1)) % 2 = S % 2 := by omega
      rw [this]
      simp
    | succ j =>
      rw [Nat.testBit_succ, Nat.testBit_succ]
      have : (S - 2 ^ (k + 1)) / 2 = S / 2 - 2 ^ k := by omega
      rw [this, h2 j]
      simp
theorem bs_perm {n S k : Nat} (hk : k < n) (h : S.testBit k = true) : (bs n S).Perm (k :: bs n (S - 2 ^ k)) := by
  obtain ⟨_, h2⟩ := rem k S h
  refine (List.perm_ext_iff_of_nodup (bs_nd n S) (List.nodup_cons.mpr ⟨fun z => ?_, bs_nd _ _⟩)).mpr fun j => ?_
  · have := (mem_bs.mp z).2
    rw [h2 k] at this
    simp at this
  · rw [List.mem_cons, mem_bs, mem_bs, h2 j]
    by_cases e : j = k
    · subst e
      simp [hk, h]
    · simp [e]
theorem bs_zero (n : Nat) : bs n 0 = [] := by
  unfold bs
  rw [List.filter_eq_nil_iff]
  intro k _
  simp
theorem bs_full (n : Nat) : bs n (2 ^ n - 1) = List.range n := by
  unfold bs
  rw [List.filter_eq_self]
  intro k hk
  rw [Nat.testBit_two_pow_sub_one]
  exact decide_eq_true (List.mem_range.mp hk)
theorem some_bit {n S : Nat} (h0 : 0 < S) (h : S < 2 ^ n) : ∃ k, k < n ∧ S.testBit k = true := by
  obtain ⟨k, hk⟩ := Nat.exists_testBit_of_ne_zero (show S ≠ 0 by omega)
  refine ⟨k, Classical.byContradiction fun z => ?_, hk⟩
  have : S < 2 ^ k := Nat.lt_of_lt_of_le h (Nat.pow_le_pow_right (by decide) (by omega))
  rw [Nat.testBit_lt_two_pow this] at hk
  cases hk
theorem sum_perm {l m : List Int} (p : l.Perm m) : l.sum = m.sum := by
  induction p with
  | nil => rfl
  | cons x _ ih => simp [ih]
  | swap x y l => simp; omega
  | trans _ _ h1 h2 => exact h1.trans h2
/-- the sum over a set -/
def sm (W : List Int) (S : Nat) : Int := ((bs W.length S).map fun k => W.getD k 0).sum
theorem sm_zero (W : List Int) : sm W 0 = 0 := by
  unfold sm
  rw [bs_zero]
  rfl
theorem sm_rem {W : List Int} {S k : Nat} (hk : k < W.length) (h : S.testBit k = true) : sm W S = W.getD k 0 + sm W (S - 2 ^ k) := by
  unfold sm
  rw [sum_perm ((bs_perm hk h).map _)]
  simp
theorem sm_full (W : List Int) : sm W (2 ^ W.length - 1) = W.sum := by
  unfold sm
  rw [bs_full]
  congr 1
  refine List.ext_getElem (by simp) fun i h1 h2 => ?_
  simp at h1
  simp [List.getD_eq_getElem?_getD, h1]
/-- all sums, one number behind another -/
def sumsL (W : List Int) : List Int := W.foldl (fun L w => L ++ L.map fun x => x + w) [0]
theorem sumsL_snoc (W : List Int) (w : Int) : sumsL (W ++ [w]) = sumsL W ++ (sumsL W).map fun x => x + w := by
  unfold sumsL
  rw [List.foldl_append]
  rfl
theorem bs_low {n S : Nat} (h : S < 2 ^ n) : bs (n + 1) S = bs n S := by
  unfold bs
  rw [List.range_succ, List.filter_append]
  have : S.testBit n = false := Nat.testBit_lt_two_pow h
  simp [this]
theorem bs_high {n r : Nat} (h : r < 2 ^ n) : bs (n + 1) (2 ^ n + r) = bs n r ++ [n] := by
  unfold bs
  rw [List.range_succ, List.filter_append]
  have e1 : (2 ^ n + r).testBit n = true := by
    rw [Nat.testBit_two_pow_add_eq, Nat.testBit_lt_two_pow h]
    rfl
  have e2 : (List.range n).filter (fun k => (2 ^ n + r).testBit k) = (List.range n).filter fun k => r.testBit k := by
    refine List.filter_congr fun k hk => ?_
    rw [Nat.testBit_two_pow_add_gt (List.mem_range.mp hk)]
  rw [e2]
  simp [e1]
theorem sumsL_get : ∀ (n : Nat) (W : List Int), W.length = n → (sumsL W).length = 2 ^ n ∧ ∀ S, S < 2 ^ n → (sumsL W)[S]? = some (sm W S)
  | 0, W, e => by
    rw [List.length_eq_zero_iff.mp e]
    refine ⟨rfl, fun S h => ?_⟩
    have : S = 0 := by simpa using h
    subst this
    rfl
  | n + 1, W, e => by
    have ne : W ≠ [] := fun z => by rw [z] at e; simp at e
    obtain ⟨V, w, rfl⟩ : ∃ V w, W = V ++ [w] := ⟨W.dropLast, W.getLast ne, (List.dropLast_concat_getLast ne).symm⟩
    have lV : V.length = n := by simpa using e
    obtain ⟨i1, i2⟩ := sumsL_get n V lV
    rw [sumsL_snoc]
    have e2 : 2 ^ (n + 1) = 2 ^ n + 2 ^ n := by rw [Nat.pow_succ]; omega
    refine ⟨by rw [List.length_append, List.length_map, i1, e2], fun S h => ?_⟩
    have lW : (V ++ [w]).length = n + 1 := by simp [lV]
    have low : ∀ (r : Nat), ((bs n r).map fun k => (V ++ [w]).getD k 0) = (bs n r).map fun k => V.getD k 0 := fun r => by
      refine List.map_congr_left fun k hk => ?_
      have := (mem_bs.mp hk).1
      rw [List.getD_eq_getElem?_getD, List.getD_eq_getElem?_getD, List.getElem?_append_left (by omega)]
    by_cases c : S < 2 ^ n
    · rw [List.getElem?_append_left (by omega), i2 S c]
      unfold sm
      rw [lW, bs_low c, low, lV]
    · obtain ⟨r, rfl⟩ : ∃ r, S = 2 ^ n + r := ⟨S - 2 ^ n, by omega⟩
      have hr : r < 2 ^ n := by omega
      rw [List.getElem?_append_right (by omega), i1, Nat.add_sub_cancel_left, List.getElem?_map, i2 r hr]
      unfold sm
      rw [lW, bs_high hr, List.map_append, low, lV]
      simp [List.getD_eq_getElem?_getD, ← lV]
/-- one for a nought -/
def t (b : Bool) : Int := if b = true then 1 else 0
/-- f tells the most noughts on the way down from each set -/
structure Nt (n : Nat) (z : Nat → Bool) (f : Nat → Int) (m : Nat) : Prop where
  zero : f 0 = 0
  up : ∀ S, 0 < S → S < m → ∀ k, k < n → S.testBit k = true → f (S - 2 ^ k) + t (z S) ≤ f S
  at_ : ∀ S, 0 < S → S < m → ∃ k, k < n ∧ S.testBit k = true ∧ f S = f (S - 2 ^ k) + t (z S)
theorem Nt.one {n : Nat} {z : Nat → Bool} {f g : Nat → Int} {m : Nat} (a : Nt n z f m) (b : Nt n z g m) : ∀ S, S < m → f S = g S := by
  intro S
  induction S using Nat.strongRecOn with
  | ind S ih =>
    intro h
    rcases Nat.eq_zero_or_pos S with rfl | h0
    · rw [a.zero, b.zero]
    · obtain ⟨k, hk, hb, e⟩ := a.at_ S h0 h
      obtain ⟨k', hk', hb', e'⟩ := b.at_ S h0 h
      have p : 0 < 2 ^ k := Nat.pow_pos (by decide)
      have p' : 0 < 2 ^ k' := Nat.pow_pos (by decide)
      have i1 := ih (S - 2 ^ k) (by omega) (by omega)
      have i2 := ih (S - 2 ^ k') (by omega) (by omega)
      have u1 := b.up S h0 h k hk hb
      have u2 := a.up S h0 h k' hk' hb'
      omega
end SETM
set_option Elab.async false
set_option linter.all false
set_option maxRecDepth 100000
set_option maxHeartbeats 4000000
namespace K60.Q
open PySem PySem.Spec PyProof.Rows L2
open C8 (Cal Mak Met pe_c pe_mk pe_mt pe_mt0)
open SETM
theorem same_put {H0 H : Hp} {D : Addr} {o : HO} (s : Same H0 H) (f : H0 D = none) : Same H0 (upd H D o) := fun b ob e => by
  rw [upd_ne (ne_of_none e f)]
  exact s b ob e
section
variable {P : Program} {w : World} {K : PySem.W.Frag} {mg : Str → Option Value} {base : Heap} {f C : Addr} {fd : FuncData}
def spSu : Sp := fun vs H Q _ => ∃ (nl : Addr) (W : List Int), vs = [.ref nl] ∧ H nl = some (.lst (W.map V.int)) ∧ W.length ≤ 12 ∧ ∀ o H', Same H H' → H o = none → H' o = some (.lst ((sumsL W).map V.int)) → Q (.ref o) H'
theorem ok_su (F : Dn K d_sums_of_sets f fd) : FnOk P w K mg base CX0 1 f fd ["numbers"] spSu := by
  refine F.ok sc_sums_of_sets (fun vs H Q E h => ?_) (fun cdv A outer s H vs Q E hr h => ?_)
  · obtain ⟨nl, W, rfl, _⟩ := h
    rfl
  · obtain ⟨nl, W, rfl, hn, wl, hQ⟩ := h
    refine ⟨_, PSs.nox (pss_cons (ps_set (i := 1) sc_sums_of_sets.nd rfl (.inl rfl) (pe_lst (pa_cons pe_int pa_nil)))
      (pss_cons (ps_for PassesOwn.never rfl (pi_list (pv 0)) (pg_name (i := 2) sc_sums_of_sets.nd rfl (.inr rfl)) (pss_one (ps_set (i := 1) sc_sums_of_sets.nd rfl (.inl rfl) (pe_op op_cat (pv 1)
        (pe_lc (own := [("one", 3)]) (g := gName 3) (tt := tYes) rfl sc_sums_of_sets.nd (pi_list (pv 1)) (blkOk_by (N := N_sums_of_sets) (sc := defScope s_sums_of_sets) (by decide +kernel))
        (fun _ _ _ _ _ => pg_name (i := 3) sc_sums_of_sets.nd rfl (Or.inl rfl)) (fun _ _ _ _ _ => pts_nil)
        (fun _ _ _ _ _ => pe_op op_add (pv 3) (pv 2)))))))
      (pss_one (ps_ret (pv 1))))), ?_⟩
    refine ⟨by show 1 ≤ sizeLine; decide, fun o fo => ?_⟩
    have so := same_new (o := .lst [.int 0]) fo
    refine ⟨_, rfl, nl, rfl, ⟨_, SqL.of (so _ _ hn)⟩, for_list (K := K) (xs := W.map V.int) (fun i σ H' => ∃ (o : Addr) (v2 v3 : Option V), σ = [some (.ref nl), some (.ref o), v2, v3] ∧ H o = none ∧ H' o = some (.lst ((sumsL (W.take i)).map V.int)) ∧ Same H H') ⟨o, _, _, rfl, fo, upd_same, so⟩ (fun i σ H' _ z => by obtain ⟨_, _, _, _, _, _, e⟩ := z; exact SqL.of (e _ _ hn)) ?_ ?_⟩
    · rintro i v σ H' hi ⟨o, v2, v3, rfl, fo, ho, s⟩
      rw [List.getElem?_map] at hi
      obtain ⟨z, hz, rfl⟩ := Option.map_eq_some_iff.mp hi
      have hil : i < W.length := (List.getElem?_eq_some_iff.mp hz).1
      obtain ⟨l1, _⟩ := sumsL_get _ (W.take i) rfl
      have l2 : (W.take i).length ≤ 12 := Nat.le_trans (List.length_take_le' _ _) wl
      have l3 : (sumsL (W.take i)).length ≤ 4096 := by rw [l1]; exact Nat.pow_le_pow_right (by decide) l2
      refine ⟨_, rfl, _, rfl, o, rfl, ⟨_, SqL.of ho⟩, fun D fD => lc_list (K := K) (xs := (sumsL (W.take i)).map V.int) (fun j H2 => H2 D = some (.lst ((((sumsL (W.take i)).take j).map fun x => x + z).map V.int)) ∧ Same H' H2) ⟨upd_same, same_new fD⟩ (fun j H2 _ z => SqL.of (z.2 _ _ ho)) ?_ ?_⟩
      · rintro j v H2 hj ⟨hD, s2⟩
        rw [List.getElem?_map] at hj
        obtain ⟨y, hy, rfl⟩ := Option.map_eq_some_iff.mp hj
        refine ⟨rfl, ?_⟩
        refine ⟨_, rfl, _, rfl, _, _, rfl, rfl, _, hD, by rw [List.length_map, List.length_map, List.length_take]; exact line_lt (by omega), ?_, same_put s2 fD⟩
        rw [upd_same, take_one hy, List.map_append, List.map_append]
        rfl
      · rintro H2 ⟨hD, s2⟩
        rw [List.length_map, take_all] at hD
        refine ⟨o, D, _, _, rfl, rfl, s2 _ _ ho, hD, by rw [List.length_map, List.length_map, List.length_map]; exact line_of (by omega), fun p fp => ?_⟩
        have s3 := s.trans s2
        refine ⟨p, _, _, rfl, s3.free fp, ?_, s3.trans (same_new fp)⟩
        rw [upd_same, take_one hz, sumsL_snoc, List.map_append]
    · rintro σ H' ⟨o, v2, v3, rfl, fo, ho, s⟩
      rw [List.length_map, take_all] at ho
      exact ⟨_, rfl, hQ o H' s fo ho⟩
/-- the pairs of what is left, and the place -/
def WoL (H : Hp) (o : Addr) (S : Nat) (rs : List (Addr × Nat)) : Prop := H o = some (.lst (rs.map fun r => V.ref r.1)) ∧ ∀ r ∈ rs, H r.1 = some (.tup [.int ((S - 2 ^ r.2 : Nat) : Int), .int (r.2 : Int)])
def spWo : Sp := fun vs H Q _ => ∃ (S n : Nat), vs = [.int S, .int n] ∧ n ≤ 20 ∧ S < 2 ^ n ∧ ∀ o H' rs, Same H H' → H o = none → WoL H' o S rs → rs.map (·.2) = bs n S → Q (.ref o) H'
theorem bs_step {n S i : Nat} (h : i < n) : bs (i + 1) S = bs i S ++ if S.testBit i = true then [i] else [] := by
  unfold bs
  rw [List.range_succ, List.filter_append]
  cases e : S.testBit i <;> simp [e]
theorem ok_wo (F : Dn K d_without_one f fd) (bl : Bl mg) : FnOk P w K mg base CX0 1 f fd ["chosen", "many"] spWo := by
  refine F.ok sc_without_one (fun vs H Q E h => ?_) (fun cdv A outer s H vs Q E hr h => ?_)
  · obtain ⟨S, n, rfl, _⟩ := h
    rfl
  · obtain ⟨S, n, rfl, nl, Sn, hQ⟩ := h
    refine ⟨_, PSs.nox (pss_one (ps_ret (pe_lc (own := [("place", 2)]) (g := gName 2) rfl sc_without_one.nd (pi_range1 rfl bl.range (pa_cons (pv 1) pa_nil)) (blkOk_by (N := N_without_one) (sc := defScope s_without_one) (by decide +kernel))
        (fun _ _ _ _ _ => pg_name (i := 2) sc_without_one.nd rfl (Or.inl rfl)) (fun _ _ _ _ _ => pts_one (pt_cmpR op_eq (pe_op op_odd (pe_op op_shr (pv 0) (pv 2)) pe_int) pe_int (nomark _)))
        (fun _ _ _ _ _ => pe_tup (pa_cons (pe_op op_sub (pv 0) (pe_op op_shl pe_int (pv 2))) (pa_cons (pv 2) pa_nil)))))), ?_⟩
    refine ⟨_, rfl, (n : Int), rfl, by omega, by omega, fun D fD => lc_range (n := n) (fun j H2 => ∃ rs, WoL H2 D S rs ∧ rs.map (·.2) = bs j S ∧ Same H H2) ?_ ?_ ?_⟩
    · exact ⟨[], ⟨upd_same, fun r h => nomatch h⟩, by rfl, same_new fD⟩
    · rintro j H2 hj ⟨rs, ⟨h1, h2⟩, e, s2⟩
      have lr : rs.length ≤ 20 := by
        have := congrArg List.length e
        rw [List.length_map] at this
        rw [this]
        exact Nat.le_trans (List.length_filter_le _ _) (by simp; omega)
      have ej : (0 + (j : Int)) = (j : Int) := Int.zero_add _
      have tj : (0 + (j : Int)).toNat = j := by omega
      refine ⟨rfl, ?_⟩
      refine ⟨_, rfl, _, rfl, _, _, rfl, rfl, (by omega : (0 : Int) ≤ 0 + (j : Int)), S / 2 ^ j, ?_, rfl, rfl, _, rfl, ?_⟩
      · show V.int ((S : Int) / 2 ^ (0 + (j : Int)).toNat) = _
        rw [tj, Int.natCast_ediv, Int.natCast_pow]
        rfl
      have tb : S.testBit j = decide (S / 2 ^ j % 2 = 1) := Nat.testBit_eq_decide_div_mod_eq
      refine ite2 (fun q => ?_) (fun q => ?_)
      · have q' : S.testBit j = true := by
          have z := of_decide_eq_true q
          rw [tb]
          refine decide_eq_true ?_
          have := V.int.inj z
          omega
        have le := (rem j S q').1
        refine ⟨_, rfl, _, rfl, _, _, rfl, rfl, ⟨by omega, by omega, by decide⟩, _, _, rfl, rfl, _, rfl, by show 2 ≤ sizeLine; decide, fun u fu => ?_⟩
        have ev : HO.tup [V.int ((S : Int) - 1 * 2 ^ (0 + (j : Int)).toNat), V.int (0 + (j : Int))] = HO.tup [V.int ((S - 2 ^ j : Nat) : Int), V.int (j : Int)] := by
          rw [tj, ej, Int.one_mul, Int.natCast_sub le, Int.natCast_pow]
          rfl
        have nu : u ≠ D := fun z => by rw [z, h1] at fu; cases fu
        have su := same_new (o := .tup [V.int ((S : Int) - 1 * 2 ^ (0 + (j : Int)).toNat), V.int (0 + (j : Int))]) fu
        refine ⟨_, su _ _ h1, by rw [List.length_map]; exact line_lt (by omega), rs ++ [(u, j)], ⟨?_, fun r hr => ?_⟩, ?_, same_put (s2.trans su) fD⟩
        · rw [upd_same, List.map_append]
          rfl
        · rcases List.mem_append.mp hr with hr | hr
          · have nr : r.1 ≠ D := fun z => by have := h2 r hr; rw [z, h1] at this; cases this
            rw [upd_ne nr]
            exact su _ _ (h2 r hr)
          · rw [List.mem_singleton.mp hr]
            show (upd _ D _) u = _
            rw [upd_ne nu, upd_same, ev]
        · rw [List.map_append, e, bs_step (n := n) hj, if_pos q']
          rfl
      · have q' : ¬ S.testBit j = true := fun z => by
          rw [tb] at z
          have z := of_decide_eq_true z
          refine absurd (decide_eq_true ?_) q
          rw [z]
          rfl
        refine ⟨rs, ⟨h1, h2⟩, ?_, s2⟩
        rw [e, bs_step (n := n) hj, if_neg q', List.append_nil]
    · rintro H2 ⟨rs, w1, e, s2⟩
      exact hQ D H2 rs s2 fD w1 e
end
end K60.Q
set_option Elab.async false
set_option linter.all false
set_option maxRecDepth 100000
set_option maxHeartbeats 4000000
namespace K60.Q
open PySem PySem.Spec PyProof.Rows L2
open C8 (Cal Mak Met pe_c pe_mk pe_mt pe_mt0)
open SETM
/-- where the way down goes -/
def plV (p : Nat → Nat) (S : Nat) : V := if S = 0 then .non else .int (p S : Int)
/-- is its sum nought -/
def zOf (ss : List Int) (S : Nat) : Bool := decide (ss.getD S 1 = 0)
def upN (f : Nat → Int) (m : Nat) (v : Int) : Nat → Int := fun S => if S = m then v else f S
def upP (p : Nat → Nat) (m k : Nat) : Nat → Nat := fun S => if S = m then k else p S
theorem rows_up {α : Type} (f : Nat → α) (m : Nat) (v : α) : (List.range (m + 1)).map (fun S => if S = m then v else f S) = (List.range m).map f ++ [v] := by
  rw [List.range_succ, List.map_append]
  congr 1
  · refine List.map_congr_left fun S hS => ?_
    rw [if_neg (by have := List.mem_range.mp hS; omega)]
  · simp
/-- one set more -/
theorem Nt.snoc {n m : Nat} {z : Nat → Bool} {f : Nat → Int} (h : Nt n z f m) (m0 : 0 < m) {k : Nat} (hk : k < n) (hb : m.testBit k = true) (hm : ∀ j, j < n → m.testBit j = true → f (m - 2 ^ j) ≤ f (m - 2 ^ k)) : Nt n z (upN f m (f (m - 2 ^ k) + t (z m))) (m + 1) := by
  have low : ∀ S, S < m → upN f m (f (m - 2 ^ k) + t (z m)) S = f S := fun S hS => if_neg (by omega)
  have top : upN f m (f (m - 2 ^ k) + t (z m)) m = f (m - 2 ^ k) + t (z m) := if_pos rfl
  have less : ∀ S j, 0 < S → S - 2 ^ j < S := fun S j h0 => by
    have : 0 < 2 ^ j := Nat.pow_pos (by decide)
    omega
  refine ⟨(low 0 m0).trans h.zero, fun S s0 sm j hj hbj => ?_, fun S s0 sm => ?_⟩
  · rcases Nat.lt_or_ge S m with c | c
    · rw [low S c, low _ (Nat.lt_trans (less S j s0) c)]
      exact h.up S s0 c j hj hbj
    · obtain rfl : S = m := by omega
      rw [top, low _ (less S j s0)]
      have := hm j hj hbj
      omega
  · rcases Nat.lt_or_ge S m with c | c
    · obtain ⟨j, hj, hbj, e⟩ := h.at_ S s0 c
      exact ⟨j, hj, hbj, by rw [low S c, low _ (Nat.lt_trans (less S j s0) c)]; exact e⟩
    · obtain rfl : S = m := by omega
      exact ⟨k, hk, hb, by rw [top, low _ (less S k s0)]⟩
/-- the way down -/
def Way (n : Nat) (z : Nat → Bool) (f : Nat → Int) (p : Nat → Nat) (m : Nat) : Prop := ∀ S, 0 < S → S < m → p S < n ∧ S.testBit (p S) = true ∧ f S = f (S - 2 ^ p S) + t (z S)
theorem Way.snoc {n m : Nat} {z : Nat → Bool} {f : Nat → Int} {p : Nat → Nat} (h : Way n z f p m) {k : Nat} (hk : k < n) (hb : m.testBit k = true) : Way n z (upN f m (f (m - 2 ^ k) + t (z m))) (upP p m k) (m + 1) := by
  have low : ∀ S, S < m → upN f m (f (m - 2 ^ k) + t (z m)) S = f S := fun S hS => if_neg (by omega)
  have less : ∀ S j, 0 < S → S - 2 ^ j < S := fun S j h0 => by
    have : 0 < 2 ^ j := Nat.pow_pos (by decide)
    omega
  intro S s0 sm
  rcases Nat.lt_or_ge S m with c | c
  · have e : upP p m k S = p S := if_neg (by omega)
    rw [e, low S c, low _ (Nat.lt_trans (less S _ s0) c)]
    exact h S s0 c
  · obtain rfl : S = m := by omega
    have e : upP p S k S = k := if_pos rfl
    rw [e, low _ (less S k s0)]
    exact ⟨hk, hb, if_pos rfl⟩
section
variable {P : Program} {w : World} {K : PySem.W.Frag} {mg : Str → Option Value} {base : Heap} {f C : Addr} {fd : FuncData}
def spBt : Sp := fun vs H Q _ => ∃ (sl : Addr) (n : Nat) (ss : List Int), vs = [.ref sl, .int n] ∧ n ≤ 12 ∧ H sl = some (.lst (ss.map V.int)) ∧ ss.length = 2 ^ n ∧
  ∀ o H' (f : Nat → Int) (p : Nat → Nat), Same H H' → H o = none → H' o = some (.lst ((List.range (2 ^ n)).map (plV p))) → Nt n (zOf ss) f (2 ^ n) → Way n (zOf ss) f p (2 ^ n) → Q (.ref o) H'
theorem ok_bt (F : Dn K d_best_takings f fd) (bl : Bl mg) (bmax : mg "max" = none) (cW : Cal P w K mg base 1 "without_one" spWo []) : FnOk P w K mg base CX0 2 f fd ["sums", "many"] spBt := by
  refine F.ok sc_best_takings (fun vs H Q E h => ?_) (fun cdv A outer s H vs Q E hr h => ?_)
  · obtain ⟨sl, n, ss, rfl, _⟩ := h
    rfl
  · obtain ⟨sl, n, ss, rfl, n12, hs, ls, hQ⟩ := h
    have hu64 : (A.deeper (envOfC d_best_takings.qual d_best_takings.scope s.heap.objs.size f cdv)).units + 64 < cLine := by have := hr.un; omega
    refine ⟨_, PSs.nox (pss_cons (ps_set (i := 2) sc_best_takings.nd rfl (.inr rfl) (pe_lst (pa_cons pe_int pa_nil)))
      (pss_cons (ps_set (i := 3) sc_best_takings.nd rfl (.inl rfl) (pe_lst (pa_cons pe_non pa_nil)))
      (pss_cons (ps_for PassesOwn.never rfl (pi_range2 rfl bl.range (pa_cons pe_int (pa_cons (pe_callB call_len_seq rfl bl.len boot_len (pa_cons (pv 0) pa_nil)) pa_nil))) (pg_name (i := 4) sc_best_takings.nd rfl (.inl rfl))
        (pss_cons (ps_asg (pe_callB (r := MXP.rMaxP K) (MXP.call_maxP rfl hu64) rfl bmax boot_max (pa_cons (pe_lc (own := [("left", 7), ("place", 5)]) (g := gTup K 2 (gCons (gName 7) (gCons (gName 5) gNil))) (tt := tYes) rfl sc_best_takings.nd (pi_list (pe_c cW hr (by decide) rfl (pa_cons (pv 4) (pa_cons (pv 1) pa_nil)))) (blkOk_by (N := N_best_takings) (sc := defScope s_best_takings) (by decide +kernel))
            (fun _ _ _ _ _ => pg_tup rfl (pgs_cons (pg_name (i := 7) sc_best_takings.nd rfl (Or.inl rfl)) (pgs_cons (pg_name (i := 5) sc_best_takings.nd rfl (Or.inl rfl)) pgs_nil))) (fun _ _ _ _ _ => pts_nil)
            (fun _ _ _ _ _ => pe_tup (pa_cons (pe_ix (r := rIxL K) ix_list (pv 2) (pv 7) (fun _ _ => rfl)) (pa_cons (pv 5) pa_nil)))) pa_nil)) (pg_tup rfl (pgs_cons (pg_name (i := 6) sc_best_takings.nd rfl (.inl rfl)) (pgs_cons (pg_name (i := 5) sc_best_takings.nd rfl (.inl rfl)) pgs_nil))))
        (pss_cons (ps_expr (pe_bm PySem.F.plainAttrs_list PySem.F.slot_list_append PySem.F.type_list_append mt_append (pv 2) (pa_cons (pe_ifExp (pt_cmpR op_eq (pe_ix ix_list (pv 0) (pv 4) (fun _ _ => rfl)) pe_int (nomark _)) (pe_op op_add (pv 6) pe_int) (pv 6)) pa_nil)))
        (pss_one (ps_expr (pe_bm PySem.F.plainAttrs_list PySem.F.slot_list_append PySem.F.type_list_append mt_append (pv 3) (pa_cons (pv 5) pa_nil)))))))
      (pss_one (ps_ret (pv 3)))))), ?_⟩
    obtain ⟨M, hM⟩ : ∃ M, M = 2 ^ n := ⟨_, rfl⟩
    have M0 : 0 < M := by rw [hM]; exact Nat.pow_pos (by decide)
    have M12 : M ≤ 4096 := by rw [hM]; exact Nat.pow_le_pow_right (by decide) n12
    rw [← hM] at ls hQ
    refine ⟨by show 1 ≤ sizeLine; decide, fun N0 fN => ?_⟩
    have sN := same_new (o := .lst [.int 0]) fN
    have hN : (upd H N0 (.lst [.int 0])) N0 = some (.lst [.int 0]) := upd_same
    refine ⟨by show 1 ≤ sizeLine; decide, fun P0 fP => ?_⟩
    have sP := same_new (o := .lst [.non]) fP
    have hP : (upd (upd H N0 (.lst [.int 0])) P0 (.lst [.non])) P0 = some (.lst [.non]) := upd_same
    have nNP : N0 ≠ P0 := ne_of_none hN fP
    have hN := sP _ _ hN
    have s1 := sN.trans sP
    have fPH : H P0 = none := sN.free fP
    generalize upd (upd H N0 (.lst [.int 0])) P0 (.lst [.non]) = H1 at hN hP s1
    refine ⟨_, rfl, sl, _, rfl, .inl (SqL.of (s1 _ _ hs)), 1, _, rfl, ⟨by decide, by decide, by rw [List.length_map, ls]; omega, by rw [List.length_map, ls]; omega⟩, ?_⟩
    have en : (((ss.map V.int).length : Int) - 1).toNat = M - 1 := by rw [List.length_map, ls]; omega
    rw [en]
    refine for_range (n := M - 1) (fun i σ H' => (∃ v4 v5 v6 v7 : Option V, σ = [some (.ref sl), some (.int (n : Int)), some (.ref N0), some (.ref P0), v4, v5, v6, v7]) ∧ Same H H' ∧ ∃ (f : Nat → Int) (p : Nat → Nat), H' N0 = some (.lst ((List.range (i + 1)).map fun S => V.int (f S))) ∧ H' P0 = some (.lst ((List.range (i + 1)).map (plV p))) ∧ Nt n (zOf ss) f (i + 1) ∧ Way n (zOf ss) f p (i + 1))
      ⟨⟨_, _, _, _, rfl⟩, s1, fun _ => 0, fun _ => 0, hN, hP, ⟨rfl, fun S a b => absurd b (by omega), fun S a b => absurd b (by omega)⟩, fun S a b => absurd b (by omega)⟩ ?_ ?_
    · rintro i σ H2 hi ⟨⟨v4, v5, v6, v7, rfl⟩, s2, f, p, hN2, hP2, nt, wy⟩
      obtain ⟨m, hm⟩ : ∃ m, m = i + 1 := ⟨_, rfl⟩
      rw [← hm] at hN2 hP2 nt wy
      have ec : (1 + (i : Int)) = (m : Int) := by omega
      have m0 : 0 < m := by omega
      have mM : m < 2 ^ n := by omega
      rw [ec]
      refine ⟨_, rfl, _, rfl, m, n, rfl, by omega, mM, fun o H3 rs s3 fo wl eb => ?_⟩
      have rl : rs.length ≤ 12 := by
        have := congrArg List.length eb
        rw [List.length_map] at this
        rw [this]
        exact Nat.le_trans (List.length_filter_le _ _) (by simp; omega)
      refine ⟨o, rfl, ⟨_, SqL.of wl.1⟩, fun D fD => lc_list (K := K) (xs := rs.map fun r => V.ref r.1) (fun j H4 => ∃ qs : List (Addr × Int × Int), H4 D = some (.lst (qs.map fun q => V.ref q.1)) ∧ qs.map (·.2) = (rs.take j).map (fun r => (f (m - 2 ^ r.2), (r.2 : Int))) ∧ (∀ q ∈ qs, H4 q.1 = some (.tup [.int q.2.1, .int q.2.2])) ∧ Same H3 H4)
        ⟨[], upd_same, by simp, fun q h => (nomatch h), same_new fD⟩ (fun j H4 _ z => by obtain ⟨_, _, _, _, e⟩ := z; exact SqL.of (e _ _ wl.1)) ?_ ?_⟩
      · rintro j v H4 hj ⟨qs, hD, eq, hq, s4⟩
        rw [List.getElem?_map] at hj
        obtain ⟨r, hr, rfl⟩ := Option.map_eq_some_iff.mp hj
        have hrm := List.mem_of_getElem? hr
        have lq : qs.length ≤ 12 := by
          have := congrArg List.length eq
          rw [List.length_map, List.length_map, List.length_take] at this
          omega
        have lo : m - 2 ^ r.2 < m := by
          have : 0 < 2 ^ r.2 := Nat.pow_pos (by decide)
          omega
        refine ⟨r.1, _, rfl, SqT.of (s4 _ _ (wl.2 r hrm)), rfl, _, _, rfl, _, _, rfl, rfl, rfl, ?_⟩
        refine ⟨_, rfl, _, rfl, N0, _, _, V.int (f (m - 2 ^ r.2)), rfl, rfl, SqL.of (s4 _ _ (s3 _ _ hN2)), atI_nat (by rw [List.getElem?_map, List.getElem?_range lo]; rfl), _, rfl, by show 2 ≤ sizeLine; decide, fun u fu => ?_⟩
        have su := same_new (o := .tup [.int (f (m - 2 ^ r.2)), .int (r.2 : Int)]) fu
        have nu : u ≠ D := fun z => by rw [z, hD] at fu; cases fu
        refine ⟨_, su _ _ hD, by rw [List.length_map]; exact line_lt (by omega), qs ++ [(u, f (m - 2 ^ r.2), (r.2 : Int))], ?_, ?_, fun q hq' => ?_, same_put (s4.trans su) fD⟩
        · rw [upd_same, List.map_append]
          rfl
        · rw [List.map_append, eq, take_one hr, List.map_append]
          rfl
        · rcases List.mem_append.mp hq' with h | h
          · have nq : q.1 ≠ D := fun z => by have := hq q h; rw [z, hD] at this; cases this
            rw [upd_ne nq]
            exact su _ _ (hq q h)
          · rw [List.mem_singleton.mp h]
            show (upd _ D _) u = _
            rw [upd_ne nu, upd_same]
      · rintro H4 ⟨qs, hD, eq, hq, s4⟩
        rw [List.length_map, take_all] at eq
        obtain ⟨k0, hk0, hb0⟩ := some_bit m0 mM
        have inQ : ∀ j, j < n → m.testBit j = true → ∃ q ∈ qs, q.2 = (f (m - 2 ^ j), (j : Int)) := fun j hj hb => by
          have : j ∈ rs.map (·.2) := by rw [eb]; exact mem_bs.mpr ⟨hj, hb⟩
          obtain ⟨r, hr, rfl⟩ := List.mem_map.mp this
          have : (f (m - 2 ^ r.2), (r.2 : Int)) ∈ qs.map (·.2) := by rw [eq]; exact List.mem_map.mpr ⟨r, hr, rfl⟩
          obtain ⟨q, hq1, hq2⟩ := List.mem_map.mp this
          exact ⟨q, hq1, hq2⟩
        refine ⟨D, qs, rfl, SqL.of hD, fun z => ?_, hq, fun q hqm hmax => ?_⟩
        · obtain ⟨q, hq1, _⟩ := inQ k0 hk0 hb0
          rw [z] at hq1
          cases hq1
        have : q.2 ∈ qs.map (·.2) := List.mem_map.mpr ⟨q, hqm, rfl⟩
        rw [eq] at this
        obtain ⟨r, hr, er⟩ := List.mem_map.mp this
        have : r.2 ∈ bs n m := by rw [← eb]; exact List.mem_map.mpr ⟨r, hr, rfl⟩
        obtain ⟨hk, hb⟩ := mem_bs.mp this
        have hqt := hq q hqm
        rw [← er] at hqt
        generalize r.2 = k at er hk hb hqt
        have best : ∀ j, j < n → m.testBit j = true → f (m - 2 ^ j) ≤ f (m - 2 ^ k) := fun j hj hbj => by
          obtain ⟨q', h1, h2⟩ := inQ j hj hbj
          have := hmax q' h1
          rw [h2, ← er] at this
          exact this
        have s5 := s3.trans s4
        have hN4 := s5 _ _ hN2
        have hP4 := s5 _ _ hP2
        refine ⟨q.1, _, rfl, SqT.of hqt, rfl, _, _, rfl, _, _, rfl, rfl, ?_⟩
        have at_z : atI (ss.map V.int) (m : Int) = some (.int (ss.getD m 1)) := by
          refine atI_nat ?_
          have : m < ss.length := by omega
          rw [List.getElem?_map, List.getD_eq_getElem?_getD, List.getElem?_eq_getElem this]
          rfl
        refine ⟨_, rfl, .inl ⟨rfl, _, SqL.of hN4⟩, ?_⟩
        refine ⟨_, rfl, _, rfl, sl, _, _, _, rfl, rfl, SqL.of (s5 _ _ (s2 _ _ hs)), at_z, rfl, _, rfl, ?_⟩
        have ez : decide (V.int (ss.getD m 1) = V.int 0) = zOf ss m := decide_eq_decide.mpr ⟨fun h => V.int.inj h, fun h => congrArg V.int h⟩
        refine ite2 (fun c => ?_) (fun c => ?_)
        · have ev : f (m - 2 ^ k) + 1 = f (m - 2 ^ k) + t (zOf ss m) := by rw [← ez, c]; rfl
          refine ⟨_, rfl, _, _, rfl, rfl, ?_⟩
          refine ⟨N0, _, V.int (f (m - 2 ^ k) + t (zOf ss m)), rfl, congrArg (fun x => [V.int x]) ev, hN4, by rw [List.length_map, List.length_range]; exact line_lt (by omega), ?_⟩
          have hP5 : (upd H4 N0 (.lst (((List.range m).map fun S => V.int (f S)) ++ [V.int (f (m - 2 ^ k) + t (zOf ss m))]))) P0 = some (.lst ((List.range m).map (plV p))) := by rw [upd_ne nNP.symm]; exact hP4
          refine ⟨_, rfl, .inl ⟨rfl, _, SqL.of hP5⟩, _, rfl, P0, _, _, rfl, rfl, hP5, by rw [List.length_map, List.length_range]; exact line_lt (by omega), ?_⟩
          refine ⟨⟨_, _, _, _, rfl⟩, same_put (same_put (s2.trans s5) fN) fPH, upN f m (f (m - 2 ^ k) + t (zOf ss m)), upP p m k, ?_, ?_, ?_, ?_⟩
          · rw [upd_ne nNP, upd_same, ← hm, ← rows_up (fun S => V.int (f S))]
            congr 2
            refine List.map_congr_left fun S _ => ?_
            unfold upN
            split <;> rfl
          · rw [upd_same, ← hm]
            have ek : V.int (k : Int) = plV (fun _ => k) m := by
              unfold plV
              rw [if_neg (by omega)]
            rw [ek, ← rows_up (plV p)]
            congr 2
            refine List.map_congr_left fun S _ => ?_
            unfold upP plV
            by_cases e : S = m
            · subst e
              rw [if_pos rfl, if_neg (by omega), if_neg (by omega)]
              dsimp only
              rw [if_pos rfl]
            · rw [if_neg e]
              dsimp only
              rw [if_neg e]
          · rw [← hm]
            exact K60.Q.Nt.snoc nt m0 hk hb best
          · rw [← hm]
            exact K60.Q.Way.snoc wy hk hb
        · have ev : f (m - 2 ^ k) = f (m - 2 ^ k) + t (zOf ss m) := by
            rw [← ez]
            unfold t
            rw [if_neg c]
            omega
          refine ⟨_, rfl, ?_⟩
          refine ⟨N0, _, V.int (f (m - 2 ^ k) + t (zOf ss m)), rfl, congrArg (fun x => [V.int x]) ev, hN4, by rw [List.length_map, List.length_range]; exact line_lt (by omega), ?_⟩
          have hP5 : (upd H4 N0 (.lst (((List.range m).map fun S => V.int (f S)) ++ [V.int (f (m - 2 ^ k) + t (zOf ss m))]))) P0 = some (.lst ((List.range m).map (plV p))) := by rw [upd_ne nNP.symm]; exact hP4
          refine ⟨_, rfl, .inl ⟨rfl, _, SqL.of hP5⟩, _, rfl, P0, _, _, rfl, rfl, hP5, by rw [List.length_map, List.length_range]; exact line_lt (by omega), ?_⟩
          refine ⟨⟨_, _, _, _, rfl⟩, same_put (same_put (s2.trans s5) fN) fPH, upN f m (f (m - 2 ^ k) + t (zOf ss m)), upP p m k, ?_, ?_, ?_, ?_⟩
          · rw [upd_ne nNP, upd_same, ← hm, ← rows_up (fun S => V.int (f S))]
            congr 2
            refine List.map_congr_left fun S _ => ?_
            unfold upN
            split <;> rfl
          · rw [upd_same, ← hm]
            have ek : V.int (k : Int) = plV (fun _ => k) m := by
              unfold plV
              rw [if_neg (by omega)]
            rw [ek, ← rows_up (plV p)]
            congr 2
            refine List.map_congr_left fun S _ => ?_
            unfold upP plV
            by_cases e : S = m
            · subst e
              rw [if_pos rfl, if_neg (by omega), if_neg (by omega)]
              dsimp only
              rw [if_pos rfl]
            · rw [if_neg e]
              dsimp only
              rw [if_neg e]
          · rw [← hm]
            exact K60.Q.Nt.snoc nt m0 hk hb best
          · rw [← hm]
            exact K60.Q.Way.snoc wy hk hb
    · rintro σ H2 ⟨⟨v4, v5, v6, v7, rfl⟩, s2, f, p, hN2, hP2, nt, wy⟩
      have e1 : M - 1 + 1 = M := by omega
      rw [e1] at hN2 hP2 nt wy
      exact ⟨_, rfl, hQ P0 H2 f p s2 fPH hP2 nt wy⟩
end
end K60.Q
set_option Elab.async false
set_option linter.all false
set_option maxRecDepth 100000
set_option maxHeartbeats 4000000
/-! SRX: sorted lists of tuples of texts -/
namespace SRX
open PySem PySem.Spec PyProof.Rows L2
def tD (xs : List Str) : PyData := .tuple (xs.map .str)
/-- a stands not behind b -/
def leT (a b : List Str) : Prop := PySem.W.dataLt (tD b) (tD a) = false
theorem toks_strs : ∀ (a b : List Str) (l m : List (Int ⊕ List Nat)), PySem.W.keyToksAll (a.map .str) ++ l = PySem.W.keyToksAll (b.map .str) ++ m → a = b ∧ l = m
  | [], [], l, m, h => ⟨rfl, List.append_cancel_left h⟩
  | [], y :: b, l, m, h => by
    rw [List.map_nil, List.map_cons, PySem.W.toks_all_cons, PySem.W.keyToksAll] at h
    simp at h
  | x :: a, [], l, m, h => by
    rw [List.map_nil, List.map_cons, PySem.W.toks_all_cons, PySem.W.keyToksAll] at h
    simp at h
  | x :: a, y :: b, l, m, h => by
    rw [List.map_cons, List.map_cons, PySem.W.toks_all_cons, PySem.W.toks_all_cons] at h
    simp only [PySem.W.keyToks, List.cons_append, List.nil_append, List.cons.injEq, true_and, Sum.inr.injEq] at h
    obtain ⟨h1, h2⟩ := h
    obtain ⟨e1, e2⟩ := toks_strs a b l m h2
    exact ⟨by rw [PySem.W.str_of_cps h1, e1], e2⟩
theorem srtT {α : Type} (g : α → V) (p : α → List Str) (l : List α) : ∃ l' : List α, SRT.srt (l.map g) (l.map fun a => tD (p a)) = l'.map g ∧ l'.Perm l ∧ (l'.map p).Pairwise leT ∧ ((l.map p).Pairwise leT → l' = l) := by
  have tot := PySem.W.sortLe_total (listOrd itemOrd) false (fun p : V × PyData => PySem.W.keyToks p.2)
  have pw := PySem.W.sort_pairwise tot ((l.map g).zip (l.map fun a => tD (p a)))
  have pm := List.mergeSort_perm ((l.map g).zip (l.map fun a => tD (p a))) SRT.leD
  have pw' : (((l.map g).zip (l.map fun a => tD (p a))).mergeSort SRT.leD).Pairwise fun a b => SRT.leD a b = true := pw
  have same : (l.map p).Pairwise leT → ((l.map g).zip (l.map fun a => tD (p a))).mergeSort SRT.leD = (l.map g).zip (l.map fun a => tD (p a)) := fun h => by
    refine List.mergeSort_of_pairwise ?_
    rw [List.zip_map']
    refine List.pairwise_map.mpr ((List.pairwise_map.mp h).imp fun {a b} h => ?_)
    show (!PySem.W.dataLt (tD (p b)) (tD (p a))) = true
    have h : PySem.W.dataLt (tD (p b)) (tD (p a)) = false := h
    rw [h]
    rfl
  by_cases hs : (l.map p).Pairwise leT
  · refine ⟨l, ?_, List.Perm.refl _, hs, fun _ => rfl⟩
    unfold SRT.srt
    rw [same hs, List.zip_map', List.map_map]
    rfl
  unfold SRT.srt
  generalize ((l.map g).zip (l.map fun a => tD (p a))).mergeSort SRT.leD = L at pm pw'
  rw [List.zip_map'] at pm
  obtain ⟨l', p1, rfl⟩ := SDC.perm_inv pm (l := l) rfl
  refine ⟨l', by rw [List.map_map]; rfl, p1, List.pairwise_map.mpr ((List.pairwise_map.mp pw').imp fun {a b} h => ?_), fun z => absurd z hs⟩
  have h' : (!PySem.W.dataLt (tD (p b)) (tD (p a))) = true := h
  simpa [leT] using h'
section
variable {X : Cx}
theorem dp_strs {K : PySem.W.Frag} {H : Hp} : ∀ xs : List Str, DpAll K H (xs.map V.str) (xs.map PyData.str)
  | [] => .nil
  | x :: xs => .cons (.str x) (dp_strs xs)
theorem dp_tt {K : PySem.W.Frag} {H : Hp} : ∀ {rs : List (Addr × List Str)}, (∀ r ∈ rs, H r.1 = some (.tup (r.2.map V.str))) → DpAll K H (rs.map fun r => V.ref r.1) (rs.map fun r => tD r.2)
  | [], _ => .nil
  | r :: rs, h => .cons (.tup (SqT.of (h r List.mem_cons_self)) (dp_strs _)) (dp_tt fun q hq => h q (List.mem_cons_of_mem _ hq))
theorem dep_strs : ∀ xs : List Str, PyData.depthAll (xs.map PyData.str) = 0
  | [] => by simp [PyData.depthAll]
  | x :: xs => by
    rw [List.map_cons, PyData.depthAll, dep_strs xs]
    simp [PyData.depth]
def rSortedTT (K : PySem.W.Frag) : List V → Hp → VK → Prop := fun vs H Q => ∃ (a : Addr) (rs : List (Addr × List Str)), vs = [V.ref a] ∧ SqL K H a (rs.map fun r => V.ref r.1) ∧ (∀ r ∈ rs, r.2 ≠ [] ∧ H r.1 = some (.tup (r.2.map V.str))) ∧
  ∀ (rs' : List (Addr × List Str)) (p : Addr), rs'.Perm rs → (rs'.map (·.2)).Pairwise leT → ((rs.map (·.2)).Pairwise leT → rs' = rs) → H p = none → Q (.ref p) (upd H p (.lst (rs'.map fun r => V.ref r.1)))
theorem cr_sortedTT (hu : X.A.units + 64 < cLine) : CallR X (.builtin "sorted") (rSortedTT X.K) := by
  intro pins s σ H vs us Q I r h
  obtain ⟨a, rs, rfl, hs, hp, q⟩ := h
  obtain ⟨rs', e, pm, pw, same⟩ := srtT (fun r : Addr × List Str => V.ref r.1) (fun r => r.2) rs
  refine SRT.cr_sortedD hu pins s σ H _ us Q I r ⟨a, _, rs.map fun r => tD r.2, rfl, .inl hs, dp_tt fun r hr => (hp r hr).2, fun d h1 d' h2 => ?_, .inl fun d h1 => ?_, fun d h1 => ?_, fun p fp => ?_⟩
  · obtain ⟨x, _, rfl⟩ := List.mem_map.mp h1
    obtain ⟨y, _, rfl⟩ := List.mem_map.mp h2
    show PySem.W.alike (.tuple _) (.tuple _) = true
    simp only [PySem.W.alike]
    exact PySem.W.alikeAll_map (α := Str) x.2 y.2
  · obtain ⟨x, hx, rfl⟩ := List.mem_map.mp h1
    obtain ⟨y, ys, e⟩ : ∃ y ys, x.2 = y :: ys := by
      cases hz : x.2 with
      | nil => exact absurd hz (hp x hx).1
      | cons y ys => exact ⟨y, ys, rfl⟩
    exact ⟨.str y, ys.map .str, by unfold tD; rw [e]; rfl⟩
  · obtain ⟨x, _, rfl⟩ := List.mem_map.mp h1
    have : (tD x.2).depth = 1 := by simp [tD, PyData.depth, dep_strs]
    omega
  · rw [e]
    exact q rs' p pm pw same fp
end
end SRX
set_option Elab.async false
set_option linter.all false
set_option maxRecDepth 100000
set_option maxHeartbeats 4000000
namespace K60.Q
open PySem PySem.Spec PyProof.Rows L2
open KM (pr Sz)
open SETM SRX
theorem wc_rat {m : Nat} {r : Rat} (h : r.den ∣ m) : ((r.num * ((m : Int) / (r.den : Int)) : Int) : Rat) = ((m : Int) : Rat) * r := by
  obtain ⟨q, rfl⟩ := h
  have hp := r.den_pos
  have e1 : (((r.den * q : Nat) : Int) / (r.den : Int)) = (q : Int) := by
    rw [Int.natCast_mul]
    exact Int.mul_ediv_cancel_left _ (by omega)
  rw [e1]
  have hd : ((r.den : Int) : Rat) ≠ 0 := by
    intro z
    have : (r.den : Int) = 0 := by exact_mod_cast z
    omega
  have e2 : (r.num : Rat) = r * ((r.den : Int) : Rat) := by
    have h := Rat.num_divInt_den r
    rw [Rat.divInt_eq_div] at h
    grind
  rw [Int.natCast_mul, Rat.intCast_mul, Rat.intCast_mul, e2]
  grind
theorem sum_rat {c : Str → Rat} {m : Nat} : ∀ {ys : List Str}, (∀ y ∈ ys, (c y).den ∣ m) → (((ys.map (wcr c m)).sum : Int) : Rat) = ((m : Int) : Rat) * sumR (ys.map c)
  | [], _ => by
    show ((0 : Int) : Rat) = _ * 0
    grind
  | y :: ys, h => by
    rw [List.map_cons, List.map_cons, sumR_cons, List.sum_cons, Rat.intCast_add, sum_rat fun z hz => h z (List.mem_cons_of_mem _ hz)]
    have : ((wcr c m y : Int) : Rat) = ((m : Int) : Rat) * c y := wc_rat (h y List.mem_cons_self)
    rw [this]
    grind
theorem den_dvd {c : Str → Rat} : ∀ (n : Nat) {xs : List Str}, xs.length = n → ∀ x ∈ xs, (c x).den ∣ comN c xs
  | 0, xs, e, x, hx => by
    rw [List.length_eq_zero_iff.mp e] at hx
    cases hx
  | n + 1, xs, e, x, hx => by
    have ne : xs ≠ [] := fun z => by rw [z] at e; simp at e
    rw [← List.dropLast_concat_getLast ne] at hx ⊢
    rw [comN_snoc]
    rcases List.mem_append.mp hx with h | h
    · exact Nat.dvd_trans (den_dvd n (by rw [List.length_dropLast]; omega) x h) (Nat.dvd_mul_right _ _)
    · rw [List.mem_singleton.mp h]
      exact Nat.dvd_mul_left _ _
theorem zero_of {c : Str → Rat} {m : Nat} (m0 : 0 < m) {ys : List Str} (h : ∀ y ∈ ys, (c y).den ∣ m) : (ys.map (wcr c m)).sum = 0 ↔ sumR (ys.map c) = 0 := by
  have e := sum_rat h
  have hm : ((m : Int) : Rat) ≠ 0 := by
    intro z
    have : (m : Int) = 0 := by exact_mod_cast z
    omega
  constructor
  · intro z
    rw [z] at e
    have e : (0 : Rat) = ((m : Int) : Rat) * sumR (ys.map c) := e
    grind
  · intro z
    rw [z] at e
    have e : (((ys.map (wcr c m)).sum : Int) : Rat) = ((0 : Int) : Rat) := by rw [e]; show _ * 0 = (0 : Rat); grind
    exact_mod_cast e
theorem sum_nz (c : Str → Rat) : ∀ L : List Str, sumR ((L.filter fun x => decide (c x ≠ 0)).map c) = sumR (L.map c)
  | [] => rfl
  | x :: L => by
    rw [List.map_cons, sumR_cons, ← sum_nz c L]
    by_cases h : c x = 0
    · rw [List.filter_cons_of_neg (by simp [h]), h, Rat.zero_add]
    · rw [List.filter_cons_of_pos (by simp [h]), List.map_cons, sumR_cons]
/-- what lots are -/
structure Lots (L : List Str) (c : Str → Rat) (T : List (List Str)) : Prop where
  sorted : T.Pairwise leT
  each : ∀ l ∈ T, l ≠ [] ∧ l.Pairwise SRT.leS ∧ sumR (l.map c) = 0
  perm : T.flatten.Perm (L.filter fun x => decide (c x ≠ 0))
  least : ∀ l ∈ T, ∀ g : Str → Bool, sumR ((l.filter g).map c) = 0 → l.filter g = [] ∨ l.filter g = l
  most : ∀ xs : List Str, xs.Perm (L.filter fun x => decide (c x ≠ 0)) → xs.Pairwise SRT.leS → ∀ f : Nat → Int, Nt xs.length (zOf (sumsL (xs.map (wcr c (comN c xs))))) f (2 ^ xs.length) → (T.length : Int) = f (2 ^ xs.length - 1)
/-- the way down: rs the lots told, ys the one under way, from the names xs, at the set S -/
structure Dn_ (c : Str → Rat) (xs : List Str) (f : Nat → Int) (S : Nat) (T : List (List Str)) (ys : List Str) : Prop where
  lt : S < 2 ^ xs.length
  perm : (T.flatten ++ ys ++ (bs xs.length S).map fun k => xs.getD k "").Perm xs
  each : ∀ l ∈ T, l ≠ [] ∧ l.Pairwise SRT.leS ∧ sumR (l.map c) = 0
  sum : sm (xs.map (wcr c (comN c xs))) S + (ys.map (wcr c (comN c xs))).sum = 0
  nil : S = 0 → ys = []
  num : (T.length : Int) = f (2 ^ xs.length - 1) - f S - 1 + t (zOf (sumsL (xs.map (wcr c (comN c xs)))) S)
theorem z_sm {W : List Int} {S : Nat} (h : S < 2 ^ W.length) : zOf (sumsL W) S = decide (sm W S = 0) := by
  unfold zOf
  have e := (sumsL_get _ W rfl).2 S h
  rw [List.getD_eq_getElem?_getD, e]
  rfl
section
variable {c : Str → Rat} {xs : List Str} {f : Nat → Int}
theorem Dn_.start (s0 : sumR (xs.map c) = 0) : Dn_ c xs f (2 ^ xs.length - 1) [] [] := by
  have p : 0 < 2 ^ xs.length := Nat.pow_pos (by decide)
  have hs : sm (xs.map (wcr c (comN c xs))) (2 ^ xs.length - 1) = 0 := by
    have := sm_full (xs.map (wcr c (comN c xs)))
    rw [List.length_map] at this
    rw [this]
    exact (zero_of (com_pos _ rfl) (den_dvd _ rfl)).mpr s0
  refine ⟨by omega, ?_, fun l h => (nomatch h), ?_, fun _ => rfl, ?_⟩
  · rw [bs_full]
    have : (List.range xs.length).map (fun k => xs.getD k "") = xs := by
      refine List.ext_getElem (by simp) fun i h1 h2 => ?_
      simp [List.getD_eq_getElem?_getD, h2]
    rw [this]
    exact List.Perm.refl _
  · rw [hs]
    rfl
  · rw [z_sm (by rw [List.length_map]; omega), hs]
    show (0 : Int) = _ - _ - 1 + 1
    omega
theorem get_x {k : Nat} (hk : k < xs.length) : xs[k]? = some (xs.getD k "") := by
  rw [List.getD_eq_getElem?_getD, List.getElem?_eq_getElem hk]
  rfl
variable {S : Nat} {T : List (List Str)} {ys : List Str}
theorem Dn_.sub (h : Dn_ c xs f S T ys) {k : Nat} (hk : k < xs.length) (hb : S.testBit k = true) : (T.flatten ++ (ys ++ [xs.getD k ""]) ++ (bs xs.length (S - 2 ^ k)).map fun k => xs.getD k "").Perm xs := by
  refine List.Perm.trans ?_ h.perm
  have p := (bs_perm hk hb).map fun k => xs.getD k ""
  rw [List.map_cons] at p
  rw [← List.append_assoc, List.append_assoc (T.flatten ++ ys)]
  exact List.Perm.append_left _ p.symm
theorem Dn_.summ (h : Dn_ c xs f S T ys) {k : Nat} (hk : k < xs.length) (hb : S.testBit k = true) : sm (xs.map (wcr c (comN c xs))) (S - 2 ^ k) + ((ys ++ [xs.getD k ""]).map (wcr c (comN c xs))).sum = 0 := by
  have e := h.sum
  rw [sm_rem (k := k) (by rw [List.length_map]; exact hk) hb] at e
  have eg : (xs.map (wcr c (comN c xs))).getD k 0 = wcr c (comN c xs) (xs.getD k "") := by
    rw [List.getD_eq_getElem?_getD, List.getElem?_map, get_x hk]
    rfl
  rw [eg] at e
  rw [List.map_append, List.sum_append]
  simp only [List.map_cons, List.map_nil, List.sum_cons, List.sum_nil]
  omega
/-- a step that goes on -/
theorem Dn_.go (h : Dn_ c xs f S T ys) {k : Nat} (hk : k < xs.length) (hb : S.testBit k = true) (ef : f S = f (S - 2 ^ k) + t (zOf (sumsL (xs.map (wcr c (comN c xs)))) S)) (nz : ¬ zOf (sumsL (xs.map (wcr c (comN c xs)))) (S - 2 ^ k) = true) : Dn_ c xs f (S - 2 ^ k) T (ys ++ [xs.getD k ""]) := by
  have lt : S - 2 ^ k < 2 ^ xs.length := Nat.lt_of_le_of_lt (Nat.sub_le _ _) h.lt
  refine ⟨lt, h.sub hk hb, h.each, h.summ hk hb, fun z => ?_, ?_⟩
  · refine absurd ?_ nz
    rw [z_sm (by rw [List.length_map]; exact lt), z, sm_zero]
    rfl
  · have := h.num
    rw [this, ef]
    unfold t
    rw [if_neg nz]
    split <;> omega
/-- a step that ends a lot -/
theorem Dn_.out (h : Dn_ c xs f S T ys) {k : Nat} (hk : k < xs.length) (hb : S.testBit k = true) (ef : f S = f (S - 2 ^ k) + t (zOf (sumsL (xs.map (wcr c (comN c xs)))) S)) (z : zOf (sumsL (xs.map (wcr c (comN c xs)))) (S - 2 ^ k) = true) {l : List Str} (pl : l.Perm (ys ++ [xs.getD k ""])) (pw : l.Pairwise SRT.leS) : Dn_ c xs f (S - 2 ^ k) (T ++ [l]) [] := by
  have lt : S - 2 ^ k < 2 ^ xs.length := Nat.lt_of_le_of_lt (Nat.sub_le _ _) h.lt
  have z' := z
  rw [z_sm (by rw [List.length_map]; exact lt)] at z'
  have z' := of_decide_eq_true z'
  have hs := h.summ hk hb
  rw [z', Int.zero_add] at hs
  have sub := h.sub hk hb
  have mem : ∀ y ∈ l, y ∈ xs := fun y hy => sub.mem_iff.mp (List.mem_append_left _ (List.mem_append_right _ (pl.mem_iff.mp hy)))
  refine ⟨lt, ?_, fun m hm => ?_, ?_, fun _ => rfl, ?_⟩
  · refine List.Perm.trans ?_ sub
    rw [List.flatten_append, List.append_nil]
    refine List.Perm.append_right _ (List.Perm.append_left _ ?_)
    simpa using pl
  · rcases List.mem_append.mp hm with hm | hm
    · exact h.each m hm
    · rw [List.mem_singleton.mp hm]
      refine ⟨fun e => ?_, pw, ?_⟩
      · rw [e] at pl
        have := pl.length_eq
        simp at this
      · refine (zero_of (com_pos _ rfl) fun y hy => den_dvd _ rfl y (mem y hy)).mp ?_
        rw [← hs]
        exact sum_perm (pl.map _)
  · rw [z']
    rfl
  · have := h.num
    rw [List.length_append, List.length_singleton, Int.natCast_add, this, ef, z]
    unfold t
    rw [if_pos rfl]
    split <;> omega
end
/-! ### no lot can be parted -/
def nmS (xs : List Str) (S : Nat) : List Str := (bs xs.length S).map fun k => xs.getD k ""
theorem nm_rem {xs : List Str} {S k : Nat} (hk : k < xs.length) (hb : S.testBit k = true) : (nmS xs S).Perm (xs.getD k "" :: nmS xs (S - 2 ^ k)) := by
  have p := (bs_perm hk hb).map fun k => xs.getD k ""
  rw [List.map_cons] at p
  exact p
theorem nt_pos {n m : Nat} {z : Nat → Bool} {f : Nat → Int} (h : Nt n z f m) : ∀ S, S < m → 0 ≤ f S := by
  intro S
  induction S using Nat.strongRecOn with
  | ind S ih =>
    intro hS
    rcases Nat.eq_zero_or_pos S with rfl | h0
    · rw [h.zero]
      exact Int.le_refl _
    · obtain ⟨k, hk, hb, e⟩ := h.at_ S h0 hS
      have p : 0 < 2 ^ k := Nat.pow_pos (by decide)
      have := ih (S - 2 ^ k) (by omega) (by omega)
      rw [e]
      unfold t
      split <;> omega
/-- taking names out -/
theorem nt_out {xs : List Str} {z : Nat → Bool} {f : Nat → Int} (h : Nt xs.length z f (2 ^ xs.length)) : ∀ (l R : List Str) (S : Nat), S < 2 ^ xs.length → (nmS xs S).Perm (l ++ R) → ∃ S1, S1 < 2 ^ xs.length ∧ (nmS xs S1).Perm R ∧ f S1 ≤ f S ∧ (l ≠ [] → f S1 + t (z S) ≤ f S)
  | [], R, S, hS, p => ⟨S, hS, p, Int.le_refl _, fun n => absurd rfl n⟩
  | x :: l, R, S, hS, p => by
    have hx : x ∈ nmS xs S := p.mem_iff.mpr (by simp)
    obtain ⟨k, hk, rfl⟩ := List.mem_map.mp hx
    obtain ⟨hkn, hb⟩ := mem_bs.mp hk
    have le := (rem k S hb).1
    have pk : 0 < 2 ^ k := Nat.pow_pos (by decide)
    have p2 : (nmS xs (S - 2 ^ k)).Perm (l ++ R) := List.Perm.cons_inv ((nm_rem hkn hb).symm.trans p)
    obtain ⟨S1, h1, h2, h3, _⟩ := nt_out h l R (S - 2 ^ k) (by omega) p2
    have up := h.up S (by omega) hS k hkn hb
    have t0 : 0 ≤ t (z S) := by unfold t; split <;> decide
    exact ⟨S1, h1, h2, by omega, fun _ => by omega⟩
/-- lots are never more than f tells -/
theorem nt_most {c : Str → Rat} {xs : List Str} {f : Nat → Int} (nt : Nt xs.length (zOf (sumsL (xs.map (wcr c (comN c xs))))) f (2 ^ xs.length)) : ∀ (T : List (List Str)) (S : Nat), S < 2 ^ xs.length → (nmS xs S).Perm T.flatten → (∀ l ∈ T, l ≠ [] ∧ sumR (l.map c) = 0) → (T.length : Int) ≤ f S
  | [], S, hS, _, _ => nt_pos nt S hS
  | l :: T, S, hS, p, hT => by
    rw [List.flatten_cons] at p
    obtain ⟨S1, h1, h2, _, h4⟩ := nt_out nt l T.flatten S hS p
    have ih := nt_most nt T S1 h1 h2 fun m hm => hT m (List.mem_cons_of_mem _ hm)
    have z0 : sumR ((l ++ T.flatten).map c) = 0 := by
      rw [← List.flatten_cons]
      have : ∀ Z : List (List Str), (∀ m ∈ Z, sumR (m.map c) = 0) → sumR (Z.flatten.map c) = 0 := fun Z => by
        induction Z with
        | nil => intro _; rfl
        | cons m Z ihz =>
          intro hz
          rw [List.flatten_cons, List.map_append, sumR_app, hz m List.mem_cons_self, ihz fun q hq => hz q (List.mem_cons_of_mem _ hq)]
          exact Rat.zero_add 0
      exact this _ fun m hm => (hT m hm).2
    have zS : zOf (sumsL (xs.map (wcr c (comN c xs)))) S = true := by
      rw [z_sm (by rw [List.length_map]; exact hS)]
      refine decide_eq_true ?_
      have e1 : sm (xs.map (wcr c (comN c xs))) S = ((nmS xs S).map (wcr c (comN c xs))).sum := by
        unfold sm nmS
        rw [List.map_map, List.length_map]
        congr 1
        refine List.map_congr_left fun k hk => ?_
        have g := get_x (xs := xs) (mem_bs.mp hk).1
        rw [List.getD_eq_getElem?_getD, List.getElem?_map, g]
        rfl
      rw [e1, sum_perm (p.map _)]
      refine (zero_of (com_pos _ rfl) fun y hy => den_dvd _ rfl y ?_).mpr z0
      have := p.mem_iff.mpr hy
      obtain ⟨k, hk, rfl⟩ := List.mem_map.mp this
      exact List.mem_of_getElem? (get_x (mem_bs.mp hk).1)
    have := h4 (hT l List.mem_cons_self).1
    rw [zS] at this
    unfold t at this
    rw [if_pos rfl] at this
    rw [List.length_cons]
    omega
theorem sum_part (c : Str → Rat) (g : Str → Bool) : ∀ l : List Str, sumR (l.map c) = sumR ((l.filter g).map c) + sumR ((l.filter fun x => !g x).map c)
  | [] => (Rat.zero_add 0).symm
  | x :: l => by
    rw [List.map_cons, sumR_cons, sum_part c g l]
    cases h : g x
    · rw [List.filter_cons_of_neg (by simp [h]), List.filter_cons_of_pos (by simp [h]), List.map_cons, sumR_cons]
      grind
    · rw [List.filter_cons_of_pos (by simp [h]), List.filter_cons_of_neg (by simp [h]), List.map_cons, sumR_cons]
      grind
/-- no lot of the most can be parted -/
theorem least_of {c : Str → Rat} {xs : List Str} {f : Nat → Int} (nt : Nt xs.length (zOf (sumsL (xs.map (wcr c (comN c xs))))) f (2 ^ xs.length)) {T : List (List Str)} (p : xs.Perm T.flatten) (hT : ∀ l ∈ T, l ≠ [] ∧ sumR (l.map c) = 0) (num : (T.length : Int) = f (2 ^ xs.length - 1)) {l : List Str} (hl : l ∈ T) (g : Str → Bool) (hg : sumR ((l.filter g).map c) = 0) : l.filter g = [] ∨ l.filter g = l := by
  refine Classical.byContradiction fun no => ?_
  have n1 : l.filter g ≠ [] := fun z => no (.inl z)
  have n2 : (l.filter fun x => !g x) ≠ [] := fun z => no (.inr (List.filter_eq_self.mpr fun x hx => by
    have := List.filter_eq_nil_iff.mp z x hx
    simpa using this))
  obtain ⟨A, B, rfl⟩ := List.append_of_mem hl
  have s2 : sumR ((l.filter fun x => !g x).map c) = 0 := by
    have h := sum_part c g l
    rw [(hT l hl).2, hg] at h
    grind
  have M0 : 0 < 2 ^ xs.length := Nat.pow_pos (by decide)
  have full : nmS xs (2 ^ xs.length - 1) = xs := by
    unfold nmS
    rw [bs_full]
    refine List.ext_getElem (by simp) fun i h1 h2 => ?_
    simp [List.getD_eq_getElem?_getD, h2]
  have pf : l.Perm (l.filter g ++ l.filter fun x => !g x) := (List.filter_append_perm g l).symm
  have := nt_most nt (A ++ (l.filter g :: (l.filter fun x => !g x) :: B)) (2 ^ xs.length - 1) (by omega) (by
    rw [full]
    refine p.trans ?_
    rw [List.flatten_append, List.flatten_append, List.flatten_cons, List.flatten_cons, List.flatten_cons]
    refine List.Perm.append_left _ ?_
    rw [← List.append_assoc]
    exact pf.append_right _) (fun m hm => by
    rcases List.mem_append.mp hm with h | h
    · exact hT m (List.mem_append_left _ h)
    · rcases List.mem_cons.mp h with rfl | h
      · exact ⟨n1, hg⟩
      · rcases List.mem_cons.mp h with rfl | h
        · exact ⟨n2, s2⟩
        · exact hT m (List.mem_append_right _ (List.mem_cons_of_mem _ h)))
  rw [List.length_append] at num this
  simp only [List.length_cons] at num this
  omega
section
variable {c : Str → Rat} {xs : List Str} {f : Nat → Int} {S : Nat} {T : List (List Str)} {ys : List Str}
/-- at the end -/
theorem Dn_.done {L : List Str} (h : Dn_ c xs f 0 T ys) (px : xs.Perm (L.filter fun x => decide (c x ≠ 0))) (pw : xs.Pairwise SRT.leS) (nt : Nt xs.length (zOf (sumsL (xs.map (wcr c (comN c xs))))) f (2 ^ xs.length)) {T' : List (List Str)} (pT : T'.Perm T) (sT : T'.Pairwise leT) : Lots L c T' := by
  have e := h.nil rfl
  subst e
  have pfl : T'.flatten.Perm xs := by
    have p := h.perm
    rw [bs_zero, List.append_nil, List.map_nil, List.append_nil] at p
    exact (List.Perm.flatten pT).trans p
  have num' : (T'.length : Int) = f (2 ^ xs.length - 1) := by
    have n := h.num
    rw [z_sm (by rw [List.length_map]; exact h.lt), sm_zero, nt.zero] at n
    rw [pT.length_eq, n]
    show _ - 0 - 1 + 1 = _
    omega
  refine ⟨sT, fun l hl => h.each l (pT.mem_iff.mp hl), ?_, fun l hl g hg => least_of nt pfl.symm (fun m hm => ⟨(h.each m (pT.mem_iff.mp hm)).1, (h.each m (pT.mem_iff.mp hm)).2.2⟩) num' hl g hg, fun xs' px' pw' f' nt' => ?_⟩
  · refine List.Perm.trans ?_ px
    have p := h.perm
    rw [bs_zero, List.append_nil, List.map_nil, List.append_nil] at p
    exact (List.Perm.flatten pT).trans p
  · have : xs' = xs := IO.sorted_same pw' pw (px'.trans px.symm)
    subst this
    have n := h.num
    rw [z_sm (by rw [List.length_map]; exact h.lt), sm_zero, nt.zero] at n
    rw [pT.length_eq, n]
    have one := Nt.one nt nt' (2 ^ xs'.length - 1) (by have : 0 < 2 ^ xs'.length := Nat.pow_pos (by decide); omega)
    rw [← one]
    show _ - 0 - 1 + 1 = _
    omega
end
end K60.Q
set_option Elab.async false
set_option linter.all false
set_option maxRecDepth 100000
set_option maxHeartbeats 4000000
namespace K60.Q
open PySem PySem.Spec PyProof.Rows L2
open C8 (Cal Mak Met pe_c pe_mk pe_mt pe_mt0)
open KM (pr Sz)
open SETM SRX
theorem iteTE {b : Bool} {p q : Prop} (h : b = true) (x : p) : if b = true then p else q := by rw [if_pos h]; exact x
theorem iteFE {b : Bool} {p q : Prop} (h : b = false) (x : q) : if b = true then p else q := by rw [h]; exact x
/-- the lots told -/
def LtL (H : Hp) (o : Addr) (rs : List (Addr × List Str)) : Prop := H o = some (.lst (rs.map fun r => V.ref r.1)) ∧ ∀ r ∈ rs, H r.1 = some (.tup (r.2.map V.str))
theorem LtL.same {H H' : Hp} {o : Addr} {rs : List (Addr × List Str)} (h : LtL H o rs) (s : Same H H') : LtL H' o rs := ⟨s _ _ h.1, fun r hr => s _ _ (h.2 r hr)⟩
section
variable {P : Program} {w : World} {K : PySem.W.Frag} {mg : Str → Option Value} {base : Heap} {f C : Addr} {fd : FuncData}
def spLo (C : Addr) : Sp := fun vs H Q _ => ∃ (d : Addr) (L : List Str) (c : Str → Rat), vs = [.ref d] ∧ SDc C H d L c ∧ L.length ≤ 10 ∧ (∀ x ∈ L, Cs (c x)) ∧ sumR (L.map c) = 0 ∧
  ∀ o H' rs, Same H H' → H o = none → LtL H' o rs → Lots L c (rs.map (·.2)) → Q (.ref o) H'
theorem Cs.sz {r : Rat} (h : Cs r) : Sz 20 r := ⟨by have := h.2; show r.num.natAbs < 2 ^ 20; omega, by have := h.1; show r.den < 2 ^ 20; omega⟩
theorem ok_lo (F : Dn K d_lots f fd) (bl : Bl mg) (bs' : mg "sorted" = none) (btup : mg "tuple" = none) (T : Cl K mg C) (g : ∃ t, mg "MOST_UNEVEN" = some (.int 10 t)) (cCE : Cal P w K mg base 6 "check_even" (spCE C) []) (cWC : Cal P w K mg base 1 "whole_credits" (spWC C) []) (cSu : Cal P w K mg base 1 "sums_of_sets" spSu []) (cBt : Cal P w K mg base 2 "best_takings" spBt []) :
    FnOk P w K mg base CX0 7 f fd ["standing"] (spLo C) := by
  refine F.ok sc_lots (fun vs H Q E h => ?_) (fun cdv A outer s H vs Q E hr h => ?_)
  · obtain ⟨d, L, c, rfl, _⟩ := h
    rfl
  · obtain ⟨d, L, c, rfl, ⟨ad, hd, hv⟩, ll, cs, s0, hQ⟩ := h
    obtain ⟨tg, g⟩ := g
    have hu := hu_of hr
    have hu64 : (A.deeper (envOfC d_lots.qual d_lots.scope s.heap.objs.size f cdv)).units + 64 < cLine := by have := hr.un; omega
    refine ⟨_, PSs.nox (pss_cons (ps_expr (pe_c cCE hr (by decide) rfl (pa_cons (pv 0) pa_nil)))
      (pss_cons (ps_set (i := 1) sc_lots.nd rfl (.inl rfl) (pe_callB (r := SRT.rSortedTx K) (SRT.cr_sortedTx hu64) rfl bs' boot_sorted (pa_cons (pe_lock (pe_lc (own := [("name", 8)]) (g := gName 8) rfl sc_lots.nd (pi_keys (pv 0)) (blkOk_by (N := N_lots) (sc := defScope s_lots) (by decide +kernel))
          (fun _ _ _ _ _ => pg_name (i := 8) sc_lots.nd rfl (Or.inl rfl)) (fun _ _ _ _ _ => pts_one (pt_cmpR op_ne (pe_fldK (K := K) rfl (pe_dget hu (pv 0) (pv 8) (fun _ _ => rfl)) rfl) pe_int (nomark _))) (fun _ _ _ _ _ => pv 8))) pa_nil)))
      (pss_cons (ps_if (pt_cmpR op_gt (pe_callB call_len_seq rfl bl.len boot_len (pa_cons (pv 1) pa_nil)) (pe_glob (v := .int 10) rfl g ⟨tg, rfl⟩) (nomark _)) pss_never pss_nil)
      (pss_cons (ps_set (i := 2) sc_lots.nd rfl (.inl rfl) (pe_c cSu hr (by decide) rfl (pa_cons (pe_c cWC hr (by decide) rfl (pa_cons (pv 0) (pa_cons (pv 1) pa_nil))) pa_nil)))
      (pss_cons (ps_set (i := 3) sc_lots.nd rfl (.inl rfl) (pe_c cBt hr (by decide) rfl (pa_cons (pv 2) (pa_cons (pe_callB call_len_seq rfl bl.len boot_len (pa_cons (pv 1) pa_nil)) pa_nil))))
      (pss_cons (ps_set (i := 4) sc_lots.nd rfl (.inl rfl) (pe_lst pa_nil))
      (pss_cons (ps_set (i := 5) sc_lots.nd rfl (.inl rfl) (pe_lst pa_nil))
      (pss_cons (ps_set (i := 6) sc_lots.nd rfl (.inl rfl) (pe_op op_sub (pe_callB call_len_seq rfl bl.len boot_len (pa_cons (pv 2) pa_nil)) pe_int))
      (pss_cons (ps_while PassesOwn.never (pt_cmpR op_gt (pv 6) pe_int (nomark _))
        (pss_cons (ps_set (i := 7) sc_lots.nd rfl (.inl rfl) (pe_ix ix_list (pv 3) (pv 6) (fun _ _ => rfl)))
        (pss_cons (ps_aug (i := 6) sc_lots.nd rfl (.inl rfl) (pe_op op_shl pe_int (pv 7)) ip_sub)
        (pss_cons (ps_expr (pe_bm PySem.F.plainAttrs_list PySem.F.slot_list_append PySem.F.type_list_append mt_append (pv 5) (pa_cons (pe_ix ix_list (pv 1) (pv 7) (fun _ _ => rfl)) pa_nil)))
        (pss_one (ps_if (pt_cmpR op_eq (pe_ix ix_list (pv 2) (pv 6) (fun _ _ => rfl)) pe_int (nomark _))
          (pss_cons (ps_expr (pe_bm PySem.F.plainAttrs_list PySem.F.slot_list_append PySem.F.type_list_append mt_append (pv 4) (pa_cons (pe_callTy call_tuple_of rfl btup boot_tuple (pa_cons (pe_callB (r := SRT.rSortedTx K) (SRT.cr_sortedTx hu64) rfl bs' boot_sorted (pa_cons (pv 5) pa_nil)) pa_nil)) pa_nil)))
          (pss_one (ps_set (i := 5) sc_lots.nd rfl (.inl rfl) (pe_lst pa_nil)))) pss_nil))))))
      (pss_one (ps_ret (pe_callB (r := SRX.rSortedTT K) (SRX.cr_sortedTT hu64) rfl bs' boot_sorted (pa_cons (pv 4) pa_nil))))))))))))), ?_⟩
    refine ⟨_, rfl, d, L, c, rfl, ⟨ad, hd, hv⟩, by omega, fun x hx => (cs x hx).sz, s0, fun H1 s1 => ?_⟩
    have hd := s1 _ _ hd
    have hv : ∀ x ∈ L, Sh C H1 (ad x) (pr (c x)) := fun x hx => (hv x hx).keep s1
    refine ⟨d, _, hd, trivial, fun od => ?_⟩
    obtain ⟨hd1, kp1, new1, back1⟩ := lockf (C := C) hd od
    have hv1 : ∀ x ∈ L, Sh C (upd H1 d (.frz od (dctO L fun x => .ref (ad x)))) (ad x) (pr (c x)) := fun x hx => (hv x hx).un ((hv x hx).at_ne hd)
    generalize upd H1 d (.frz od (dctO L fun x => .ref (ad x))) = F1 at hd1 kp1 new1 back1 hv1
    refine ⟨_, rfl, d, od, rfl, .inl ⟨_, hd1, fun D hD => lc_it walk_keys (fun i H2 => H2 D = some (.lst (((L.take i).filter fun x => decide (c x ≠ 0)).map V.str)) ∧ Same F1 H2) ⟨upd_same, same_new hD⟩ (fun i H2 _ z => z.2 _ _ hd1) ?_ ?_⟩⟩
    · rintro i x H2 H3 hi ⟨hD2, sm⟩ ⟨eH, kk, v, hkk, rfl⟩
      have eH := eH.symm
      subst eH
      rw [List.length_map] at hi
      rw [List.getElem?_map] at hkk
      obtain ⟨z, hz0, e0⟩ := Option.map_eq_some_iff.mp hkk
      cases e0
      have hzL := List.mem_of_getElem? hz0
      refine ⟨rfl, ?_⟩
      have dg : DGet H2 d (.str z) (some (.ref (ad z))) := .inl ⟨_, Sum.inr z, .inr ⟨od, sm _ _ hd1⟩, rfl, by rw [val_dct, if_pos hzL]⟩
      obtain ⟨dz, hvz⟩ := (hv1 z hzL).keep sm
      refine ⟨_, rfl, _, rfl, d, _, rfl, dg, ad z, C, dz, _, _, rfl, hvz, T.cl, T.nt, shF_top _, rfl, _, rfl, ?_⟩
      have en : (!decide (V.int (pr (c z)).1 = V.int 0)) = decide (c z ≠ 0) := by
        by_cases q : c z = 0
        · have : (pr (c z)).1 = 0 := num0.mpr q
          rw [decide_eq_true (congrArg V.int this), decide_eq_false (fun h => h q)]
          rfl
        · rw [decide_eq_false (fun h => q (num0.mp (V.int.inj h))), decide_eq_true q]
          rfl
      rw [en]
      have ef : (L.take (i + 1)).filter (fun x => decide (c x ≠ 0)) = (L.take i).filter (fun x => decide (c x ≠ 0)) ++ if decide (c z ≠ 0) = true then [z] else [] := by
        rw [take_one hz0, List.filter_append]
        by_cases q : c z = 0 <;> simp [q]
      refine ite2 (fun q => ?_) (fun q => ?_)
      · refine ⟨_, rfl, _, hD2, by rw [List.length_map]; exact Nat.lt_of_le_of_lt (List.length_filter_le _ _) (by rw [List.length_take]; exact line_lt (by omega)), ?_, same_put sm hD⟩
        rw [upd_same, ef, if_pos q, List.map_append]
        rfl
      · rw [ef, if_neg q, List.append_nil]
        exact ⟨hD2, sm⟩
    rintro H2 ⟨hD2, sm⟩
    rw [List.length_map, take_all] at hD2
    obtain ⟨nD, nDd⟩ := new1 D hD
    have s2 := back1 H2 sm
    refine ⟨sm _ _ hd1, ?_⟩
    have hD3 : (upd H2 d (dctO L fun x => .ref (ad x))) D = some (.lst ((L.filter fun x => decide (c x ≠ 0)).map V.str)) := by rw [upd_ne nDd]; exact hD2
    generalize upd H2 d (dctO L fun x => .ref (ad x)) = H3 at s2 hD3
    refine ⟨D, _, rfl, .inl (SqL.of hD3), fun xs nl px pw fnl => ?_⟩
    have s3 := s1.trans (s2.trans (same_new (o := .lst (xs.map V.str)) fnl))
    have s23 := s2.trans (same_new (o := .lst (xs.map V.str)) fnl)
    have hn : (upd H3 nl (.lst (xs.map V.str))) nl = some (.lst (xs.map V.str)) := upd_same
    have hd4 := s23 _ _ hd
    have hv4 : ∀ x ∈ L, Sh C (upd H3 nl (.lst (xs.map V.str))) (ad x) (pr (c x)) := fun x hx => (hv x hx).keep s23
    generalize upd H3 nl (.lst (xs.map V.str)) = H4 at s3 hn hd4 hv4
    have xl : xs.length ≤ 10 := by
      rw [px.length_eq]
      exact Nat.le_trans (List.length_filter_le _ _) ll
    have sub : ∀ x ∈ xs, x ∈ L := fun x hx => (List.mem_filter.mp (px.mem_iff.mp hx)).1
    have cs' : ∀ x ∈ xs, Cs (c x) := fun x hx => cs x (sub x hx)
    have sx0 : sumR (xs.map c) = 0 := by
      rw [sumR_perm (px.map c), sum_nz]
      exact s0
    refine ⟨_, rfl, nl, _, rfl, .inl (SqL.of hn), _, _, rfl, rfl, _, rfl, ?_⟩
    refine iteFE (decide_eq_false (by rw [List.length_map]; omega)) ?_
    refine ⟨_, rfl, _, rfl, d, nl, L, xs, c, rfl, ⟨ad, hd4, hv4⟩, hn, sub, by omega, cs', fun wl H5 s5 fw hw => ?_⟩
    obtain ⟨W, hW⟩ : ∃ W, W = xs.map (wcr c (comN c xs)) := ⟨_, rfl⟩
    rw [← hW] at hw
    have lW : W.length = xs.length := by rw [hW, List.length_map]
    refine ⟨wl, W, rfl, hw, by omega, fun sl H6 s6 fs hs => ?_⟩
    have hn6 := s6 _ _ (s5 _ _ hn)
    have lS := (sumsL_get _ W rfl).1
    refine ⟨_, rfl, _, rfl, nl, _, rfl, .inl (SqL.of hn6), sl, xs.length, sumsL W, (by rw [List.length_map]; rfl), by omega, hs, by rw [lS, lW], fun pl H7 ff p s7 fp hp nt wy => ?_⟩
    refine ⟨by show 0 ≤ sizeLine; decide, fun T0 fT => ?_⟩
    have sT := same_new (o := .lst []) fT
    have hT : (upd H7 T0 (.lst [])) T0 = some (.lst []) := upd_same
    have nTn : T0 ≠ nl := fun z => by rw [z, s7 _ _ hn6] at fT; cases fT
    have nTs : T0 ≠ sl := fun z => by rw [z, s7 _ _ hs] at fT; cases fT
    have nTp : T0 ≠ pl := fun z => by rw [z, hp] at fT; cases fT
    refine ⟨by show 0 ≤ sizeLine; decide, fun L0 fL => ?_⟩
    have sL := same_new (o := .lst []) fL
    have hL : (upd (upd H7 T0 (.lst [])) L0 (.lst [])) L0 = some (.lst []) := upd_same
    have hT := sL _ _ hT
    have nLT : L0 ≠ T0 := fun z => by rw [z, upd_same] at fL; cases fL
    have fL7 : H7 L0 = none := by rw [upd_ne nLT] at fL; exact fL
    have s8 := sT.trans sL
    generalize upd (upd H7 T0 (.lst [])) L0 (.lst []) = H8 at hT hL s8
    have s07 : Same H H7 := s3.trans (s5.trans (s6.trans s7))
    have hn7 := s7 _ _ hn6
    have hs7 := s7 _ _ hs
    have M0 : 0 < 2 ^ xs.length := Nat.pow_pos (by decide)
    have M1 : 2 ^ xs.length ≤ 1024 := Nat.pow_le_pow_right (by decide) xl
    refine ⟨_, rfl, sl, _, rfl, .inl (SqL.of (s8 _ _ hs7)), _, _, rfl, rfl, ?_⟩
    have ec : (((sumsL W).map V.int).length : Int) - 1 = ((2 ^ xs.length - 1 : Nat) : Int) := by
      rw [List.length_map, lS, lW]
      omega
    rw [hW] at nt wy
    refine ⟨fun m σ' H' => ∃ (S : Nat) (L0 : Addr) (rs : List (Addr × List Str)) (ys : List Str) (v7 v8 : Option V), m = S ∧ σ' = [some (.ref d), some (.ref nl), some (.ref sl), some (.ref pl), some (.ref T0), some (.ref L0), some (.int (S : Int)), v7, v8] ∧ Same H7 H' ∧ LtL H' T0 rs ∧ H' L0 = some (.lst (ys.map V.str)) ∧ H7 L0 = none ∧ L0 ≠ T0 ∧ Dn_ c xs ff S (rs.map (·.2)) ys,
      ⟨2 ^ xs.length - 1, 2 ^ xs.length - 1, L0, [], [], none, none, rfl, (by show [some (V.ref d), some (V.ref nl), some (V.ref sl), some (V.ref pl), some (V.ref T0), some (V.ref L0), some (V.int ((((sumsL W).map V.int).length : Int) - 1)), none, none] = _; rw [ec]), s8, ⟨hT, fun r h => nomatch h⟩, hL, fL7, nLT, Dn_.start sx0⟩, ?_⟩
    rintro m σ' H' ⟨S, L0, rs, ys, v7, v8, rfl, rfl, s9, ⟨hT, hrs⟩, hL, fL7, nLT, dn⟩
    refine ⟨_, rfl, _, _, rfl, rfl, _, rfl, ?_⟩
    have lens : ((rs.map (·.2)).flatten ++ ys ++ (bs xs.length m).map fun k => xs.getD k "").length = xs.length := dn.perm.length_eq
    rw [List.length_append, List.length_append] at lens
    have lrs : rs.length ≤ 10 := by
      have : ∀ (Z : List (List Str)), (∀ l ∈ Z, l ≠ []) → Z.length ≤ Z.flatten.length := fun Z => by
        induction Z with
        | nil => intro _; simp
        | cons l Z ih =>
          intro h
          have h1 := ih fun m hm => h m (List.mem_cons_of_mem _ hm)
          have h2 : l.length ≠ 0 := fun z => h l List.mem_cons_self (List.length_eq_zero_iff.mp z)
          rw [List.flatten_cons, List.length_append, List.length_cons]
          omega
      have := this (rs.map (·.2)) fun l hl => (dn.each l hl).1
      rw [List.length_map] at this
      omega
    rcases Nat.eq_zero_or_pos m with rfl | m0
    · refine iteFE (decide_eq_false (by omega)) ?_
      refine ⟨_, rfl, T0, rs, rfl, SqL.of hT, fun r hr => ⟨(dn.each r.2 (List.mem_map.mpr ⟨r, hr, rfl⟩)).1, hrs r hr⟩, fun rs' o pr' pw' _ fo => ?_⟩
      have so := same_new (o := .lst (rs'.map fun r => V.ref r.1)) fo
      refine hQ o _ rs' (s07.trans (s9.trans so)) ((s07.trans s9).free fo) ⟨upd_same, fun r hr => so _ _ (hrs r (pr'.mem_iff.mp hr))⟩ ?_
      exact dn.done px pw nt (pr'.map _) pw'
    · refine iteTE (decide_eq_true (by omega)) ?_
      obtain ⟨hk, hb, ef⟩ := wy m m0 dn.lt
      have at_p : atI ((List.range (2 ^ xs.length)).map (plV p)) (m : Int) = some (.int (p m : Int)) := atI_nat (by
        rw [List.getElem?_map, List.getElem?_range dn.lt]
        show some (plV p m) = _
        unfold plV
        rw [if_neg (by omega)])
      have k64 : p m < 64 := by omega
      have le := (rem (p m) m hb).1
      have p2 : 0 < 2 ^ p m := Nat.pow_pos (by decide)
      generalize p m = k at hk hb ef at_p k64 le p2
      have e6 : (m : Int) - 1 * 2 ^ ((k : Int)).toNat = ((m - 2 ^ k : Nat) : Int) := by
        rw [Int.toNat_natCast, Int.one_mul, Int.natCast_sub le, Int.natCast_pow]
        rfl
      have lt2 : m - 2 ^ k < 2 ^ xs.length := Nat.lt_of_le_of_lt (Nat.sub_le _ _) dn.lt
      have hs9 := s9 _ _ hs7
      have at_s : atI ((sumsL W).map V.int) ((m : Int) - 1 * 2 ^ ((k : Int)).toNat) = some (.int ((sumsL W).getD (m - 2 ^ k) 1)) := by
        rw [e6]
        refine atI_nat ?_
        have : m - 2 ^ k < (sumsL W).length := by rw [lS, lW]; exact lt2
        rw [List.getElem?_map, List.getD_eq_getElem?_getD, List.getElem?_eq_getElem this]
        rfl
      refine ⟨_, fun σ' H' z => z, ?_⟩
      refine ⟨_, rfl, _, rfl, pl, _, _, .int (k : Int), rfl, rfl, SqL.of (s9 _ _ hp), at_p, ?_⟩
      refine ⟨_, rfl, _, rfl, _, _, rfl, rfl, ⟨by omega, by omega, by decide⟩, _, _, rfl, rfl, ?_⟩
      refine ⟨_, rfl, .inl ⟨rfl, _, SqL.of hL⟩, _, rfl, _, rfl, nl, _, _, .str (xs.getD k ""), rfl, rfl, SqL.of (s9 _ _ hn7), atI_nat (by rw [List.getElem?_map, get_x hk]; rfl), L0, _, _, rfl, rfl, hL, by rw [List.length_map]; exact line_lt (by omega), ?_⟩
      have eL : (ys.map V.str ++ [V.str (xs.getD k "")]) = (ys ++ [xs.getD k ""]).map V.str := by rw [List.map_append]; rfl
      have s10 : Same H7 (upd H' L0 (.lst (ys.map V.str ++ [V.str (xs.getD k "")]))) := same_put s9 fL7
      have hL2 : (upd H' L0 (.lst (ys.map V.str ++ [V.str (xs.getD k "")]))) L0 = some (.lst ((ys ++ [xs.getD k ""]).map V.str)) := by rw [upd_same, eL]
      have hT2 : (upd H' L0 (.lst (ys.map V.str ++ [V.str (xs.getD k "")]))) T0 = some (.lst (rs.map fun r => V.ref r.1)) := by rw [upd_ne nLT.symm]; exact hT
      have hrs2 : ∀ r ∈ rs, (upd H' L0 (.lst (ys.map V.str ++ [V.str (xs.getD k "")]))) r.1 = some (.tup (r.2.map V.str)) := fun r hr => by
        have nr : r.1 ≠ L0 := fun z => by
          have := hrs r hr
          rw [z, hL] at this
          cases this
        rw [upd_ne nr]
        exact hrs r hr
      generalize upd H' L0 (.lst (ys.map V.str ++ [V.str (xs.getD k "")])) = G1 at s10 hL2 hT2 hrs2
      refine ⟨_, rfl, _, rfl, sl, _, _, _, rfl, rfl, SqL.of (s10 _ _ hs7), at_s, rfl, _, rfl, ?_⟩
      have ez : decide (V.int ((sumsL W).getD (m - 2 ^ k) 1) = V.int 0) = zOf (sumsL W) (m - 2 ^ k) := decide_eq_decide.mpr ⟨fun h => V.int.inj h, fun h => congrArg V.int h⟩
      rw [ez]
      rw [← hW] at ef
      refine ite2 (fun q => ?_) (fun q => ?_)
      · refine ⟨_, rfl, .inl ⟨rfl, _, SqL.of hT2⟩, _, rfl, L0, _, rfl, .inl (SqL.of hL2), fun l q1 pl1 pwl fq => ?_⟩
        have sq := same_new (o := .lst (l.map V.str)) fq
        have hq : (upd G1 q1 (.lst (l.map V.str))) q1 = some (.lst (l.map V.str)) := upd_same
        have hT3 := sq _ _ hT2
        have hrs3 := fun r hr => sq _ _ (hrs2 r hr)
        have s11 := s10.trans sq
        generalize upd G1 q1 (.lst (l.map V.str)) = G2 at hq hT3 hrs3 s11
        refine ⟨q1, _, rfl, .inl ⟨SqL.of hq, fun u fu => ?_⟩⟩
        have su := same_new (o := .tup (l.map V.str)) fu
        have hu : (upd G2 u (.tup (l.map V.str))) u = some (.tup (l.map V.str)) := upd_same
        have hT4 := su _ _ hT3
        have hrs4 := fun r hr => su _ _ (hrs3 r hr)
        have s12 := s11.trans su
        generalize upd G2 u (.tup (l.map V.str)) = G3 at hu hT4 hrs4 s12
        refine ⟨T0, _, _, rfl, rfl, hT4, by rw [List.length_map]; exact line_lt (by omega), ?_⟩
        have s13 : Same H7 (upd G3 T0 (.lst ((rs.map fun r => V.ref r.1) ++ [.ref u]))) := same_put s12 fT
        have hT5 : (upd G3 T0 (.lst ((rs.map fun r => V.ref r.1) ++ [.ref u]))) T0 = some (.lst ((rs ++ [(u, l)]).map fun r => V.ref r.1)) := by rw [upd_same, List.map_append]; rfl
        have hrs5 : ∀ r ∈ rs ++ [(u, l)], (upd G3 T0 (.lst ((rs.map fun r => V.ref r.1) ++ [.ref u]))) r.1 = some (.tup (r.2.map V.str)) := fun r hr => by
          have h : G3 r.1 = some (.tup (r.2.map V.str)) := by
            rcases List.mem_append.mp hr with h | h
            · exact hrs4 r h
            · rw [List.mem_singleton.mp h]
              exact hu
          have nr : r.1 ≠ T0 := fun z => by
            rw [z, hT4] at h
            cases h
          rw [upd_ne nr]
          exact h
        generalize upd G3 T0 (.lst ((rs.map fun r => V.ref r.1) ++ [.ref u])) = G4 at s13 hT5 hrs5
        refine ⟨by show 0 ≤ sizeLine; decide, fun L1 fL1 => ?_⟩
        have s1' := same_new (o := .lst []) fL1
        refine ⟨m - 2 ^ k, by omega, m - 2 ^ k, L1, rs ++ [(u, l)], [], some (.int (k : Int)), v8, rfl, ?_, s13.trans s1', ⟨s1' _ _ hT5, fun r hr => s1' _ _ (hrs5 r hr)⟩, upd_same, s13.free fL1, fun z => ?_, ?_⟩
        · rw [← e6]
          rfl
        · rw [z, hT5] at fL1
          cases fL1
        · rw [List.map_append]
          rw [hW] at ef q
          exact dn.out hk hb ef q pl1 pwl
      · refine ⟨m - 2 ^ k, by omega, m - 2 ^ k, L0, rs, ys ++ [xs.getD k ""], some (.int (k : Int)), v8, rfl, ?_, s10, ⟨hT2, hrs2⟩, hL2, fL7, nLT, ?_⟩
        · rw [← e6]
          rfl
        · rw [hW] at ef q
          exact dn.go hk hb ef q
end
end K60.Q
set_option Elab.async false
set_option linter.all false
set_option maxRecDepth 100000
set_option maxHeartbeats 4000000
/-! SD: small data (short texts, ints below a million and a bit, lists and tuples of such): what repr and == ask of it. -/
namespace SD
open PySem PySem.Spec PyProof.Rows L2
/-- small: its weight at most n, its depth at most k -/
structure Sm (n k : Nat) (d : PyData) : Prop where
  sh : d.showable = true
  nd : d.hasDict = false
  dp : d.depth ≤ k
  ls : d.leavesShort 13 = true
  wt : d.weight ≤ n
  cl : d.canLay0 = true
structure SmA (n k : Nat) (ds : List PyData) : Prop where
  sh : PyData.showableAll ds = true
  nd : PyData.hasDictAll ds = false
  dp : PyData.depthAll ds ≤ k
  ls : PyData.leavesShortAll 13 ds = true
  wt : PyData.weightAll ds ≤ n
  cl : PyData.canLayAll0 ds = true
theorem Sm.mono {n n' k k' : Nat} {d : PyData} (h : Sm n k d) (hn : n ≤ n') (hk : k ≤ k') : Sm n' k' d := ⟨h.sh, h.nd, Nat.le_trans h.dp hk, h.ls, Nat.le_trans h.wt hn, h.cl⟩
theorem SmA.mono {n n' k k' : Nat} {ds : List PyData} (h : SmA n k ds) (hn : n ≤ n') (hk : k ≤ k') : SmA n' k' ds := ⟨h.sh, h.nd, Nat.le_trans h.dp hk, h.ls, Nat.le_trans h.wt hn, h.cl⟩
theorem Sm.int {i : Int} (h : i.natAbs < 2 ^ 20) : Sm 20 0 (.int i) := by
  have h1 : i.natAbs.log2 < 20 := by
    by_cases z : i.natAbs = 0
    · rw [z]; decide
    · exact (Nat.log2_lt z).mpr h
  refine ⟨by simp only [PyData.showable]; exact decide_eq_true (by omega), by simp only [PyData.hasDict], by simp only [PyData.depth]; omega, ?_, ?_, by simp only [PyData.canLay0]⟩
  · simp only [PyData.leavesShort]
    exact decide_eq_true (PyData.shown_int_le (Nat.lt_of_lt_of_le h (by decide)))
  · simp only [PyData.weight]
    split <;> omega
theorem Sm.str {x : Str} {n : Nat} (h : PyData.strOk x = true) (hn : x.length ≤ n) : Sm n 0 (.str x) := by
  have hn' : x.cps.size ≤ n := hn
  have hc : x.cps.toList.all (fun c => decide (c < 16 ^ 8)) = true := by
    unfold PyData.strOk at h
    rw [← Array.all_toList, List.all_eq_true] at h
    rw [List.all_eq_true]
    intro c hc
    have := of_decide_eq_true (h c hc)
    exact decide_eq_true (by omega)
  exact ⟨by simp only [PyData.showable], by simp only [PyData.hasDict], by simp only [PyData.depth]; omega, by simp only [PyData.leavesShort]; exact hc, by simp only [PyData.weight]; exact hn', by simp only [PyData.canLay0]; exact h⟩
theorem SmA.nil {k : Nat} : SmA 0 k [] := ⟨by simp only [PyData.showableAll], by simp only [PyData.hasDictAll], by simp only [PyData.depthAll]; omega, by simp only [PyData.leavesShortAll], by simp only [PyData.weightAll]; omega, by simp only [PyData.canLayAll0]⟩
theorem SmA.cons {n m k : Nat} {d : PyData} {ds : List PyData} (a : Sm n k d) (b : SmA m k ds) : SmA (n + 1 + m) k (d :: ds) := by
  refine ⟨by simp only [PyData.showableAll, a.sh, b.sh, Bool.and_self], by simp only [PyData.hasDictAll, a.nd, b.nd, Bool.or_self], ?_, by simp only [PyData.leavesShortAll, a.ls, b.ls, Bool.and_self], ?_, by simp only [PyData.canLayAll0, a.cl, b.cl, Bool.and_self]⟩
  · simp only [PyData.depthAll]
    have := a.dp
    have := b.dp
    omega
  · simp only [PyData.weightAll]
    have := a.wt
    have := b.wt
    omega
theorem SmA.map {α : Type} {n k : Nat} {g : α → PyData} : ∀ {xs : List α}, (∀ x ∈ xs, Sm n k (g x)) → SmA ((n + 1) * xs.length) k (xs.map g)
  | [], _ => SmA.nil.mono (Nat.zero_le _) (Nat.le_refl _)
  | x :: xs, h => by
    refine (SmA.cons (h x List.mem_cons_self) (SmA.map fun y hy => h y (List.mem_cons_of_mem _ hy))).mono ?_ (Nat.le_refl _)
    rw [List.length_cons, Nat.mul_add]
    omega
theorem Sm.lst {n k : Nat} {ds : List PyData} (a : SmA n k ds) : Sm n (k + 1) (.list ds) :=
  ⟨by simp only [PyData.showable]; exact a.sh, by simp only [PyData.hasDict]; exact a.nd, by simp only [PyData.depth]; have := a.dp; omega, by simp only [PyData.leavesShort]; exact a.ls, by simp only [PyData.weight]; exact a.wt, by simp only [PyData.canLay0]; exact a.cl⟩
theorem Sm.tup {n k : Nat} {ds : List PyData} (a : SmA n k ds) : Sm n (k + 1) (.tuple ds) :=
  ⟨by simp only [PyData.showable]; exact a.sh, by simp only [PyData.hasDict]; exact a.nd, by simp only [PyData.depth]; have := a.dp; omega, by simp only [PyData.leavesShort]; exact a.ls, by simp only [PyData.weight]; exact a.wt, by simp only [PyData.canLay0]; exact a.cl⟩
theorem Sm.shown {n k : Nat} {d : PyData} (a : Sm n k d) (h : 15 * n + 13 ≤ sizeLine) : d.shown.length ≤ sizeLine := by
  have := PyData.shown_le 13 (by decide) d a.ls
  have := a.wt
  omega
theorem Sm.shaped {n k : Nat} {d : PyData} (a : Sm n k d) (h : k ≤ 64) : SeqAt.shaped d = true := by
  simp only [SeqAt.shaped, a.cl, Bool.true_and]
  exact decide_eq_true (Nat.le_trans a.dp h)
theorem Sm.same {n k : Nat} {d : PyData} (a : Sm n k d) : PyData.eqv d d = true := PySem.SeqAt.eqv_refl d a.cl
theorem Sm.four {n k : Nat} {d : PyData} (a : Sm n k d) (hn : 15 * n + 13 ≤ sizeLine) (hk : k ≤ 60) : d.showable = true ∧ d.hasDict = false ∧ d.depth ≤ 60 ∧ d.shown.length ≤ sizeLine :=
  ⟨a.sh, a.nd, Nat.le_trans a.dp hk, a.shown hn⟩
end SD
set_option Elab.async false
set_option linter.all false
set_option maxRecDepth 100000
set_option maxHeartbeats 4000000
namespace K60.Q
open PySem PySem.Spec PyProof.Rows L2
open C8 (Cal Mak Met pe_c pe_mk pe_mt pe_mt0)
open KM (pr Sz)
open SX (S)
theorem TL.app {H : Hp} {l : Addr} {rows : List Ro} (h : TL H l rows) (r : Ro) (h1 : H r.a = some (.tup [.str r.p, .str r.t, .ref r.s])) (h2 : H r.s = some (tupP (pr r.v))) : TL (upd H l (.lst ((rows.map fun r => V.ref r.a) ++ [.ref r.a]))) l (rows ++ [r]) := by
  refine ⟨by rw [upd_same, List.map_append]; rfl, fun y hy => ?_⟩
  rcases List.mem_append.mp hy with z | z
  · obtain ⟨g1, g2⟩ := h.2 y z
    exact ⟨by rw [upd_ne fun z => by rw [z, h.1] at g1; cases g1]; exact g1, by rw [upd_ne fun z => by rw [z, h.1] at g2; cases g2]; exact g2⟩
  · cases List.mem_singleton.mp z
    exact ⟨by rw [upd_ne fun z => by rw [z, h.1] at h1; cases h1]; exact h1, by rw [upd_ne fun z => by rw [z, h.1] at h2; cases h2]; exact h2⟩
/-- hand-overs as data -/
def keyD (k : Str × Str × Rat) : PyData := .tuple [.str k.1, .str k.2.1, DQ.pD (pr k.2.2)]
theorem TL.dp {K : PySem.W.Frag} {H : Hp} {l : Addr} {rows : List Ro} (h : TL H l rows) : Dp K H (.ref l) (.list ((rows.map Ro.key).map keyD)) := by
  refine Dp.lst (SqL.of h.1) ?_
  have h2 := h.2
  clear h
  induction rows with
  | nil => exact .nil
  | cons r rows ih =>
    obtain ⟨g1, g2⟩ := h2 r List.mem_cons_self
    exact .cons (Dp.tup (SqT.of g1) (.cons (.str _) (.cons (.str _) (.cons (DQ.dp_pair g2) .nil)))) (ih fun y hy => h2 y (List.mem_cons_of_mem _ hy))
theorem strOk_nm {x : Str} (h : Nmd x) : PyData.strOk x = true := by
  obtain ⟨l, rfl, ok⟩ := h
  unfold PyData.strOk
  rw [← Array.all_toList, List.all_eq_true]
  intro c hc
  have := ok.2.2 c hc
  exact decide_eq_true (by omega)
theorem len_nm {x : Str} (h : Nmd x) : x.length ≤ 8 := by
  obtain ⟨l, rfl, ok⟩ := h
  rw [SX.S_len]
  exact ok.2.1
theorem keyD_sm {k : Str × Str × Rat} (h1 : Nmd k.1) (h2 : Nmd k.2.1) (hz : Sz 20 k.2.2) : SD.Sm 100 2 (keyD k) := by
  have i1 : SD.Sm 20 0 (.int (pr k.2.2).1) := SD.Sm.int hz.1
  have i2 : SD.Sm 20 0 (.int (pr k.2.2).2) := SD.Sm.int (by have := hz.2; show ((k.2.2.den : Int)).natAbs < 2 ^ 20; omega)
  have t : SD.Sm 60 1 (DQ.pD (pr k.2.2)) := (SD.Sm.tup (SD.SmA.cons i1 (SD.SmA.cons i2 SD.SmA.nil))).mono (by decide) (by decide)
  have s1 : SD.Sm 8 1 (.str k.1) := (SD.Sm.str (strOk_nm h1) (len_nm h1)).mono (by decide) (by decide)
  have s2 : SD.Sm 8 1 (.str k.2.1) := (SD.Sm.str (strOk_nm h2) (len_nm h2)).mono (by decide) (by decide)
  exact (SD.Sm.tup (SD.SmA.cons s1 (SD.SmA.cons s2 (SD.SmA.cons t SD.SmA.nil)))).mono (by decide) (by decide)
theorem keys_sm {ks : List (Str × Str × Rat)} (h : ∀ k ∈ ks, Nmd k.1 ∧ Nmd k.2.1 ∧ Sz 20 k.2.2) : SD.Sm (101 * ks.length) 3 (.list (ks.map keyD)) := SD.Sm.lst (SD.SmA.map fun k hk => keyD_sm (h k hk).1 (h k hk).2.1 (h k hk).2.2)
section
variable {P : Program} {w : World} {K : PySem.W.Frag} {mg : Str → Option Value} {base : Heap} {f C : Addr} {fd : FuncData}
def spHd (C : Addr) : Sp := fun vs H Q _ => ∃ (l : Addr) (rows : List Ro), vs = [.ref l] ∧ HL C H l rows ∧ rows.length ≤ 100 ∧ ∀ (o : Addr) (H' : Hp) (rs : List Ro), Same H H' → H o = none → TL H' o rs → rs.map Ro.key = rows.map Ro.key → Q (.ref o) H'
theorem ok_hd (F : Dn K d_l_handed f fd) (bl : Bl mg) (bstr : mg "str" = none) (btup : mg "tuple" = none) (cP : Cal P w K mg base 1 "_law_pair" (spPair C) []) : FnOk P w K mg base CX0 2 f fd ["_law_found"] (spHd C) := by
  refine F.ok sc_l_handed (fun vs H Q E h => ?_) (fun cdv A outer s H vs Q E hr h => ?_)
  · obtain ⟨l, rows, rfl, _⟩ := h
    rfl
  · obtain ⟨l, rows, rfl, hl, ll, hQ⟩ := h
    refine ⟨_, PSs.nox (pss_cons (ps_if (pt_not (pt_val (pe_callB call_isi rfl bl.isi boot_isinstance (pa_cons (pv 0) (pa_cons (pe_bltn (v := .ty "list") rfl bl.list boot_list rfl) pa_nil))))) pss_never pss_nil)
      (pss_cons (ps_set (i := 1) sc_l_handed.nd rfl (.inl rfl) (pe_lst pa_nil))
      (pss_cons (ps_for PassesOwn.never rfl (pi_list (pv 0)) (pg_name (i := 2) sc_l_handed.nd rfl (.inl rfl))
        (pss_cons (ps_if (PW.pt (pw_or (pt_not (pt_val (pe_callB call_isi rfl bl.isi boot_isinstance (pa_cons (pv 2) (pa_cons (pe_bltn (v := .ty "tuple") rfl btup boot_tuple rfl) pa_nil)))))
            (pw_or (pt_cmpR op_ne (pe_callB call_len_seq rfl bl.len boot_len (pa_cons (pv 2) pa_nil)) pe_int (nomark _)) (pw_or1 (pt_cmpR op_isN1 (pe_c cP hr (by decide) rfl (pa_cons (pe_ix ix_tup (pv 2) pe_int (fun _ _ => rfl)) pa_nil)) pe_non (nomark _)))))) pss_never pss_nil)
        (pss_cons (ps_if (PW.pt (pw_or (pt_not (pt_val (pe_callB call_isi rfl bl.isi boot_isinstance (pa_cons (pe_ix ix_tup (pv 2) pe_int (fun _ _ => rfl)) (pa_cons (pe_bltn (v := .ty "str") rfl bstr boot_str rfl) pa_nil)))))
            (pw_or1 (pt_not (pt_val (pe_callB call_isi rfl bl.isi boot_isinstance (pa_cons (pe_ix ix_tup (pv 2) pe_int (fun _ _ => rfl)) (pa_cons (pe_bltn (v := .ty "str") rfl bstr boot_str rfl) pa_nil)))))))) pss_never pss_nil)
        (pss_one (ps_expr (pe_bm PySem.F.plainAttrs_list PySem.F.slot_list_append PySem.F.type_list_append mt_append (pv 1) (pa_cons (pe_tup (pa_cons (pe_ix ix_tup (pv 2) pe_int (fun _ _ => rfl)) (pa_cons (pe_ix ix_tup (pv 2) pe_int (fun _ _ => rfl)) (pa_cons (pe_c cP hr (by decide) rfl (pa_cons (pe_ix ix_tup (pv 2) pe_int (fun _ _ => rfl)) pa_nil)) pa_nil)))) pa_nil)))))))
      (pss_one (ps_ret (pv 1)))))), ?_⟩
    refine ⟨_, rfl, _, _, _, _, true, rfl, ClsV.ty _, TyX.base (TyOf.lst hl.1), kit_ty (by decide +kernel), true, rfl, iteF ?_⟩
    refine ⟨by show 0 ≤ sizeLine; decide, fun o fo => ?_⟩
    have so := same_new (o := .lst []) fo
    have ho1 : (upd H o (.lst [])) o = some (.lst []) := upd_same
    generalize upd H o (.lst []) = H1 at so ho1
    have hl1 := hl.same so
    refine ⟨_, rfl, l, rfl, ⟨_, SqL.of hl1.1⟩, for_list (K := K) (xs := rows.map fun r => V.ref r.a) (fun i σ H' => ∃ (rs : List Ro) (v2 : Option V), σ = [some (.ref l), some (.ref o), v2] ∧ Same H H' ∧ TL H' o rs ∧ rs.map Ro.key = (rows.take i).map Ro.key)
      ⟨[], none, rfl, so, ⟨ho1, fun r hr => nomatch hr⟩, rfl⟩ (fun i σ H' _ z => by obtain ⟨_, _, _, s, _⟩ := z; exact SqL.of (s _ _ hl.1)) ?_ ?_⟩
    · rintro i v σ H2 hi ⟨rs, v2, rfl, s2, T2, ek⟩
      rw [List.getElem?_map] at hi
      obtain ⟨r, hr0, rfl⟩ := Option.map_eq_some_iff.mp hi
      have hrm := List.mem_of_getElem? hr0
      have hil : i < rows.length := (List.getElem?_eq_some_iff.mp hr0).1
      obtain ⟨h1, h2⟩ := hl.2 r hrm
      have h12 := s2 _ _ h1
      have at_0 : ∀ {H' : Hp}, Same H2 H' → SqT K H' r.a [.str r.p, .str r.t, .ref r.s] := fun sm => SqT.of (sm _ _ h12)
      refine ⟨_, rfl, _, _, _, _, true, rfl, ClsV.ty _, TyX.base (TyOf.tup h12), kit_ty (by decide +kernel), true, rfl, iteF ?_⟩
      refine ⟨_, rfl, r.a, _, rfl, .inr (SqT.of h12), rfl, _, rfl, iteF ?_⟩
      refine ⟨_, rfl, r.a, _, _, _, rfl, rfl, SqT.of h12, atI_nat (j := 2) rfl, r.s, _, rfl, h2.keep s2, fun p3 H3 s3 fp3 hp3 => ⟨rfl, _, rfl, iteF ?_⟩⟩
      refine ⟨_, rfl, r.a, _, _, _, rfl, rfl, at_0 s3, atI_nat (j := 0) rfl, _, _, _, _, true, rfl, ClsV.ty _, TyX.base (TyOf.str _), kit_ty (by decide +kernel), true, rfl, iteF ?_⟩
      refine ⟨_, rfl, r.a, _, _, _, rfl, rfl, at_0 s3, atI_nat (j := 1) rfl, _, _, _, _, true, rfl, ClsV.ty _, TyX.base (TyOf.str _), kit_ty (by decide +kernel), true, rfl, iteF ?_⟩
      refine ⟨_, rfl, .inl ⟨rfl, _, SqL.of (s3 _ _ T2.1)⟩, _, rfl, r.a, _, _, _, rfl, rfl, at_0 s3, atI_nat (j := 0) rfl, _, rfl, r.a, _, _, _, rfl, rfl, at_0 s3, atI_nat (j := 1) rfl, _, rfl, r.a, _, _, _, rfl, rfl, at_0 s3, atI_nat (j := 2) rfl, r.s, _, rfl, (h2.keep s2).keep s3, fun p4 H4 s4 fp4 hp4 => ?_⟩
      refine ⟨by show 3 ≤ sizeLine; decide, fun u fu => ?_⟩
      have su := same_new (o := .tup [.str r.p, .str r.t, .ref p4]) fu
      have T5 := ((T2.same s3).same s4).same su
      have hp5 := su _ _ hp4
      have hu5 : (upd H4 u (.tup [.str r.p, .str r.t, .ref p4])) u = some (.tup [.str r.p, .str r.t, .ref p4]) := upd_same
      have s5 := s2.trans (s3.trans (s4.trans su))
      generalize upd H4 u (.tup [.str r.p, .str r.t, .ref p4]) = H5 at T5 hp5 hu5 s5
      have lrs : rs.length ≤ 100 := by
        have := congrArg List.length ek
        rw [List.length_map, List.length_map, List.length_take] at this
        omega
      refine ⟨o, _, _, rfl, rfl, T5.1, by rw [List.length_map]; exact line_lt (by omega), rs ++ [⟨u, r.p, r.t, p4, r.v⟩], _, rfl, fun b o' e => by rw [upd_ne (ne_of_none e fo)]; exact s5 _ _ e, T5.app ⟨u, r.p, r.t, p4, r.v⟩ hu5 hp5, ?_⟩
      rw [take_one hr0, List.map_append, List.map_append, ek]
      rfl
    · rintro σ H2 ⟨rs, v2, rfl, s2, T2, ek⟩
      rw [List.length_map, List.take_length] at ek
      exact ⟨_, rfl, hQ o H2 rs s2 fo T2 ek⟩
end
end K60.Q
set_option Elab.async false
set_option linter.all false
set_option maxRecDepth 100000
set_option maxHeartbeats 4000000
namespace K60.Q
open PySem PySem.Spec PyProof.Rows L2
open KM (pr Sz)
/-- a hand-over: the payer, the taker, the share -/
abbrev Hk := Str × Str × Rat
/-- credits behind one hand-over -/
def mv1 (c : Str → Rat) (k : Hk) : Str → Rat := setc (setc c k.1 (c k.1 + k.2.2)) k.2.1 ((setc c k.1 (c k.1 + k.2.2)) k.2.1 + -k.2.2)
def runK (c : Str → Rat) (ks : List Hk) : Str → Rat := ks.foldl mv1 c
theorem runK_snoc (c : Str → Rat) (ks : List Hk) (k : Hk) : runK c (ks ++ [k]) = mv1 (runK c ks) k := by
  unfold runK
  rw [List.foldl_append]
  rfl
theorem runK_app (c : Str → Rat) (ks js : List Hk) : runK c (ks ++ js) = runK (runK c ks) js := by
  unfold runK
  rw [List.foldl_append]
def LedK : (Str → Rat) → List Hk → Prop
  | _, [] => True
  | c, k :: ks => (0 < k.2.2 ∧ k.2.2 ≤ -(c k.1) ∧ k.2.2 ≤ c k.2.1) ∧ LedK (mv1 c k) ks
theorem LedK.snoc : ∀ {ks : List Hk} {c : Str → Rat} {k : Hk}, LedK c ks → 0 < k.2.2 → k.2.2 ≤ -(runK c ks k.1) → k.2.2 ≤ runK c ks k.2.1 → LedK c (ks ++ [k])
  | [], c, k, _, a, b, d => ⟨⟨a, b, d⟩, True.intro⟩
  | j :: ks, c, k, h, a, b, d => ⟨h.1, LedK.snoc (ks := ks) h.2 a b d⟩
theorem LedK.app : ∀ {ks : List Hk} {c : Str → Rat} {js : List Hk}, LedK c ks → LedK (runK c ks) js → LedK c (ks ++ js)
  | [], c, js, _, g => g
  | k :: ks, c, js, h, g => ⟨h.1, LedK.app (ks := ks) h.2 g⟩
theorem mv1_ne {c : Str → Rat} {k : Hk} {z : Str} (h1 : z ≠ k.1) (h2 : z ≠ k.2.1) : mv1 c k z = c z := by
  unfold mv1 setc
  rw [if_neg h2, if_neg h1]
theorem mv1_p {c : Str → Rat} {k : Hk} (h : k.1 ≠ k.2.1) : mv1 c k k.1 = c k.1 + k.2.2 := by
  unfold mv1 setc
  rw [if_neg h, if_pos rfl]
theorem mv1_t {c : Str → Rat} {k : Hk} (h : k.1 ≠ k.2.1) : mv1 c k k.2.1 = c k.2.1 - k.2.2 := by
  unfold mv1 setc
  rw [if_pos rfl, if_neg fun z => h z.symm, Rat.sub_eq_add_neg]
/-- the same names, other credits elsewhere -/
theorem run_on {l : List Str} : ∀ (ks : List Hk) (c e : Str → Rat), (∀ k ∈ ks, k.1 ∈ l ∧ k.2.1 ∈ l) → (∀ z ∈ l, e z = c z) → LedK c ks → LedK e ks ∧ (∀ z ∈ l, runK e ks z = runK c ks z) ∧ ∀ z, z ∉ l → runK e ks z = e z
  | [], c, e, _, h, _ => ⟨True.intro, h, fun _ _ => rfl⟩
  | k :: ks, c, e, hm, h, hl => by
    obtain ⟨m1, m2⟩ := hm k List.mem_cons_self
    have same : ∀ z ∈ l, mv1 e k z = mv1 c k z := fun z hz => by
      unfold mv1 setc
      rw [h z hz, h k.1 m1, h k.2.1 m2]
    obtain ⟨a, b, d⟩ := run_on ks (mv1 c k) (mv1 e k) (fun j hj => hm j (List.mem_cons_of_mem _ hj)) same hl.2
    refine ⟨⟨⟨hl.1.1, by rw [h k.1 m1]; exact hl.1.2.1, by rw [h k.2.1 m2]; exact hl.1.2.2⟩, a⟩, b, fun z hz => ?_⟩
    have := d z hz
    show runK (mv1 e k) ks z = e z
    rw [this]
    exact mv1_ne (fun q => hz (q ▸ m1)) (fun q => hz (q ▸ m2))
/-- who is owed, who owes -/
def pos (L : List Str) (c : Str → Rat) : List Str := L.filter fun x => decide (0 < c x)
def neg (L : List Str) (c : Str → Rat) : List Str := L.filter fun x => decide (c x < 0)
def nzs (L : List Str) (c : Str → Rat) : List Str := L.filter fun x => decide (c x ≠ 0)
theorem nz_split (c : Str → Rat) : ∀ L : List Str, (nzs L c).length = (pos L c).length + (neg L c).length
  | [] => rfl
  | x :: L => by
    have ih := nz_split c L
    unfold nzs pos neg at ih ⊢
    by_cases h1 : 0 < c x
    · have h2 : ¬ c x < 0 := by grind
      have h3 : c x ≠ 0 := by grind
      rw [List.filter_cons_of_pos (p := fun x => decide (0 < c x)) (decide_eq_true h1), List.filter_cons_of_neg (p := fun x => decide (c x < 0)) (by simp [h2]), List.filter_cons_of_pos (p := fun x => decide (c x ≠ 0)) (decide_eq_true h3), List.length_cons, List.length_cons]
      omega
    · by_cases h2 : c x < 0
      · have h3 : c x ≠ 0 := by grind
        rw [List.filter_cons_of_neg (p := fun x => decide (0 < c x)) (by simp [h1]), List.filter_cons_of_pos (p := fun x => decide (c x < 0)) (decide_eq_true h2), List.filter_cons_of_pos (p := fun x => decide (c x ≠ 0)) (decide_eq_true h3), List.length_cons, List.length_cons]
        omega
      · have h3 : c x = 0 := by grind
        rw [List.filter_cons_of_neg (p := fun x => decide (0 < c x)) (by simp [h1]), List.filter_cons_of_neg (p := fun x => decide (c x < 0)) (by simp [h2]), List.filter_cons_of_neg (p := fun x => decide (c x ≠ 0)) (by simp [h3])]
        exact ih
theorem sum_nonneg {c : Str → Rat} : ∀ {L : List Str}, (∀ x ∈ L, 0 ≤ c x) → 0 ≤ sumR (L.map c) ∧ (sumR (L.map c) = 0 → ∀ x ∈ L, c x = 0)
  | [], _ => ⟨by show (0 : Rat) ≤ 0; grind, fun _ x h => nomatch h⟩
  | x :: L, h => by
    obtain ⟨a, b⟩ := sum_nonneg (L := L) fun y hy => h y (List.mem_cons_of_mem _ hy)
    have hx := h x List.mem_cons_self
    rw [List.map_cons, sumR_cons]
    refine ⟨by grind, fun z y hy => ?_⟩
    have e1 : c x = 0 := by grind
    have e2 : sumR (L.map c) = 0 := by grind
    rcases List.mem_cons.mp hy with rfl | hy
    · exact e1
    · exact b e2 y hy
theorem sumR_neg (c : Str → Rat) : ∀ L : List Str, sumR (L.map fun x => -(c x)) = -(sumR (L.map c))
  | [] => by show (0 : Rat) = -0; grind
  | x :: L => by
    rw [List.map_cons, List.map_cons, sumR_cons, sumR_cons, sumR_neg c L]
    grind
/-- nobody is owed: all is nought -/
theorem all_zero {L : List Str} {c : Str → Rat} (s : sumR (L.map c) = 0) (h : pos L c = []) : ∀ x ∈ L, c x = 0 := by
  have le : ∀ x ∈ L, 0 ≤ -(c x) := fun x hx => by
    have := List.filter_eq_nil_iff.mp h x hx
    simp only [decide_eq_true_eq] at this
    grind
  obtain ⟨_, b⟩ := sum_nonneg (c := fun x => -(c x)) le
  intro x hx
  have := b (by rw [sumR_neg, s]; grind) x hx
  grind
theorem neg_some {L : List Str} {c : Str → Rat} (s : sumR (L.map c) = 0) (h : pos L c ≠ []) : neg L c ≠ [] := fun z => by
  have le : ∀ x ∈ L, 0 ≤ c x := fun x hx => by
    have := List.filter_eq_nil_iff.mp z x hx
    simp only [decide_eq_true_eq] at this
    grind
  obtain ⟨_, b⟩ := sum_nonneg le
  refine h (List.filter_eq_nil_iff.mpr fun x hx => ?_)
  rw [b s x hx]
  decide
/-- how a lot's settling stands: o what was, c what is, k hand-overs so far -/
structure Go (L : List Str) (o c : Str → Rat) (k : Nat) : Prop where
  sum : sumR (L.map c) = 0
  mid : ∃ q, (∀ z ∈ L, z ≠ q → c z = 0 ∨ c z = o z) ∧ (c q = 0 ∨ c q = o q ∨ (pos L c).head? = some q ∨ (neg L c).head? = some q)
  cnt : (nzs L c = [] → k + 1 = L.length) ∧ (nzs L c ≠ [] → k + (nzs L c).length = L.length)
theorem Go.start {L : List Str} {o : Str → Rat} (s : sumR (L.map o) = 0) (h : ∀ x ∈ L, o x ≠ 0) (ne : L ≠ []) : Go L o o 0 := by
  have e : nzs L o = L := List.filter_eq_self.mpr fun x hx => decide_eq_true (h x hx)
  refine ⟨s, ⟨"", fun z _ _ => .inr rfl, .inr (.inl rfl)⟩, fun z => absurd (e.symm.trans z) ne, fun _ => by rw [e]; omega⟩
theorem head_mem {L : List Str} {p : Str → Bool} {q : Str} (h : (L.filter p).head? = some q) : q ∈ L ∧ p q = true := by
  have := List.mem_of_head? h
  exact List.mem_filter.mp this
theorem filt_head {p p' : Str → Bool} {t : Str} : ∀ {L P : List Str}, L.Nodup → L.filter p = t :: P → p' t = true → (∀ z ∈ L, z ≠ t → p' z = p z) → L.filter p' = t :: P := fun {L P} nd h ht hz => by
  have : L.filter p' = L.filter p := by
    refine List.filter_congr fun z hzL => ?_
    by_cases e : z = t
    · subst e
      rw [ht]
      have : z ∈ L.filter p := by rw [h]; exact List.mem_cons_self
      exact (List.mem_filter.mp this).2.symm
    · exact hz z hzL e
  rw [this, h]
theorem filt_drop {p p' : Str → Bool} {t : Str} : ∀ {L P : List Str}, L.Nodup → L.filter p = t :: P → p' t = false → (∀ z ∈ L, z ≠ t → p' z = p z) → L.filter p' = P := fun {L P} nd h ht hz => by
  have e1 : L.filter p' = (L.filter p).filter fun z => decide (z ≠ t) := by
    rw [List.filter_filter]
    refine List.filter_congr fun z hzL => ?_
    by_cases e : z = t
    · subst e
      rw [ht]
      simp
    · rw [hz z hzL e]
      simp [e]
  have ndp : (t :: P).Nodup := by rw [← h]; exact nd.sublist List.filter_sublist
  rw [e1, h, List.filter_cons_of_neg (by simp), List.filter_eq_self]
  intro z hzP
  refine decide_eq_true fun e => ?_
  subst e
  exact (List.nodup_cons.mp ndp).1 hzP
/-- the sum stays -/
theorem sum_mv {L : List Str} {c : Str → Rat} {k : Hk} (nd : L.Nodup) (m1 : k.1 ∈ L) (m2 : k.2.1 ∈ L) (ne : k.1 ≠ k.2.1) : sumR (L.map (mv1 c k)) = sumR (L.map c) := by
  have one : ∀ (M : List Str) (e : Str → Rat) (x : Str) (v : Rat), M.Nodup → sumR (M.map (setc e x v)) = sumR (M.map e) + if x ∈ M then v - e x else 0 := fun M e x v => by
    induction M with
    | nil => intro _; show (0 : Rat) = 0 + 0; grind
    | cons y M ih =>
      intro hM
      obtain ⟨h1, h2⟩ := List.nodup_cons.mp hM
      rw [List.map_cons, List.map_cons, sumR_cons, sumR_cons, ih h2]
      by_cases e1 : y = x
      · subst e1
        have : setc e y v y = v := if_pos rfl
        rw [this, if_neg h1, if_pos List.mem_cons_self]
        grind
      · have : setc e x v y = e y := if_neg e1
        rw [this]
        by_cases e2 : x ∈ M
        · rw [if_pos e2, if_pos (List.mem_cons_of_mem _ e2)]
          grind
        · rw [if_neg e2, if_neg (fun z => (List.mem_cons.mp z).elim (fun q => e1 q.symm) e2)]
          grind
  unfold mv1
  rw [one _ _ _ _ nd, one _ _ _ _ nd, if_pos m1, if_pos m2]
  grind
/-- one hand-over more -/
theorem Go.step {L : List Str} {o c : Str → Rat} {k : Nat} (h : Go L o c k) (nd : L.Nodup) (least : ∀ g : Str → Bool, sumR ((L.filter g).map o) = 0 → L.filter g = [] ∨ L.filter g = L) {t p : Str} {P N : List Str} (hP : pos L c = t :: P) (hN : neg L c = p :: N) :
    Go L o (mv1 c (p, t, mn (c t) (-(c p)))) (k + 1) ∧ 0 < mn (c t) (-(c p)) := by
  have mt : t ∈ L ∧ decide (0 < c t) = true := head_mem (p := fun x => decide (0 < c x)) (by show (pos L c).head? = _; rw [hP]; rfl)
  have mp : p ∈ L ∧ decide (c p < 0) = true := head_mem (p := fun x => decide (c x < 0)) (by show (neg L c).head? = _; rw [hN]; rfl)
  have ct := of_decide_eq_true mt.2
  have cp := of_decide_eq_true mp.2
  have ne : p ≠ t := fun z => by rw [z] at cp; grind
  obtain ⟨v, hv⟩ : ∃ v, v = mn (c t) (-(c p)) := ⟨_, rfl⟩
  rw [← hv]
  have v0 : 0 < v := by
    rw [hv]
    unfold mn
    split <;> grind
  have ep : mv1 c (p, t, v) p = c p + v := mv1_p (k := (p, t, v)) ne
  have et : mv1 c (p, t, v) t = c t - v := mv1_t (k := (p, t, v)) ne
  have eo : ∀ z, z ≠ p → z ≠ t → mv1 c (p, t, v) z = c z := fun z h1 h2 => mv1_ne (k := (p, t, v)) h1 h2
  have hs : sumR (L.map (mv1 c (p, t, v))) = 0 := by rw [sum_mv (k := (p, t, v)) nd mp.1 mt.1 ne]; exact h.sum
  generalize mv1 c (p, t, v) = e at ep et eo hs
  refine ⟨?_, v0⟩
  obtain ⟨q, m1, m2⟩ := h.mid
  -- all but the two are nought or as they were
  have rest : ∀ z ∈ L, z ≠ p → z ≠ t → e z = 0 ∨ e z = o z := fun z hz n1 n2 => by
    rw [eo z n1 n2]
    by_cases zq : z = q
    · subst zq
      rcases m2 with m2 | m2 | m2 | m2
      · exact .inl m2
      · exact .inr m2
      · rw [hP] at m2
        exact absurd (Option.some.inj m2).symm n2
      · rw [hN] at m2
        exact absurd (Option.some.inj m2).symm n1
    · exact m1 z hz zq
  have nzc : nzs L c ≠ [] := fun z => by
    have : t ∈ nzs L c := List.mem_filter.mpr ⟨mt.1, decide_eq_true (by grind)⟩
    rw [z] at this
    cases this
  have cn := h.cnt.2 nzc
  rw [nz_split c L, hP, hN] at cn
  simp only [List.length_cons] at cn
  have ecz : ∀ z, z ≠ p → z ≠ t → decide (0 < e z) = decide (0 < c z) ∧ decide (e z < 0) = decide (c z < 0) := fun z a b => by rw [eo z a b]; exact ⟨rfl, rfl⟩
  have cpt : decide (0 < c p) = false := decide_eq_false (by grind)
  have ctn : decide (c t < 0) = false := decide_eq_false (by grind)
  have ept : e p ≤ 0 := by rw [ep, hv]; unfold mn; split <;> grind
  have ett : 0 ≤ e t := by rw [et, hv]; unfold mn; split <;> grind
  have eP1 : decide (0 < e p) = false := decide_eq_false (by grind)
  have eT1 : decide (e t < 0) = false := decide_eq_false (by grind)
  by_cases zt : e t = 0
  · -- the taker has all
    have hP' : pos L e = P := filt_drop (p := fun x => decide (0 < c x)) (p' := fun x => decide (0 < e x)) nd hP (decide_eq_false (by rw [zt]; grind)) fun z hz zt' => by
      by_cases zp : z = p
      · subst zp
        show decide (0 < e z) = decide (0 < c z)
        rw [eP1, cpt]
      · exact (ecz z zp zt').1
    by_cases zp : e p = 0
    · have hN' : neg L e = N := filt_drop (p := fun x => decide (c x < 0)) (p' := fun x => decide (e x < 0)) nd hN (decide_eq_false (by rw [zp]; grind)) fun z hz zp' => by
        by_cases zt' : z = t
        · subst zt'
          show decide (e z < 0) = decide (c z < 0)
          rw [eT1, ctn]
        · exact (ecz z zp' zt').2
      have all : ∀ z ∈ L, e z ≠ 0 → e z = o z := fun z hz nz => by
        have n1 : z ≠ p := fun q => nz (q ▸ zp)
        have n2 : z ≠ t := fun q => nz (q ▸ zt)
        exact (rest z hz n1 n2).resolve_left nz
      have so : sumR ((nzs L e).map o) = 0 := by
        have e1 : (nzs L e).map o = (nzs L e).map e := List.map_congr_left fun z hz => by
          obtain ⟨a, b⟩ := List.mem_filter.mp hz
          exact (all z a (of_decide_eq_true b)).symm
        rw [e1]
        have := sum_nz e L
        unfold nzs
        rw [this, hs]
      have emp : nzs L e = [] := by
        rcases least (fun x => decide (e x ≠ 0)) so with q | q
        · exact q
        · have : t ∈ L.filter fun x => decide (e x ≠ 0) := by rw [q]; exact mt.1
          exact absurd zt (of_decide_eq_true (List.mem_filter.mp this).2)
      have l0 : P.length + N.length = 0 := by
        have := nz_split e L
        rw [emp, hP', hN'] at this
        simp at this
        omega
      refine ⟨hs, ⟨p, fun z hz n => ?_, .inl zp⟩, fun _ => by omega, fun n => absurd emp n⟩
      by_cases n2 : z = t
      · exact .inl (n2 ▸ zt)
      · exact rest z hz n n2
    · have hN' : neg L e = p :: N := filt_head (p := fun x => decide (c x < 0)) (p' := fun x => decide (e x < 0)) nd hN (decide_eq_true (by grind)) fun z hz zp' => by
        by_cases zt' : z = t
        · subst zt'
          show decide (e z < 0) = decide (c z < 0)
          rw [eT1, ctn]
        · exact (ecz z zp' zt').2
      have ln := nz_split e L
      rw [hP', hN'] at ln
      simp only [List.length_cons] at ln
      refine ⟨hs, ⟨p, fun z hz n => ?_, .inr (.inr (.inr (by rw [hN']; rfl)))⟩, fun n => by rw [n, List.length_nil] at ln; omega, fun _ => by omega⟩
      by_cases n2 : z = t
      · exact .inl (n2 ▸ zt)
      · exact rest z hz n n2
  · -- the payer has paid all
    have zp : e p = 0 := by
      rw [et, hv] at zt
      rw [ep, hv]
      unfold mn at zt ⊢
      split <;> rename_i hh
      · rw [if_pos hh] at zt
        grind
      · grind
    have hP' : pos L e = t :: P := filt_head (p := fun x => decide (0 < c x)) (p' := fun x => decide (0 < e x)) nd hP (decide_eq_true (by grind)) fun z hz zt' => by
      by_cases zp' : z = p
      · subst zp'
        show decide (0 < e z) = decide (0 < c z)
        rw [eP1, cpt]
      · exact (ecz z zp' zt').1
    have hN' : neg L e = N := filt_drop (p := fun x => decide (c x < 0)) (p' := fun x => decide (e x < 0)) nd hN (decide_eq_false (by rw [zp]; grind)) fun z hz zp' => by
      by_cases zt' : z = t
      · subst zt'
        show decide (e z < 0) = decide (c z < 0)
        rw [eT1, ctn]
      · exact (ecz z zp' zt').2
    have ln := nz_split e L
    rw [hP', hN'] at ln
    simp only [List.length_cons] at ln
    refine ⟨hs, ⟨t, fun z hz n => ?_, .inr (.inr (.inl (by rw [hP']; rfl)))⟩, fun n => by rw [n, List.length_nil] at ln; omega, fun _ => by omega⟩
    by_cases n2 : z = p
    · exact .inl (n2 ▸ zp)
    · exact rest z hz n2 n
/-- credits stay small -/
theorem Go.sz {L : List Str} {o c : Str → Rat} {k : Nat} (h : Go L o c k) (nd : L.Nodup) (ll : L.length ≤ 10) (so : ∀ x ∈ L, Sz 20 (o x)) : ∀ x ∈ L, Sz 300 (c x) := by
  obtain ⟨q, m1, m2⟩ := h.mid
  clear m2
  have small : ∀ x ∈ L, x ≠ q → Sz 20 (c x) := fun x hx n => by
    rcases m1 x hx n with e | e
    · rw [e]
      exact sz0 (by decide)
    · rw [e]
      exact so x hx
  intro x hx
  by_cases e : x = q
  · subst e
    have sp := sum_part c (fun y => decide (y ≠ x)) L
    rw [h.sum] at sp
    have e2 : (L.filter fun y => !decide (y ≠ x)) = [x] := by
      clear sp m1 small so ll h
      induction L with
      | nil => cases hx
      | cons y L ih =>
        obtain ⟨h1, h2⟩ := List.nodup_cons.mp nd
        by_cases z : y = x
        · subst z
          rw [List.filter_cons_of_pos (by simp)]
          congr 1
          refine List.filter_eq_nil_iff.mpr fun a ha => ?_
          have : a ≠ y := fun q => h1 (q ▸ ha)
          simp [this]
        · rw [List.filter_cons_of_neg (by simp [z])]
          exact ih h2 ((List.mem_cons.mp hx).resolve_left fun q => z q.symm)
    rw [e2] at sp
    have s1 : sumR (([x] : List Str).map c) = c x := by show 0 + c x = c x; grind
    rw [s1] at sp
    have b := sz_sum (k := 20) (rs := (L.filter fun y => decide (y ≠ x)).map c) fun r hr => by
      obtain ⟨y, hy, rfl⟩ := List.mem_map.mp hr
      obtain ⟨h1, h2⟩ := List.mem_filter.mp hy
      exact small y h1 (of_decide_eq_true h2)
    have ln : (L.filter fun y => decide (y ≠ x)).length ≤ 10 := Nat.le_trans (List.length_filter_le _ _) ll
    have e3 : c x = -(sumR ((L.filter fun y => decide (y ≠ x)).map c)) := by grind
    rw [e3]
    refine sz_neg (b.mono ?_)
    rw [List.length_map]
    omega
  · exact (small x hx e).mono (by decide)
end K60.Q
set_option Elab.async false
set_option linter.all false
set_option maxRecDepth 100000
set_option maxHeartbeats 4000000
namespace K60.Q
open PySem PySem.Spec PyProof.Rows L2
open C8 (Cal Mak Met pe_c pe_mk pe_mt pe_mt0)
open KM (pr Sz)
theorem cut_last {α : Type} (g : α → V) (L : List α) (x : α) : cutV ((L ++ [x]).map g) (some (-1)) none = [g x] := by
  have e : HT.sIx ((L ++ [x]).map g).length 0 (some (-1)) = L.length := by
    have e0 : HT.sIx ((L ++ [x]).map g).length 0 (some (-1)) = ((-1 : Int) + (((L ++ [x]).map g).length : Int)).toNat := by
      unfold HT.sIx
      dsimp only
      rw [if_pos (by decide)]
    rw [e0, List.length_map, List.length_append, List.length_singleton]
    omega
  unfold cutV
  rw [e, HT.sIx_none, List.map_append, List.drop_left' (by rw [List.length_map])]
  simp
theorem mv_one {L : List Str} {c : Str → Rat} {p t : Str} {v : Rat} (hp : p ∈ L) (ht : t ∈ L) : mvL (L, c) [(p, v), (t, -v)] = (L, mv1 c (p, t, v)) := by
  have a1 : addK L p = L := if_pos hp
  have a2 : addK L t = L := if_pos ht
  have g : ∀ (e : Str → Rat) (x : Str), x ∈ L → get0 L e x = e x := fun e x hx => if_pos hx
  show mv (mv (L, c) (p, v)) (t, -v) = _
  have e1 : mv (L, c) (p, v) = (L, setc c p (c p + v)) := by
    unfold mv
    dsimp only
    rw [a1, g c p hp]
  rw [e1]
  unfold mv
  dsimp only
  rw [a2, g _ t ht]
  rfl
/-- a lot settled -/
structure DoneL (L : List Str) (o : Str → Rat) (ks : List Hk) : Prop where
  led : LedK o ks
  zero : ∀ z ∈ L, runK o ks z = 0
  mem : ∀ k ∈ ks, k.1 ∈ L ∧ k.2.1 ∈ L
  szv : ∀ k ∈ ks, Sz 300 k.2.2
  szr : ∀ j, ∀ z ∈ L, Sz 300 (runK o (ks.take j) z)
  cnt : ks.length + 1 = L.length
section
variable {P : Program} {w : World} {K : PySem.W.Frag} {mg : Str → Option Value} {base : Heap} {f C : Addr} {fd : FuncData}
def spSl (C : Addr) : Sp := fun vs H Q _ => ∃ (d : Addr) (L : List Str) (o : Str → Rat), vs = [.ref d] ∧ SDc C H d L o ∧ L.Nodup ∧ L ≠ [] ∧ L.length ≤ 10 ∧ (∀ x ∈ L, Sz 20 (o x) ∧ o x ≠ 0) ∧ sumR (L.map o) = 0 ∧ (∀ g : Str → Bool, sumR ((L.filter g).map o) = 0 → L.filter g = [] ∨ L.filter g = L) ∧
  ∀ h H' rows, Same H H' → H h = none → HL C H' h rows → DoneL L o (rows.map Ro.key) → Q (.ref h) H'
theorem ok_sl (F : Dn K d_settled_lot f fd) (bl : Bl mg) (M1 : MakS1 P w K mg base C) (mL : Met P w K mg base 4 C "less" (sp2 C (· - ·)) []) (cAN : Cal P w K mg base 4 "above_nought" (spAN C) []) (cTu : Cal P w K mg base 5 "turned" (spTu C) []) (cLe : Cal P w K mg base 5 "lesser" (spLe C) []) (cAf : Cal P w K mg base 6 "after" (spAf C) []) :
    FnOk P w K mg base CX0 7 f fd ["standing"] (spSl C) := by
  refine F.ok sc_settled_lot (fun vs H Q E h => ?_) (fun cdv A outer s H vs Q E hr h => ?_)
  · obtain ⟨d, L, o, rfl, _⟩ := h
    rfl
  · obtain ⟨d, L, o, rfl, Sd, nd, Lne, ll, so, s0, least, hQ⟩ := h
    have hu := hu_of hr
    refine ⟨_, PSs.nox (pss_cons (ps_set (i := 1) sc_settled_lot.nd rfl (.inl rfl) (pe_lst pa_nil))
      (pss_cons (ps_set (i := 2) sc_settled_lot.nd rfl (.inl rfl) (pe_c cAN hr (by decide) rfl (pa_cons (pv 0) pa_nil)))
      (pss_cons (ps_while PassesOwn.never (pt_cmpR op_gt (pe_callB call_len_seq rfl bl.len boot_len (pa_cons (pv 2) pa_nil)) pe_int (nomark _))
        (pss_cons (ps_set (i := 3) sc_settled_lot.nd rfl (.inl rfl) (pe_ix ix_list (pe_c cAN hr (by decide) rfl (pa_cons (pe_c cTu hr (by decide) rfl (pa_cons (pv 0) pa_nil)) pa_nil)) pe_int (fun _ _ => rfl)))
        (pss_cons (ps_set (i := 4) sc_settled_lot.nd rfl (.inl rfl) (pe_c cLe hr (by decide) rfl (pa_cons (pe_dget hu (pv 0) (pe_ix ix_list (pv 2) pe_int (fun _ _ => rfl)) (fun _ _ => rfl)) (pa_cons (pe_mt mL hr (by decide) (pe_mk M1 hr (by decide) rfl (pa_cons pe_int pa_nil)) (pa_cons (pe_dget hu (pv 0) (pv 3) (fun _ _ => rfl)) pa_nil)) pa_nil))))
        (pss_cons (ps_expr (pe_bm PySem.F.plainAttrs_list PySem.F.slot_list_append PySem.F.type_list_append mt_append (pv 1) (pa_cons (pe_tup (pa_cons (pv 3) (pa_cons (pe_ix ix_list (pv 2) pe_int (fun _ _ => rfl)) (pa_cons (pv 4) pa_nil)))) pa_nil)))
        (pss_cons (ps_set (i := 0) sc_settled_lot.nd rfl (.inl rfl) (pe_c cAf hr (by decide) rfl (pa_cons (pv 0) (pa_cons (pe_slice sl_list (pv 1) (po_some (pe_un un_neg pe_int)) po_none) pa_nil))))
        (pss_one (ps_set (i := 2) sc_settled_lot.nd rfl (.inl rfl) (pe_c cAN hr (by decide) rfl (pa_cons (pv 0) pa_nil)))))))))
      (pss_one (ps_ret (pv 1)))))), ?_⟩
    refine ⟨by show 0 ≤ sizeLine; decide, fun h0 fh => ?_⟩
    have sh := same_new (o := .lst []) fh
    have hh : HL C (upd H h0 (.lst [])) h0 [] := ⟨upd_same, fun r hr => nomatch hr⟩
    have Sd1 := Sd.same sh
    generalize upd H h0 (.lst []) = H1 at sh hh Sd1
    have s3900 : ∀ {c : Str → Rat}, (∀ x ∈ L, Sz 300 (c x)) → ∀ x ∈ L, Sz 3900 (c x) := fun h x hx => (h x hx).mono (by decide)
    refine ⟨_, rfl, d, L, o, rfl, Sd1, by omega, fun x hx => ((so x hx).1).mono (by decide), fun ow H2 s2 fo ho => ?_⟩
    refine ⟨fun m σ G => ∃ (d' ow : Addr) (v3 v4 : Option V) (rows : List Ro) (c : Str → Rat), c = runK o (rows.map Ro.key) ∧ m = (nzs L c).length ∧ σ = [some (.ref d'), some (.ref h0), some (.ref ow), v3, v4] ∧ Same H G ∧ SDc C G d' L c ∧ HL C G h0 rows ∧ G ow = some (.lst ((pos L c).map V.str)) ∧ Go L o c rows.length ∧ LedK o (rows.map Ro.key) ∧ (∀ k ∈ rows.map Ro.key, k.1 ∈ L ∧ k.2.1 ∈ L) ∧ (∀ k ∈ rows.map Ro.key, Sz 300 k.2.2) ∧ ∀ j, ∀ z ∈ L, Sz 300 (runK o ((rows.map Ro.key).take j) z),
      ⟨_, d, ow, none, none, [], o, rfl, rfl, rfl, sh.trans s2, Sd1.same s2, hh.same s2, ho, Go.start s0 (fun x hx => (so x hx).2) Lne, True.intro, fun k h => (nomatch h), fun k h => (nomatch h), fun j z hz => by rw [List.map_nil, List.take_nil]; exact (so z hz).1.mono (by decide)⟩, ?_⟩
    rintro m σ G ⟨d', ow, v3, v4, rows, c, ec, rfl, rfl, sG, SdG, hhG, hoG, go, led, mem, szv, szr⟩
    have szc : ∀ x ∈ L, Sz 300 (c x) := go.sz nd ll fun x hx => (so x hx).1
    refine ⟨_, rfl, ow, _, rfl, .inl (SqL.of hoG), _, _, rfl, rfl, _, rfl, ?_⟩
    by_cases hp : pos L c = []
    · refine iteFE (decide_eq_false (by rw [hp]; decide)) ?_
      have z := all_zero go.sum hp
      have nz : nzs L c = [] := List.filter_eq_nil_iff.mpr fun x hx => by rw [z x hx]; simp
      refine ⟨_, rfl, hQ h0 G rows sG fh hhG ⟨led, fun x hx => by rw [← ec]; exact z x hx, mem, szv, szr, ?_⟩⟩
      rw [List.length_map]
      exact go.cnt.1 nz
    have hn := neg_some go.sum hp
    obtain ⟨t, P', hP⟩ : ∃ t P', pos L c = t :: P' := by
      cases e : pos L c with
      | nil => exact absurd e hp
      | cons a b => exact ⟨a, b, rfl⟩
    obtain ⟨p, N', hN⟩ : ∃ p N', neg L c = p :: N' := by
      cases e : neg L c with
      | nil => exact absurd e hn
      | cons a b => exact ⟨a, b, rfl⟩
    have htL : t ∈ L := (List.mem_filter.mp (show t ∈ L.filter _ by show t ∈ pos L c; rw [hP]; exact List.mem_cons_self)).1
    have hpL : p ∈ L := (List.mem_filter.mp (show p ∈ L.filter _ by show p ∈ neg L c; rw [hN]; exact List.mem_cons_self)).1
    refine iteTE (decide_eq_true (by rw [hP, List.map_cons, List.length_cons]; omega)) ?_
    refine ⟨_, fun σ' H' z => z, ?_⟩
    -- who pays
    refine ⟨_, rfl, d', L, c, rfl, SdG, nd, by omega, s3900 szc, fun d2 G1 g1 f1 S1 => ⟨d2, L, fun x => -(c x), rfl, S1, by omega, fun x hx => sz_neg (s3900 szc x hx), fun o2 G2 g2 f2 ho2 => ?_⟩⟩
    have en : (L.filter fun x => decide (0 < -(c x))) = neg L c := by
      unfold neg
      refine List.filter_congr fun x _ => ?_
      exact decide_eq_decide.mpr ⟨fun h => by grind, fun h => by grind⟩
    rw [en, hN] at ho2
    refine ⟨o2, _, 0, .str p, rfl, rfl, SqL.of ho2, atI_nat (j := 0) rfl, ?_⟩
    have g02 := g1.trans g2
    have SdG2 := SdG.same g02
    obtain ⟨ad, hd2, hv2⟩ := id SdG2
    have hoG2 := g02 _ _ hoG
    rw [hP] at hoG2
    -- the share
    refine ⟨_, rfl, _, rfl, ow, _, 0, .str t, rfl, rfl, SqL.of hoG2, atI_nat (j := 0) rfl, d', _, rfl, dct_dg hd2 htL, ?_⟩
    intro tt dt nt ndt ne
    refine mk_in (n := 1) nt ndt (by decide) (by decide) (by decide) (by decide) fun G3 g3 ht => ⟨rfl, ?_⟩
    rw [div01] at ht
    obtain ⟨d4, ht4⟩ := ht
    refine ⟨tt, d4, _, rfl, ht4, no_less _, _, rfl, _, rfl, d', _, rfl, dct_dg (g3 _ _ hd2) hpL, tt, ad p, 0, c p, 300, rfl, ⟨d4, ht4⟩, (hv2 p hpL).keep g3, sz0 (by decide), szc p hpL, by decide, by decide, fun lf G4 g4 flf hlf => ?_⟩
    have hlf : Sh C G4 lf (pr (-(c p))) := by
      rw [← zero_sub' (c p)]
      exact hlf
    have g24 := g3.trans g4
    refine ⟨ad t, lf, c t, -(c p), 300, rfl, (hv2 t htL).keep g24, hlf, szc t htL, sz_neg (szc p hpL), by decide, by decide, fun sh0 G5 g5 fs5 hs5 => ?_⟩
    obtain ⟨v, hv⟩ : ∃ v, v = mn (c t) (-(c p)) := ⟨_, rfl⟩
    rw [← hv] at hs5
    have szvv : Sz 300 v := by
      rw [hv]
      unfold mn
      split
      · exact szc t htL
      · exact sz_neg (szc p hpL)
    have g05 := g02.trans (g24.trans g5)
    have g25 := g24.trans g5
    have hh5 := hhG.same g05
    have hoG5 := g25 _ _ hoG2
    have go2 := go.step nd least hP hN
    rw [← hv] at go2
    obtain ⟨go2, v0⟩ := go2
    have lrows : rows.length ≤ 10 := by
      have nzc : nzs L c ≠ [] := fun z => by
        have : t ∈ nzs L c := List.mem_filter.mpr ⟨htL, decide_eq_true (by
          have : t ∈ pos L c := by rw [hP]; exact List.mem_cons_self
          have := of_decide_eq_true (List.mem_filter.mp this).2
          grind)⟩
        rw [z] at this
        cases this
      have := go.cnt.2 nzc
      omega
    refine ⟨_, rfl, .inl ⟨rfl, _, SqL.of hh5.1⟩, _, rfl, _, rfl, ow, _, 0, .str t, rfl, rfl, SqL.of hoG5, atI_nat (j := 0) rfl, _, rfl, by show 3 ≤ sizeLine; decide, fun u fu => ?_⟩
    have su := same_new (o := .tup [.str p, .str t, .ref sh0]) fu
    have hu6 : (upd G5 u (.tup [.str p, .str t, .ref sh0])) u = some (.tup [.str p, .str t, .ref sh0]) := upd_same
    have hs6 := hs5.keep su
    have hh6 := hh5.same su
    have g06 := g05.trans su
    generalize upd G5 u (.tup [.str p, .str t, .ref sh0]) = G6 at hu6 hs6 hh6 g06
    refine ⟨h0, _, _, rfl, rfl, hh6.1, by rw [List.length_map]; exact line_lt (by omega), ?_⟩
    have hh7 := hh6.app ⟨u, p, t, sh0, v⟩ hu6 hs6
    have g7 : Same H (upd G6 h0 (.lst ((rows.map fun r => V.ref r.a) ++ [.ref u]))) := fun b ob e => by
      rw [upd_ne (ne_of_none e fh)]
      exact (sG.trans g06) _ _ e
    have Sd7 : SDc C (upd G6 h0 (.lst ((rows.map fun r => V.ref r.a) ++ [.ref u]))) d' L c := (SdG.same g06).un hh6.1
    have hu7 : (upd G6 h0 (.lst ((rows.map fun r => V.ref r.a) ++ [.ref u]))) u = some (.tup [.str p, .str t, .ref sh0]) := by
      rw [upd_ne fun z => by rw [z, hh6.1] at hu6; cases hu6]
      exact hu6
    have hs7 : Sh C (upd G6 h0 (.lst ((rows.map fun r => V.ref r.a) ++ [.ref u]))) sh0 (pr v) := by
      obtain ⟨dx, e⟩ := hs6
      exact ⟨dx, by rw [upd_ne fun z => by rw [z, hh6.1] at e; cases e]; exact e⟩
    generalize upd G6 h0 (.lst ((rows.map fun r => V.ref r.a) ++ [.ref u])) = G7 at hh7 g7 Sd7 hu7 hs7
    -- behind it
    refine ⟨_, rfl, _, rfl, 1, rfl, _, rfl, h0, _, rfl, SqL.of hh7.1, ?_⟩
    intro sl fsl
    rw [cut_last]
    have ss := same_new (o := .lst [V.ref u]) fsl
    have hsl : HL C (upd G7 sl (.lst [V.ref u])) sl [⟨u, p, t, sh0, v⟩] := ⟨upd_same, fun r hr => by
      rw [List.mem_singleton.mp hr]
      exact ⟨ss _ _ hu7, hs7.keep ss⟩⟩
    have hh8 := hh7.same ss
    have Sd8 := Sd7.same ss
    have g8 := g7.trans ss
    generalize upd G7 sl (.lst [V.ref u]) = G8 at hsl hh8 Sd8 g8
    refine ⟨d', sl, L, c, [⟨u, p, t, sh0, v⟩], rfl, Sd8, nd, hsl, szc, fun r hr => by rw [List.mem_singleton.mp hr]; exact szvv, by omega, by show 1 ≤ 1; decide, fun D G9 g9 fD SD => ?_⟩
    have eD : mvL (L, c) (mvs [⟨u, p, t, sh0, v⟩]) = (L, mv1 c (p, t, v)) := mv_one hpL htL
    rw [eD] at SD
    have SD : SDc C G9 D L (mv1 c (p, t, v)) := SD
    have szc2 := go2.sz nd ll fun x hx => (so x hx).1
    refine ⟨_, rfl, D, L, mv1 c (p, t, v), rfl, SD, by omega, s3900 szc2, fun o3 G10 g10 fo3 ho3 => ?_⟩
    have eks : (rows ++ [(⟨u, p, t, sh0, v⟩ : Ro)]).map Ro.key = rows.map Ro.key ++ [(p, t, v)] := by rw [List.map_append]; rfl
    have ec2 : mv1 c (p, t, v) = runK o ((rows ++ [(⟨u, p, t, sh0, v⟩ : Ro)]).map Ro.key) := by rw [eks, runK_snoc, ← ec]
    have g910 := g9.trans g10
    refine ⟨(nzs L (mv1 c (p, t, v))).length, ?_, D, o3, some (.str p), some (.ref sh0), rows ++ [⟨u, p, t, sh0, v⟩], mv1 c (p, t, v), ec2, rfl, rfl, g8.trans g910, SD.same g10, hh8.same g910, ho3, by rw [List.length_append]; exact go2, ?_, ?_, ?_, ?_⟩
    · have nzc : nzs L c ≠ [] := fun z => by
        have : t ∈ nzs L c := List.mem_filter.mpr ⟨htL, decide_eq_true (by
          have : t ∈ pos L c := by rw [hP]; exact List.mem_cons_self
          have := of_decide_eq_true (List.mem_filter.mp this).2
          grind)⟩
        rw [z] at this
        cases this
      have c1 := go.cnt.2 nzc
      by_cases e : nzs L (mv1 c (p, t, v)) = []
      · rw [e]
        exact List.length_pos_iff.mpr nzc
      · have c2 := go2.cnt.2 e
        omega
    · rw [eks]
      refine led.snoc v0 ?_ ?_
      · rw [← ec]
        show v ≤ -(c p)
        rw [hv]
        unfold mn
        split <;> grind
      · rw [← ec]
        show v ≤ c t
        rw [hv]
        unfold mn
        split <;> grind
    · rw [eks]
      intro k hk
      rcases List.mem_append.mp hk with hk | hk
      · exact mem k hk
      · rw [List.mem_singleton.mp hk]
        exact ⟨hpL, htL⟩
    · rw [eks]
      intro k hk
      rcases List.mem_append.mp hk with hk | hk
      · exact szv k hk
      · rw [List.mem_singleton.mp hk]
        exact szvv
    · rw [eks]
      intro j z hz
      by_cases hj : j ≤ (rows.map Ro.key).length
      · rw [List.take_append_of_le_length hj]
        exact szr j z hz
      · rw [List.take_of_length_le (by rw [List.length_append, List.length_singleton]; omega), ← eks, ← ec2]
        exact szc2 z hz
end
end K60.Q
set_option Elab.async false
set_option linter.all false
set_option maxRecDepth 100000
set_option maxHeartbeats 4000000
namespace K60.Q
open PySem PySem.Spec PyProof.Rows L2
open C8 (Cal Mak Met pe_c pe_mk pe_mt pe_mt0)
open KM (pr Sz)
theorem LedK.take : ∀ (ks : List Hk) (c : Str → Rat) (j : Nat), LedK c ks → LedK c (ks.take j)
  | _, _, 0, _ => True.intro
  | [], _, _ + 1, _ => True.intro
  | _ :: ks, _, j + 1, h => ⟨h.1, LedK.take ks _ j h.2⟩
/-- all settled -/
structure Done (L : List Str) (c : Str → Rat) (ks : List Hk) : Prop where
  led : LedK c ks
  zero : ∀ z ∈ L, runK c ks z = 0
  mem : ∀ k ∈ ks, k.1 ∈ L ∧ k.2.1 ∈ L
  szv : ∀ k ∈ ks, Sz 300 k.2.2
  szr : ∀ j, ∀ z ∈ L, Sz 300 (runK c (ks.take j) z)
  cnt : ∃ T, Lots L c T ∧ ks.length + T.length = (nzs L c).length
/-- settled up to some lots -/
structure Part (L : List Str) (c : Str → Rat) (F : List Str) (n : Nat) (ks : List Hk) : Prop where
  led : LedK c ks
  val : ∀ z ∈ L, runK c ks z = if z ∈ F then 0 else c z
  mem : ∀ k ∈ ks, k.1 ∈ L ∧ k.2.1 ∈ L
  szv : ∀ k ∈ ks, Sz 300 k.2.2
  szr : ∀ j, ∀ z ∈ L, Sz 300 (runK c (ks.take j) z)
  cnt : ks.length + n = F.length
theorem Part.go {L : List Str} {c : Str → Rat} {F : List Str} {n : Nat} {ks js : List Hk} (h : Part L c F n ks) {l : List Str} (sub : ∀ z ∈ l, z ∈ L ∧ z ∉ F) (d : DoneL l c js) (sc : ∀ z ∈ L, Sz 300 (c z)) : Part L c (F ++ l) (n + 1) (ks ++ js) := by
  have same : ∀ z ∈ l, runK c ks z = c z := fun z hz => by rw [h.val z (sub z hz).1, if_neg (sub z hz).2]
  obtain ⟨a, b, e⟩ := run_on js c (runK c ks) d.mem same d.led
  refine ⟨h.led.app a, fun z hz => ?_, fun k hk => ?_, fun k hk => ?_, fun j z hz => ?_, ?_⟩
  · rw [runK_app]
    by_cases q : z ∈ l
    · rw [b z q, d.zero z q, if_pos (List.mem_append_right _ q)]
    · rw [e z q, h.val z hz]
      by_cases q2 : z ∈ F
      · rw [if_pos q2, if_pos (List.mem_append_left _ q2)]
      · rw [if_neg q2, if_neg fun w => (List.mem_append.mp w).elim q2 q]
  · rcases List.mem_append.mp hk with hk | hk
    · exact h.mem k hk
    · exact ⟨(sub _ (d.mem k hk).1).1, (sub _ (d.mem k hk).2).1⟩
  · rcases List.mem_append.mp hk with hk | hk
    · exact h.szv k hk
    · exact d.szv k hk
  · by_cases hj : j ≤ ks.length
    · rw [List.take_append_of_le_length hj]
      exact h.szr j z hz
    · obtain ⟨m, rfl⟩ : ∃ m, j = ks.length + m := ⟨j - ks.length, by omega⟩
      rw [List.take_length_add_append, runK_app]
      obtain ⟨_, b2, e2⟩ := run_on (js.take m) c (runK c ks) (fun k hk => d.mem k (List.mem_of_mem_take hk)) same (d.led.take _ _ m)
      by_cases q : z ∈ l
      · rw [b2 z q]
        exact d.szr m z q
      · rw [e2 z q, h.val z hz]
        split
        · exact sz0 (by decide)
        · exact sc z hz
  · rw [List.length_append, List.length_append, ← h.cnt, ← d.cnt]
    omega
section
variable {P : Program} {w : World} {K : PySem.W.Frag} {mg : Str → Option Value} {base : Heap} {f C : Addr} {fd : FuncData}
def spSe (C : Addr) : Sp := fun vs H Q _ => ∃ (d : Addr) (L : List Str) (c : Str → Rat), vs = [.ref d] ∧ SDc C H d L c ∧ L.Nodup ∧ L.length ≤ 10 ∧ (∀ x ∈ L, Cs (c x)) ∧ sumR (L.map c) = 0 ∧
  ∀ o H' rows, Same H H' → H o = none → HL C H' o rows → Done L c (rows.map Ro.key) → Q (.ref o) H'
theorem ok_se (F : Dn K d_settled f fd) (cLo : Cal P w K mg base 7 "lots" (spLo C) []) (cSl : Cal P w K mg base 7 "settled_lot" (spSl C) []) : FnOk P w K mg base CX0 8 f fd ["standing"] (spSe C) := by
  refine F.ok sc_settled (fun vs H Q E h => ?_) (fun cdv A outer s H vs Q E hr h => ?_)
  · obtain ⟨d, L, c, rfl, _⟩ := h
    rfl
  · obtain ⟨d, L, c, rfl, Sd, nd, ll, cs, s0, hQ⟩ := h
    have hu := hu_of hr
    refine ⟨_, PSs.nox (pss_cons (ps_set (i := 1) sc_settled.nd rfl (.inl rfl) (pe_lst pa_nil))
      (pss_cons (ps_for PassesOwn.never rfl (pi_list (pe_c cLo hr (by decide) rfl (pa_cons (pv 0) pa_nil))) (pg_name (i := 2) sc_settled.nd rfl (.inl rfl))
        (pss_one (ps_set (i := 1) sc_settled.nd rfl (.inl rfl) (pe_op op_cat (pv 1) (pe_c cSl hr (by decide) rfl (pa_cons (pe_dc (own := [("name", 3)]) (g := gName 3) (tt := tYes) rfl sc_settled.nd (pi_tup (pv 2)) (blkOk_by (N := N_settled) (sc := defScope s_settled) (by decide +kernel))
          (fun _ _ _ _ _ => pg_name (i := 3) sc_settled.nd rfl (.inl rfl)) (fun _ _ _ _ _ => pts_nil) (fun _ _ _ _ _ => pv 3) (fun _ _ _ _ _ => pe_dget hu (pv 0) (pv 3) (fun _ _ => rfl))) pa_nil))))))
      (pss_one (ps_ret (pv 1))))), ?_⟩
    refine ⟨by show 0 ≤ sizeLine; decide, fun h0 fh => ?_⟩
    have sh := same_new (o := .lst []) fh
    have hh : HL C (upd H h0 (.lst [])) h0 [] := ⟨upd_same, fun r hr => nomatch hr⟩
    have Sd1 := Sd.same sh
    generalize upd H h0 (.lst []) = H1 at sh hh Sd1
    refine ⟨_, rfl, d, L, c, rfl, Sd1, ll, cs, s0, fun lo H2 rs s2 flo lt lots => ?_⟩
    have sc300 : ∀ z ∈ L, Sz 300 (c z) := fun z hz => (cs z hz).sz.mono (by decide)
    have memT : ∀ {r : Addr × List Str}, r ∈ rs → r.2 ∈ rs.map (·.2) := fun {r} h => List.mem_map.mpr ⟨r, h, rfl⟩
    have inL : ∀ {x : Str} {r : Addr × List Str}, r ∈ rs → x ∈ r.2 → x ∈ L ∧ c x ≠ 0 := fun {x r} h hx => by
      have := lots.perm.mem_iff.mp (List.mem_flatten.mpr ⟨r.2, memT h, hx⟩)
      obtain ⟨h1, h2⟩ := List.mem_filter.mp this
      exact ⟨h1, of_decide_eq_true h2⟩
    have ndT : ((rs.map (·.2)).flatten).Nodup := lots.perm.nodup_iff.mpr (nd.sublist List.filter_sublist)
    have lenT : ((rs.map (·.2)).flatten).length ≤ 10 := by
      rw [lots.perm.length_eq]
      exact Nat.le_trans (List.length_filter_le _ _) ll
    refine ⟨lo, rfl, ⟨_, SqL.of lt.1⟩, for_list (K := K) (xs := rs.map fun r => V.ref r.1) (fun i σ G => ∃ (h0 : Addr) (v2 v3 : Option V) (rows : List Ro), σ = [some (.ref d), some (.ref h0), v2, v3] ∧ Same H2 G ∧ H h0 = none ∧ HL C G h0 rows ∧ Part L c (((rs.take i).map (·.2)).flatten) i (rows.map Ro.key))
      ⟨h0, _, _, [], rfl, Same.refl _, fh, hh.same s2, ⟨True.intro, fun z hz => rfl, fun k h => (nomatch h), fun k h => (nomatch h), fun j z hz => by rw [List.map_nil, List.take_nil]; exact sc300 z hz, rfl⟩⟩ (fun i σ G _ z => by obtain ⟨_, _, _, _, _, e, _⟩ := z; exact SqL.of (e _ _ lt.1)) ?_ ?_⟩
    · rintro i v σ G hi ⟨h0, v2, v3, rows, rfl, sG, fh0, hhG, pt⟩
      rw [List.getElem?_map] at hi
      obtain ⟨r, hr0, rfl⟩ := Option.map_eq_some_iff.mp hi
      have hrm := List.mem_of_getElem? hr0
      obtain ⟨l, hl⟩ : ∃ l, l = r.2 := ⟨_, rfl⟩
      have hrt := sG _ _ (lt.2 r hrm)
      rw [← hl] at hrt
      obtain ⟨ad, hd, hv⟩ := (Sd1.same s2).same sG
      have e1 : rs = rs.take i ++ r :: rs.drop (i + 1) := by
        have h1 := List.take_append_drop i rs
        obtain ⟨hil, he⟩ := List.getElem?_eq_some_iff.mp hr0
        rw [List.drop_eq_getElem_cons hil, he] at h1
        exact h1.symm
      have e3 : (rs.map (·.2)).flatten = ((rs.take i).map (·.2)).flatten ++ (l ++ ((rs.drop (i + 1)).map (·.2)).flatten) := by
        have e4 := congrArg (fun z => (List.map (·.2) z).flatten) e1
        simp only [List.map_append, List.map_cons, List.flatten_append, List.flatten_cons] at e4
        rw [e4, ← hl]
      have nd3 := ndT
      rw [e3] at nd3
      obtain ⟨_, nd4, dis⟩ := List.nodup_append.mp nd3
      have ndl : l.Nodup := (List.nodup_append.mp nd4).1
      have subl : ∀ z ∈ l, z ∈ L ∧ z ∉ ((rs.take i).map (·.2)).flatten := fun z hz => ⟨(inL hrm (by rw [← hl]; exact hz)).1, fun q => dis z q z (List.mem_append_left _ hz) rfl⟩
      have len3 : ((rs.take i).map (·.2)).flatten.length + l.length ≤ 10 := by
        have := congrArg List.length e3
        rw [List.length_append, List.length_append] at this
        omega
      obtain ⟨lne, _, lsum⟩ := lots.each r.2 (memT hrm)
      have least := lots.least r.2 (memT hrm)
      rw [← hl] at lne lsum least
      -- the lot's dict
      refine ⟨_, rfl, _, rfl, r.1, rfl, ⟨_, SqT.of hrt⟩, fun D fD => dc_it (walk_tup (K := K) (xs := l.map V.str)) (fun j G2 => G2 D = some (dctO (l.take j) fun x => .ref (ad x)) ∧ Same G G2) ⟨upd_same, same_new fD⟩ (fun j G2 _ z => SqT.of (z.2 _ _ hrt)) ?_ ?_⟩
      · rintro j x G2 G3 hj ⟨hD, s4⟩ ⟨eH, hx⟩
        have eH := eH.symm
        subst eH
        rw [List.getElem?_map] at hx
        obtain ⟨z, hz, rfl⟩ := Option.map_eq_some_iff.mp hx
        have hzl := List.mem_of_getElem? hz
        have nz := nin_take ndl hz
        refine ⟨rfl, _, rfl, _, rfl, _, rfl, d, _, rfl, dct_dg (s4 _ _ hd) (subl z hzl).1, _, Sum.inr z, rfl, hD, by rw [List.length_map, List.length_take]; exact line_lt (by omega), ?_, same_put s4 fD⟩
        rw [upd_same, put_dct, take_one hz]
        have ea : addK (l.take j) z = l.take j ++ [z] := if_neg nz
        rw [ea]
        show some (HO.dK _) = some (HO.dK _)
        congr 2
        refine List.map_congr_left fun y _ => ?_
        by_cases q : y = z
        · subst q
          rw [if_pos rfl]
        · rw [if_neg q]
      rintro G2 ⟨hD, s4⟩
      rw [List.length_map, take_all] at hD
      have SdD : SDc C G2 D l c := ⟨ad, hD, fun x hx => (hv x (subl x hx).1).keep s4⟩
      refine ⟨D, l, c, rfl, SdD, ndl, lne, by omega, fun x hx => ⟨(cs x (subl x hx).1).sz, (inL hrm (by rw [← hl]; exact hx)).2⟩, lsum, least, fun h2 G3 rows2 s5 fh2 hh2 done => ?_⟩
      have hh3 := (hhG.same s4).same s5
      have lr1 : rows.length ≤ 10 := by
        have := pt.cnt
        rw [List.length_map] at this
        omega
      have lr2 : rows2.length ≤ 10 := by
        have := done.cnt
        rw [List.length_map] at this
        omega
      refine ⟨h0, h2, _, _, rfl, rfl, hh3.1, hh2.1, by rw [List.length_map, List.length_map]; exact line_of (by omega), fun p fp => ?_⟩
      have sp := same_new (o := .lst ((rows.map fun r => V.ref r.a) ++ rows2.map fun r => V.ref r.a)) fp
      have s25 := sG.trans (s4.trans s5)
      refine ⟨p, _, _, rows ++ rows2, rfl, s25.trans sp, (sh.trans (s2.trans s25)).free fp, ⟨?_, fun q hq => ?_⟩, ?_⟩
      · rw [upd_same, List.map_append]
      · rcases List.mem_append.mp hq with hq | hq
        · exact (hh3.same sp).2 q hq
        · exact (hh2.same sp).2 q hq
      · rw [List.map_append]
        have ef : ((rs.take (i + 1)).map (·.2)).flatten = ((rs.take i).map (·.2)).flatten ++ l := by
          rw [take_one hr0, List.map_append, List.flatten_append, hl]
          simp
        rw [ef]
        exact pt.go subl done sc300
    · rintro σ G ⟨h0, v2, v3, rows, rfl, sG, fh0, hhG, pt⟩
      rw [List.length_map, take_all] at pt
      refine ⟨_, rfl, hQ h0 G rows (sh.trans (s2.trans sG)) fh0 hhG ⟨pt.led, fun z hz => ?_, pt.mem, pt.szv, pt.szr, rs.map (·.2), lots, ?_⟩⟩
      · rw [pt.val z hz]
        split
        · rfl
        · rename_i q
          refine Classical.byContradiction fun nz => q (lots.perm.mem_iff.mpr (List.mem_filter.mpr ⟨hz, decide_eq_true nz⟩))
      · have := pt.cnt
        rw [lots.perm.length_eq] at this
        rw [List.length_map (f := fun r : Addr × List Str => r.2)]
        exact this
end
end K60.Q
set_option Elab.async false
set_option linter.all false
set_option maxRecDepth 100000
set_option maxHeartbeats 4000000
namespace K60.Q
open PySem PySem.Spec PyProof.Rows L2
open C8 (Cal Mak Met pe_c pe_mk pe_mt pe_mt0)
open KM (pr Sz)
theorem num_neg {r : Rat} : (pr r).1 < 0 ↔ r < 0 := by
  have h := KM.pr_lt r 0
  have e : pr (0 : Rat) = (0, 1) := rfl
  rw [e] at h
  rw [← h]
  simp
theorem num_pos {r : Rat} : 0 < (pr r).1 ↔ 0 < r := by
  have h := KM.pr_lt 0 r
  have e : pr (0 : Rat) = (0, 1) := rfl
  rw [e] at h
  rw [← h]
  simp
theorem LedK.at_ : ∀ {ks : List Hk} {c : Str → Rat} {i : Nat} {k : Hk}, LedK c ks → ks[i]? = some k → 0 < k.2.2 ∧ k.2.2 ≤ -(runK c (ks.take i) k.1) ∧ k.2.2 ≤ runK c (ks.take i) k.2.1
  | [], _, _, _, _, h => by simp at h
  | j :: ks, c, 0, k, hl, h => by
    simp at h
    subst h
    exact hl.1
  | j :: ks, c, i + 1, k, hl, h => LedK.at_ (ks := ks) hl.2 (by simpa using h)
end K60.Q
set_option Elab.async false
set_option linter.all false
set_option maxRecDepth 100000
set_option maxHeartbeats 4000000
namespace K60.Q
open PySem PySem.Spec PyProof.Rows L2
open KM (pr Sz)
/-! ### the sign of a credit -/
def sg3 (r : Rat) : Int := b2i (decide (0 < (pr r).1)) - b2i (decide ((pr r).1 < 0))
theorem sg3_pos {r : Rat} (h : 0 < r) : sg3 r = 1 := by
  have a : ¬ (pr r).1 < 0 := fun z => by have := num_neg.mp z; grind
  unfold sg3
  rw [decide_eq_true (num_pos.mpr h), decide_eq_false a]
  rfl
theorem sg3_neg {r : Rat} (h : r < 0) : sg3 r = -1 := by
  have a : ¬ 0 < (pr r).1 := fun z => by have := num_pos.mp z; grind
  unfold sg3
  rw [decide_eq_true (num_neg.mpr h), decide_eq_false a]
  rfl
theorem sg3_zero : sg3 0 = 0 := by decide +kernel
theorem sg3_down {c v : Rat} (h0 : 0 < v) (h1 : v ≤ c) : sg3 (c - v) = 0 ∨ sg3 (c - v) = sg3 c := by
  by_cases e : c = v
  · left
    have : c - v = 0 := by grind
    rw [this]
    exact sg3_zero
  · right
    rw [sg3_pos (show 0 < c - v by grind), sg3_pos (show 0 < c by grind)]
theorem sg3_up {c v : Rat} (h0 : 0 < v) (h1 : v ≤ -c) : sg3 (c + v) = 0 ∨ sg3 (c + v) = sg3 c := by
  by_cases e : v = -c
  · left
    have : c + v = 0 := by grind
    rw [this]
    exact sg3_zero
  · right
    rw [sg3_neg (show c + v < 0 by grind), sg3_neg (show c < 0 by grind)]
theorem led_ne {c : Str → Rat} {k : Hk} (h : 0 < k.2.2 ∧ k.2.2 ≤ -(c k.1) ∧ k.2.2 ≤ c k.2.1) : k.1 ≠ k.2.1 := fun e => by
  obtain ⟨h0, h1, h2⟩ := h
  rw [e] at h1
  grind
theorem sg3_mv {c : Str → Rat} {k : Hk} (h : 0 < k.2.2 ∧ k.2.2 ≤ -(c k.1) ∧ k.2.2 ≤ c k.2.1) (z : Str) : sg3 (mv1 c k z) = 0 ∨ sg3 (mv1 c k z) = sg3 (c z) := by
  have ne := led_ne h
  by_cases e1 : z = k.1
  · subst e1
    rw [mv1_p ne]
    exact sg3_up h.1 h.2.1
  · by_cases e2 : z = k.2.1
    · subst e2
      rw [mv1_t ne]
      exact sg3_down h.1 h.2.2
    · rw [mv1_ne e1 e2]
      exact .inr rfl
/-! ### nobody is moved beyond nought -/
def Btw (a b : Rat) : Prop := (0 ≤ a → 0 ≤ b ∧ b ≤ a) ∧ (a ≤ 0 → a ≤ b ∧ b ≤ 0)
theorem Btw.refl (a : Rat) : Btw a a := ⟨fun h => ⟨h, by grind⟩, fun h => ⟨by grind, h⟩⟩
theorem Btw.trans {a b c : Rat} (h : Btw a b) (g : Btw b c) : Btw a c :=
  ⟨fun x => by have := h.1 x; have := g.1 this.1; grind, fun x => by have := h.2 x; have := g.2 this.2; grind⟩
theorem Btw.zero {b : Rat} (h : Btw 0 b) : b = 0 := by have := h.1 (by grind); grind
theorem btw_mv {c : Str → Rat} {k : Hk} (h : 0 < k.2.2 ∧ k.2.2 ≤ -(c k.1) ∧ k.2.2 ≤ c k.2.1) (z : Str) : Btw (c z) (mv1 c k z) := by
  have ne := led_ne h
  by_cases e1 : z = k.1
  · subst e1
    rw [mv1_p ne]
    exact ⟨fun x => by grind, fun x => by grind⟩
  · by_cases e2 : z = k.2.1
    · subst e2
      rw [mv1_t ne]
      exact ⟨fun x => by grind, fun x => by grind⟩
    · rw [mv1_ne e1 e2]
      exact Btw.refl _
theorem btw_run : ∀ (ks : List Hk) (c : Str → Rat), LedK c ks → ∀ z, Btw (c z) (runK c ks z)
  | [], c, _, z => Btw.refl _
  | k :: ks, c, h, z => (btw_mv h.1 z).trans (btw_run ks (mv1 c k) h.2 z)
theorem sum_run {L : List Str} (nd : L.Nodup) : ∀ (ks : List Hk) (c : Str → Rat), LedK c ks → (∀ k ∈ ks, k.1 ∈ L ∧ k.2.1 ∈ L) → sumR (L.map (runK c ks)) = sumR (L.map c)
  | [], c, _, _ => rfl
  | k :: ks, c, h, m => by
    have h1 := sum_run nd ks (mv1 c k) h.2 fun j hj => m j (List.mem_cons_of_mem _ hj)
    obtain ⟨m1, m2⟩ := m k List.mem_cons_self
    have h2 := sum_mv (c := c) nd m1 m2 (led_ne h.1)
    exact h1.trans h2
/-! ### multiples of one part stay so -/
theorem Gr.btw {B m M : Nat} {a b : Rat} (hB : 0 < B) (h : Gr B m a) (g : Gr B M b) (w : Btw a b) : Gr B m b := by
  obtain ⟨t, rfl, ht⟩ := h
  obtain ⟨u, rfl, _⟩ := g
  have hb : (0 : Int) < (B : Int) := by omega
  have z : (0 : Rat) = Rat.divInt 0 B := (Rat.zero_divInt _).symm
  have iff : ∀ {p q : Int}, Rat.divInt p B ≤ Rat.divInt q B ↔ p ≤ q := fun {p q} => by
    rw [Rat.le_iff_sub_nonneg, Rat.divInt_sub_divInt _ _ (by omega) (by omega), Rat.divInt_nonneg_iff_of_pos_right (Int.mul_pos hb hb), ← Int.sub_mul]
    exact ⟨fun h => by
      have := Int.nonneg_of_mul_nonneg_left h hb
      omega, fun h => Int.mul_nonneg (by omega) (by omega)⟩
  have le : ∀ {p q : Int}, Rat.divInt p B ≤ Rat.divInt q B → p ≤ q := fun {p q} h => iff.mp h
  have ge : ∀ {p q : Int}, p ≤ q → Rat.divInt p B ≤ Rat.divInt q B := fun {p q} h => iff.mpr h
  refine ⟨u, rfl, ?_⟩
  rcases Int.le_total 0 t with c | c
  · obtain ⟨w1, w2⟩ := w.1 (by rw [z]; exact ge c)
    rw [z] at w1
    have := le w1
    have := le w2
    omega
  · obtain ⟨w1, w2⟩ := w.2 (by rw [z]; exact ge c)
    rw [z] at w2
    have := le w1
    have := le w2
    omega
def GrE (B : Nat) (r : Rat) : Prop := ∃ M, Gr B M r
theorem GrE.add {B : Nat} {a b : Rat} (hB : 0 < B) (h : GrE B a) (g : GrE B b) : GrE B (a + b) := let ⟨_, x⟩ := h; let ⟨_, y⟩ := g; ⟨_, x.add hB y⟩
theorem grE_mv {B : Nat} {L : List Str} {c : Str → Rat} {k : Hk} (hB : 0 < B) (hc : ∀ z ∈ L, GrE B (c z)) (hk : GrE B k.2.2) (m1 : k.1 ∈ L) (m2 : k.2.1 ∈ L) : ∀ z ∈ L, GrE B (mv1 c k z) := by
  have st : ∀ (e : Str → Rat) (y : Str) (v : Rat), (∀ z ∈ L, GrE B (e z)) → GrE B v → ∀ z ∈ L, GrE B (setc e y v z) := fun e y v he hv z hz => by
    unfold setc
    split
    · exact hv
    · exact he z hz
  have h1 := st c k.1 (c k.1 + k.2.2) hc ((hc _ m1).add hB hk)
  have hn : GrE B (-k.2.2) := let ⟨_, x⟩ := hk; ⟨_, x.neg⟩
  unfold mv1
  exact st _ k.2.1 _ h1 ((h1 _ m2).add hB hn)
theorem grE_run {B : Nat} {L : List Str} (hB : 0 < B) : ∀ (ks : List Hk) (c : Str → Rat), (∀ z ∈ L, GrE B (c z)) → (∀ k ∈ ks, GrE B k.2.2) → (∀ k ∈ ks, k.1 ∈ L ∧ k.2.1 ∈ L) → ∀ z ∈ L, GrE B (runK c ks z)
  | [], c, hc, _, _ => hc
  | k :: ks, c, hc, hk, m => grE_run hB ks (mv1 c k) (grE_mv hB hc (hk k List.mem_cons_self) (m k List.mem_cons_self).1 (m k List.mem_cons_self).2) (fun j hj => hk j (List.mem_cons_of_mem _ hj)) fun j hj => m j (List.mem_cons_of_mem _ hj)
/-! ### who is paid, by recursion -/
def pays (s : Str → Rat) : List Str → Rat → List (Str × Rat)
  | [], _ => []
  | z :: zs, l => if l = 0 then [] else (z, mn (s z) l) :: pays s zs (l - mn (s z) l)
def rest (s : Str → Rat) : List Str → Rat → Rat
  | [], l => l
  | z :: zs, l => if l = 0 then l else rest s zs (l - mn (s z) l)
theorem pays_cons (s : Str → Rat) (z : Str) (zs : List Str) (l : Rat) : pays s (z :: zs) l = if l = 0 then [] else (z, mn (s z) l) :: pays s zs (l - mn (s z) l) := rfl
theorem rest_cons (s : Str → Rat) (z : Str) (zs : List Str) (l : Rat) : rest s (z :: zs) l = if l = 0 then l else rest s zs (l - mn (s z) l) := rfl
theorem fold_pays (s : Str → Rat) : ∀ (zs : List Str) (acc : List (Str × Rat)) (l : Rat), zs.foldl (step s) (acc, l) = (acc ++ pays s zs l, rest s zs l)
  | [], acc, l => by show (acc, l) = (acc ++ [], l); rw [List.append_nil]
  | z :: zs, acc, l => by
    by_cases e : l = 0
    · rw [fold_zero s _ _ e]
      rw [pays_cons, rest_cons, if_pos e, if_pos e, List.append_nil]
    · rw [List.foldl_cons]
      have es : step s (acc, l) z = (acc ++ [(z, mn (s z) l)], l - mn (s z) l) := by unfold step; rw [if_neg e]
      rw [es, fold_pays s zs]
      rw [pays_cons, rest_cons, if_neg e, if_neg e, List.append_assoc]
      rfl
theorem st_pays (s : Str → Rat) (zs : List Str) (l : Rat) : st s zs l = (pays s zs l, rest s zs l) := by
  unfold st
  rw [fold_pays]
  rfl
theorem led_pays (ow : Bool) (x : Str) (s : Str → Rat) : ∀ (zs : List Str) (c : Str → Rat) (l : Rat), l = -(seen ow c x) → 0 ≤ l → zs.Nodup → (∀ z ∈ zs, 0 < s z ∧ z ≠ x ∧ seen ow c z = s z) →
    LedK c ((pays s zs l).map (keyOf ow x)) ∧ (∀ k ∈ (pays s zs l).map (keyOf ow x), (k.1 = x ∨ k.1 ∈ zs) ∧ (k.2.1 = x ∨ k.2.1 ∈ zs)) ∧ seen ow (runK c ((pays s zs l).map (keyOf ow x))) x = -(rest s zs l)
  | [], c, l, hl, h0, _, _ => ⟨True.intro, fun k hk => (nomatch hk), by show seen ow c x = -l; rw [hl]; grind⟩
  | z :: zs, c, l, hl, h0, nd, h => by
    rw [pays_cons, rest_cons]
    by_cases e : l = 0
    · rw [if_pos e, if_pos e]
      exact ⟨True.intro, fun k hk => (nomatch hk), by show seen ow c x = -l; rw [hl]; grind⟩
    · rw [if_neg e, if_neg e, List.map_cons]
      obtain ⟨hz0, hzx, hzs⟩ := h z List.mem_cons_self
      obtain ⟨nd1, nd2⟩ := List.nodup_cons.mp nd
      obtain ⟨v, hv⟩ : ∃ v, v = mn (s z) l := ⟨_, rfl⟩
      rw [← hv]
      have v0 : 0 < v := by rw [hv]; unfold mn; split <;> grind
      have v1 : v ≤ s z := by rw [hv]; unfold mn; split <;> grind
      have v2 : v ≤ l := by rw [hv]; unfold mn; split <;> grind
      have led : 0 < (keyOf ow x (z, v)).2.2 ∧ (keyOf ow x (z, v)).2.2 ≤ -(c (keyOf ow x (z, v)).1) ∧ (keyOf ow x (z, v)).2.2 ≤ c (keyOf ow x (z, v)).2.1 := by
        cases ow
        · have e1 : keyOf false x (z, v) = (z, x, v) := rfl
          have a : seen false c x = -(c x) := rfl
          have b : seen false c z = -(c z) := rfl
          rw [e1]
          exact ⟨v0, by show v ≤ -(c z); grind, by show v ≤ c x; grind⟩
        · have e1 : keyOf true x (z, v) = (x, z, v) := rfl
          have a : seen true c x = c x := rfl
          have b : seen true c z = c z := rfl
          rw [e1]
          exact ⟨v0, by show v ≤ -(c x); grind, by show v ≤ c z; grind⟩
      have mx : seen ow (mv1 c (keyOf ow x (z, v))) x = -(l - v) := by
        cases ow
        · have e1 : keyOf false x (z, v) = (z, x, v) := rfl
          have e2 := mv1_t (c := c) (k := (z, x, v)) hzx
          have a : seen false c x = -(c x) := rfl
          rw [e1]
          show -(mv1 c (z, x, v) x) = _
          have e2 : mv1 c (z, x, v) x = c x - v := e2
          rw [e2]
          grind
        · have e1 : keyOf true x (z, v) = (x, z, v) := rfl
          have e2 := mv1_p (c := c) (k := (x, z, v)) (fun q => hzx q.symm)
          have a : seen true c x = c x := rfl
          rw [e1]
          show mv1 c (x, z, v) x = _
          have e2 : mv1 c (x, z, v) x = c x + v := e2
          rw [e2]
          grind
      have ms : ∀ y, y ≠ z → y ≠ x → mv1 c (keyOf ow x (z, v)) y = c y := fun y h1 h2 => by
        cases ow
        · exact mv1_ne (k := (z, x, v)) h1 h2
        · exact mv1_ne (k := (x, z, v)) h2 h1
      obtain ⟨i1, i2, i3⟩ := led_pays ow x s zs (mv1 c (keyOf ow x (z, v))) (l - v) (by rw [mx]; grind) (by grind) nd2 fun y hy => by
        obtain ⟨a, b, d⟩ := h y (List.mem_cons_of_mem _ hy)
        refine ⟨a, b, ?_⟩
        rw [← d]
        unfold seen
        rw [ms y (fun q => nd1 (q ▸ hy)) b]
      refine ⟨⟨led, i1⟩, fun k hk => ?_, i3⟩
      rcases List.mem_cons.mp hk with rfl | hk
      · cases ow
        · exact ⟨.inr List.mem_cons_self, .inl rfl⟩
        · exact ⟨.inl rfl, .inr List.mem_cons_self⟩
      · obtain ⟨a, b⟩ := i2 k hk
        exact ⟨a.imp id (List.mem_cons_of_mem _), b.imp id (List.mem_cons_of_mem _)⟩
end K60.Q
set_option Elab.async false
set_option linter.all false
set_option maxRecDepth 100000
set_option maxHeartbeats 4000000
namespace K60.Q
open PySem PySem.Spec PyProof.Rows L2
open KM (pr Sz)
theorem Crd.run {L : List Str} {c : Str → Rat} {B : Nat} (cr : Crd L c B) {ks : List Hk} (led : LedK c ks) (mem : ∀ k ∈ ks, k.1 ∈ L ∧ k.2.1 ∈ L) (g : ∀ k ∈ ks, GrE B k.2.2) : Crd L (runK c ks) B :=
  ⟨cr.nd, cr.ll, cr.B0, cr.B1, fun z hz => by
    obtain ⟨M, hM⟩ := grE_run cr.B0 ks c (fun z hz => ⟨_, cr.gr z hz⟩) g mem z hz
    exact (cr.gr z hz).btw cr.B0 hM (btw_run ks c led z), by rw [sum_run cr.nd ks c led mem]; exact cr.s0⟩
structure Paid (L : List Str) (c : Str → Rat) (B : Nat) (x : Str) (ks : List Hk) : Prop where
  led : LedK c ks
  mem : ∀ k ∈ ks, k.1 ∈ L ∧ k.2.1 ∈ L
  szv : ∀ k ∈ ks, Sz 300 k.2.2
  szr : ∀ j, ∀ z ∈ L, Sz 300 (runK c (ks.take j) z)
  crd : Crd L (runK c ks) B
  zx : runK c ks x = 0
  zz : ∀ z, c z = 0 → runK c ks z = 0
  len : ks.length ≤ 12
theorem paid_all {L zs : List Str} {c : Str → Rat} {B : Nat} {x : Str} {ow : Bool} {ks : List Hk} (cr : Crd L c B) (hx : x ∈ L) (how : ow = decide (c x < 0)) (o : OrdOf L (seen ow c) zs) (e : ks = (st (seen ow c) zs (-(seen ow c x))).1.map (keyOf ow x)) : Paid L c B x ks := by
  have sx : seen ow c x ≤ 0 := by
    cases ow
    · have : ¬ c x < 0 := of_decide_eq_false how.symm
      show -(c x) ≤ 0
      grind
    · have : c x < 0 := of_decide_eq_true how.symm
      show c x ≤ 0
      grind
  have ndz : zs.Nodup := o.1.nodup_iff.mpr (cr.nd.sublist List.filter_sublist)
  have hz : ∀ z ∈ zs, 0 < seen ow c z ∧ z ≠ x ∧ seen ow c z = seen ow c z := fun z hz => by
    have h := (o.mem hz).2
    exact ⟨h, fun q => by rw [q] at h; grind, rfl⟩
  have h0 : (st (seen ow c) zs (-(seen ow c x))).2 = 0 := st_paid o.1 hx sx (sum_seen ow cr.s0)
  have gq := (cr.st ow hx o (fun y hy => hy) (Nat.le_refl _)).2
  have ln : (st (seen ow c) zs (-(seen ow c x))).1.length ≤ 12 := by
    have := fold_len (seen ow c) zs ([], -(seen ow c x))
    have l1 := o.len
    have l2 := cr.ll
    unfold st
    simp at this
    omega
  obtain ⟨led, mem, fin⟩ := led_pays ow x (seen ow c) zs c (-(seen ow c x)) rfl (by grind) ndz hz
  rw [st_pays] at h0 gq ln e
  have e : ks = (pays (seen ow c) zs (-(seen ow c x))).map (keyOf ow x) := e
  have h0 : rest (seen ow c) zs (-(seen ow c x)) = 0 := h0
  rw [← e] at led mem fin
  rw [h0] at fin
  have mem2 : ∀ k ∈ ks, k.1 ∈ L ∧ k.2.1 ∈ L := fun k hk => by
    obtain ⟨a, b⟩ := mem k hk
    exact ⟨a.elim (fun q => q ▸ hx) fun q => (o.mem q).1, b.elim (fun q => q ▸ hx) fun q => (o.mem q).1⟩
  have gk : ∀ k ∈ ks, Gr B 546000 k.2.2 := fun k hk => by
    rw [e] at hk
    obtain ⟨q, hq, rfl⟩ := List.mem_map.mp hk
    have := gq q hq
    cases ow
    · exact this
    · exact this
  have crt : ∀ j, Crd L (runK c (ks.take j)) B := fun j => cr.run (led.take _ _ j) (fun k hk => mem2 k (List.mem_of_mem_take hk)) fun k hk => ⟨_, gk k (List.mem_of_mem_take hk)⟩
  refine ⟨led, mem2, fun k hk => ((gk k hk).sz (n := 20) cr.B0 (by decide) (by have := cr.B1; omega)).mono (by decide), fun j z hz => ((crt j).sz hz).mono (by decide), cr.run led mem2 fun k hk => ⟨_, gk k hk⟩, ?_, fun z hz => ?_, ?_⟩
  · cases ow
    · have fin : -(runK c ks x) = -0 := fin
      grind
    · have fin : runK c ks x = -0 := fin
      grind
  · have := btw_run ks c led z
    rw [hz] at this
    exact this.zero
  · rw [e, List.length_map]
    exact ln
/-- fewer hand-overs than names -/
theorem Done.fewer {L : List Str} {c : Str → Rat} {ks : List Hk} (h : Done L c ks) (ne : L ≠ []) : ks.length < L.length := by
  obtain ⟨T, lots, e⟩ := h.cnt
  have le : (nzs L c).length ≤ L.length := List.length_filter_le _ _
  have pos : 0 < L.length := List.length_pos_iff.mpr ne
  rcases Nat.eq_zero_or_pos T.length with z | z
  · have tz := List.length_eq_zero_iff.mp z
    have := lots.perm.length_eq
    rw [tz] at this
    have e0 : (nzs L c).length = 0 := by
      have h2 : (nzs L c).length = ([] : List (List Str)).flatten.length := this.symm
      rw [h2]
      rfl
    omega
  · omega
/-- small credits of 840 parts -/
theorem cs_rt {t : Int} (h : t.natAbs ≤ 42000) : Cs (Rat.divInt t 840) := by
  have hb : (840 : Int) ≠ 0 := by omega
  have e := KM.low_eq (t := t) hb
  have e1 : (KM.low t 840).1 = (Rat.divInt t 840).num := congrArg Prod.fst e
  have e2 : (KM.low t 840).2 = ((Rat.divInt t 840).den : Int) := congrArg Prod.snd e
  have l1 := KM.low_top_le (t := t) hb
  have l2 := KM.low_bot_le (t := t) hb
  constructor
  · have : ((KM.low t 840).2).natAbs ≤ 840 := by omega
    rw [e2] at this
    simpa using this
  · rw [← e1]
    omega
end K60.Q
set_option Elab.async false
set_option linter.all false
set_option maxRecDepth 100000
set_option maxHeartbeats 4000000
/-! SB: p - q of two truths. -/
namespace SB
open PySem PySem.Spec PyProof.Rows L2
theorem op_sub_bb {X : Cx} : OpR X (binaryOp .Sub) (fun x y H Q => ∃ i k, x = .bl i ∧ y = .bl k ∧ Q (.int (b2i i - b2i k)) H) := by
  intro pins s σ H x y v u Q I rx ry h
  obtain ⟨i, k, rfl, rfl, q⟩ := h
  cases rx
  cases ry
  exact PyProof.Rows.sub_bool ⟨.int (b2i i - b2i k), H, I.tok _, ⟨_, rfl⟩, q⟩
end SB
set_option Elab.async false
set_option linter.all false
set_option maxRecDepth 100000
set_option maxHeartbeats 4000000
namespace K60.Q
open PySem PySem.Spec PyProof.Rows L2
open C8 (Cal Mak Met pe_c pe_mk pe_mt pe_mt0)
open KM (pr Sz)
theorem inV_two {a b : Int} (h : a = 0 ∨ a = b) : inV (.int a) [.int 0, .int b] = true := by
  rcases h with rfl | rfl <;> simp [inV, eqV]
theorem lockV {H : Hp} {d : Addr} {L : List Str} {g : Str → V} (hd : H d = some (dctO L g)) (od : Obj) :
    (upd H d (.frz od (dctO L g))) d = some (.frz od (.dK (L.map fun x => ((Sum.inr x : Key), g x)))) ∧
    (∀ b o, H b = some o → b ≠ d → (upd H d (.frz od (dctO L g))) b = some o) ∧
    (∀ b, (upd H d (.frz od (dctO L g))) b = none → H b = none ∧ b ≠ d) ∧
    (∀ H', Same (upd H d (.frz od (dctO L g))) H' → Same H (upd H' d (dctO L g))) := by
  refine ⟨upd_same, fun b o e n => by rw [upd_ne n]; exact e, fun b e => ?_, fun H' s b o e => ?_⟩
  · by_cases z : b = d
    · subst z
      rw [upd_same] at e
      cases e
    · rw [upd_ne z] at e
      exact ⟨e, z⟩
  · by_cases z : b = d
    · subst z
      rw [upd_same, ← e, hd]
    · rw [upd_ne z]
      exact s _ _ (by rw [upd_ne z]; exact e)
section
variable {P : Program} {w : World} {K : PySem.W.Frag} {mg : Str → Option Value} {base : Heap} {f C : Addr} {fd : FuncData}
def spSg (C : Addr) : Sp := fun vs H Q _ => ∃ (d : Addr) (L : List Str) (c : Str → Rat), vs = [.ref d] ∧ SDc C H d L c ∧ L.Nodup ∧ L.length ≤ 30 ∧ ∀ D H', Same H H' → H D = none → H' D = some (dctO L fun x => .int (sg3 (c x))) → Q (.ref D) H'
theorem ok_sg (F : Dn K d_l_signs f fd) (bd : mg "dict" = none) (T : Cl K mg C) : FnOk P w K mg base CX0 1 f fd ["_law_stands"] (spSg C) := by
  refine F.ok sc_l_signs (fun vs H Q E h => ?_) (fun cdv A outer s H vs Q E hr h => ?_)
  · obtain ⟨d, L, c, rfl, _⟩ := h
    rfl
  · obtain ⟨d, L, c, rfl, ⟨ad, hd, hv⟩, nd, ll, hQ⟩ := h
    have hu := hu_of hr
    refine ⟨_, PSs.nox (pss_one (ps_ret (pe_callTy (call_dictP rfl) rfl bd boot_dict (pa_cons (pe_lock (pe_lc (own := [("_law_name", 1)]) (g := gName 1) (tt := tYes) rfl sc_l_signs.nd (pi_keys (pv 0)) (blkOk_by (N := N_l_signs) (sc := defScope s_l_signs) (by decide +kernel))
        (fun _ _ _ _ _ => pg_name (i := 1) sc_l_signs.nd rfl (Or.inl rfl)) (fun _ _ _ _ _ => pts_nil)
        (fun _ _ _ _ _ => pe_tup (pa_cons (pv 1) (pa_cons (pe_op SB.op_sub_bb (pe_cmpR op_gt (pe_fldK (K := K) rfl (pe_dget hu (pv 0) (pv 1) (fun _ _ => rfl)) rfl) pe_int (nomark _)) (pe_cmpR op_lt (pe_fldK (K := K) rfl (pe_dget hu (pv 0) (pv 1) (fun _ _ => rfl)) rfl) pe_int (nomark _))) pa_nil))))) pa_nil)))), ?_⟩
    refine ⟨d, _, hd, trivial, fun od => ?_⟩
    obtain ⟨hd1, kp1, new1, back1⟩ := lockf (C := C) hd od
    have hv1 : ∀ x ∈ L, Sh C (upd H d (.frz od (dctO L fun x => .ref (ad x)))) (ad x) (pr (c x)) := fun x hx => (hv x hx).un ((hv x hx).at_ne hd)
    generalize upd H d (.frz od (dctO L fun x => .ref (ad x))) = H1 at hd1 kp1 new1 back1 hv1
    refine ⟨_, rfl, d, od, rfl, .inl ⟨_, hd1, fun D hD => lc_it walk_keys (fun i H2 => ∃ (pa : Str → Addr), H2 D = some (.lst ((L.take i).map fun x => V.ref (pa x))) ∧ (∀ x ∈ L.take i, H2 (pa x) = some (.tup [.str x, .int (sg3 (c x))])) ∧ Same H1 H2)
      ⟨fun _ => 0, upd_same, fun x hx => by simp at hx, same_new hD⟩ (fun i H2 _ z => by obtain ⟨_, _, _, sm⟩ := z; exact sm _ _ hd1) ?_ ?_⟩⟩
    · rintro i x H2 H3 hi ⟨pa, hdd, hval, sm⟩ ⟨eH, kk, v, hkk, rfl⟩
      have eH := eH.symm
      subst eH
      rw [List.length_map] at hi
      rw [List.getElem?_map] at hkk
      obtain ⟨z, hz0, e0⟩ := Option.map_eq_some_iff.mp hkk
      cases e0
      have hzL := List.mem_of_getElem? hz0
      have nz := nin_take nd hz0
      refine ⟨rfl, ?_⟩
      have dg : DGet H2 d (.str z) (some (.ref (ad z))) := .inl ⟨_, Sum.inr z, .inr ⟨od, sm _ _ hd1⟩, rfl, by rw [val_dct, if_pos hzL]⟩
      obtain ⟨dz, hvz⟩ := (hv1 z hzL).keep sm
      refine ⟨_, rfl, _, rfl, _, rfl, d, _, rfl, dg, ad z, C, dz, _, _, rfl, hvz, T.cl, T.nt, shF_top _, _, _, rfl, rfl, _, rfl, _, rfl, d, _, rfl, dg, ad z, C, dz, _, _, rfl, hvz, T.cl, T.nt, shF_top _, _, _, rfl, rfl, _, _, rfl, rfl, ?_⟩
      refine ⟨by show 2 ≤ sizeLine; decide, fun q fq => ?_⟩
      have sq := same_new (o := .tup [.str z, .int (sg3 (c z))]) fq
      have hD4 := sq _ _ hdd
      refine ⟨_, hD4, by rw [List.length_map, List.length_take]; exact line_lt (by omega), fun x => if x = z then q else pa x, ?_, fun x hx => ?_, fun b o e => ?_⟩
      · rw [upd_same, take_one hz0, List.map_append]
        have e1 : (L.take i).map (fun x => V.ref (pa x)) = (L.take i).map fun x => V.ref (if x = z then q else pa x) := List.map_congr_left fun x hx => by rw [if_neg (show ¬ x = z from fun e => nz (e ▸ hx))]
        rw [e1]
        simp
      · have nD : ∀ {p : Addr} {o : HO}, (upd H2 q (.tup [.str z, .int (sg3 (c z))])) p = some o → (∀ ys, o ≠ .lst ys) → p ≠ D := fun {p o} e n zz => by
          rw [zz, hD4] at e
          exact n _ (Option.some.inj e).symm
        rw [take_one hz0] at hx
        by_cases e : x = z
        · subst e
          dsimp only
          rw [if_pos rfl, upd_ne (nD upd_same (fun ys e => by cases e))]
          exact upd_same
        · have hx' : x ∈ L.take i := by
            rcases List.mem_append.mp hx with q' | q'
            · exact q'
            · exact absurd (List.mem_singleton.mp q') e
          dsimp only
          rw [if_neg e]
          have g1 := sq _ _ (hval x hx')
          rw [upd_ne (nD g1 (fun ys e => by cases e))]
          exact g1
      · rw [upd_ne (ne_of_none e hD)]
        exact sq _ _ (sm _ _ e)
    rintro H2 ⟨pa, hdd, hval, sm⟩
    rw [List.length_map, List.take_length] at hdd hval
    obtain ⟨nD, nDd⟩ := new1 D hD
    have hd2 := sm _ _ hd1
    have s02 := back1 H2 sm
    refine ⟨hd2, ?_⟩
    have g0 : (upd H2 d (dctO L fun x => .ref (ad x))) D = some (.lst (L.map fun x => V.ref (pa x))) := by rw [upd_ne nDd]; exact hdd
    have g1 : ∀ x ∈ L, (upd H2 d (dctO L fun x => .ref (ad x))) (pa x) = some (.tup [.str x, .int (sg3 (c x))]) := fun x hx => by
      have h1 := hval x hx
      rw [upd_ne fun z => by rw [z, hd2] at h1; cases h1]
      exact h1
    generalize upd H2 d (dctO L fun x => .ref (ad x)) = H3 at s02 g0 g1
    refine ⟨D, L.map pa, L.map fun x => ((Sum.inr x : Key), V.int (sg3 (c x))), rfl, by rw [List.map_map]; exact SqL.of g0, paired_map fun x hx => SqT.of (g1 x hx), fun q fq => ?_⟩
    have em : mergeK [] (L.map fun x => ((Sum.inr x : Key), V.int (sg3 (c x)))) = L.map fun x => ((Sum.inr x : Key), V.int (sg3 (c x))) := DQ.merge_map (fun x => V.int (sg3 (c x))) (l := L) (m := []) nd
    rw [em]
    have sq := same_new (o := .dK (L.map fun x => ((Sum.inr x : Key), V.int (sg3 (c x))))) fq
    exact hQ q _ (s02.trans sq) (s02.free fq) upd_same
def spGR (C : Addr) : Sp := fun vs H Q _ => ∃ (d l : Addr) (L : List Str) (c : Str → Rat) (rows : List Ro), vs = [.ref d, .ref l] ∧ SDc C H d L c ∧ L.Nodup ∧ L.length ≤ 8 ∧ HL C H l rows ∧ LedK c (rows.map Ro.key) ∧ (∀ k ∈ rows.map Ro.key, k.1 ∈ L ∧ k.2.1 ∈ L) ∧ (∀ k ∈ rows.map Ro.key, Sz 300 k.2.2) ∧
  (∀ j, ∀ z ∈ L, Sz 300 (runK c ((rows.map Ro.key).take j) z)) ∧ sumR (L.map c) = 0 ∧ ∀ D H', Same H H' → SDc C H' D L (runK c (rows.map Ro.key)) → Q (.ref D) H'
theorem ok_gr (F : Dn K d_l_gone_right f fd) (bl : Bl mg) (N : OW.Spc P w K mg base 1 C "__eq__" (spSEq C)) (hn : PySem.W.findIn K (.ref C) "__ne__" = some (some (.builtin "object.__ne__"))) (hm : PySem.W.mroIn K C (.type "object") = some true) (M1 : MakS1 P w K mg base C) (cAf : Cal P w K mg base 6 "after" (spAf C) []) (cSg : Cal P w K mg base 1 "_law_signs" (spSg C) []) (cT : Cal P w K mg base 5 "total" (spTotal K C) [.int 0]) :
    FnOk P w K mg base CX0 7 f fd ["_law_stands", "_law_rows"] (spGR C) := by
  refine F.ok sc_l_gone_right (fun vs H Q E h => ?_) (fun cdv A outer s H vs Q E hr h => ?_)
  · obtain ⟨d, l, L, c, rows, rfl, _⟩ := h
    rfl
  · obtain ⟨d, l, L, c, rows, rfl, Sd, nd, ll, hl, led, mem, szv, szr, s0, hQ⟩ := h
    have hu := hu_of hr
    have hu64 : (A.deeper (envOfC d_l_gone_right.qual d_l_gone_right.scope s.heap.objs.size f cdv)).units + 64 < cLine := by have := hr.un; omega
    refine ⟨_, PSs.nox (pss_cons (ps_for PassesOwn.never rfl (pi_list (pv 1)) (pg_name (i := 2) sc_l_gone_right.nd rfl (.inl rfl))
        (pss_cons (ps_set (i := 3) sc_l_gone_right.nd rfl (.inl rfl) (pe_c cAf hr (by decide) rfl (pa_cons (pv 0) (pa_cons (pe_lst (pa_cons (pv 2) pa_nil)) pa_nil))))
        (pss_cons (ps_asg (pe_tup (pa_cons (pe_c cSg hr (by decide) rfl (pa_cons (pv 0) pa_nil)) (pa_cons (pe_c cSg hr (by decide) rfl (pa_cons (pv 3) pa_nil)) pa_nil))) (pg_tup rfl (pgs_cons (pg_name (i := 4) sc_l_gone_right.nd rfl (.inr rfl)) (pgs_cons (pg_name (i := 5) sc_l_gone_right.nd rfl (.inr rfl)) pgs_nil))))
        (pss_cons (ps_if (PW.pt (pw_or (pt_cmpR (op_neD hu64) (pe_lock (pe_lc (own := [("_law_name", 6)]) (g := gName 6) rfl sc_l_gone_right.nd (pi_keys (pv 5)) (blkOk_by (N := N_l_gone_right) (sc := defScope s_l_gone_right) (by decide +kernel))
            (fun _ _ _ _ _ => pg_name (i := 6) sc_l_gone_right.nd rfl (Or.inl rfl)) (fun _ _ _ _ _ => pts_one (pt_cmpR (r := rIn K true) op_notIn_seq (pe_dget hu (pv 5) (pv 6) (fun _ _ => rfl)) (pe_tup (pa_cons pe_int (pa_cons (pe_dget hu (pv 4) (pv 6) (fun _ _ => rfl)) pa_nil))) (by rfl))) (fun _ _ _ _ _ => pv 6))) (pe_lst pa_nil) (nomark _))
          (pw_or1 (pt_cmpR (OW.op_neO (k := 0) N hn hm (hr.mono (by decide))) (pe_c cT hr (by decide) rfl (pa_cons (VL.pe_listVals rfl rfl bl.list (pv 3)) pa_nil)) (pe_mk M1 hr (by decide) rfl (pa_cons pe_int pa_nil)) (nomark _))))) pss_never pss_nil)
        (pss_one (ps_set (i := 0) sc_l_gone_right.nd rfl (.inl rfl) (pv 3)))))))
      (pss_one (ps_ret (pv 0)))), ?_⟩
    have lk : (rows.map Ro.key).length = rows.length := List.length_map _
    refine ⟨_, rfl, l, rfl, ⟨_, SqL.of hl.1⟩, for_list (K := K) (xs := rows.map fun r => V.ref r.a) (fun i σ G => ∃ (D : Addr) (v2 v3 v4 v5 v6 : Option V), σ = [some (.ref D), some (.ref l), v2, v3, v4, v5, v6] ∧ Same H G ∧ SDc C G D L (runK c ((rows.map Ro.key).take i)))
      ⟨d, _, _, _, _, _, rfl, Same.refl _, Sd⟩ (fun i σ G _ z => by obtain ⟨_, _, _, _, _, _, _, sm, _⟩ := z; exact SqL.of (sm _ _ hl.1)) ?_ ?_⟩
    · rintro i v σ G hi ⟨D, v2, v3, v4, v5, v6, rfl, sG, SG⟩
      rw [List.getElem?_map] at hi
      obtain ⟨r, hr0, rfl⟩ := Option.map_eq_some_iff.mp hi
      have hrm := List.mem_of_getElem? hr0
      have hk : (rows.map Ro.key)[i]? = some r.key := by rw [List.getElem?_map, hr0]; rfl
      have hkm := List.mem_of_getElem? hk
      have la := LedK.at_ led hk
      have e2 : (rows.map Ro.key).take (i + 1) = (rows.map Ro.key).take i ++ [r.key] := take_one hk
      have szn := szr (i + 1)
      have szi := szr i
      have sum1 := sum_run nd ((rows.map Ro.key).take i) c (led.take _ _ i) (fun k hk => mem k (List.mem_of_mem_take hk))
      have sum2 := sum_run nd ((rows.map Ro.key).take (i + 1)) c (led.take _ _ (i + 1)) (fun k hk => mem k (List.mem_of_mem_take hk))
      rw [e2, runK_snoc] at szn sum2
      obtain ⟨m1, m2⟩ := mem _ hkm
      have zv := szv _ hkm
      obtain ⟨hra, hrs⟩ := hl.2 r hrm
      obtain ⟨u, hu0⟩ : ∃ u, u = runK c ((rows.map Ro.key).take i) := ⟨_, rfl⟩
      rw [← hu0] at SG la szn szi sum1 sum2
      rw [s0] at sum2
      have goal : ∀ G', Same H G' → ∀ (D' : Addr) (w2 w3 w4 w5 w6 : Option V), SDc C G' D' L (mv1 u r.key) → ∃ (D : Addr) (v2 v3 v4 v5 v6 : Option V), [some (.ref D'), some (.ref l), w2, w3, w4, w5, w6] = [some (.ref D), some (.ref l), v2, v3, v4, v5, v6] ∧ Same H G' ∧ SDc C G' D L (runK c ((rows.map Ro.key).take (i + 1))) := fun G' sm D' w2 w3 w4 w5 w6 S' => ⟨D', _, _, _, _, _, rfl, sm, by rw [e2, runK_snoc, ← hu0]; exact S'⟩
      -- behind it
      refine ⟨_, rfl, _, rfl, by show 1 ≤ sizeLine; decide, fun sl fsl => ?_⟩
      have ss := same_new (o := .lst [V.ref r.a]) fsl
      have hsl : HL C (upd G sl (.lst [V.ref r.a])) sl [r] := ⟨upd_same, fun q hq => by
        rw [List.mem_singleton.mp hq]
        exact ⟨ss _ _ (sG _ _ hra), hrs.keep (sG.trans ss)⟩⟩
      refine ⟨D, sl, L, u, [r], rfl, SG.same ss, nd, hsl, szi, fun q hq => by rw [List.mem_singleton.mp hq]; exact zv, by omega, by show 1 ≤ 1; decide, fun D2 G2 g2 fD2 S2 => ?_⟩
      have eD : mvL (L, u) (mvs [r]) = (L, mv1 u r.key) := mv_one m1 m2
      rw [eD] at S2
      have S2 : SDc C G2 D2 L (mv1 u r.key) := S2
      have SG2 := SG.same (ss.trans g2)
      have s02 := sG.trans (ss.trans g2)
      -- the signs
      refine ⟨_, rfl, D, L, u, rfl, SG2, nd, by omega, fun o1 G3 g3 fo1 ho1 => ⟨_, rfl, D2, L, mv1 u r.key, rfl, S2.same g3, nd, by omega, fun o2 G4 g4 fo2 ho2 => ⟨by show 2 ≤ sizeLine; decide, fun T0 fT0 => ?_⟩⟩⟩
      have n12 : o1 ≠ o2 := fun z => by rw [← z, ho1] at fo2; cases fo2
      have sT := same_new (o := .tup [.ref o1, .ref o2]) fT0
      refine ⟨T0, _, rfl, SqT.of upd_same, rfl, _, _, rfl, _, _, rfl, rfl, ?_⟩
      have ho1 := sT _ _ (g4 _ _ ho1)
      have ho2 := sT _ _ ho2
      have g25 := g3.trans (g4.trans sT)
      generalize upd G4 T0 (.tup [.ref o1, .ref o2]) = G5 at ho1 ho2 g25
      -- nobody beyond nought
      refine ⟨o2, _, ho2, trivial, fun od => ?_⟩
      obtain ⟨hd1, kp1, new1, back1⟩ := lockV ho2 od
      have h1f := kp1 _ _ ho1 n12
      generalize upd G5 o2 (.frz od (dctO L fun x => .int (sg3 (mv1 u r.key x)))) = F1 at hd1 kp1 new1 back1 h1f
      refine ⟨_, rfl, o2, od, rfl, .inl ⟨_, hd1, fun B hB => lc_it walk_keys (fun i H2 => H2 B = some (.lst []) ∧ Same F1 H2) ⟨upd_same, same_new hB⟩ (fun i H2 _ z => z.2 _ _ hd1) ?_ ?_⟩⟩
      · rintro j x H2 H3 hj ⟨hB2, sm⟩ ⟨eH, kk, v, hkk, rfl⟩
        have eH := eH.symm
        subst eH
        rw [List.getElem?_map] at hkk
        obtain ⟨z, hz0, e0⟩ := Option.map_eq_some_iff.mp hkk
        cases e0
        have hzL := List.mem_of_getElem? hz0
        refine ⟨rfl, ?_⟩
        have dg2 : DGet H2 o2 (.str z) (some (.int (sg3 (mv1 u r.key z)))) := .inl ⟨_, Sum.inr z, .inr ⟨od, sm _ _ hd1⟩, rfl, (DQ.val_map (fun x => V.int (sg3 (mv1 u r.key x))) hzL).symm⟩
        have h12 := sm _ _ h1f
        have dg1 : ∀ {H' : Hp}, H' o1 = some (dctO L fun x => V.int (sg3 (u x))) → DGet H' o1 (.str z) (some (.int (sg3 (u z)))) := fun {H'} h => by
          have := DGet.k (k := Sum.inr z) h
          rw [DQ.val_map (fun x => V.int (sg3 (u x))) hzL] at this
          exact this
        refine ⟨_, rfl, _, rfl, o2, _, rfl, dg2, _, rfl, _, rfl, o1, _, rfl, dg1 h12, by show 2 ≤ sizeLine; decide, fun q fq => ?_⟩
        have sq := same_new (o := .tup [.int 0, .int (sg3 (u z))]) fq
        refine ⟨q, _, rfl, .inr (SqT.of upd_same), rfl, rfl, _, rfl, ?_⟩
        rw [inV_two (sg3_mv la z)]
        exact iteF ⟨sq _ _ hB2, sm.trans sq⟩
      rintro H2 ⟨hB2, sm⟩
      obtain ⟨nB, nBd⟩ := new1 B hB
      have s2' := back1 H2 sm
      refine ⟨sm _ _ hd1, ?_⟩
      have hB3 : (upd H2 o2 (dctO L fun x => .int (sg3 (mv1 u r.key x)))) B = some (.lst []) := by rw [upd_ne nBd]; exact hB2
      generalize upd H2 o2 (dctO L fun x => .int (sg3 (mv1 u r.key x))) = G6 at s2' hB3
      refine ⟨by show 0 ≤ sizeLine; decide, fun e0 fe => ?_⟩
      have s6 := same_new (o := .lst []) fe
      refine ⟨.list [], .list [], .lst (SqL.of (s6 _ _ hB3)) .nil, .lst (SqL.of upd_same) .nil, by rfl, by rfl, _, rfl, ?_⟩
      have ee : PyData.eqv (.list []) (.list []) = true := by simp [PyData.eqv, PyData.eqvAll]
      rw [ee]
      refine iteF ?_
      have g26 := g25.trans (s2'.trans s6)
      generalize upd G6 e0 (.lst []) = G7 at g26
      obtain ⟨ad, hd7, hv7⟩ := S2.same g26
      -- all together
      refine ⟨_, rfl, D2, _, rfl, hd7, fun l2 fl => ?_⟩
      have sl2 := same_new (o := .lst ((L.map fun x => ((Sum.inr x : Key), V.ref (ad x))).map (·.2))) fl
      have el : ((L.map fun x => ((Sum.inr x : Key), V.ref (ad x))).map (·.2)) = (L.map fun x => (ad x, mv1 u r.key x)).map fun y => V.ref y.1 := by rw [List.map_map, List.map_map]; rfl
      refine ⟨l2, L.map fun x => (ad x, mv1 u r.key x), 300, rfl, ⟨by rw [← el]; exact SqL.of upd_same, fun y hy => ?_⟩, fun y hy => ?_, by rw [List.length_map]; omega, by decide, fun t G8 s8 ft ht => ?_⟩
      · obtain ⟨x, hx, rfl⟩ := List.mem_map.mp hy
        exact (hv7 x hx).keep sl2
      · obtain ⟨x, hx, rfl⟩ := List.mem_map.mp hy
        exact szn x hx
      have e8 : ratsOf (L.map fun x => (ad x, mv1 u r.key x)) = L.map (mv1 u r.key) := by unfold ratsOf; rw [List.map_map]; rfl
      rw [e8, sum2] at ht
      intro x0 dx0 nx0 nd0 ne0
      refine mk_in (n := 1) nx0 nd0 (by decide) (by decide) (by decide) (by decide) fun G9 s9 h9 => ⟨rfl, ?_⟩
      rw [div01] at h9
      obtain ⟨da, ea⟩ := ht.keep s9
      obtain ⟨db, eb⟩ := id h9
      refine ⟨t, da, _, x0, db, _, rfl, rfl, ea, eb, t, x0, 0, 0, rfl, ⟨da, ea⟩, h9, _, rfl, _, rfl, ?_⟩
      rw [decide_eq_true (rfl : (0 : Rat) = 0)]
      refine iteF ?_
      have s29 := g26.trans (sl2.trans (s8.trans s9))
      exact ⟨_, rfl, goal _ (s02.trans s29) _ _ _ _ _ _ (S2.same s29)⟩
    · rintro σ G ⟨D, v2, v3, v4, v5, v6, rfl, sG, SG⟩
      rw [List.length_map, ← lk, take_all] at SG
      exact ⟨_, rfl, hQ D G sG SG⟩
end
end K60.Q
set_option Elab.async false
set_option linter.all false
set_option maxRecDepth 100000
set_option maxHeartbeats 4000000
namespace K60
open PySem PySem.Spec PyProof.Rows L2
open C8 (Cal Mak Met pe_c pe_mk pe_mt pe_mt0)
open LamX (Tabs ExtN TabB)
open KM (pr Sz)
open SX (S)
theorem S_inj {a b : List Nat} (h : S a = S b) : a = b := by
  have := congrArg (fun s : Str => s.cps.toList) h
  simpa [S] using this
theorem ord_of {zs : List (List Nat)} (h0 : 0 < zs.length) (h8 : zs.length ≤ 8) (ok : ∀ z ∈ zs, NM.ok z) (pw : zs.Pairwise (· ≠ ·)) : Ord (zs.map S) := by
  refine ⟨fun z => ?_, by rw [List.length_map]; exact h8, ?_, fun x hx => ?_⟩
  · have := congrArg List.length z
    rw [List.length_map] at this
    simp at this
    rw [this] at h0
    exact absurd h0 (by decide)
  · exact List.pairwise_map.mpr (pw.imp fun h e => h (S_inj e))
  · obtain ⟨z, hz, rfl⟩ := List.mem_map.mp hx
    exact ⟨z, rfl, ok z hz⟩
theorem tabs_kp {T : List (Addr × Str)} {h : Addr} {H H' : Hp} {c : Nat} (t : Tabs T H) (k : Kp h H H') (x : Held H h c) : Tabs T H' := by
  obtain ⟨l, ns, n, m, h1, _⟩ := x
  intro p hp
  obtain ⟨q, hq, tq, cq⟩ := t p hp
  refine ⟨q, k.1 _ _ hq (fun z => by rw [z, h1] at hq; cases hq), tq, fun pos cv e => ?_⟩
  obtain ⟨c0, e1, e2⟩ := cq pos cv e
  exact ⟨c0, e1, k.1 _ _ e2 (fun z => by rw [z, h1] at e2; cases e2)⟩
theorem held_nt {H : Hp} {h a : Addr} {c : Nat} {ys : List V} (x : Held H h c) (e : H a = some (.tup ys)) : a ≠ h := fun z => by
  obtain ⟨l, ns, n, m, h1, _⟩ := x
  rw [z, h1] at e
  cases e
theorem sdc_noh {C D h : Addr} {H : Hp} {L : List Str} {c : Str → Rat} {k : Nat} (x : Q.SDc C H D L c) (he : Held H h k) : D ≠ h := fun z => by
  obtain ⟨ad, h1, _⟩ := x
  obtain ⟨l, ns, n, m, h2, _⟩ := he
  rw [z, h2] at h1
  have e := HO.dK.inj (Option.some.inj h1)
  unfold hd0 at e
  match L with
  | [] => simp at e
  | [_] => simp at e
  | _ :: _ :: _ => simp at e
theorem sdc_kp {C D h : Addr} {H H' : Hp} {L : List Str} {c : Str → Rat} {k : Nat} (he : Held H h k) (x : Q.SDc C H D L c) (n : D ≠ h) (kp : Kp h H H') : Q.SDc C H' D L c := by
  obtain ⟨ad, h1, h2⟩ := x
  refine ⟨ad, kp.1 _ _ h1 n, fun y hy => ?_⟩
  obtain ⟨dx, e⟩ := h2 y hy
  refine ⟨dx, kp.1 _ _ e fun z => ?_⟩
  obtain ⟨l, ns, a, b, h3, _⟩ := he
  rw [z, h3] at e
  cases e
theorem dp_one {K : PySem.W.Frag} {H : Hp} {pt : Str → Addr} {v : Int × Int} : ∀ {xs : List Str}, (∀ x ∈ xs, H (pt x) = some (tupP v)) → DpAll K H (xs.map fun x => V.ref (pt x)) (xs.map fun _ => DQ.pD v)
  | [], _ => .nil
  | x :: xs, h => .cons (DQ.dp_pair (h x List.mem_cons_self)) (dp_one fun y hy => h y (List.mem_cons_of_mem _ hy))
theorem dp_rep {K : PySem.W.Frag} {H : Hp} {q : Addr} {v : Int × Int} (h : H q = some (tupP v)) : ∀ n : Nat, DpAll K H (List.replicate n (V.ref q)) ((List.replicate n v).map DQ.pD)
  | 0 => .nil
  | n + 1 => .cons (DQ.dp_pair h) (dp_rep h n)
/-- what stands while the rides go -/
structure M6 (K : PySem.W.Frag) (CT h tu ru ot ps : Addr) (xs : List Str) (wd : Word) (hd kp : Addr) (days : List (List Str)) (drs : List Str) (n : Nat) (H : Hp) : Prop where
  held : Held H h n
  rl : Rule3 H ru ot xs wd
  tr : Tr CT H tu ru hd kp ps
  ch : Crd H hd xs (cf days drs)
  ck : KeptOk drs.length wd xs H kp
  pa : H ps = some (.lst (drs.map V.str))
  tb : Tabs (T0 K) H
  dy : ∀ R ∈ days, DayOk xs R
  ll : days.length = drs.length
  sub : ∀ y ∈ drs, y ∈ xs
  ce : Cel h ps H
  ne : h ≠ tu
section
variable {K : PySem.W.Frag} {CT h tu ru ot ps : Addr} {xs : List Str} {wd : Word} {hd kp hd' kp' : Addr} {days : List (List Str)} {drs : List Str} {n n' : Nat} {H H' : Hp}
theorem M6.kept (m : M6 K CT h tu ru ot ps xs wd hd kp days drs n H) (k : Kp h H H') (hh : Held H' h n') : M6 K CT h tu ru ot ps xs wd hd kp days drs n' H' := by
  have tk : ∀ (b : Addr) (ys : List V), H b = some (.tup ys) → H' b = some (.tup ys) := fun b ys e => k.1 _ _ e (held_nt m.held e)
  obtain ⟨dx, e⟩ := m.tr
  exact ⟨hh, m.rl.ext tk, ⟨dx, k.1 _ _ e m.ne.symm⟩, tk _ _ m.ch, m.ck.ext tk, k.1 _ _ m.pa m.ce.ne, tabs_kp m.tb k m.held, m.dy, m.ll, m.sub, m.ce.kp k, m.ne⟩
theorem M6.same (m : M6 K CT h tu ru ot ps xs wd hd kp days drs n H) (s : Same H H') : M6 K CT h tu ru ot ps xs wd hd kp days drs n H' := m.kept (Kp.same s) (m.held.same s)
theorem M6.weak (m : M6 K CT h tu ru ot ps xs wd hd kp days drs n H) (le : n' ≤ n) : M6 K CT h tu ru ot ps xs wd hd kp days drs n' H := m.kept (Kp.refl h H) (m.held.weak le)
theorem M6.ride {R : List Str} {y : Str} {H3 : Hp} (m : M6 K CT h tu ru ot ps xs wd hd kp days drs n H) (dy : DayOk xs R) (hy : y ∈ R) (k3 : KpT tu ps H H3) (tb : Tabs (T0 K) H3) (tr : Tr CT H3 tu ru hd' kp' ps) (ch : Crd H3 hd' xs (nxt R y (cf days drs))) (ck : KeptOk (drs.length + 1) wd xs H3 kp')
    (pa : H3 ps = some (.lst (drs.map V.str ++ [.str y]))) : M6 K CT h tu ru ot ps xs wd hd' kp' (days ++ [R]) (drs ++ [y]) n H3 := by
  have keep : ∀ b o, H b = some o → (∀ q, o ≠ .tbl q) → b ≠ tu → b ≠ ps → H3 b = some o := k3
  obtain ⟨dx, et⟩ := m.tr
  have tk : ∀ (b : Addr) (ys : List V), H b = some (.tup ys) → H3 b = some (.tup ys) := fun b ys e => keep _ _ e (fun q z => by cases z) (fun z => by rw [z, et] at e; cases e) (fun z => by have := m.pa; rw [z, this] at e; cases e)
  obtain ⟨l, ns, p, q, h1, h2, h34⟩ := m.held
  have hh3 := keep _ _ h1 (fun q z => by cases z) m.ne m.ce.ne.symm
  have nlt : l ≠ tu := fun z => by rw [z, et] at h2; cases h2
  have nlp : l ≠ ps := by
    obtain ⟨la, n0, m0, c1, c2, _⟩ := m.ce
    rw [h1] at c1
    rw [hd_inj (Option.some.inj c1)]
    exact c2
  have held3 : Held H3 h n := ⟨l, ns, p, q, hh3, keep _ _ h2 (fun q z => by cases z) nlt nlp, h34⟩
  refine ⟨held3, m.rl.ext tk, tr, by rw [← cf_next]; exact ch, by rw [List.length_append]; exact ck, by rw [pa, List.map_append]; rfl, tb, fun R' hR => ?_, by rw [List.length_append, List.length_append, m.ll]; rfl, fun z hz => ?_, ⟨l, p, q, hh3, nlp, m.ce.ne.symm⟩, m.ne⟩
  · rcases List.mem_append.mp hR with z | z
    · exact m.dy R' z
    · rw [List.mem_singleton.mp z]
      exact dy
  · rcases List.mem_append.mp hz with q | q
    · exact m.sub z q
    · rw [List.mem_singleton.mp q]
      exact dy.sub y hy
end
section
variable {P : Program} {w : World} {K : PySem.W.Frag} {mg : Str → Option Value} {base : Heap} {f C CT : Addr} {fd : FuncData}
def spLaw (K : PySem.W.Frag) : Sp := fun vs H Q _ => ∃ (a : Addr) (ns : List Int), vs = [.ref a] ∧ SqL K H a (ns.map V.int) ∧ ns.length ≤ 63 ∧ Tabs (T0 K) H ∧ ∀ H', Q (.bl true) H'
theorem ok_law (F : Dn K d_law f fd) (bl : Bl mg) (b2 : Bl2 mg) (cH : Cal P w K mg base 1 "_law_held" (spHeld K) []) (cD : CalD P w K mg base) (cNm : Cal P w K mg base 2 "_law_names" spNames []) (cDy : Cal P w K mg base 2 "_law_day" spDay []) (cRl : Cal P w K mg base 2 "_law_rule" spRl []) (cP : Cal P w K mg base 1 "_law_pair" (spPair C) [])
    (cHd : Cal P w K mg base 2 "_law_handed" (Q.spHd C) []) (cSe : Cal P w K mg base 8 "settled" (Q.spSe C) []) (cPO : Cal P w K mg base 7 "paid_off" (Q.spPO C) []) (cGR : Cal P w K mg base 7 "_law_gone_right" (Q.spGR C) [])
    (MT : Mak P w K mg base 4 "Turns" CT (spTi CT) []) (mR : Met P w K mg base 6 CT "ride" (spRide K CT) []) (mS : Met P w K mg base 4 CT "stands" (spSt C CT) []) :
    FnOk P w K mg base CX0 9 f fd ["_law_script"] (spLaw K) := by
  refine F.ok sc_law (fun vs H Q E h => ?_) (fun cdv A outer s H vs Q E hr h => ?_)
  · obtain ⟨a, ns, rfl, _⟩ := h
    rfl
  · obtain ⟨s0, ns, rfl, hS, hlen, tabs, hQ⟩ := h
    have hu := hu_of hr
    have hu64 : (A.deeper (envOfC d_law.qual d_law.scope s.heap.objs.size f cdv)).units + 64 < cLine := by have := hr.un; omega
    refine ⟨_, PSs.nox (pss_cons (ps_set (i := 1) sc_law.nd rfl (.inl rfl) (pe_c cH hr (by decide) rfl (pa_cons (pv 0) pa_nil)))
      (C8.pss_cut (ps_set (i := 2) sc_law.nd rfl (.inl rfl) (pe_callTy call_tuple_of rfl b2.tup boot_tuple (pa_cons (pe_c cNm hr (by decide) rfl (pa_cons (pv 1) (pa_cons (pe_op op_add pe_int (pe_c cD hr (by decide) rfl (pa_cons (pv 1) (pa_cons pe_int pa_nil)))) pa_nil))) pa_nil)))
      (pss_cons (ps_set (i := 3) sc_law.nd rfl (.inl rfl) (pe_mk MT hr (by decide) rfl (pa_cons (pe_c cRl hr (by decide) rfl (pa_cons (pv 1) (pa_cons (pv 2) pa_nil))) pa_nil)))
      (pss_cons (ps_for PassesOwn.never rfl (pi_range1 rfl bl.range (pa_cons (pe_op op_add pe_int (pe_c cD hr (by decide) rfl (pa_cons (pv 1) (pa_cons pe_int pa_nil)))) pa_nil)) (pg_name (i := 4) sc_law.nd rfl (.inl rfl))
        (pss_one (ps_expr (pe_mt mR hr (by decide) (pv 3) (pa_cons (pe_c cDy hr (by decide) rfl (pa_cons (pv 1) (pa_cons (pv 2) pa_nil))) pa_nil)))))
      (pss_cons (ps_set (i := 5) sc_law.nd rfl (.inr rfl) (pe_mt0 mS hr (by decide) (pv 3)))
      (pss_cons (ps_set (i := 6) sc_law.nd rfl (.inl rfl) (pe_c cSe hr (by decide) rfl (pa_cons (pv 5) pa_nil)))
      (pss_cons (ps_set (i := 7) sc_law.nd rfl (.inr rfl) (pe_c cGR hr (by decide) rfl (pa_cons (pv 5) (pa_cons (pv 6) pa_nil))))
      (pss_cons (ps_if (PW.pt (pw_or (pt_cmpR op_isN1 (pv 7) pe_non (nomark _)) (pw_or1 (pt_cmpR (op_neD hu64) (pe_lc (own := [("_law_name", 8)]) (g := gName 8) rfl sc_law.nd (pi_tup (pv 2)) (blkOk_by (N := N_law) (sc := defScope s_law) (by decide +kernel))
          (fun _ _ _ _ _ => pg_name (i := 8) sc_law.nd rfl (Or.inl rfl)) (fun _ _ _ _ _ => pts_one (pt_cmpR (r := rNeD K) (op_neD hu64) (pe_c cP hr (by decide) rfl (pa_cons (pe_dget hu (pv 7) (pv 8) (fun _ _ => rfl)) pa_nil)) (pe_tup (pa_cons pe_int (pa_cons pe_int pa_nil))) (nomark _))) (fun _ _ _ _ _ => pv 8)) (pe_lst pa_nil) (nomark _))))) pss_never pss_nil)
      (pss_cons (ps_if (pt_cmpR op_ge (pe_callB call_len_seq rfl bl.len boot_len (pa_cons (pv 6) pa_nil)) (pe_callB call_len_seq rfl bl.len boot_len (pa_cons (pv 2) pa_nil)) (nomark _)) pss_never pss_nil)
      (pss_cons (ps_par (i := 9) (j := 10) rfl sc_law.nd rfl rfl (by decide) rfl rfl (pa_cons (pe_callTy call_list_of rfl bl.list boot_list (pa_cons (pv 2) pa_nil)) (pa_cons (pe_lst pa_nil) pa_nil)) rfl)
      (pss_cons (ps_while PassesOwn.never (pt_cmpR (op_neD hu64) (pv 9) (pe_lst pa_nil) (nomark _))
        (pss_cons (ps_set (i := 8) sc_law.nd rfl (.inl rfl) (pe_bm PySem.F.plainAttrs_list PySem.F.slot_list_pop PySem.F.type_list_pop mt_popAt (pv 9) (pa_cons (pe_c cD hr (by decide) rfl (pa_cons (pv 1) (pa_cons (pe_callB call_len_seq rfl bl.len boot_len (pa_cons (pv 9) pa_nil)) pa_nil))) pa_nil)))
        (pss_cons (ps_set (i := 6) sc_law.nd rfl (.inl rfl) (pe_c cPO hr (by decide) rfl (pa_cons (pv 5) (pa_cons (pv 8) pa_nil))))
        (pss_cons (ps_set (i := 5) sc_law.nd rfl (.inr rfl) (pe_c cGR hr (by decide) rfl (pa_cons (pv 5) (pa_cons (pv 6) pa_nil))))
        (pss_cons (ps_expr (pe_bm PySem.F.plainAttrs_list PySem.F.slot_list_append PySem.F.type_list_append mt_append (pv 10) (pa_cons (pv 8) pa_nil)))
        (pss_cons (ps_if (PW.pt (pw_or (pt_cmpR op_isN1 (pe_c cHd hr (by decide) rfl (pa_cons (pv 6) pa_nil)) pe_non (nomark _)) (pw_or1 (pt_cmpR op_isN1 (pv 5) pe_non (nomark _))))) pss_never pss_nil)
        (pss_one (ps_if (pt_cmpR (op_neD hu64) (pe_lc (own := [("_law_one", 11)]) (g := gName 11) rfl sc_law.nd (pi_list (pv 10)) (blkOk_by (N := N_law) (sc := defScope s_law) (by decide +kernel))
            (fun _ _ _ _ _ => pg_name (i := 11) sc_law.nd rfl (Or.inl rfl)) (fun _ _ _ _ _ => pts_one (pt_cmpR (r := rNeD K) (op_neD hu64) (pe_c cP hr (by decide) rfl (pa_cons (pe_dget hu (pv 5) (pv 11) (fun _ _ => rfl)) pa_nil)) (pe_tup (pa_cons pe_int (pa_cons pe_int pa_nil))) (nomark _))) (fun _ _ _ _ _ => pv 11)) (pe_lst pa_nil) (nomark _)) pss_never pss_nil))))))))
      (pss_one (ps_ret (pe_cmpR (op_eqD hu64) (pe_lc (own := [("_law_name", 8)]) (g := gName 8) (tt := tYes) rfl sc_law.nd (pi_tup (pv 2)) (blkOk_by (N := N_law) (sc := defScope s_law) (by decide +kernel))
          (fun _ _ _ _ _ => pg_name (i := 8) sc_law.nd rfl (Or.inl rfl)) (fun _ _ _ _ _ => pts_nil) (fun _ _ _ _ _ => pe_c cP hr (by decide) rfl (pa_cons (pe_dget hu (pv 5) (pv 8) (fun _ _ => rfl)) pa_nil))) (pe_op op_rep (pe_lst (pa_cons (pe_tup (pa_cons pe_int (pa_cons pe_int pa_nil))) pa_nil)) (pe_callB call_len_seq rfl bl.len boot_len (pa_cons (pv 2) pa_nil))) (nomark _))))))))))))))), ?_⟩
    refine ⟨_, rfl, s0, ns, rfl, hS, hlen, fun h H1 s1 f1 held1 => ?_⟩
    have t1 := tabs.ext s1
    -- the order
    refine ⟨fun σ' H' => ∃ (ot : Addr) (xs : List Str), σ' = [some (.ref s0), some (.ref h), some (.ref ot), none, none, none, none, none, none, none, none, none] ∧ H' ot = some (.tup (xs.map V.str)) ∧ Ord xs ∧ Held H' h 800000000 ∧ Tabs (T0 K) H', ?_, ?_⟩
    · refine ⟨_, rfl, _, rfl, h, 800000041, 7, rfl, held1.weak (by decide), by decide, by decide, fun m H2 m0 m7 held2 k2 => ?_⟩
      obtain ⟨k, rfl⟩ : ∃ k : Nat, m = k := ⟨m.toNat, by omega⟩
      refine ⟨_, _, rfl, rfl, h, 800000001, 2 + k, rfl, held2.weak (by decide), by omega, fun o zs H3 held3 k3 fo ho zl zok zpw => ?_⟩
      refine ⟨o, _, rfl, .inl ⟨SqL.of ho, fun ot fot => ?_⟩⟩
      have sot := same_new (o := .tup (zs.map fun l => V.str (S l))) fot
      refine ⟨ot, zs.map S, rfl, ?_, ord_of (by omega) (by omega) zok zpw, (held3.same sot).weak (by decide), ?_⟩
      · rw [upd_same, List.map_map]
        rfl
      · exact Tabs.ext (tabs_kp (tabs_kp t1 k2 held1) k3 held2) sot
    rintro σ' H2 ⟨ot, xs, rfl, hot2, ox, held2, t2⟩
    have xpos : 0 < xs.length := List.length_pos_iff.mpr ox.ne
    have l8 := ox.l8
    -- the Turns
    refine ⟨_, rfl, _, rfl, h, ot, 700000000, xs, rfl, held2.weak (by decide), hot2, ox, fun ru wd H3 held3 k3 rl => ?_⟩
    have t3 := tabs_kp t2 k3 held2
    intro tu dx ntu ndx nne
    have lift : ∀ b o, H3 b = some o → (upd (upd H3 dx (.own tu)) tu (.ins CT dx [])) b = some o := fun b o e => by
      rw [upd_ne (ne_of_none e ntu), upd_ne (ne_of_none e ndx)]
      exact e
    refine ⟨tu, dx, ru, ot, xs, wd, rfl, upd_same, rl.ext fun b ys e => lift _ _ e, fun H4 hd kp ps back fps htu hcd hck hps => ⟨rfl, ?_⟩⟩
    have s34 : Same H3 H4 := fun b o e => back b o (ne_of_none e ntu) (lift b o e)
    have fps' : H3 ps = none := by
      cases e : H3 ps with
      | none => rfl
      | some o => rw [lift ps o e] at fps; cases fps
    have held4 := held3.same s34
    have ce4 : Cel h ps H4 := (Cel.of held3 fps').kp (Kp.same s34)
    have M4 : M6 K CT h tu ru ot ps xs wd hd kp [] [] 700000000 H4 := by
      obtain ⟨_, _, _, _, hh3, _⟩ := id held3
      have e1 : h ≠ tu := ne_of_none hh3 ntu
      exact ⟨held4, rl.same s34, ⟨dx, htu⟩, by rw [cf_nil]; exact hcd, hck, hps, Tabs.ext t3 s34, fun R hR => (nomatch hR), rfl, fun y hy => (nomatch hy), ce4, e1⟩
    clear held4 ce4 t3 lift back fps fps' hck hcd hps htu
    -- the rides
    refine ⟨_, rfl, h, 699999999, 25, rfl, M4.held.weak (by decide), by decide, by decide, fun m0 H5 m00 m01 held5 k5 => ⟨_, _, rfl, rfl, ?_⟩⟩
    have M5 := M4.kept k5 held5
    obtain ⟨m, hm⟩ : ∃ m : Nat, (1 : Int) + m0 = (m : Int) := ⟨(1 + m0).toNat, by omega⟩
    have m25 : m ≤ 25 := by omega
    have hv : (fun i j => V.int (i + j)) 1 m0 = V.int (m : Int) := congrArg V.int hm
    rw [hv]
    refine ⟨_, rfl, by omega, by omega, ?_⟩
    rw [Int.toNat_natCast]
    refine for_range (n := m) (fun i σ H' => ∃ (v4 : Option V) (hd kp : Addr) (days : List (List Str)) (drs : List Str), σ = [some (.ref s0), some (.ref h), some (.ref ot), some (.ref tu), v4, none, none, none, none, none, none, none] ∧ M6 K CT h tu ru ot ps xs wd hd kp days drs (600000000 - 100 * i) H' ∧ drs.length = i)
      ⟨_, hd, kp, [], [], rfl, M5.weak (by omega), rfl⟩ ?_ ?_
    · rintro i σ Ha hi ⟨v4, hd, kp, days, drs, rfl, Ma, dln⟩
      obtain ⟨dx, htu⟩ := Ma.tr
      refine ⟨_, rfl, tu, dx, _, rfl, htu, tr_no _ _ _ _ (by decide +kernel) (by decide +kernel) (by decide +kernel) (by decide +kernel), _, rfl, _, rfl, h, ot, 600000000 - 100 * i - 50, xs, rfl, Ma.held.weak (by omega), Ma.rl.ho, ox.ne, ox.nd, by omega, fun rd R Hb heldb kb frd hrd dyp => ?_⟩
      have Mb := Ma.kept kb heldb
      have nps : rd ≠ ps := fun z => by have := Ma.pa; rw [← z, frd] at this; cases this
      refine ⟨tu, rd, ru, ot, hd, kp, ps, xs, R, wd, drs.length, _, _, rfl, Mb.tr, Mb.rl, Mb.ch, Mb.ck, by omega, hrd, dyp, Mb.tb, Mb.pa, by rw [List.length_map]; omega, nps, fun Hd hd' kp' y kT tbd hy trd chd ckd pad => ?_⟩
      exact ⟨_, hd', kp', days ++ [R], drs ++ [y], rfl, (Mb.ride dyp hy kT tbd trd chd ckd pad).weak (by omega), by rw [List.length_append, dln]; rfl⟩
    rintro σ H6 ⟨v4, hd, kp, days, drs, rfl, M6', dln⟩
    clear M4 M5
    obtain ⟨dx, htu⟩ := M6'.tr
    obtain ⟨c, hc⟩ : ∃ c : Str → Rat, c = fun x => rt (cf days drs x) := ⟨_, rfl⟩
    refine ⟨_, rfl, tu, dx, _, rfl, htu, tr_no _ _ _ _ (by decide +kernel) (by decide +kernel) (by decide +kernel) (by decide +kernel), tu, ru, ot, hd, kp, ps, xs, wd, _, rfl, M6'.tr, M6'.rl, M6'.ch, fun D H7 ad s7 fD hD hval => ?_⟩
    have small : ∀ x, (cf days drs x).natAbs ≤ 42000 := fun x => by
      have := cf_small (drs := drs) l8 M6'.dy x
      have := M6'.ll
      omega
    have Sd : K60.Q.SDc C H7 D xs c := by
      rw [hc]
      exact ⟨ad, hD, hval⟩
    have sc : ∀ x ∈ xs, K60.Q.Cs (c x) := fun x _ => by rw [hc]; exact K60.Q.cs_rt (small x)
    have s0' : K60.Q.sumR (xs.map c) = 0 := by
      rw [hc]
      have e := rt_sum (cf days drs) xs
      rw [cf_sum ox M6'.dy M6'.sub M6'.ll] at e
      have z : rt 0 = 0 := by unfold rt; exact Rat.zero_divInt 840
      rw [z] at e
      exact e
    have crd : K60.Q.Crd xs c 840 := ⟨ox.nd, by omega, by decide, by decide, fun x _ => by rw [hc]; exact ⟨cf days drs x, rfl, small x⟩, s0'⟩
    have hot7 := s7 _ _ M6'.rl.ho
    have held7 := (M6'.held.weak (show 100 ≤ 600000000 - 100 * m by omega)).same s7
    have nDh : D ≠ h := fun z => by
      obtain ⟨_, _, _, _, hh, _⟩ := M6'.held
      rw [z, hh] at fD
      cases fD
    clear M6' small hval hD hc htu
    -- all settled
    refine ⟨_, rfl, D, xs, c, rfl, Sd, ox.nd, by omega, sc, s0', fun ro H8 rows s8 fro hro done => ?_⟩
    refine ⟨_, rfl, _, rfl, D, ro, xs, c, rows, rfl, Sd.same s8, ox.nd, l8, hro, done.led, done.mem, done.szv, done.szr, s0', fun D2 H9 s9 Sd2 => ⟨_, rfl, rfl, _, rfl, iteF ?_⟩⟩
    have s79 := s8.trans s9
    have hot9 := s79 _ _ hot7
    obtain ⟨a2, hd2, hv2⟩ := id Sd2
    have pr0 : ∀ {c : Str → Rat} {z : Str}, c z = 0 → pr (c z) = (0, 1) := fun {c z} h => by rw [h]; rfl
    refine ⟨_, rfl, ot, rfl, ⟨_, SqT.of hot9⟩, fun B hB => lc_tup (xs := xs.map V.str) (fun j H' => H' B = some (.lst []) ∧ Same H9 H') ⟨upd_same, same_new hB⟩ (fun _ H' _ z => SqT.of (z.2 _ _ hot9)) ?_ ?_⟩
    · rintro j x Ha hx ⟨hBa, sm⟩
      rw [List.getElem?_map] at hx
      obtain ⟨z, hz, rfl⟩ := Option.map_eq_some_iff.mp hx
      have hzx := List.mem_of_getElem? hz
      refine ⟨rfl, _, rfl, _, rfl, D2, _, rfl, K60.Q.dct_dg (sm _ _ hd2) hzx, a2 z, _, rfl, (hv2 z hzx).keep sm, fun p3 Hb sb fp3 hp3 => ?_⟩
      refine ⟨by show 2 ≤ sizeLine; decide, fun q fq => ?_⟩
      have sq := same_new (o := .tup [.int 0, .int 1]) fq
      rw [pr0 (done.zero z hzx)] at hp3
      refine ⟨_, _, DQ.dp_pair (sq _ _ hp3), DQ.dp_pair (q := (0, 1)) upd_same, DQ.sh_pair _, DQ.sh_pair _, _, rfl, ?_⟩
      rw [DQ.eq_pair]
      exact iteF ⟨sq _ _ (sb _ _ hBa), (sm.trans sb).trans sq⟩
    rintro Ha ⟨hBa, sa⟩
    refine ⟨by show 0 ≤ sizeLine; decide, fun e0 fe => ?_⟩
    have s6 := same_new (o := .lst []) fe
    refine ⟨.list [], .list [], .lst (SqL.of (s6 _ _ hBa)) .nil, .lst (SqL.of upd_same) .nil, by rfl, by rfl, _, rfl, ?_⟩
    have ee : PyData.eqv (.list []) (.list []) = true := by simp [PyData.eqv, PyData.eqvAll]
    rw [ee]
    refine iteF ?_
    have s7b := s79.trans (sa.trans s6)
    have s8b := s9.trans (sa.trans s6)
    generalize upd Ha e0 (.lst []) = Hb at s7b s8b
    refine ⟨_, rfl, ro, _, rfl, .inl (SqL.of (s8b _ _ hro.1)), _, rfl, ot, _, rfl, .inr (SqT.of (s7b _ _ hot7)), _, _, rfl, rfl, _, rfl, ?_⟩
    have few := done.fewer ox.ne
    rw [List.length_map] at few
    refine K60.Q.iteFE (decide_eq_false (by rw [List.length_map, List.length_map]; omega)) ?_
    -- one by one
    have hotb := s7b _ _ hot7
    have heldb := held7.same s7b
    refine ⟨_, rfl, ot, _, rfl, .inr (SqT.of hotb), fun lf flf => ⟨by show 0 ≤ sizeLine; decide, fun pd fpd => ⟨_, _, rfl, ?_⟩⟩⟩
    have slf := same_new (o := .lst (xs.map V.str)) flf
    have spd := same_new (o := .lst []) fpd
    have nlp : lf ≠ pd := ne_of_none upd_same fpd
    have fpdb : Hb pd = none := slf.free fpd
    have s7c := s7b.trans (slf.trans spd)
    have clf : Cel h lf (upd (upd Hb lf (.lst (xs.map V.str))) pd (.lst [])) := (Cel.of heldb flf).kp (Kp.same (slf.trans spd))
    have cpd : Cel h pd (upd (upd Hb lf (.lst (xs.map V.str))) pd (.lst [])) := (Cel.of heldb fpdb).kp (Kp.same (slf.trans spd))
    have hlf0 : (upd (upd Hb lf (.lst (xs.map V.str))) pd (.lst [])) lf = some (.lst (xs.map V.str)) := by rw [upd_ne nlp]; exact upd_same
    have hpd0 : (upd (upd Hb lf (.lst (xs.map V.str))) pd (.lst [])) pd = some (.lst []) := upd_same
    generalize upd (upd Hb lf (.lst (xs.map V.str))) pd (.lst []) = H0 at s7c clf cpd hlf0 hpd0
    refine ⟨fun m σ G => ∃ (D : Addr) (ls ds : List Str) (c : Str → Rat) (v6 v8 v11 : Option V), σ = [some (.ref s0), some (.ref h), some (.ref ot), some (.ref tu), v4, some (.ref D), v6, some (.ref D2), v8, some (.ref lf), some (.ref pd), v11] ∧ m = ls.length ∧ G ot = some (.tup (xs.map V.str)) ∧ Held G h (10 + ls.length) ∧ Cel h lf G ∧ Cel h pd G ∧ G lf = some (.lst (ls.map V.str)) ∧ G pd = some (.lst (ds.map V.str)) ∧
        K60.Q.SDc C G D xs c ∧ D ≠ h ∧ K60.Q.Crd xs c 840 ∧ (∀ z ∈ ds, z ∈ xs ∧ c z = 0) ∧ (∀ z ∈ xs, z ∈ ls ∨ z ∈ ds) ∧ (∀ z ∈ ls, z ∈ xs) ∧ ls.length + ds.length ≤ 8,
      ⟨_, D, xs, [], c, _, _, _, rfl, rfl, s7c _ _ hot7, (held7.same s7c).weak (by omega), clf, cpd, hlf0, hpd0, Sd.same s7c, nDh, crd, fun z hz => (nomatch hz), fun z hz => .inl hz, fun z hz => hz, by simp; omega⟩, ?_⟩
    clear hlf0 hpd0 clf cpd s7c slf spd hotb heldb s7b s8b hBa sa hd2 hv2 Sd2 done hro Sd crd held7 hot7 nDh sc s0'
    rintro m' σ G ⟨D, ls, ds, c, v6, v8, v11, rfl, rfl, hot, held, clf, cpd, hlf, hpd, Sd, nDh, crd, zds, cov, sub, len8⟩
    refine ⟨_, rfl, by show 0 ≤ sizeLine; decide, fun e0 fe => ?_⟩
    have se := same_new (o := .lst []) fe
    refine ⟨.list (ls.map PyData.str), .list [], .lst (SqL.of (se _ _ hlf)) (DQ.dp_strs _), .lst (SqL.of upd_same) .nil, DQ.sh_strs (fun x hx => K60.Q.strOk_nm (ox.nm x (sub x hx))), by rfl, _, rfl, ?_⟩
    have hot1 := se _ _ hot
    have held1' := held.same se
    have clf1 := clf.kp (Kp.same se)
    have cpd1 := cpd.kp (Kp.same se)
    have hlf1 := se _ _ hlf
    have hpd1 := se _ _ hpd
    have Sd1 := Sd.same se
    generalize upd G e0 (.lst []) = G1 at hot1 held1' clf1 cpd1 hlf1 hpd1 Sd1
    clear hot held clf cpd hlf hpd Sd se
    by_cases ne : ls = []
    · -- all are paid
      subst ne
      have ee : PyData.eqv (.list (([] : List Str).map PyData.str)) (.list []) = true := by simp [PyData.eqv, PyData.eqvAll]
      rw [ee]
      refine iteF ?_
      have c0 : ∀ z ∈ xs, c z = 0 := fun z hz => (cov z hz).elim (fun q => nomatch q) fun q => (zds z q).2
      obtain ⟨a1, hd1, hv1⟩ := Sd1
      refine ⟨_, rfl, ot, rfl, ⟨_, SqT.of hot1⟩, fun B hB => lc_tup (xs := xs.map V.str) (fun j H' => ∃ pt : Str → Addr, H' B = some (.lst ((xs.take j).map fun x => V.ref (pt x))) ∧ (∀ x ∈ xs.take j, H' (pt x) = some (tupP (0, 1))) ∧ Same G1 H')
        ⟨fun _ => 0, upd_same, fun x hx => by simp at hx, same_new hB⟩ (fun _ H' _ ⟨_, _, _, sm⟩ => SqT.of (sm _ _ hot1)) ?_ ?_⟩
      · rintro j x Ha hx ⟨pt, hBa, hpt, sm⟩
        have hj' : j < xs.length := by
          have := (List.getElem?_eq_some_iff.mp hx).1
          simpa using this
        rw [List.getElem?_map] at hx
        obtain ⟨z, hz, rfl⟩ := Option.map_eq_some_iff.mp hx
        have hzx := List.mem_of_getElem? hz
        have nz := nin_take ox.nd hz
        have et : xs.take (j + 1) = xs.take j ++ [z] := by rw [List.take_succ, hz]; rfl
        refine ⟨rfl, _, rfl, _, rfl, D, _, rfl, K60.Q.dct_dg (sm _ _ hd1) hzx, a1 z, _, rfl, (hv1 z hzx).keep sm, fun q Hb sb fq hq => ?_⟩
        rw [pr0 (c0 z hzx)] at hq
        have hBb := sb _ _ hBa
        refine ⟨_, hBb, ?_, fun x => if x = z then q else pt x, ?_, ?_, ?_⟩
        · rw [List.length_map, List.length_take]
          exact Nat.lt_of_lt_of_le (by omega : min j xs.length < 64) (by decide)
        · rw [upd_same, et, List.map_append]
          have e1 : (xs.take j).map (fun x => V.ref (pt x)) = (xs.take j).map fun x => V.ref (if x = z then q else pt x) := List.map_congr_left fun x hx => by rw [if_neg (show x ≠ z from fun e => nz (e ▸ hx))]
          rw [e1]
          simp
        · intro x hx
          have keep : ∀ {p : Addr} {o : HO} {zs : List V}, Hb p = some (.tup zs) → (upd Hb B o) p = some (.tup zs) := fun {p o zs} hp => by
            rw [upd_ne (fun e => by rw [e, hBb] at hp; cases hp)]
            exact hp
          show (upd Hb B _) (if x = z then q else pt x) = _
          rw [et] at hx
          rcases List.mem_append.mp hx with hx | hx
          · rw [if_neg (show x ≠ z from fun e => nz (e ▸ hx))]
            exact keep (sb _ _ (hpt x hx))
          · rw [List.mem_singleton] at hx
            rw [if_pos hx]
            exact keep hq
        · intro b o e
          rw [upd_ne (ne_of_none e hB)]
          exact sb b o (sm b o e)
      rintro Ha ⟨pt, hBa, hpt, sa⟩
      rw [List.length_map, List.take_length] at hBa hpt
      refine ⟨by show 2 ≤ sizeLine; decide, fun q fq => ⟨by show 1 ≤ sizeLine; decide, fun l fl => ?_⟩⟩
      have sq := same_new (o := .tup [.int 0, .int 1]) fq
      have sl := same_new (o := .lst [V.ref q]) fl
      refine ⟨_, rfl, ot, _, rfl, .inr (SqT.of (sl _ _ (sq _ _ (sa _ _ hot1)))), l, _, _, rfl, rfl, upd_same, by omega, by rw [List.length_map]; omega, ?_, fun p fp => ?_⟩
      · rw [List.length_map, Int.toNat_natCast]
        exact Nat.le_trans (by show 1 * xs.length ≤ 100; omega) (by decide)
      have er : (List.replicate ((((xs.map V.str).length : Nat) : Int)).toNat [V.ref q]).flatten = List.replicate xs.length (V.ref q) := by
        rw [List.length_map, Int.toNat_natCast]
        simp
      rw [er]
      have sp := same_new (o := .lst (List.replicate xs.length (V.ref q))) fp
      have hq1 := sp _ _ (sl _ _ (upd_same : (upd Ha q (.tup [.int 0, .int 1])) q = _))
      have s3 := sq.trans (sl.trans sp)
      have dp1 := dp_one (K := K) (pt := pt) (v := (0, 1)) fun x hx => s3 _ _ (hpt x hx)
      have dp2 := dp_rep (K := K) (v := (0, 1)) hq1 xs.length
      have el : xs.map (fun _ => DQ.pD (0, 1)) = (List.replicate xs.length ((0, 1) : Int × Int)).map DQ.pD := by
        rw [List.map_replicate]
        exact List.map_const' ..
      rw [el] at dp1
      refine ⟨_, _, Dp.lst (SqL.of (s3 _ _ hBa)) dp1, Dp.lst (SqL.of upd_same) dp2, DQ.sh_pairs _, DQ.sh_pairs _, ?_⟩
      rw [DQ.eq_pairs]
      exact hQ _
    · have ee : PyData.eqv (.list (ls.map PyData.str)) (.list []) = false := by
        cases ls with
        | nil => exact absurd rfl ne
        | cons a b => simp [PyData.eqv, PyData.eqvAll]
      rw [ee]
      refine iteT ?_
      refine ⟨_, fun σ' H' z => z, ?_⟩
      have lpos : 0 < ls.length := List.length_pos_iff.mpr ne
      refine ⟨_, rfl, Or.inl ⟨rfl, _, SqL.of hlf1⟩, _, rfl, _, rfl, lf, _, rfl, .inl (SqL.of hlf1), h, 9 + ls.length, _, rfl, held1'.weak (by omega), by rw [List.length_map]; omega, by rw [List.length_map]; omega, fun r G2 a6 b6 held2' k2 => ?_⟩
      rw [List.length_map] at b6
      obtain ⟨q, rfl⟩ := Int.eq_ofNat_of_zero_le a6
      have hq : q < ls.length := by omega
      have hlf2 := k2.1 _ _ hlf1 clf1.ne
      have hpd2 := k2.1 _ _ hpd1 cpd1.ne
      have hot2 := k2.tupS (K := K) held1' hot1
      have Sd2 := sdc_kp held1' Sd1 nDh k2
      have clf2 := clf1.kp k2
      have cpd2 := cpd1.kp k2
      refine ⟨lf, _, _, q, .str ls[q], rfl, rfl, hlf2, by omega, by omega, ?_, ?_, ?_⟩
      · rw [List.length_map]
        unfold seqIndex?
        have z : ¬ ((q : Int) < 0) := by omega
        simp [hq, z]
      · rw [List.getElem?_map, List.getElem?_eq_getElem hq]
        rfl
      obtain ⟨x, hx⟩ : ∃ x, x = ls[q] := ⟨_, rfl⟩
      rw [← hx]
      have hxm : x ∈ ls := by rw [hx]; exact List.getElem_mem hq
      have hxx := sub x hxm
      have pm : ls.Perm (x :: ls.eraseIdx q) := by rw [hx]; exact perm_eraseIdx hq
      have lE : (ls.eraseIdx q).length + 1 = ls.length := by have := pm.length_eq; simp at this; omega
      have Sd3 := Sd2.un (o := .lst ((ls.map V.str).eraseIdx q)) hlf2
      have held3' := held2'.put (o := .lst ((ls.map V.str).eraseIdx q)) clf2
      have clf3 := clf2.put (o := .lst ((ls.map V.str).eraseIdx q)) clf2.ne.symm
      have cpd3 := cpd2.put (o := .lst ((ls.map V.str).eraseIdx q)) clf2.ne.symm
      have hlf3 : (upd G2 lf (.lst ((ls.map V.str).eraseIdx q))) lf = some (.lst ((ls.eraseIdx q).map V.str)) := by rw [upd_same, map_eraseIdx']
      have hpd3 : (upd G2 lf (.lst ((ls.map V.str).eraseIdx q))) pd = some (.lst (ds.map V.str)) := by rw [upd_ne nlp.symm]; exact hpd2
      have hot3 : (upd G2 lf (.lst ((ls.map V.str).eraseIdx q))) ot = some (.tup (xs.map V.str)) := by rw [upd_ne fun z => by rw [z, hlf2] at hot2; cases hot2]; exact hot2
      generalize upd G2 lf (.lst ((ls.map V.str).eraseIdx q)) = G3 at Sd3 held3' clf3 cpd3 hlf3 hpd3 hot3
      clear Sd2 held2' clf2 cpd2 hlf2 hpd2 hot2 Sd1 held1' clf1 cpd1 hlf1 hpd1 hot1 k2
      refine ⟨_, rfl, _, rfl, D, xs, c, 840, x, rfl, Sd3, crd, hxx, fun rl G4 rows zs s4 frl hrl ord ek => ?_⟩
      have paid := K60.Q.paid_all crd hxx rfl ord ek
      have lr := paid.len
      rw [List.length_map] at lr
      refine ⟨_, rfl, _, rfl, D, rl, xs, c, rows, rfl, Sd3.same s4, ox.nd, l8, hrl, paid.led, paid.mem, paid.szv, paid.szr, crd.s0, fun D' G5 s5 Sd5 => ?_⟩
      have s35 := s4.trans s5
      have hpd5 := s35 _ _ hpd3
      refine ⟨_, rfl, .inl ⟨rfl, _, SqL.of hpd5⟩, _, rfl, pd, _, _, rfl, rfl, hpd5, Nat.lt_of_le_of_lt (by rw [List.length_map]; omega : _ ≤ 8) (by decide), ?_⟩
      have hrl6 : K60.Q.HL C (upd G5 pd (.lst (ds.map V.str ++ [.str x]))) rl rows := by
        obtain ⟨e1, e2⟩ := hrl.same s5
        refine ⟨by rw [upd_ne (ne_of_none hpd3 frl).symm]; exact e1, fun r hr => ?_⟩
        obtain ⟨e3, e4⟩ := e2 r hr
        refine ⟨by rw [upd_ne fun z => by rw [z, hpd5] at e3; cases e3]; exact e3, e4.un fun z => ?_⟩
        obtain ⟨dx, e⟩ := e4
        rw [z, hpd5] at e
        cases e
      have Sd6 := Sd5.un (o := .lst (ds.map V.str ++ [.str x])) hpd5
      have held5 := held3'.same s35
      have cpd5 := cpd3.kp (Kp.same s35)
      have clf5 := clf3.kp (Kp.same s35)
      have held6 := held5.put (o := .lst (ds.map V.str ++ [.str x])) cpd5
      have clf6 := clf5.put (o := .lst (ds.map V.str ++ [.str x])) cpd5.ne.symm
      have cpd6 := cpd5.put (o := .lst (ds.map V.str ++ [.str x])) cpd5.ne.symm
      have hlf6 : (upd G5 pd (.lst (ds.map V.str ++ [.str x]))) lf = some (.lst ((ls.eraseIdx q).map V.str)) := by rw [upd_ne nlp]; exact s35 _ _ hlf3
      have hpd6 : (upd G5 pd (.lst (ds.map V.str ++ [.str x]))) pd = some (.lst ((ds ++ [x]).map V.str)) := by rw [upd_same, List.map_append]; rfl
      have hot6 : (upd G5 pd (.lst (ds.map V.str ++ [.str x]))) ot = some (.tup (xs.map V.str)) := by
        have e := s35 _ _ hot3
        rw [upd_ne fun z => by rw [z, hpd5] at e; cases e]
        exact e
      generalize upd G5 pd (.lst (ds.map V.str ++ [.str x])) = G6 at hrl6 Sd6 held6 clf6 cpd6 hlf6 hpd6 hot6
      refine ⟨_, rfl, rl, rows, rfl, hrl6, by omega, fun o7 G7 rs s7 fo7 tl ek2 => ⟨rfl, _, rfl, iteF ?_⟩⟩
      refine ⟨_, rfl, rfl, _, rfl, iteF ?_⟩
      have hpd7 := s7 _ _ hpd6
      obtain ⟨a7, hd7, hv7⟩ := Sd6.same s7
      have zz : ∀ z ∈ ds ++ [x], z ∈ xs ∧ K60.Q.runK c (rows.map K60.Q.Ro.key) z = 0 := fun z hz => by
        rcases List.mem_append.mp hz with hz | hz
        · exact ⟨(zds z hz).1, paid.zz z (zds z hz).2⟩
        · rw [List.mem_singleton.mp hz]
          exact ⟨hxx, paid.zx⟩
      refine ⟨_, rfl, pd, rfl, ⟨_, SqL.of hpd7⟩, fun B hB => lc_list (K := K) (xs := (ds ++ [x]).map V.str) (fun j H' => H' B = some (.lst []) ∧ Same G7 H') ⟨upd_same, same_new hB⟩ (fun _ H' _ z => SqL.of (z.2 _ _ hpd7)) ?_ ?_⟩
      · rintro j y Ha hx ⟨hBa, sm⟩
        rw [List.getElem?_map] at hx
        obtain ⟨z, hz, rfl⟩ := Option.map_eq_some_iff.mp hx
        obtain ⟨hzx, hz0⟩ := zz z (List.mem_of_getElem? hz)
        refine ⟨rfl, _, rfl, _, rfl, D', _, rfl, K60.Q.dct_dg (sm _ _ hd7) hzx, a7 z, _, rfl, (hv7 z hzx).keep sm, fun p3 Hb sb fp3 hp3 => ?_⟩
        refine ⟨by show 2 ≤ sizeLine; decide, fun q fq => ?_⟩
        have sq := same_new (o := .tup [.int 0, .int 1]) fq
        rw [pr0 hz0] at hp3
        refine ⟨_, _, DQ.dp_pair (sq _ _ hp3), DQ.dp_pair (q := (0, 1)) upd_same, DQ.sh_pair _, DQ.sh_pair _, _, rfl, ?_⟩
        rw [DQ.eq_pair]
        exact iteF ⟨sq _ _ (sb _ _ hBa), (sm.trans sb).trans sq⟩
      rintro Ha ⟨hBa, sa⟩
      refine ⟨by show 0 ≤ sizeLine; decide, fun e1 fe1 => ?_⟩
      have s6 := same_new (o := .lst []) fe1
      refine ⟨.list [], .list [], .lst (SqL.of (s6 _ _ hBa)) .nil, .lst (SqL.of upd_same) .nil, by rfl, by rfl, _, rfl, ?_⟩
      have ee : PyData.eqv (.list []) (.list []) = true := by simp [PyData.eqv, PyData.eqvAll]
      rw [ee]
      refine iteF ?_
      have s8 := s7.trans (sa.trans s6)
      refine ⟨(ls.eraseIdx q).length, by omega, D', ls.eraseIdx q, ds ++ [x], K60.Q.runK c (rows.map K60.Q.Ro.key), _, _, _, rfl, rfl, s8 _ _ hot6, (held6.same s8).weak (by omega), clf6.kp (Kp.same s8), cpd6.kp (Kp.same s8), s8 _ _ hlf6, s8 _ _ hpd6, Sd6.same s8, sdc_noh Sd6 held6, paid.crd, zz, fun z hz => ?_, fun z hz => sub z (pm.mem_iff.mpr (List.mem_cons_of_mem _ hz)), ?_⟩
      · rcases cov z hz with a | a
        · rcases List.mem_cons.mp (pm.mem_iff.mp a) with b | b
          · exact .inr (List.mem_append_right _ (List.mem_singleton.mpr b))
          · exact .inl b
        · exact .inr (List.mem_append_left _ a)
      · rw [List.length_append, List.length_singleton]
        omega
end
end K60
set_option Elab.async false
set_option linter.all false
set_option maxRecDepth 100000
set_option maxHeartbeats 0
namespace K60
open PySem PySem.Spec PyProof.Rows L2
abbrev hk : PySem.W.Hook := He.hookX 6 fa fn [] tf xk
def ob (s : PySem.W.SharedT) : He.AlX := He.obsX 6 fa fn [] tf xk (HandSHeadRun.getT s)
theorem ob_eq (s : PySem.W.SharedT) : ob s = hk.obs s.abs := He.obsX_eq (HandSHeadRun.getT_eq s)
theorem glue {α β γ δ : Type} {x : Option α} {f : α → β} {g : α → γ} {h : α → δ} {b : β} {c : γ} {d : δ} (e1 : x.map f = some b) (e2 : x.map g = some c) (e3 : x.map h = some d) : x.map (fun s => (f s, g s, h s)) = some (b, c, d) := by
  cases x with
  | none => cases e1
  | some z =>
    have a1 : f z = b := Option.some.inj e1
    have a2 : g z = c := Option.some.inj e2
    have a3 : h z = d := Option.some.inj e3
    show some (f z, g z, h z) = _
    rw [a1, a2, a3]
theorem ob_z (z : PySem.W.SharedT) : ob z = ((((fa.all fun f => f.ok (Kf z)) && (fn.all fun d => d.ok (Kf z)), fn.map fun d => He.fnW (Kf z) d.at_), []), xk (Kf z) && He.tabsB (HandSHeadRun.getT z) tf (Kf z)) := by
  unfold ob He.obsX He.obsT He.obsD
  rw [List.map_nil]
theorem runO (w : World) (os : PySem.OsState) : (eN w os).map ob = some (((true, fn.map He.DefD.val), []), true) := by
  have b := runB w os
  have c := runC w os
  revert b c
  generalize eN w os = x
  intro b c
  cases x with
  | none => exact absurd b (by simp)
  | some z =>
    rw [Option.map_some] at b c ⊢
    have b := Option.some.inj b
    have c := Option.some.inj c
    rw [Prod.mk.injEq, Prod.mk.injEq] at c
    rw [ob_z, b, c.1, c.2.1, c.2.2]
    rfl
theorem run_ (w : World) : HandSHeadRun.RunEq R (PySem.W.view R.prog [62]) hk ob 8000 loose w := by
  intro os
  have q := glue (runL w os) (runS w os) (runO w os)
  unfold eN at q
  exact q
end K60
set_option Elab.async false
set_option linter.all false
set_option maxRecDepth 100000
set_option maxHeartbeats 0
namespace K60
open PySem PySem.Spec PyProof.Rows L2
open C8 (Cal Mak Met pe_c pe_mk pe_mt pe_mt0)
theorem cal_of {P : Program} {w : World} {K : PySem.W.Frag} {mg : Str → Option Value} {base : Heap} {f : Addr} {fd : FuncData} {ps : List Str} {k : Nat} {x : Str} {sp : Sp} (F : FnOk P w K mg base CX0 k f fd ps sp) (g : mg x = some (.ref f)) (kp : PySem.W.keepIn K (.ref f) = true) (b : Binds K fd ps []) : Cal P w K mg base k x sp [] :=
  ⟨f, fd, ps, [], F, g, kp, b, .nil⟩
theorem met_of {P : Program} {w : World} {K : PySem.W.Frag} {mg : Str → Option Value} {base : Heap} {f C : Addr} {fd : FuncData} {ps : List Str} {k : Nat} {m : Str} {sp : Sp} (c : Cls K C) (h : Meth K C m f) (F : FnOk P w K mg base CX0 k f fd ps sp) (b : Binds K fd ps []) : Met P w K mg base k C m sp [] :=
  ⟨f, fd, ps, [], c, h, F, b, .nil⟩
theorem facts {P : Program} {w : World} {K : PySem.W.Frag} {h h0 : Heap} {mg : Str → Option Value} {f : Addr} (X : K.In h) (G : h.Ns mainGlobals mg) (hfa : mg ("law" : Str) = some (.ref f)) (c : He.SaysX fa fn [] tf xk w h0 K) :
    ∃ fd : FuncData, (∀ (s : Shared) (v : Value), BindsTo s fd ⟨[v], []⟩ [("_law_script", v)]) ∧ ∀ base : Heap, K.In base → base.Ns mainGlobals mg → LamX.TabB base mg (He.cT K ("least_driver", none)).1 (He.cT K ("least_driver", none)).2 → FnOk P w K mg base CX0 9 f fd ["_law_script"] (spLaw K) := by
  have d := c.t.d
  have x := c.more
  have gl : ∀ (i : Nat) (x : Str), fa[i]? = some (.glo x) → mg x = some (.ref (He.ga K x)) := fun i x e => He.glo_ok X G (d.fact i e)
  have fr : ∀ (i : Nat) (x : Str), fa[i]? = some (.free x) → mg x = none := fun i x e => He.free_ok X G (d.fact i e)
  have me : ∀ (i : Nat) (C m : Str), fa[i]? = some (.meth C m) → Meth K (He.ga K C) m (He.ma K (He.ga K C) m) := fun i C m e => He.meth_ok (d.fact i e)
  have gl_is_whole := gl 0 "is_whole" rfl
  have gl_is_between := gl 1 "is_between" rfl
  have gl_is_name := gl 2 "is_name" rfl
  have gl_is_order := gl 3 "is_order" rfl
  have gl_is_rule := gl 4 "is_rule" rfl
  have gl_common_part := gl 5 "common_part" rfl
  have gl_same_share := gl 6 "same_share" rfl
  have gl_total := gl 7 "total" rfl
  have gl_in_order := gl 8 "in_order" rfl
  have gl_check_even := gl 9 "check_even" rfl
  have gl_turned := gl 10 "turned" rfl
  have gl_joined := gl 11 "joined" rfl
  have gl_after := gl 12 "after" rfl
  have gl_lesser := gl 13 "lesser" rfl
  have gl_above_nought := gl 14 "above_nought" rfl
  have gl_paid_off := gl 15 "paid_off" rfl
  have gl_whole_credits := gl 16 "whole_credits" rfl
  have gl_sums_of_sets := gl 17 "sums_of_sets" rfl
  have gl_without_one := gl 18 "without_one" rfl
  have gl_best_takings := gl 19 "best_takings" rfl
  have gl_lots := gl 20 "lots" rfl
  have gl_settled_lot := gl 21 "settled_lot" rfl
  have gl_settled := gl 22 "settled" rfl
  have gl_names_of := gl 23 "names_of" rfl
  have gl_first_memory := gl 24 "first_memory" rfl
  have gl_least_driver := gl 25 "least_driver" rfl
  have gl_driver_by := gl 26 "driver_by" rfl
  have gl_parts_behind := gl 27 "parts_behind" rfl
  have gl_line_behind := gl 28 "line_behind" rfl
  have gl_rounds_behind := gl 29 "rounds_behind" rfl
  have gl_memory_behind := gl 30 "memory_behind" rfl
  have gl__law_held := gl 31 "_law_held" rfl
  have gl__law_draw := gl 32 "_law_draw" rfl
  have gl__law_names := gl 33 "_law_names" rfl
  have gl__law_pair := gl 34 "_law_pair" rfl
  have gl__law_day := gl 35 "_law_day" rfl
  have gl__law_rule := gl 36 "_law_rule" rfl
  have gl__law_handed := gl 37 "_law_handed" rfl
  have gl__law_signs := gl 38 "_law_signs" rfl
  have gl__law_gone_right := gl 39 "_law_gone_right" rfl
  have gl_law := gl 40 "law" rfl
  have fr_isinstance := fr 41 "isinstance" rfl
  have fr_int := fr 42 "int" rfl
  have fr_bool := fr 43 "bool" rfl
  have fr_abs := fr 44 "abs" rfl
  have fr_list := fr 45 "list" rfl
  have fr_range := fr 46 "range" rfl
  have fr_len := fr 47 "len" rfl
  have fr_str := fr 48 "str" rfl
  have fr_all := fr 49 "all" rfl
  have fr_tuple := fr 50 "tuple" rfl
  have fr_set := fr 51 "set" rfl
  have fr_zip := fr 52 "zip" rfl
  have fr_min := fr 53 "min" rfl
  have fr_enumerate := fr 54 "enumerate" rfl
  have fr_sorted := fr 55 "sorted" rfl
  have fr_dict := fr 56 "dict" rfl
  have fr_max := fr 57 "max" rfl
  have gl_Share := gl 58 "Share" rfl
  have cls_Share := He.cls_ok (d.fact 59 (f := .cls "Share") rfl)
  have mk_Share := He.mkr_ok (d.fact 60 (f := .mkr "Share") rfl)
  have gl_Turns := gl 61 "Turns" rfl
  have cls_Turns := He.cls_ok (d.fact 62 (f := .cls "Turns") rfl)
  have mk_Turns := He.mkr_ok (d.fact 63 (f := .mkr "Turns") rfl)
  have no_Share_top := He.noat_ok (d.fact 64 (f := .noat "Share" "top") rfl)
  have no_Share_bottom := He.noat_ok (d.fact 65 (f := .noat "Share" "bottom") rfl)
  have no_Turns_rule := He.noat_ok (d.fact 66 (f := .noat "Turns" "rule") rfl)
  have no_Turns_held := He.noat_ok (d.fact 67 (f := .noat "Turns" "held") rfl)
  have no_Turns_kept := He.noat_ok (d.fact 68 (f := .noat "Turns" "kept") rfl)
  have no_Turns_past := He.noat_ok (d.fact 69 (f := .noat "Turns" "past") rfl)
  have me_Share_plus := me 70 "Share" "plus" rfl
  have me_Share_less := me 71 "Share" "less" rfl
  have me_Share_below := me 72 "Share" "below" rfl
  have me_Share_eq := me 73 "Share" "__eq__" rfl
  have me_Turns_check_riders := me 74 "Turns" "check_riders" rfl
  have me_Turns_who := me 75 "Turns" "who" rfl
  have me_Turns_ride := me 76 "Turns" "ride" rfl
  have me_Turns_stands := me 77 "Turns" "stands" rfl
  have val_LONGEST_NAME := He.int_ok X G (d.fact 78 (f := .int "LONGEST_NAME" 8) rfl)
  have val_MOST_NAMES := He.int_ok X G (d.fact 79 (f := .int "MOST_NAMES" 8) rfl)
  have val_MOST_GRAIN := He.int_ok X G (d.fact 80 (f := .int "MOST_GRAIN" 1000) rfl)
  have val_RIDE_PARTS := He.int_ok X G (d.fact 81 (f := .int "RIDE_PARTS" 840) rfl)
  have val_MOST_UNEVEN := He.int_ok X G (d.fact 82 (f := .int "MOST_UNEVEN" 10) rfl)
  obtain ⟨fd_is_whole, D_is_whole⟩ := d.def_ 7 (d := d_is_whole) rfl
  obtain ⟨fd_is_between, D_is_between⟩ := d.def_ 8 (d := d_is_between) rfl
  obtain ⟨fd_is_name, D_is_name⟩ := d.def_ 9 (d := d_is_name) rfl
  obtain ⟨fd_is_order, D_is_order⟩ := d.def_ 38 (d := d_is_order) rfl
  obtain ⟨fd_is_rule, D_is_rule⟩ := d.def_ 39 (d := d_is_rule) rfl
  obtain ⟨fd_common_part, D_common_part⟩ := d.def_ 10 (d := d_common_part) rfl
  obtain ⟨fd_Share_init, D_Share_init⟩ := d.def_ 11 (d := d_Share_init) rfl
  obtain ⟨fd_Share_eq, D_Share_eq⟩ := d.def_ 12 (d := d_Share_eq) rfl
  obtain ⟨fd_Share_plus, D_Share_plus⟩ := d.def_ 15 (d := d_Share_plus) rfl
  obtain ⟨fd_Share_less, D_Share_less⟩ := d.def_ 16 (d := d_Share_less) rfl
  obtain ⟨fd_Share_below, D_Share_below⟩ := d.def_ 19 (d := d_Share_below) rfl
  obtain ⟨fd_same_share, D_same_share⟩ := d.def_ 21 (d := d_same_share) rfl
  obtain ⟨fd_total, D_total⟩ := d.def_ 22 (d := d_total) rfl
  obtain ⟨fd_in_order, D_in_order⟩ := d.def_ 23 (d := d_in_order) rfl
  obtain ⟨fd_check_even, D_check_even⟩ := d.def_ 24 (d := d_check_even) rfl
  obtain ⟨fd_turned, D_turned⟩ := d.def_ 26 (d := d_turned) rfl
  obtain ⟨fd_joined, D_joined⟩ := d.def_ 25 (d := d_joined) rfl
  obtain ⟨fd_after, D_after⟩ := d.def_ 27 (d := d_after) rfl
  obtain ⟨fd_lesser, D_lesser⟩ := d.def_ 28 (d := d_lesser) rfl
  obtain ⟨fd_above_nought, D_above_nought⟩ := d.def_ 29 (d := d_above_nought) rfl
  obtain ⟨fd_paid_off, D_paid_off⟩ := d.def_ 30 (d := d_paid_off) rfl
  obtain ⟨fd_whole_credits, D_whole_credits⟩ := d.def_ 31 (d := d_whole_credits) rfl
  obtain ⟨fd_sums_of_sets, D_sums_of_sets⟩ := d.def_ 32 (d := d_sums_of_sets) rfl
  obtain ⟨fd_without_one, D_without_one⟩ := d.def_ 33 (d := d_without_one) rfl
  obtain ⟨fd_best_takings, D_best_takings⟩ := d.def_ 34 (d := d_best_takings) rfl
  obtain ⟨fd_lots, D_lots⟩ := d.def_ 35 (d := d_lots) rfl
  obtain ⟨fd_settled_lot, D_settled_lot⟩ := d.def_ 36 (d := d_settled_lot) rfl
  obtain ⟨fd_settled, D_settled⟩ := d.def_ 37 (d := d_settled) rfl
  obtain ⟨fd_names_of, D_names_of⟩ := d.def_ 40 (d := d_names_of) rfl
  obtain ⟨fd_first_memory, D_first_memory⟩ := d.def_ 41 (d := d_first_memory) rfl
  obtain ⟨fd_least_driver, D_least_driver⟩ := d.def_ 42 (d := d_least_driver) rfl
  obtain ⟨fd_driver_by, D_driver_by⟩ := d.def_ 43 (d := d_driver_by) rfl
  obtain ⟨fd_parts_behind, D_parts_behind⟩ := d.def_ 44 (d := d_parts_behind) rfl
  obtain ⟨fd_line_behind, D_line_behind⟩ := d.def_ 45 (d := d_line_behind) rfl
  obtain ⟨fd_rounds_behind, D_rounds_behind⟩ := d.def_ 46 (d := d_rounds_behind) rfl
  obtain ⟨fd_memory_behind, D_memory_behind⟩ := d.def_ 47 (d := d_memory_behind) rfl
  obtain ⟨fd_Turns_init, D_Turns_init⟩ := d.def_ 48 (d := d_Turns_init) rfl
  obtain ⟨fd_Turns_check_riders, D_Turns_check_riders⟩ := d.def_ 51 (d := d_Turns_check_riders) rfl
  obtain ⟨fd_Turns_who, D_Turns_who⟩ := d.def_ 52 (d := d_Turns_who) rfl
  obtain ⟨fd_Turns_ride, D_Turns_ride⟩ := d.def_ 53 (d := d_Turns_ride) rfl
  obtain ⟨fd_Turns_stands, D_Turns_stands⟩ := d.def_ 54 (d := d_Turns_stands) rfl
  obtain ⟨fd_l_held, D_l_held⟩ := d.def_ 57 (d := d_l_held) rfl
  obtain ⟨fd_l_draw, D_l_draw⟩ := d.def_ 58 (d := d_l_draw) rfl
  obtain ⟨fd_l_names, D_l_names⟩ := d.def_ 59 (d := d_l_names) rfl
  obtain ⟨fd_l_pair, D_l_pair⟩ := d.def_ 60 (d := d_l_pair) rfl
  obtain ⟨fd_l_day, D_l_day⟩ := d.def_ 61 (d := d_l_day) rfl
  obtain ⟨fd_l_rule, D_l_rule⟩ := d.def_ 62 (d := d_l_rule) rfl
  obtain ⟨fd_l_handed, D_l_handed⟩ := d.def_ 63 (d := d_l_handed) rfl
  obtain ⟨fd_l_signs, D_l_signs⟩ := d.def_ 64 (d := d_l_signs) rfl
  obtain ⟨fd_l_gone_right, D_l_gone_right⟩ := d.def_ 65 (d := d_l_gone_right) rfl
  obtain ⟨fd_law, D_law⟩ := d.def_ 66 (d := d_law) rfl
  have e := hfa.symm.trans gl_law
  cases e
  have bL := FunD.bindsA (ps := ["_law_script"]) D_law fun _ _ _ _ _ _ us hl => match us, hl with | [_], _ => rfl
  refine ⟨fd_law, fun s v => bL s [v] rfl, fun base _ _ TB => ?_⟩
  have b_is_whole : Binds K fd_is_whole ["thing"] [] := D_is_whole.bindsN fun _ _ _ _ _ _ us hl => match us, hl with | [_], _ => rfl
  have b_is_between : Binds K fd_is_between ["thing", "low", "high"] [] := D_is_between.bindsN fun _ _ _ _ _ _ us hl => match us, hl with | [_, _, _], _ => rfl
  have b_is_name : Binds K fd_is_name ["thing"] [] := D_is_name.bindsN fun _ _ _ _ _ _ us hl => match us, hl with | [_], _ => rfl
  have b_is_order : Binds K fd_is_order ["thing"] [] := D_is_order.bindsN fun _ _ _ _ _ _ us hl => match us, hl with | [_], _ => rfl
  have b_is_rule : Binds K fd_is_rule ["thing"] [] := D_is_rule.bindsN fun _ _ _ _ _ _ us hl => match us, hl with | [_], _ => rfl
  have b_common_part : Binds K fd_common_part ["one", "other"] [] := D_common_part.bindsN fun _ _ _ _ _ _ us hl => match us, hl with | [_, _], _ => rfl
  have b_Share_init : Binds K fd_Share_init ["self", "top", "bottom"] [] := by
    obtain ⟨ds, h1, h2⟩ := D_Share_init.binds1 (ps := ["self", "top", "bottom"]) 3 1 (List.cons_ne_nil _ _) rfl (fun T kV doc pm an cdv ct us its hl h1 => match us, hl, its, h1 with | [_, _, _], _, [_], _ => ⟨_, rfl, rfl⟩)
    cases h1
    exact h2
  obtain ⟨ds1_Share_init, v1_Share_init, b1_Share_init⟩ := D_Share_init.binds1 (ps := ["self", "top", "bottom"]) 2 0 (List.cons_ne_nil _ _) rfl (fun T kV doc pm an cdv ct us its hl h1 => match us, hl, its, h1 with | [_, _], _, [_], _ => ⟨_, rfl, rfl⟩)
  have b_Share_eq : Binds K fd_Share_eq ["self", "other"] [] := D_Share_eq.bindsN fun _ _ _ _ _ _ us hl => match us, hl with | [_, _], _ => rfl
  have b_Share_plus : Binds K fd_Share_plus ["self", "other"] [] := D_Share_plus.bindsN fun _ _ _ _ _ _ us hl => match us, hl with | [_, _], _ => rfl
  have b_Share_less : Binds K fd_Share_less ["self", "other"] [] := D_Share_less.bindsN fun _ _ _ _ _ _ us hl => match us, hl with | [_, _], _ => rfl
  have b_Share_below : Binds K fd_Share_below ["self", "other"] [] := D_Share_below.bindsN fun _ _ _ _ _ _ us hl => match us, hl with | [_, _], _ => rfl
  have b_same_share : Binds K fd_same_share ["share"] [] := D_same_share.bindsN fun _ _ _ _ _ _ us hl => match us, hl with | [_], _ => rfl
  have b_total : Binds K fd_total ["shares", "start"] [] := by
    obtain ⟨ds, h1, h2⟩ := D_total.binds1 (ps := ["shares", "start"]) 2 1 (List.cons_ne_nil _ _) rfl (fun T kV doc pm an cdv ct us its hl h1 => match us, hl, its, h1 with | [_, _], _, [_], _ => ⟨_, rfl, rfl⟩)
    cases h1
    exact h2
  obtain ⟨ds1_total, v1_total, b1_total⟩ := D_total.binds1 (ps := ["shares", "start"]) 1 0 (List.cons_ne_nil _ _) rfl (fun T kV doc pm an cdv ct us its hl h1 => match us, hl, its, h1 with | [_], _, [_], _ => ⟨_, rfl, rfl⟩)
  have b_in_order : Binds K fd_in_order ["names", "shares"] [] := D_in_order.bindsN fun _ _ _ _ _ _ us hl => match us, hl with | [_, _], _ => rfl
  have b_check_even : Binds K fd_check_even ["standing"] [] := D_check_even.bindsN fun _ _ _ _ _ _ us hl => match us, hl with | [_], _ => rfl
  have b_turned : Binds K fd_turned ["standing"] [] := D_turned.bindsN fun _ _ _ _ _ _ us hl => match us, hl with | [_], _ => rfl
  have b_joined : Binds K fd_joined ["standing", "moves"] [] := D_joined.bindsN fun _ _ _ _ _ _ us hl => match us, hl with | [_, _], _ => rfl
  have b_after : Binds K fd_after ["standing", "handed"] [] := D_after.bindsN fun _ _ _ _ _ _ us hl => match us, hl with | [_, _], _ => rfl
  have b_lesser : Binds K fd_lesser ["one", "other"] [] := D_lesser.bindsN fun _ _ _ _ _ _ us hl => match us, hl with | [_, _], _ => rfl
  have b_above_nought : Binds K fd_above_nought ["standing"] [] := D_above_nought.bindsN fun _ _ _ _ _ _ us hl => match us, hl with | [_], _ => rfl
  have b_paid_off : Binds K fd_paid_off ["standing", "name"] [] := D_paid_off.bindsN fun _ _ _ _ _ _ us hl => match us, hl with | [_, _], _ => rfl
  have b_whole_credits : Binds K fd_whole_credits ["standing", "names"] [] := D_whole_credits.bindsN fun _ _ _ _ _ _ us hl => match us, hl with | [_, _], _ => rfl
  have b_sums_of_sets : Binds K fd_sums_of_sets ["numbers"] [] := D_sums_of_sets.bindsN fun _ _ _ _ _ _ us hl => match us, hl with | [_], _ => rfl
  have b_without_one : Binds K fd_without_one ["chosen", "many"] [] := D_without_one.bindsN fun _ _ _ _ _ _ us hl => match us, hl with | [_, _], _ => rfl
  have b_best_takings : Binds K fd_best_takings ["sums", "many"] [] := D_best_takings.bindsN fun _ _ _ _ _ _ us hl => match us, hl with | [_, _], _ => rfl
  have b_lots : Binds K fd_lots ["standing"] [] := D_lots.bindsN fun _ _ _ _ _ _ us hl => match us, hl with | [_], _ => rfl
  have b_settled_lot : Binds K fd_settled_lot ["standing"] [] := D_settled_lot.bindsN fun _ _ _ _ _ _ us hl => match us, hl with | [_], _ => rfl
  have b_settled : Binds K fd_settled ["standing"] [] := D_settled.bindsN fun _ _ _ _ _ _ us hl => match us, hl with | [_], _ => rfl
  have b_names_of : Binds K fd_names_of ["order", "riders"] [] := D_names_of.bindsN fun _ _ _ _ _ _ us hl => match us, hl with | [_, _], _ => rfl
  have b_first_memory : Binds K fd_first_memory ["rule"] [] := D_first_memory.bindsN fun _ _ _ _ _ _ us hl => match us, hl with | [_], _ => rfl
  have b_least_driver : Binds K fd_least_driver ["rule", "held", "names"] [] := D_least_driver.bindsN fun _ _ _ _ _ _ us hl => match us, hl with | [_, _, _], _ => rfl
  have b_driver_by : Binds K fd_driver_by ["rule", "memory", "riders"] [] := D_driver_by.bindsN fun _ _ _ _ _ _ us hl => match us, hl with | [_, _, _], _ => rfl
  have b_parts_behind : Binds K fd_parts_behind ["order", "held", "riders", "driver"] [] := D_parts_behind.bindsN fun _ _ _ _ _ _ us hl => match us, hl with | [_, _, _, _], _ => rfl
  have b_line_behind : Binds K fd_line_behind ["line", "riders", "driver"] [] := D_line_behind.bindsN fun _ _ _ _ _ _ us hl => match us, hl with | [_, _, _], _ => rfl
  have b_rounds_behind : Binds K fd_rounds_behind ["order", "rounds", "riders"] [] := D_rounds_behind.bindsN fun _ _ _ _ _ _ us hl => match us, hl with | [_, _, _], _ => rfl
  have b_memory_behind : Binds K fd_memory_behind ["rule", "memory", "riders"] [] := D_memory_behind.bindsN fun _ _ _ _ _ _ us hl => match us, hl with | [_, _, _], _ => rfl
  have b_Turns_init : Binds K fd_Turns_init ["self", "rule"] [] := D_Turns_init.bindsN fun _ _ _ _ _ _ us hl => match us, hl with | [_, _], _ => rfl
  have b_Turns_check_riders : Binds K fd_Turns_check_riders ["self", "riders"] [] := D_Turns_check_riders.bindsN fun _ _ _ _ _ _ us hl => match us, hl with | [_, _], _ => rfl
  have b_Turns_who : Binds K fd_Turns_who ["self", "riders"] [] := D_Turns_who.bindsN fun _ _ _ _ _ _ us hl => match us, hl with | [_, _], _ => rfl
  have b_Turns_ride : Binds K fd_Turns_ride ["self", "riders"] [] := D_Turns_ride.bindsN fun _ _ _ _ _ _ us hl => match us, hl with | [_, _], _ => rfl
  have b_Turns_stands : Binds K fd_Turns_stands ["self"] [] := D_Turns_stands.bindsN fun _ _ _ _ _ _ us hl => match us, hl with | [_], _ => rfl
  have b_l_held : Binds K fd_l_held ["_law_script"] [] := D_l_held.bindsN fun _ _ _ _ _ _ us hl => match us, hl with | [_], _ => rfl
  have b_l_draw : Binds K fd_l_draw ["_law_held_here", "_law_many"] [] := D_l_draw.bindsN fun _ _ _ _ _ _ us hl => match us, hl with | [_, _], _ => rfl
  have b_l_names : Binds K fd_l_names ["_law_held_here", "_law_many"] [] := D_l_names.bindsN fun _ _ _ _ _ _ us hl => match us, hl with | [_, _], _ => rfl
  have b_l_pair : Binds K fd_l_pair ["_law_share"] [] := D_l_pair.bindsN fun _ _ _ _ _ _ us hl => match us, hl with | [_], _ => rfl
  have b_l_day : Binds K fd_l_day ["_law_held_here", "_law_order"] [] := D_l_day.bindsN fun _ _ _ _ _ _ us hl => match us, hl with | [_, _], _ => rfl
  have b_l_rule : Binds K fd_l_rule ["_law_held_here", "_law_order"] [] := D_l_rule.bindsN fun _ _ _ _ _ _ us hl => match us, hl with | [_, _], _ => rfl
  have b_l_handed : Binds K fd_l_handed ["_law_found"] [] := D_l_handed.bindsN fun _ _ _ _ _ _ us hl => match us, hl with | [_], _ => rfl
  have b_l_signs : Binds K fd_l_signs ["_law_stands"] [] := D_l_signs.bindsN fun _ _ _ _ _ _ us hl => match us, hl with | [_], _ => rfl
  have b_l_gone_right : Binds K fd_l_gone_right ["_law_stands", "_law_rows"] [] := D_l_gone_right.bindsN fun _ _ _ _ _ _ us hl => match us, hl with | [_, _], _ => rfl
  have b_law : Binds K fd_law ["_law_script"] [] := D_law.bindsN fun _ _ _ _ _ _ us hl => match us, hl with | [_], _ => rfl
  unfold xk GX.isB at x
  simp only [Bool.and_eq_true, decide_eq_true_eq] at x
  obtain ⟨y0, y1, y2, y3, y4⟩ := x
  have IC : IsC K (He.ga K "Share") := ⟨He.eqO_ok y1, He.eqO_ok y2, y3, y4, by unfold PySem.W.kitOne; rw [if_pos (beq_self_eq_true _)]⟩
  have B : Bl mg := ⟨fr_isinstance, fr_int, fr_bool, fr_abs, fr_list, fr_range, fr_len⟩
  have B2 : Bl2 mg := ⟨fr_str, fr_all, fr_tuple, fr_set, fr_zip, fr_min, fr_enumerate⟩
  have T : Cl K mg (He.ga K "Share") := ⟨cls_Share, no_Share_top, no_Share_bottom, gl_Share⟩
  have TT : ClT K (He.ga K "Turns") := ⟨cls_Turns, no_Turns_rule, no_Turns_held, no_Turns_kept, no_Turns_past⟩
  have cW : CalW P w K mg base := cal_of (ok_whole D_is_whole B) gl_is_whole D_is_whole.kp b_is_whole
  have cBt : CalB P w K mg base := cal_of (ok_between D_is_between cW) gl_is_between D_is_between.kp b_is_between
  have cNa : CalN P w K mg base := cal_of (ok_name D_is_name B B2 val_LONGEST_NAME) gl_is_name D_is_name.kp b_is_name
  have cOr := cal_of (ok_order D_is_order B B2 val_MOST_NAMES cNa) gl_is_order D_is_order.kp b_is_order
  have cRu := cal_of (ok_rule D_is_rule B B2 val_MOST_GRAIN cOr cBt) gl_is_rule D_is_rule.kp b_is_rule
  have cG : CalG P w K mg base := cal_of (ok_gcd D_common_part B) gl_common_part D_common_part.kp b_common_part
  have MS : MakS P w K mg base (He.ga K "Share") := ⟨_, _, _, _, mk_Share, ok_init D_Share_init cW cG T, T.g, b_Share_init, .nil⟩
  have M1 : MakS1 P w K mg base (He.ga K "Share") := ⟨_, _, _, _, mk_Share, ok_init D_Share_init cW cG T, T.g, b1_Share_init, v1_Share_init⟩
  have mP : Met P w K mg base 4 (He.ga K "Share") "plus" (sp2 (He.ga K "Share") (· + ·)) [] := met_of T.cl me_Share_plus ((ok_plus D_Share_plus MS T).imp fun _ _ _ _ => plusR) b_Share_plus
  have mL : Met P w K mg base 4 (He.ga K "Share") "less" (sp2 (He.ga K "Share") (· - ·)) [] := met_of T.cl me_Share_less ((ok_less D_Share_less MS T).imp fun _ _ _ _ => Q.lessR) b_Share_less
  have mB : Met P w K mg base 1 (He.ga K "Share") "below" (Q.spLt (He.ga K "Share")) [] := met_of T.cl me_Share_below ((Q.ok_below D_Share_below T).imp fun _ _ _ _ => Q.belowR) b_Share_below
  have NS : OW.Spc P w K mg base 1 (He.ga K "Share") "__eq__" (spSEq (He.ga K "Share")) := ⟨_, _, _, me_Share_eq.at_, me_Share_eq.fn, ok_eq D_Share_eq B T IC, b_Share_eq⟩
  have cS := cal_of (Q.ok_ss D_same_share T M1) gl_same_share D_same_share.kp b_same_share
  have cT : Cal P w K mg base 5 "total" (Q.spTotal K (He.ga K "Share")) [.int 0] := ⟨_, _, _, _, Q.ok_total D_total M1 mP, gl_total, D_total.kp, b1_total, v1_total⟩
  have cIO := cal_of (Q.ok_in_order D_in_order B fr_sorted M1 mB) gl_in_order D_in_order.kp b_in_order
  have cCE := cal_of (Q.ok_ce D_check_even B T cT) gl_check_even D_check_even.kp b_check_even
  have cTu := cal_of (Q.ok_tu D_turned M1 mL) gl_turned D_turned.kp b_turned
  have cJ := cal_of (Q.ok_jo D_joined M1 mP cS) gl_joined D_joined.kp b_joined
  have cAf := cal_of (Q.ok_af D_after cTu cJ) gl_after D_after.kp b_after
  have cLe := cal_of (Q.ok_le D_lesser mB cS) gl_lesser D_lesser.kp b_lesser
  have cAN := cal_of (Q.ok_an D_above_nought M1 mB) gl_above_nought D_above_nought.kp b_above_nought
  have cPO := cal_of (Q.ok_po D_paid_off B fr_str T M1 mB mL cCE cTu cAN cIO cLe) gl_paid_off D_paid_off.kp b_paid_off
  have cWC := cal_of (P := P) (w := w) (base := base) (Q.ok_wc D_whole_credits T) gl_whole_credits D_whole_credits.kp b_whole_credits
  have cSu := cal_of (P := P) (w := w) (base := base) (Q.ok_su D_sums_of_sets) gl_sums_of_sets D_sums_of_sets.kp b_sums_of_sets
  have cWo := cal_of (P := P) (w := w) (base := base) (Q.ok_wo D_without_one B) gl_without_one D_without_one.kp b_without_one
  have cBx := cal_of (Q.ok_bt D_best_takings B fr_max cWo) gl_best_takings D_best_takings.kp b_best_takings
  have cLots := cal_of (Q.ok_lo D_lots B fr_sorted fr_tuple T val_MOST_UNEVEN cCE cWC cSu cBx) gl_lots D_lots.kp b_lots
  have cSl := cal_of (Q.ok_sl D_settled_lot B M1 mL cAN cTu cLe cAf) gl_settled_lot D_settled_lot.kp b_settled_lot
  have cSe := cal_of (Q.ok_se D_settled cLots cSl) gl_settled D_settled.kp b_settled
  have cNo := cal_of (P := P) (w := w) (base := base) (ok_no D_names_of B2) gl_names_of D_names_of.kp b_names_of
  have cFm := cal_of (P := P) (w := w) (base := base) (ok_fm D_first_memory B2) gl_first_memory D_first_memory.kp b_first_memory
  have cLd := cal_of (P := P) (w := w) (base := base) (ok_ld D_least_driver B2 val_RIDE_PARTS TB) gl_least_driver D_least_driver.kp b_least_driver
  have cDb := cal_of (ok_db D_driver_by cNo cLd) gl_driver_by D_driver_by.kp b_driver_by
  have cPb := cal_of (P := P) (w := w) (base := base) (ok_pb D_parts_behind B B2 val_RIDE_PARTS) gl_parts_behind D_parts_behind.kp b_parts_behind
  have cLb := cal_of (P := P) (w := w) (base := base) (ok_lb D_line_behind B B2) gl_line_behind D_line_behind.kp b_line_behind
  have cRb := cal_of (ok_rb D_rounds_behind B B2 fr_sorted cNo) gl_rounds_behind D_rounds_behind.kp b_rounds_behind
  have cMb := cal_of (ok_mb D_memory_behind cDb cPb cLb cRb) gl_memory_behind D_memory_behind.kp b_memory_behind
  have MT : Mak P w K mg base 4 "Turns" (He.ga K "Turns") (spTi (He.ga K "Turns")) [] := ⟨_, _, _, _, mk_Turns, ok_ti D_Turns_init B2 TT cRu cFm, gl_Turns, b_Turns_init, .nil⟩
  have mC := met_of (P := P) (w := w) (base := base) TT.cl me_Turns_check_riders (ok_ck D_Turns_check_riders B B2 TT) b_Turns_check_riders
  have mW := met_of TT.cl me_Turns_who (ok_who D_Turns_who TT mC cDb) b_Turns_who
  have mR := met_of TT.cl me_Turns_ride (ok_ride D_Turns_ride TT mW cPb cMb) b_Turns_ride
  have mS := met_of TT.cl me_Turns_stands (ok_st D_Turns_stands B2 TT val_RIDE_PARTS MS) b_Turns_stands
  have cH := cal_of (P := P) (w := w) (base := base) (ok_held D_l_held B) gl__law_held D_l_held.kp b_l_held
  have cD : CalD P w K mg base := cal_of (ok_draw D_l_draw B) gl__law_draw D_l_draw.kp b_l_draw
  have cNm := cal_of (ok_names D_l_names B cD) gl__law_names D_l_names.kp b_l_names
  have cP := cal_of (P := P) (w := w) (base := base) (ok_pair D_l_pair B T IC) gl__law_pair D_l_pair.kp b_l_pair
  have cDy := cal_of (ok_day D_l_day B fr_min cD) gl__law_day D_l_day.kp b_l_day
  have cRl := cal_of (ok_rl D_l_rule cD) gl__law_rule D_l_rule.kp b_l_rule
  have cHd := cal_of (Q.ok_hd D_l_handed B fr_str fr_tuple cP) gl__law_handed D_l_handed.kp b_l_handed
  have cSg := cal_of (P := P) (w := w) (base := base) (Q.ok_sg D_l_signs fr_dict T) gl__law_signs D_l_signs.kp b_l_signs
  have cGR := cal_of (Q.ok_gr D_l_gone_right B NS (He.eqO_ok y0) IC.hm M1 cAf cSg cT) gl__law_gone_right D_l_gone_right.kp b_l_gone_right
  exact ok_law D_law B B2 cH cD cNm cDy cRl cP cHd cSe cPO cGR MT mR mS
end K60
open PySem PySem.W PySem.Calls PyProof.Rows
set_option maxRecDepth 100000 in
set_option maxHeartbeats 0 in
theorem PySem.Challenge.cw_rideturns_k60_whole_paid_off_one_by_one_holds : PySem.Challenge.rw_rideturns_k60_whole_paid_off_one_by_one.Holds := by
  w_on; o_law
  refine HandSHeadRun.head_any (r := OpenLaw.row PySem.Challenge.rw_rideturns_k60_whole_paid_off_one_by_one) (q := view (OpenLaw.row PySem.Challenge.rw_rideturns_k60_whole_paid_off_one_by_one).prog [62]) (H := K60.hk) (ob := K60.ob) (M := 8000) (loose := K60.loose) (d := HandSHeadRun.topDef (OpenLaw.row PySem.Challenge.rw_rideturns_k60_whole_paid_off_one_by_one).prog 62) (kwd := []) K60.ob_eq
    (by kernel_rfl) (fun s => by kernel_rfl) K60.run_ (by kernel_rfl) (by kernel_rfl) (by kernel_rfl) (by rfl) (by first | assumption | decide +kernel) (by decide +kernel) ⟨rfl, rfl, rfl, rfl, rfl, by decide +kernel⟩ ?hw ?hc
  case hw => w_witness2
  case hc =>
    refine LamX.walk_ofTsE (l := PySem.Challenge.rw_rideturns_k60_whole_paid_off_one_by_one) (n := 63) (k := 9) (x := "_law_script") (CX := fun _ => L2.CX0) rfl (by decide) (by kernel_rfl) ⟨rfl, by decide, by decide⟩ ?F (fun _ _ _ _ _ z => z)
    intro w mg fa h Y G hmg0
    obtain ⟨K, KX, c⟩ := Y
    have hmg : mg ("law" : PySem.Str) = some (.ref fa) := by
      have e : (HandSHeadRun.topDef (OpenLaw.row PySem.Challenge.rw_rideturns_k60_whole_paid_off_one_by_one).prog 62).name = ("law" : PySem.Str) := by kernel_rfl
      rw [← e]
      exact hmg0
    obtain ⟨fd, hb, hF⟩ := K60.facts (P := (PySem.Challenge.rw_rideturns_k60_whole_paid_off_one_by_one).prog) (w := w) KX G hmg c
    refine ⟨K, KX, fd, [He.cT K ("least_driver", none)], K60.spLaw K, fun p hp => ?_, fun p hp => ?_, fun p hp => ?_, hb, fun H a ns hl _ hT hS => ⟨a, ns, rfl, hS, hl, fun p hp => ?_, fun _ => rfl⟩, fun base k1 k2 TB => hF base k1 k2 (TB _ (List.mem_singleton.mpr rfl))⟩
    · rw [List.mem_singleton.mp hp]
      exact c.empty _ (List.mem_singleton.mpr rfl)
    · rw [List.mem_singleton.mp hp]
      exact c.out _ (List.mem_singleton.mpr rfl)
    · rw [List.mem_singleton.mp hp]
      exact PySem.W.codeHd_of_K KX (c.hd _ (List.mem_singleton.mpr rfl))
    · rw [List.mem_singleton.mp hp]
      exact LamX.TabS.nil (hT _ (List.mem_singleton.mpr rfl))
