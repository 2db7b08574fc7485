import PyProof.Rows.All
import Wide.All
import OpenK.AllK
import Wide.FinOn
import HandS.ForMost
import HandS.ForExc
import HandS.Defaults
import HandS.Codes
import HandS.IsInst
import HandS.Wide
import HandS.Flow
import HandS.Evl
import HandS.Steps
import HandS.ExcField
import HandS.Head0
import HandS.Head1
import HandS.Head2
import HandS.HeadEnd
import HandS.HeadHook1
import HandS.HeadHook2
import HandS.HeadHook3
import HandS.HeadHook4
import KE.KExcInit
import HandS.ExcInit
import KE.KEqSeq
import HandS.Words
import HandS.MakeKw
import HandS.MakeKwOnly
import HandS.Style
import HandS.Comp
import HandS.Text
import HandS.More
import PyProof.StrOps2
import KE.KCallOwn
import KE.IntTextLaws
import PyProof.StrLawsAffix
import HandS.List
import HandS.Deep
import HandS.Dict
import KE.LtData
import HandS.Call
import KE.KIndexOf
import HandS.FStr
import HandS.StrMore
import HandS.Walk
import HandS.Iter
import HandS.DictComp
import PyProof.ReprRoads
import PyProof.ReprDict
import HandS.OwnEq
import PyProof.ReprLen
import HandS.Sort
import KE.KDictList
import KE.SortCalls
import KE.SortKeyed
import KE.SortData
import KE.DataMinMax
import KE.DatumOrd
import HandS.WideBits
import PyProof.DictUpdate
import PySem.Challenge.RW_rideturns_k58_all_settled
set_option Elab.async false
set_option linter.all false
set_option maxRecDepth 100000
set_option maxHeartbeats 4000000
namespace K58
open PySem PySem.Spec PyProof.Rows L2
def top (i : Nat) : Stmt := PySem.Challenge.pw_rideturns_k58_all_settled.main.body.getD i (.Pass ⟨0, 0, 0, 0⟩)
abbrev s__wall : Stmt := top 0
abbrev N__wall : List Str := ["k"]
theorem sc__wall : FnScope N__wall ["k"] (defScope s__wall) := ⟨rfl, rfl, rfl, by decide +kernel, rfl, by decide +kernel, by decide +kernel⟩
def d__wall : He.DefD := ⟨("_wall", none), "_wall", "_wall", defArgs s__wall, defBody s__wall, defScope s__wall, [], []⟩
abbrev s_NoKind_init : Stmt := inClass (top 2) 0
abbrev N_NoKind_init : List Str := ["self", "thing"]
theorem sc_NoKind_init : FnScope N_NoKind_init ["self", "thing"] (defScope s_NoKind_init) := ⟨rfl, rfl, rfl, by decide +kernel, rfl, by decide +kernel, by decide +kernel⟩
def d_NoKind_init : He.DefD := ⟨("NoKind", some "__init__"), "__init__", "NoKind.__init__", defArgs s_NoKind_init, defBody s_NoKind_init, defScope s_NoKind_init, [], []⟩
abbrev s_Nought_init : Stmt := inClass (top 3) 0
abbrev N_Nought_init : List Str := ["self", "top"]
theorem sc_Nought_init : FnScope N_Nought_init ["self", "top"] (defScope s_Nought_init) := ⟨rfl, rfl, rfl, by decide +kernel, rfl, by decide +kernel, by decide +kernel⟩
def d_Nought_init : He.DefD := ⟨("Nought", some "__init__"), "__init__", "Nought.__init__", defArgs s_Nought_init, defBody s_Nought_init, defScope s_Nought_init, [], []⟩
abbrev s_Uneven_init : Stmt := inClass (top 4) 0
abbrev N_Uneven_init : List Str := ["self", "rest"]
theorem sc_Uneven_init : FnScope N_Uneven_init ["self", "rest"] (defScope s_Uneven_init) := ⟨rfl, rfl, rfl, by decide +kernel, rfl, by decide +kernel, by decide +kernel⟩
def d_Uneven_init : He.DefD := ⟨("Uneven", some "__init__"), "__init__", "Uneven.__init__", defArgs s_Uneven_init, defBody s_Uneven_init, defScope s_Uneven_init, [], []⟩
abbrev s_TooMany_init : Stmt := inClass (top 5) 0
abbrev N_TooMany_init : List Str := ["self", "most"]
theorem sc_TooMany_init : FnScope N_TooMany_init ["self", "most"] (defScope s_TooMany_init) := ⟨rfl, rfl, rfl, by decide +kernel, rfl, by decide +kernel, by decide +kernel⟩
def d_TooMany_init : He.DefD := ⟨("TooMany", some "__init__"), "__init__", "TooMany.__init__", defArgs s_TooMany_init, defBody s_TooMany_init, defScope s_TooMany_init, [], []⟩
abbrev s_is_whole : Stmt := top 7
abbrev N_is_whole : List Str := ["thing"]
theorem sc_is_whole : FnScope N_is_whole ["thing"] (defScope s_is_whole) := ⟨rfl, rfl, rfl, by decide +kernel, rfl, by decide +kernel, by decide +kernel⟩
def d_is_whole : He.DefD := ⟨("is_whole", none), "is_whole", "is_whole", defArgs s_is_whole, defBody s_is_whole, defScope s_is_whole, [], []⟩
abbrev s_common_part : Stmt := top 9
abbrev N_common_part : List Str := ["one", "other"]
theorem sc_common_part : FnScope N_common_part ["one", "other"] (defScope s_common_part) := ⟨rfl, rfl, rfl, by decide +kernel, rfl, by decide +kernel, by decide +kernel⟩
def d_common_part : He.DefD := ⟨("common_part", none), "common_part", "common_part", defArgs s_common_part, defBody s_common_part, defScope s_common_part, [], []⟩
abbrev s_Share_init : Stmt := inClass (top 10) 0
abbrev N_Share_init : List Str := ["self", "top", "bottom", "thing", "common"]
theorem sc_Share_init : FnScope N_Share_init ["self", "top", "bottom"] (defScope s_Share_init) := ⟨rfl, rfl, rfl, by decide +kernel, rfl, by decide +kernel, by decide +kernel⟩
def d_Share_init : He.DefD := ⟨("Share", some "__init__"), "__init__", "Share.__init__", defArgs s_Share_init, defBody s_Share_init, defScope s_Share_init, [.int 1], []⟩
abbrev s_Share_eq : Stmt := inClass (top 10) 1
abbrev N_Share_eq : List Str := ["self", "other"]
theorem sc_Share_eq : FnScope N_Share_eq ["self", "other"] (defScope s_Share_eq) := ⟨rfl, rfl, rfl, by decide +kernel, rfl, by decide +kernel, by decide +kernel⟩
def d_Share_eq : He.DefD := ⟨("Share", some "__eq__"), "__eq__", "Share.__eq__", defArgs s_Share_eq, defBody s_Share_eq, defScope s_Share_eq, [], []⟩
abbrev s_Share_str : Stmt := inClass (top 10) 2
abbrev N_Share_str : List Str := ["self"]
theorem sc_Share_str : FnScope N_Share_str ["self"] (defScope s_Share_str) := ⟨rfl, rfl, rfl, by decide +kernel, rfl, by decide +kernel, by decide +kernel⟩
def d_Share_str : He.DefD := ⟨("Share", some "__str__"), "__str__", "Share.__str__", defArgs s_Share_str, defBody s_Share_str, defScope s_Share_str, [], []⟩
abbrev s_Share_repr : Stmt := inClass (top 10) 3
abbrev N_Share_repr : List Str := ["self"]
theorem sc_Share_repr : FnScope N_Share_repr ["self"] (defScope s_Share_repr) := ⟨rfl, rfl, rfl, by decide +kernel, rfl, by decide +kernel, by decide +kernel⟩
def d_Share_repr : He.DefD := ⟨("Share", some "__repr__"), "__repr__", "Share.__repr__", defArgs s_Share_repr, defBody s_Share_repr, defScope s_Share_repr, [], []⟩
abbrev s_Share_plus : Stmt := inClass (top 10) 4
abbrev N_Share_plus : List Str := ["self", "other"]
theorem sc_Share_plus : FnScope N_Share_plus ["self", "other"] (defScope s_Share_plus) := ⟨rfl, rfl, rfl, by decide +kernel, rfl, by decide +kernel, by decide +kernel⟩
def d_Share_plus : He.DefD := ⟨("Share", some "plus"), "plus", "Share.plus", defArgs s_Share_plus, defBody s_Share_plus, defScope s_Share_plus, [], []⟩
abbrev s_Share_less : Stmt := inClass (top 10) 5
abbrev N_Share_less : List Str := ["self", "other"]
theorem sc_Share_less : FnScope N_Share_less ["self", "other"] (defScope s_Share_less) := ⟨rfl, rfl, rfl, by decide +kernel, rfl, by decide +kernel, by decide +kernel⟩
def d_Share_less : He.DefD := ⟨("Share", some "less"), "less", "Share.less", defArgs s_Share_less, defBody s_Share_less, defScope s_Share_less, [], []⟩
abbrev s_Share_times : Stmt := inClass (top 10) 6
abbrev N_Share_times : List Str := ["self", "many"]
theorem sc_Share_times : FnScope N_Share_times ["self", "many"] (defScope s_Share_times) := ⟨rfl, rfl, rfl, by decide +kernel, rfl, by decide +kernel, by decide +kernel⟩
def d_Share_times : He.DefD := ⟨("Share", some "times"), "times", "Share.times", defArgs s_Share_times, defBody s_Share_times, defScope s_Share_times, [], []⟩
abbrev s_Share_over : Stmt := inClass (top 10) 7
abbrev N_Share_over : List Str := ["self", "many"]
theorem sc_Share_over : FnScope N_Share_over ["self", "many"] (defScope s_Share_over) := ⟨rfl, rfl, rfl, by decide +kernel, rfl, by decide +kernel, by decide +kernel⟩
def d_Share_over : He.DefD := ⟨("Share", some "over"), "over", "Share.over", defArgs s_Share_over, defBody s_Share_over, defScope s_Share_over, [], []⟩
abbrev s_Share_below : Stmt := inClass (top 10) 8
abbrev N_Share_below : List Str := ["self", "other"]
theorem sc_Share_below : FnScope N_Share_below ["self", "other"] (defScope s_Share_below) := ⟨rfl, rfl, rfl, by decide +kernel, rfl, by decide +kernel, by decide +kernel⟩
def d_Share_below : He.DefD := ⟨("Share", some "below"), "below", "Share.below", defArgs s_Share_below, defBody s_Share_below, defScope s_Share_below, [], []⟩
abbrev s_Share_whole : Stmt := inClass (top 10) 9
abbrev N_Share_whole : List Str := ["self"]
theorem sc_Share_whole : FnScope N_Share_whole ["self"] (defScope s_Share_whole) := ⟨rfl, rfl, rfl, by decide +kernel, rfl, by decide +kernel, by decide +kernel⟩
def d_Share_whole : He.DefD := ⟨("Share", some "whole"), "whole", "Share.whole", defArgs s_Share_whole, defBody s_Share_whole, defScope s_Share_whole, [], []⟩
abbrev s_same_share : Stmt := top 11
abbrev N_same_share : List Str := ["share", "told"]
theorem sc_same_share : FnScope N_same_share ["share"] (defScope s_same_share) := ⟨rfl, rfl, rfl, by decide +kernel, rfl, by decide +kernel, by decide +kernel⟩
def d_same_share : He.DefD := ⟨("same_share", none), "same_share", "same_share", defArgs s_same_share, defBody s_same_share, defScope s_same_share, [], []⟩
abbrev s_total : Stmt := top 12
abbrev N_total : List Str := ["shares", "start", "summed", "share"]
theorem sc_total : FnScope N_total ["shares", "start"] (defScope s_total) := ⟨rfl, rfl, rfl, by decide +kernel, rfl, by decide +kernel, by decide +kernel⟩
def d_total : He.DefD := ⟨("total", none), "total", "total", defArgs s_total, defBody s_total, defScope s_total, [.int 0], []⟩
abbrev s_check_even : Stmt := top 14
abbrev N_check_even : List Str := ["standing", "rest"]
theorem sc_check_even : FnScope N_check_even ["standing"] (defScope s_check_even) := ⟨rfl, rfl, rfl, by decide +kernel, rfl, by decide +kernel, by decide +kernel⟩
def d_check_even : He.DefD := ⟨("check_even", none), "check_even", "check_even", defArgs s_check_even, defBody s_check_even, defScope s_check_even, [], []⟩
abbrev s_joined : Stmt := top 15
abbrev N_joined : List Str := ["standing", "moves", "name", "told", "move"]
theorem sc_joined : FnScope N_joined ["standing", "moves"] (defScope s_joined) := ⟨rfl, rfl, rfl, by decide +kernel, rfl, by decide +kernel, by decide +kernel⟩
def d_joined : He.DefD := ⟨("joined", none), "joined", "joined", defArgs s_joined, defBody s_joined, defScope s_joined, [], []⟩
abbrev s_turned : Stmt := top 16
abbrev N_turned : List Str := ["standing", "name"]
theorem sc_turned : FnScope N_turned ["standing"] (defScope s_turned) := ⟨rfl, rfl, rfl, by decide +kernel, rfl, by decide +kernel, by decide +kernel⟩
def d_turned : He.DefD := ⟨("turned", none), "turned", "turned", defArgs s_turned, defBody s_turned, defScope s_turned, [], []⟩
abbrev s_after : Stmt := top 19
abbrev N_after : List Str := ["standing", "handed", "moves", "payer", "taker", "share"]
theorem sc_after : FnScope N_after ["standing", "handed"] (defScope s_after) := ⟨rfl, rfl, rfl, by decide +kernel, rfl, by decide +kernel, by decide +kernel⟩
def d_after : He.DefD := ⟨("after", none), "after", "after", defArgs s_after, defBody s_after, defScope s_after, [], []⟩
abbrev s_lesser : Stmt := top 20
abbrev N_lesser : List Str := ["one", "other"]
theorem sc_lesser : FnScope N_lesser ["one", "other"] (defScope s_lesser) := ⟨rfl, rfl, rfl, by decide +kernel, rfl, by decide +kernel, by decide +kernel⟩
def d_lesser : He.DefD := ⟨("lesser", none), "lesser", "lesser", defArgs s_lesser, defBody s_lesser, defScope s_lesser, [], []⟩
abbrev s_above_nought : Stmt := top 21
abbrev N_above_nought : List Str := ["standing", "name"]
theorem sc_above_nought : FnScope N_above_nought ["standing"] (defScope s_above_nought) := ⟨rfl, rfl, rfl, by decide +kernel, rfl, by decide +kernel, by decide +kernel⟩
def d_above_nought : He.DefD := ⟨("above_nought", none), "above_nought", "above_nought", defArgs s_above_nought, defBody s_above_nought, defScope s_above_nought, [], []⟩
abbrev s_whole_credits : Stmt := top 22
abbrev N_whole_credits : List Str := ["standing", "names", "common", "name"]
theorem sc_whole_credits : FnScope N_whole_credits ["standing", "names"] (defScope s_whole_credits) := ⟨rfl, rfl, rfl, by decide +kernel, rfl, by decide +kernel, by decide +kernel⟩
def d_whole_credits : He.DefD := ⟨("whole_credits", none), "whole_credits", "whole_credits", defArgs s_whole_credits, defBody s_whole_credits, defScope s_whole_credits, [], []⟩
abbrev s_sums_of_sets : Stmt := top 23
abbrev N_sums_of_sets : List Str := ["numbers", "sums", "number", "one"]
theorem sc_sums_of_sets : FnScope N_sums_of_sets ["numbers"] (defScope s_sums_of_sets) := ⟨rfl, rfl, rfl, by decide +kernel, rfl, by decide +kernel, by decide +kernel⟩
def d_sums_of_sets : He.DefD := ⟨("sums_of_sets", none), "sums_of_sets", "sums_of_sets", defArgs s_sums_of_sets, defBody s_sums_of_sets, defScope s_sums_of_sets, [], []⟩
abbrev s_without_one : Stmt := top 24
abbrev N_without_one : List Str := ["chosen", "many", "place"]
theorem sc_without_one : FnScope N_without_one ["chosen", "many"] (defScope s_without_one) := ⟨rfl, rfl, rfl, by decide +kernel, rfl, by decide +kernel, by decide +kernel⟩
def d_without_one : He.DefD := ⟨("without_one", none), "without_one", "without_one", defArgs s_without_one, defBody s_without_one, defScope s_without_one, [], []⟩
abbrev s_best_takings : Stmt := top 25
abbrev N_best_takings : List Str := ["sums", "many", "noughts", "places", "chosen", "place", "best", "left"]
theorem sc_best_takings : FnScope N_best_takings ["sums", "many"] (defScope s_best_takings) := ⟨rfl, rfl, rfl, by decide +kernel, rfl, by decide +kernel, by decide +kernel⟩
def d_best_takings : He.DefD := ⟨("best_takings", none), "best_takings", "best_takings", defArgs s_best_takings, defBody s_best_takings, defScope s_best_takings, [], []⟩
abbrev s_lots : Stmt := top 26
abbrev N_lots : List Str := ["standing", "names", "sums", "places", "told", "lot", "chosen", "place", "name"]
theorem sc_lots : FnScope N_lots ["standing"] (defScope s_lots) := ⟨rfl, rfl, rfl, by decide +kernel, rfl, by decide +kernel, by decide +kernel⟩
def d_lots : He.DefD := ⟨("lots", none), "lots", "lots", defArgs s_lots, defBody s_lots, defScope s_lots, [], []⟩
abbrev s_settled_lot : Stmt := top 27
abbrev N_settled_lot : List Str := ["standing", "handed", "owed", "payer", "share"]
theorem sc_settled_lot : FnScope N_settled_lot ["standing"] (defScope s_settled_lot) := ⟨rfl, rfl, rfl, by decide +kernel, rfl, by decide +kernel, by decide +kernel⟩
def d_settled_lot : He.DefD := ⟨("settled_lot", none), "settled_lot", "settled_lot", defArgs s_settled_lot, defBody s_settled_lot, defScope s_settled_lot, [], []⟩
abbrev s_settled : Stmt := top 28
abbrev N_settled : List Str := ["standing", "handed", "lot", "name"]
theorem sc_settled : FnScope N_settled ["standing"] (defScope s_settled) := ⟨rfl, rfl, rfl, by decide +kernel, rfl, by decide +kernel, by decide +kernel⟩
def d_settled : He.DefD := ⟨("settled", none), "settled", "settled", defArgs s_settled, defBody s_settled, defScope s_settled, [], []⟩
abbrev s_l_held : Stmt := top 30
abbrev N_l_held : List Str := ["_law_script"]
theorem sc_l_held : FnScope N_l_held ["_law_script"] (defScope s_l_held) := ⟨rfl, rfl, rfl, by decide +kernel, rfl, by decide +kernel, by decide +kernel⟩
def d_l_held : He.DefD := ⟨("_law_held", none), "_law_held", "_law_held", defArgs s_l_held, defBody s_l_held, defScope s_l_held, [], []⟩
abbrev s_l_draw : Stmt := top 31
abbrev N_l_draw : List Str := ["_law_held_here", "_law_many", "_law_found", "_law_at", "_law_cell", "_law_number"]
theorem sc_l_draw : FnScope N_l_draw ["_law_held_here", "_law_many"] (defScope s_l_draw) := ⟨rfl, rfl, rfl, by decide +kernel, rfl, by decide +kernel, by decide +kernel⟩
def d_l_draw : He.DefD := ⟨("_law_draw", none), "_law_draw", "_law_draw", defArgs s_l_draw, defBody s_l_draw, defScope s_l_draw, [], []⟩
abbrev s_l_names : Stmt := top 32
abbrev N_l_names : List Str := ["_law_held_here", "_law_many", "_law_letters", "_law_size", "_law_k", "_law_base", "_law_at", "_law_begin", "_law_step", "_law_lot", "_law_found", "_law_tail"]
theorem sc_l_names : FnScope N_l_names ["_law_held_here", "_law_many"] (defScope s_l_names) := ⟨rfl, rfl, rfl, by decide +kernel, rfl, by decide +kernel, by decide +kernel⟩
def d_l_names : He.DefD := ⟨("_law_names", none), "_law_names", "_law_names", defArgs s_l_names, defBody s_l_names, defScope s_l_names, [], []⟩
abbrev s_l_low : Stmt := top 33
abbrev N_l_low : List Str := ["_law_top", "_law_bottom", "_law_one", "_law_other"]
theorem sc_l_low : FnScope N_l_low ["_law_top", "_law_bottom"] (defScope s_l_low) := ⟨rfl, rfl, rfl, by decide +kernel, rfl, by decide +kernel, by decide +kernel⟩
def d_l_low : He.DefD := ⟨("_law_low", none), "_law_low", "_law_low", defArgs s_l_low, defBody s_l_low, defScope s_l_low, [], []⟩
abbrev s_l_add : Stmt := top 34
abbrev N_l_add : List Str := ["_law_one", "_law_other"]
theorem sc_l_add : FnScope N_l_add ["_law_one", "_law_other"] (defScope s_l_add) := ⟨rfl, rfl, rfl, by decide +kernel, rfl, by decide +kernel, by decide +kernel⟩
def d_l_add : He.DefD := ⟨("_law_add", none), "_law_add", "_law_add", defArgs s_l_add, defBody s_l_add, defScope s_l_add, [], []⟩
abbrev s_l_pair : Stmt := top 35
abbrev N_l_pair : List Str := ["_law_share", "_law_part"]
theorem sc_l_pair : FnScope N_l_pair ["_law_share"] (defScope s_l_pair) := ⟨rfl, rfl, rfl, by decide +kernel, rfl, by decide +kernel, by decide +kernel⟩
def d_l_pair : He.DefD := ⟨("_law_pair", none), "_law_pair", "_law_pair", defArgs s_l_pair, defBody s_l_pair, defScope s_l_pair, [], []⟩
abbrev s_l_shares : Stmt := top 36
abbrev N_l_shares : List Str := ["_law_standing_here", "_law_name"]
theorem sc_l_shares : FnScope N_l_shares ["_law_standing_here"] (defScope s_l_shares) := ⟨rfl, rfl, rfl, by decide +kernel, rfl, by decide +kernel, by decide +kernel⟩
def d_l_shares : He.DefD := ⟨("_law_shares", none), "_law_shares", "_law_shares", defArgs s_l_shares, defBody s_l_shares, defScope s_l_shares, [], []⟩
abbrev s_l_standing : Stmt := top 37
abbrev N_l_standing : List Str := ["_law_held_here", "_law_names_here", "_law_found", "_law_rest", "_law_bottom", "_law_wide", "_law_name"]
theorem sc_l_standing : FnScope N_l_standing ["_law_held_here", "_law_names_here"] (defScope s_l_standing) := ⟨rfl, rfl, rfl, by decide +kernel, rfl, by decide +kernel, by decide +kernel⟩
def d_l_standing : He.DefD := ⟨("_law_standing", none), "_law_standing", "_law_standing", defArgs s_l_standing, defBody s_l_standing, defScope s_l_standing, [], []⟩
abbrev s_l_handed : Stmt := top 38
abbrev N_l_handed : List Str := ["_law_found", "_law_rows", "_law_row"]
theorem sc_l_handed : FnScope N_l_handed ["_law_found"] (defScope s_l_handed) := ⟨rfl, rfl, rfl, by decide +kernel, rfl, by decide +kernel, by decide +kernel⟩
def d_l_handed : He.DefD := ⟨("_law_handed", none), "_law_handed", "_law_handed", defArgs s_l_handed, defBody s_l_handed, defScope s_l_handed, [], []⟩
abbrev s_l_behind : Stmt := top 39
abbrev N_l_behind : List Str := ["_law_standing_here", "_law_rows", "_law_found", "_law_payer", "_law_taker", "_law_share"]
theorem sc_l_behind : FnScope N_l_behind ["_law_standing_here", "_law_rows"] (defScope s_l_behind) := ⟨rfl, rfl, rfl, by decide +kernel, rfl, by decide +kernel, by decide +kernel⟩
def d_l_behind : He.DefD := ⟨("_law_behind", none), "_law_behind", "_law_behind", defArgs s_l_behind, defBody s_l_behind, defScope s_l_behind, [], []⟩
abbrev s_l_most_lots : Stmt := top 40
abbrev N_l_most_lots : List Str := ["_law_standing_here", "_law_some", "_law_common", "_law_top", "_law_bottom", "_law_sums", "_law_found", "_law_number", "_law_here", "_law_name", "_law_k"]
theorem sc_l_most_lots : FnScope N_l_most_lots ["_law_standing_here"] (defScope s_l_most_lots) := ⟨rfl, rfl, rfl, by decide +kernel, rfl, by decide +kernel, by decide +kernel⟩
def d_l_most_lots : He.DefD := ⟨("_law_most_lots", none), "_law_most_lots", "_law_most_lots", defArgs s_l_most_lots, defBody s_l_most_lots, defScope s_l_most_lots, [], []⟩
abbrev s_l_led : Stmt := top 41
abbrev N_l_led : List Str := ["_law_standing_here", "_law_rows", "_law_left", "_law_row", "_law_payer", "_law_taker", "_law_share"]
theorem sc_l_led : FnScope N_l_led ["_law_standing_here", "_law_rows"] (defScope s_l_led) := ⟨rfl, rfl, rfl, by decide +kernel, rfl, by decide +kernel, by decide +kernel⟩
def d_l_led : He.DefD := ⟨("_law_led", none), "_law_led", "_law_led", defArgs s_l_led, defBody s_l_led, defScope s_l_led, [], []⟩
abbrev s_law : Stmt := top 42
abbrev N_law : List Str := ["_law_script", "_law_held_here", "_law_turn", "_law_names_here", "_law_many", "_law_standing_here", "_law_shares_here", "_law_rows", "_law_left", "_law_uneven", "_law_name"]
theorem sc_law : FnScope N_law ["_law_script"] (defScope s_law) := ⟨rfl, rfl, rfl, by decide +kernel, rfl, by decide +kernel, by decide +kernel⟩
def d_law : He.DefD := ⟨("law", none), "law", "law", defArgs s_law, defBody s_law, defScope s_law, [], []⟩
def fn : List He.DefD := [d__wall, d_NoKind_init, d_Nought_init, d_Uneven_init, d_TooMany_init, d_is_whole, d_common_part, d_Share_init, d_Share_eq, d_Share_str, d_Share_repr, d_Share_plus, d_Share_less, d_Share_times, d_Share_over, d_Share_below, d_Share_whole, d_same_share, d_total, d_check_even, d_joined, d_turned, d_after, d_lesser, d_above_nought, d_whole_credits, d_sums_of_sets, d_without_one, d_best_takings, d_lots, d_settled_lot, d_settled, d_l_held, d_l_draw, d_l_names, d_l_low, d_l_add, d_l_pair, d_l_shares, d_l_standing, d_l_handed, d_l_behind, d_l_most_lots, d_l_led, d_law]
end K58
set_option Elab.async false
set_option linter.all false
set_option maxRecDepth 100000
set_option maxHeartbeats 4000000
/-! GX: own exceptions over any built-in base, whose own __init__ calls the base's and stores a field. -/
namespace GX
open PySem PySem.Spec PyProof.Rows L2

/-- what the written part tells of the class -/
structure Gx (K : PySem.W.Frag) (C : Addr) (bmB : List Value) (nid : String) : Prop where
  over : PySem.W.excOver K C bmB = true
  made : PySem.W.excInitIn K C bmB nid = true
  hasd : ∃ cd, PySem.W.clsIn K C = some cd ∧ cd.hasDict = true
  sets : PySem.W.findIn K (.ref C) "__setattr__" = some (some (.builtin "object.__setattr__"))
  base : PySem.W.subIn K (.ref C) (.type "BaseException") = some true
  typ : PySem.W.typeIn K (.ref C) = some (.type "type")
  keep : PySem.W.keepIn K (.ref C) = true

section
open Builtin Builtin.ObjectAttr
variable {prog : Program} {w : World} {A : Around} {R : Result → Shared → Prop} {hp : Heap} {g : Array GenState} {d : Drawn} {t : Nat} {os : OsState} {B : String} {bmB : List Value}
theorem first_store {K : PySem.W.Frag} {name : Str} {tk : Tok} {v : Value} {x C : Addr} {fv : Array Value} {cd : ClassData} (SF : StoreFacts B bmB "object.__setattr__" "object")
    (X : K.In hp) (hx : hp.get? x = some { cls := .ref C, data := .fields fv }) (ho : PySem.W.excOver K C bmB = true) (hc : PySem.W.clsIn K C = some cd) (hd : cd.hasDict = true)
    (hf : PySem.W.findIn K (.ref C) name = some none)
    (post : ∀ h' tk' dx, (∀ b o, b ≠ x → hp.get? b = some o → h'.get? b = some o) → hp.objs.size ≤ dx → dx ≠ x →
      h'.get? x = some { cls := .ref C, dict := some dx, data := .fields fv } → h'.Ns1 dx (fun y => if y = name then some v else none) → R (.ok (.ret .none)) ⟨h', g, d, tk', os⟩) :
    codeAny (model prog w) A (.call (.builtin "object.__setattr__") ⟨[.ref x, .str name tk, v], []⟩) R ⟨hp, g, d, t, os⟩ := by
  have inst : PySem.W.InstAt hp x { cls := .ref C, data := .fields fv } C none := ⟨hx, rfl, rfl, trivial⟩
  have far : x ≠ hp.objs.size := Nat.ne_of_lt (Heap.lt_size hx)
  have lc : PySem.W.Looks (model prog w) hp (classData C) cd := PySem.W.looks_clsIn X hc
  refine PySem.W.osa_openX (r := none) SF X inst ho (by unfold PySem.W.takerIn; rw [hf]; rfl) fun b => ?_
  dsimp only
  obtain ⟨n1, n2, n3, n4, n5, n6, n7, n8, n9, n10, n11⟩ := cd
  dsimp only at hd
  subst hd
  unfold storeInOwnDict ownDictForStores
  repeat (first | with_reducible refine PySem.HandSPX.store_in_new ?_ ?_ | with_reducible refine wpAny_loadPart_at hx ?_ | with_reducible refine lc.at ?_ | wp_step)
  · exact ⟨_, #[], _, (Heap.get?_update_ne _ _ _ _ far.symm).trans (Heap.get?_push_at rfl rfl), rfl, fun e he => absurd he (by simp), fun _ => rfl⟩
  · intro h' tk' hn hs
    have hx1 : (hp.push { cls := .type "dict", data := .dict #[] }).get? x = some { cls := .ref C, data := .fields fv } := Heap.get?_push_of_some _ hx
    refine post h' tk' hp.objs.size (fun b o hb hob => ?_) (Nat.le_refl _) far.symm ?_ hn
    · have e1 := hs.2 b (Nat.ne_of_lt (Heap.lt_size hob))
      rw [e1, Heap.get?_update_ne _ _ _ _ hb]
      exact Heap.get?_push_of_some _ hob
    · rw [hs.2 x far]
      exact Heap.get?_update_self _ hx1 rfl
end

section
variable {X : Cx} {pins : List (Addr × Obj)} {σ : L2.St} {H : Hp} {s : Shared} {a C dx : Addr} {f : Str} {y : V} {u : Value} {Q : Unit → Shared → Prop} {E : Value → Shared → Prop} {A : Around} {B : String} {bmB : List Value} {nid iid : String}
/-- self.f = y, the first store -/
theorem put_first (SF : StoreFacts B bmB "object.__setattr__" "object") (T : Gx X.K C bmB nid) (I : Inv X pins σ H s) (e : H a = some (exo a C none)) (hno : PySem.W.findIn X.K (.ref C) f = some none) (ry : RelV y u)
    (post : ∀ dx s', H dx = none → dx ≠ a → Inv X pins σ (upd (upd H dx (exd dx [(f, y)])) a (exo a C (some dx))) s' → Q () s') : wpAny (model X.prog X.w) A (setAttr (.ref a) f u) Q E s := by
  obtain ⟨cd, hcd, hdd⟩ := T.hasd
  obtain ⟨t1, at1⟩ := exo_at I.hok e
  obtain ⟨hp, g, d, t, os⟩ := s
  refine PySem.W.set_plain I.kIn (ox := { cls := .ref C, dict := none, data := .fields #[.ref t1, .none, .none, .none, .bool false, .none] }) (od := none) ⟨at1, rfl, rfl, trivial⟩ T.sets ?_
  refine first_store SF I.kIn at1 T.over hcd hdd hno (fun h' tk' dx kp dn dne hx hn => ?_)
  have fresh : H dx = none := I.hok.fresh dn
  have old : ∀ {b : Addr} {o : Obj}, hp.get? b = some o → b ≠ dx := fun {b o} q => Nat.ne_of_lt (Nat.lt_of_lt_of_le (Heap.lt_size q) dn)
  have other : ∀ {b : Addr}, H b = none → b ≠ a := fun {b} n z => by
    rw [z, e] at n
    cases n
  have un : Un X.fs [] H (upd (upd H dx (exd dx [(f, y)])) a (exo a C (some dx))) hp h' := {
    keep := fun b o q n _ _ => kp b o (other n) q
    slot := fun b o q n _ _ => ⟨o.slots, kp b o (other n) q⟩
    free := fun b o q n _ => by rw [upd_ne (other n), upd_ne (old q)]; exact n
    there := fun b o q _ => by
      by_cases hb : b = a
      · exact ⟨_, hb ▸ hx⟩
      · exact ⟨o, kp b o hb q⟩
    tups := fun b xs q => by rw [upd_ne (at_ne e q exo_tup), upd_ne (ne_of_none q fresh)]; exact q
    frzs := fun b o v q => by rw [upd_ne (at_ne e q exo_frz), upd_ne (ne_of_none q fresh)]; exact q
    tbls := fun b ps q => ⟨#[], by rw [upd_ne (at_ne e q exo_tbl), upd_ne (ne_of_none q fresh), q]; simp⟩ }
  refine post dx _ fresh dne (I.un (t' := tk') un fun b o q => ?_)
  by_cases hb : b = a
  · subst hb
    rw [upd_same] at q
    cases q
    exact exo_ok hx
  · rw [upd_ne hb] at q
    by_cases hd : b = dx
    · subst hd
      rw [upd_same] at q
      cases q
      exact exd_ok hn (relO_put (fs := []) ry fun g => True.intro)
    · rw [upd_ne hd] at q
      refine (I.hok b o q).stay (fun c v hc z => kp c v ?_ z) (fun c hc => ?_) (fun c xs hc => ?_)
      · rcases hc with hc | hc
        · exact hc ▸ hb
        · exact at_ne e hc exo_own
      · rw [upd_ne (at_ne e hc exo_own), upd_ne (ne_of_none hc fresh)]; exact hc
      · rw [upd_ne (at_ne e hc exo_tup), upd_ne (ne_of_none hc fresh)]; exact hc
/-- Base.__init__(self, ..) -/
theorem base_init {us : List Value} {Q : Value → Shared → Prop} (FB : ExcBaseFacts B nid iid bmB) (T : Gx X.K C bmB nid) (I : Inv X pins σ H s) (e : H a = some (exo a C none)) (hl : us.length ≤ sizeLine) (post : ∀ s', Inv X pins σ H s' → Q .none s') :
    wpAny (model X.prog X.w) A (call (.builtin iid) (.ref a :: us)) Q E s := by
  obtain ⟨nm, N, qn, bs, bm, hdct, sn, sub, ab, col, dd, k0, k1, k2, k3, k5, hC, hT⟩ := PySem.W.excInit_of I.kIn T.made
  obtain ⟨t1, at1⟩ := exo_at I.hok e
  obtain ⟨hp, g, d, t, os⟩ := s
  refine wpAny_call (PySem.HandSPX.init_base FB hT hC at1 hl fun h' t2 kp hx => ?_)
  have J := I.write (t' := t) (x := a) (e := a) (o := exo a C none) (by rw [e]; exact True.intro) (.inl rfl) kp ⟨_, hx⟩ (exo_ok hx)
  have same : upd H a (exo a C none) = H := funext fun b => by
    by_cases hb : b = a
    · rw [hb, upd_same, e]
    · rw [upd_ne hb]
  rw [same] at J
  exact post _ J
end

/-! ### readings and rules -/
/-- Base.__init__(self, ..) -/
def tBi (K : PySem.W.Frag) (bmB : List Value) (nid : String) (ta : TA) : TE := fun σ H Q => ta σ H fun vs H1 => ∃ (a C : Addr) (ws : List V), vs = .ref a :: ws ∧ ws.length ≤ 1000 ∧ Gx K C bmB nid ∧ H1 a = some (exo a C none) ∧ Q .non H1
/-- self.f = e, the first one -/
def tPf (K : PySem.W.Frag) (bmB : List Value) (nid : String) (f : Str) (to te : TE) : TS := fun D σ H => te σ H fun y H1 => to σ H1 fun x H2 => ∃ a C : Addr, x = .ref a ∧ Gx K C bmB nid ∧ PySem.W.findIn K (.ref C) f = some none ∧
  H2 a = some (exo a C none) ∧ ∀ dx, H2 dx = none → dx ≠ a → D.nx σ (upd (upd H2 dx (exd dx [(f, y)])) a (exo a C (some dx)))
section
variable {X : Cx} {o e : Expr} {es : List Expr} {to te : TE} {ta : TA} {f : Str} {p p' p1 p2 pos : Pos} {B nid iid : String} {bmB : List Value} {x : Str}
theorem pe_bi {pl : Sem Bool} (FB : ExcBaseFacts B nid iid bmB) (hg : Gl X x) (hm : X.mg x = none) (hv : bootBuiltins x = some (.type B)) (ty : typeOf (.type B) = pure (.type "type"))
    (vV : PySem.W.findCls X.K (.type B) (.type "type") "__init__" = some (.val (.builtin iid))) (hb : PySem.W.handedIn (.builtin iid) = true) (hst : Manifest.isStub B = false) (ha : PA X (e :: es) ta)
    (hc : eval (.Call (.Attribute (.Name x p1) "__init__" p2) (e :: es) [] pos) X.env = (do
      let ov ← eval (.Name x p1) X.env
      standAt p2.atName
      let (f, first) ← holding [ov] (getMethod ov "__init__" pl)
      callWith pos f first (backTo pos (starEach (e :: es) X.env)) (backToKw pos (keywordEach [] X.env))) := by rfl)
    (hn : x ≠ "__name__" := by decide) (hd : (x == ("__debug__" : Str)) = false := by decide)
    (he : starEach (e :: es) X.env = (false, eval e X.env) :: starEach es X.env := by rfl) (hpl : (backTo pos (starEach es X.env)).any (·.1) = false := by rfl) :
    PE X (.Call (.Attribute (.Name x p1) "__init__" p2) (e :: es) [] pos) (tBi X.K bmB nid ta) := by
  refine ⟨fun pins s σ H Q I h => ?_⟩
  refine PySem.W.methodCall_KW (ld_blt I hg hm hv ?_ hn hd) hc
  obtain ⟨m, fr⟩ := I.fr
  refine PySem.W.method_type fr I.ok.mod.kin ty hst vV hb ?_
  show wpAny _ _ (callWith pos (Value.builtin iid) [] (backTo pos (starEach (e :: es) X.env)) []) _ _ _
  refine PyProof.Rows.callWith_method1 (thn (ha.run pos pins _ σ H _ (I.tok _) h) fun us s1 hh => ?_) he hpl
  obtain ⟨vs, H1, I1, r1, a, C, ws, ev, hl, T, ea, q⟩ := hh
  subst ev
  cases r1 with
  | @cons _ u0 _ ur ra rw' =>
    obtain rfl : u0 = Value.ref a := ra
    have hlen : ur.length ≤ sizeLine := by
      have := Paired.length rw'
      rw [sizeLine_eq]
      omega
    exact base_init FB T I1 ea hlen fun s' J => ⟨.non, H1, J, rfl, q⟩
theorem ps_pf (SF : StoreFacts B bmB "object.__setattr__" "object") (ho : PE X o to) (he : PE X e te) (hs : swapsWith e (some (.Attribute o f p')) pos.line X.env = pure false := by rfl) : PS X (.Assign [.Attribute o f p'] e pos) (tPf X.K bmB nid f to te) := by
  refine ⟨fun pins s σ H D I h => ?_⟩
  refine plainObj_wpAny_Assign_Attribute (thn (he.run pins s σ H _ I h) fun v s1 h1 => ?_) hs
  obtain ⟨y, H1, I1, r1, q1⟩ := h1
  refine thn (ho.run pins s1 σ H1 _ I1 q1) fun u s2 h2 => ?_
  obtain ⟨z, H2, I2, r2, a, C, ex, T, hno, ea, q⟩ := h2
  subst ex
  obtain rfl : u = Value.ref a := r2
  exact put_first SF T I2 ea hno r1 fun dx s' n ne J => ⟨σ, _, J, q dx n ne⟩
/-- C(e, ..) as what is raised, C's own __init__ keeping sp -/
theorem pmk_gx {CX : CXT} {C fI : Addr} {k : Nat} {fd : FuncData} {ps : List Str} {sp : Sp} {ds : List Value} {dvs : List V} (FB : ExcBaseFacts B nid iid bmB) (T : Gx X.K C bmB nid) (iC : PySem.W.findIn X.K (.ref C) "__init__" = some (some (.ref fI)))
    (tI : PySem.W.typeIn X.K (.ref fI) = some (.type "function"))
    (F1 : FnOk X.prog X.w X.K X.mg X.base CX k fI fd ps sp) (hr : Room (k + 1) X.A) (hb : Binds X.K fd ps ds) (hd : Vals dvs ds) (hx : Passes CX X (fun _ _ _ => False)) (hg : Gl X x) (hm : X.mg x = some (.ref C)) (ha : PA X (e :: es) ta)
    (hdb : (x == ("__debug__" : Str)) = false := by decide) (he : starEach (e :: es) X.env = (false, eval e X.env) :: starEach es X.env := by rfl) (hpl : (backTo pos (starEach es X.env)).any (·.1) = false := by rfl) :
    PMk X (.Call (.Name x p) (e :: es) [] pos) (tMkO C sp dvs ta) := by
  intro pins s σ H Q I h
  refine wpAny_Call_Name_kw (ld_glob I hg hm ?_ hdb)
  refine PySem.W.callWith_K (h₀ := X.base) I.ok.mod.kin T.keep (thn (ha.run pos pins s σ H _ I h) fun us s1 hh => ?_) he hpl
  obtain ⟨vs, H1, I1, r1, hz, q1⟩ := hh
  refine ⟨I1.kIn, ?_⟩
  show wpAny _ _ (call (.ref C) us) _ _ _
  obtain ⟨nm, N, qn, bs, bm, hdct, sn, sub, ab, col, dd, k0, k1, k2, k3, k5, hC, hT⟩ := PySem.W.excInit_of I1.kIn T.made
  obtain ⟨hp, g, dr, tk, os⟩ := s1
  have big : hp.objs.size ≤ hp.objs.size + 1 := Nat.le_succ _
  have hq := q1 (hp.objs.size + 1) (I1.hok.fresh big)
  have kk : ∀ b o, hp.get? b = some o → ((hp.push (PySem.W.kdv_tup us)).push (PySem.HandSPX.excO C hp.objs.size)).get? b = some o := fun b o z =>
    Heap.get?_push_of_some _ (Heap.get?_push_of_some _ z)
  have there : ((hp.push (PySem.W.kdv_tup us)).push (PySem.HandSPX.excO C hp.objs.size)).get? (hp.objs.size + 1) = some (PySem.HandSPX.excO C hp.objs.size) := by heap_get
  have I2 := I1.laid (t' := tk) (a := hp.objs.size + 1) (o := exo (hp.objs.size + 1) C none) (h' := (hp.push (PySem.W.kdv_tup us)).push (PySem.HandSPX.excO C hp.objs.size)) kk big (exo_ok there)
  have r2 : Vals (V.ref (hp.objs.size + 1) :: (vs ++ dvs)) (Value.ref (hp.objs.size + 1) :: (us ++ ds)) := .cons rfl (r1.append hd)
  have hl : (Value.ref (hp.objs.size + 1) :: us ++ ds).length = ps.length := by
    have e1 := r2.length
    rw [F1.len _ _ _ _ hq] at e1
    exact e1.symm
  have few : us.length ≤ sizeLine := by
    have := Paired.length r1
    rw [sizeLine_eq]
    omega
  refine wpAny_call (PySem.HandSPX.call_own FB hT hC (PySem.W.looks_findIn I1.kIn iC) (fun self => PySem.W.bind_fn I1.kIn self tI) few (codeAny_mono
    (F1.run _ X.stack _ _ ⟨Value.ref (hp.objs.size + 1) :: us, []⟩ (Value.ref (hp.objs.size + 1) :: (us ++ ds)) _ _ (fun _ _ _ => False) (hr.make C us []) (I2.env0.make C us []) (hb _ (Value.ref (hp.objs.size + 1) :: us) I2.kIn hl) r2 hq) fun r s' hq' => ?_))
  cases r with
  | error er => exact hx pins σ _ _ er s' I2 hq'
  | ok fl =>
    cases fl with
    | ret u =>
      obtain ⟨v, H2, os2, bare2, un2, hok2, rv, ev, d, fs, ea, ed, hd1, q2⟩ := hq'
      subst ev
      obtain ⟨h2, g2, d2, t2, os'⟩ := s'
      exact ⟨rv, mk_end (raises_own T.base T.typ) I1 big kk un2 hok2 os2 bare2 ea ed hd1 q2⟩
    | next => exact False.elim hq'
    | brk => exact False.elim hq'
    | cont => exact False.elim hq'
end
/-! ### the head's look at such a class -/
def hasDB (K : PySem.W.Frag) (C : Addr) : Bool := match PySem.W.clsIn K C with
  | some cd => cd.hasDict
  | none => false
/-- Base.__init__, read off the class Base -/
def vvB (K : PySem.W.Frag) (B iid : String) : Bool := match PySem.W.findCls K (.type B) (.type "type") "__init__" with
  | some (.val (.builtin n)) => n == iid
  | _ => false
theorem vvB_ok {K : PySem.W.Frag} {B iid : String} (h : vvB K B iid = true) : PySem.W.findCls K (.type B) (.type "type") "__init__" = some (.val (.builtin iid)) := by
  unfold vvB at h
  split at h
  · rename_i n e
    rw [e, eq_of_beq h]
  · cases h
/-- what isinstance asks of an own class -/
def isB (K : PySem.W.Frag) (C : Addr) : Bool := He.eqO (PySem.W.findIn K (.ref C) "__class__") (some (some (.builtin "object.__class__"))) && (He.eqO (PySem.W.specialIn K (.builtin "object.__class__") "__get__") (some (some (.builtin "getset_descriptor.__get__"))) &&
  (decide (PySem.W.takesIn K (.builtin "object.__class__") = some true) && decide (PySem.W.mroIn K C (.type "object") = some true)))
def gxB (K : PySem.W.Frag) (C : Addr) (bmB : List Value) (nid : String) : Bool := PySem.W.excOver K C bmB && (PySem.W.excInitIn K C bmB nid && (hasDB K C &&
  (He.eqO (PySem.W.findIn K (.ref C) "__setattr__") (some (some (.builtin "object.__setattr__"))) && (decide (PySem.W.subIn K (.ref C) (.type "BaseException") = some true) &&
  (decide (PySem.W.typeIn K (.ref C) = some (.type "type")) && PySem.W.keepIn K (.ref C))))))
theorem gxB_ok {K : PySem.W.Frag} {C : Addr} {bmB : List Value} {nid : String} (h : gxB K C bmB nid = true) : Gx K C bmB nid := by
  unfold gxB at h
  simp only [Bool.and_eq_true, decide_eq_true_eq] at h
  obtain ⟨h1, h2, h3, h4, h5, h6, h7⟩ := h
  refine ⟨h1, h2, ?_, He.eqO_ok h4, h5, h6, h7⟩
  unfold hasDB at h3
  split at h3
  · rename_i cd e
    exact ⟨cd, e, h3⟩
  · cases h3
end GX
set_option linter.all false
namespace KM
/-- the signed common part -/
def sg (t b : Int) : Int := if b < 0 then -(Int.gcd t b : Int) else (Int.gcd t b : Int)
/-- a fraction in lowest terms -/
def low (t b : Int) : Int × Int := (t.fdiv (sg t b), b.fdiv (sg t b))
theorem gcd_pos {t b : Int} (h : b ≠ 0) : 0 < Int.gcd t b := Int.gcd_pos_of_ne_zero_right t h
theorem sg_ne {t b : Int} (h : b ≠ 0) : sg t b ≠ 0 := by
  have := gcd_pos (t := t) h
  unfold sg
  split <;> omega
theorem sg_dvd_left (t b : Int) : sg t b ∣ t := by
  unfold sg
  split
  · exact Int.neg_dvd.mpr (Int.gcd_dvd_left ..)
  · exact Int.gcd_dvd_left ..
theorem sg_dvd_right (t b : Int) : sg t b ∣ b := by
  unfold sg
  split
  · exact Int.neg_dvd.mpr (Int.gcd_dvd_right ..)
  · exact Int.gcd_dvd_right ..
theorem low_top {t b : Int} : sg t b * (low t b).1 = t := by
  show sg t b * t.fdiv (sg t b) = t
  rw [Int.fdiv_eq_ediv_of_dvd (sg_dvd_left t b)]
  exact Int.mul_ediv_cancel' (sg_dvd_left t b)
theorem low_bot {t b : Int} : sg t b * (low t b).2 = b := by
  show sg t b * b.fdiv (sg t b) = b
  rw [Int.fdiv_eq_ediv_of_dvd (sg_dvd_right t b)]
  exact Int.mul_ediv_cancel' (sg_dvd_right t b)
theorem sg_abs (t b : Int) : (sg t b).natAbs = Int.gcd t b := by
  unfold sg
  split <;> simp
theorem low_pos {t b : Int} (h : b ≠ 0) : 0 < (low t b).2 := by
  have e := low_bot (t := t) (b := b)
  have g := gcd_pos (t := t) h
  by_cases hb : b < 0
  · have hs : sg t b < 0 := by unfold sg; rw [if_pos hb]; omega
    refine Int.lt_of_not_ge fun hc => ?_
    have := Int.mul_nonneg_of_nonpos_of_nonpos (Int.le_of_lt hs) hc
    omega
  · have hs : 0 < sg t b := by unfold sg; rw [if_neg hb]; omega
    refine Int.lt_of_not_ge fun hc => ?_
    have := Int.mul_nonpos_of_nonneg_of_nonpos (Int.le_of_lt hs) hc
    omega
theorem low_cop {t b : Int} (h : b ≠ 0) : Int.gcd (low t b).1 (low t b).2 = 1 := by
  have e : Int.gcd (sg t b * (low t b).1) (sg t b * (low t b).2) = (sg t b).natAbs * Int.gcd (low t b).1 (low t b).2 := Int.gcd_mul_left ..
  rw [low_top, low_bot, sg_abs] at e
  have g := gcd_pos (t := t) h
  have : Int.gcd t b * Int.gcd (low t b).1 (low t b).2 = Int.gcd t b * 1 := by omega
  exact Nat.eq_of_mul_eq_mul_left g this
theorem low_id {t b : Int} (hb : 0 < b) (h : Int.gcd t b = 1) : low t b = (t, b) := by
  have e : sg t b = 1 := by unfold sg; rw [if_neg (by omega), h]; rfl
  unfold low
  rw [e]
  simp
theorem low_low {t b : Int} (h : b ≠ 0) : low (low t b).1 (low t b).2 = low t b := low_id (low_pos h) (low_cop h)
/-- the bottom stays: nothing is taken out -/
theorem low_same {t b : Int} (hb : 0 < b) (h : (low t b).2 = b) : low t b = (t, b) := by
  have e := low_bot (t := t) (b := b)
  rw [h] at e
  have e1 : sg t b * b = 1 * b := by omega
  have e2 := Int.eq_of_mul_eq_mul_right (Int.ne_of_gt hb) e1
  have e3 := low_top (t := t) (b := b)
  rw [e2] at e3
  refine Prod.ext ?_ h
  show (low t b).1 = t
  omega
theorem dvd_le {x y : Int} (h : x * y ≠ 0) : y.natAbs ≤ (x * y).natAbs := by
  rw [Int.natAbs_mul]
  have : x ≠ 0 := fun z => h (by rw [z, Int.zero_mul])
  exact Nat.le_mul_of_pos_left _ (by omega)
theorem low_top_le {t b : Int} (h : b ≠ 0) : (low t b).1.natAbs ≤ t.natAbs := by
  by_cases ht : t = 0
  · subst ht
    have e := low_top (t := 0) (b := b)
    rcases Int.mul_eq_zero.mp e with z | z
    · exact absurd z (sg_ne h)
    · rw [z]; exact Nat.le_refl _
  · have e := low_top (t := t) (b := b)
    have := dvd_le (x := sg t b) (y := (low t b).1) (by omega)
    rw [e] at this
    exact this
theorem low_bot_le {t b : Int} (h : b ≠ 0) : (low t b).2.natAbs ≤ b.natAbs := by
  have e := low_bot (t := t) (b := b)
  have := dvd_le (x := sg t b) (y := (low t b).2) (by omega)
  rw [e] at this
  exact this
theorem sg_le {t b : Int} (h : b ≠ 0) : (sg t b).natAbs ≤ b.natAbs := by
  have e := low_bot (t := t) (b := b)
  have := dvd_le (x := (low t b).2) (y := sg t b) (by rw [Int.mul_comm]; omega)
  rw [Int.mul_comm, e] at this
  exact this
/-- Euclid's turn over whole numbers from 0 on -/
theorem gcd_turn {a b : Int} (ha : 0 ≤ a) (hb : 0 < b) : Int.gcd b (a % b) = Int.gcd a b := by
  obtain ⟨m, rfl⟩ := Int.eq_ofNat_of_zero_le ha
  obtain ⟨n, rfl⟩ := Int.eq_ofNat_of_zero_le (Int.le_of_lt hb)
  show Nat.gcd (Int.natAbs (n : Int)) (Int.natAbs ((m : Int) % (n : Int))) = Nat.gcd (Int.natAbs (m : Int)) (Int.natAbs (n : Int))
  rw [← Int.natCast_emod, Int.natAbs_natCast, Int.natAbs_natCast, Int.natAbs_natCast, Nat.gcd_comm n, Nat.gcd_comm m n]
  exact (Nat.gcd_rec n m).symm
theorem gcd_succ (a : Int) : Int.gcd a (a + 1) = 1 := by
  have : Int.gcd (a + 1) a = Int.gcd 1 a := by
    rw [Int.add_comm, Int.gcd_add_self_left]
  rw [Int.gcd_comm, this, Int.gcd_comm]
  simp
end KM
set_option Elab.async false
set_option linter.all false
set_option maxRecDepth 100000
set_option maxHeartbeats 4000000
namespace K58
open PySem PySem.Spec PyProof.Rows L2
/-- a def of the text -/
abbrev Dn (K : PySem.W.Frag) (d : He.DefD) (f : Addr) (fd : FuncData) : Prop := FunD K d.name d.qual d.params d.body d.scope (d.dvs K) (d.kws K) f fd
/-- what the module's names are -/
structure Bl (mg : Str → Option Value) : Prop where
  isi : mg "isinstance" = none
  int : mg "int" = none
  bool : mg "bool" = none
  abs : mg "abs" = none
  list : mg "list" = none
  range : mg "range" = none
  len : mg "len" = none
theorem op_fdW {X : Cx} : OpR X (binaryOp .FloorDiv) (rI (fun _ j => j ≠ 0 ∧ j.natAbs.log2 < 9000) fun i j => .int (i.fdiv j)) := opI fun _ _ _ _ _ _ _ hc q => floordiv_int hc.1 q (.inl (PyProof.noPylong_of_log2 hc.2))
/-- the fields of a Share -/
def shF (q : Int × Int) : List (Str × V) := putF "bottom" (.int q.2) (putF "top" (.int q.1) [])
theorem tb : ¬ (("top" : Str) = "bottom") := by decide +kernel
theorem shF_top (q : Int × Int) : (shF q).lookup ("top" : Str) = some (.int q.1) := by
  unfold shF
  rw [lookup_putF, if_neg tb, lookup_putF, if_pos rfl]
theorem shF_bot (q : Int × Int) : (shF q).lookup ("bottom" : Str) = some (.int q.2) := by
  unfold shF
  rw [lookup_putF, if_pos rfl]
theorem shF_no (q : Int × Int) {m : Str} (h1 : ¬ m = "bottom") (h2 : ¬ m = "top") : (shF q).lookup m = none := by
  unfold shF
  rw [lookup_putF, if_neg h1, lookup_putF, if_neg h2]
  all_goals rfl
/-- a Share stands at p -/
def Sh (C : Addr) (H : Hp) (p : Addr) (q : Int × Int) : Prop := ∃ dx, H p = some (.ins C dx (shF q))
/-- small enough, the bottom above nought -/
def Bd (n : Nat) (q : Int × Int) : Prop := q.1.natAbs < 2 ^ n ∧ 0 < q.2 ∧ q.2.natAbs < 2 ^ n
theorem Sh.keep {C : Addr} {H H' : Hp} {p : Addr} {q : Int × Int} (s : Same H H') (h : Sh C H p q) : Sh C H' p q := let ⟨dx, e⟩ := h; ⟨dx, s _ _ e⟩
theorem log_lt {j : Int} {n : Nat} (h : j.natAbs < 2 ^ n) (h0 : 0 < n) (h9 : n ≤ 9000) : j.natAbs.log2 < 9000 := Nat.lt_of_lt_of_le (PySem.Flt.log2_lt_of h0 h) h9
/-- what is known of the class -/
structure Cl (K : PySem.W.Frag) (mg : Str → Option Value) (C : Addr) : Prop where
  cl : Cls K C
  nt : NoAttr K C "top"
  nb : NoAttr K C "bottom"
  g : mg "Share" = some (.ref C)
section
variable {P : Program} {w : World} {K : PySem.W.Frag} {mg : Str → Option Value} {base : Heap} {f C : Addr} {fd : FuncData}

def spWhole : Sp := fun vs H Q _ => ∃ n : Int, vs = [.int n] ∧ Q (.bl true) H
theorem ok_whole (F : Dn K d_is_whole f fd) (b : Bl mg) : FnOk P w K mg base CX0 1 f fd ["thing"] spWhole := by
  refine F.ok sc_is_whole (fun vs H Q E h => ?_) (fun cdv A outer s H vs Q E hr h => ?_)
  · obtain ⟨n, rfl, _⟩ := h
    rfl
  · obtain ⟨n, rfl, hQ⟩ := h
    refine ⟨_, PSs.nox (pss_one (ps_ret (pe_and
      (pe_callB call_isi rfl b.isi boot_isinstance (pa_cons (pv 0) (pa_cons (pe_bltn (v := .ty "int") rfl b.int boot_int rfl) pa_nil)))
      (pe_one (pe_not (pe_callB call_isi rfl b.isi boot_isinstance (pa_cons (pv 0) (pa_cons (pe_bltn (v := .ty "bool") rfl b.bool boot_bool rfl) pa_nil)))))))), ?_⟩
    refine ⟨_, rfl, _, _, _, _, true, rfl, ClsV.ty _, TyX.base (TyOf.int n), kit_ty (by decide +kernel), true, rfl, ?_⟩
    refine iteT ?_
    exact ⟨_, rfl, _, _, _, _, false, rfl, ClsV.ty _, TyX.base (TyOf.int n), kit_ty (by decide +kernel), false, rfl, hQ⟩
def spGcd : Sp := fun vs H Q _ => ∃ x y : Int, vs = [.int x, .int y] ∧ Q (.int (Int.gcd x y : Int)) H
theorem abs_eq (x : Int) : (if x < 0 then -x else x) = (x.natAbs : Int) := by split <;> omega
theorem ok_gcd (F : Dn K d_common_part f fd) (b : Bl mg) : FnOk P w K mg base CX0 1 f fd ["one", "other"] spGcd := by
  refine F.ok sc_common_part (fun vs H Q E h => ?_) (fun cdv A outer s H vs Q E hr h => ?_)
  · obtain ⟨x, y, rfl, _⟩ := h
    rfl
  · obtain ⟨x, y, rfl, hQ⟩ := h
    refine ⟨_, PSs.nox (pss_cons (ps_set (i := 0) sc_common_part.nd rfl (.inl rfl) (pe_callB call_abs rfl b.abs boot_abs (pa_cons (pv 0) pa_nil)))
      (pss_cons (ps_set (i := 1) sc_common_part.nd rfl (.inl rfl) (pe_callB call_abs rfl b.abs boot_abs (pa_cons (pv 1) pa_nil)))
      (pss_cons (ps_while PassesOwn.never (pt_cmpR op_ne (pv 1) pe_int (nomark _)) (pss_one (ps_par (i := 0) (j := 1) rfl sc_common_part.nd rfl rfl (by decide) rfl rfl (pa_cons (pv 1) (pa_cons (pe_op op_mod (pv 0) (pv 1)) pa_nil)) rfl)))
      (pss_one (ps_ret (pv 0)))))), ?_⟩
    refine ⟨_, rfl, _, rfl, _, rfl, _, rfl, while_by (fun σ H2 => H2 = H ∧ ∃ a c : Int, σ = [some (.int a), some (.int c)] ∧ 0 ≤ a ∧ 0 ≤ c ∧ Int.gcd a c = Int.gcd x y)
      (fun σ _ => match σ with | [_, some (.int c)] => c.toNat | _ => 0) ⟨rfl, _, _, rfl, ?_, ?_, ?_⟩ ?_ ?_⟩
    · split <;> omega
    · split <;> omega
    · rw [abs_eq, abs_eq]
      rfl
    · rintro σ H2 ⟨rfl, a, c, rfl, ha, hc, hg⟩
      refine ⟨_, rfl, rfl, _, rfl, ?_⟩
      by_cases h0 : c = 0
      · subst h0
        refine iteNS rfl ?_
        refine ⟨_, rfl, ?_⟩
        have e : Int.gcd x y = a.natAbs := by rw [← hg]; simp
        have e2 : (Int.gcd x y : Int) = a := by omega
        rw [e2] at hQ
        exact hQ
      · have hne : (!decide (V.int c = V.int 0)) = true := by simp [h0]
        rw [hne]
        refine iteT ?_
        have hp : 0 < c := by omega
        refine ⟨_, rfl, _, rfl, _, rfl, _, _, rfl, rfl, hp, _, _, rfl, ⟨rfl, _, _, rfl, hc, Int.emod_nonneg _ h0, ?_⟩, ?_⟩
        · rw [KM.gcd_turn ha hp, hg]
        · show (a % c).toNat < c.toNat
          have h1 := Int.emod_nonneg a h0
          have h2 := Int.emod_lt_of_pos a hp
          omega
    · rintro σ H2 Q1 Q2 hm ⟨v, hv, h1, k, hk, q⟩
      exact ⟨v, hv, h1, k, hk, hm _ _ q⟩
end
end K58
set_option Elab.async false
set_option linter.all false
set_option maxRecDepth 100000
set_option maxHeartbeats 4000000
namespace K58
open PySem PySem.Spec PyProof.Rows L2
open C8 (Cal Mak Met pe_c pe_mk pe_mt pe_mt0)
section
variable {P : Program} {w : World} {K : PySem.W.Frag} {mg : Str → Option Value} {base : Heap} {f C : Addr} {fd : FuncData}
abbrev CalW (P : Program) (w : World) (K : PySem.W.Frag) (mg : Str → Option Value) (base : Heap) : Prop := Cal P w K mg base 1 "is_whole" spWhole []
abbrev CalG (P : Program) (w : World) (K : PySem.W.Frag) (mg : Str → Option Value) (base : Heap) : Prop := Cal P w K mg base 1 "common_part" spGcd []
/-- __init__: a Share in lowest terms -/
def spInit (C : Addr) : Sp := fun vs H Q _ => ∃ (p dx : Addr) (t b : Int) (n : Nat), vs = [.ref p, .int t, .int b] ∧ b ≠ 0 ∧ b.natAbs < 2 ^ n ∧ 0 < n ∧ n ≤ 9000 ∧ H p = some (.ins C dx []) ∧
  ∀ H', (∀ a o, a ≠ p → H a = some o → H' a = some o) → H' p = some (.ins C dx (shF (KM.low t b))) → Q .non H'
theorem ok_init (F : Dn K d_Share_init f fd) (cW : CalW P w K mg base) (cG : CalG P w K mg base) (T : Cl K mg C) : FnOk P w K mg base CX0 2 f fd ["self", "top", "bottom"] (spInit C) := by
  refine F.ok sc_Share_init (fun vs H Q E h => ?_) (fun cdv A outer s H vs Q E hr h => ?_)
  · obtain ⟨p, dx, t, b, n, rfl, _⟩ := h
    rfl
  · obtain ⟨p, dx, t, b, n, rfl, hb, hn, hn0, hn9, hp, hQ⟩ := h
    refine ⟨_, PSs.nox (pss_cons (ps_for PassesOwn.never rfl (pi_tup (pe_tup (pa_cons (pv 1) (pa_cons (pv 2) pa_nil)))) (pg_name (i := 3) sc_Share_init.nd rfl (.inl rfl))
        (pss_one (ps_if (pt_not (pt_val (pe_c cW hr (by decide) rfl (pa_cons (pv 3) pa_nil)))) pss_never pss_nil)))
      (pss_cons (ps_if (pt_cmpR op_eq (pv 2) pe_int (nomark _)) pss_never pss_nil)
      (pss_cons (ps_set (i := 4) sc_Share_init.nd rfl (.inl rfl) (pe_c cG hr (by decide) rfl (pa_cons (pv 1) (pa_cons (pv 2) pa_nil))))
      (pss_cons (ps_if (pt_cmpR op_lt (pv 2) pe_int (nomark _)) (pss_one (ps_set (i := 4) sc_Share_init.nd rfl (.inl rfl) (pe_un un_neg (pv 4)))) pss_nil)
      (pss_cons (ps_fld (pv 0) (pe_op op_fdW (pv 1) (pv 4)) rfl)
      (pss_one (ps_fld (pv 0) (pe_op op_fdW (pv 2) (pv 4)) rfl))))))), ?_⟩
    refine ⟨_, rfl, _, rfl, by show 2 ≤ sizeLine; decide, fun u hu => ?_⟩
    have npu : p ≠ u := ne_of_none hp hu
    refine ⟨u, rfl, ⟨_, SqT.of upd_same⟩, for_tup (K := K) (xs := [.int t, .int b]) (fun i σ H2 => H2 = upd H u (.tup [.int t, .int b]) ∧ ∃ v, σ = [some (.ref p), some (.int t), some (.int b), v, none])
      ⟨rfl, none, rfl⟩ (fun i σ H2 _ h => by rw [h.1]; exact SqT.of upd_same) ?_ ?_⟩
    · rintro i y σ H2 hi ⟨rfl, v, rfl⟩
      have hy : ∃ n : Int, y = .int n := by
        match i, hi with
        | 0, e => exact ⟨t, (Option.some.inj e).symm⟩
        | 1, e => exact ⟨b, (Option.some.inj e).symm⟩
      obtain ⟨n, rfl⟩ := hy
      refine ⟨_, rfl, n, rfl, true, rfl, ?_⟩
      refine iteF ?_
      exact ⟨rfl, _, rfl⟩
    · rintro σ H2 ⟨rfl, v, rfl⟩
      refine ⟨_, rfl, rfl, _, rfl, ?_⟩
      have hb0 : decide (V.int b = V.int 0) = false := by simp [hb]
      rw [hb0]
      refine iteF ?_
      refine ⟨_, rfl, _, rfl, t, b, rfl, ?_⟩
      refine ⟨_, rfl, _, _, rfl, rfl, _, rfl, ?_⟩
      have hs9 : (KM.sg t b).natAbs.log2 < 9000 := log_lt (Nat.lt_of_le_of_lt (KM.sg_le hb) hn) hn0 hn9
      have fin : ∀ c : Int, c = KM.sg t b → ∀ v, tSeq (sFld K (tVar 0) (tOp (rI (fun _ j => j ≠ 0 ∧ j.natAbs.log2 < 9000) fun i j => .int (i.fdiv j)) (tVar 1) (tVar 4)) "top") (sFld K (tVar 0) (tOp (rI (fun _ j => j ≠ 0 ∧ j.natAbs.log2 < 9000) fun i j => .int (i.fdiv j)) (tVar 2) (tVar 4)) "bottom")
          { nx := fun _ H' => Q .non H', rt := Q } [some (.ref p), some (.int t), some (.int b), v, some (.int c)] (upd H u (.tup [.int t, .int b])) := by
        rintro c rfl v
        refine ⟨_, rfl, _, rfl, _, _, rfl, rfl, ⟨KM.sg_ne hb, hs9⟩, _, rfl, p, C, dx, _, rfl, (by rw [upd_ne npu]; exact hp), T.cl, T.nt, (by show 0 < 1000; decide), ?_⟩
        refine ⟨_, rfl, _, rfl, _, _, rfl, rfl, ⟨KM.sg_ne hb, hs9⟩, _, rfl, p, C, dx, _, rfl, upd_same, T.cl, T.nb, (by show 1 < 1000; decide), ?_⟩
        refine hQ _ (fun a o ha e => ?_) upd_same
        rw [upd_ne ha, upd_ne ha, upd_ne (ne_of_none e hu)]
        exact e
      refine ite2 (fun h => ?_) (fun h => ?_)
      · have h' : b < 0 := of_decide_eq_true h
        refine ⟨_, rfl, _, rfl, ?_⟩
        exact fin _ (by unfold KM.sg; rw [if_pos h']) _
      · have h' : ¬ b < 0 := fun z => h (decide_eq_true z)
        exact fin _ (by unfold KM.sg; rw [if_neg h']) _
end
end K58
set_option Elab.async false
set_option linter.all false
set_option maxRecDepth 100000
set_option maxHeartbeats 4000000
namespace K58
open PySem PySem.Spec PyProof.Rows L2
open C8 (Cal Mak Met pe_c pe_mk pe_mt pe_mt0)
section
variable {P : Program} {w : World} {K : PySem.W.Frag} {mg : Str → Option Value} {base : Heap} {f C : Addr} {fd : FuncData}
abbrev MakS (P : Program) (w : World) (K : PySem.W.Frag) (mg : Str → Option Value) (base : Heap) (C : Addr) : Prop := Mak P w K mg base 2 "Share" C (spInit C) []
/-- Share(t, b): what is left to show -/
theorem mk_at {H1 : Hp} {t b : Int} {n : Nat} {Q : VK} (hb : b ≠ 0) (hn : b.natAbs < 2 ^ n) (hn0 : 0 < n) (hn9 : n ≤ 9000)
    (hQ : ∀ r H', Same H1 H' → H1 r = none → Sh C H' r (KM.low t b) → Q (.ref r) H') :
    ∀ x dx, H1 x = none → H1 dx = none → dx ≠ x → spInit C (.ref x :: ([V.int t, V.int b] ++ [])) (upd (upd H1 dx (.own x)) x (.ins C dx [])) (fun v H2 => v = .non ∧ Q (.ref x) H2) E0 := by
  intro x dx nx nd ne
  refine ⟨x, dx, t, b, n, rfl, hb, hn, hn0, hn9, upd_same, fun H' kp hp => ⟨rfl, hQ x H' (fun a o e => ?_) nx ⟨dx, hp⟩⟩⟩
  refine kp a o (ne_of_none e nx) ?_
  rw [upd_ne (ne_of_none e nx), upd_ne (ne_of_none e nd)]
  exact e
theorem mul_pos_ne {a b : Int} (ha : 0 < a) (hb : 0 < b) : a * b ≠ 0 := fun z => by
  have := Int.mul_pos ha hb
  omega
def two (n : Nat) (a b : Int × Int) : Prop := Bd n a ∧ Bd n b ∧ 0 < n ∧ n ≤ 4000

def sp_plus (C : Addr) : Sp := fun vs H Q _ => ∃ (p q : Addr) (a b : Int × Int) (n : Nat), vs = [.ref p, .ref q] ∧ Sh C H p a ∧ Sh C H q b ∧ two n a b ∧
  ∀ r H', Same H H' → H r = none → Sh C H' r (KM.low (a.1 * b.2 + b.1 * a.2) (a.2 * b.2)) → Q (.ref r) H'
theorem ok_plus (F : Dn K d_Share_plus f fd) (M : MakS P w K mg base C) (T : Cl K mg C) : FnOk P w K mg base CX0 4 f fd ["self", "other"] (sp_plus C) := by
  refine F.ok sc_Share_plus (fun vs H Q E h => ?_) (fun cdv A outer s H vs Q E hr h => ?_)
  · obtain ⟨p, q, a, b, n, rfl, _⟩ := h
    rfl
  · obtain ⟨p, q, a, b, n, rfl, ⟨dp, hp⟩, ⟨dq, hq⟩, ⟨ba, bb, hn0, hn9⟩, hQ⟩ := h
    refine ⟨_, PSs.nox (pss_one (ps_ret (pe_mk M hr (by decide) rfl (pa_cons (pe_op op_add (pe_op op_mulW (pe_fld (pv 0) rfl) (pe_fld (pv 1) rfl)) (pe_op op_mulW (pe_fld (pv 1) rfl) (pe_fld (pv 0) rfl)))
      (pa_cons (pe_op op_mulW (pe_fld (pv 0) rfl) (pe_fld (pv 1) rfl)) pa_nil))))), ?_⟩
    refine ⟨_, rfl, p, C, dp, _, _, rfl, hp, T.cl, T.nt, shF_top a, _, rfl, q, C, dq, _, _, rfl, hq, T.cl, T.nb, shF_bot b, _, _, rfl, rfl, wide_mul ba.1 bb.2.2 hn0 hn0 (by omega), ?_⟩
    refine ⟨_, rfl, q, C, dq, _, _, rfl, hq, T.cl, T.nt, shF_top b, _, rfl, p, C, dp, _, _, rfl, hp, T.cl, T.nb, shF_bot a, _, _, rfl, rfl, wide_mul bb.1 ba.2.2 hn0 hn0 (by omega), _, _, rfl, rfl, ?_⟩
    refine ⟨_, rfl, p, C, dp, _, _, rfl, hp, T.cl, T.nb, shF_bot a, _, rfl, q, C, dq, _, _, rfl, hq, T.cl, T.nb, shF_bot b, _, _, rfl, rfl, wide_mul ba.2.2 bb.2.2 hn0 hn0 (by omega), ?_⟩
    exact mk_at (n := n + n) (mul_pos_ne ba.2.1 bb.2.1) (wide_lt ba.2.2 bb.2.2) (by omega) (by omega) hQ

def sp_less (C : Addr) : Sp := fun vs H Q _ => ∃ (p q : Addr) (a b : Int × Int) (n : Nat), vs = [.ref p, .ref q] ∧ Sh C H p a ∧ Sh C H q b ∧ two n a b ∧
  ∀ r H', Same H H' → H r = none → Sh C H' r (KM.low (a.1 * b.2 - b.1 * a.2) (a.2 * b.2)) → Q (.ref r) H'
theorem ok_less (F : Dn K d_Share_less f fd) (M : MakS P w K mg base C) (T : Cl K mg C) : FnOk P w K mg base CX0 4 f fd ["self", "other"] (sp_less C) := by
  refine F.ok sc_Share_less (fun vs H Q E h => ?_) (fun cdv A outer s H vs Q E hr h => ?_)
  · obtain ⟨p, q, a, b, n, rfl, _⟩ := h
    rfl
  · obtain ⟨p, q, a, b, n, rfl, ⟨dp, hp⟩, ⟨dq, hq⟩, ⟨ba, bb, hn0, hn9⟩, hQ⟩ := h
    refine ⟨_, PSs.nox (pss_one (ps_ret (pe_mk M hr (by decide) rfl (pa_cons (pe_op op_sub (pe_op op_mulW (pe_fld (pv 0) rfl) (pe_fld (pv 1) rfl)) (pe_op op_mulW (pe_fld (pv 1) rfl) (pe_fld (pv 0) rfl)))
      (pa_cons (pe_op op_mulW (pe_fld (pv 0) rfl) (pe_fld (pv 1) rfl)) pa_nil))))), ?_⟩
    refine ⟨_, rfl, p, C, dp, _, _, rfl, hp, T.cl, T.nt, shF_top a, _, rfl, q, C, dq, _, _, rfl, hq, T.cl, T.nb, shF_bot b, _, _, rfl, rfl, wide_mul ba.1 bb.2.2 hn0 hn0 (by omega), ?_⟩
    refine ⟨_, rfl, q, C, dq, _, _, rfl, hq, T.cl, T.nt, shF_top b, _, rfl, p, C, dp, _, _, rfl, hp, T.cl, T.nb, shF_bot a, _, _, rfl, rfl, wide_mul bb.1 ba.2.2 hn0 hn0 (by omega), _, _, rfl, rfl, ?_⟩
    refine ⟨_, rfl, p, C, dp, _, _, rfl, hp, T.cl, T.nb, shF_bot a, _, rfl, q, C, dq, _, _, rfl, hq, T.cl, T.nb, shF_bot b, _, _, rfl, rfl, wide_mul ba.2.2 bb.2.2 hn0 hn0 (by omega), ?_⟩
    exact mk_at (n := n + n) (mul_pos_ne ba.2.1 bb.2.1) (wide_lt ba.2.2 bb.2.2) (by omega) (by omega) hQ
end
end K58
set_option Elab.async false
set_option linter.all false
set_option maxRecDepth 100000
set_option maxHeartbeats 4000000
namespace K58
open PySem PySem.Spec PyProof.Rows L2
open C8 (Cal Mak Met pe_c pe_mk pe_mt pe_mt0)
/-- the held dict's pairs -/
def hd0 (l : Addr) (n m : Int) : List (Key × V) := [(Sum.inr "cells", .ref l), (Sum.inr "at", .int n), (Sum.inr "left", .int m)]
theorem hd_cells (l : Addr) (n m : Int) : valV (hd0 l n m) (Sum.inr "cells") = some (.ref l) := valV_pos rfl
theorem k1 : ¬ (("cells" : Str) = "at") := by decide +kernel
theorem k2 : ¬ (("cells" : Str) = "left") := by decide +kernel
theorem k3 : ¬ (("at" : Str) = "left") := by decide +kernel
theorem k1' : ¬ (("at" : Str) = "cells") := by decide +kernel
theorem k3' : ¬ (("left" : Str) = "at") := by decide +kernel
theorem inr_ne {x y : Str} (h : ¬ x = y) : ¬ ((Sum.inr x : Key) = Sum.inr y) := fun z => h (Sum.inr.inj z)
theorem hd_at (l : Addr) (n m : Int) : valV (hd0 l n m) (Sum.inr "at") = some (.int n) := (valV_neg (inr_ne k1)).trans (valV_pos rfl)
theorem hd_left (l : Addr) (n m : Int) : valV (hd0 l n m) (Sum.inr "left") = some (.int m) := (valV_neg (inr_ne k2)).trans ((valV_neg (inr_ne k3)).trans (valV_pos rfl))
theorem put_at (l : Addr) (n m k : Int) : putK (hd0 l n m) (Sum.inr "at") (.int k) = hd0 l k m := by
  unfold putK hd0
  simp [k1, k3']
theorem put_left (l : Addr) (n m k : Int) : putK (hd0 l n m) (Sum.inr "left") (.int k) = hd0 l n k := by
  unfold putK hd0
  simp [k2, k3]
theorem hd_merge (l : Addr) (n m : Int) : mergeK [] (hd0 l n m) = hd0 l n m := by
  simp [mergeK, hd0, putK, k1, k2, k3]
/-- the held dict at h, good for c draws more -/
def Held (H : Hp) (h : Addr) (c : Nat) : Prop := ∃ (l : Addr) (ns : List Int) (n m : Int), H h = some (.dK (hd0 l n m)) ∧ H l = some (.lst (ns.map V.int)) ∧ 0 ≤ n ∧ n + c ≤ 1000000000
theorem Held.weak {H : Hp} {h : Addr} {c c' : Nat} (hc : c' ≤ c) (x : Held H h c) : Held H h c' := by
  obtain ⟨l, ns, n, m, h1, h2, h3, h4⟩ := x
  exact ⟨l, ns, n, m, h1, h2, h3, by omega⟩
/-- all but h is kept -/
def Kp (h : Addr) (H H' : Hp) : Prop := (∀ b o, H b = some o → b ≠ h → H' b = some o) ∧ ∀ l n m, H h = some (.dK (hd0 l n m)) → ∃ n' m', H' h = some (.dK (hd0 l n' m'))
theorem Kp.refl (h : Addr) (H : Hp) : Kp h H H := ⟨fun _ _ e _ => e, fun _ n m e => ⟨n, m, e⟩⟩
theorem Kp.trans {h : Addr} {H H1 H2 : Hp} (a : Kp h H H1) (b : Kp h H1 H2) : Kp h H H2 := ⟨fun c o e n => b.1 c o (a.1 c o e n) n, fun l n m e => let ⟨n', m', e'⟩ := a.2 l n m e; b.2 l n' m' e'⟩
theorem Kp.same {h : Addr} {H H1 : Hp} (a : Same H H1) : Kp h H H1 := ⟨fun c o e _ => a c o e, fun _ n m e => ⟨n, m, a _ _ e⟩⟩
theorem hd_inj {l l' : Addr} {n m n' m' : Int} (h : HO.dK (hd0 l n m) = HO.dK (hd0 l' n' m')) : l = l' := by
  injection h with h
  injection h with h _
  injection h with _ h
  injection h
/-- the held dict put anew -/
theorem Kp.put {h l : Addr} {H : Hp} {n m : Int} (n' m' : Int) (e : H h = some (.dK (hd0 l n m))) : Kp h H (upd H h (.dK (hd0 l n' m'))) := by
  refine ⟨fun c o z ne => by rw [upd_ne ne]; exact z, fun l' n1 m1 z => ⟨n', m', ?_⟩⟩
  rw [upd_same, hd_inj (Option.some.inj (z.symm.trans e))]
theorem Held.same {H H' : Hp} {h : Addr} {c : Nat} (s : Same H H') (x : Held H h c) : Held H' h c := by
  obtain ⟨l, ns, n, m, h1, h2, h3, h4⟩ := x
  exact ⟨l, ns, n, m, s _ _ h1, s _ _ h2, h3, h4⟩
theorem same_new {H : Hp} {p : Addr} {o : HO} (h : H p = none) : Same H (upd H p o) := fun a u e => by
  rw [upd_ne (ne_of_none e h)]
  exact e
theorem dpInts {K : PySem.W.Frag} {H : Hp} : ∀ ns : List Int, DpAll K H (ns.map V.int) (ns.map PyData.int)
  | [] => .nil
  | n :: ns => .cons (.int n) (dpInts ns)
section
variable {P : Program} {w : World} {K : PySem.W.Frag} {mg : Str → Option Value} {base : Heap} {f C : Addr} {fd : FuncData}
def spHeld (K : PySem.W.Frag) : Sp := fun vs H Q _ => ∃ (a : Addr) (ns : List Int), vs = [.ref a] ∧ SqL K H a (ns.map V.int) ∧ ns.length ≤ 63 ∧ ∀ h H', Same H H' → H h = none → Held H' h 900000000 → Q (.ref h) H'
theorem ok_held (F : Dn K d_l_held f fd) (b : Bl mg) : FnOk P w K mg base CX0 1 f fd ["_law_script"] (spHeld K) := by
  refine F.ok sc_l_held (fun vs H Q E h => ?_) (fun cdv A outer s H vs Q E hr h => ?_)
  · obtain ⟨a, ns, rfl, _⟩ := h
    rfl
  · obtain ⟨a, ns, rfl, hS, hlen, hQ⟩ := h
    refine ⟨_, PSs.nox (pss_one (ps_ret (pe_disp (pps_cons pe_str (pe_callTy call_list_of rfl b.list boot_list (pa_cons (pe_slice sl_list (pv 0) po_none (po_some pe_int)) pa_nil)) (pps_cons pe_str pe_int (pps_cons pe_str pe_int pps_nil))) rfl rfl (by simp) (by decide)))), ?_⟩
    intro h hh
    have sS : SqL K (upd H h (.dK [])) a (ns.map V.int) := (same_new hh).seq hS
    refine ⟨_, rfl, 63, rfl, a, _, rfl, sS, fun p hp => ⟨p, _, rfl, Or.inl (SqL.of upd_same), fun l hl => ?_⟩⟩
    have nhp : h ≠ p := ne_of_none upd_same hp
    have nhl : h ≠ l := ne_of_none (by rw [upd_ne nhp]; exact upd_same) hl
    refine ⟨by rw [upd_ne nhl, upd_ne nhp, upd_same], hd0 l 0 0, rfl, by show 3 ≤ 15; decide, ?_⟩
    have e : cutV (ns.map V.int) none (some 63) = (ns.take 63).map V.int := by
      unfold cutV
      simp [HT.sIx, List.map_take]
    refine hQ h _ (fun c o z => ?_) hh ⟨l, ns.take 63, 0, 0, ?_, ?_, by decide, by decide⟩
    · have z1 : c ≠ h := ne_of_none z hh
      have z2 : (upd H h (.dK [])) c = some o := by rw [upd_ne z1]; exact z
      have z3 : c ≠ p := ne_of_none z2 hp
      have z4 : c ≠ l := ne_of_none (by rw [upd_ne z3]; exact z2) hl
      rw [upd_ne z1, upd_ne z4, upd_ne z3]
      exact z2
    · rw [upd_same, hd_merge]
    · rw [upd_ne nhl.symm, upd_same, ← e]

def spDraw : Sp := fun vs H Q _ => ∃ (h : Addr) (c : Nat) (k : Int), vs = [.ref h, .int k] ∧ Held H h (c + 1) ∧ 0 < k ∧ k < 1073741824 ∧
  ∀ r H', 0 ≤ r → r < k → Held H' h c → Kp h H H' → Q (.int r) H'
theorem cb_l {i j : Int} (h1 : -(2 ^ 64) < i) (h2 : i < 2 ^ 64) : CMul i j := .inl ⟨h1, h2⟩
theorem cb_r {i j : Int} (h1 : -(2 ^ 64) < j) (h2 : j < 2 ^ 64) : CMul i j := .inr ⟨h1, h2⟩
theorem ok_draw (F : Dn K d_l_draw f fd) (b : Bl mg) : FnOk P w K mg base CX0 1 f fd ["_law_held_here", "_law_many"] spDraw := by
  refine F.ok sc_l_draw (fun vs H Q E h => ?_) (fun cdv A outer s H vs Q E hr h => ?_)
  · obtain ⟨h, c, k, rfl, _⟩ := h
    rfl
  · obtain ⟨h, c, k, rfl, ⟨l, ns, n, m, hh, hl, hn, hc⟩, hk0, hk1, hQ⟩ := h
    have hu := hu_of hr
    have hu64 : (A.deeper (envOfC d_l_draw.qual d_l_draw.scope s.heap.objs.size f cdv)).units + 64 < cLine := by have := hr.un; omega
    have nlh : l ≠ h := ne_of hl hh (by intro z; cases z)
    refine ⟨_, PSs.nox (pss_cons (ps_if (pt_cmpR op_gt (pe_dget hu (pv 0) pe_str (fun _ _ => rfl)) pe_int (nomark _))
         (pss_cons (ps_set (i := 2) sc_l_draw.nd rfl (.inl rfl) (pe_op op_mod (pe_dget hu (pv 0) pe_str (fun _ _ => rfl)) (pv 1)))
         (pss_cons (ps_dput hu (pv 0) pe_str (pe_op op_fdiv (pe_dget hu (pv 0) pe_str (fun _ _ => rfl)) (pv 1)) rfl)
         (pss_one (ps_ret (pv 2))))) pss_nil)
      (pss_cons (ps_set (i := 3) sc_l_draw.nd rfl (.inl rfl) (pe_dget hu (pv 0) pe_str (fun _ _ => rfl)))
      (pss_cons (ps_dput hu (pv 0) pe_str (pe_op op_add (pv 3) pe_int) rfl)
      (C8.pss_cut (ps_set (i := 4) sc_l_draw.nd rfl (.inl rfl) (pe_ifExp (pt_cmpR (op_neD hu64) (pe_dget hu (pv 0) pe_str (fun _ _ => rfl)) (pe_lst pa_nil) (nomark _))
        (pe_ix ix_list (pe_dget hu (pv 0) pe_str (fun _ _ => rfl)) (pe_op op_mod (pv 3) (pe_callB call_len_seq rfl b.len boot_len (pa_cons (pe_dget hu (pv 0) pe_str (fun _ _ => rfl)) pa_nil))) (fun _ _ => rfl)) pe_int))
      (pss_cons (ps_if (PW.pt (pw_and (pt_cmpR op_ge (pv 4) (pe_op op_pow pe_int pe_int) (nomark _)) (pw_and1 (pt_cmpR op_lt (pv 3) (pe_callB call_len_seq rfl b.len boot_len (pa_cons (pe_dget hu (pv 0) pe_str (fun _ _ => rfl)) pa_nil)) (nomark _)))))
         (pss_cons (ps_dput hu (pv 0) pe_str (pe_op op_fdiv (pe_op op_sub (pv 4) (pe_op op_pow pe_int pe_int)) (pv 1)) rfl)
         (pss_one (ps_ret (pe_op op_mod (pe_op op_sub (pv 4) (pe_op op_pow pe_int pe_int)) (pv 1))))) pss_nil)
      (pss_cons (ps_set (i := 5) sc_l_draw.nd rfl (.inl rfl) (pe_op op_mod (pe_op op_add (pe_op op_add (pe_op op_add (pe_op op_mul (pe_op op_mod (pv 4) pe_int) pe_int) (pe_op op_mul (pe_op op_mul pe_int (pv 3)) (pv 3))) (pe_op op_mul pe_int (pv 3))) pe_int) pe_int))
      (pss_cons (ps_set (i := 5) sc_l_draw.nd rfl (.inl rfl) (pe_op op_mod (pe_op op_add (pe_op op_add (pe_op op_mul (pv 5) pe_int) (pe_op op_fdiv (pv 5) pe_int)) pe_int) pe_int))
      (pss_one (ps_ret (pe_op op_mod (pe_op op_fdiv (pv 5) pe_int) (pv 1))))))))))), ?_⟩
    have cM : ∀ x y : Int, 0 < y → (0 ≤ x % y ∧ x % y < y) := fun x y hy => ⟨Int.emod_nonneg _ (by omega), Int.emod_lt_of_pos _ hy⟩
    refine ⟨_, rfl, h, _, rfl, hd_left l n m ▸ DGet.k (k := Sum.inr "left") hh, _, _, rfl, rfl, _, rfl, ?_⟩
    refine ite2 (fun h1 => ?_) (fun h1 => ?_)
    · refine ⟨_, rfl, h, _, rfl, hd_left l n m ▸ DGet.k (k := Sum.inr "left") hh, _, rfl, _, _, rfl, rfl, hk0, ?_⟩
      refine ⟨_, rfl, h, _, rfl, hd_left l n m ▸ DGet.k (k := Sum.inr "left") hh, _, rfl, _, _, rfl, rfl, ⟨hk0, hk1⟩, _, rfl, h, _, rfl, DPut.k (k := Sum.inr "left") hh (by show 3 < sizeLine; decide), ?_⟩
      refine ⟨_, rfl, hQ _ _ (cM _ _ hk0).1 (cM _ _ hk0).2 ⟨l, ns, n, m / k, ?_, ?_, hn, by omega⟩ ?_⟩
      · rw [upd_same, put_left]
      · rw [upd_ne nlh]; exact hl
      · rw [put_left]; exact Kp.put _ _ hh
    · refine ⟨_, rfl, h, _, rfl, hd_at l n m ▸ DGet.k (k := Sum.inr "at") hh, ?_⟩
      refine ⟨_, rfl, _, _, rfl, rfl, _, rfl, h, _, rfl, DPut.k (k := Sum.inr "at") hh (by show 3 < sizeLine; decide), ?_⟩
      rw [put_at]
      have hh1 : (upd H h (.dK (hd0 l (n + 1) m))) h = some (.dK (hd0 l (n + 1) m)) := upd_same
      have hl1 : (upd H h (.dK (hd0 l (n + 1) m))) l = some (.lst (ns.map V.int)) := by rw [upd_ne nlh]; exact hl
      have kp1 : Kp h H (upd H h (.dK (hd0 l (n + 1) m))) := Kp.put _ _ hh
      refine ⟨fun σ' H' => ∃ (cell : Int), σ' = [some (.ref h), some (.int k), none, some (.int n), some (.int cell), none] ∧ H' h = some (.dK (hd0 l (n + 1) m)) ∧ H' l = some (.lst (ns.map V.int)) ∧ Kp h H H', ?_, ?_⟩
      · refine ⟨_, rfl, h, _, rfl, hd_cells l (n + 1) m ▸ DGet.k (k := Sum.inr "cells") hh1, (by show 0 ≤ sizeLine; decide), fun e he => ?_⟩
        have nhe : h ≠ e := ne_of_none hh1 he
        have nle : l ≠ e := ne_of_none hl1 he
        have hh2 : (upd (upd H h (.dK (hd0 l (n + 1) m))) e (.lst [])) h = some (.dK (hd0 l (n + 1) m)) := by rw [upd_ne nhe]; exact hh1
        have hl2 : (upd (upd H h (.dK (hd0 l (n + 1) m))) e (.lst [])) l = some (.lst (ns.map V.int)) := by rw [upd_ne nle]; exact hl1
        have kp2 : Kp h H (upd (upd H h (.dK (hd0 l (n + 1) m))) e (.lst [])) := kp1.trans (Kp.same (same_new he))
        refine ⟨.list (ns.map .int), .list [], Dp.lst (SqL.of hl2) (dpInts ns), Dp.lst (SqL.of upd_same) .nil, PySem.W.ke_shaped_ints ns, by decide, _, rfl, ?_⟩
        cases ns with
        | nil => exact iteF ⟨0, rfl, hh2, hl2, kp2⟩
        | cons z zs =>
          refine iteT ?_
          have hlen : (0 : Int) < (((z :: zs).map V.int).length : Int) := by simp
          refine ⟨_, rfl, h, _, rfl, hd_cells l (n + 1) m ▸ DGet.k (k := Sum.inr "cells") hh2, _, rfl, _, rfl, h, _, rfl, hd_cells l (n + 1) m ▸ DGet.k (k := Sum.inr "cells") hh2, l, _, rfl, Or.inl (SqL.of hl2), _, _, rfl, rfl, hlen, ?_⟩
          obtain ⟨q, hq⟩ := Int.eq_ofNat_of_zero_le (cM n _ hlen).1
          have hq2 := (cM n _ hlen).2
          rw [hq] at hq2
          have hq3 : q < (z :: zs).length := by rw [List.length_map] at hq2; omega
          refine ⟨l, _, _, .int ((z :: zs)[q]), rfl, rfl, SqL.of hl2, (by rw [hq]; exact atI_nat (by rw [List.getElem?_map, List.getElem?_eq_getElem hq3]; rfl)), ?_⟩
          exact ⟨_, rfl, hh2, hl2, kp2⟩
      · rintro σ' H' ⟨cell, rfl, hh2, hl2, kp2⟩
        have stay : ∀ m', Held (upd H' h (.dK (hd0 l (n + 1) m'))) h c := fun m' => ⟨l, ns, n + 1, m', upd_same, by rw [upd_ne nlh]; exact hl2, by omega, by omega⟩
        have stay0 : Held H' h c := ⟨l, ns, n + 1, m, hh2, hl2, by omega, by omega⟩
        have last : ∀ D : Ends, D.rt = Q → tSeq (tAsg (tOp (rI (fun _ j => 0 < j) fun i j => .int (i % j)) (tOp (rI0 fun i j => .int (i + j)) (tOp (rI0 fun i j => .int (i + j)) (tOp (rI0 fun i j => .int (i + j))
            (tOp (rI CMul fun i j => .int (i * j)) (tOp (rI (fun _ j => 0 < j) fun i j => .int (i % j)) (tVar 4) (tC (.int 2147483587))) (tC (.int 40692))) (tOp (rI CMul fun i j => .int (i * j)) (tOp (rI CMul fun i j => .int (i * j)) (tC (.int 7907)) (tVar 3)) (tVar 3)))
            (tOp (rI CMul fun i j => .int (i * j)) (tC (.int 104729)) (tVar 3))) (tC (.int 17))) (tC (.int 2147483629))) (gName 5))
          (tSeq (tAsg (tOp (rI (fun _ j => 0 < j) fun i j => .int (i % j)) (tOp (rI0 fun i j => .int (i + j)) (tOp (rI0 fun i j => .int (i + j)) (tOp (rI CMul fun i j => .int (i * j)) (tVar 5) (tC (.int 48271))) (tOp (rI CDiv fun i j => .int (i / j)) (tVar 5) (tC (.int 127)))) (tC (.int 31))) (tC (.int 2147483647))) (gName 5))
          (tRet (tOp (rI (fun _ j => 0 < j) fun i j => .int (i % j)) (tOp (rI CDiv fun i j => .int (i / j)) (tVar 5) (tC (.int 89))) (tVar 1)))) D [some (.ref h), some (.int k), none, some (.int n), some (.int cell), none] H' := by
          intro D hD
          refine ⟨_, rfl, _, _, rfl, rfl, (by decide : (0 : Int) < 2147483587), _, _, rfl, rfl, cb_r (by decide) (by decide), _, rfl, _, _, rfl, rfl, cb_l (by decide) (by decide), _, rfl, _, _, rfl, rfl, cb_r (by omega) (by omega), _, _, rfl, rfl, ?_⟩
          refine ⟨_, rfl, _, _, rfl, rfl, cb_l (by decide) (by decide), _, _, rfl, rfl, _, _, rfl, rfl, _, _, rfl, rfl, (by decide : (0 : Int) < 2147483629), ?_⟩
          refine ⟨_, rfl, _, _, rfl, rfl, cb_r (by decide) (by decide), _, rfl, _, _, rfl, rfl, ⟨by decide, by decide⟩, _, _, rfl, rfl, _, _, rfl, rfl, _, _, rfl, rfl, (by decide : (0 : Int) < 2147483647), ?_⟩
          refine ⟨_, rfl, _, _, rfl, rfl, ⟨by decide, by decide⟩, _, rfl, _, _, rfl, rfl, hk0, ?_⟩
          rw [hD]
          exact hQ _ _ (cM _ _ hk0).1 (cM _ _ hk0).2 stay0 kp2
        refine ⟨_, rfl, _, _, rfl, rfl, ⟨by decide, by decide, by decide⟩, _, _, rfl, rfl, _, rfl, ?_⟩
        refine ite2 (fun g1 => ?_) (fun g1 => iteF (last _ rfl))
        refine ⟨_, rfl, _, rfl, h, _, rfl, hd_cells l (n + 1) m ▸ DGet.k (k := Sum.inr "cells") hh2, l, _, rfl, Or.inl (SqL.of hl2), _, _, rfl, rfl, _, rfl, ?_⟩
        refine ite2 (fun g2 => ?_) (fun g2 => last _ rfl)
        refine ⟨_, rfl, _, _, rfl, rfl, ⟨by decide, by decide, by decide⟩, _, _, rfl, rfl, _, rfl, _, _, rfl, rfl, ⟨hk0, hk1⟩, _, rfl, h, _, rfl, DPut.k (k := Sum.inr "left") hh2 (by show 3 < sizeLine; decide), ?_⟩
        refine ⟨_, rfl, _, _, rfl, rfl, ⟨by decide, by decide, by decide⟩, _, _, rfl, rfl, _, rfl, _, _, rfl, rfl, hk0, ?_⟩
        rw [put_left]
        refine hQ _ _ (cM _ _ hk0).1 (cM _ _ hk0).2 (stay _) (kp2.trans (Kp.put _ _ hh2))
end
end K58
set_option linter.all false
namespace KM
/-- top and bottom of a rational number -/
def pr (r : Rat) : Int × Int := (r.num, (r.den : Int))
theorem pr_inj {r s : Rat} (h : pr r = pr s) : r = s := by
  have h1 : r.num = s.num := congrArg Prod.fst h
  have h2 : (r.den : Int) = (s.den : Int) := congrArg Prod.snd h
  rw [← Rat.num_divInt_den r, ← Rat.num_divInt_den s, h1, h2]
theorem den_ne (r : Rat) : (r.den : Int) ≠ 0 := by
  have := r.den_nz
  omega
theorem den_pos (r : Rat) : 0 < (r.den : Int) := by
  have := r.den_nz
  omega
theorem low_eq {t b : Int} (h : b ≠ 0) : low t b = pr (Rat.divInt t b) := by
  have hp := low_pos (t := t) h
  have hc := low_cop (t := t) h
  obtain ⟨d, hd⟩ := Int.eq_ofNat_of_zero_le (Int.le_of_lt hp)
  have hd0 : d ≠ 0 := by
    intro z
    rw [z] at hd
    omega
  have hcop : (low t b).1.natAbs.Coprime d := by
    have : Int.gcd (low t b).1 (low t b).2 = 1 := hc
    rw [hd] at this
    exact this
  have e1 : Rat.divInt (low t b).1 (d : Int) = Rat.divInt t b := by
    rw [Rat.divInt_eq_divInt_iff (by omega) h, ← hd]
    have h1 := low_top (t := t) (b := b)
    have h2 := low_bot (t := t) (b := b)
    calc (low t b).1 * b = (low t b).1 * (sg t b * (low t b).2) := by rw [h2]
      _ = sg t b * (low t b).1 * (low t b).2 := by rw [← Int.mul_assoc, Int.mul_comm (low t b).1]
      _ = t * (low t b).2 := by rw [h1]
  have e2 : ({ num := (low t b).1, den := d, den_nz := hd0, reduced := hcop } : Rat) = Rat.divInt t b := by rw [Rat.mk_eq_divInt, e1]
  rw [← e2]
  exact Prod.ext rfl hd
theorem pr_plus (r s : Rat) : low ((pr r).1 * (pr s).2 + (pr s).1 * (pr r).2) ((pr r).2 * (pr s).2) = pr (r + s) := by
  show low (r.num * s.den + s.num * r.den) (r.den * s.den) = _
  rw [low_eq (Int.mul_ne_zero (den_ne r) (den_ne s)), ← Rat.divInt_add_divInt _ _ (den_ne r) (den_ne s), Rat.num_divInt_den, Rat.num_divInt_den]
theorem pr_less (r s : Rat) : low ((pr r).1 * (pr s).2 - (pr s).1 * (pr r).2) ((pr r).2 * (pr s).2) = pr (r - s) := by
  show low (r.num * s.den - s.num * r.den) (r.den * s.den) = _
  rw [low_eq (Int.mul_ne_zero (den_ne r) (den_ne s)), ← Rat.divInt_sub_divInt _ _ (den_ne r) (den_ne s), Rat.num_divInt_den, Rat.num_divInt_den]
theorem pr_times (r : Rat) (k : Int) : low ((pr r).1 * k) (pr r).2 = pr (r * (Rat.divInt k 1)) := by
  show low (r.num * k) r.den = _
  have e : Rat.divInt (r.num * k) (r.den : Int) = Rat.divInt r.num r.den * Rat.divInt k 1 := by rw [Rat.divInt_mul_divInt, Int.mul_one]
  rw [low_eq (den_ne r), e, Rat.num_divInt_den]
theorem pr_over (r : Rat) {k : Int} (h : k ≠ 0) : low (pr r).1 ((pr r).2 * k) = pr (r * (Rat.divInt 1 k)) := by
  show low r.num (r.den * k) = _
  have e : Rat.divInt r.num (r.den * k : Int) = Rat.divInt r.num r.den * Rat.divInt 1 k := by rw [Rat.divInt_mul_divInt, Int.mul_one]
  rw [low_eq (Int.mul_ne_zero (den_ne r) h), e, Rat.num_divInt_den]
theorem inv_k {k : Int} (h : k ≠ 0) : Rat.divInt k 1 * Rat.divInt 1 k = 1 := by
  rw [Rat.divInt_mul_divInt, Int.mul_one, Int.one_mul]
  exact Rat.divInt_self' h
theorem pr_lt (r s : Rat) : ((pr r).1 * (pr s).2 < (pr s).1 * (pr r).2) ↔ r < s := (Rat.lt_iff r s).symm
theorem pr_bot (r : Rat) : 0 < (pr r).2 := den_pos r
theorem add_back (r s : Rat) : r + s - s = r := by
  rw [Rat.sub_eq_add_neg, Rat.add_assoc, Rat.add_neg_cancel, Rat.add_zero]
theorem sub_back (r s : Rat) : r - s + s = r := by
  rw [Rat.sub_eq_add_neg, Rat.add_assoc, Rat.neg_add_cancel, Rat.add_zero]
theorem mul_back (r : Rat) {k : Int} (h : k ≠ 0) : r * Rat.divInt k 1 * Rat.divInt 1 k = r := by
  rw [Rat.mul_assoc, inv_k h, Rat.mul_one]
theorem div_back (r : Rat) {k : Int} (h : k ≠ 0) : r * Rat.divInt 1 k * Rat.divInt k 1 = r := by
  rw [Rat.mul_assoc, Rat.mul_comm (Rat.divInt 1 k), inv_k h, Rat.mul_one]
/-- small -/
def Sz (n : Nat) (r : Rat) : Prop := r.num.natAbs < 2 ^ n ∧ r.den < 2 ^ n
theorem Sz.mono {n m : Nat} {r : Rat} (h : Sz n r) (hm : n ≤ m) : Sz m r := ⟨Nat.lt_of_lt_of_le h.1 (Nat.pow_le_pow_right (by decide) hm), Nat.lt_of_lt_of_le h.2 (Nat.pow_le_pow_right (by decide) hm)⟩
theorem sz_of_low {t b : Int} {n : Nat} (hb : b ≠ 0) (h1 : t.natAbs < 2 ^ n) (h2 : b.natAbs < 2 ^ n) : Sz n (Rat.divInt t b) := by
  have e := low_eq (t := t) hb
  have e1 : (low t b).1 = (Rat.divInt t b).num := congrArg Prod.fst e
  have e2 : (low t b).2 = ((Rat.divInt t b).den : Int) := congrArg Prod.snd e
  have l1 := low_top_le (t := t) hb
  have l2 := low_bot_le (t := t) hb
  constructor
  · rw [← e1]; omega
  · have : ((low t b).2).natAbs < 2 ^ n := by omega
    rw [e2] at this
    simpa using this
theorem two_lt {x y n m : Nat} (h1 : x < 2 ^ n) (h2 : y < 2 ^ m) : x * y < 2 ^ (n + m) := by
  rw [Nat.pow_add]
  exact Nat.mul_lt_mul'' h1 h2
theorem sz_sum {a b c d : Int} {n m : Nat} (h1 : a.natAbs < 2 ^ n) (h2 : d.natAbs < 2 ^ m) (h3 : c.natAbs < 2 ^ m) (h4 : b.natAbs < 2 ^ n) : (a * d + c * b).natAbs < 2 ^ (n + m + 1) ∧ (a * d - c * b).natAbs < 2 ^ (n + m + 1) := by
  have e1 : (a * d).natAbs < 2 ^ (n + m) := by rw [Int.natAbs_mul]; exact two_lt h1 h2
  have e2 : (c * b).natAbs < 2 ^ (n + m) := by rw [Int.natAbs_mul, Nat.add_comm]; exact two_lt h3 h4
  have e3 : 2 ^ (n + m + 1) = 2 * 2 ^ (n + m) := by rw [Nat.pow_succ, Nat.mul_comm]
  omega
theorem sz_plus {n m : Nat} {r s : Rat} (hr : Sz n r) (hs : Sz m s) : Sz (n + m + 1) (r + s) ∧ Sz (n + m + 1) (r - s) := by
  have d1 : ((r.den : Int)).natAbs < 2 ^ n := by simpa using hr.2
  have d2 : ((s.den : Int)).natAbs < 2 ^ m := by simpa using hs.2
  have hd : ((r.den : Int) * s.den).natAbs < 2 ^ (n + m + 1) := by
    have : ((r.den : Int) * s.den).natAbs < 2 ^ (n + m) := by rw [Int.natAbs_mul]; exact two_lt d1 d2
    exact Nat.lt_of_lt_of_le this (Nat.pow_le_pow_right (by decide) (by omega))
  have hn := sz_sum hr.1 d2 hs.1 d1
  have ne := Int.mul_ne_zero (den_ne r) (den_ne s)
  constructor
  · have := sz_of_low ne hn.1 hd
    rw [← Rat.divInt_add_divInt _ _ (den_ne r) (den_ne s), Rat.num_divInt_den, Rat.num_divInt_den] at this
    exact this
  · have := sz_of_low ne hn.2 hd
    rw [← Rat.divInt_sub_divInt _ _ (den_ne r) (den_ne s), Rat.num_divInt_den, Rat.num_divInt_den] at this
    exact this
theorem sz_times {n m : Nat} {r : Rat} {k : Int} (hr : Sz n r) (hk : k.natAbs < 2 ^ m) : Sz (n + m) (r * Rat.divInt k 1) := by
  have e : r * Rat.divInt k 1 = Rat.divInt (r.num * k) r.den := by
    have : Rat.divInt (r.num * k) (r.den : Int) = Rat.divInt r.num r.den * Rat.divInt k 1 := by rw [Rat.divInt_mul_divInt, Int.mul_one]
    rw [this, Rat.num_divInt_den]
  rw [e]
  refine sz_of_low (den_ne r) (by rw [Int.natAbs_mul]; exact two_lt hr.1 hk) ?_
  have d1 : ((r.den : Int)).natAbs < 2 ^ n := by simpa using hr.2
  exact Nat.lt_of_lt_of_le d1 (Nat.pow_le_pow_right (by decide) (by omega))
theorem sz_over {n m : Nat} {r : Rat} {k : Int} (hr : Sz n r) (h : k ≠ 0) (hk : k.natAbs < 2 ^ m) : Sz (n + m) (r * Rat.divInt 1 k) := by
  have e : r * Rat.divInt 1 k = Rat.divInt r.num (r.den * k) := by
    have : Rat.divInt r.num (r.den * k : Int) = Rat.divInt r.num r.den * Rat.divInt 1 k := by rw [Rat.divInt_mul_divInt, Int.mul_one]
    rw [this, Rat.num_divInt_den]
  rw [e]
  have d1 : ((r.den : Int)).natAbs < 2 ^ n := by simpa using hr.2
  refine sz_of_low (Int.mul_ne_zero (den_ne r) h) (Nat.lt_of_lt_of_le hr.1 (Nat.pow_le_pow_right (by decide) (by omega))) ?_
  rw [Int.natAbs_mul]
  exact two_lt d1 hk
end KM
set_option Elab.async false
set_option linter.all false
set_option maxRecDepth 100000
set_option maxHeartbeats 4000000
/-! KW: calls by keywords alone: f(k = v, ..), o.m(k = v, ..). -/
namespace KW
open PySem PySem.Spec PyProof.Rows L2
section
variable {X : Cx} {k j : Nat} {C f : Addr} {fd : FuncData} {ps ks : List Str} {sp : Sp} {x m : Str} {p pos apos : Pos} {o : Expr} {kws : List Keyword} {ta : TE} {tk : TA} {g : List Value → List Value → List Value} {gV : List V → List V → List V}
theorem pe_cK (F : FnOk X.prog X.w X.K X.mg X.base CX0 k f fd ps sp) (hr : Room k X.A) (hg : Gl X x) (hm : X.mg x = some (.ref f)) (hk : PySem.W.keepIn X.K (.ref f) = true) (hb : KBn X.K fd ps 0 ks g gV) (hkw : PK X kws tk)
    (hall : (backToKw pos (keywordEach kws X.env)).all (·.1.isSome) = true := by rfl) (hks : (backToKw pos (keywordEach kws X.env)).filterMap (·.1) = ks := by rfl) (hdb : (x == ("__debug__" : Str)) = false := by decide)
    (hpl : ((backTo pos (starEach [] X.env)).any (·.1) || (backToKw pos (keywordEach kws X.env)).any (·.1.isNone)) = false := by rfl) :
    PE X (.Call (.Name x p) [] kws pos) (fun σ H Q => tk σ H fun zs H1 => zs.length = ks.length ∧ sp (gV [] zs) H1 Q E0) := by
  refine ⟨fun pins s σ H Q I h => wpAny_Call_Name_kw (ld_glob I hg hm (PySem.W.callWith_KW0 (h₀ := X.base) I.ok.mod.kin hk hall ?_ hpl) hdb)⟩
  refine thn (hkw.run pos pins s σ H _ I h) fun ws s2 ⟨zs, H2, I2, rz, l2, q2⟩ => ⟨I2.kIn, ?_⟩
  rw [hks]
  exact run_fnN (us := []) (vs := []) F hr hb (fun _ _ _ _ _ _ _ h => False.elim h) I2 .nil rz rfl l2 q2
theorem pe_mtK {pl : Sem Bool} (he : PE X o ta) (c : Cls X.K C) (hm : Meth X.K C m f) (F : FnOk X.prog X.w X.K X.mg X.base CX0 k f fd ps sp) (hr : Room k X.A) (hb : KBn X.K fd ps 1 ks g gV) (hkw : PK X kws tk)
    (hall : (backToKw pos (keywordEach kws X.env)).all (·.1.isSome) = true := by rfl) (hks : (backToKw pos (keywordEach kws X.env)).filterMap (·.1) = ks := by rfl)
    (hpl : ((backTo pos (starEach [] X.env)).any (·.1) || (backToKw pos (keywordEach kws X.env)).any (·.1.isNone)) = false := by rfl)
    (ht : eval (.Call (.Attribute o m apos) [] kws pos) X.env = (do
      let ov ← eval o X.env
      standAt apos.atName
      let (f, first) ← holding [ov] (getMethod ov m pl)
      callWith pos f first (backTo pos (starEach [] X.env)) (backToKw pos (keywordEach kws X.env))) := by rfl) :
    PE X (.Call (.Attribute o m apos) [] kws pos) (fun σ H Q => ta σ H fun x H1 => ∃ a dx fs, x = .ref a ∧ H1 a = some (.ins C dx fs) ∧ fs.lookup m = none ∧ tk σ H1 fun zs H2 => zs.length = ks.length ∧ sp (gV [.ref a] zs) H2 Q E0) := by
  refine ⟨fun pins s σ H Q I h => ?_⟩
  refine PySem.W.methodCall_KW (pl := pl) (thn (he.run pins s σ H _ I h) fun u s1 ⟨x, H1, I1, rx, a, dx, fs, ex, ea, l, q⟩ => ?_) ht
  subst ex
  obtain rfl : u = Value.ref a := rx
  refine getmeth_ok I1 ea c hm l (PySem.W.callWith_KW0 (first := [.ref a]) (h₀ := X.base) I.ok.mod.kin hm.kp hall ?_ hpl)
  refine thn (hkw.run pos pins s1 σ H1 _ I1 q) fun ws s2 ⟨zs, H2, I2, rz, l2, q2⟩ => ⟨I2.kIn, ?_⟩
  rw [hks]
  exact run_fnN (us := [.ref a]) (vs := [.ref a]) F hr hb (fun _ _ _ _ _ _ _ h => False.elim h) I2 (.cons rfl .nil) rz rfl l2 q2
end
end KW
set_option Elab.async false
set_option linter.all false
set_option maxRecDepth 100000
set_option maxHeartbeats 4000000
namespace K58
open PySem PySem.Spec PyProof.Rows L2
open C8 (Cal Mak Met pe_c pe_mk pe_mt pe_mt0)
open KM (pr Sz)
/-- what isinstance asks of the class -/
structure IsC (K : PySem.W.Frag) (C : Addr) : Prop where
  ha : PySem.W.findIn K (.ref C) "__class__" = some (some (.builtin "object.__class__"))
  hn : PySem.W.specialIn K (.builtin "object.__class__") "__get__" = some (some (.builtin "getset_descriptor.__get__"))
  htk : PySem.W.takesIn K (.builtin "object.__class__") = some true
  hm : PySem.W.mroIn K C (.type "object") = some true
  kit : PySem.W.kitOne K (.ref C) (.ref C) = some true
theorem bd_of {n : Nat} {r : Rat} (h : Sz n r) : Bd n (pr r) := ⟨h.1, KM.den_pos r, by simpa [pr] using h.2⟩

section
variable {P : Program} {w : World} {K : PySem.W.Frag} {mg : Str → Option Value} {base : Heap} {f C : Addr} {fd : FuncData}
abbrev CalD (P : Program) (w : World) (K : PySem.W.Frag) (mg : Str → Option Value) (base : Heap) : Prop := Cal P w K mg base 1 "_law_draw" spDraw []
def tupP (q : Int × Int) : HO := .tup [.int q.1, .int q.2]
def spLow : Sp := fun vs H Q _ => ∃ (t b : Int) (n : Nat), vs = [.int t, .int b] ∧ b ≠ 0 ∧ b.natAbs < 2 ^ n ∧ 0 < n ∧ n ≤ 9000 ∧ ∀ r, H r = none → Q (.ref r) (upd H r (tupP (KM.low t b)))
theorem ok_low (F : Dn K d_l_low f fd) (b : Bl mg) : FnOk P w K mg base CX0 1 f fd ["_law_top", "_law_bottom"] spLow := by
  refine F.ok sc_l_low (fun vs H Q E h => ?_) (fun cdv A outer s H vs Q E hr h => ?_)
  · obtain ⟨t, b, n, rfl, _⟩ := h
    rfl
  · obtain ⟨x, y, n, rfl, hy, hn, hn0, hn9, hQ⟩ := h
    refine ⟨_, PSs.nox (pss_cons (ps_par (i := 2) (j := 3) rfl sc_l_low.nd rfl rfl (by decide) rfl rfl (pa_cons (pe_callB call_abs rfl b.abs boot_abs (pa_cons (pv 0) pa_nil)) (pa_cons (pe_callB call_abs rfl b.abs boot_abs (pa_cons (pv 1) pa_nil)) pa_nil)) rfl)
      (pss_cons (ps_while PassesOwn.never (pt_cmpR op_gt (pv 3) pe_int (nomark _)) (pss_one (ps_par (i := 2) (j := 3) rfl sc_l_low.nd rfl rfl (by decide) rfl rfl (pa_cons (pv 3) (pa_cons (pe_op op_mod (pv 2) (pv 3)) pa_nil)) rfl)))
      (C8.pss_cut (ps_if (pt_cmpR op_lt (pv 1) pe_int (nomark _)) (pss_one (ps_set (i := 2) sc_l_low.nd rfl (.inl rfl) (pe_op op_sub pe_int (pv 2)))) pss_nil)
      (pss_one (ps_ret (pe_tup (pa_cons (pe_op op_fdW (pv 0) (pv 2)) (pa_cons (pe_op op_fdW (pv 1) (pv 2)) pa_nil)))))))), ?_⟩
    refine ⟨_, rfl, _, rfl, _, rfl, _, rfl, _, _, rfl, while_by (fun σ H2 => H2 = H ∧ ∃ a c : Int, σ = [some (.int x), some (.int y), some (.int a), some (.int c)] ∧ 0 ≤ a ∧ 0 ≤ c ∧ Int.gcd a c = Int.gcd x y)
      (fun σ _ => match σ with | [_, _, _, some (.int c)] => c.toNat | _ => 0) ⟨rfl, _, _, rfl, ?_, ?_, ?_⟩ ?_ ?_⟩
    · split <;> omega
    · split <;> omega
    · rw [abs_eq, abs_eq]
      rfl
    · rintro σ H2 ⟨rfl, a, c, rfl, ha, hc, hg⟩
      refine ⟨_, rfl, _, _, rfl, rfl, _, rfl, ?_⟩
      refine ite2 (fun g => ?_) (fun g => ?_)
      · have hp : 0 < c := of_decide_eq_true g
        refine ⟨_, rfl, _, rfl, _, rfl, _, _, rfl, rfl, hp, _, _, rfl, ⟨rfl, _, _, rfl, hc, Int.emod_nonneg _ (by omega), ?_⟩, ?_⟩
        · rw [KM.gcd_turn ha hp, hg]
        · show (a % c).toNat < c.toNat
          have h1 := Int.emod_nonneg a (show c ≠ 0 by omega)
          have h2 := Int.emod_lt_of_pos a hp
          omega
      · have h0 : c = 0 := by
          have : ¬ 0 < c := fun z => g (decide_eq_true z)
          omega
        subst h0
        have e : Int.gcd x y = a.natAbs := by rw [← hg]; simp
        refine ⟨fun σ' H' => H' = H2 ∧ ∃ v, σ' = [some (.int x), some (.int y), some (.int (KM.sg x y)), v], ?_, ?_⟩
        · refine ⟨_, rfl, _, _, rfl, rfl, _, rfl, ?_⟩
          refine ite2 (fun g1 => ?_) (fun g1 => ?_)
          · refine ⟨_, rfl, _, _, rfl, rfl, rfl, some (.int 0), ?_⟩
            have e2 : KM.sg x y = 0 - a := by unfold KM.sg; rw [if_pos (of_decide_eq_true g1), e]; omega
            rw [e2]
            rfl
          · refine ⟨rfl, some (.int 0), ?_⟩
            have e2 : KM.sg x y = a := by unfold KM.sg; rw [if_neg (fun z => g1 (decide_eq_true z)), e]; omega
            rw [e2]
        · rintro σ' H' ⟨rfl, v, rfl⟩
          have hs9 : (KM.sg x y).natAbs.log2 < 9000 := log_lt (Nat.lt_of_le_of_lt (KM.sg_le hy) hn) hn0 hn9
          refine ⟨_, rfl, _, rfl, _, _, rfl, rfl, ⟨KM.sg_ne hy, hs9⟩, _, rfl, _, rfl, _, _, rfl, rfl, ⟨KM.sg_ne hy, hs9⟩, (by show 2 ≤ sizeLine; decide), fun r hr => hQ r hr⟩
    · rintro σ H2 Q1 Q2 hm ⟨v, hv, i, j, e1, e2, k, hk, q⟩
      exact ⟨v, hv, i, j, e1, e2, k, hk, hm _ _ q⟩
abbrev CalL (P : Program) (w : World) (K : PySem.W.Frag) (mg : Str → Option Value) (base : Heap) : Prop := Cal P w K mg base 1 "_law_low" spLow []
def spAdd : Sp := fun vs H Q _ => ∃ (p q : Addr) (a b : Int × Int) (n : Nat), vs = [.ref p, .ref q] ∧ H p = some (tupP a) ∧ H q = some (tupP b) ∧ two n a b ∧
  ∀ r, H r = none → Q (.ref r) (upd H r (tupP (KM.low (a.1 * b.2 + b.1 * a.2) (a.2 * b.2))))
theorem at0 {a b : V} : atI [a, b] 0 = some a := rfl
theorem at1 {a b : V} : atI [a, b] 1 = some b := rfl
theorem ok_add (F : Dn K d_l_add f fd) (cL : CalL P w K mg base) : FnOk P w K mg base CX0 2 f fd ["_law_one", "_law_other"] spAdd := by
  refine F.ok sc_l_add (fun vs H Q E h => ?_) (fun cdv A outer s H vs Q E hr h => ?_)
  · obtain ⟨p, q, a, b, n, rfl, _⟩ := h
    rfl
  · obtain ⟨p, q, a, b, n, rfl, hp, hq, ⟨ba, bb, hn0, hn9⟩, hQ⟩ := h
    refine ⟨_, PSs.nox (pss_one (ps_ret (pe_c cL hr (by decide) rfl (pa_cons (pe_op op_add (pe_op op_mulW (pe_ix ix_tup (pv 0) pe_int (fun _ _ => rfl)) (pe_ix ix_tup (pv 1) pe_int (fun _ _ => rfl))) (pe_op op_mulW (pe_ix ix_tup (pv 1) pe_int (fun _ _ => rfl)) (pe_ix ix_tup (pv 0) pe_int (fun _ _ => rfl))))
      (pa_cons (pe_op op_mulW (pe_ix ix_tup (pv 0) pe_int (fun _ _ => rfl)) (pe_ix ix_tup (pv 1) pe_int (fun _ _ => rfl))) pa_nil))))), ?_⟩
    refine ⟨_, rfl, p, _, _, _, rfl, rfl, SqT.of hp, at0, _, rfl, q, _, _, _, rfl, rfl, SqT.of hq, at1, _, _, rfl, rfl, wide_mul ba.1 bb.2.2 hn0 hn0 (by omega), ?_⟩
    refine ⟨_, rfl, q, _, _, _, rfl, rfl, SqT.of hq, at0, _, rfl, p, _, _, _, rfl, rfl, SqT.of hp, at1, _, _, rfl, rfl, wide_mul bb.1 ba.2.2 hn0 hn0 (by omega), _, _, rfl, rfl, ?_⟩
    refine ⟨_, rfl, p, _, _, _, rfl, rfl, SqT.of hp, at1, _, rfl, q, _, _, _, rfl, rfl, SqT.of hq, at1, _, _, rfl, rfl, wide_mul ba.2.2 bb.2.2 hn0 hn0 (by omega), ?_⟩
    exact ⟨_, _, n + n, rfl, mul_pos_ne ba.2.1 bb.2.1, wide_lt ba.2.2 bb.2.2, by omega, by omega, hQ⟩
def spPair (C : Addr) : Sp := fun vs H Q _ => ∃ (p : Addr) (q : Int × Int), vs = [.ref p] ∧ Sh C H p q ∧ ∀ r H', Same H H' → H r = none → H' r = some (tupP q) → Q (.ref r) H'
theorem ok_pair (F : Dn K d_l_pair f fd) (b : Bl mg) (T : Cl K mg C) (S : IsC K C) : FnOk P w K mg base CX0 1 f fd ["_law_share"] (spPair C) := by
  refine F.ok sc_l_pair (fun vs H Q E h => ?_) (fun cdv A outer s H vs Q E hr h => ?_)
  · obtain ⟨p, q, rfl, _⟩ := h
    rfl
  · obtain ⟨p, q, rfl, ⟨dp, hp⟩, hQ⟩ := h
    refine ⟨_, PSs.nox (pss_cons (ps_if (pt_not (pt_val (pe_callB call_isi rfl b.isi boot_isinstance (pa_cons (pv 0) (pa_cons (pe_glob (v := .ref C) rfl T.g rfl) pa_nil))))) pss_never pss_nil)
      (pss_cons (ps_for PassesOwn.never rfl (pi_tup (pe_tup (pa_cons (pe_fld (pv 0) rfl) (pa_cons (pe_fld (pv 0) rfl) pa_nil)))) (pg_name (i := 1) sc_l_pair.nd rfl (.inl rfl))
        (pss_one (ps_if (PW.pt (pw_or (pt_not (pt_val (pe_callB call_isi rfl b.isi boot_isinstance (pa_cons (pv 1) (pa_cons (pe_bltn (v := .ty "int") rfl b.int boot_int rfl) pa_nil)))))
          (pw_or1 (pt_val (pe_callB call_isi rfl b.isi boot_isinstance (pa_cons (pv 1) (pa_cons (pe_bltn (v := .ty "bool") rfl b.bool boot_bool rfl) pa_nil))))))) pss_never pss_nil)))
      (pss_one (ps_ret (pe_tup (pa_cons (pe_fld (pv 0) rfl) (pa_cons (pe_fld (pv 0) rfl) pa_nil))))))), ?_⟩
    refine ⟨_, rfl, _, _, _, _, true, rfl, ClsV.own C, TyX.base (TyOf.ins hp T.cl S.ha S.hn S.htk S.hm), S.kit, true, rfl, ?_⟩
    refine iteF ?_
    refine ⟨_, rfl, p, C, dp, _, _, rfl, hp, T.cl, T.nt, shF_top q, _, rfl, p, C, dp, _, _, rfl, hp, T.cl, T.nb, shF_bot q, by show 2 ≤ sizeLine; decide, fun u hu => ?_⟩
    have npu : p ≠ u := ne_of_none hp hu
    refine ⟨u, rfl, ⟨_, SqT.of upd_same⟩, for_tup (K := K) (xs := [.int q.1, .int q.2]) (fun i σ H2 => H2 = upd H u (.tup [.int q.1, .int q.2]) ∧ ∃ v, σ = [some (.ref p), v])
      ⟨rfl, none, rfl⟩ (fun i σ H2 _ h => by rw [h.1]; exact SqT.of upd_same) ?_ ?_⟩
    · rintro i y σ H2 hi ⟨rfl, v, rfl⟩
      have hy : ∃ n : Int, y = .int n := by
        match i, hi with
        | 0, e => exact ⟨_, (Option.some.inj e).symm⟩
        | 1, e => exact ⟨_, (Option.some.inj e).symm⟩
      obtain ⟨n, rfl⟩ := hy
      refine ⟨_, rfl, _, _, _, _, true, rfl, ClsV.ty _, TyX.base (TyOf.int n), kit_ty (by decide +kernel), true, rfl, ?_⟩
      refine iteF ?_
      refine ⟨_, rfl, _, _, _, _, false, rfl, ClsV.ty _, TyX.base (TyOf.int n), kit_ty (by decide +kernel), false, rfl, ?_⟩
      exact iteF ⟨rfl, _, rfl⟩
    · rintro σ H2 ⟨rfl, v, rfl⟩
      have hp2 : (upd H u (.tup [.int q.1, .int q.2])) p = some (.ins C dp (shF q)) := by rw [upd_ne npu]; exact hp
      refine ⟨_, rfl, p, C, dp, _, _, rfl, hp2, T.cl, T.nt, shF_top q, _, rfl, p, C, dp, _, _, rfl, hp2, T.cl, T.nb, shF_bot q, by show 2 ≤ sizeLine; decide, fun r hr => ?_⟩
      exact hQ r _ ((same_new hu).trans (same_new hr)) ((same_new hu).free hr) upd_same
/-- two Shares in, a Share out -/
def sp2 (C : Addr) (g : Rat → Rat → Rat) : Sp := fun vs H Q _ => ∃ (p q : Addr) (r s : Rat) (n : Nat), vs = [.ref p, .ref q] ∧ Sh C H p (pr r) ∧ Sh C H q (pr s) ∧ Sz n r ∧ Sz n s ∧ 0 < n ∧ n ≤ 4000 ∧
  ∀ t H', Same H H' → H t = none → Sh C H' t (pr (g r s)) → Q (.ref t) H'
theorem plusR {vs : List V} {H : Hp} {Q : VK} {E : XK} (h : sp2 C (· + ·) vs H Q E) : sp_plus C vs H Q E := by
  obtain ⟨p, q, r, s, n, e, hp, hq, sr, ss, n0, n9, k⟩ := h
  refine ⟨p, q, _, _, n, e, hp, hq, ⟨bd_of sr, bd_of ss, n0, n9⟩, fun t H' a b c => k t H' a b ?_⟩
  rw [KM.pr_plus] at c
  exact c
abbrev MakS1 (P : Program) (w : World) (K : PySem.W.Frag) (mg : Str → Option Value) (base : Heap) (C : Addr) : Prop := Mak P w K mg base 2 "Share" C (spInit C) [.int 1]
theorem mk_in {C x dx : Addr} {H1 : Hp} {t b : Int} {n : Nat} {Qv : VK} {E : XK} (nx : H1 x = none) (nd : H1 dx = none) (hb : b ≠ 0) (hn : b.natAbs < 2 ^ n) (hn0 : 0 < n) (hn9 : n ≤ 9000)
    (hQ : ∀ H', Same H1 H' → Sh C H' x (pr (Rat.divInt t b)) → Qv .non H') : spInit C [.ref x, .int t, .int b] (upd (upd H1 dx (.own x)) x (.ins C dx [])) Qv E := by
  refine ⟨x, dx, t, b, n, rfl, hb, hn, hn0, hn9, upd_same, fun H' kp hp => hQ H' (fun a o e => ?_) ⟨dx, KM.low_eq hb ▸ hp⟩⟩
  refine kp a o (ne_of_none e nx) ?_
  rw [upd_ne (ne_of_none e nx), upd_ne (ne_of_none e nd)]
  exact e
end
end K58
set_option Elab.async false
set_option linter.all false
set_option maxRecDepth 100000
set_option maxHeartbeats 4000000
/-! NM: the names that a law draws: words by a base, a place, a spot and a way. -/
namespace NM
open PySem PySem.Spec
def ok (l : List Nat) : Prop := 1 ≤ l.length ∧ l.length ≤ 8 ∧ ∀ c ∈ l, 97 ≤ c ∧ c ≤ 122
def words : List (List Nat) := [[108, 97, 116, 101], [105, 110], [111, 117, 116], [114, 105, 100, 101], [104, 97, 110, 100], [108, 97, 99, 107], [121, 101, 115], [110, 111], [110, 97, 109, 101, 115], [103, 111, 110, 101], [116, 101, 120, 116], [112, 108, 97, 110], [117, 110, 100, 111], [117, 115, 117, 97, 108], [98, 97, 99, 107], [108, 101, 97, 118, 101]]
def lets : List Nat := (List.range 26).map (97 + ·)
def w0 (bs : List Nat) (at_ spot k : Nat) : List Nat := bs.take at_ ++ [97 + (spot + 5 * k) % 26] ++ bs.drop (at_ + 1)
def w1 (bs : List Nat) (at_ spot k : Nat) : List Nat := (w0 bs at_ spot k).take (bs.length - k % (bs.length - at_))
def w2 (spot k : Nat) : List Nat := (List.replicate 8 (97 + (spot + k / 8) % 26)).take (k % 8 + 1)
def w3 (spot k : Nat) : List Nat := words.getD ((spot + k) % 16) []
def word (bs : List Nat) (at_ spot way k : Nat) : List Nat := if way = 1 then w1 bs at_ spot k else if way = 2 then w2 spot k else if way = 3 then w3 spot k else w0 bs at_ spot k
theorem words_ok : ∀ i, i < 16 → ok (words.getD i []) := by
  have : ∀ i : Fin 16, 1 ≤ (words.getD i.1 []).length ∧ (words.getD i.1 []).length ≤ 8 ∧ (words.getD i.1 []).all (fun c => decide (97 ≤ c ∧ c ≤ 122)) = true := by decide +kernel
  intro i hi
  obtain ⟨h1, h2, h3⟩ := this ⟨i, hi⟩
  refine ⟨h1, h2, fun c hc => ?_⟩
  have := List.all_eq_true.mp h3 c hc
  exact of_decide_eq_true this
theorem words_inj : ∀ i j, i < 16 → j < 16 → words.getD i [] = words.getD j [] → i = j := by
  have : ∀ i j : Fin 16, words.getD i.1 [] = words.getD j.1 [] → i = j := by decide +kernel
  intro i j hi hj e
  exact congrArg Fin.val (this ⟨i, hi⟩ ⟨j, hj⟩ e)
section
variable {bs : List Nat} {at_ spot k : Nat}
theorem w0_len (h : at_ < bs.length) : (w0 bs at_ spot k).length = bs.length := by
  unfold w0
  simp only [List.length_append, List.length_take, List.length_drop, List.length_cons, List.length_nil]
  omega
theorem w0_at (h : at_ < bs.length) : (w0 bs at_ spot k)[at_]? = some (97 + (spot + 5 * k) % 26) := by
  unfold w0
  rw [List.append_assoc, List.getElem?_append_right (by rw [List.length_take]; omega), List.length_take, Nat.min_eq_left (by omega), Nat.sub_self]
  rfl
theorem w0_mem (hb : ∀ c ∈ bs, 97 ≤ c ∧ c ≤ 122) : ∀ c ∈ w0 bs at_ spot k, 97 ≤ c ∧ c ≤ 122 := by
  intro c hc
  unfold w0 at hc
  rcases List.mem_append.mp hc with hc | hc
  · rcases List.mem_append.mp hc with hc | hc
    · exact hb c (List.mem_of_mem_take hc)
    · rw [List.mem_singleton] at hc
      omega
  · exact hb c (List.mem_of_mem_drop hc)
theorem w1_len (h : at_ < bs.length) : at_ + 1 ≤ (w1 bs at_ spot k).length ∧ (w1 bs at_ spot k).length ≤ bs.length := by
  unfold w1
  rw [List.length_take, w0_len h]
  have := Nat.mod_lt k (show 0 < bs.length - at_ by omega)
  omega
theorem w1_at (h : at_ < bs.length) : (w1 bs at_ spot k)[at_]? = some (97 + (spot + 5 * k) % 26) := by
  have h1 := (w1_len (spot := spot) (k := k) h).1
  unfold w1 at h1 ⊢
  rw [List.length_take, w0_len h] at h1
  rw [List.getElem?_take_of_lt (by omega)]
  exact w0_at h
theorem spot_inj {i j : Nat} (hi : i < 16) (hj : j < 16) (e : 97 + (spot + 5 * i) % 26 = 97 + (spot + 5 * j) % 26) : i = j := by omega
theorem word_ok (hb0 : 1 ≤ bs.length) (hb8 : bs.length ≤ 8) (hb : ∀ c ∈ bs, 97 ≤ c ∧ c ≤ 122) (h : at_ < bs.length) (way : Nat) : ok (word bs at_ spot way k) := by
  unfold word
  split
  · have := w1_len (spot := spot) (k := k) h
    exact ⟨by omega, by omega, fun c hc => w0_mem hb c (List.mem_of_mem_take hc)⟩
  split
  · unfold w2
    refine ⟨by rw [List.length_take, List.length_replicate]; omega, by rw [List.length_take, List.length_replicate]; omega, fun c hc => ?_⟩
    have := List.eq_of_mem_replicate (List.mem_of_mem_take hc)
    omega
  split
  · exact words_ok _ (Nat.mod_lt _ (by decide))
  · exact ⟨by rw [w0_len h]; exact hb0, by rw [w0_len h]; exact hb8, w0_mem hb⟩
theorem word_inj (h : at_ < bs.length) (way : Nat) {i j : Nat} (hi : i < 16) (hj : j < 16) (e : word bs at_ spot way i = word bs at_ spot way j) : i = j := by
  unfold word at e
  split at e
  · have h1 := w1_at (spot := spot) (k := i) h
    rw [e, w1_at h] at h1
    exact (spot_inj hj hi (Option.some.inj h1)).symm
  split at e
  · unfold w2 at e
    have hl := congrArg List.length e
    rw [List.length_take, List.length_take, List.length_replicate, List.length_replicate] at hl
    have h0 : ((List.replicate 8 (97 + (spot + i / 8) % 26)).take (i % 8 + 1))[0]? = ((List.replicate 8 (97 + (spot + j / 8) % 26)).take (j % 8 + 1))[0]? := by rw [e]
    rw [List.getElem?_take_of_lt (by omega), List.getElem?_take_of_lt (by omega), List.getElem?_replicate, List.getElem?_replicate, if_pos (by decide), if_pos (by decide)] at h0
    have := Option.some.inj h0
    omega
  split at e
  · have := words_inj _ _ (Nat.mod_lt _ (by decide)) (Nat.mod_lt _ (by decide)) e
    omega
  · have h1 := w0_at (spot := spot) (k := i) h
    rw [e, w0_at h] at h1
    exact (spot_inj hj hi (Option.some.inj h1)).symm
/-- as many as are asked: unlike ones -/
theorem all_unlike (h : at_ < bs.length) (way n : Nat) (hn : n ≤ 16) : ((List.range n).map (word bs at_ spot way)).Pairwise (· ≠ ·) := by
  rw [List.pairwise_map]
  refine (List.pairwise_lt_range (n := n)).imp_of_mem fun {a b} ha hb hlt e => ?_
  have := word_inj h way (by have := List.mem_range.mp ha; omega) (by have := List.mem_range.mp hb; omega) e
  omega
end
end NM
set_option Elab.async false
set_option linter.all false
set_option maxRecDepth 100000
set_option maxHeartbeats 4000000
/-! NH: the names that a law with a held dict draws. -/
namespace NH
open PySem PySem.Spec
def word (bs : List Nat) (at_ begin_ step lot k : Nat) : List Nat := bs.take at_ ++ [97 + (begin_ + step * k) % 26] ++ (bs.drop at_).take (if lot = 0 then 8 else k % (bs.length - at_ + 1))
def steps : List Nat := [1, 3, 5, 7, 9, 11, 15, 17]
section
variable {bs : List Nat} {at_ begin_ step lot k : Nat}
theorem word_at (h : at_ ≤ bs.length) : (word bs at_ begin_ step lot k)[at_]? = some (97 + (begin_ + step * k) % 26) := by
  unfold word
  rw [List.append_assoc, List.getElem?_append_right (by rw [List.length_take]; omega), List.length_take, Nat.min_eq_left h, Nat.sub_self]
  rfl
theorem step_inj {i j : Nat} (hs : step ∈ steps) (hi : i < 13) (hj : j < 13) (e : 97 + (begin_ + step * i) % 26 = 97 + (begin_ + step * j) % 26) : i = j := by
  simp only [steps, List.mem_cons, List.not_mem_nil, or_false] at hs
  rcases hs with rfl | rfl | rfl | rfl | rfl | rfl | rfl | rfl <;> omega
theorem word_inj (h : at_ ≤ bs.length) (hs : step ∈ steps) {i j : Nat} (hi : i < 13) (hj : j < 13) (e : word bs at_ begin_ step lot i = word bs at_ begin_ step lot j) : i = j := by
  have h1 := word_at (begin_ := begin_) (step := step) (lot := lot) (k := i) h
  rw [e, word_at h] at h1
  exact (step_inj hs hj hi (Option.some.inj h1)).symm
theorem word_ok (h8 : bs.length ≤ 7) (hb : ∀ c ∈ bs, 97 ≤ c ∧ c ≤ 122) (h : at_ ≤ bs.length) : NM.ok (word bs at_ begin_ step lot k) := by
  unfold word
  refine ⟨?_, ?_, fun c hc => ?_⟩
  · simp only [List.length_append, List.length_take, List.length_drop, List.length_cons, List.length_nil]
    omega
  · simp only [List.length_append, List.length_take, List.length_drop, List.length_cons, List.length_nil]
    omega
  · rcases List.mem_append.mp hc with hc | hc
    · rcases List.mem_append.mp hc with hc | hc
      · exact hb c (List.mem_of_mem_take hc)
      · rw [List.mem_singleton] at hc
        omega
    · exact hb c (List.mem_of_mem_drop (List.mem_of_mem_take hc))
theorem all_unlike (h : at_ ≤ bs.length) (hs : step ∈ steps) (n : Nat) (hn : n ≤ 13) : ((List.range n).map (word bs at_ begin_ step lot)).Pairwise (· ≠ ·) := by
  rw [List.pairwise_map]
  refine (List.pairwise_lt_range (n := n)).imp_of_mem fun {a b} ha hb hlt e => ?_
  have := word_inj h hs (by have := List.mem_range.mp ha; omega) (by have := List.mem_range.mp hb; omega) e
  omega
end
end NH
set_option Elab.async false
set_option linter.all false
set_option maxRecDepth 100000
set_option maxHeartbeats 4000000
namespace K58
open PySem PySem.Spec PyProof.Rows L2
open C8 (Cal Mak Met pe_c pe_mk pe_mt pe_mt0)
open SX (S)
theorem lets_S : (Str.ofString "abcdefghijklmnopqrstuvwxyz").cps.toList = NM.lets := by decide +kernel
theorem at_lets {x : Int} {j : Nat} (e : x = (j : Int)) (hj : j < 26) : atI (Str.ofString "abcdefghijklmnopqrstuvwxyz").cps.toList x = some (97 + j) := by
  rw [e, lets_S]
  refine atI_nat ?_
  unfold NM.lets
  rw [List.getElem?_map, List.getElem?_range hj]
  rfl
theorem cut_t {l : List Nat} {x : Int} {j : Nat} (e : x = (j : Int)) (h : j ≤ l.length) : cutS (S l) none (some x) = S (l.take j) := by
  rw [e]
  unfold cutS
  rw [HT.sIx_nat, HT.sIx_none, SX.S_len, Nat.min_eq_left h]
  simp [S]
theorem cut_m {l : List Nat} {x y : Int} {j m : Nat} (e : x = (j : Int)) (e2 : y = ((j + m : Nat) : Int)) (h : j ≤ l.length) : cutS (S l) (some x) (some y) = S ((l.drop j).take m) := by
  rw [e, e2]
  unfold cutS
  rw [HT.sIx_nat, HT.sIx_nat, SX.S_len, Nat.min_eq_left h]
  have e3 : (l.drop j).take (min (j + m) l.length - j) = (l.drop j).take m := by
    by_cases c : j + m ≤ l.length
    · rw [Nat.min_eq_left c, Nat.add_sub_cancel_left]
    · rw [Nat.min_eq_right (by omega), List.take_of_length_le (Nat.le_of_eq (List.length_drop ..)), List.take_of_length_le (by rw [List.length_drop]; omega)]
  simp [S, e3]
theorem ones : ∀ bs : List Nat, ((bs.map fun c => S [c]).map (·.length)).sum = bs.length
  | [] => rfl
  | b :: bs => by
    rw [List.map_cons, List.map_cons, List.sum_cons, ones bs, List.length_cons, SX.S_len]
    simp
    omega
theorem joined : ∀ bs : List Nat, TL.joinL [] (bs.map fun c => [c]) = bs
  | [] => rfl
  | [b] => rfl
  | b :: d :: bs => by
    have := joined (d :: bs)
    simp only [List.map_cons, TL.joinL] at this ⊢
    simp [this]
theorem Held.ne_new {H : Hp} {h u : Addr} {c : Nat} (x : Held H h c) (e : H u = none) : u ≠ h := by
  obtain ⟨l, ns, n, m, h1, _⟩ := x
  exact (ne_of_none h1 e).symm
/-- the held dict's cells aren't at D -/
def Cel (h D : Addr) (H : Hp) : Prop := ∃ la n m, H h = some (.dK (hd0 la n m)) ∧ la ≠ D ∧ h ≠ D
theorem Cel.kp {h D : Addr} {H H' : Hp} (x : Cel h D H) (k : Kp h H H') : Cel h D H' := by
  obtain ⟨la, n, m, e, n1, n2⟩ := x
  obtain ⟨n', m', e'⟩ := k.2 _ _ _ e
  exact ⟨la, n', m', e', n1, n2⟩
theorem Cel.of {h D : Addr} {H : Hp} {c : Nat} (x : Held H h c) (f : H D = none) : Cel h D H := by
  obtain ⟨la, ns, n, m, e1, e2, _⟩ := x
  exact ⟨la, n, m, e1, ne_of_none e2 f, ne_of_none e1 f⟩
theorem Cel.ne {h D : Addr} {H : Hp} (x : Cel h D H) : D ≠ h := by
  obtain ⟨_, _, _, _, _, n⟩ := x
  exact n.symm
theorem Held.put {h D : Addr} {H : Hp} {o : HO} {c : Nat} (x : Held H h c) (y : Cel h D H) : Held (upd H D o) h c := by
  obtain ⟨la, ns, n, m, e1, e2, e3⟩ := x
  obtain ⟨la', n', m', e', n1, n2⟩ := y
  cases hd_inj (Option.some.inj (e1.symm.trans e'))
  exact ⟨la, ns, n, m, by rw [upd_ne n2]; exact e1, by rw [upd_ne n1]; exact e2, e3⟩
theorem Cel.put {h D D' : Addr} {H : Hp} {o : HO} (x : Cel h D H) (n : h ≠ D') : Cel h D (upd H D' o) := by
  obtain ⟨la', n', m', e', n1, n2⟩ := x
  exact ⟨la', n', m', by rw [upd_ne n]; exact e', n1, n2⟩
theorem Kp.new {h st : Addr} {H1 H2 : Hp} {o : HO} (k : Kp h H1 H2) (f : H1 st = none) : Kp h H1 (upd H2 st o) :=
  ⟨fun b u e ne => by rw [upd_ne (ne_of_none e f)]; exact k.1 b u e ne, fun l n m e => by
    obtain ⟨n', m', e'⟩ := k.2 l n m e
    exact ⟨n', m', by rw [upd_ne (ne_of_none e f)]; exact e'⟩⟩
theorem pick {α : Type} (g : α → V) {L : List α} {i : Int} (i0 : 0 ≤ i) (i1 : i < (L.length : Int)) : ∃ x ∈ L, atI (L.map g) i = some (g x) := by
  obtain ⟨j, rfl⟩ := Int.eq_ofNat_of_zero_le i0
  have hj : j < L.length := by omega
  exact ⟨L[j], List.getElem_mem hj, atI_nat (j := j) (by rw [List.getElem?_map, List.getElem?_eq_getElem hj]; rfl)⟩
section
variable {P : Program} {w : World} {K : PySem.W.Frag} {mg : Str → Option Value} {base : Heap} {f C : Addr} {fd : FuncData}
def spNames : Sp := fun vs H Q _ => ∃ (h : Addr) (c n : Nat), vs = [.ref h, .int n] ∧ Held H h (c + 40) ∧ n ≤ 13 ∧
  ∀ (o : Addr) (zs : List (List Nat)) (H' : Hp), Held H' h c → Kp h H H' → H o = none → H' o = some (.lst (zs.map fun l => V.str (S l))) → zs.length = n → (∀ z ∈ zs, NM.ok z) → zs.Pairwise (· ≠ ·) → Q (.ref o) H'
theorem ok_names (F : Dn K d_l_names f fd) (bl : Bl mg) (cD : CalD P w K mg base) : FnOk P w K mg base CX0 2 f fd ["_law_held_here", "_law_many"] spNames := by
  refine F.ok sc_l_names (fun vs H Q E h => ?_) (fun cdv A outer s H vs Q E hr h => ?_)
  · obtain ⟨p, c, n, rfl, _⟩ := h
    rfl
  · obtain ⟨p, c, n, rfl, pen, hn, hQ⟩ := h
    refine ⟨_, PSs.nox (pss_cons (ps_set (i := 2) sc_l_names.nd rfl (.inr rfl) pe_str)
      (pss_cons (ps_set (i := 3) sc_l_names.nd rfl (.inl rfl) (pe_c cD hr (by decide) rfl (pa_cons (pv 0) (pa_cons pe_int pa_nil))))
      (C8.pss_cut (ps_set (i := 5) sc_l_names.nd rfl (.inl rfl) (pe_join pe_str (pe_lc (own := [("_law_k", 4)]) (g := gName 4) (tt := tYes) rfl sc_l_names.nd (pi_range1 rfl bl.range (pa_cons (pv 3) pa_nil)) (blkOk_by (N := N_l_names) (sc := defScope s_l_names) (by decide +kernel))
          (fun _ _ _ _ _ => pg_name (i := 4) sc_l_names.nd rfl (Or.inl rfl)) (fun _ _ _ _ _ => pts_nil) (fun _ _ _ _ _ => pe_ix ix_str (pv 2) (pe_c cD hr (by decide) rfl (pa_cons (pv 0) (pa_cons pe_int pa_nil))) (fun _ _ => rfl)))))
      (pss_cons (ps_par (i := 6) (j := 7) rfl sc_l_names.nd rfl rfl (by decide) rfl rfl (pa_cons (pe_c cD hr (by decide) rfl (pa_cons (pv 0) (pa_cons (pe_op op_add (pv 3) pe_int) pa_nil))) (pa_cons (pe_c cD hr (by decide) rfl (pa_cons (pv 0) (pa_cons pe_int pa_nil))) pa_nil)) rfl)
      (pss_cons (ps_par (i := 8) (j := 9) rfl sc_l_names.nd rfl rfl (by decide) rfl rfl (pa_cons (pe_ix ix_list (pe_lst (pa_cons pe_int (pa_cons pe_int (pa_cons pe_int (pa_cons pe_int (pa_cons pe_int (pa_cons pe_int (pa_cons pe_int (pa_cons pe_int pa_nil))))))))) (pe_c cD hr (by decide) rfl (pa_cons (pv 0) (pa_cons pe_int pa_nil))) (fun _ _ => rfl)) (pa_cons (pe_c cD hr (by decide) rfl (pa_cons (pv 0) (pa_cons pe_int pa_nil))) pa_nil)) rfl)
      (pss_cons (ps_set (i := 10) sc_l_names.nd rfl (.inl rfl) (pe_lst pa_nil))
      (pss_cons (ps_for PassesOwn.never rfl (pi_range1 rfl bl.range (pa_cons (pv 1) pa_nil)) (pg_name (i := 4) sc_l_names.nd rfl (.inl rfl))
        (C8.pss_cut (ps_set (i := 11) sc_l_names.nd rfl (.inl rfl) (pe_slice sl_str (pv 5) (po_some (pv 6)) (po_some (pe_op op_add (pv 6) (pe_ix ix_list (pe_lst (pa_cons pe_int (pa_cons (pe_op op_mod (pv 4) (pe_op op_add (pe_op op_sub (pv 3) (pv 6)) pe_int)) pa_nil))) (pv 9) (fun _ _ => rfl))))))
        (pss_one (ps_expr (pe_bm PySem.F.plainAttrs_list PySem.F.slot_list_append PySem.F.type_list_append mt_append (pv 10) (pa_cons (pe_op op_add_str (pe_op op_add_str (pe_slice sl_str (pv 5) po_none (po_some (pv 6))) (pe_ix ix_str (pv 2) (pe_op op_mod (pe_op op_add (pv 7) (pe_op op_mul (pv 8) (pv 4))) pe_int) (fun _ _ => rfl))) (pv 11)) pa_nil))))))
      (pss_one (ps_ret (pv 10)))))))))), ?_⟩
    -- the size
    refine ⟨_, rfl, p, c + 39, _, rfl, pen, by decide, by decide, fun z0 H2 a2 b2 pen2 k2 => ?_⟩
    obtain ⟨sz, rfl⟩ := Int.eq_ofNat_of_zero_le a2
    have sz7 : sz ≤ 7 := by omega
    -- the base
    refine ⟨fun σ' H' => ∃ bs : List Nat, σ' = [some (.ref p), some (.int n), some (.str (Str.ofString "abcdefghijklmnopqrstuvwxyz")), some (.int (sz : Int)), none, some (.str (S bs)), none, none, none, none, none, none] ∧ bs.length = sz ∧ (∀ c ∈ bs, 97 ≤ c ∧ c ≤ 122) ∧
      Held H' p (c + 30) ∧ Kp p H H', ?_, ?_⟩
    · refine ⟨⟨_, rfl⟩, _, rfl, _, rfl, by omega, by omega, ?_⟩
      rw [Int.toNat_natCast]
      intro D hD
      have offD := Cel.of pen2 hD
      have sD := same_new (o := .lst []) hD
      refine lc_range (n := sz) (fun i H3 => ∃ bs : List Nat, bs.length = i ∧ (∀ c ∈ bs, 97 ≤ c ∧ c ≤ 122) ∧ H3 D = some (.lst (bs.map fun c => V.str (S [c]))) ∧ Held H3 p (c + 39 - i) ∧ Kp p H2 H3 ∧ Cel p D H3) ?_ ?_ ?_
      · exact ⟨[], rfl, by simp, upd_same, pen2.same sD, Kp.same sD, offD.kp (Kp.same sD)⟩
      · rintro i H3 hi ⟨bs, hbl, hbc, hd, pen3, k3, off3⟩
        refine ⟨rfl, ?_⟩
        refine ⟨_, rfl, _, rfl, p, c + 39 - (i + 1), _, rfl, pen3.weak (by omega), by decide, by decide, fun r H4 r0 r1 pen4 k4 => ?_⟩
        obtain ⟨rn, rfl⟩ := Int.eq_ofNat_of_zero_le r0
        have hd4 := k4.1 _ _ hd off3.ne
        have off4 := off3.kp k4
        refine ⟨_, _, 97 + rn, rfl, rfl, by decide +kernel, at_lets rfl (by omega), _, hd4, ?_, bs ++ [97 + rn], by simp [hbl], ?_, ?_, pen4.put off4, (k3.trans k4).new hD, ?_⟩
        · rw [List.length_map, hbl]
          exact Nat.lt_of_lt_of_le (by omega : i < 64) (by decide)
        · intro c' hc'
          rcases List.mem_append.mp hc' with hc' | hc'
          · exact hbc c' hc'
          · rw [List.mem_singleton] at hc'
            omega
        · rw [upd_same]
          simp [S]
        · exact off4.put off4.ne.symm
      · rintro H3 ⟨bs, hbl, hbc, hd, pen3, k3, off3⟩
        have ey : (bs.map fun c => V.str (S [c])) = (bs.map fun c => S [c]).map V.str := by rw [List.map_map]; rfl
        refine ⟨_, D, bs.map fun c => S [c], rfl, rfl, .inl (by rw [← ey]; exact SqL.of hd), ?_, bs, ?_, hbl, hbc, pen3.weak (by omega), k2.trans k3⟩
        · rw [ones bs, List.length_map]
          have e2 : (Str.ofString "").length = 0 := by decide +kernel
          rw [e2, hbl]
          omega
        · have e3 : Txt.join (Str.ofString "") (bs.map fun c => S [c]) = S bs := by
            have e4 : Str.ofString "" = S [] := by decide +kernel
            have e5 : (bs.map fun c => S [c]) = (bs.map fun c => [c]).map S := by rw [List.map_map]; rfl
            rw [e4, e5, SX.join_S, joined]
          rw [e3]
          rfl
    clear pen pen2 k2
    rintro σ' H3 ⟨bs, rfl, hbl, hbc, pen3, k3⟩
    refine ⟨_, rfl, _, rfl, _, _, rfl, rfl, p, c + 29, _, rfl, pen3, by omega, by omega, fun at_ H4 a4 b4 pen4 k4 => ?_⟩
    refine ⟨_, rfl, p, c + 28, _, rfl, pen4, by decide, by decide, fun bg H5 a5 b5 pen5 k5 => ⟨_, _, rfl, ?_⟩⟩
    refine ⟨by show 8 ≤ sizeLine; decide, fun u fu => ?_⟩
    have su := same_new (o := .lst [.int 1, .int 3, .int 5, .int 7, .int 9, .int 11, .int 15, .int 17]) fu
    refine ⟨_, rfl, p, c + 27, 8, rfl, pen5.same su, by decide, by decide, fun q6 H6 a6 b6 pen6 k6 => ?_⟩
    have hu6 := k6.1 u _ upd_same (pen5.ne_new fu)
    obtain ⟨st, hst, est⟩ := pick (fun n : Nat => V.int (n : Int)) (L := NH.steps) a6 (by simpa [NH.steps] using b6)
    refine ⟨u, _, _, _, rfl, rfl, SqL.of hu6, est, ?_⟩
    refine ⟨_, rfl, p, c + 26, 2, rfl, pen6, by decide, by decide, fun lot H7 a7 b7 pen7 k7 => ⟨_, _, rfl, ?_⟩⟩
    obtain ⟨at_, rfl⟩ := Int.eq_ofNat_of_zero_le a4
    obtain ⟨bg, rfl⟩ := Int.eq_ofNat_of_zero_le a5
    obtain ⟨lot, rfl⟩ := Int.eq_ofNat_of_zero_le a7
    have hat : at_ ≤ bs.length := by omega
    have k07 := ((k3.trans k4).trans k5).trans (((Kp.same su).trans k6).trans k7)
    have st17 : st ≤ 17 := by
      simp only [NH.steps, List.mem_cons, List.not_mem_nil, or_false] at hst
      omega
    clear k3 k4 k5 k6 k7 su pen3 pen4 pen5 pen6
    refine ⟨by show 0 ≤ sizeLine; decide, fun o fo => ?_⟩
    have so := same_new (o := .lst []) fo
    refine ⟨_, rfl, _, rfl, by omega, by omega, ?_⟩
    rw [Int.toNat_natCast]
    have fo0 : H o = none := by
      cases e : H o with
      | none => rfl
      | some ob =>
        by_cases z : o = p
        · rw [z] at fo
          obtain ⟨l0, ns0, n0, m0, h0, _⟩ := pen7
          rw [h0] at fo
          cases fo
        · rw [k07.1 o ob e z] at fo
          cases fo
    refine for_range (n := n) (fun i σ H8 => ∃ (v4 v11 : Option V), σ = [some (.ref p), some (.int n), some (.str (Str.ofString "abcdefghijklmnopqrstuvwxyz")), some (.int (sz : Int)), v4, some (.str (S bs)), some (.int (at_ : Int)), some (.int (bg : Int)), some (.int (st : Int)), some (.int (lot : Int)), some (.ref o), v11] ∧
        H8 o = some (.lst (((List.range i).map (NH.word bs at_ bg st lot)).map fun l => V.str (S l))) ∧ Held H8 p c ∧ Kp p H H8 ∧ Cel p o H8)
      ⟨none, none, rfl, upd_same, (pen7.same so).weak (by omega), k07.trans (Kp.same so), (Cel.of pen7 fo).kp (Kp.same so)⟩ ?_ ?_
    · rintro i σ H8 hi ⟨v4, v11, rfl, ho8, pen8, k8, off8⟩
      have len0 : (S bs).length ≤ sizeLine := by rw [SX.S_len]; exact Nat.le_trans (by omega : bs.length ≤ 8) (by decide)
      have lets_len : (Str.ofString "abcdefghijklmnopqrstuvwxyz").length ≤ sizeLine := by decide +kernel
      obtain ⟨m, hm⟩ : ∃ m : Nat, (if lot = 0 then 8 else i % (bs.length - at_ + 1)) = m := ⟨_, rfl⟩
      refine ⟨fun σ' H' => σ' = [some (.ref p), some (.int n), some (.str (Str.ofString "abcdefghijklmnopqrstuvwxyz")), some (.int (sz : Int)), some (.int (0 + (i : Int))), some (.str (S bs)), some (.int (at_ : Int)), some (.int (bg : Int)), some (.int (st : Int)), some (.int (lot : Int)), some (.ref o), some (.str (S ((bs.drop at_).take m)))] ∧ Same H8 H', ?_, ?_⟩
      · refine ⟨_, rfl, _, rfl, _, rfl, _, rfl, _, rfl, _, rfl, _, rfl, _, _, rfl, rfl, _, _, rfl, rfl, _, _, rfl, rfl, by omega, by show 2 ≤ sizeLine; decide, fun u2 fu2 => ?_⟩
        have eix : atI [V.int 8, .int ((0 + (i : Int)) % ((sz : Int) - (at_ : Int) + 1))] (lot : Int) = some (.int (m : Nat)) := by
          rcases (show lot = 0 ∨ lot = 1 by omega) with rfl | rfl
          · rw [← hm]
            rfl
          · have h1 : ((sz : Int) - (at_ : Int) + 1) = ((bs.length - at_ + 1 : Nat) : Int) := by omega
            rw [h1, Int.zero_add, ← Int.natCast_emod, ← hm]
            rfl
        refine ⟨_, rfl, u2, _, _, _, rfl, rfl, SqL.of upd_same, eix, _, _, rfl, rfl, _, rfl, _, rfl, len0, ?_⟩
        rw [cut_m (j := at_) (m := m) rfl (by omega) hat]
        exact ⟨rfl, same_new fu2⟩
      · rintro σ' H9 ⟨rfl, s9⟩
        have ho9 := s9 _ _ ho8
        have e5 : ((bg : Int) + (st : Int) * (0 + (i : Int))) % 26 = (((bg + st * i) % 26 : Nat) : Int) := by
          rw [Int.zero_add, ← Int.natCast_mul, ← Int.natCast_add]
          exact (Int.natCast_emod _ 26).symm
        refine ⟨_, rfl, Or.inl ⟨rfl, _, SqL.of ho9⟩, _, rfl, _, rfl, _, rfl, _, rfl, len0, ?_⟩
        rw [cut_t rfl hat]
        refine ⟨_, rfl, _, rfl, _, rfl, _, rfl, _, _, rfl, rfl, cb_l (by omega) (by omega), _, _, rfl, rfl, _, _, rfl, rfl, (by decide : (0 : Int) < 26), _, _, _, rfl, rfl, lets_len, at_lets e5 (Nat.mod_lt _ (by decide)), _, _, rfl, rfl, ?_, ?_⟩
        · rw [SX.S_len, List.length_take]
          exact Nat.le_trans (by show min at_ bs.length + 1 ≤ 64; omega) (by decide)
        have ec : S (bs.take at_) ++ (⟨#[97 + (bg + st * i) % 26]⟩ : Str) = S (bs.take at_ ++ [97 + (bg + st * i) % 26]) := SX.S_cat _ _
        rw [ec]
        refine ⟨_, rfl, _, _, rfl, rfl, ?_, ?_⟩
        · rw [SX.S_len, SX.S_len, List.length_append, List.length_take, List.length_take, List.length_drop]
          exact Nat.le_trans (by show min at_ bs.length + 1 + min m (bs.length - at_) ≤ 64; omega) (by decide)
        rw [SX.S_cat]
        have ew : bs.take at_ ++ [97 + (bg + st * i) % 26] ++ (bs.drop at_).take m = NH.word bs at_ bg st lot i := by rw [← hm]; rfl
        rw [ew]
        refine ⟨o, _, _, rfl, rfl, ho9, ?_, _, _, rfl, ?_, (pen8.same s9).put (off8.kp (Kp.same s9)), (k8.trans (Kp.same s9)).new fo0, (off8.kp (Kp.same s9)).put off8.ne.symm⟩
        · rw [List.length_map, List.length_map, List.length_range]
          exact Nat.lt_of_lt_of_le (by omega : i < 64) (by decide)
        · rw [upd_same, List.range_succ, List.map_append, List.map_append]
          rfl
    · rintro σ H8 ⟨v4, v11, rfl, ho8, pen8, k8, off8⟩
      refine ⟨_, rfl, hQ o _ H8 pen8 k8 fo0 ho8 (by simp) (fun z hz => ?_) (NH.all_unlike hat hst n hn)⟩
      obtain ⟨k, _, rfl⟩ := List.mem_map.mp hz
      exact NH.word_ok (by omega) hbc hat
end
end K58
set_option Elab.async false
set_option linter.all false
set_option maxRecDepth 100000
set_option maxHeartbeats 4000000
/-! OW: ==, !=, str and repr of instances of an own class by its own __eq__, __str__, __repr__. -/
namespace OW
open PySem PySem.Spec PyProof.Rows L2
/-- what is known of a special def of the class: where it stands, that it keeps its promise -/
structure Spc (P : Program) (w : World) (K : PySem.W.Frag) (mg : Str → Option Value) (base : Heap) (k : Nat) (C : Addr) (m : Str) (sp : Sp) : Prop where
  ex : ∃ (f : Addr) (fd : FuncData) (ps : List Str), PySem.W.findIn K (.ref C) m = some (some (.ref f)) ∧ PySem.W.isFn K (.ref f) = true ∧ FnOk P w K mg base CX0 k f fd ps sp ∧ Binds K fd ps []
section
variable {X : Cx} {pins : List (Addr × Obj)} {σ : L2.St} {H : Hp} {s : Shared} {Q : VK} {k : Nat} {C a b : Addr} {sp : Sp}
/-- a def called at any around with room -/
theorem run_at {f : Addr} {fd : FuncData} {ps : List Str} {A : Around} {us : List Value} {vs : List V} {E' : Value → Shared → Prop} (F : FnOk X.prog X.w X.K X.mg X.base CX0 k f fd ps sp) (hb : Binds X.K fd ps []) (hr : Room k A) (I : Inv X pins σ H s)
    (he : Env0 X.prog X.w X.K X.mg X.base A X.stack s H) (r : Vals vs us) (h : sp vs H Q E0) : wpAny (model X.prog X.w) A (call (.ref f) us) (EP X pins σ Q) E' s := by
  have hl : us.length = ps.length := by rw [← r.length]; exact F.len _ _ _ _ h
  have b := hb s us I.kIn (by rw [List.append_nil]; exact hl)
  rw [List.append_nil] at b
  refine wpAny_call (codeAny_mono (F.run A X.stack s H ⟨us, []⟩ us vs Q E0 hr he b r h) fun r s' hq => ?_)
  cases r with
  | error e => exact False.elim hq
  | ok fl =>
    cases fl with
    | ret u => exact I.after hq
    | next => exact False.elim hq
    | brk => exact False.elim hq
    | cont => exact False.elim hq
theorem same_first : PySem.W.notFirst X.K C (.ref C) = true := by
  unfold PySem.W.notFirst
  rw [beq_self_eq_true, Bool.true_or]
/-- x == y, both of the class -/
def rEqO (C : Addr) (sp : Sp) : R2 := fun x y H Q => ∃ a dx fs b dy gs, x = .ref a ∧ y = .ref b ∧ H a = some (.ins C dx fs) ∧ H b = some (.ins C dy gs) ∧ sp [x, y] H (fun v H' => ∃ z, v = .bl z ∧ Q (.bl z) H') E0
def rNeO (C : Addr) (sp : Sp) : R2 := fun x y H Q => ∃ a dx fs b dy gs, x = .ref a ∧ y = .ref b ∧ H a = some (.ins C dx fs) ∧ H b = some (.ins C dy gs) ∧ sp [x, y] H (fun v H' => ∃ z, v = .bl z ∧ Q (.bl (!z)) H') E0
theorem op_eqO (S : Spc X.prog X.w X.K X.mg X.base k C "__eq__" sp) (hr : Room k X.A) : OpR X (compareOp .Eq) (rEqO C sp) := by
  obtain ⟨f, fd, ps, h1, h2, F, hb⟩ := S.ex
  intro pins s σ H x y v u Q I rx ry h
  obtain ⟨a, dx, fs, b, dy, gs, rfl, rfl, ea, eb, q⟩ := h
  cases (show v = Value.ref a from rx)
  cases (show u = Value.ref b from ry)
  obtain ⟨mA, O, _⟩ := ins_get I.hok ea
  obtain ⟨od, J, _⟩ := O.look
  obtain ⟨mB, O', _⟩ := ins_get I.hok eb
  obtain ⟨od', J', _⟩ := O'.look
  obtain ⟨m, hF⟩ := I.fr
  show wpAny _ _ (richCompare .Eq (.ref a) (.ref b)) _ _ _
  refine PySem.W.cmp_K (op := .Eq) (tb := .ref C) hr.units0 hF I.ok.mod.kin J J'.type same_first h1 h2 ?_
  refine wpAny_mono (run_at (E' := X.xe) (vs := [.ref a, .ref b]) F hb hr I I.env0 (.cons rfl (.cons rfl .nil)) q) (fun w s' z => ?_) fun _ _ x => x
  obtain ⟨z', H', I', rz, z, rfl, qz⟩ := z
  cases (show w = Value.bool z from rz)
  exact ⟨.bl z, H', I', rfl, qz⟩
open Builtin in
theorem op_neO (S : Spc X.prog X.w X.K X.mg X.base (k + 1) C "__eq__" sp) (hn : PySem.W.findIn X.K (.ref C) "__ne__" = some (some (.builtin "object.__ne__"))) (hm : PySem.W.mroIn X.K C (.type "object") = some true) (hr : Room (k + 2) X.A) : OpR X (compareOp .NotEq) (rNeO C sp) := by
  obtain ⟨f, fd, ps, h1, h2, F, hb⟩ := S.ex
  intro pins s σ H x y v u Q I rx ry h
  obtain ⟨a, dx, fs, b, dy, gs, rfl, rfl, ea, eb, q⟩ := h
  cases (show v = Value.ref a from rx)
  cases (show u = Value.ref b from ry)
  obtain ⟨mA, O, _⟩ := ins_get I.hok ea
  obtain ⟨od, J, _⟩ := O.look
  obtain ⟨mB, O', _⟩ := ins_get I.hok eb
  obtain ⟨od', J', _⟩ := O'.look
  have KI := I.kIn
  have callEq : wpAny (model X.prog X.w) X.A.in1 (call (.ref f) [.ref a, .ref b]) (fun v s' => ∃ z, v = .bool z ∧ EP X pins σ Q (.bool (!z)) s') X.xe s := by
    refine wpAny_mono (run_at (E' := X.xe) (vs := [.ref a, .ref b]) F hb hr.in1 I I.env0.in1 (.cons rfl (.cons rfl .nil)) q) (fun w s' z => ?_) fun _ _ x => x
    obtain ⟨z', H', I', rz, z, rfl, qz⟩ := z
    exact ⟨z, rz, .bl (!z), H', I', rfl, qz⟩
  have slot := PySem.F.cmp_object.ne
  have sub : PySem.W.Looks (model X.prog X.w) s.heap (isInstance (.ref a) (.type "object")) true := J.type.andThen (PySem.W.looks_mroIn KI hm)
  have uu : X.A.in1.units < cLine := hr.in1.units0
  have body : wpAny (model X.prog X.w) X.A.in1 (Builtin.«object.__ne__» ⟨[.ref a, .ref b], []⟩) (fun fin s' => match fin with | .done f => (match f with | .ret v => EP X pins σ Q v s' ∧ ∃ z, v = .bool z | _ => False) | .again _ => False) X.xe s := by
    unfold Builtin.«object.__ne__»
    repeat (first
      | with_reducible refine wpAny_cRoomFor uu ?_
      | (refine wpAny_bind (m := callSpecialIfBound? (.ref a) (Str.ofString "__eq__") [.ref b]) (PySem.W.ifBound_K KI J h1 h2 (wpAny_mono callEq (fun r s' hr => by
          obtain ⟨z, rfl, hq⟩ := hr
          repeat (first | exact ⟨hq, _, rfl⟩ | exact wpAny_pure ⟨hq, _, rfl⟩ | (refine wpAny_bind (m := truthy (.bool _)) (wpAny_truthy_bool ?_)) | wp_step)) fun _ _ e => e)))
      | wp_step)
  have callNe : wpAny (model X.prog X.w) X.A (call (.builtin "object.__ne__") [.ref a, .ref b]) (fun v s' => EP X pins σ Q v s' ∧ ∃ z, v = .bool z) X.xe s := by
    refine wpAny_call (codeAny_call_builtin slot.plain PySem.F.cmpEntry_ne (PySem.W.check_slot PySem.F.cmpKind_ne PySem.F.cmpSplit_ne sub (PySem.F.cmpArgs_ne _ _) ?_))
    refine wpAny_mono body (fun fin s' z => ?_) fun _ _ x => x
    cases fin with
    | done fl =>
      cases fl with
      | ret v => exact z
      | next => exact z.elim
      | brk => exact z.elim
      | cont => exact z.elim
    | again c => exact z.elim
  show wpAny _ _ (richCompare .NotEq (.ref a) (.ref b)) _ _ _
  unfold richCompare
  simp only [oneThing_ref]
  refine wpAny_holding (wpAny_bind (wpAny_cRoomFor hr.units0 ?_))
  rw [cmpInfo_NotEq]
  dsimp only
  refine wpAny_bind (J.type.here (wpAny_bind (J'.type.here ?_)))
  rw [show (Value.ref C != Value.ref C) = false from by simp]
  simp only [Bool.false_eq_true, if_false]
  refine wpAny_bind (wpAny_pure ?_)
  simp only [Bool.false_eq_true, if_false, tryCompare]
  have fin : wpAny (model X.prog X.w) X.A (call (.builtin "object.__ne__") ([.ref a] ++ [.ref b]) >>= fun v => pure (some v)) (fun r s' => ∃ v, r = some v ∧ EP X pins σ Q v s' ∧ ∃ z, v = .bool z) X.xe s :=
    wpAny_bind (wpAny_mono callNe (fun v s' h' => wpAny_pure ⟨v, rfl, h'⟩) fun _ _ h' => h')
  have bound : wpAny (model X.prog X.w) X.A (callSpecialIfBound? (.ref a) "__ne__" [.ref b]) (fun r s' => ∃ v, r = some v ∧ EP X pins σ Q v s' ∧ ∃ z, v = .bool z) X.xe s := by
    simp only [callSpecialIfBound?, bindSpecialIfBound?]
    refine wpAny_holding (wpAny_bind (wpAny_bind (wpAny_bind (J.type.here ((PySem.W.looks_findIn KI hn).here ?_)))))
    simp only [slot.bind]
    refine wpAny_bind (wpAny_askSetting (wpAny_ite ?_))
    split
    · exact wpAny_bind (wpAny_pure (wpAny_pure fin))
    · exact wpAny_tryCatch (wpAny_bind (wpAny_pure (wpAny_pure fin)))
  refine wpAny_bind (wpAny_bind (wpAny_mono bound (fun r s' z => ?_) fun _ _ h => h))
  obtain ⟨v, rfl, hq, z, rfl⟩ := z
  first | exact wpAny_pure (wpAny_pure hq) | exact wpAny_pure hq
/-- str(x), repr(x) -/
def rStrO (C : Addr) (sp : Sp) : List V → Hp → VK → Prop := fun xs H Q => ∃ a dx fs, xs = [.ref a] ∧ H a = some (.ins C dx fs) ∧ sp [.ref a] H (fun v H' => ∃ z, v = .str z ∧ Q (.str z) H') E0
theorem call_strO (S : Spc X.prog X.w X.K X.mg X.base k C "__str__" sp) (hr : Room (k + 2) X.A) : CallR X (.type "str") (rStrO C sp) := by
  obtain ⟨f, fd, ps, h1, h2, F, hb⟩ := S.ex
  intro pins s σ H xs us Q I r h
  obtain ⟨a, dx, fs, rfl, ea, q⟩ := h
  obtain ⟨u, rfl, ru⟩ := vals1 r
  cases (show u = Value.ref a from ru)
  obtain ⟨mA, O, _⟩ := ins_get I.hok ea
  obtain ⟨od, J, _⟩ := O.look
  refine PySem.W.kso_call hr.in1.in1.units0 I.kIn J h1 h2 ?_
  refine wpAny_mono (run_at (E' := X.xe) (vs := [.ref a]) F hb hr.in1.in1 I I.env0.in1.in1 (.cons rfl .nil) q) (fun w s' z => ?_) fun _ _ x => x
  obtain ⟨z', H', I', rz, z, rfl, qz⟩ := z
  obtain ⟨t, rfl⟩ := rz
  exact ⟨.str z, H', I', ⟨t, rfl⟩, qz⟩
theorem call_reprO (S : Spc X.prog X.w X.K X.mg X.base k C "__repr__" sp) (hr : Room (k + 1) X.A) : CallR X (.builtin "repr") (rStrO C sp) := by
  obtain ⟨f, fd, ps, h1, h2, F, hb⟩ := S.ex
  intro pins s σ H xs us Q I r h
  obtain ⟨a, dx, fs, rfl, ea, q⟩ := h
  obtain ⟨u, rfl, ru⟩ := vals1 r
  cases (show u = Value.ref a from ru)
  obtain ⟨mA, O, _⟩ := ins_get I.hok ea
  obtain ⟨od, J, _⟩ := O.look
  obtain ⟨m, hF⟩ := I.fr
  refine PySem.W.repr_K hr.in1.units0 hF I.ok.mod.kin J h1 h2 ?_
  refine wpAny_mono (run_at (E' := X.xe) (vs := [.ref a]) F hb hr.in1 I I.env0.in1 (.cons rfl .nil) q) (fun w s' z => ?_) fun _ _ x => x
  obtain ⟨z', H', I', rz, z, rfl, qz⟩ := z
  obtain ⟨t, rfl⟩ := rz
  exact ⟨.str z, H', I', ⟨t, rfl⟩, qz⟩
end
end OW
set_option linter.all false
set_option Elab.async false
set_option maxRecDepth 100000
/-! TX: the texts of whole numbers and of fractions, sign by sign. -/
namespace TX
open PySem SX TL NumText
/-- the signs of a whole number -/
def intL (i : Int) : List Nat := if i < 0 then 45 :: numL i.natAbs else numL i.natAbs
theorem tl_int (i : Int) : Str.ofString (toString i) = S (intL i) := by
  by_cases h : i < 0
  · obtain ⟨n, rfl⟩ : ∃ n : Nat, i = -((n + 1 : Nat) : Int) := ⟨i.natAbs - 1, by omega⟩
    have e : toString (-((n + 1 : Nat) : Int)) = "-" ++ toString ((n + 1 : Nat) : Int) := by rfl
    unfold intL
    rw [if_pos h, e]
    have e2 : (-((n + 1 : Nat) : Int)).natAbs = n + 1 := by omega
    rw [e2]
    refine TL.ext_tl ?_
    have e3 : (Str.ofString (toString ((n + 1 : Nat) : Int))).cps.toList = numL (n + 1) := tl_num (n + 1)
    show (Str.ofString ("-" ++ toString ((n + 1 : Nat) : Int))).cps.toList = 45 :: numL (n + 1)
    rw [← e3]
    rw [Str.ofString_eq_toList, Str.ofString_eq_toList, String.toList_append]
    rfl
  · obtain ⟨n, rfl⟩ := Int.eq_ofNat_of_zero_le (by omega : 0 ≤ i)
    unfold intL
    rw [if_neg h]
    exact num_S n
theorem no_minus (n : Nat) : 45 ∉ numL n := numL_free (.inl (by decide))
theorem no_stroke_int (i : Int) : 47 ∉ intL i := by
  unfold intL
  split
  · intro h
    rcases List.mem_cons.mp h with z | z
    · cases z
    · exact numL_free (.inl (by decide)) z
  · exact numL_free (.inl (by decide))
theorem minus_S : (Str.ofString "-") = S [45] := by decide +kernel
theorem stroke_S : (Str.ofString "/") = S [47] := by decide +kernel
theorem one_S : (Str.ofString "1") = S [49] := by decide +kernel
theorem zero_S : (Str.ofString "0") = S [48] := by decide +kernel
theorem empty_S : (Str.ofString "") = S [] := by decide +kernel
theorem rp_cons (l : List Nat) : Txt.removeprefix (S (45 :: l)) (S [45]) = S l := by
  rw [StrLaws.removeprefix_eq, StrLaws.subAt_eq]
  have h1 : (decide (0 + (S [45]).length ≤ (S (45 :: l)).length)) = true := by
    rw [S_len, S_len]
    simp
  rw [h1]
  have h2 : (((S (45 :: l)).cps.toList.drop 0).take (S [45]).length == (S [45]).cps.toList) = true := by
    rw [S_len]
    simp
  rw [h2]
  simp only [Bool.and_self, if_true]
  rw [S_len, S_len]
  simp
theorem rp_other {c : Nat} {l : List Nat} (h : c ≠ 45) : Txt.removeprefix (S (c :: l)) (S [45]) = S (c :: l) := by
  rw [StrLaws.removeprefix_eq, StrLaws.subAt_eq]
  have h2 : (((S (c :: l)).cps.toList.drop 0).take (S [45]).length == (S [45]).cps.toList) = false := by
    rw [S_len]
    simp [h]
  rw [h2, Bool.and_false]
  simp
theorem rp_int (i : Int) : Txt.removeprefix (S (intL i)) (S [45]) = S (numL i.natAbs) := by
  unfold intL
  split
  · exact rp_cons _
  · have hne := numL_ne i.natAbs
    have hno := no_minus i.natAbs
    cases hl : numL i.natAbs with
    | nil => exact absurd hl hne
    | cons c l =>
      rw [hl] at hno
      exact rp_other fun z => hno (by rw [z]; exact List.mem_cons_self ..)
theorem intL_len {i : Int} {k : Nat} (hk : 0 < k) (h : i.natAbs < 10 ^ k) : (intL i).length ≤ k + 1 := by
  have := numL_len hk h
  unfold intL
  split
  · rw [List.length_cons]; omega
  · omega
theorem int_int {i : Int} (h : (intL i).length ≤ 4300) : intText? (S (intL i)) = some i := by
  unfold intL at h ⊢
  split
  · rename_i hi
    have e := intText_neg (x := S (45 :: numL i.natAbs)) (cs := numL i.natAbs) rfl (numL_digits _) (numL_ne _) (by rw [S_len]; rw [if_pos hi] at h; exact h)
    rw [e, numL_val]
    congr 1
    omega
  · rename_i hi
    have e := intText_digits (x := S (numL i.natAbs)) (numL_digits _) (numL_ne _) (by rw [S_len]; rw [if_neg hi] at h; exact h)
    rw [e]
    show some ((digitsVal (numL i.natAbs) : Nat) : Int) = some i
    rw [numL_val]
    congr 1
    omega
/-- the text of a fraction -/
def txL (r : Rat) : List Nat := if r.den = 1 then intL r.num else intL r.num ++ (47 :: numL r.den)
theorem numL_head : ∀ n : Nat, 0 < n → ∃ c l, numL n = c :: l ∧ c ≠ 48 := by
  intro n
  induction n using Nat.strongRecOn with
  | _ n ih =>
    intro hn
    by_cases h : n < 10
    · rw [numL_lt h]
      exact ⟨48 + n, [], rfl, by omega⟩
    · rw [numL_step (by omega)]
      obtain ⟨c, l, e, hc⟩ := ih (n / 10) (by omega) (by omega)
      exact ⟨c, l ++ [48 + n % 10], by rw [e]; rfl, hc⟩
theorem numL_zero : numL 0 = [48] := numL_lt (by decide)
theorem part_one (i : Int) : Txt.partition (S (intL i)) (S [47]) = (S (intL i), S [], S []) := partition_none (by simp) (par_head_none (no_stroke_int i))
theorem part_two (i : Int) (l : List Nat) : Txt.partition (S (intL i ++ (47 :: l))) (S [47]) = (S (intL i), S [47], S l) := partition_some (by simp) (par_head (sep := []) l (no_stroke_int i))
theorem numL_pow {n k : Nat} (h : n < 2 ^ k) (hk : 0 < k) : (numL n).length ≤ k := numL_len hk (Nat.lt_of_lt_of_le h (Nat.pow_le_pow_left (by decide) k))
theorem intL_pow {i : Int} {k : Nat} (h : i.natAbs < 2 ^ k) (hk : 0 < k) : (intL i).length ≤ k + 1 := intL_len hk (Nat.lt_of_lt_of_le h (Nat.pow_le_pow_left (by decide) k))
theorem txL_len {r : Rat} {k : Nat} (h : KM.Sz k r) (hk : 0 < k) : (txL r).length ≤ 2 * k + 2 := by
  have h1 := intL_pow h.1 hk
  have h2 := numL_pow h.2 hk
  unfold txL
  split
  · omega
  · rw [List.length_append, List.length_cons]; omega
end TX
set_option Elab.async false
set_option linter.all false
set_option maxRecDepth 100000
set_option maxHeartbeats 4000000
/-! data: texts, pairs -/
namespace DQ
open PySem PySem.Spec PyProof.Rows L2
def pD (q : Int × Int) : PyData := .tuple [.int q.1, .int q.2]
theorem all_strs : ∀ xs : List Str, (∀ x ∈ xs, PyData.strOk x = true) → PyData.canLayAll0 (xs.map PyData.str) = true ∧ PyData.depthAll (xs.map PyData.str) = 0
  | [], _ => ⟨rfl, rfl⟩
  | x :: r, h => by
    obtain ⟨h1, h2⟩ := all_strs r fun y hy => h y (List.mem_cons_of_mem _ hy)
    have h3 := h x List.mem_cons_self
    exact ⟨by simp [PyData.canLayAll0, PyData.canLay0, h1, h3], by simp [PyData.depthAll, PyData.depth, h2]⟩
theorem sh_strs {xs : List Str} (h : ∀ x ∈ xs, PyData.strOk x = true) : SeqAt.shaped (.list (xs.map PyData.str)) = true := by
  obtain ⟨h1, h2⟩ := all_strs xs h
  simp [SeqAt.shaped, PyData.canLay0, PyData.depth, h1, h2]
theorem all_pairs : ∀ qs : List (Int × Int), PyData.canLayAll0 (qs.map pD) = true ∧ PyData.depthAll (qs.map pD) ≤ 2
  | [] => ⟨rfl, by decide⟩
  | _ :: r => by
    obtain ⟨h1, h2⟩ := all_pairs r
    refine ⟨by simp [PyData.canLayAll0, PyData.canLay0, pD, h1], ?_⟩
    show max (PyData.depth (pD _)) (PyData.depthAll (r.map pD)) ≤ 2
    have h3 : ∀ q, PyData.depth (pD q) ≤ 2 := fun q => by show 1 ≤ 2; decide
    exact Nat.max_le.mpr ⟨h3 _, h2⟩
theorem sh_pair (q : Int × Int) : SeqAt.shaped (pD q) = true := rfl
theorem sh_pairs (qs : List (Int × Int)) : SeqAt.shaped (.list (qs.map pD)) = true := by
  obtain ⟨h1, h2⟩ := all_pairs qs
  have h3 : PyData.depthAll (qs.map pD) + 1 ≤ 64 := by omega
  simp [SeqAt.shaped, PyData.canLay0, PyData.depth, h1]
  omega
theorem eq_strs (xs : List Str) : PyData.eqv (.list (xs.map PyData.str)) (.list (xs.map PyData.str)) = true := by
  refine PySem.W.eqv_refl_alike _ ?_
  induction xs with
  | nil => rfl
  | cons x xs ih => simpa [PySem.W.alike, PySem.W.alikeAll] using ih
theorem eq_pair (q : Int × Int) : PyData.eqv (pD q) (pD q) = true := PySem.W.eqv_refl_alike _ rfl
theorem eq_pairs (qs : List (Int × Int)) : PyData.eqv (.list (qs.map pD)) (.list (qs.map pD)) = true := by
  refine PySem.W.eqv_refl_alike _ ?_
  induction qs with
  | nil => rfl
  | cons x xs ih => simpa [PySem.W.alike, PySem.W.alikeAll, pD] using ih
theorem dp_strs {K : PySem.W.Frag} {H : Hp} : ∀ xs : List Str, DpAll K H (xs.map V.str) (xs.map PyData.str)
  | [] => .nil
  | x :: xs => .cons (.str x) (dp_strs xs)
theorem dp_pair {K : PySem.W.Frag} {H : Hp} {t : Addr} {q : Int × Int} (h : H t = some (.tup [.int q.1, .int q.2])) : Dp K H (.ref t) (pD q) := .tup (SqT.of h) (.cons (.int _) (.cons (.int _) .nil))
theorem dp_pairs {K : PySem.W.Frag} {H : Hp} : ∀ L : List (Addr × (Int × Int)), (∀ p ∈ L, H p.1 = some (.tup [.int p.2.1, .int p.2.2])) → DpAll K H (L.map fun p => V.ref p.1) ((L.map (·.2)).map pD)
  | [], _ => .nil
  | p :: L, h => .cons (dp_pair (h p List.mem_cons_self)) (dp_pairs L fun q hq => h q (List.mem_cons_of_mem _ hq))
/-- a dict by names -/
theorem val_map (f : Str → V) {y : Str} : ∀ {l : List Str}, y ∈ l → valV (l.map fun x => ((Sum.inr x : Key), f x)) (Sum.inr y) = some (f y)
  | x :: l, h => by
    rw [List.map_cons]
    by_cases e : x = y
    · rw [valV_pos (by rw [e])]
      rw [e]
    · rw [valV_neg (fun z => e (Sum.inr.inj z))]
      exact val_map f ((List.mem_cons.mp h).resolve_left fun z => e z.symm)
theorem val_none (f : Str → V) {y : Str} : ∀ {l : List Str}, y ∉ l → valV (l.map fun x => ((Sum.inr x : Key), f x)) (Sum.inr y) = none
  | [], _ => rfl
  | x :: l, h => by
    rw [List.map_cons, valV_neg (fun z => h (by rw [Sum.inr.inj z]; exact List.mem_cons_self))]
    exact val_none f fun z => h (List.mem_cons_of_mem _ z)
theorem put_new (f : Str → V) {y : Str} {l : List Str} (h : y ∉ l) : putK (l.map fun x => ((Sum.inr x : Key), f x)) (Sum.inr y) (f y) = (l ++ [y]).map fun x => ((Sum.inr x : Key), f x) := by
  rw [putK_new _ (val_none f h), List.map_append]
  rfl
theorem put_old (f : Str → V) {y : Str} {v : V} {l : List Str} (h : y ∈ l) : putK (l.map fun x => ((Sum.inr x : Key), f x)) (Sum.inr y) v = l.map fun x => ((Sum.inr x : Key), if x = y then v else f x) := by
  have a : ((l.map fun x => ((Sum.inr x : Key), f x)).any fun kv => decide (kv.1 = Sum.inr y)) = true := by
    rw [List.any_eq_true]
    exact ⟨(Sum.inr y, f y), List.mem_map.mpr ⟨y, h, rfl⟩, by simp⟩
  unfold putK
  rw [if_pos a, List.map_map]
  refine List.map_congr_left fun x _ => ?_
  show (if (Sum.inr x : Key) = Sum.inr y then ((Sum.inr x : Key), v) else (Sum.inr x, f x)) = _
  by_cases e : x = y
  · rw [if_pos (by rw [e]), if_pos e]
  · rw [if_neg (fun z => e (Sum.inr.inj z)), if_neg e]
theorem merge_map (f : Str → V) : ∀ {l m : List Str}, (m ++ l).Nodup → mergeK (m.map fun x => ((Sum.inr x : Key), f x)) (l.map fun x => ((Sum.inr x : Key), f x)) = (m ++ l).map fun x => ((Sum.inr x : Key), f x)
  | [], m, _ => by rw [List.append_nil]; rfl
  | y :: l, m, h => by
    have h' : (m ++ [y] ++ l).Nodup := by rw [List.append_assoc]; exact h
    have ny : y ∉ m := fun z => by
      have := (List.nodup_append.mp h).2.2 y z y List.mem_cons_self
      exact this rfl
    show mergeK (putK _ (Sum.inr y) (f y)) (l.map fun x => ((Sum.inr x : Key), f x)) = _
    rw [put_new f ny, merge_map f h', List.append_assoc]
    rfl
end DQ
set_option Elab.async false
set_option linter.all false
set_option maxRecDepth 100000
set_option maxHeartbeats 4000000
/-! ts.index(x) of a tuple of texts -/
namespace TI
open PySem PySem.Spec PyProof.Rows L2
def rIxOf (K : PySem.W.Frag) : V → List V → Hp → VK → Prop := fun x xs H Q => ∃ (a : Addr) (ys : List Str) (k : Str), x = .ref a ∧ xs = [.str k] ∧ SqT K H a (ys.map V.str) ∧ k ∈ ys ∧ Q (.int (ys.idxOf k : Nat)) H
theorem mt_tindex {X : Cx} : MtR X "tuple.index" (rIxOf X.K) := by
  intro pins s σ H x xs v us Q I rx rxs h
  obtain ⟨a, ys, k, rfl, rfl, hs, hk, q⟩ := h
  cases rx
  obtain ⟨u, rfl, ru⟩ := rxs.one
  obtain ⟨t, rfl⟩ := ru
  obtain ⟨its, rv, it, hlen⟩ := I.tuple hs
  exact PySem.SeqAt.tuple_index_strs (vs := its) it (Vals.strs rv) hk ⟨.int _, H, I.tok _, ⟨_, rfl⟩, q⟩
/-- len of a list or a tuple, where the reading must be named -/
def rLen (K : PySem.W.Frag) : List V → Hp → VK → Prop := fun xs H Q => ∃ (p : Addr) (ys : List V), xs = [V.ref p] ∧ (SqL K H p ys ∨ SqT K H p ys) ∧ Q (V.int (ys.length : Nat)) H
theorem call_lenK {X : Cx} : CallR X (.builtin "len") (rLen X.K) := call_len_seq
end TI
set_option Elab.async false
set_option linter.all false
set_option maxRecDepth 100000
set_option maxHeartbeats 4000000
namespace K58
open PySem PySem.Spec PyProof.Rows L2
open C8 (Cal Mak Met pe_c pe_mk pe_mt pe_mt0)
open KM (pr Sz)
section
variable {P : Program} {w : World} {K : PySem.W.Frag} {mg : Str → Option Value} {base : Heap} {f C CT : Addr} {fd : FuncData}
theorem log_1920 {i : Int} {n : Nat} (h : i.natAbs < 2 ^ n) (h0 : 0 < n) (h9 : n ≤ 1920) : i.natAbs.log2 < 1920 := Nat.lt_of_lt_of_le (PySem.Flt.log2_lt_of h0 h) h9
def spStr (C : Addr) (g : Rat → Str) : Sp := fun vs H Q _ => ∃ (p : Addr) (r : Rat) (n : Nat), vs = [.ref p] ∧ Sh C H p (pr r) ∧ Sz n r ∧ 0 < n ∧ n ≤ 1900 ∧ Q (.str (g r)) H
theorem S_len_le {l : List Nat} {k : Nat} (h : l.length ≤ k) (hk : k ≤ 100000) : (SX.S l).length ≤ sizeLine := by
  rw [SX.S_len]
  exact Nat.le_trans h (Nat.le_trans hk (by decide))
theorem ok_str (F : Dn K d_Share_str f fd) (T : Cl K mg C) : FnOk P w K mg base CX0 1 f fd ["self"] (spStr C fun r => SX.S (TX.txL r)) := by
  refine F.ok sc_Share_str (fun vs H Q E h => ?_) (fun cdv A outer s H vs Q E hr h => ?_)
  · obtain ⟨p, r, n, rfl, _⟩ := h
    rfl
  · obtain ⟨p, r, n, rfl, ⟨dp, hp⟩, sr, n0, n9, hQ⟩ := h
    refine ⟨_, PSs.nox (pss_cons (ps_if (pt_cmpR op_eq (pe_fld (pv 0) rfl) pe_int (nomark _)) (pss_one (ps_ret (pe_joined1 (pe_fmt (pe_fld (pv 0) rfl))))) pss_nil)
      (pss_one (ps_ret (pe_joined (.cons (pe_fmt (pe_fld (pv 0) rfl)) (.cons pe_str (.cons (pe_fmt (pe_fld (pv 0) rfl)) .nil))))))), ?_⟩
    have l1 : (pr r).1.natAbs.log2 < 1920 := log_1920 (bd_of sr).1 n0 (by omega)
    have l2 : (pr r).2.natAbs.log2 < 1920 := log_1920 (bd_of sr).2.2 n0 (by omega)
    refine ⟨_, rfl, p, C, dp, _, _, rfl, hp, T.cl, T.nb, shF_bot _, rfl, _, rfl, ?_⟩
    refine ite2 (fun h1 => ?_) (fun h1 => ?_)
    · have e1 : r.den = 1 := by
        have : (pr r).2 = 1 := V.int.inj (of_decide_eq_true h1)
        have : (r.den : Int) = 1 := this
        omega
      refine ⟨_, rfl, p, C, dp, _, _, rfl, hp, T.cl, T.nt, shF_top _, .inr ⟨_, rfl, l1, ?_⟩⟩
      have e2 : (Str.ofString (toString (pr r).1)) = SX.S (TX.txL r) := by
        rw [TX.tl_int]
        unfold TX.txL
        rw [if_pos e1]
        rfl
      show Q (.str (Str.ofString (toString (pr r).1))) H
      rw [e2]
      exact hQ
    · have e1 : ¬ r.den = 1 := fun z => h1 (by
        have : (pr r).2 = 1 := by show (r.den : Int) = 1; omega
        rw [this]
        rfl)
      have k1 : (TX.intL r.num).length ≤ n + 1 := TX.intL_pow sr.1 n0
      have k2 := TX.numL_pow sr.2 n0
      refine ⟨_, rfl, p, C, dp, _, _, rfl, hp, T.cl, T.nt, shF_top _, .inr ⟨_, rfl, l1, _, rfl, ?_, _, rfl, ?_, _, rfl, p, C, dp, _, _, rfl, hp, T.cl, T.nb, shF_bot _, .inr ⟨_, rfl, l2, _, rfl, ?_, ?_⟩⟩⟩
      · show (Str.empty ++ Str.ofString (toString (pr r).1)).length ≤ sizeLine
        rw [show Str.empty ++ Str.ofString (toString (pr r).1) = SX.S (TX.intL r.num) from by rw [TX.tl_int]; exact SX.S_cat [] _]
        exact S_len_le k1 (by omega)
      · show (Str.empty ++ Str.ofString (toString (pr r).1) ++ Str.ofString "/").length ≤ sizeLine
        rw [show Str.empty ++ Str.ofString (toString (pr r).1) = SX.S (TX.intL r.num) from by rw [TX.tl_int]; exact SX.S_cat [] _, TX.stroke_S, SX.S_cat]
        exact S_len_le (k := n + 2) (by rw [List.length_append]; simp; omega) (by omega)
      · show (Str.empty ++ Str.ofString (toString (pr r).1) ++ Str.ofString "/" ++ Str.ofString (toString (pr r).2)).length ≤ sizeLine
        rw [show Str.empty ++ Str.ofString (toString (pr r).1) = SX.S (TX.intL r.num) from by rw [TX.tl_int]; exact SX.S_cat [] _, TX.stroke_S, SX.S_cat,
          show Str.ofString (toString (pr r).2) = SX.S (TL.numL r.den) from SX.num_S r.den, SX.S_cat]
        exact S_len_le (k := n + 2 + n) (by rw [List.length_append, List.length_append]; simp; omega) (by omega)
      · show Q (.str (Str.empty ++ Str.ofString (toString (pr r).1) ++ Str.ofString "/" ++ Str.ofString (toString (pr r).2))) H
        rw [show Str.empty ++ Str.ofString (toString (pr r).1) = SX.S (TX.intL r.num) from by rw [TX.tl_int]; exact SX.S_cat [] _, TX.stroke_S, SX.S_cat,
          show Str.ofString (toString (pr r).2) = SX.S (TL.numL r.den) from SX.num_S r.den, SX.S_cat,
          show TX.intL r.num ++ [47] ++ TL.numL r.den = TX.txL r from by unfold TX.txL; rw [if_neg e1]; simp]
        exact hQ
/-- the text that repr tells -/
def rpS (r : Rat) : Str := Str.empty ++ Str.ofString "Share(" ++ Str.ofString (toString (pr r).1) ++ Str.ofString ", " ++ Str.ofString (toString (pr r).2) ++ Str.ofString ")"
theorem ok_repr (F : Dn K d_Share_repr f fd) (T : Cl K mg C) : FnOk P w K mg base CX0 1 f fd ["self"] (spStr C rpS) := by
  refine F.ok sc_Share_repr (fun vs H Q E h => ?_) (fun cdv A outer s H vs Q E hr h => ?_)
  · obtain ⟨p, r, n, rfl, _⟩ := h
    rfl
  · obtain ⟨p, r, n, rfl, ⟨dp, hp⟩, sr, n0, n9, hQ⟩ := h
    refine ⟨_, PSs.nox (pss_one (ps_ret (pe_joined (.cons pe_str (.cons (pe_fmt (pe_fld (pv 0) rfl)) (.cons pe_str (.cons (pe_fmt (pe_fld (pv 0) rfl)) (.cons pe_str .nil)))))))), ?_⟩
    have l1 : (pr r).1.natAbs.log2 < 1920 := log_1920 (bd_of sr).1 n0 (by omega)
    have l2 : (pr r).2.natAbs.log2 < 1920 := log_1920 (bd_of sr).2.2 n0 (by omega)
    have k1 : (TX.intL r.num).length ≤ n + 1 := TX.intL_pow sr.1 n0
    have k2 := TX.numL_pow sr.2 n0
    have t1 : Str.ofString (toString (pr r).1) = SX.S (TX.intL r.num) := TX.tl_int r.num
    have t2 : Str.ofString (toString (pr r).2) = SX.S (TL.numL r.den) := SX.num_S r.den
    have c1 : Str.empty ++ Str.ofString "Share(" = SX.S [83, 104, 97, 114, 101, 40] := by decide +kernel
    have c2 : Str.ofString ", " = SX.S [44, 32] := by decide +kernel
    have c3 : Str.ofString ")" = SX.S [41] := by decide +kernel
    refine ⟨_, rfl, ?_, _, rfl, p, C, dp, _, _, rfl, hp, T.cl, T.nt, shF_top _, .inr ⟨_, rfl, l1, _, rfl, ?_, _, rfl, ?_, _, rfl, p, C, dp, _, _, rfl, hp, T.cl, T.nb, shF_bot _, .inr ⟨_, rfl, l2, _, rfl, ?_, _, rfl, ?_, hQ⟩⟩⟩
    · show (Str.empty ++ Str.ofString "Share(").length ≤ sizeLine
      rw [c1]
      exact S_len_le (k := 6) (by decide) (by decide)
    · show (Str.empty ++ Str.ofString "Share(" ++ Str.ofString (toString (pr r).1)).length ≤ sizeLine
      rw [c1, t1, SX.S_cat]
      exact S_len_le (k := n + 7) (by rw [List.length_append]; simp; omega) (by omega)
    · show (Str.empty ++ Str.ofString "Share(" ++ Str.ofString (toString (pr r).1) ++ Str.ofString ", ").length ≤ sizeLine
      rw [c1, t1, c2, SX.S_cat, SX.S_cat]
      exact S_len_le (k := n + 9) (by rw [List.length_append, List.length_append]; simp; omega) (by omega)
    · show (Str.empty ++ Str.ofString "Share(" ++ Str.ofString (toString (pr r).1) ++ Str.ofString ", " ++ Str.ofString (toString (pr r).2)).length ≤ sizeLine
      rw [c1, t1, c2, t2, SX.S_cat, SX.S_cat, SX.S_cat]
      exact S_len_le (k := n + 9 + n) (by rw [List.length_append, List.length_append, List.length_append]; simp; omega) (by omega)
    · show (Str.empty ++ Str.ofString "Share(" ++ Str.ofString (toString (pr r).1) ++ Str.ofString ", " ++ Str.ofString (toString (pr r).2) ++ Str.ofString ")").length ≤ sizeLine
      rw [c1, t1, c2, t2, c3, SX.S_cat, SX.S_cat, SX.S_cat, SX.S_cat]
      exact S_len_le (k := n + 10 + n) (by rw [List.length_append, List.length_append, List.length_append, List.length_append]; simp; omega) (by omega)
end
end K58
set_option Elab.async false
set_option linter.all false
set_option maxRecDepth 100000
set_option maxHeartbeats 4000000
/-! GL: promises of defs that are asked only where no repr is under way (A.guards = some []); what such a def may do more: repr of lists and tuples. -/
namespace GL
open PySem PySem.Spec PyProof.Rows L2
/-- a def's promise, where no repr is under way -/
structure FnG (P : Program) (w : World) (K : PySem.W.Frag) (mg : Str → Option Value) (base : Heap) (k : Nat) (f : Addr) (fd : FuncData) (ps : List Str) (sp : Sp) : Prop where
  len : ∀ vs H Q E, sp vs H Q E → vs.length = ps.length
  run : ∀ (A : Around) (outer : List Env) (s : Shared) (H : Hp) (args : Args) (us : List Value) (vs : List V) (Q : VK) (E : XK), A.guards = some [] → Room k A → Env0 P w K mg base A outer s H → BindsTo s fd args (ps.zip us) → Vals vs us → sp vs H Q E →
    codeAny (model P w) A (.call (.ref f) args) (CR CX0 outer P w H s Q E) s
section
variable {P : Program} {w : World} {K : PySem.W.Frag} {mg : Str → Option Value} {base : Heap} {k : Nat} {f : Addr} {fd : FuncData} {ps : List Str} {sp : Sp}
theorem FnG.of (F : FnOk P w K mg base CX0 k f fd ps sp) : FnG P w K mg base k f fd ps sp := ⟨F.len, fun A outer s H args us vs Q E _ => F.run A outer s H args us vs Q E⟩
/-- by its body -/
theorem okG {x qual : Str} {params : Arguments} {body : List Stmt} {scope : Scope} {dvs : List V} {kws : List (Str × V)} {N : List Str} (F : FunD K x qual params body scope dvs kws f fd) (S : FnScope N ps scope) (len : ∀ vs H Q E, sp vs H Q E → vs.length = ps.length)
    (hbody : ∀ (cdv : Value) (A : Around) (outer : List Env) (s : Shared) (H : Hp) (vs : List V) (Q : VK) (E : XK), A.guards = some [] → Room k (A.deeper (envOfC qual scope s.heap.objs.size f cdv)) → sp vs H Q E →
      ∃ t, PSs (cxOf CX0 P w K mg base N qual scope f cdv A outer s H E) body t ∧ t { nx := fun _ H' => Q .non H', rt := Q } (start N vs) H) : FnG P w K mg base (k + 1) f fd ps sp := by
  refine ⟨len, fun A outer s H args us vs Q E hg hr e0 hb r hsp => ?_⟩
  obtain ⟨oc, od, dV, kV, doc, pm, an, cdv, ct, osl, hfd, lk, hcd, _, _⟩ := F.ex
  subst hfd
  obtain ⟨t, ht, hq⟩ := hbody cdv A outer s H vs Q E hg (hr.deeper _) hsp
  have keep : ∀ b o, base.get? b = some o → s.heap.get? b = some o := fun b o e => (e0.bs b o e).1
  have KX : K.In s.heap := e0.mod.kin.keeps keep
  refine codeAny_call_function hr.depth (KX _ _ lk) rfl S.co S.gen rfl (PySem.W.codeRec_of KX hcd) (hb _ _ _ _ (wpAny_newFunctionEnv_cells S.kind (fun y hy => ?_) fun env he s1 x => ?_))
  · exact (S.par y.1 (List.of_mem_zip hy).1).imp id fun q => ⟨q, PySem.W.cellsFrom_some _ _ _ (.inl q)⟩
  · subst he
    refine ⟨(e0.mod.nolimit.keeps keep).keeps x.toInCall.keep, codeAny_func (wpAny_mono (ht.run [] s1 (start N vs) H _ (inv_start S hr.hd e0 (len _ _ _ _ hsp) r x) hq) (fun fl s' hs => ?_) fun e s' hs => hs)⟩
    match fl, hs with
    | .ret u, ⟨v, σ', H', J, rv, q⟩ => exact ⟨v, H', J.os, J.bare, J.base, J.hok, rv, q⟩
    | .next, ⟨σ', H', J, q⟩ => exact ⟨.non, H', J.os, J.bare, J.base, J.hok, rfl, q⟩
    | .brk, ⟨_, _, _, q⟩ => exact q.elim
    | .cont, ⟨_, _, _, q⟩ => exact q.elim
end
/-- the package of a def of this kind -/
structure CalG (P : Program) (w : World) (K : PySem.W.Frag) (mg : Str → Option Value) (base : Heap) (k : Nat) (x : Str) (sp : Sp) (dvs : List V) : Prop where
  ex : ∃ (f : Addr) (fd : FuncData) (ps : List Str) (ds : List Value), FnG P w K mg base k f fd ps sp ∧ mg x = some (.ref f) ∧ PySem.W.keepIn K (.ref f) = true ∧ Binds K fd ps ds ∧ Vals dvs ds
section
variable {X : Cx} {k j : Nat} {x : Str} {sp : Sp} {dvs : List V} {e : Expr} {es : List Expr} {t : TA} {p pos : Pos}
theorem pe_cG (c : CalG X.prog X.w X.K X.mg X.base k x sp dvs) (hgd : X.A.guards = some []) (hr : Room j X.A) (hk : k ≤ j) (hg : Gl X x) (ha : PA X (e :: es) t)
    (hdb : (x == ("__debug__" : Str)) = false := by decide) (he : starEach (e :: es) X.env = (false, eval e X.env) :: starEach es X.env := by rfl) (hpl : (backTo pos (starEach es X.env)).any (·.1) = false := by rfl) :
    PE X (.Call (.Name x p) (e :: es) [] pos) (tCall sp dvs E0 t) := by
  obtain ⟨f, fd, ps, ds, F, hm, kp, b, d⟩ := c.ex
  refine ⟨fun pins s σ H Q I h => wpAny_Call_Name_kw (ld_glob I hg hm (PySem.W.callWith_K (h₀ := X.base) I.ok.mod.kin kp (thn (ha.run pos pins s σ H _ I h) fun us s1 ⟨vs, H1, I1, r, q⟩ => ⟨I1.kIn, ?_⟩) he hpl) hdb)⟩
  have r2 := r.append d
  refine wpAny_call (codeAny_mono (F.run X.A X.stack s1 H1 ⟨us, []⟩ (us ++ ds) (vs ++ dvs) Q E0 hgd (hr.mono hk) I1.env0 (b s1 us I1.kIn (r2.length.symm.trans (F.len _ _ _ _ q))) r2 q) fun r s' hq => ?_)
  match r, hq with
  | .error _, hq => exact hq.elim
  | .ok (.ret u), hq => exact I1.after hq
  | .ok .next, hq => exact hq.elim
  | .ok .brk, hq => exact hq.elim
  | .ok .cont, hq => exact hq.elim
/-- repr of what is flat, of lists and tuples -/
def rRepr (K : PySem.W.Frag) : List V → Hp → VK → Prop := fun xs H Q => ∃ (y : V) (d : PyData), xs = [y] ∧ Dp K H y d ∧ d.showable = true ∧ d.hasDict = false ∧ d.depth ≤ 60 ∧ d.shown.length ≤ sizeLine ∧ Q (.str d.shown) H
theorem call_reprD (hgd : X.A.guards = some []) (hu : X.A.units + 64 < cLine) : CallR X (.builtin "repr") (rRepr X.K) := by
  intro pins s σ H xs us Q I r h
  obtain ⟨y, d, rfl, hd, hs, hn, hdp, hsz, q⟩ := h
  obtain ⟨u, rfl, ru⟩ := r.one
  obtain ⟨as, rd⟩ := Dp.reads I d y u hd ru
  have fin : ∀ h' tk t, (∀ b o, s.heap.get? b = some o → h'.get? b = some o) → EP X pins σ Q (.str d.shown t) { s with heap := h', toks := tk } := fun h' tk t hk => ⟨.str d.shown, H, I.kept hk, ⟨t, rfl⟩, q⟩
  cases hd with
  | non => cases ru; exact PySem.P.repr_of_none (fin s.heap _ _ fun _ _ e => e)
  | bl b => cases ru; exact PySem.P.repr_of_bool (fin s.heap _ _ fun _ _ e => e)
  | int i =>
    obtain ⟨t, rfl⟩ := ru
    exact PySem.P.repr_of_int (of_decide_eq_true hs) (fin s.heap _ _ fun _ _ e => e)
  | str z =>
    obtain ⟨t, rfl⟩ := ru
    exact PySem.P.repr_of_str (fin s.heap _ _ fun _ _ e => e) hsz
  | lst _ _ =>
    cases ru
    exact repr_of_reads' rd hs (fun z => absurd z (by rw [hn]; decide)) hgd (by omega) (fun _ _ e => e) (fun h' u tk hk => fin h' tk u hk) hsz
  | tup _ _ =>
    cases ru
    exact repr_of_reads' rd hs (fun z => absurd z (by rw [hn]; decide)) hgd (by omega) (fun _ _ e => e) (fun h' u tk hk => fin h' tk u hk) hsz
end
end GL
set_option Elab.async false
set_option linter.all false
set_option maxRecDepth 100000
set_option maxHeartbeats 4000000
/-! RPO: repr of lists, tuples and dicts that hold own instances, of any depth. -/
namespace RPO
open PySem PySem.Spec PyProof.Rows L2
open Builtin Builtin.List
/-- the guards stand on these alone -/
def Gd (g : List Code) (outs : List Addr) : Prop := ∀ id v rest kw, Code.builtin id ⟨v :: rest, kw⟩ ∈ g → ∃ a ∈ outs, v = .ref a
theorem Gd.nil : Gd [] [] := fun _ _ _ _ h => nomatch h
theorem Gd.cons {g : List Code} {outs : List Addr} {id : String} {a : Addr} {rest : List Value} {kw : List (Str × Value)} (h : Gd g outs) : Gd (.builtin id ⟨.ref a :: rest, kw⟩ :: g) (a :: outs) := by
  intro id' v rest' kw' hm
  rcases List.mem_cons.mp hm with e | hm
  · cases e
    exact ⟨a, List.mem_cons_self, rfl⟩
  · obtain ⟨b, hb, e⟩ := h _ _ _ _ hm
    exact ⟨b, List.mem_cons_of_mem _ hb, e⟩
theorem Gd.clear {g : List Code} {outs : List Addr} {a : Addr} (h : Gd g outs) (n : a ∉ outs) : Clear g a := fun id v rest kw hm e => by
  obtain ⟨b, hb, e2⟩ := h id v rest kw hm
  rw [e] at e2
  cases e2
  exact n hb
/-- all but these are as they were -/
def Ex (outs : List Addr) (H H' : Hp) : Prop := ∀ a o, H a = some o → a ∉ outs → H' a = some o
theorem Ex.refl (outs : List Addr) (H : Hp) : Ex outs H H := fun _ _ h _ => h
theorem Ex.ext {outs : List Addr} {H H1 H2 : Hp} (x : Ex outs H H1) (e : Ext H1 H2) : Ex outs H H2 := fun a o h n => e a o (x a o h n)
theorem Ex.more {outs : List Addr} {H H1 : Hp} {a : Addr} (x : Ex outs H H1) : Ex (a :: outs) H H1 := fun b o h n => x b o h fun z => n (List.mem_cons_of_mem _ z)
section
variable {X : Cx}
/-- what a thing shows as, within containers at outs -/
def RpU (X : Cx) (n : Nat) (outs : List Addr) (H0 : Hp) (v : V) (t : Str) : Prop := ∀ (A : Around) (g : List Code) (pins : List (Addr × Obj)) (s : Shared) (σ : L2.St) (H : Hp) (u : Value) (bs : Nat),
  Ex outs H0 H → Sub X n A → A.guards = some g → Gd g outs → Inv X pins σ H s → RelV v u → bs + t.length ≤ sizeLine →
  wpAny (model X.prog X.w) A (pyReprUnder bs u) (fun r s' => r = t ∧ ∃ H', Inv X pins σ H' s' ∧ Ext H H') X.xe s
theorem RpU.mono {n m : Nat} {outs : List Addr} {H0 : Hp} {v : V} {t : Str} (h : RpU X n outs H0 v t) (nm : n ≤ m) : RpU X m outs H0 v t := fun A g pins s σ H u bs x sb => h A g pins s σ H u bs x (sb.mono nm)
theorem RpU.non {n : Nat} {outs : List Addr} {H0 : Hp} : RpU X n outs H0 .non "None" := fun A g pins s σ H u bs x sb hg gd I r hb => by
  cases r
  exact ReprIs.none bs hb _ _ _ _ fun tk => ⟨rfl, H, I.tok tk, Ext.rfl'⟩
theorem RpU.bl {n : Nat} {outs : List Addr} {H0 : Hp} {b : Bool} : RpU X n outs H0 (.bl b) (if b then "True" else "False") := fun A g pins s σ H u bs x sb hg gd I r hb => by
  cases r
  exact ReprIs.bool b bs hb _ _ _ _ fun tk => ⟨rfl, H, I.tok tk, Ext.rfl'⟩
theorem RpU.int {n : Nat} {outs : List Addr} {H0 : Hp} {i : Int} (h : i.natAbs.log2 < 1920) : RpU X n outs H0 (.int i) (toString i) := fun A g pins s σ H u bs x sb hg gd I r hb => by
  obtain ⟨t, rfl⟩ := r
  exact ReprIs.int t h bs hb _ _ _ _ fun tk => ⟨rfl, H, I.tok tk, Ext.rfl'⟩
theorem RpU.str {n : Nat} {outs : List Addr} {H0 : Hp} {z : Str} : RpU X n outs H0 (.str z) (reprText z) := fun A g pins s σ H u bs x sb hg gd I r hb => by
  obtain ⟨t, rfl⟩ := r
  exact ReprIs.str z t (by omega) bs hb _ _ _ _ fun tk => ⟨rfl, H, I.tok tk, Ext.rfl'⟩
/-- an own instance, by its own __repr__ -/
theorem RpU.own {k n : Nat} {outs : List Addr} {H0 : Hp} {a C dx : Addr} {fs : List (Str × V)} {sp : Sp} {t : Str} (S : OW.Spc X.prog X.w X.K X.mg X.base k C "__repr__" sp) (ha : H0 a = some (.ins C dx fs)) (na : a ∉ outs)
    (hsp : ∀ H, H a = some (.ins C dx fs) → sp [.ref a] H (fun v H' => v = .str t ∧ Ext H H') E0) (kn : k ≤ n) : RpU X n outs H0 (.ref a) t := fun A g pins s σ H u bs x sb hg gd I r hb => by
  obtain ⟨f, fd, ps, h1, h2, F, hbi⟩ := S.ex
  cases (show u = Value.ref a from r)
  have ea := x a _ ha na
  obtain ⟨mA, O, _⟩ := ins_get I.hok ea
  obtain ⟨od, J, _⟩ := O.look
  have KI := I.kIn
  have e0 : Env0 X.prog X.w X.K X.mg X.base A X.stack s H := by
    have z := I.env0
    exact ⟨sb.fr.trans z.frames, z.mod, z.bs, z.bsz, z.funs, z.frf, z.hok, z.bare⟩
  refine wpAny_pyReprUnder_ref (by omega) ?_
  unfold pyReprObjUnder pyReprObjBy
  refine wpAny_bind (wpAny_cRoomFor sb.room.units0 ?_)
  refine wpAny_bind (wpAny_bind (J.type.here ((PySem.W.looks_findIn KI h1).here ?_)))
  show wpAny _ _ (if (some (Value.ref f)).isNone = true then _ else _) _ _ _
  rw [if_neg (by simp)]
  have called : wpAny (model X.prog X.w) A (call (.ref f) [.ref a]) (fun v s' => ∃ tk, v = .str t tk ∧ ∃ H', Inv X pins σ H' s' ∧ Ext H H') X.xe s := by
    refine wpAny_mono (OW.run_at (E' := X.xe) (vs := [.ref a]) F hbi (sb.room.mono kn) I e0 (.cons rfl .nil) (hsp H ea)) (fun w s' z => ?_) fun _ _ x => x
    obtain ⟨z', H', I', rz, z, e⟩ := z
    rw [z] at rz
    obtain ⟨tk, rfl⟩ := rz
    exact ⟨tk, rfl, H', I', e⟩
  refine wpAny_bind (m := callSpecialIfBoundBy? _ (.ref a) (Str.ofString "__repr__")) ?_
  have fin : wpAny (model X.prog X.w) A (callSpecialIfBoundBy? (fun g first => match reprUnder? g, first with | some twin, [self] => call twin [self, rawInt bs] | _, _ => call g (first ++ [])) (.ref a) (Str.ofString "__repr__"))
      (fun r s' => ∃ tk, r = some (.str t tk) ∧ ∃ H', Inv X pins σ H' s' ∧ Ext H H') X.xe s := by
    simp only [callSpecialIfBoundBy?, bindSpecialIfBound?]
    refine wpAny_holding (wpAny_bind (wpAny_bind (wpAny_bind (J.type.here ((PySem.W.looks_findIn KI h1).here ?_)))))
    refine wpAny_bind (wpAny_askSetting (wpAny_ite ?_))
    have ends : wpAny (model X.prog X.w) A (call (.ref f) ([.ref a] ++ []) >>= fun v => pure (some v)) (fun r s' => ∃ tk, r = some (.str t tk) ∧ ∃ H', Inv X pins σ H' s' ∧ Ext H H') X.xe s :=
      wpAny_bind (wpAny_mono called (fun v s' h' => wpAny_pure (by obtain ⟨tk, rfl, h⟩ := h'; exact ⟨tk, rfl, h⟩)) fun _ _ h' => h')
    split
    · exact wpAny_bind ((PySem.W.bind_fn KI _ (beq_iff_eq.mp h2)).here (wpAny_pure (by exact ends)))
    · exact wpAny_tryCatch (wpAny_bind ((PySem.W.bind_fn KI _ (beq_iff_eq.mp h2)).here (wpAny_pure (by exact ends))))
  refine wpAny_mono fin (fun r s' h' => ?_) fun _ _ x => x
  obtain ⟨tk, rfl, h⟩ := h'
  exact wpAny_bind (wpAny_isInstance (T := "str") (b := true) rfl isSubtype_str_str (wpAny_pure ⟨_, _, rfl, rfl, h⟩))
end
end RPO
set_option Elab.async false
set_option linter.all false
set_option maxRecDepth 100000
set_option maxHeartbeats 4000000
/-! RPL: the containers of RPO: lists, tuples, dicts. -/
namespace RPO
open PySem PySem.Spec PyProof.Rows L2
open Builtin Builtin.List
theorem strs_of : ∀ {ts : List Str} {us : List Value}, Vals (ts.map V.str) us → ∃ done : List (Str × Tok), us = strValues done ∧ done.map (·.1) = ts
  | [], _, .nil => ⟨[], rfl, rfl⟩
  | t :: ts, _, .cons r h => by
    obtain ⟨tk, rfl⟩ := r
    obtain ⟨done, rfl, e⟩ := strs_of h
    exact ⟨(t, tk) :: done, rfl, by simp [e]⟩
theorem sub_loop {X : Cx} {n : Nat} {A : Around} {args : Args} (h : Sub X (n + 1) A) : Sub X n (A.under (.builtin "list.__repr__.loop" args)) := by
  have hd : (A.under (.builtin "list.__repr__.loop" args)).depth ≤ A.depth + 1 := by
    first | exact Nat.le_refl _ | simp [Around.under, Code.weight, Code.isCreation, Code.isGuard, Code.isCaller, Code.frames, Code.isFrame, guardIds]
  have hu := units_under_list_loop A args
  have hf : (A.under (.builtin "list.__repr__.loop" args)).frames = A.frames := by
    have e : (Code.builtin "list.__repr__.loop" args).envs = [] := by first | rfl | simp [Code.envs, Code.isFrame]
    have e2 : (A.under (.builtin "list.__repr__.loop" args)).frames = pushEnvs (Code.envs (.builtin "list.__repr__.loop" args)) A.frames := by first | rfl | simp [Around.under]
    rw [e2, e]
    cases A.frames <;> first | rfl | simp [pushEnvs]
  obtain ⟨⟨h1, h2, h3⟩, h4⟩ := h
  exact ⟨⟨h1, by omega, by rw [hu]; omega⟩, hf.trans h4⟩
section
variable {X : Cx} {n : Nat} {outs : List Addr} {H0 : Hp} {a : Addr} {xs : List V} {ts : List Str}
theorem list_loop {A : Around} {g : List Code} {P : Addr} {bs : Nat} {pins : List (Addr × Obj)} {σ : L2.St} {Hb : Hp} {R : Result → Shared → Prop} (sb : Sub X (n + 1) A) (hg : A.guards = some g) (gd : Gd g outs) (ha : Hb a = some (.lst xs)) (hP : Hb P = none) (xe : Ex outs H0 Hb) (hlen : ts.length = xs.length)
    (hT : ∀ (i : Nat) (x : V), xs[i]? = some x → ∃ t, ts[i]? = some t ∧ RpU X n (a :: outs) H0 x t) (hsz : bs + (listText ts).length ≤ sizeLine)
    (hE : ∀ e s', X.xe e s' → R (.error e) s')
    (fin : ∀ (s' : Shared) (H' : Hp) (u : Tok), Inv X pins σ H' s' → Ext Hb H' → R (.ok (.ret (.str (listText ts) u))) s') :
    ∀ (k i : Nat) (s : Shared) (H : Hp), xs.length - i = k → i ≤ xs.length → Inv X pins σ H s → Ext Hb H → H P = some (.lst ((ts.take i).map V.str)) →
      codeAny (model X.prog X.w) A (.builtin "list.__repr__.loop" ⟨[.ref a, rawInt i, .ref P, rawInt ((bs + piled (ts.take i) : Nat) : Int)], []⟩) R s := by
  have hX : (listText ts).length = (textFrom 0 "[" ts).length + 1 := by
    show (textFrom 0 "[" ts ++ "]").length = _
    rw [strLen_append]; rfl
  have hL := textFrom_len ts 0 "["
  have each : ∀ t ∈ ts, t.length ≤ sizeLine := fun t ht => by
    have := hL.2.1 t ht
    omega
  have many : ts.length ≤ sizeLine := by
    have h1 := hL.1
    rw [if_neg (Nat.lt_irrefl 0)] at h1
    omega
  have hp3 := piled_le_listText ts
  have uu : A.in1.units < cLine := by have := sb.room.un; show A.units + 1 < cLine; omega
  intro k
  induction k with
  | zero =>
    intro i s H hk hi I eb hPi
    have hin : i = ts.length := by omega
    obtain ⟨_, its, m, rv, _, e⟩ := I.lstM (eb _ _ ha)
    obtain ⟨_, ups, c, rp, _, ep⟩ := I.lstM hPi
    have nits : its[i]? = none := by
      have := rv.length
      exact List.getElem?_eq_none (by omega)
    refine codeAny_builtin F.entry_list_repr_loop ?_
    show wpAny _ _ («list.__repr__.loop» ⟨[.ref a, .int i 0, .ref P, .int ((bs + piled (ts.take i) : Nat) : Int) 0], []⟩) _ _ s
    rw [repr_loop_tree]
    refine wpAny_bind (wpAny_listItems e rfl ?_)
    have hnone : its.toArray[((i : Int)).toNat]? = none := by simpa using nits
    simp only [hnone]
    unfold reprEnd
    refine wpAny_bind (wpAny_listItems ep rfl ?_)
    obtain ⟨done, rfl, ed⟩ := strs_of rp
    rw [show (strValues done).toArray.toList = strValues done from by simp, repr_fold]
    refine wpAny_bind (wpAny_pure ?_)
    have hall : done.map (·.1) = ts := by rw [ed, hin, List.take_length]
    rw [hall]
    refine wpAny_bind (wpAny_mkStr (wpAny_pure ?_) (by show (listText ts).length ≤ sizeLine; omega))
    exact fin _ H _ (I.tok _) eb
  | succ k ih =>
    intro i s H hk hi I eb hPi
    have hlt : i < xs.length := by omega
    obtain ⟨t, ht, hrep⟩ := hT i xs[i] (List.getElem?_eq_getElem hlt)
    obtain ⟨_, its, m, rv, lv, e⟩ := I.lstM (eb _ _ ha)
    have hlt2 : i < its.length := by omega
    have rvi : RelV xs[i] its[i] := by
      obtain ⟨u, e1, e2⟩ := rv.get (List.getElem?_eq_getElem hlt)
      rw [List.getElem?_eq_getElem hlt2] at e1
      cases e1
      exact e2
    have hp1 := piled_take_succ ht
    have hp2 := piled_take_le ts (i + 1)
    refine codeAny_builtin F.entry_list_repr_loop ?_
    show wpAny _ _ («list.__repr__.loop» ⟨[.ref a, .int i 0, .ref P, .int ((bs + piled (ts.take i) : Nat) : Int) 0], []⟩) _ _ s
    rw [repr_loop_tree]
    refine wpAny_bind (wpAny_listItems e rfl ?_)
    have hsome : its.toArray[((i : Int)).toNat]? = some its[i] := by simp [hlt2]
    simp only [hsome]
    rw [Int.toNat_natCast]
    refine wpAny_bind (wpAny_holding (wpAny_mono (hrep _ _ pins s σ H its[i] (bs + piled (ts.take i) + 1) ((xe.ext eb).more) (sub_loop sb) (guards_under_guard (isGuard_list_loop _) hg) gd.cons I rvi (by omega)) (fun r s2 h2 => ?_) fun e' s' h' => hE e' s' h'))
    obtain ⟨rfl, H2, I2, e2⟩ := h2
    refine wpAny_bind (wpAny_mkStr ?_ (each r (List.mem_of_getElem? ht)))
    have hP2 := e2 _ _ hPi
    obtain ⟨_, ups, c, rp, _, ep⟩ := I2.lstM hP2
    refine wpAny_bind ?_
    show wpAny _ _ (updateSeq P _) _ _ _
    have lp := rp.length
    rw [List.length_map, List.length_take] at lp
    refine wpAny_updateSeq ep rfl (wpAny_pure ⟨F.quiet_list_repr_loop _, ?_⟩) (by rw [List.size_toArray]; omega) (by rw [Array.size_push, List.size_toArray]; omega)
    have e1' : ((i : Int) + 1) = ((i + 1 : Nat) : Int) := by omega
    have e2' : bs + piled (ts.take i) + (r.length + 2) = bs + piled (ts.take (i + 1)) := by omega
    rw [e1', e2']
    have I3 := I2.lset (its' := ups ++ [.str r s2.toks]) (f := fun x => x.push (.str r s2.toks)) (t' := s2.toks + 1) hP2 ep (by simp) (ys := (ts.take (i + 1)).map V.str) (by
      rw [List.take_add_one, ht, List.map_append]
      exact rp.append (.cons ⟨_, rfl⟩ .nil)) (by rw [List.length_map, List.length_take]; omega)
    exact ih (i + 1) _ _ (by omega) hlt I3 (fun b o hb => by
      rw [upd_ne (fun z => by rw [z, hP] at hb; cases hb)]
      exact e2 _ _ (eb _ _ hb)) upd_same
end
end RPO
set_option Elab.async false
set_option linter.all false
set_option maxRecDepth 100000
set_option maxHeartbeats 4000000
namespace RPO
open PySem PySem.Spec PyProof.Rows L2
open Builtin Builtin.List
/-- things one by one -/
inductive RpAll (X : Cx) (n : Nat) (outs : List Addr) (H0 : Hp) : List V → List Str → Prop
  | nil : RpAll X n outs H0 [] []
  | cons {v : V} {t : Str} {vs : List V} {ts : List Str} : RpU X n outs H0 v t → RpAll X n outs H0 vs ts → RpAll X n outs H0 (v :: vs) (t :: ts)
theorem RpAll.len {X : Cx} {n : Nat} {outs : List Addr} {H0 : Hp} : ∀ {vs : List V} {ts : List Str}, RpAll X n outs H0 vs ts → ts.length = vs.length
  | _, _, .nil => rfl
  | _, _, .cons _ h => by rw [List.length_cons, List.length_cons, h.len]
theorem RpAll.get {X : Cx} {n : Nat} {outs : List Addr} {H0 : Hp} : ∀ {vs : List V} {ts : List Str}, RpAll X n outs H0 vs ts → ∀ (i : Nat) (x : V), vs[i]? = some x → ∃ t, ts[i]? = some t ∧ RpU X n outs H0 x t
  | _, _, .nil, _, _, h => by simp at h
  | _, _, .cons r h, 0, _, e => by
    simp at e
    subst e
    exact ⟨_, rfl, r⟩
  | _, _, .cons r h, i + 1, x, e => by
    obtain ⟨t, e1, e2⟩ := h.get i x (by simpa using e)
    exact ⟨t, by simpa using e1, e2⟩
section
variable {X : Cx} {n : Nat} {outs : List Addr} {H0 : Hp} {a : Addr} {xs : List V} {ts : List Str}
/-- what is asked of the end of a text -/
def Told (X : Cx) (pins : List (Addr × Obj)) (σ : L2.St) (H : Hp) (t : Str) (v : Value) (s' : Shared) : Prop := ∃ tk, v = .str t tk ∧ ∃ H', Inv X pins σ H' s' ∧ Ext H H'
theorem list_at {A : Around} {g : List Code} {bs : Nat} {pins : List (Addr × Obj)} {σ : L2.St} {s : Shared} {H : Hp} {Q : Value → Shared → Prop} (sb : Sub X (n + 1) A) (hg : A.guards = some g) (gd : Gd g outs) (I : Inv X pins σ H s) (ha : H a = some (.lst xs)) (na : a ∉ outs) (xe : Ex outs H0 H) (hx : xs ≠ [])
    (hT : RpAll X n (a :: outs) H0 xs ts) (hsz : bs + (listText ts).length ≤ sizeLine) (fin : ∀ v s', Told X pins σ H (listText ts) v s' → Q v s') :
    wpAny (model X.prog X.w) A.in1 (Builtin.listReprAt bs ⟨[.ref a], []⟩) (fun fin s' => match fin with | .done f => callEnd Q X.xe (.ok f) s' | .again c' => c'.quiet = true ∧ codeAny (model X.prog X.w) A c' (callEnd Q X.xe) s') (fun e s' => callEnd Q X.xe (.error e) s') s := by
  obtain ⟨_, its, m, rv, lv, e⟩ := I.lstM ha
  obtain ⟨y, l, rfl⟩ : ∃ y l, its = y :: l := by
    cases its with
    | nil =>
      have : xs.length = 0 := lv
      exact absurd (List.length_eq_zero_iff.mp this) hx
    | cons y l => exact ⟨y, l, rfl⟩
  refine wpAny_list_repr_head (A := A.in1) hg (fun v rest kw hm => listSameRef_of_ne ((gd.clear na) _ _ _ _ hm)) e rfl ?_
  refine wpAny_bind (m := newList []) (wpAny_newObj_type ?_)
  refine wpAny_pure ⟨F.quiet_list_repr_loop _, ?_⟩
  have I1 := I.lnew (its := []) (ys := []) (t' := s.toks) .nil (Nat.zero_le _)
  have hn := I.fresh
  exact list_loop (n := n) (Hb := H) (R := callEnd Q X.xe) sb hg gd ha hn xe hT.len hT.get hsz (fun _ _ h => h) (fun s' H' u I' e' => fin _ _ ⟨u, rfl, H', I', e'⟩) _ 0 _ _ rfl (Nat.zero_le _) I1 (Ext.upd hn) upd_same
theorem RpU.list (ha : H0 a = some (.lst xs)) (na : a ∉ outs) (hx : xs ≠ []) (hT : RpAll X n (a :: outs) H0 xs ts) : RpU X (n + 1) outs H0 (.ref a) (listText ts) := fun A g pins s σ H u bs x sb hg gd I r hb => by
  cases (show u = Value.ref a from r)
  have ea := x a _ ha na
  obtain ⟨_, its, m, rv, lv, e⟩ := I.lstM ea
  refine wpAny_pyReprUnder_ref (by omega) (wpAny_pyReprObjUnder_twin (twin := "list.__repr__.under") ⟨_, e, rfl⟩ F.slot_list_repr.toG rfl sb.room.units0
    (call_twin_plain F.plain_list_repr_under F.entry_list_repr_under F.check_list_repr_under ⟨_, e, rfl⟩ F.slot_list_repr.toG (F.args_list_repr_1 _) (list_at sb hg gd I ea na x hx hT hb fun v s' h => ?_)))
  obtain ⟨tk, rfl, h⟩ := h
  exact ⟨⟨_, _, rfl⟩, _, _, rfl, rfl, h⟩
theorem RpU.list0 (ha : H0 a = some (.lst [])) (na : a ∉ outs) : RpU X n outs H0 (.ref a) "[]" := fun A g pins s σ H u bs x sb hg gd I r hb => by
  cases (show u = Value.ref a from r)
  have ea := x a _ ha na
  obtain ⟨_, its, m, rv, lv, e⟩ := I.lstM ea
  obtain rfl : its = [] := List.length_eq_zero_iff.mp lv.symm
  exact wpAny_pyReprUnder_ref (by omega) (wpAny_pyReprObjUnder_list_empty ⟨_, e, rfl⟩ sb.room.units0 e rfl ⟨_, _, rfl, rfl, H, I.tok _, Ext.rfl'⟩)
theorem tup_fold {A : Around} {g : List Code} {pins : List (Addr × Obj)} {σ : L2.St} {Hb : Hp} {Q : (Array Str × Nat) → Shared → Prop} (sb : Sub X n A) (hg : A.guards = some g) (gd : Gd g (a :: outs)) (xe : Ex outs H0 Hb) :
    ∀ {vs : List V} {ts : List Str}, RpAll X n (a :: outs) H0 vs ts → ∀ (us : List Value) (acc : Array Str) (m : Nat) (s : Shared) (H : Hp), Vals vs us → m + piled ts ≤ sizeLine → Inv X pins σ H s → Ext Hb H →
      (∀ s' H', Inv X pins σ H' s' → Ext Hb H' → Q ⟨acc ++ ts.toArray, m + piled ts⟩ s') → wpAny (model X.prog X.w) A (forIn us (⟨acc, m⟩ : (Array Str × Nat)) tupBody) Q X.xe s := by
  intro vs ts h
  induction h with
  | nil =>
    intro us acc m s H rv hm I eb fin
    cases rv
    have h0 := fin s H I eb
    simp only [List.forIn_nil]
    exact wpAny_pure (by simpa [piled] using h0)
  | @cons v t vs ts hr hl ih =>
    intro us acc m s H rv hm I eb fin
    cases rv with
    | @cons _ u _ us r rv =>
      rw [piled_cons] at hm
      rw [List.forIn_cons]
      refine wpAny_bind (wpAny_bind (wpAny_mono (hr A g pins s σ H u (m + 1) (xe.ext eb).more sb hg gd I r (by omega)) (fun r' s2 h2 => ?_) fun _ _ x => x))
      obtain ⟨rfl, H2, I2, e2⟩ := h2
      refine wpAny_pure ?_
      refine ih us (acc.push r') (m + (r'.length + 2)) s2 H2 rv (by omega) I2 (eb.trans e2) fun s' H' I' e' => ?_
      have h1 := fin s' H' I' e'
      have e : m + piled (r' :: ts) = m + (r'.length + 2) + piled ts := by rw [piled_cons]; omega
      rw [e] at h1
      simpa using h1
theorem tup_at {A : Around} {g : List Code} {bs : Nat} {pins : List (Addr × Obj)} {σ : L2.St} {s : Shared} {H : Hp} {Q : Value → Shared → Prop} {id : String} {rest : List Value} (hcg : (Code.builtin id ⟨.ref a :: rest, []⟩).isGuard = true) (sb : Sub X n (A.under (.builtin id ⟨.ref a :: rest, []⟩)))
    (hg : A.guards = some g) (gd : Gd g outs) (I : Inv X pins σ H s) (ha : H a = some (.tup xs)) (na : a ∉ outs) (xe : Ex outs H0 H) (hT : RpAll X n (a :: outs) H0 xs ts) (hsz : bs + (tupleText ts).length ≤ sizeLine) (fin : ∀ v s', Told X pins σ H (tupleText ts) v s' → Q v s') :
    wpOwn (model X.prog X.w) A (.builtin id ⟨.ref a :: rest, []⟩) (Builtin.tupleReprAt bs ⟨[.ref a], []⟩) (fun fin s' => match fin with | .done f => callEnd Q X.xe (.ok f) s' | .again c' => c'.quiet = true ∧ codeAny (model X.prog X.w) A c' (callEnd Q X.xe) s') (fun e s' => callEnd Q X.xe (.error e) s') s := by
  obtain ⟨its, rv, ⟨o, ho, hc, m, hd⟩, hz⟩ := I.tuple (SqT.of (K := X.K) ha)
  have hca : Clear g a := gd.clear na
  have hlen : ts.length = its.length := hT.len.trans rv.length
  have hp := piled_le_tupleText ts
  have hsz0 : (tupleText ts).length ≤ sizeLine := by omega
  rw [tuple_repr_tree, tupleReprUnderWay_eq]
  refine wpOwn_bind (wpOwn_stackTailAny hg (tupGuardF_off _) (tupGuardF_pos _) ?_)
  have hn : (g.any fun c => tupGuardF (.ref a) (c, default)) = false := by
    rw [List.any_eq_false]
    intro c hcm
    rw [tupGuardF_of_clear hca c hcm]
    exact Bool.false_ne_true
  rw [hn]
  refine wpOwn_of_wpAny ?_
  show wpAny _ _ (tupleReprRest bs (.ref a)) _ _ s
  unfold tupleReprRest Builtin.Tuple.tupleItemsOf
  refine wpAny_bind (wpAny_bind (wpAny_seqItems ho hd (wpAny_pure ?_)))
  rw [← Array.forIn_toList]
  refine wpAny_bind (tup_fold (Hb := H) sb (guards_under_guard hcg hg) gd.cons xe hT _ _ _ s H (by simpa using rv) (by omega) I Ext.rfl' fun s' H' I' e' => ?_)
  refine wpAny_bind (wpAny_mkStr (wpAny_pure ?_) (by simpa [tupleText, hlen] using hsz0))
  have h1 := fin (.str (tupleText ts) s'.toks) { s' with toks := s'.toks + 1 } ⟨_, rfl, H', I'.tok _, e'⟩
  simpa [tupleText, hlen] using h1
theorem sub_code {A : Around} {id : String} {args : Args} (h : Sub X (n + 1) A) (hw : (Code.builtin id args).weight ≤ 1) (he : (Code.builtin id args).envs = []) (hu : (A.under (.builtin id args)).units = A.units + 1) : Sub X n (A.under (.builtin id args)) := by
  have e2 : (A.under (.builtin id args)).frames = pushEnvs (Code.envs (.builtin id args)) A.frames := by first | rfl | simp [Around.under]
  have hf : (A.under (.builtin id args)).frames = A.frames := by
    rw [e2, he]
    cases A.frames <;> first | rfl | simp [pushEnvs]
  have hd : (A.under (.builtin id args)).depth = A.depth + (Code.builtin id args).weight := by first | rfl | simp [Around.under]
  obtain ⟨⟨h1, h2, h3⟩, h4⟩ := h
  exact ⟨⟨h1, by omega, by rw [hu]; omega⟩, hf.trans h4⟩
theorem w_tup {args : Args} : (Code.builtin "tuple.__repr__" args).weight ≤ 1 := by
  first | exact Nat.le_refl _ | simp [Code.weight, Code.isCreation, Code.isGuard, Code.isCaller, Code.frames, Code.isFrame, guardIds]
theorem w_tupU {args : Args} : (Code.builtin "tuple.__repr__.under" args).weight ≤ 1 := by
  first | exact Nat.le_refl _ | simp [Code.weight, Code.isCreation, Code.isGuard, Code.isCaller, Code.frames, Code.isFrame, guardIds]
theorem e_b {id : String} {args : Args} (h : (Code.builtin id args).isFrame = false := by rfl) : (Code.builtin id args).envs = [] := by simp [Code.envs, h]
theorem RpU.tup (ha : H0 a = some (.tup xs)) (na : a ∉ outs) (hT : RpAll X n (a :: outs) H0 xs ts) : RpU X (n + 1) outs H0 (.ref a) (tupleText ts) := fun A g pins s σ H u bs x sb hg gd I r hb => by
  cases (show u = Value.ref a from r)
  have ea := x a _ ha na
  obtain ⟨its, rv, ⟨o, ho, hc, m, hd⟩, hz⟩ := I.tuple (SqT.of (K := X.K) ea)
  refine wpAny_pyReprUnder_ref (by omega) (wpAny_pyReprObjUnder_twin (twin := "tuple.__repr__.under") ⟨o, ho, hc⟩ F.slot_tuple_repr rfl sb.room.units0
    (call_twin_own (F.quiet_tuple_repr_under _) F.entry_tuple_repr_under F.check_tuple_repr_under ⟨o, ho, hc⟩ F.slot_tuple_repr (F.args_tuple_repr_1 _)
      (tup_at (isGuard_tuple_repr_under _) (sub_code sb w_tupU e_b (units_under_tuple_repr_under _ _)) hg gd I ea na x hT hb fun v s' h => ?_)))
  obtain ⟨tk, rfl, h⟩ := h
  exact ⟨⟨_, _, rfl⟩, _, _, rfl, rfl, h⟩
/-- repr of a tuple, where no repr is under way -/
def rReprT (X : Cx) (n : Nat) : List V → Hp → VK → Prop := fun ys H Q => ∃ (a : Addr) (xs : List V) (ts : List Str), ys = [.ref a] ∧ H a = some (.tup xs) ∧ RpAll X n [a] H xs ts ∧ (tupleText ts).length ≤ sizeLine ∧ ∀ H', Ext H H' → Q (.str (tupleText ts)) H'
theorem call_reprT (hgd : X.A.guards = some []) (hr : Room (n + 2) X.A) : CallR X (.builtin "repr") (rReprT X n) := by
  intro pins s σ H ys us Q I r h
  obtain ⟨a, xs, ts, rfl, ea, hT, hb, q⟩ := h
  obtain ⟨u, rfl, ru⟩ := r.one
  cases (show u = Value.ref a from ru)
  obtain ⟨its, rv, ⟨o, ho, hc, m, hd⟩, hz⟩ := I.tuple (SqT.of (K := X.K) ea)
  have sb : Sub X (n + 1) X.A.in1 := ⟨hr.in1, rfl⟩
  refine call_repr_slot (by have := hr.un; omega) ⟨o, ho, hc⟩ F.slot_tuple_repr ?_
  refine wpAny_call (codeAny_call_builtin_own (Code.quiet_builtin _ (by decide +kernel)) F.entry_tuple_repr (F.slot_tuple_repr.check _ _ _ _ _ _ _ _ ⟨o, ho, hc⟩ (F.args_tuple_repr_1 _)
    (tup_at (outs := []) (H0 := H) (bs := 0) (isGuard_tuple_repr _) (sub_code sb w_tup e_b (units_under_tuple_repr _ _)) hgd Gd.nil I ea (by simp) (Ex.refl _ _) hT (by omega) fun v s' h => ?_)))
  obtain ⟨tk, rfl, H', I', e⟩ := h
  exact ⟨_, _, rfl, .str _, H', I', ⟨_, rfl⟩, q H' e⟩
end
end RPO
set_option Elab.async false
set_option linter.all false
set_option maxRecDepth 100000
set_option maxHeartbeats 4000000
namespace RPO
open PySem PySem.Spec PyProof.Rows L2
open Builtin Builtin.List
/-- what the entries of a dict show as -/
inductive RpEnt (X : Cx) (n : Nat) (outs : List Addr) (H0 : Hp) : List (Key × V) → List Str → Prop
  | nil : RpEnt X n outs H0 [] []
  | cons {k : Key} {v : V} {tk tv : Str} {kvs : List (Key × V)} {ps : List Str} : RpU X n outs H0 (kV k) tk → RpU X n outs H0 v tv → RpEnt X n outs H0 kvs ps → RpEnt X n outs H0 ((k, v) :: kvs) ((tk ++ ": " ++ tv) :: ps)
section
variable {X : Cx} {n : Nat} {outs : List Addr} {H0 : Hp} {a : Addr} {kvs : List (Key × V)} {ps : List Str}
theorem RpEnt.len : ∀ {kvs : List (Key × V)} {ps : List Str}, RpEnt X n outs H0 kvs ps → ps.length = kvs.length
  | _, _, .nil => rfl
  | _, _, .cons _ _ h => by rw [List.length_cons, List.length_cons, h.len]
theorem RpEnt.get : ∀ {kvs : List (Key × V)} {ps : List Str}, RpEnt X n outs H0 kvs ps → ∀ (i : Nat) (e : Key × V), kvs[i]? = some e → ∃ tk tv : Str, ps[i]? = some (tk ++ ": " ++ tv) ∧ RpU X n outs H0 (kV e.1) tk ∧ RpU X n outs H0 e.2 tv
  | _, _, .nil, _, _, h => by simp at h
  | _, _, .cons r1 r2 h, 0, _, e => by
    simp at e
    subst e
    exact ⟨_, _, rfl, r1, r2⟩
  | _, _, .cons _ _ h, i + 1, x, e => by
    obtain ⟨t1, t2, e1, e2⟩ := h.get i x (by simpa using e)
    exact ⟨t1, t2, by simpa using e1, e2⟩
theorem pairs_at {P : Program} {w : World} : ∀ {es : List DictEntry} {vs : List (Key × Value)}, Pairs (mixKind P w) es vs → ∀ (i : Nat) (kv : Key × Value), vs[i]? = some kv → ∃ e, es[i]? = some e ∧ (mixKind P w).is kv.1 e.key = true ∧ e.val = kv.2
  | _, _, .nil, _, _, h => by simp at h
  | _, _, .cons h1 h2 h, 0, _, e => by
    simp at e
    subst e
    exact ⟨_, rfl, h1, h2⟩
  | _, _, .cons _ _ h, i + 1, kv, e => by
    obtain ⟨en, e1, e2⟩ := pairs_at h i kv (by simpa using e)
    exact ⟨en, by simpa using e1, e2⟩
theorem key_rel {k : Key} {v : Value} (h : keyIs k v = true) : RelV (kV k) v := by
  rcases keyIs_shape h with ⟨i, t, rfl, rfl⟩ | ⟨x, t, rfl, rfl⟩
  · exact ⟨_, rfl⟩
  · exact ⟨_, rfl⟩
theorem kv_at : ∀ {ks : List (Key × V)} {va : List (Key × Value)}, KV ks va → ∀ (i : Nat) (e : Key × V), ks[i]? = some e → ∃ u : Key × Value, va[i]? = some u ∧ e.1 = u.1 ∧ RelV e.2 u.2
  | _, _, .nil, _, _, h => by simp at h
  | _, _, .cons r h, 0, _, e => by
    simp at e
    subst e
    exact ⟨_, rfl, r.1, r.2⟩
  | _, _, .cons _ h, i + 1, x, e => by
    obtain ⟨u, e1, e2⟩ := kv_at h i x (by simpa using e)
    exact ⟨u, by simpa using e1, e2⟩
/-- the entries of a locked dict -/
theorem entry_of {pins : List (Addr × Obj)} {σ : L2.St} {s : Shared} {H : Hp} {o : Obj} (I : Inv X pins σ H s) (h : H a = some (.frz o (.dK kvs))) {es : Array DictEntry} {ep : Nat} (hd : o.data = .dict es ep) (i : Nat) (hi : i < kvs.length) :
    ∃ e, es[i]? = some e ∧ RelV (kV kvs[i].1) e.key ∧ RelV kvs[i].2 e.val := by
  obtain ⟨_, hg, _, es', ep', vs, hd', hs, kv, o2, es2, g2, x2, d2, k2, p2, _⟩ := I.frzK h
  rw [hg] at g2
  cases g2
  rw [hd] at d2
  cases d2
  obtain ⟨u, e1, e2, e3⟩ := kv_at kv i kvs[i] (List.getElem?_eq_getElem hi)
  obtain ⟨e, f1, f2, f3⟩ := pairs_at p2 i u e1
  refine ⟨e, by simpa using f1, ?_, by rw [f3]; exact e3⟩
  rw [e2]
  exact key_rel f2
theorem dct_at {A : Around} {g : List Code} {bs : Nat} {pins : List (Addr × Obj)} {σ : L2.St} {s : Shared} {H : Hp} {Q : Value → Shared → Prop} {id : String} {rest : List Value} (hcg : (Code.builtin id ⟨.ref a :: rest, []⟩).isGuard = true) (sb : Sub X n (A.under (.builtin id ⟨.ref a :: rest, []⟩)))
    (hg : A.guards = some g) (gd : Gd g outs) (I : Inv X pins σ H s) (ha : H a = some (.dK kvs)) (na : a ∉ outs) (xe : Ex outs H0 H) (hT : RpEnt X n (a :: outs) H0 kvs ps) (hsz : bs + (dictText ps).length ≤ sizeLine) (fin : ∀ v s', Told X pins σ H (dictText ps) v s' → Q v s') :
    wpOwn (model X.prog X.w) A (.builtin id ⟨.ref a :: rest, []⟩) (Builtin.dictReprAt bs ⟨[.ref a], []⟩) (fun fin s' => match fin with | .done f => callEnd Q X.xe (.ok f) s' | .again c' => c'.quiet = true ∧ codeAny (model X.prog X.w) A c' (callEnd Q X.xe) s') (fun e s' => callEnd Q X.xe (.error e) s') s := by
  have mu : Mut (some (HO.dK kvs)) := trivial
  have nf := I.nofrz ha mu
  obtain ⟨o, I1⟩ := I.lock ha mu
  have e1 : (upd H a (.frz o (.dK kvs))) a = some (.frz o (.dK kvs)) := upd_same
  have x1 : Ex (a :: outs) H0 (upd H a (.frz o (.dK kvs))) := fun b u e nb => by
    rw [upd_ne fun z => nb (by rw [z]; exact List.mem_cons_self)]
    exact xe b u e fun z => nb (List.mem_cons_of_mem _ z)
  have back : ∀ {H' : Hp} {s' : Shared}, Inv X pins σ H' s' → Ext (upd H a (.frz o (.dK kvs))) H' → ∃ H2, Inv X pins σ H2 s' ∧ Ext H H2 := fun {H' s'} I' e' => by
    refine ⟨_, I'.unlock (e' _ _ e1) nf, fun b u e => ?_⟩
    by_cases hb : b = a
    · subst hb
      rw [upd_same, ← e, ha]
    · rw [upd_ne hb]
      refine e' _ _ ?_
      rw [upd_ne hb]
      exact e
  generalize upd H a (.frz o (.dK kvs)) = H1 at I1 e1 x1 back
  obtain ⟨hsys, hget, hex, es, ep, vs, hd, hsize, _, _⟩ := I1.frzK e1
  have got : ∀ {H' : Hp} {s' : Shared}, Inv X pins σ H' s' → Ext H1 H' → s'.heap.get? a = some o := fun I' e' => (I'.frzK (e' _ _ e1)).2.1
  have hTy : s.TypeIs (.ref a) "dict" := ⟨o, hget, hex.1⟩
  have hca : Clear g a := gd.clear na
  have hlen : ps.length = es.size := hT.len.trans hsize.symm
  have hp3 := piled_le_dictText ps
  have hsz0 : (dictText ps).length ≤ sizeLine := by omega
  unfold Builtin.dictReprAt
  refine wpOwn_bind (wpOwn_of_wpAny ?_)
  unfold Builtin.Dict.dictSlotNone
  refine wpAny_bind (wpAny_notOrdered_dict hTy ?_)
  show wpAny _ _ (pure (Value.ref a)) _ _ s
  refine wpAny_pure ?_
  rw [dictReprRunning_eq]
  refine wpOwn_bind (wpOwn_stackTailAny hg (dictGuardF_off _) (dictGuardF_pos _) ?_)
  have hn : (g.any fun c => dictGuardF (.ref a) (c, default)) = false := by
    rw [List.any_eq_false]
    intro c hcm
    rw [dictGuardF_of_clear hca c hcm]
    exact Bool.false_ne_true
  rw [hn]
  refine wpOwn_of_wpAny ?_
  have hg' := guards_under_guard hcg hg
  show wpAny _ _ (Builtin.Dict.addrOf (.ref a) >>= _) _ _ s
  refine wpAny_bind (wpAny_pure ?_)
  show wpAny _ _ (Builtin.Dict.showsAll a >>= _) _ _ s
  unfold Builtin.Dict.showsAll
  rw [if_neg (by rw [hsys]; exact Bool.false_ne_true)]
  refine wpAny_bind (wpAny_pure ?_)
  refine wpAny_bind (wpAny_dictEpoch hget hd ?_)
  refine wpAny_bind (wpAny_dictEntries hget hd ?_)
  refine wpAny_bind ?_
  rw [Std.Legacy.Range.forIn_eq_forIn_range']
  simp only [Std.Legacy.Range.size, Nat.sub_zero, Nat.add_sub_cancel, Nat.div_one]
  refine wpAny_forIn_list _
    (fun rest' r s' => ∃ i H', rest' = List.range' i (es.size - i) ∧ i ≤ es.size ∧ r = (⟨(ps.take i).toArray, bs + piled (ps.take i)⟩ : (Array Str × Nat)) ∧ Inv X pins σ H' s' ∧ Ext H1 H')
    _ ?_ ?_ _ _ ⟨0, H1, by simp, Nat.zero_le _, by simp [piled], I1, Ext.rfl'⟩
  · rintro x rest' _ s' ⟨i, H', hr, hi, rfl, I', e'⟩
    have hlt : i < es.size := by
      rcases Nat.lt_or_ge i es.size with h | h
      · exact h
      · rw [Nat.sub_eq_zero_of_le h] at hr; simp at hr
    obtain ⟨rfl, hrest⟩ : x = i ∧ rest' = List.range' (i + 1) (es.size - (i + 1)) := by
      have e : es.size - i = (es.size - (i + 1)) + 1 := by omega
      rw [e, List.range'_succ] at hr
      injection hr with h1 h2
      exact ⟨h1, h2⟩
    have hx2 : x < kvs.length := by omega
    obtain ⟨tk, tv, hp, rk, rv⟩ := hT.get x kvs[x] (List.getElem?_eq_getElem hx2)
    obtain ⟨en, f1, f2, f3⟩ := entry_of I' (e' _ _ e1) hd x hx2
    have hpl : (tk ++ ": " ++ tv).length = tk.length + 2 + tv.length := by
      rw [strLen_append, strLen_append]; rfl
    have hp1 := piled_take_succ hp
    have hp2 := piled_take_le ps (x + 1)
    rw [hpl] at hp1
    refine wpAny_bind (wpAny_dictEntries (got I' e') hd ?_)
    rw [f1]
    refine wpAny_bind (wpAny_holding (wpAny_bind (wpAny_mono (rk _ _ pins s' σ H' en.key (bs + piled (ps.take x) + 1) (x1.ext e') sb hg' gd.cons I' f2 (by omega)) (fun r2 s2 h2 => ?_) fun _ _ z => z)))
    obtain ⟨rfl, H2, I2, e2⟩ := h2
    refine wpAny_bind (wpAny_mono (rv _ _ pins s2 σ H2 en.val (bs + piled (ps.take x) + (r2.length + 3)) (x1.ext (e'.trans e2)) sb hg' gd.cons I2 f3 (by omega)) (fun r3 s3 h3 => ?_) fun _ _ z => z)
    obtain ⟨rfl, H3, I3, e3⟩ := h3
    have e13 := (e'.trans e2).trans e3
    refine wpAny_pure ?_
    refine wpAny_bind (wpAny_dictEpoch (got I3 e13) hd ?_)
    rw [if_neg (by simp)]
    have g1 : (ps.take x).toArray.push (r2 ++ ": " ++ r3) = (ps.take (x + 1)).toArray := by
      rw [List.take_add_one, hp]
      simp
    have g2 : bs + piled (ps.take x) + (r2.length + r3.length + 4) = bs + piled (ps.take (x + 1)) := by omega
    refine wpAny_pure ⟨x + 1, H3, hrest, hlt, ?_, I3, e13⟩
    rw [g1, g2]
  · rintro _ s' ⟨i, H', hr, hi, rfl, I', e'⟩
    have hin : i = es.size := by
      rcases Nat.lt_or_ge i es.size with h | h
      · have e : es.size - i = (es.size - (i + 1)) + 1 := by omega
        rw [e, List.range'_succ] at hr; exact nomatch hr
      · exact Nat.le_antisymm hi h
    rw [hin, ← hlen, List.take_length]
    refine wpAny_bind (wpAny_mkStr (wpAny_pure ?_) (by simpa [dictText] using hsz0))
    have h1 := fin (.str (dictText ps) s'.toks) { s' with toks := s'.toks + 1 } ⟨_, rfl, back (I'.tok _) e'⟩
    simpa [dictText] using h1
theorem w_dct {args : Args} : (Code.builtin "dict.__repr__" args).weight ≤ 1 := by
  first | exact Nat.le_refl _ | simp [Code.weight, Code.isCreation, Code.isGuard, Code.isCaller, Code.frames, Code.isFrame, guardIds]
theorem w_dctU {args : Args} : (Code.builtin "dict.__repr__.under" args).weight ≤ 1 := by
  first | exact Nat.le_refl _ | simp [Code.weight, Code.isCreation, Code.isGuard, Code.isCaller, Code.frames, Code.isFrame, guardIds]
theorem RpU.dct (ha : H0 a = some (.dK kvs)) (na : a ∉ outs) (hT : RpEnt X n (a :: outs) H0 kvs ps) : RpU X (n + 1) outs H0 (.ref a) (dictText ps) := fun A g pins s σ H u bs x sb hg gd I r hb => by
  cases (show u = Value.ref a from r)
  have ea := x a _ ha na
  have mu : Mut (some (HO.dK kvs)) := trivial
  obtain ⟨o, I1⟩ := I.lock ea mu
  obtain ⟨_, hget, hex, _⟩ := I1.frzK (upd_same : (upd H a (.frz o (.dK kvs))) a = _)
  refine wpAny_pyReprUnder_ref (by omega) (wpAny_pyReprObjUnder_twin (twin := "dict.__repr__.under") ⟨o, hget, hex.1⟩ F.slot_dict_repr rfl sb.room.units0
    (call_twin_own (F.quiet_dict_repr_under _) F.entry_dict_repr_under F.check_dict_repr_under ⟨o, hget, hex.1⟩ F.slot_dict_repr (F.args_dict_repr_1 _)
      (dct_at (isGuard_dict_repr_under _) (sub_code sb w_dctU e_b (units_under_dict_repr_under _ _)) hg gd I ea na x hT hb fun v s' h => ?_)))
  obtain ⟨tk, rfl, h⟩ := h
  exact ⟨⟨_, _, rfl⟩, _, _, rfl, rfl, h⟩
/-- repr of a list, of a dict, where no repr is under way -/
def rReprL (X : Cx) (n : Nat) : List V → Hp → VK → Prop := fun ys H Q => ∃ (a : Addr) (xs : List V) (ts : List Str), ys = [.ref a] ∧ H a = some (.lst xs) ∧ xs ≠ [] ∧ RpAll X n [a] H xs ts ∧ (listText ts).length ≤ sizeLine ∧ ∀ H', Ext H H' → Q (.str (listText ts)) H'
theorem call_reprL (hgd : X.A.guards = some []) (hr : Room (n + 2) X.A) : CallR X (.builtin "repr") (rReprL X n) := by
  intro pins s σ H ys us Q I r h
  obtain ⟨a, xs, ts, rfl, ea, hx, hT, hb, q⟩ := h
  obtain ⟨u, rfl, ru⟩ := r.one
  cases (show u = Value.ref a from ru)
  obtain ⟨_, its, m, rv, lv, e⟩ := I.lstM ea
  have sb : Sub X (n + 1) X.A.in1 := ⟨hr.in1, rfl⟩
  refine call_repr_slot (by have := hr.un; omega) ⟨_, e, rfl⟩ F.slot_list_repr.toG ?_
  refine wpAny_call (codeAny_call_builtin F.slot_list_repr.plain F.entry_list_repr (F.slot_list_repr.check _ _ _ _ _ _ _ _ ⟨_, e, rfl⟩ (F.args_list_repr_1 _)
    (list_at (outs := []) (H0 := H) (bs := 0) sb hgd Gd.nil I ea (by simp) (Ex.refl _ _) hx hT (by omega) fun v s' h => ?_)))
  obtain ⟨tk, rfl, H', I', e⟩ := h
  exact ⟨_, _, rfl, .str _, H', I', ⟨_, rfl⟩, q H' e⟩
def rReprDc (X : Cx) (n : Nat) : List V → Hp → VK → Prop := fun ys H Q => ∃ (a : Addr) (kvs : List (Key × V)) (ps : List Str), ys = [.ref a] ∧ H a = some (.dK kvs) ∧ RpEnt X n [a] H kvs ps ∧ (dictText ps).length ≤ sizeLine ∧ ∀ H', Ext H H' → Q (.str (dictText ps)) H'
theorem call_reprDc (hgd : X.A.guards = some []) (hr : Room (n + 2) X.A) : CallR X (.builtin "repr") (rReprDc X n) := by
  intro pins s σ H ys us Q I r h
  obtain ⟨a, kvs, ps, rfl, ea, hT, hb, q⟩ := h
  obtain ⟨u, rfl, ru⟩ := r.one
  cases (show u = Value.ref a from ru)
  have mu : Mut (some (HO.dK kvs)) := trivial
  obtain ⟨o, I1⟩ := I.lock ea mu
  obtain ⟨_, hget, hex, _⟩ := I1.frzK (upd_same : (upd H a (.frz o (.dK kvs))) a = _)
  have sb : Sub X (n + 1) X.A.in1 := ⟨hr.in1, rfl⟩
  refine call_repr_slot (by have := hr.un; omega) ⟨o, hget, hex.1⟩ F.slot_dict_repr ?_
  refine wpAny_call (codeAny_call_builtin_own (Code.quiet_builtin _ (by decide +kernel)) F.entry_dict_repr (F.slot_dict_repr.check _ _ _ _ _ _ _ _ ⟨o, hget, hex.1⟩ (F.args_dict_repr_1 _)
    (dct_at (outs := []) (H0 := H) (bs := 0) (isGuard_dict_repr _) (sub_code sb w_dct e_b (units_under_dict_repr _ _)) hgd Gd.nil I ea (by simp) (Ex.refl _ _) hT (by omega) fun v s' h => ?_)))
  obtain ⟨tk, rfl, H', I', e⟩ := h
  exact ⟨_, _, rfl, .str _, H', I', ⟨_, rfl⟩, q H' e⟩
end
end RPO
set_option Elab.async false
set_option linter.all false
set_option maxRecDepth 100000
set_option maxHeartbeats 4000000
namespace K58
open PySem PySem.Spec PyProof.Rows L2
open C8 (Cal Mak Met pe_c pe_mk pe_mt pe_mt0)
open KM (pr Sz)
theorem take_one {α : Type} {l : List α} {i : Nat} {x : α} (h : l[i]? = some x) : l.take (i + 1) = l.take i ++ [x] := by rw [List.take_succ, h]; rfl
theorem line_of {n : Nat} (h : n ≤ 100000) : n ≤ sizeLine := by have := sizeLine_eq; omega
theorem line_lt {n : Nat} (h : n ≤ 100000) : n < sizeLine := by have := sizeLine_eq; omega
/-! ### dicts by names -/
def dctO (l : List Str) (g : Str → V) : HO := .dK (l.map fun x => ((Sum.inr x : Key), g x))
/-- a dict of Shares -/
def SDc (C : Addr) (H : Hp) (d : Addr) (L : List Str) (c : Str → Rat) : Prop := ∃ ad : Str → Addr, H d = some (dctO L fun x => .ref (ad x)) ∧ ∀ x ∈ L, Sh C H (ad x) (pr (c x))
/-- a dict of fractions -/
def TDc (H : Hp) (d : Addr) (L : List Str) (c : Str → Rat) : Prop := ∃ ad : Str → Addr, H d = some (dctO L fun x => .ref (ad x)) ∧ ∀ x ∈ L, H (ad x) = some (tupP (pr (c x)))
theorem SDc.same {C : Addr} {H H' : Hp} {d : Addr} {L : List Str} {c : Str → Rat} (h : SDc C H d L c) (s : Same H H') : SDc C H' d L c := by
  obtain ⟨ad, h1, h2⟩ := h
  exact ⟨ad, s _ _ h1, fun x hx => (h2 x hx).keep s⟩
theorem TDc.same {H H' : Hp} {d : Addr} {L : List Str} {c : Str → Rat} (h : TDc H d L c) (s : Same H H') : TDc H' d L c := by
  obtain ⟨ad, h1, h2⟩ := h
  exact ⟨ad, s _ _ h1, fun x hx => s _ _ (h2 x hx)⟩
/-! ### what is put -/
def addK (L : List Str) (x : Str) : List Str := if x ∈ L then L else L ++ [x]
def setc (c : Str → Rat) (x : Str) (v : Rat) : Str → Rat := fun y => if y = x then v else c y
def get0 (L : List Str) (c : Str → Rat) (x : Str) : Rat := if x ∈ L then c x else 0
def mv (u : List Str × (Str → Rat)) (m : Str × Rat) : List Str × (Str → Rat) := (addK u.1 m.1, setc u.2 m.1 (get0 u.1 u.2 m.1 + m.2))
def mvL (u : List Str × (Str → Rat)) (ms : List (Str × Rat)) : List Str × (Str → Rat) := ms.foldl mv u
theorem mvL_snoc (u : List Str × (Str → Rat)) (ms : List (Str × Rat)) (m : Str × Rat) : mvL u (ms ++ [m]) = mv (mvL u ms) m := by
  unfold mvL
  rw [List.foldl_append]
  rfl
theorem mvL_app (u : List Str × (Str → Rat)) (ms ns : List (Str × Rat)) : mvL u (ms ++ ns) = mvL (mvL u ms) ns := by
  unfold mvL
  rw [List.foldl_append]
theorem mem_addK {L : List Str} {x : Str} : x ∈ addK L x := by
  unfold addK
  split
  · assumption
  · exact List.mem_append_right _ (List.mem_singleton.mpr rfl)
theorem addK_sub {L : List Str} {x y : Str} (h : y ∈ addK L x) : y ∈ L ∨ y = x := by
  unfold addK at h
  split at h
  · exact .inl h
  · rcases List.mem_append.mp h with z | z
    · exact .inl z
    · exact .inr (List.mem_singleton.mp z)
theorem addK_len (L : List Str) (x : Str) : (addK L x).length ≤ L.length + 1 := by
  unfold addK
  split
  · omega
  · rw [List.length_append]
    exact Nat.le_refl _
theorem addK_nd {L : List Str} {x : Str} (h : L.Nodup) : (addK L x).Nodup := by
  unfold addK
  split
  · exact h
  · rename_i n
    rw [List.nodup_append]
    exact ⟨h, by simp, fun a ha b hb e => by
      rw [List.mem_singleton] at hb
      subst hb
      exact n (e ▸ ha)⟩
theorem mvL_len (ms : List (Str × Rat)) : ∀ u : List Str × (Str → Rat), (mvL u ms).1.length ≤ u.1.length + ms.length := by
  induction ms with
  | nil => intro u; exact Nat.le_refl _
  | cons m ms ih =>
    intro u
    have h1 := ih (mv u m)
    have h2 := addK_len u.1 m.1
    rw [List.length_cons]
    show (mvL (mv u m) ms).1.length ≤ _
    have : (mv u m).1.length ≤ u.1.length + 1 := h2
    omega
theorem mvL_nd (ms : List (Str × Rat)) : ∀ u : List Str × (Str → Rat), u.1.Nodup → (mvL u ms).1.Nodup := by
  induction ms with
  | nil => intro u h; exact h
  | cons m ms ih => intro u h; exact ih (mv u m) (addK_nd h)
/-- how great it gets -/
theorem mvL_sz {k : Nat} (ms : List (Str × Rat)) : ∀ (u : List Str × (Str → Rat)) (n : Nat), (∀ x, Sz n (get0 u.1 u.2 x)) → (∀ m ∈ ms, Sz k m.2) → ∀ x, Sz (n + (k + 1) * ms.length) (get0 (mvL u ms).1 (mvL u ms).2 x) := by
  induction ms with
  | nil => intro u n h _ x; exact h x
  | cons m ms ih =>
    intro u n h hm x
    have h1 : ∀ y, Sz (n + (k + 1)) (get0 (mv u m).1 (mv u m).2 y) := fun y => by
      unfold mv get0 setc
      dsimp only
      by_cases e : y = m.1
      · subst e
        rw [if_pos mem_addK, if_pos rfl]
        have := (KM.sz_plus (h m.1) (hm m List.mem_cons_self)).1
        exact this.mono (by omega)
      · rw [if_neg e]
        have : (y ∈ addK u.1 m.1) ↔ y ∈ u.1 := ⟨fun z => (addK_sub z).elim id fun z => absurd z e, fun z => by
          unfold addK
          split
          · exact z
          · exact List.mem_append_left _ z⟩
        have h2 := h y
        unfold get0 at h2
        simp only [this]
        exact h2.mono (by omega)
    have := ih (mv u m) (n + (k + 1)) h1 (fun m' hm' => hm m' (List.mem_cons_of_mem _ hm')) x
    refine this.mono ?_
    rw [List.length_cons, Nat.mul_add]
    omega
theorem put_dct {L : List Str} {ad : Str → Addr} {x : Str} {t : Addr} : putK (L.map fun y => ((Sum.inr y : Key), V.ref (ad y))) (Sum.inr x) (.ref t) = (addK L x).map fun y => ((Sum.inr y : Key), V.ref (if y = x then t else ad y)) := by
  unfold addK
  split
  · rename_i h
    rw [DQ.put_old (fun y => V.ref (ad y)) h]
    exact List.map_congr_left fun y _ => by by_cases e : y = x <;> simp [e]
  · rename_i h
    have e1 : (L.map fun y => ((Sum.inr y : Key), V.ref (ad y))) = L.map fun y => ((Sum.inr y : Key), V.ref (if y = x then t else ad y)) := List.map_congr_left fun y hy => by rw [if_neg (show ¬ y = x from fun e => h (e ▸ hy))]
    rw [e1]
    have e2 := DQ.put_new (fun y => V.ref (if y = x then t else ad y)) h
    rw [if_pos rfl] at e2
    exact e2
/-- a value put in, read -/
theorem val_dct {L : List Str} {ad : Str → Addr} (x : Str) : valV (L.map fun y => ((Sum.inr y : Key), V.ref (ad y))) (Sum.inr x) = if x ∈ L then some (.ref (ad x)) else none := by
  split
  · rename_i h
    exact DQ.val_map (fun y => V.ref (ad y)) h
  · rename_i h
    exact DQ.val_none (fun y => V.ref (ad y)) h
theorem Sh.at_ne {C : Addr} {H : Hp} {p d : Addr} {q : Int × Int} {kvs : List (Key × V)} (h : Sh C H p q) (hd : H d = some (.dK kvs)) : p ≠ d := fun z => by
  obtain ⟨dx, e⟩ := h
  rw [z, hd] at e
  cases e
/-- the dict with one more put in -/
theorem SDc.put {C : Addr} {H : Hp} {d t : Addr} {L : List Str} {c : Str → Rat} {ad : Str → Addr} {x : Str} {v : Rat} (h1 : H d = some (dctO L fun y => .ref (ad y))) (h2 : ∀ y ∈ L, Sh C H (ad y) (pr (c y))) (ht : Sh C H t (pr v)) :
    SDc C (upd H d (.dK (putK (L.map fun y => ((Sum.inr y : Key), V.ref (ad y))) (Sum.inr x) (.ref t)))) d (addK L x) (setc c x v) := by
  rw [put_dct]
  refine ⟨fun y => if y = x then t else ad y, upd_same, fun y hy => ?_⟩
  have keep : ∀ {p : Addr} {q : Int × Int} {o : HO}, Sh C H p q → Sh C (upd H d o) p q := fun {p q o} hp => by
    have n := hp.at_ne h1
    obtain ⟨dx, e⟩ := hp
    exact ⟨dx, by rw [upd_ne n]; exact e⟩
  unfold setc
  dsimp only
  by_cases e : y = x
  · rw [if_pos e, if_pos e]
    exact keep ht
  · rw [if_neg e, if_neg e]
    exact keep (h2 y ((addK_sub hy).elim id fun z => absurd z e))
theorem TDc.put {H : Hp} {d t : Addr} {L : List Str} {c : Str → Rat} {ad : Str → Addr} {x : Str} {v : Rat} (h1 : H d = some (dctO L fun y => .ref (ad y))) (h2 : ∀ y ∈ L, H (ad y) = some (tupP (pr (c y)))) (ht : H t = some (tupP (pr v))) :
    TDc (upd H d (.dK (putK (L.map fun y => ((Sum.inr y : Key), V.ref (ad y))) (Sum.inr x) (.ref t)))) d (addK L x) (setc c x v) := by
  rw [put_dct]
  refine ⟨fun y => if y = x then t else ad y, upd_same, fun y hy => ?_⟩
  have keep : ∀ {p : Addr} {q : Int × Int} {o : HO}, H p = some (tupP q) → (upd H d o) p = some (tupP q) := fun {p q o} hp => by
    rw [upd_ne fun z => by rw [z, h1] at hp; cases hp]
    exact hp
  unfold setc
  dsimp only
  by_cases e : y = x
  · rw [if_pos e, if_pos e]
    exact keep ht
  · rw [if_neg e, if_neg e]
    exact keep (h2 y ((addK_sub hy).elim id fun z => absurd z e))
/-- a dict made by a walk -/
theorem dc_it {J : It} {n : Nat} {G : Hp → Prop} {Y : Nat → Hp → V → Hp → Prop} (w : Walk J n G Y) {g : TG} {tt : TT} {tk tv : TE} {vs : List Nat} {σ : L2.St} {H1 : Hp} {D : Addr} {Qd : Hp → Prop} (Pv : Nat → Hp → Prop) (h0 : Pv 0 (upd H1 D (.dK []))) (hG : ∀ i H, i ≤ n → Pv i H → G H)
    (hs : ∀ i x H H', i < n → Pv i H → Y i H x H' → g x (wipe σ vs) H' fun σ2 H2 => wipe σ2 vs = wipe σ vs ∧ tt σ2 H2 fun b H3 =>
      if b = true then tk σ2 H3 fun y H4 => tv σ2 H4 fun z H5 => ∃ kvs k, y = kV k ∧ H5 D = some (.dK kvs) ∧ kvs.length < sizeLine ∧ Pv (i + 1) (upd H5 D (.dK (putK kvs k z))) else Pv (i + 1) H3) (hd : ∀ H, Pv n H → Qd H) :
    ∃ W : Nat → Nat → Hp → Prop, (∃ m, W 0 m (upd H1 D (.dK []))) ∧ ∀ i m H, W i m H →
      (J.stop i H ∧ Qd H) ∨ (J.go i H ∧ ∃ Nx : Hp → Prop, (∀ H', Nx H' → ∃ m', m' < m ∧ W (i + 1) m' H') ∧ ∀ x H', J.yld i H x H' → g x (wipe σ vs) H' fun σ2 H2 => wipe σ2 vs = wipe σ vs ∧ tt σ2 H2 fun b H3 =>
        if b = true then tk σ2 H3 fun y H4 => tv σ2 H4 fun z H5 => ∃ kvs k, y = kV k ∧ H5 D = some (.dK kvs) ∧ kvs.length < sizeLine ∧ Nx (upd H5 D (.dK (putK kvs k z))) else Nx H3) := by
  refine ⟨fun i m H => m = n - i ∧ i ≤ n ∧ Pv i H, ⟨n, rfl, Nat.zero_le _, h0⟩, ?_⟩
  rintro i m H ⟨rfl, hi, p⟩
  by_cases hlt : i < n
  · exact .inr ⟨w.goes i H hlt (hG i H hi p), Pv (i + 1), fun H' p' => ⟨n - (i + 1), by omega, rfl, hlt, p'⟩, fun x H' y => hs i x H H' hlt p (w.yields i H x H' hlt (hG i H hi p) y)⟩
  · have e : i = n := by omega
    subst e
    exact .inl ⟨w.stops H (hG i H hi p), hd H p⟩
end K58
set_option Elab.async false
set_option linter.all false
set_option maxRecDepth 100000
set_option maxHeartbeats 4000000
/-! SDC: a dict comprehension assigned to a plain local on one line; a dict comprehension over a list. -/
namespace SDC
open PySem PySem.Spec PyProof.Rows L2
section
variable {X : Cx}
theorem ps_setDc {i : Nat} {y : Str} {py : Pos} {kx vx tg iter : Expr} {ifs : List Expr} {scope : Scope} {own : List (Str × Nat)} {pos spos : Pos} {wi : TI} {g : TG} {tt : TT} {tk tv : TE} (hc : X.calm = true) (hN : X.N.Nodup) (hy : X.N[i]? = some y) (hyl : X.env.scope.names.lookup y = some .local)
    (hsw : swapsWith (.DictComp kx vx [⟨tg, iter, ifs, 0⟩] scope pos) (some (.Name y py)) spos.line X.env = pure true) (hi : PI X tg iter wi) (ok : BlkOk X.N X.env.scope scope own)
    (hg : ∀ (s : Shared) (H : Hp) (C : Addr) (cl : List (Str × Addr)) (fp : List Addr), PG (X.blk s H scope (compEnvC scope cl C X.env) fp) tg g) (ht : ∀ (s : Shared) (H : Hp) (C : Addr) (cl : List (Str × Addr)) (fp : List Addr), PTs (X.blk s H scope (compEnvC scope cl C X.env) fp) ifs tt)
    (hk : ∀ (s : Shared) (H : Hp) (C : Addr) (cl : List (Str × Addr)) (fp : List Addr), PE (X.blk s H scope (compEnvC scope cl C X.env) fp) kx tk)
    (he : ∀ (s : Shared) (H : Hp) (C : Addr) (cl : List (Str × Addr)) (fp : List Addr), PE (X.blk s H scope (compEnvC scope cl C X.env) fp) vx tv) (hs : ∀ x, foldedSetIterable iter X.env x = pure x := by intro _; rfl) :
    PS X (.Assign [.Name y py] (.DictComp kx vx [⟨tg, iter, ifs, 0⟩] scope pos) spos) (tAsg (tDc wi g tt tk tv (own.map (·.2))) (gName i)) := by
  refine ⟨fun pins s σ H D I h => ?_⟩
  rw [exec_Assign_Name_used _ _ _ _ hsw]
  refine wpAny_bind (wpAny_standAt (wpAny_bind ?_))
  show wpAny _ X.A (do let _ ← comprehension (.DictComp kx vx [⟨tg, iter, ifs, 0⟩] scope pos) scope X.env (firstIterPos [⟨tg, iter, ifs, 0⟩] pos) newDict false (eval iter X.env) (some (assign (.Name y py) X.env))) _ _ s
  have h : tDc wi g tt tk tv (own.map (·.2)) σ H (fun x H1 => gName i x σ H1 D.nx) := h
  refine wpAny_bind (thn (dc_core (Qf := fun _ s' => SP X pins D .next s') hc hN I hi ok hg ht hk he hs h fun L C s' m H' I' q hn f => ?_) fun _ s' hq => wpAny_pure (wpAny_pure hq))
  show wpAny _ _ (assign (.Name y py) X.env (.ref L)) _ _ _
  refine wpAny_assign_Name (store_ok2 (v := V.ref L) I' hN hy (.inl hyl) rfl (fun s2 I2 ⟨a, sb, ha⟩ => ?_) (.inr hyl))
  obtain ⟨f0, f1, f2, f3, f4, f5⟩ := f
  have haC : C ≠ a := by
    rcases ha with z | z
    · rw [z]; exact f1
    · exact fun e => f4 y a z e.symm
  refine ⟨m, hn.sameBut sb haC, fun h3 sb3 => ?_⟩
  exact ⟨_, H', I2.turned (t' := s2.toks) (fun b o hb e => (sb3.2 b hb).trans e) f0 f1 f3 f4 f5, q⟩
theorem sw_true {kx vx : Expr} {gs : List Comprehension} {scope : Scope} {pos py : Pos} {y : Str} {l : Nat} {env : Env} (hk : env.scope.kind = .function) (hy : env.scope.names.lookup y = some .local) (hl : (py.line == pos.line) = true)
    (ha : (scope.names.any fun (n, k) => n == y && (k == .local || k == .cell)) = false) : swapsWith (.DictComp kx vx gs scope pos) (some (.Name y py)) l env = pure true := by
  have ky : env.kindOf y = some .local := hy
  have hb : env.blockKind = .function := by unfold Env.blockKind; rw [hk]; rfl
  unfold swapsWith
  simp only [hb, ky, ha, Expr.pos, hl]
  rfl
end
theorem dc_list {K : PySem.W.Frag} {a : Addr} {xs : List V} {g : TG} {tt : TT} {tk tv : TE} {vs : List Nat} {σ : L2.St} {H1 : Hp} {D : Addr} {Qd : Hp → Prop} (Pv : Nat → Hp → Prop) (h0 : Pv 0 (upd H1 D (.dK []))) (hl : ∀ i H, i ≤ xs.length → Pv i H → SqL K H a xs)
    (hs : ∀ i x H, xs[i]? = some x → Pv i H → g x (wipe σ vs) H fun σ2 H2 => wipe σ2 vs = wipe σ vs ∧ tt σ2 H2 fun b H3 =>
      if b = true then tk σ2 H3 fun y H4 => tv σ2 H4 fun z H5 => ∃ kvs k, y = kV k ∧ H5 D = some (.dK kvs) ∧ kvs.length < sizeLine ∧ Pv (i + 1) (upd H5 D (.dK (putK kvs k z))) else Pv (i + 1) H3) (hd : ∀ H, Pv xs.length H → Qd H) :
    ∃ W : Nat → Nat → Hp → Prop, (∃ m, W 0 m (upd H1 D (.dK []))) ∧ ∀ i m H, W i m H →
      ((Itl K a).stop i H ∧ Qd H) ∨ ((Itl K a).go i H ∧ ∃ Nx : Hp → Prop, (∀ H', Nx H' → ∃ m', m' < m ∧ W (i + 1) m' H') ∧ ∀ x H', (Itl K a).yld i H x H' → g x (wipe σ vs) H' fun σ2 H2 => wipe σ2 vs = wipe σ vs ∧ tt σ2 H2 fun b H3 =>
        if b = true then tk σ2 H3 fun y H4 => tv σ2 H4 fun z H5 => ∃ kvs k, y = kV k ∧ H5 D = some (.dK kvs) ∧ kvs.length < sizeLine ∧ Nx (upd H5 D (.dK (putK kvs k z))) else Nx H3) := by
  refine ⟨fun i m H => m = xs.length - i ∧ i ≤ xs.length ∧ Pv i H, ⟨xs.length, by simp, Nat.zero_le _, h0⟩, ?_⟩
  rintro i m H ⟨rfl, hi, p⟩
  have q := hl i H hi p
  by_cases hlt : i < xs.length
  · refine .inr ⟨⟨xs, xs[i], q, by simp [hlt]⟩, Pv (i + 1), fun H' p' => ⟨xs.length - (i + 1), by omega, rfl, hlt, p'⟩, fun x H' y => ?_⟩
    obtain ⟨e, y⟩ := y
    subst e
    exact hs i x _ (y xs q) p
  · have e : i = xs.length := by omega
    subst e
    exact .inl ⟨⟨xs, q, Nat.le_refl _⟩, hd H p⟩
/-- a row that is put anew comes from one of the row -/
theorem perm_inv {α β : Type} {f : α → β} : ∀ {l' z : List β}, l'.Perm z → ∀ {l : List α}, l.map f = z → ∃ m : List α, m.Perm l ∧ l' = m.map f := by
  intro l' z h
  induction h with
  | nil =>
    intro l e
    cases l with
    | nil => exact ⟨[], .nil, rfl⟩
    | cons _ _ => cases e
  | cons x h ih =>
    intro l e
    cases l with
    | nil => cases e
    | cons a as =>
      simp only [List.map_cons, List.cons.injEq] at e
      obtain ⟨m, p, rfl⟩ := ih e.2
      exact ⟨a :: m, p.cons a, by rw [List.map_cons, e.1]⟩
  | swap x y t =>
    intro l e
    match l, e with
    | a :: b :: t', e =>
      simp only [List.map_cons, List.cons.injEq] at e
      obtain ⟨e1, e2, e3⟩ := e
      exact ⟨b :: a :: t', List.Perm.swap _ _ _, by rw [List.map_cons, List.map_cons, e1, e2, e3]⟩
  | trans h1 h2 ih1 ih2 =>
    intro l e
    obtain ⟨m2, p2, e2⟩ := ih2 e
    obtain ⟨m1, p1, e1⟩ := ih1 e2.symm
    exact ⟨m1, p1.trans p2, e1⟩
end SDC
set_option Elab.async false
set_option linter.all false
set_option maxRecDepth 100000
set_option maxHeartbeats 4000000
namespace K58
open PySem PySem.Spec PyProof.Rows L2
open C8 (Cal Mak Met pe_c pe_mk pe_mt pe_mt0)
open KM (pr Sz)
theorem zero_sub' (r : Rat) : 0 - r = -r := by rw [Rat.sub_eq_add_neg, Rat.zero_add]
theorem pr0 : pr (0 : Rat) = (0, 1) := rfl
theorem div01 : Rat.divInt 0 1 = 0 := by rw [Rat.zero_divInt]
theorem sz0 {n : Nat} (h : 0 < n) : Sz n (0 : Rat) := ⟨by show 0 < 2 ^ n; exact Nat.pow_pos (by decide), by show 1 < 2 ^ n; exact Nat.one_lt_two_pow (by omega)⟩
theorem put_top (q : Int × Int) (t : Int) : putF "top" (.int t) (shF q) = shF (t, q.2) := by
  unfold shF
  simp only [putF, if_neg tb, if_neg (show ¬ (("bottom" : Str) = "top") from fun z => tb z.symm), if_pos]
theorem put_bot (q : Int × Int) (b : Int) : putF "bottom" (.int b) (shF q) = shF (q.1, b) := by
  unfold shF
  simp only [putF, if_neg tb, if_neg (show ¬ (("bottom" : Str) = "top") from fun z => tb z.symm), if_pos]
theorem shF_len (q : Int × Int) : (shF q).length < 1000 := by
  unfold shF
  simp only [putF, if_neg tb, if_neg (show ¬ (("bottom" : Str) = "top") from fun z => tb z.symm)]
  show 2 < 1000
  decide
/-- the puts of a row of moves -/
def puts (ms : List (Addr × List Str × (Str → Rat))) : List (Str × Rat) := ms.flatMap fun m => m.2.1.map fun x => (x, m.2.2 x)
/-- a dict locked: what is known of the heap -/
theorem lockf {C : Addr} {H : Hp} {d : Addr} {L : List Str} {ad : Str → Addr} (hd : H d = some (dctO L fun x => .ref (ad x))) (od : Obj) :
    (upd H d (.frz od (dctO L fun x => .ref (ad x)))) d = some (.frz od (.dK (L.map fun x => ((Sum.inr x : Key), V.ref (ad x))))) ∧
    (∀ b o, H b = some o → b ≠ d → (upd H d (.frz od (dctO L fun x => .ref (ad x)))) b = some o) ∧
    (∀ b, (upd H d (.frz od (dctO L fun x => .ref (ad x)))) b = none → H b = none ∧ b ≠ d) ∧
    (∀ H', Same (upd H d (.frz od (dctO L fun x => .ref (ad x)))) H' → Same H (upd H' d (dctO L fun x => .ref (ad x)))) := by
  refine ⟨upd_same, fun b o e n => by rw [upd_ne n]; exact e, fun b e => ?_, fun H' s b o e => ?_⟩
  · by_cases z : b = d
    · subst z
      rw [upd_same] at e
      cases e
    · rw [upd_ne z] at e
      exact ⟨e, z⟩
  · by_cases z : b = d
    · subst z
      rw [upd_same, ← e, hd]
    · rw [upd_ne z]
      exact s _ _ (by rw [upd_ne z]; exact e)
theorem Sh.at_frz {C : Addr} {H : Hp} {p d : Addr} {q : Int × Int} {od : Obj} {u : HO} (h : Sh C H p q) (hd : H d = some (.frz od u)) : p ≠ d := fun z => by
  obtain ⟨dx, e⟩ := h
  rw [z, hd] at e
  cases e
theorem Sh.un {C : Addr} {H : Hp} {p d : Addr} {q : Int × Int} {o : HO} (h : Sh C H p q) (n : p ≠ d) : Sh C (upd H d o) p q := by
  obtain ⟨dx, e⟩ := h
  exact ⟨dx, by rw [upd_ne n]; exact e⟩
theorem nin_take {xs : List Str} (nd : xs.Nodup) {i : Nat} {z : Str} (h : xs[i]? = some z) : z ∉ xs.take i := fun hm => by
  obtain ⟨j, hj, e⟩ := List.mem_iff_getElem.mp hm
  rw [List.getElem_take] at e
  rw [List.length_take] at hj
  have e3 : xs[j]? = xs[i]? := by rw [h, List.getElem?_eq_getElem (by omega), e]
  have := (List.getElem?_inj (by omega) nd).mp e3
  omega
/-- one more put at the end, new -/
theorem SDc.more {C : Addr} {H : Hp} {D t : Addr} {L : List Str} {c : Str → Rat} {ad : Str → Addr} {i : Nat} {z : Str} (nd : L.Nodup) (hz : L[i]? = some z) (h1 : H D = some (dctO (L.take i) fun y => .ref (ad y))) (h2 : ∀ y ∈ L.take i, Sh C H (ad y) (pr (c y))) (ht : Sh C H t (pr (c z))) :
    SDc C (upd H D (.dK (putK ((L.take i).map fun y => ((Sum.inr y : Key), V.ref (ad y))) (Sum.inr z) (.ref t)))) D (L.take (i + 1)) c := by
  have := SDc.put (x := z) (v := c z) h1 h2 ht
  rw [take_one hz]
  have ek : addK (L.take i) z = L.take i ++ [z] := by unfold addK; rw [if_neg (nin_take nd hz)]
  rw [ek] at this
  obtain ⟨a3, q1, q2⟩ := this
  refine ⟨a3, q1, fun y hy => ?_⟩
  have := q2 y hy
  unfold setc at this
  by_cases e : y = z
  · subst e
    rw [if_pos rfl] at this
    exact this
  · rw [if_neg e] at this
    exact this
section
variable {P : Program} {w : World} {K : PySem.W.Frag} {mg : Str → Option Value} {base : Heap} {f C CT : Addr} {fd : FuncData}
theorem lessR {vs : List V} {H : Hp} {Q : VK} {E : XK} (h : sp2 C (· - ·) vs H Q E) : sp_less C vs H Q E := by
  obtain ⟨p, q, r, s, n, e, hp, hq, sr, ss, n0, n9, k⟩ := h
  refine ⟨p, q, _, _, n, e, hp, hq, ⟨bd_of sr, bd_of ss, n0, n9⟩, fun t H' a b c => k t H' a b ?_⟩
  rw [KM.pr_less] at c
  exact c
def spSS (C : Addr) : Sp := fun vs H Q _ => ∃ (p : Addr) (q : Int × Int), vs = [.ref p] ∧ Sh C H p q ∧ ∀ t H', Same H H' → H t = none → Sh C H' t q → Q (.ref t) H'
theorem ok_ss (F : Dn K d_same_share f fd) (T : Cl K mg C) (M1 : MakS1 P w K mg base C) : FnOk P w K mg base CX0 4 f fd ["share"] (spSS C) := by
  refine F.ok sc_same_share (fun vs H Q E h => ?_) (fun cdv A outer s H vs Q E hr h => ?_)
  · obtain ⟨p, q, rfl, _⟩ := h
    rfl
  · obtain ⟨p, q, rfl, ⟨dp, hp⟩, hQ⟩ := h
    refine ⟨_, PSs.nox (pss_cons (ps_set (i := 1) sc_same_share.nd rfl (.inl rfl) (pe_mk M1 hr (by decide) rfl (pa_cons pe_int pa_nil)))
      (pss_cons (ps_fld (pv 1) (pe_fld (pv 0) rfl) rfl)
      (pss_cons (ps_fld (pv 1) (pe_fld (pv 0) rfl) rfl)
      (pss_one (ps_ret (pv 1)))))), ?_⟩
    intro t dt nt ndt ne
    refine mk_in (n := 10) nt ndt (by decide) (by decide) (by decide) (by decide) fun H1 s1 ht => ⟨rfl, ?_⟩
    obtain ⟨d2, ht⟩ := ht
    have hp1 := s1 _ _ hp
    have npt : p ≠ t := ne_of_none hp nt
    refine ⟨_, rfl, p, C, dp, _, _, rfl, hp1, T.cl, T.nt, shF_top q, _, rfl, t, C, d2, _, rfl, ht, T.cl, T.nt, shF_len _, ?_⟩
    rw [put_top]
    have hp2 : (upd H1 t (.ins C d2 (shF (q.1, (pr (Rat.divInt 0 1)).2)))) p = some (.ins C dp (shF q)) := by rw [upd_ne npt]; exact hp1
    refine ⟨_, rfl, p, C, dp, _, _, rfl, hp2, T.cl, T.nb, shF_bot q, _, rfl, t, C, d2, _, rfl, upd_same, T.cl, T.nb, shF_len _, ?_⟩
    rw [put_bot]
    refine ⟨_, rfl, hQ t _ (fun b o e => ?_) nt ⟨d2, upd_same⟩⟩
    have nb : b ≠ t := ne_of_none e nt
    rw [upd_ne nb, upd_ne nb]
    exact s1 _ _ e
def spTu (C : Addr) : Sp := fun vs H Q _ => ∃ (d : Addr) (L : List Str) (c : Str → Rat), vs = [.ref d] ∧ SDc C H d L c ∧ L.Nodup ∧ L.length ≤ 300 ∧ (∀ x ∈ L, Sz 3900 (c x)) ∧
  ∀ d' H', Same H H' → H d' = none → SDc C H' d' L (fun x => -(c x)) → Q (.ref d') H'
theorem ok_tu (F : Dn K d_turned f fd) (M1 : MakS1 P w K mg base C) (mL : Met P w K mg base 4 C "less" (sp2 C (· - ·)) []) : FnOk P w K mg base CX0 5 f fd ["standing"] (spTu C) := by
  refine F.ok sc_turned (fun vs H Q E h => ?_) (fun cdv A outer s H vs Q E hr h => ?_)
  · obtain ⟨d, L, c, rfl, _⟩ := h
    rfl
  · obtain ⟨d, L, c, rfl, ⟨ad, hd, hv⟩, nd, l3, hz, hQ⟩ := h
    have hu := hu_of hr
    refine ⟨_, PSs.nox (pss_one (ps_ret (pe_lock (pe_dc (own := [("name", 1)]) (g := gName 1) (tt := tYes) rfl sc_turned.nd (pi_keys (pv 0)) (blkOk_by (N := N_turned) (sc := defScope s_turned) (by decide +kernel))
      (fun _ _ _ _ _ => pg_name (i := 1) sc_turned.nd rfl (.inl rfl)) (fun _ _ _ _ _ => pts_nil) (fun _ _ _ _ _ => pv 1)
      (fun _ _ _ _ _ => pe_mt mL hr (by decide) (pe_mk M1 hr (by decide) rfl (pa_cons pe_int pa_nil)) (pa_cons (pe_dget hu (pv 0) (pv 1) (fun _ _ => rfl)) pa_nil)))))), ?_⟩
    refine ⟨d, _, hd, trivial, fun od => ?_⟩
    have hd1 : (upd H d (.frz od (dctO L fun x => .ref (ad x)))) d = some (.frz od (.dK (L.map fun x => ((Sum.inr x : Key), V.ref (ad x))))) := upd_same
    have hv1 : ∀ x ∈ L, Sh C (upd H d (.frz od (dctO L fun x => .ref (ad x)))) (ad x) (pr (c x)) := fun x hx => by
      have n := (hv x hx).at_ne hd
      obtain ⟨dx, e⟩ := hv x hx
      exact ⟨dx, by rw [upd_ne n]; exact e⟩
    have back : ∀ {H' : Hp}, Same (upd H d (.frz od (dctO L fun x => .ref (ad x)))) H' → Same H (upd H' d (dctO L fun x => .ref (ad x))) := fun {H'} s b o e => by
      by_cases z : b = d
      · subst z
        rw [upd_same, ← e, hd]
      · rw [upd_ne z]
        exact s _ _ (by rw [upd_ne z]; exact e)
    have new : ∀ {b : Addr}, (upd H d (.frz od (dctO L fun x => .ref (ad x)))) b = none → H b = none ∧ b ≠ d := fun {b} e => by
      by_cases z : b = d
      · subst z
        rw [hd1] at e
        cases e
      · rw [upd_ne z] at e
        exact ⟨e, z⟩
    generalize upd H d (.frz od (dctO L fun x => .ref (ad x))) = H1 at hd1 hv1 back new
    refine ⟨_, rfl, d, od, rfl, .inl ⟨_, hd1, fun D hD => dc_it walk_keys (fun i H2 => SDc C H2 D (L.take i) (fun x => -(c x)) ∧ Same H1 H2) ⟨⟨fun _ => 0, upd_same, fun x hx => by simp at hx⟩, same_new hD⟩ (fun i H2 _ z => z.2 _ _ hd1) ?_ ?_⟩⟩
    · rintro i x H2 H3 hi ⟨⟨a2, hdd, hval⟩, sm⟩ ⟨rfl, k, v, hk, rfl⟩
      rw [List.length_map] at hi
      rw [List.getElem?_map] at hk
      obtain ⟨z, hz0, e0⟩ := Option.map_eq_some_iff.mp hk
      cases e0
      have hzL := List.mem_of_getElem? hz0
      have nz : z ∉ L.take i := fun hm => by
        obtain ⟨j, hj, e⟩ := List.mem_iff_getElem.mp hm
        rw [List.getElem_take] at e
        rw [List.length_take] at hj
        have e3 : L[j]? = L[i]? := by rw [hz0, List.getElem?_eq_getElem (by omega), e]
        have := (List.getElem?_inj (by omega) nd).mp e3
        omega
      refine ⟨rfl, ?_⟩
      refine ⟨_, rfl, ?_⟩
      intro t dt nt ndt ne
      refine mk_in (n := 10) nt ndt (by decide) (by decide) (by decide) (by decide) fun H4 s4 ht => ⟨rfl, ?_⟩
      rw [div01] at ht
      obtain ⟨d2, htt⟩ := id ht
      have s14 := sm.trans s4
      have dg : DGet H4 d (.str z) (some (.ref (ad z))) := .inl ⟨_, Sum.inr z, .inr ⟨od, s14 _ _ hd1⟩, rfl, by rw [val_dct, if_pos hzL]⟩
      refine ⟨t, d2, _, rfl, htt, shF_no _ (by decide +kernel) (by decide +kernel), _, rfl, _, rfl, d, _, rfl, dg, ?_⟩
      refine ⟨t, ad z, 0, c z, 3900, rfl, ht, (hv1 z hzL).keep s14, sz0 (by decide), hz z hzL, by decide, by decide, fun r H5 s5 fr hr5 => ?_⟩
      have hr5 : Sh C H5 r (pr (-(c z))) := by rw [← zero_sub']; exact hr5
      have s25 := s4.trans s5
      have hD5 := s25 _ _ hdd
      refine ⟨_, Sum.inr z, rfl, hD5, by rw [List.length_map, List.length_take]; exact line_lt (by omega), ?_, fun b o e => ?_⟩
      · have := SDc.put (x := z) (v := -(c z)) hD5 (fun y hy => (hval y hy).keep s25) hr5
        rw [take_one hz0]
        have ek : addK (L.take i) z = L.take i ++ [z] := by unfold addK; rw [if_neg nz]
        rw [ek] at this
        obtain ⟨a3, q1, q2⟩ := this
        refine ⟨a3, q1, fun y hy => ?_⟩
        have := q2 y hy
        unfold setc at this
        by_cases e : y = z
        · subst e
          rw [if_pos rfl] at this
          exact this
        · rw [if_neg e] at this
          exact this
      · rw [upd_ne (ne_of_none e hD)]
        exact s25 _ _ (sm _ _ e)
    · rintro H2 ⟨⟨a2, hdd, hval⟩, sm⟩
      rw [List.length_map, List.take_length] at hdd hval
      obtain ⟨nD, nDd⟩ := new hD
      refine ⟨sm _ _ hd1, hQ D _ (back sm) nD ⟨a2, by rw [upd_ne nDd]; exact hdd, fun x hx => ?_⟩⟩
      obtain ⟨dx, e⟩ := hval x hx
      have n : a2 x ≠ d := fun z => by rw [z, sm _ _ hd1] at e; cases e
      exact ⟨dx, by rw [upd_ne n]; exact e⟩
/-- moves stand in a list -/
def MvL (C : Addr) (H : Hp) (l : Addr) (ms : List (Addr × List Str × (Str → Rat))) : Prop := H l = some (.lst (ms.map fun m => V.ref m.1)) ∧ ∀ m ∈ ms, SDc C H m.1 m.2.1 m.2.2
theorem MvL.same {H H' : Hp} {l : Addr} {ms : List (Addr × List Str × (Str → Rat))} (h : MvL C H l ms) (s : Same H H') : MvL C H' l ms := ⟨s _ _ h.1, fun m hm => (h.2 m hm).same s⟩
theorem puts_app (ms ns : List (Addr × List Str × (Str → Rat))) : puts (ms ++ ns) = puts ms ++ puts ns := by
  unfold puts
  rw [List.flatMap_append]
theorem puts_one (m : Addr × List Str × (Str → Rat)) : puts [m] = m.2.1.map fun x => (x, m.2.2 x) := by
  unfold puts
  simp
def spJo (C : Addr) : Sp := fun vs H Q _ => ∃ (d l : Addr) (L : List Str) (c : Str → Rat) (ms : List (Addr × List Str × (Str → Rat))) (n k : Nat), vs = [.ref d, .ref l] ∧ SDc C H d L c ∧ L.Nodup ∧ MvL C H l ms ∧ (∀ x ∈ L, Sz n (c x)) ∧ 0 < n ∧ (∀ p ∈ puts ms, Sz k p.2) ∧ n + (k + 1) * (puts ms).length ≤ 3900 ∧ k ≤ 3900 ∧ L.length + (puts ms).length ≤ 3000 ∧
  ∀ D H', Same H H' → H D = none → SDc C H' D (mvL (L, c) (puts ms)).1 (mvL (L, c) (puts ms)).2 → Q (.ref D) H'
theorem ok_jo (F : Dn K d_joined f fd) (M1 : MakS1 P w K mg base C) (mP : Met P w K mg base 4 C "plus" (sp2 C (· + ·)) []) (cS : Cal P w K mg base 4 "same_share" (spSS C) []) : FnOk P w K mg base CX0 5 f fd ["standing", "moves"] (spJo C) := by
  refine F.ok sc_joined (fun vs H Q E h => ?_) (fun cdv A outer s H vs Q E hr h => ?_)
  · obtain ⟨d, l, L, c, ms, n, k, rfl, _⟩ := h
    rfl
  · obtain ⟨d, l, L, c, ms, n, k, rfl, ⟨ad, hd, hv⟩, nd, hms, hz, n0, hk, hnk, hk9, hl9, hQ⟩ := h
    have hu := hu_of hr
    have gz : ∀ x, Sz n (get0 L c x) := fun x => by
      unfold get0
      split
      · rename_i hx
        exact hz x hx
      · exact sz0 n0
    refine ⟨_, PSs.nox (pss_cons (ps_lock (SDC.ps_setDc (i := 3) (own := [("name", 2)]) (g := gName 2) (tt := tYes) rfl sc_joined.nd rfl rfl (SDC.sw_true rfl rfl rfl (by decide +kernel)) (pi_keys (pv 0)) (blkOk_by (N := N_joined) (sc := defScope s_joined) (by decide +kernel))
        (fun _ _ _ _ _ => pg_name (i := 2) sc_joined.nd rfl (.inl rfl)) (fun _ _ _ _ _ => pts_nil) (fun _ _ _ _ _ => pv 2)
        (fun _ _ _ _ _ => pe_c cS hr (by decide) rfl (pa_cons (pe_dget hu (pv 0) (pv 2) (fun _ _ => rfl)) pa_nil))))
      (pss_cons (ps_for PassesOwn.never rfl (pi_list (pv 1)) (pg_name (i := 4) sc_joined.nd rfl (.inl rfl))
        (pss_one (ps_lock (ps_for PassesOwn.never rfl (pi_keys (pv 4)) (pg_name (i := 2) sc_joined.nd rfl (.inl rfl))
          (pss_one (ps_dput hu (pv 3) (pv 2) (pe_mt mP hr (by decide) (pe_dget2 hu (pv 3) (pv 2) (pe_mk M1 hr (by decide) rfl (pa_cons pe_int pa_nil)) ⟨rfl, rfl, rfl, rfl⟩) (pa_cons (pe_dget hu (pv 4) (pv 2) (fun _ _ => rfl)) pa_nil)) rfl))))))
      (pss_one (ps_ret (pv 3))))), ?_⟩
    refine ⟨d, _, hd, trivial, fun od => ?_⟩
    obtain ⟨hd1, kp1, new1, back1⟩ := lockf (C := C) hd od
    have hv1 : ∀ x ∈ L, Sh C (upd H d (.frz od (dctO L fun x => .ref (ad x)))) (ad x) (pr (c x)) := fun x hx => (hv x hx).un ((hv x hx).at_ne hd)
    generalize upd H d (.frz od (dctO L fun x => .ref (ad x))) = H1 at hd1 kp1 new1 back1 hv1
    refine ⟨_, rfl, d, od, rfl, .inl ⟨_, hd1, fun D hD => dc_it walk_keys (fun i H2 => SDc C H2 D (L.take i) c ∧ Same H1 H2) ⟨⟨fun _ => 0, upd_same, fun x hx => by simp at hx⟩, same_new hD⟩ (fun i H2 _ z => z.2 _ _ hd1) ?_ ?_⟩⟩
    · rintro i x H2 H3 hi ⟨⟨a2, hdd, hval⟩, sm⟩ ⟨eH, kk, v, hkk, rfl⟩
      have eH := eH.symm
      subst eH
      rw [List.length_map] at hi
      rw [List.getElem?_map] at hkk
      obtain ⟨z, hz0, e0⟩ := Option.map_eq_some_iff.mp hkk
      cases e0
      have hzL := List.mem_of_getElem? hz0
      refine ⟨rfl, ?_⟩
      have dg : DGet H2 d (.str z) (some (.ref (ad z))) := .inl ⟨_, Sum.inr z, .inr ⟨od, sm _ _ hd1⟩, rfl, by rw [val_dct, if_pos hzL]⟩
      refine ⟨_, rfl, _, rfl, _, rfl, d, _, rfl, dg, ad z, _, rfl, (hv1 z hzL).keep sm, fun t H4 s4 ft ht => ?_⟩
      have hD4 := s4 _ _ hdd
      refine ⟨_, Sum.inr z, rfl, hD4, by rw [List.length_map, List.length_take]; exact line_lt (by omega), SDc.more nd hz0 hD4 (fun y hy => (hval y hy).keep s4) ht, fun b o e => ?_⟩
      rw [upd_ne (ne_of_none e hD)]
      exact s4 _ _ (sm _ _ e)
    rintro H2 ⟨⟨a2, hdd, hval⟩, sm⟩
    rw [List.length_map, List.take_length] at hdd hval
    obtain ⟨nD, nDd⟩ := new1 D hD
    have s02 := back1 H2 sm
    have hd2 := sm _ _ hd1
    have S0 : SDc C (upd H2 d (dctO L fun x => .ref (ad x))) D L c := ⟨a2, by rw [upd_ne nDd]; exact hdd, fun x hx => (hval x hx).un ((hval x hx).at_frz hd2)⟩
    refine ⟨hd2, ?_⟩
    generalize upd H2 d (dctO L fun x => .ref (ad x)) = H3 at s02 S0
    clear hv1 hd1 kp1 new1 back1 hval hdd hd2 sm
    -- the moves
    refine ⟨_, rfl, l, rfl, ⟨_, SqL.of (s02 _ _ hms.1)⟩, for_list (K := K) (xs := ms.map fun m => V.ref m.1) (fun i σ H' => ∃ (v2 v4 : Option V), σ = [some (.ref d), some (.ref l), v2, some (.ref D), v4] ∧ Same H H' ∧ SDc C H' D (mvL (L, c) (puts (ms.take i))).1 (mvL (L, c) (puts (ms.take i))).2)
      ⟨_, _, rfl, s02, S0⟩ (fun i σ H' _ z => by obtain ⟨_, _, _, sm, _⟩ := z; exact SqL.of (sm _ _ hms.1)) ?_ ?_⟩
    · rintro i v σ H4 hi ⟨v2, v4, rfl, s4, S4⟩
      rw [List.getElem?_map] at hi
      obtain ⟨m, hm, rfl⟩ := Option.map_eq_some_iff.mp hi
      have hmm := List.mem_of_getElem? hm
      have hil : i < ms.length := (List.getElem?_eq_some_iff.mp hm).1
      obtain ⟨am, hmd0, hmv0⟩ := hms.2 m hmm
      have hmd := s4 _ _ hmd0
      have nDm : D ≠ m.1 := fun z => by rw [← z, nD] at hmd0; cases hmd0
      -- how many puts
      have tot : puts ms = puts (ms.take i) ++ ((m.2.1.map fun x => (x, m.2.2 x)) ++ puts (ms.drop (i + 1))) := by
        have : ms = ms.take i ++ ([m] ++ ms.drop (i + 1)) := by
          have h1 : ms[i] = m := by rw [List.getElem?_eq_getElem hil] at hm; exact Option.some.inj hm
          rw [List.singleton_append, ← h1, ← List.drop_eq_getElem_cons hil, List.take_append_drop]
        conv => lhs; rw [this]
        rw [puts_app, puts_app, puts_one]
      have tl := congrArg List.length tot
      rw [List.length_append, List.length_append, List.length_map] at tl
      refine ⟨m.1, _, hmd, trivial, fun od2 => ?_⟩
      obtain ⟨he1, kp2, new2, back2⟩ := lockf (C := C) hmd od2
      have S5 : SDc C (upd H4 m.1 (.frz od2 (dctO m.2.1 fun x => .ref (am x)))) D (mvL (L, c) (puts (ms.take i))).1 (mvL (L, c) (puts (ms.take i))).2 := by
        obtain ⟨a4, q1, q2⟩ := S4
        exact ⟨a4, kp2 _ _ q1 nDm, fun x hx => (q2 x hx).un ((q2 x hx).at_ne hmd)⟩
      have hmv1 : ∀ x ∈ m.2.1, Sh C (upd H4 m.1 (.frz od2 (dctO m.2.1 fun x => .ref (am x)))) (am x) (pr (m.2.2 x)) := fun x hx => ((hmv0 x hx).keep s4).un (((hmv0 x hx).keep s4).at_ne hmd)
      generalize upd H4 m.1 (.frz od2 (dctO m.2.1 fun x => .ref (am x))) = H5 at he1 kp2 new2 back2 S5 hmv1
      refine ⟨_, rfl, m.1, od2, rfl, .inl ⟨_, he1, for_it walk_keys (fun j σ H' => ∃ (v2 : Option V), σ = [some (.ref d), some (.ref l), v2, some (.ref D), some (.ref m.1)] ∧ (∀ b o, H5 b = some o → b ≠ D → H' b = some o) ∧ SDc C H' D (mvL (L, c) (puts (ms.take i) ++ (m.2.1.take j).map fun x => (x, m.2.2 x))).1 (mvL (L, c) (puts (ms.take i) ++ (m.2.1.take j).map fun x => (x, m.2.2 x))).2)
        ⟨_, rfl, fun b o e _ => e, by rw [List.take_zero, List.map_nil, List.append_nil]; exact S5⟩ (fun j σ H' _ z => by obtain ⟨_, _, k5, _⟩ := z; exact k5 _ _ he1 nDm.symm) ?_ ?_⟩⟩
      · rintro j x σ H6 H7 hj ⟨v2, rfl, k6, a6, hdd6, hval6⟩ ⟨eH, kk, v, hkk, rfl⟩
        have eH := eH.symm
        subst eH
        rw [List.length_map] at hj
        rw [List.getElem?_map] at hkk
        obtain ⟨z, hz0, e0⟩ := Option.map_eq_some_iff.mp hkk
        cases e0
        have hzM := List.mem_of_getElem? hz0
        obtain ⟨u, hu0⟩ : ∃ u, u = mvL (L, c) (puts (ms.take i) ++ (m.2.1.take j).map fun x => (x, m.2.2 x)) := ⟨_, rfl⟩
        have zs := mvL_sz (k := k) (puts (ms.take i) ++ (m.2.1.take j).map fun x => (x, m.2.2 x)) (L, c) n gz (fun p hp => hk p (by
          rw [tot]
          rcases List.mem_append.mp hp with q | q
          · exact List.mem_append_left _ q
          · obtain ⟨y, hy, rfl⟩ := List.mem_map.mp q
            exact List.mem_append_right _ (List.mem_append_left _ (List.mem_map.mpr ⟨y, List.mem_of_mem_take hy, rfl⟩))))
        have ul := mvL_len (puts (ms.take i) ++ (m.2.1.take j).map fun x => (x, m.2.2 x)) (L, c)
        rw [List.length_append, List.length_map, List.length_take] at zs ul
        rw [← hu0] at hdd6 hval6 zs ul
        have ul : u.1.length ≤ L.length + ((puts (ms.take i)).length + min j m.2.1.length) := ul
        have pl : (puts (ms.take i)).length + min j m.2.1.length ≤ (puts ms).length := by omega
        have mul : (k + 1) * ((puts (ms.take i)).length + min j m.2.1.length) ≤ (k + 1) * (puts ms).length := Nat.mul_le_mul_left _ pl
        have kz : Sz k (m.2.2 z) := hk (z, m.2.2 z) (by
          rw [tot]
          exact List.mem_append_right _ (List.mem_append_left _ (List.mem_map.mpr ⟨z, hzM, rfl⟩)))
        have dgm : DGet H6 m.1 (.str z) (some (.ref (am z))) := .inl ⟨_, Sum.inr z, .inr ⟨od2, k6 _ _ he1 nDm.symm⟩, rfl, by rw [val_dct, if_pos hzM]⟩
        have shm : Sh C H6 (am z) (pr (m.2.2 z)) := by
          obtain ⟨dx, e⟩ := hmv0 z hzM
          have nD2 : am z ≠ D := fun q => by rw [q, nD] at e; cases e
          obtain ⟨dx2, e2⟩ := hmv1 z hzM
          exact ⟨dx2, k6 _ _ e2 nD2⟩
        refine ⟨_, rfl, D, rfl, .inl ⟨_, .inl hdd6⟩, _, rfl, ?_⟩
        intro t dt nt ndt ne
        refine mk_in (n := 10) nt ndt (by decide) (by decide) (by decide) (by decide) fun H7 s7 ht => ⟨rfl, ?_⟩
        rw [div01] at ht
        have hD7 := s7 _ _ hdd6
        have dg7 : DGet H7 D (.str z) (valV (u.1.map fun y => ((Sum.inr y : Key), V.ref (a6 y))) (Sum.inr z)) := DGet.k (k := Sum.inr z) hD7
        rw [val_dct] at dg7
        obtain ⟨w0, hw0, sw0⟩ : ∃ w0, ((if z ∈ u.1 then some (V.ref (a6 z)) else none).getD (.ref t)) = .ref w0 ∧ Sh C H7 w0 (pr (get0 u.1 u.2 z)) := by
          unfold get0
          by_cases hzu : z ∈ u.1
          · rw [if_pos hzu, if_pos hzu]
            exact ⟨_, rfl, (hval6 z hzu).keep s7⟩
          · rw [if_neg hzu, if_neg hzu]
            exact ⟨_, rfl, ht⟩
        obtain ⟨dw, hw1⟩ := id sw0
        refine ⟨_, dg7, w0, dw, _, hw0, hw1, shF_no _ (by decide +kernel) (by decide +kernel), _, rfl, _, rfl, m.1, .ref (am z), rfl, ?_, ?_⟩
        · obtain ⟨kvs, kk2, r1, r2, r3⟩ | ⟨_, _, _, _, r2, _⟩ := dgm
          · refine .inl ⟨kvs, kk2, ?_, r2, r3⟩
            rcases r1 with r1 | ⟨o1, r1⟩
            · exact .inl (s7 _ _ r1)
            · exact .inr ⟨o1, s7 _ _ r1⟩
          · cases r2
        refine ⟨w0, am z, _, _, 3900, (by rw [hw0]; rfl), sw0, shm.keep s7, (zs z).mono (by omega), kz.mono hk9, by decide, by decide, fun r H8 s8 fr hr8 => ?_⟩
        have s68 := s7.trans s8
        have hD8 := s68 _ _ hdd6
        have fin := SDc.put (x := z) (v := get0 u.1 u.2 z + m.2.2 z) hD8 (fun y hy => (hval6 y hy).keep s68) hr8
        refine ⟨_, rfl, _, rfl, D, _, rfl, DPut.k (k := Sum.inr z) hD8 (by rw [List.length_map]; exact line_lt (by omega)), _, rfl, fun b o e nb => ?_, ?_⟩
        · rw [upd_ne nb]
          exact s68 _ _ (k6 _ _ e nb)
        · rw [take_one hz0, List.map_append, ← List.append_assoc]
          have e : mvL (L, c) ((puts (ms.take i) ++ (m.2.1.take j).map fun x => (x, m.2.2 x)) ++ [(z, m.2.2 z)]) = mv u (z, m.2.2 z) := by rw [mvL_snoc, ← hu0]
          show SDc C _ D (mvL (L, c) ((puts (ms.take i) ++ (m.2.1.take j).map fun x => (x, m.2.2 x)) ++ [(z, m.2.2 z)])).1 (mvL (L, c) ((puts (ms.take i) ++ (m.2.1.take j).map fun x => (x, m.2.2 x)) ++ [(z, m.2.2 z)])).2
          rw [e]
          exact fin
      · rintro σ H6 ⟨v2, rfl, k6, S6⟩
        rw [List.length_map, List.take_length] at S6
        have he6 := k6 _ _ he1 nDm.symm
        refine ⟨he6, _, _, rfl, fun b o e => ?_, ?_⟩
        · have nb : b ≠ D := ne_of_none e nD
          by_cases z : b = m.1
          · subst z
            rw [upd_same, ← s4 _ _ e, hmd]
          · rw [upd_ne z]
            exact k6 _ _ (kp2 _ _ (s4 _ _ e) z) nb
        · rw [take_one hm, puts_app, puts_one]
          obtain ⟨a6, q1, q2⟩ := S6
          exact ⟨a6, by rw [upd_ne nDm]; exact q1, fun x hx => (q2 x hx).un ((q2 x hx).at_frz he6)⟩
    · rintro σ H4 ⟨v2, v4, rfl, s4, S4⟩
      rw [List.length_map, List.take_length] at S4
      exact ⟨_, rfl, hQ D H4 s4 nD S4⟩
end
end K58
set_option Elab.async false
set_option linter.all false
set_option maxRecDepth 100000
set_option maxHeartbeats 4000000
namespace K58
open PySem PySem.Spec PyProof.Rows L2
open C8 (Cal Mak Met pe_c pe_mk pe_mt pe_mt0)
open KM (pr Sz)
/-- a hand-over: where it stands, who pays, who takes, its share -/
structure Ro where
  a : Addr
  p : Str
  t : Str
  s : Addr
  v : Rat
def mvs (rows : List Ro) : List (Str × Rat) := rows.flatMap fun r => [(r.p, r.v), (r.t, -r.v)]
theorem mvs_snoc (rows : List Ro) (r : Ro) : mvs (rows ++ [r]) = mvs rows ++ [(r.p, r.v), (r.t, -r.v)] := by
  unfold mvs
  rw [List.flatMap_append]
  simp
theorem mvs_len (rows : List Ro) : (mvs rows).length = 2 * rows.length := by
  unfold mvs
  induction rows with
  | nil => rfl
  | cons r rows ih =>
    rw [List.flatMap_cons, List.length_append, ih]
    simp
    omega
theorem sz_neg {n : Nat} {r : Rat} (h : Sz n r) : Sz n (-r) := ⟨by rw [Rat.neg_num, Int.natAbs_neg]; exact h.1, by rw [Rat.neg_den]; exact h.2⟩
theorem mvs_sz {n : Nat} {rows : List Ro} (h : ∀ r ∈ rows, Sz n r.v) : ∀ p ∈ mvs rows, Sz n p.2 := fun p hp => by
  obtain ⟨r, hr, hp⟩ := List.mem_flatMap.mp hp
  simp only [List.mem_cons, List.not_mem_nil, or_false] at hp
  rcases hp with rfl | rfl
  · exact h r hr
  · exact sz_neg (h r hr)
/-- hand-overs of Shares in a list -/
def HL (C : Addr) (H : Hp) (l : Addr) (rows : List Ro) : Prop := H l = some (.lst (rows.map fun r => V.ref r.a)) ∧ ∀ r ∈ rows, H r.a = some (.tup [.str r.p, .str r.t, .ref r.s]) ∧ Sh C H r.s (pr r.v)
theorem HL.same {C : Addr} {H H' : Hp} {l : Addr} {rows : List Ro} (h : HL C H l rows) (s : Same H H') : HL C H' l rows := ⟨s _ _ h.1, fun r hr => ⟨s _ _ (h.2 r hr).1, (h.2 r hr).2.keep s⟩⟩
theorem SDc.un {C : Addr} {H : Hp} {d l : Addr} {L : List Str} {c : Str → Rat} {xs : List V} {o : HO} (h : SDc C H d L c) (hl : H l = some (.lst xs)) : SDc C (upd H l o) d L c := by
  obtain ⟨ad, h1, h2⟩ := h
  refine ⟨ad, by rw [upd_ne fun z => by rw [z, hl] at h1; cases h1]; exact h1, fun x hx => ?_⟩
  obtain ⟨dx, e⟩ := h2 x hx
  exact ⟨dx, by rw [upd_ne fun z => by rw [z, hl] at e; cases e]; exact e⟩
/-- {x: share} -/
theorem one_dict {C : Addr} {H : Hp} {d s : Addr} {x : Str} {v : Rat} (hd : H d = none) (hs : Sh C H s (pr v)) : SDc C (upd H d (.dK (putK [] (Sum.inr x) (.ref s)))) d [x] (fun _ => v) := by
  refine ⟨fun _ => s, upd_same, fun y hy => ?_⟩
  obtain ⟨dx, e⟩ := hs
  exact ⟨dx, by rw [upd_ne (ne_of_none e hd)]; exact e⟩
section
variable {P : Program} {w : World} {K : PySem.W.Frag} {mg : Str → Option Value} {base : Heap} {f C CT : Addr} {fd : FuncData}
def spAf (C : Addr) : Sp := fun vs H Q _ => ∃ (d l : Addr) (L : List Str) (c : Str → Rat) (rows : List Ro), vs = [.ref d, .ref l] ∧ SDc C H d L c ∧ L.Nodup ∧ HL C H l rows ∧ (∀ x ∈ L, Sz 300 (c x)) ∧ (∀ r ∈ rows, Sz 300 r.v) ∧ L.length ≤ 30 ∧ rows.length ≤ 1 ∧
  ∀ D H', Same H H' → H D = none → SDc C H' D (mvL (L, c) (mvs rows)).1 (mvL (L, c) (mvs rows)).2 → Q (.ref D) H'
theorem ok_af (F : Dn K d_after f fd) (cT : Cal P w K mg base 5 "turned" (spTu C) []) (cJ : Cal P w K mg base 5 "joined" (spJo C) []) : FnOk P w K mg base CX0 6 f fd ["standing", "handed"] (spAf C) := by
  refine F.ok sc_after (fun vs H Q E h => ?_) (fun cdv A outer s H vs Q E hr h => ?_)
  · obtain ⟨d, l, L, c, rows, rfl, _⟩ := h
    rfl
  · obtain ⟨d, l, L, c, rows, rfl, hS, nd, hl, hz, hr12, ll, lr, hQ⟩ := h
    refine ⟨_, PSs.nox (pss_cons (ps_set (i := 2) sc_after.nd rfl (.inl rfl) (pe_lst pa_nil))
      (pss_cons (ps_for PassesOwn.never rfl (pi_list (pv 1)) (pg_tup rfl (pgs_cons (pg_name (i := 3) sc_after.nd rfl (.inl rfl)) (pgs_cons (pg_name (i := 4) sc_after.nd rfl (.inl rfl)) (pgs_cons (pg_name (i := 5) sc_after.nd rfl (.inl rfl)) pgs_nil))))
        (pss_cons (ps_expr (pe_bm PySem.F.plainAttrs_list PySem.F.slot_list_append PySem.F.type_list_append mt_append (pv 2) (pa_cons (pe_disp (pps_cons (pv 3) (pv 5) pps_nil) rfl rfl (by simp) (by decide)) pa_nil)))
        (pss_one (ps_expr (pe_bm PySem.F.plainAttrs_list PySem.F.slot_list_append PySem.F.type_list_append mt_append (pv 2) (pa_cons (pe_c cT hr (by decide) rfl (pa_cons (pe_disp (pps_cons (pv 4) (pv 5) pps_nil) rfl rfl (by simp) (by decide)) pa_nil)) pa_nil))))))
      (pss_one (ps_ret (pe_c cJ hr (by decide) rfl (pa_cons (pv 0) (pa_cons (pv 2) pa_nil))))))), ?_⟩
    refine ⟨by show 0 ≤ sizeLine; decide, fun ml fml => ?_⟩
    have s1 := same_new (o := .lst []) fml
    have hml : (upd H ml (.lst [])) ml = some (.lst []) := upd_same
    generalize upd H ml (.lst []) = H1 at s1 hml
    refine ⟨_, rfl, l, rfl, ⟨_, SqL.of (s1 _ _ hl.1)⟩, for_list (K := K) (xs := rows.map fun r => V.ref r.a) (fun i σ H' => ∃ (v3 v4 v5 : Option V) (ms : List (Addr × List Str × (Str → Rat))), σ = [some (.ref d), some (.ref l), some (.ref ml), v3, v4, v5] ∧ Same H H' ∧ MvL C H' ml ms ∧ ms.length = 2 * i ∧ puts ms = mvs (rows.take i))
      ⟨_, _, _, [], rfl, s1, ⟨hml, fun m hm => nomatch hm⟩, rfl, rfl⟩ (fun i σ H' _ z => by obtain ⟨_, _, _, _, _, sm, _⟩ := z; exact SqL.of (sm _ _ hl.1)) ?_ ?_⟩
    · rintro i v σ H2 hi ⟨v3, v4, v5, ms, rfl, s2, hms, hlen, hp⟩
      rw [List.getElem?_map] at hi
      obtain ⟨r, hr0, rfl⟩ := Option.map_eq_some_iff.mp hi
      have hrm := List.mem_of_getElem? hr0
      have hil : i < rows.length := (List.getElem?_eq_some_iff.mp hr0).1
      obtain ⟨ht0, hs0⟩ := hl.2 r hrm
      refine ⟨r.a, _, rfl, SqT.of (s2 _ _ ht0), rfl, _, _, rfl, _, _, rfl, _, _, rfl, rfl, ?_⟩
      refine ⟨_, rfl, .inl ⟨rfl, _, SqL.of hms.1⟩, fun d1 fd1 => ?_⟩
      have sa := same_new (o := .dK []) fd1
      refine ⟨_, rfl, _, rfl, upd_same, [(Sum.inr r.p, .ref r.s)], rfl, by show 1 ≤ 15; decide, ?_⟩
      have D1 : SDc C (upd (upd H2 d1 (.dK [])) d1 (.dK (mergeK [] [((Sum.inr r.p : Key), V.ref r.s)]))) d1 [r.p] (fun _ => r.v) := by
        have := one_dict (x := r.p) fd1 (hs0.keep s2)
        have e : upd (upd H2 d1 (.dK [])) d1 (.dK (mergeK [] [((Sum.inr r.p : Key), V.ref r.s)])) = upd H2 d1 (.dK (putK [] (Sum.inr r.p) (.ref r.s))) := by
          funext b
          by_cases z : b = d1
          · subst z; rw [upd_same, upd_same]; rfl
          · rw [upd_ne z, upd_ne z, upd_ne z]
        rw [e]
        exact this
      have s23 : Same H2 (upd (upd H2 d1 (.dK [])) d1 (.dK (mergeK [] [((Sum.inr r.p : Key), V.ref r.s)]))) := fun b o e => by
        have n := ne_of_none e fd1
        rw [upd_ne n, upd_ne n]
        exact e
      generalize upd (upd H2 d1 (.dK [])) d1 (.dK (mergeK [] [((Sum.inr r.p : Key), V.ref r.s)])) = H3 at D1 s23
      have M3 := hms.same s23
      refine ⟨ml, _, _, rfl, rfl, M3.1, by rw [List.length_map, hlen]; exact line_lt (by omega), ?_⟩
      have M4 : MvL C (upd H3 ml (.lst ((ms.map fun m => V.ref m.1) ++ [.ref d1]))) ml (ms ++ [(d1, [r.p], fun _ => r.v)]) := ⟨by rw [upd_same, List.map_append]; rfl, fun m hm => by
        rcases List.mem_append.mp hm with q | q
        · exact (M3.2 m q).un M3.1
        · rw [List.mem_singleton] at q
          subst q
          exact D1.un M3.1⟩
      have s04 : Same H (upd H3 ml (.lst ((ms.map fun m => V.ref m.1) ++ [.ref d1]))) := fun b o e => by
        rw [upd_ne (ne_of_none e fml)]
        exact s23 _ _ (s2 _ _ e)
      generalize upd H3 ml (.lst ((ms.map fun m => V.ref m.1) ++ [.ref d1])) = H4 at M4 s04
      refine ⟨_, rfl, .inl ⟨rfl, _, SqL.of M4.1⟩, fun d2 fd2 => ?_⟩
      refine ⟨_, rfl, _, rfl, upd_same, [(Sum.inr r.t, .ref r.s)], rfl, by show 1 ≤ 15; decide, ?_⟩
      have D2 : SDc C (upd (upd H4 d2 (.dK [])) d2 (.dK (mergeK [] [((Sum.inr r.t : Key), V.ref r.s)]))) d2 [r.t] (fun _ => r.v) := by
        have := one_dict (x := r.t) fd2 (hs0.keep s04)
        have e : upd (upd H4 d2 (.dK [])) d2 (.dK (mergeK [] [((Sum.inr r.t : Key), V.ref r.s)])) = upd H4 d2 (.dK (putK [] (Sum.inr r.t) (.ref r.s))) := by
          funext b
          by_cases z : b = d2
          · subst z; rw [upd_same, upd_same]; rfl
          · rw [upd_ne z, upd_ne z, upd_ne z]
        rw [e]
        exact this
      have s45 : Same H4 (upd (upd H4 d2 (.dK [])) d2 (.dK (mergeK [] [((Sum.inr r.t : Key), V.ref r.s)]))) := fun b o e => by
        have n := ne_of_none e fd2
        rw [upd_ne n, upd_ne n]
        exact e
      generalize upd (upd H4 d2 (.dK [])) d2 (.dK (mergeK [] [((Sum.inr r.t : Key), V.ref r.s)])) = H5 at D2 s45
      refine ⟨d2, [r.t], fun _ => r.v, rfl, D2, by simp, by show 1 ≤ 300; decide, fun x _ => (hr12 r hrm).mono (by decide), fun d3 H6 s6 fd3 D3 => ?_⟩
      have M6 := M4.same (s45.trans s6)
      refine ⟨ml, _, _, rfl, rfl, M6.1, by rw [List.length_map, List.length_append, hlen]; exact line_lt (by show 2 * i + 1 ≤ 100000; omega), ?_⟩
      refine ⟨_, _, _, (ms ++ [(d1, [r.p], fun _ => r.v)]) ++ [(d3, [r.t], fun x => -(r.v))], rfl, fun b o e => ?_, ⟨?_, fun m hm => ?_⟩, ?_, ?_⟩
      · rw [upd_ne (ne_of_none e fml)]
        exact s6 _ _ (s45 _ _ (s04 _ _ e))
      · simp only [upd_same, List.map_append, List.map_cons, List.map_nil]
      · rcases List.mem_append.mp hm with q | q
        · exact (M6.2 m q).un M6.1
        · rw [List.mem_singleton] at q
          subst q
          exact D3.un M6.1
      · rw [List.length_append, List.length_append, hlen]
        show 2 * i + 1 + 1 = 2 * (i + 1)
        omega
      · rw [puts_app, puts_app, hp, take_one hr0, mvs_snoc, puts_one, puts_one, List.append_assoc]
        rfl
    · rintro σ H2 ⟨v3, v4, v5, ms, rfl, s2, hms, hlen, hp⟩
      rw [List.length_map, List.take_length] at hp
      have pl : (puts ms).length ≤ 2 := by
        rw [hp, mvs_len]
        omega
      have pz : ∀ p ∈ puts ms, Sz 300 p.2 := by
        rw [hp]
        exact mvs_sz hr12
      refine ⟨_, rfl, _, rfl, d, ml, L, c, ms, 300, 300, rfl, hS.same s2, nd, hms, hz, by decide, pz, by omega, by decide, by omega, fun D H3 s3 fD hD => ?_⟩
      rw [hp] at hD
      exact hQ D H3 (s2.trans s3) (s2.free fD) hD
end
end K58
set_option Elab.async false
set_option linter.all false
set_option maxRecDepth 100000
set_option maxHeartbeats 4000000
namespace K58
open PySem PySem.Spec PyProof.Rows L2
open C8 (Cal Mak Met pe_c pe_mk pe_mt pe_mt0)
open KM (pr Sz)
theorem paired_map {α : Type} {R : Addr → Key × V → Prop} {g : α → Addr} {k : α → Key × V} : ∀ {l : List α}, (∀ x ∈ l, R (g x) (k x)) → Paired R (l.map g) (l.map k)
  | [], _ => .nil
  | x :: l, h => .cons (h x List.mem_cons_self) (paired_map fun y hy => h y (List.mem_cons_of_mem _ hy))
theorem pr_neg (v : Rat) : (0 - (pr v).1, (pr v).2) = pr (-v) := by
  show (0 - v.num, (v.den : Int)) = ((-v).num, ((-v).den : Int))
  rw [Rat.neg_num, Rat.neg_den, Int.zero_sub]
/-- hand-overs of fractions in a list -/
def TL (H : Hp) (l : Addr) (rows : List Ro) : Prop := H l = some (.lst (rows.map fun r => V.ref r.a)) ∧ ∀ r ∈ rows, H r.a = some (.tup [.str r.p, .str r.t, .ref r.s]) ∧ H r.s = some (tupP (pr r.v))
theorem TL.same {H H' : Hp} {l : Addr} {rows : List Ro} (h : TL H l rows) (s : Same H H') : TL H' l rows := ⟨s _ _ h.1, fun r hr => ⟨s _ _ (h.2 r hr).1, s _ _ (h.2 r hr).2⟩⟩
theorem mvs_pre {rows : List Ro} {i : Nat} {r : Ro} (h : rows[i]? = some r) : mvs (rows.take i) <+: mvs rows ∧ (mvs (rows.take i) ++ [(r.p, r.v)]) <+: mvs rows := by
  have e : rows = rows.take i ++ r :: rows.drop (i + 1) := by
    have h2 := List.getElem?_eq_some_iff.mp h
    obtain ⟨hl, e⟩ := h2
    rw [← e, List.getElem_cons_drop, List.take_append_drop]
  have e2 : mvs rows = mvs (rows.take i) ++ ([(r.p, r.v), (r.t, -r.v)] ++ mvs (rows.drop (i + 1))) := by
    conv => lhs; rw [e]
    unfold mvs
    rw [List.flatMap_append, List.flatMap_cons]
  refine ⟨⟨_, e2.symm⟩, ⟨(r.t, -r.v) :: mvs (rows.drop (i + 1)), ?_⟩⟩
  rw [e2]
  simp
section
variable {P : Program} {w : World} {K : PySem.W.Frag} {mg : Str → Option Value} {base : Heap} {f C CT : Addr} {fd : FuncData}
def spLS (C : Addr) : Sp := fun vs H Q _ => ∃ (d : Addr) (L : List Str) (c : Str → Rat), vs = [.ref d] ∧ TDc H d L c ∧ L.Nodup ∧ L.length ≤ 30 ∧ (∀ x ∈ L, Sz 20 (c x)) ∧ ∀ D H', Same H H' → H D = none → SDc C H' D L c → Q (.ref D) H'
theorem ok_ls (F : Dn K d_l_shares f fd) (bd : mg "dict" = none) (MS : MakS P w K mg base C) : FnOk P w K mg base CX0 4 f fd ["_law_standing_here"] (spLS C) := by
  refine F.ok sc_l_shares (fun vs H Q E h => ?_) (fun cdv A outer s H vs Q E hr h => ?_)
  · obtain ⟨d, L, c, rfl, _⟩ := h
    rfl
  · obtain ⟨d, L, c, rfl, ⟨ad, hd, hv⟩, nd, ll, hz, hQ⟩ := h
    have hu := hu_of hr
    refine ⟨_, PSs.nox (pss_one (ps_ret (pe_callTy (call_dictP rfl) rfl bd boot_dict (pa_cons (pe_lock (pe_lc (own := [("_law_name", 1)]) (g := gName 1) (tt := tYes) rfl sc_l_shares.nd (pi_keys (pv 0)) (blkOk_by (N := N_l_shares) (sc := defScope s_l_shares) (by decide +kernel))
        (fun _ _ _ _ _ => pg_name (i := 1) sc_l_shares.nd rfl (Or.inl rfl)) (fun _ _ _ _ _ => pts_nil)
        (fun _ _ _ _ _ => pe_tup (pa_cons (pv 1) (pa_cons (pe_mk MS hr (by decide) rfl (pa_cons (pe_ix (r := rIxT K) ix_tup (pe_dget hu (pv 0) (pv 1) (fun _ _ => rfl)) pe_int (fun _ _ => rfl)) (pa_cons (pe_ix (r := rIxT K) ix_tup (pe_dget hu (pv 0) (pv 1) (fun _ _ => rfl)) pe_int (fun _ _ => rfl)) pa_nil))) pa_nil))))) pa_nil)))), ?_⟩
    refine ⟨d, _, hd, trivial, fun od => ?_⟩
    obtain ⟨hd1, kp1, new1, back1⟩ := lockf (C := C) hd od
    have hv1 : ∀ x ∈ L, (upd H d (.frz od (dctO L fun x => .ref (ad x)))) (ad x) = some (tupP (pr (c x))) := fun x hx => kp1 _ _ (hv x hx) fun z => by have := hv x hx; rw [z, hd] at this; cases this
    generalize upd H d (.frz od (dctO L fun x => .ref (ad x))) = H1 at hd1 kp1 new1 back1 hv1
    refine ⟨_, rfl, d, od, rfl, .inl ⟨_, hd1, fun D hD => lc_it walk_keys (fun i H2 => ∃ (pa sa : Str → Addr), H2 D = some (.lst ((L.take i).map fun x => V.ref (pa x))) ∧ (∀ x ∈ L.take i, H2 (pa x) = some (.tup [.str x, .ref (sa x)]) ∧ Sh C H2 (sa x) (pr (c x))) ∧ Same H1 H2)
      ⟨fun _ => 0, fun _ => 0, upd_same, fun x hx => by simp at hx, same_new hD⟩ (fun i H2 _ z => by obtain ⟨_, _, _, _, sm⟩ := z; exact sm _ _ hd1) ?_ ?_⟩⟩
    · rintro i x H2 H3 hi ⟨pa, sa, hdd, hval, sm⟩ ⟨eH, kk, v, hkk, rfl⟩
      have eH := eH.symm
      subst eH
      rw [List.length_map] at hi
      rw [List.getElem?_map] at hkk
      obtain ⟨z, hz0, e0⟩ := Option.map_eq_some_iff.mp hkk
      cases e0
      have hzL := List.mem_of_getElem? hz0
      have nz := nin_take nd hz0
      refine ⟨rfl, ?_⟩
      have dg : DGet H2 d (.str z) (some (.ref (ad z))) := .inl ⟨_, Sum.inr z, .inr ⟨od, sm _ _ hd1⟩, rfl, by rw [val_dct, if_pos hzL]⟩
      have hvz := sm _ _ (hv1 z hzL)
      refine ⟨_, rfl, _, rfl, _, rfl, d, _, rfl, dg, ad z, _, _, _, rfl, rfl, SqT.of hvz, atI_nat (j := 0) rfl, _, rfl, _, rfl, d, _, rfl, dg, ad z, _, _, _, rfl, rfl, SqT.of hvz, atI_nat (j := 1) rfl, ?_⟩
      intro t dt nt ndt ne
      refine mk_in (n := 20) nt ndt (by have := KM.den_pos (c z); show ((c z).den : Int) ≠ 0; omega) (by have := (hz z hzL).2; show ((c z).den : Int).natAbs < 2 ^ 20; omega) (by decide) (by decide) fun H4 s4 ht => ⟨rfl, ?_⟩
      have ht : Sh C H4 t (pr (c z)) := by
        have e : Rat.divInt (c z).num ((c z).den : Int) = c z := Rat.num_divInt_den _
        have ht : Sh C H4 t (pr (Rat.divInt (c z).num ((c z).den : Int))) := ht
        rw [e] at ht
        exact ht
      refine ⟨by show 2 ≤ sizeLine; decide, fun q fq => ?_⟩
      have sq := same_new (o := .tup [.str z, .ref t]) fq
      have s24 := s4.trans sq
      have hD4 := s24 _ _ hdd
      refine ⟨_, hD4, by rw [List.length_map, List.length_take]; exact line_lt (by omega), fun x => if x = z then q else pa x, fun x => if x = z then t else sa x, ?_, fun x hx => ?_, fun b o e => ?_⟩
      · rw [upd_same, take_one hz0, List.map_append]
        have e1 : (L.take i).map (fun x => V.ref (pa x)) = (L.take i).map fun x => V.ref (if x = z then q else pa x) := List.map_congr_left fun x hx => by rw [if_neg (show ¬ x = z from fun e => nz (e ▸ hx))]
        rw [e1]
        simp
      · have nD : ∀ {p : Addr} {o : HO}, (upd H4 q (.tup [.str z, .ref t])) p = some o → (∀ ys, o ≠ .lst ys) → p ≠ D := fun {p o} e n zz => by
          rw [zz, hD4] at e
          exact n _ (Option.some.inj e).symm
        rw [take_one hz0] at hx
        by_cases e : x = z
        · subst e
          dsimp only
          rw [if_pos rfl, if_pos rfl]
          refine ⟨?_, ?_⟩
          · rw [upd_ne (nD upd_same (fun ys e => by cases e))]
            exact upd_same
          · obtain ⟨dx, e⟩ := ht
            have e2 := sq _ _ e
            exact ⟨dx, by rw [upd_ne (nD e2 (fun ys e => by cases e))]; exact e2⟩
        · have hx' : x ∈ L.take i := by
            rcases List.mem_append.mp hx with q' | q'
            · exact q'
            · exact absurd (List.mem_singleton.mp q') e
          obtain ⟨h1, dx, h2⟩ := hval x hx'
          dsimp only
          rw [if_neg e, if_neg e]
          have g1 := s24 _ _ h1
          have g2 := s24 _ _ h2
          exact ⟨by rw [upd_ne (nD g1 (fun ys e => by cases e))]; exact g1, dx, by rw [upd_ne (nD g2 (fun ys e => by cases e))]; exact g2⟩
      · rw [upd_ne (ne_of_none e hD)]
        exact s24 _ _ (sm _ _ e)
    rintro H2 ⟨pa, sa, hdd, hval, sm⟩
    rw [List.length_map, List.take_length] at hdd hval
    obtain ⟨nD, nDd⟩ := new1 D hD
    have hd2 := sm _ _ hd1
    have s02 := back1 H2 sm
    refine ⟨hd2, ?_⟩
    have g0 : (upd H2 d (dctO L fun x => .ref (ad x))) D = some (.lst (L.map fun x => V.ref (pa x))) := by rw [upd_ne nDd]; exact hdd
    have g1 : ∀ x ∈ L, (upd H2 d (dctO L fun x => .ref (ad x))) (pa x) = some (.tup [.str x, .ref (sa x)]) ∧ Sh C (upd H2 d (dctO L fun x => .ref (ad x))) (sa x) (pr (c x)) := fun x hx => by
      obtain ⟨h1, h2⟩ := hval x hx
      exact ⟨by rw [upd_ne fun z => by rw [z, hd2] at h1; cases h1]; exact h1, h2.un (h2.at_frz hd2)⟩
    generalize upd H2 d (dctO L fun x => .ref (ad x)) = H3 at s02 g0 g1
    refine ⟨D, L.map pa, L.map fun x => ((Sum.inr x : Key), V.ref (sa x)), rfl, by rw [List.map_map]; exact SqL.of g0, paired_map fun x hx => SqT.of (g1 x hx).1, fun q fq => ?_⟩
    have em : mergeK [] (L.map fun x => ((Sum.inr x : Key), V.ref (sa x))) = L.map fun x => ((Sum.inr x : Key), V.ref (sa x)) := DQ.merge_map (fun x => V.ref (sa x)) (l := L) (m := []) nd
    rw [em]
    have sq := same_new (o := .dK (L.map fun x => ((Sum.inr x : Key), V.ref (sa x)))) fq
    exact hQ q _ (s02.trans sq) (s02.free fq) ⟨sa, upd_same, fun x hx => (g1 x hx).2.keep sq⟩
def spLB : Sp := fun vs H Q _ => ∃ (d l : Addr) (L : List Str) (c : Str → Rat) (rows : List Ro), vs = [.ref d, .ref l] ∧ TDc H d L c ∧ L.Nodup ∧ TL H l rows ∧ (∀ ms : List (Str × Rat), ms <+: mvs rows → ∀ x, Sz 3800 (get0 (mvL (L, c) ms).1 (mvL (L, c) ms).2 x)) ∧ (∀ r ∈ rows, Sz 3800 r.v) ∧ L.length ≤ 30 ∧ rows.length ≤ 30 ∧
  ∀ D H', Same H H' → H D = none → TDc H' D (mvL (L, c) (mvs rows)).1 (mvL (L, c) (mvs rows)).2 → Q (.ref D) H'
theorem ok_lb (F : Dn K d_l_behind f fd) (bd : mg "dict" = none) (cA : Cal P w K mg base 2 "_law_add" spAdd []) : FnOk P w K mg base CX0 3 f fd ["_law_standing_here", "_law_rows"] spLB := by
  refine F.ok sc_l_behind (fun vs H Q E h => ?_) (fun cdv A outer s H vs Q E hr h => ?_)
  · obtain ⟨d, l, L, c, rows, rfl, _⟩ := h
    rfl
  · obtain ⟨d, l, L, c, rows, rfl, ⟨ad, hd, hv⟩, nd, hl, hG, hr12, ll, lr, hQ⟩ := h
    have hu := hu_of hr
    refine ⟨_, PSs.nox (pss_cons (ps_set (i := 2) sc_l_behind.nd rfl (.inl rfl) (pe_callTy call_dictD rfl bd boot_dict (pa_cons (pv 0) pa_nil)))
      (pss_cons (ps_for PassesOwn.never rfl (pi_list (pv 1)) (pg_tup rfl (pgs_cons (pg_name (i := 3) sc_l_behind.nd rfl (.inl rfl)) (pgs_cons (pg_name (i := 4) sc_l_behind.nd rfl (.inl rfl)) (pgs_cons (pg_name (i := 5) sc_l_behind.nd rfl (.inl rfl)) pgs_nil))))
        (pss_cons (ps_dput hu (pv 2) (pv 3) (pe_c cA hr (by decide) rfl (pa_cons (pe_dget2 hu (pv 2) (pv 3) (pe_tup (pa_cons pe_int (pa_cons pe_int pa_nil))) ⟨rfl, rfl, rfl, rfl⟩) (pa_cons (pv 5) pa_nil))) rfl)
        (pss_one (ps_dput hu (pv 2) (pv 4) (pe_c cA hr (by decide) rfl (pa_cons (pe_dget2 hu (pv 2) (pv 4) (pe_tup (pa_cons pe_int (pa_cons pe_int pa_nil))) ⟨rfl, rfl, rfl, rfl⟩)
          (pa_cons (pe_tup (pa_cons (pe_op op_sub pe_int (pe_ix ix_tup (pv 5) pe_int (fun _ _ => rfl))) (pa_cons (pe_ix ix_tup (pv 5) pe_int (fun _ _ => rfl)) pa_nil))) pa_nil))) rfl))))
      (pss_one (ps_ret (pv 2))))), ?_⟩
    refine ⟨_, rfl, d, _, rfl, .inl hd, fun D hD => ?_⟩
    have s1 := same_new (o := dctO L fun x => .ref (ad x)) hD
    refine ⟨_, rfl, l, rfl, ⟨_, SqL.of (s1 _ _ hl.1)⟩, for_list (K := K) (xs := rows.map fun r => V.ref r.a) (fun i σ H' => ∃ (v3 v4 v5 : Option V), σ = [some (.ref d), some (.ref l), some (.ref D), v3, v4, v5] ∧ Same H H' ∧ TDc H' D (mvL (L, c) (mvs (rows.take i))).1 (mvL (L, c) (mvs (rows.take i))).2)
      ⟨_, _, _, rfl, s1, ad, upd_same, fun x hx => s1 _ _ (hv x hx)⟩ (fun i σ H' _ z => by obtain ⟨_, _, _, _, sm, _⟩ := z; exact SqL.of (sm _ _ hl.1)) ?_ ?_⟩
    · rintro i v σ H2 hi ⟨v3, v4, v5, rfl, s2, a2, hd2, hv2⟩
      rw [List.getElem?_map] at hi
      obtain ⟨r, hr0, rfl⟩ := Option.map_eq_some_iff.mp hi
      have hrm := List.mem_of_getElem? hr0
      have hil : i < rows.length := (List.getElem?_eq_some_iff.mp hr0).1
      obtain ⟨ht0, hs0⟩ := hl.2 r hrm
      obtain ⟨u, hu0⟩ : ∃ u, u = mvL (L, c) (mvs (rows.take i)) := ⟨_, rfl⟩
      have zs := hG (mvs (rows.take i)) (mvs_pre hr0).1
      have ul := mvL_len (mvs (rows.take i)) (L, c)
      rw [mvs_len, List.length_take] at ul
      rw [← hu0] at hd2 hv2 zs ul
      have ul : u.1.length ≤ L.length + 2 * min i rows.length := ul
      refine ⟨r.a, _, rfl, SqT.of (s2 _ _ ht0), rfl, _, _, rfl, _, _, rfl, _, _, rfl, rfl, ?_⟩
      -- what is got, and put
      have step : ∀ {H3 : Hp} {u : List Str × (Str → Rat)} {a3 : Str → Addr} {x : Str} {t2 : Addr}, H3 D = some (dctO u.1 fun x => .ref (a3 x)) → (∀ y ∈ u.1, H3 (a3 y) = some (tupP (pr (u.2 y)))) → H3 t2 = none →
          ∃ w0, ((if x ∈ u.1 then some (V.ref (a3 x)) else none).getD (.ref t2)) = .ref w0 ∧ (upd H3 t2 (.tup [.int 0, .int 1])) w0 = some (tupP (pr (get0 u.1 u.2 x))) := fun {H3 u a3 x t2} h1 h2 f2 => by
        unfold get0
        by_cases hzu : x ∈ u.1
        · rw [if_pos hzu, if_pos hzu]
          exact ⟨_, rfl, same_new f2 _ _ (h2 x hzu)⟩
        · rw [if_neg hzu, if_neg hzu]
          exact ⟨_, rfl, upd_same⟩
      refine ⟨_, rfl, D, rfl, .inl ⟨_, .inl hd2⟩, _, rfl, by show 2 ≤ sizeLine; decide, fun t2 ft2 => ?_⟩
      obtain ⟨w0, hw0, hw1⟩ := step (x := r.p) hd2 hv2 ft2
      have st := same_new (o := .tup [.int 0, .int 1]) ft2
      have dg : DGet (upd H2 t2 (.tup [.int 0, .int 1])) D (.str r.p) (valV (u.1.map fun y => ((Sum.inr y : Key), V.ref (a2 y))) (Sum.inr r.p)) := DGet.k (k := Sum.inr r.p) (st _ _ hd2)
      rw [val_dct] at dg
      refine ⟨_, dg, _, rfl, w0, r.s, _, _, 3900, (by rw [hw0]; rfl), hw1, st _ _ (s2 _ _ hs0), ⟨bd_of ((zs r.p).mono (by decide)), bd_of ((hr12 r hrm).mono (by decide)), by decide, by decide⟩, fun r1 fr1 => ?_⟩
      rw [KM.pr_plus]
      have sr := same_new (o := tupP (pr (get0 u.1 u.2 r.p + r.v))) fr1
      have s24 := st.trans sr
      have hd4 := s24 _ _ hd2
      have P1 := TDc.put (x := r.p) (v := get0 u.1 u.2 r.p + r.v) hd4 (fun y hy => s24 _ _ (hv2 y hy)) upd_same
      have kp1 : Same H (upd (upd (upd H2 t2 (.tup [.int 0, .int 1])) r1 (tupP (pr (get0 u.1 u.2 r.p + r.v)))) D (.dK (putK (u.1.map fun y => ((Sum.inr y : Key), V.ref (a2 y))) (Sum.inr r.p) (.ref r1)))) := fun b o e => by
        rw [upd_ne (ne_of_none e hD)]
        exact s24 _ _ (s2 _ _ e)
      refine ⟨_, rfl, _, rfl, D, _, rfl, DPut.k (k := Sum.inr r.p) hd4 (by rw [List.length_map]; exact line_lt (by omega)), ?_⟩
      generalize upd (upd (upd H2 t2 (.tup [.int 0, .int 1])) r1 (tupP (pr (get0 u.1 u.2 r.p + r.v)))) D (.dK (putK (u.1.map fun y => ((Sum.inr y : Key), V.ref (a2 y))) (Sum.inr r.p) (.ref r1))) = H5 at P1 kp1
      obtain ⟨a5, hd5, hv5⟩ := P1
      obtain ⟨u5, hu5⟩ : ∃ u5, u5 = mv u (r.p, r.v) := ⟨_, rfl⟩
      have hd5 : H5 D = some (dctO u5.1 fun x => .ref (a5 x)) := by rw [hu5]; exact hd5
      have hv5 : ∀ y ∈ u5.1, H5 (a5 y) = some (tupP (pr (u5.2 y))) := by rw [hu5]; exact hv5
      have z5 : ∀ x, Sz 3900 (get0 u5.1 u5.2 x) := fun x => by
        have := hG (mvs (rows.take i) ++ [(r.p, r.v)]) (mvs_pre hr0).2 x
        rw [mvL_snoc, ← hu0, ← hu5] at this
        exact this.mono (by decide)
      have l5 : u5.1.length ≤ 100 := by
        have := addK_len u.1 r.p
        rw [hu5]
        show (addK u.1 r.p).length ≤ 100
        omega
      refine ⟨_, rfl, D, rfl, .inl ⟨_, .inl hd5⟩, _, rfl, by show 2 ≤ sizeLine; decide, fun t6 ft6 => ?_⟩
      obtain ⟨w6, hw6, hw7⟩ := step (x := r.t) hd5 hv5 ft6
      have st6 := same_new (o := .tup [.int 0, .int 1]) ft6
      have dg6 : DGet (upd H5 t6 (.tup [.int 0, .int 1])) D (.str r.t) (valV (u5.1.map fun y => ((Sum.inr y : Key), V.ref (a5 y))) (Sum.inr r.t)) := DGet.k (k := Sum.inr r.t) (st6 _ _ hd5)
      rw [val_dct] at dg6
      have hs6 := st6 _ _ (kp1 _ _ hs0)
      refine ⟨_, dg6, _, rfl, r.s, _, _, _, rfl, rfl, SqT.of hs6, atI_nat (j := 0) rfl, _, _, rfl, rfl, _, rfl, r.s, _, _, _, rfl, rfl, SqT.of hs6, atI_nat (j := 1) rfl, by show 2 ≤ sizeLine; decide, fun n6 fn6 => ?_⟩
      have e6 : (HO.tup [V.int (0 - (pr r.v).1), V.int (pr r.v).2]) = tupP (pr (-r.v)) := by rw [← pr_neg]; rfl
      have sn6 := same_new (o := .tup [V.int (0 - (pr r.v).1), V.int (pr r.v).2]) fn6
      have hn6 : (upd (upd H5 t6 (.tup [.int 0, .int 1])) n6 (.tup [V.int (0 - (pr r.v).1), V.int (pr r.v).2])) n6 = some (tupP (pr (-r.v))) := by rw [upd_same, e6]
      refine ⟨w6, n6, _, _, 3900, (by rw [hw6]; rfl), sn6 _ _ hw7, hn6, ⟨bd_of (z5 r.t), bd_of ((sz_neg (hr12 r hrm)).mono (by decide)), by decide, by decide⟩, fun r7 fr7 => ?_⟩
      rw [KM.pr_plus]
      have sr7 := same_new (o := tupP (pr (get0 u5.1 u5.2 r.t + -r.v))) fr7
      have s57 := (st6.trans sn6).trans sr7
      have hd7 := s57 _ _ hd5
      have P7 := TDc.put (x := r.t) (v := get0 u5.1 u5.2 r.t + -r.v) hd7 (fun y hy => s57 _ _ (hv5 y hy)) upd_same
      refine ⟨_, rfl, _, rfl, D, _, rfl, DPut.k (k := Sum.inr r.t) hd7 (by rw [List.length_map]; exact line_lt (by omega)), _, _, _, rfl, fun b o e => ?_, ?_⟩
      · rw [upd_ne (ne_of_none e hD)]
        exact s57 _ _ (kp1 _ _ e)
      · have e : mvL (L, c) (mvs (rows.take (i + 1))) = mv u5 (r.t, -r.v) := by
          rw [take_one hr0, mvs_snoc, mvL_app, ← hu0, hu5]
          rfl
        rw [e]
        exact P7
    · rintro σ H2 ⟨v3, v4, v5, rfl, s2, T2⟩
      rw [List.length_map, List.take_length] at T2
      exact ⟨_, rfl, hQ D H2 s2 hD T2⟩
end
end K58
set_option Elab.async false
set_option linter.all false
set_option maxRecDepth 100000
set_option maxHeartbeats 4000000
namespace K58
open PySem PySem.Spec PyProof.Rows L2
open C8 (Cal Mak Met pe_c pe_mk pe_mt pe_mt0)
open KM (pr Sz)
open SX (S)
open RPO
/-! ### how long the texts are -/
theorem rpS_len {r : Rat} {n : Nat} (sr : Sz n r) (n0 : 0 < n) (n9 : n ≤ 1900) : (rpS r).length ≤ 2 * n + 10 := by
  have k1 : (TX.intL r.num).length ≤ n + 1 := TX.intL_pow sr.1 n0
  have k2 := TX.numL_pow sr.2 n0
  have t1 : Str.ofString (toString (pr r).1) = SX.S (TX.intL r.num) := TX.tl_int r.num
  have t2 : Str.ofString (toString (pr r).2) = SX.S (TL.numL r.den) := SX.num_S r.den
  have c1 : Str.empty ++ Str.ofString "Share(" = SX.S [83, 104, 97, 114, 101, 40] := by decide +kernel
  have c2 : Str.ofString ", " = SX.S [44, 32] := by decide +kernel
  have c3 : Str.ofString ")" = SX.S [41] := by decide +kernel
  unfold rpS
  rw [c1, t1, c2, t2, c3, SX.S_cat, SX.S_cat, SX.S_cat, SX.S_cat, SX.S_len]
  simp
  omega
theorem rt_len {z : List Nat} (h : NM.ok z) : (reprText (S z)).length ≤ 133 := by
  have ok : PyData.strOk (S z) = true := by
    unfold PyData.strOk
    rw [← Array.all_toList, List.all_eq_true]
    intro c hc
    have := h.2.2 c hc
    exact decide_eq_true (by omega)
  have hc : (S z).cps.toList.all (fun c => decide (c < 16 ^ 8)) = true := by
    rw [List.all_eq_true]
    intro c hc
    have := h.2.2 c hc
    exact decide_eq_true (by omega)
  have h1 := PyData.shown_le 13 (by decide) (.str (S z)) (by simp only [PyData.leavesShort]; exact hc)
  have e : (PyData.str (S z)).shown = reprText (S z) := by simp only [PyData.shown]
  have w1 : (PyData.str (S z)).weight = z.length := by simp only [PyData.weight]; rfl
  have := h.2.1
  rw [e] at h1
  omega
theorem piled_le {ts : List Str} {n : Nat} (h : ∀ t ∈ ts, t.length ≤ n) : piled ts ≤ (n + 2) * ts.length := by
  induction ts with
  | nil => exact Nat.zero_le _
  | cons t ts ih =>
    rw [piled_cons, List.length_cons, Nat.mul_add]
    have := h t List.mem_cons_self
    have := ih fun x hx => h x (List.mem_cons_of_mem _ hx)
    omega
theorem join_le (ts : List Str) : (Str.join ", " ts).length ≤ piled ts := by
  by_cases h : ts = []
  · subst h
    decide
  · have := join_length_add ts h
    omega
theorem tt_le (ts : List Str) : (tupleText ts).length ≤ piled ts + 3 := by
  unfold tupleText
  rw [PySem.strLen_append, PySem.strLen_append]
  have e1 : ((("(" : String) : Str)).length = 1 := rfl
  have e3 : (((if ts.length == 1 then ",)" else ")" : String) : Str)).length ≤ 2 := by split <;> decide
  rw [e1]
  have := join_le ts
  omega
theorem dt_le (ps : List Str) : (dictText ps).length ≤ piled ps + 2 := by
  unfold dictText
  rw [PySem.strLen_append, PySem.strLen_append]
  have e1 : ((("{" : String) : Str)).length = 1 := rfl
  have e2 : ((("}" : String) : Str)).length = 1 := rfl
  rw [e1, e2]
  have := join_le ps
  omega
theorem lt_le (ts : List Str) : (listText ts).length ≤ piled ts + 2 := by
  unfold listText
  rw [PySem.strLen_append]
  have e2 : ((("]" : String) : Str)).length = 1 := rfl
  have e1 : ((("[" : String) : Str)).length = 1 := rfl
  have h := textFrom_len_le ts 0 "["
  have hp : piled ts = (ts.map (·.length)).sum + 2 * ts.length := by
    clear h
    induction ts with
    | nil => rfl
    | cons t ts ih => rw [piled_cons, ih, List.map_cons, List.sum_cons, List.length_cons]; omega
  rw [e1] at h
  rw [e2]
  omega
/-! ### the text of the dict -/
def entT (c : Str → Rat) (x : Str) : Str := reprText x ++ ": " ++ rpS (c x)
def Nmd (x : Str) : Prop := ∃ l, x = S l ∧ NM.ok l
theorem dict_len {L : List Str} {c : Str → Rat} (ll : L.length ≤ 30) (nL : ∀ x ∈ L, Nmd x) (hz : ∀ x ∈ L, Sz 20 (c x)) : (dictText (L.map (entT c))).length ≤ sizeLine := by
  have h1 := dt_le (L.map (entT c))
  have h2 := piled_le (ts := L.map (entT c)) (n := 185) fun t ht => by
    obtain ⟨x, hx, rfl⟩ := List.mem_map.mp ht
    obtain ⟨l, rfl, ok⟩ := nL x hx
    unfold entT
    rw [PySem.strLen_append, PySem.strLen_append]
    have a := rt_len ok
    have b := rpS_len (hz _ hx) (by decide) (by decide)
    have e : (((": " : String) : Str)).length = 2 := rfl
    omega
  rw [List.length_map] at h2
  have := Nat.mul_le_mul_left (185 + 2) ll
  have := sizeLine_eq
  omega
section
variable {X : Cx} {C : Addr} {k n : Nat}
theorem rp_share {outs : List Addr} {H : Hp} {p : Addr} {r : Rat} (Sp : OW.Spc X.prog X.w X.K X.mg X.base k C "__repr__" (spStr C rpS)) (kn : k ≤ n) (h : Sh C H p (pr r)) (z : Sz 20 r) (no : p ∉ outs) : RpU X n outs H (.ref p) (rpS r) := by
  obtain ⟨dx, hp⟩ := h
  exact RpU.own Sp hp no (fun H' hp' => ⟨p, r, 20, rfl, ⟨dx, hp'⟩, z, by decide, by decide, rfl, fun a o e => e⟩) kn
theorem rp_ent {outs : List Addr} {H : Hp} {g : Str → V} {t : Str → Str} : ∀ {l : List Str}, (∀ x ∈ l, RpU X n outs H (g x) (t x)) → RpEnt X n outs H (l.map fun x => ((Sum.inr x : Key), g x)) (l.map fun x => reprText x ++ ": " ++ t x)
  | [], _ => .nil
  | x :: l, h => .cons .str (h x List.mem_cons_self) (rp_ent fun y hy => h y (List.mem_cons_of_mem _ hy))
theorem rp_dict {H : Hp} {d : Addr} {L : List Str} {c : Str → Rat} {ad : Str → Addr} (Sp : OW.Spc X.prog X.w X.K X.mg X.base k C "__repr__" (spStr C rpS)) (kn : k ≤ n) (hd1 : H d = some (dctO L fun x => .ref (ad x))) (hd2 : ∀ x ∈ L, Sh C H (ad x) (pr (c x))) (hz : ∀ x ∈ L, Sz 20 (c x)) :
    RpEnt X n [d] H (L.map fun x => ((Sum.inr x : Key), V.ref (ad x))) (L.map (entT c)) := rp_ent (t := fun x => rpS (c x)) fun x hx => rp_share Sp kn (hd2 x hx) (hz x hx) fun m => by
  have e := List.mem_singleton.mp m
  obtain ⟨dx, e2⟩ := hd2 x hx
  rw [e, hd1] at e2
  cases e2
end
end K58
set_option Elab.async false
set_option linter.all false
set_option maxRecDepth 100000
set_option maxHeartbeats 4000000
namespace K58
open PySem PySem.Spec PyProof.Rows L2
open C8 (Cal Mak Met pe_c pe_mk pe_mt pe_mt0)
open KM (pr Sz)
section
variable {P : Program} {w : World} {K : PySem.W.Frag} {mg : Str → Option Value} {base : Heap} {f C : Addr} {fd : FuncData}
def sp_below (C : Addr) : Sp := fun vs H Q _ => ∃ (p q : Addr) (a b : Int × Int) (n : Nat), vs = [.ref p, .ref q] ∧ Sh C H p a ∧ Sh C H q b ∧ two n a b ∧ Q (.bl (decide (a.1 * b.2 < b.1 * a.2))) H
theorem ok_below (F : Dn K d_Share_below f fd) (T : Cl K mg C) : FnOk P w K mg base CX0 1 f fd ["self", "other"] (sp_below C) := by
  refine F.ok sc_Share_below (fun vs H Q E h => ?_) (fun cdv A outer s H vs Q E hr h => ?_)
  · obtain ⟨p, q, a, b, n, rfl, _⟩ := h
    rfl
  · obtain ⟨p, q, a, b, n, rfl, ⟨dp, hp⟩, ⟨dq, hq⟩, ⟨ba, bb, hn0, hn9⟩, hQ⟩ := h
    refine ⟨_, PSs.nox (pss_one (ps_ret (pe_cmpR op_lt (pe_op op_mulW (pe_fld (pv 0) rfl) (pe_fld (pv 1) rfl)) (pe_op op_mulW (pe_fld (pv 1) rfl) (pe_fld (pv 0) rfl)) (nomark _)))), ?_⟩
    refine ⟨_, rfl, p, C, dp, _, _, rfl, hp, T.cl, T.nt, shF_top a, _, rfl, q, C, dq, _, _, rfl, hq, T.cl, T.nb, shF_bot b, _, _, rfl, rfl, wide_mul ba.1 bb.2.2 hn0 hn0 (by omega), ?_⟩
    exact ⟨_, rfl, q, C, dq, _, _, rfl, hq, T.cl, T.nt, shF_top b, _, rfl, p, C, dp, _, _, rfl, hp, T.cl, T.nb, shF_bot a, _, _, rfl, rfl, wide_mul bb.1 ba.2.2 hn0 hn0 (by omega), _, _, rfl, rfl, hQ⟩
def spLt (C : Addr) : Sp := fun vs H Q _ => ∃ (p q : Addr) (r s : Rat) (n : Nat), vs = [.ref p, .ref q] ∧ Sh C H p (pr r) ∧ Sh C H q (pr s) ∧ Sz n r ∧ Sz n s ∧ 0 < n ∧ n ≤ 4000 ∧ Q (.bl (decide (r < s))) H
theorem belowR {vs : List V} {H : Hp} {Q : VK} {E : XK} (h : spLt C vs H Q E) : sp_below C vs H Q E := by
  obtain ⟨p, q, r, s, n, e, hp, hq, sr, ss, n0, n9, k⟩ := h
  refine ⟨p, q, _, _, n, e, hp, hq, ⟨bd_of sr, bd_of ss, n0, n9⟩, ?_⟩
  have : decide ((pr r).1 * (pr s).2 < (pr s).1 * (pr r).2) = decide (r < s) := decide_eq_decide.mpr (KM.pr_lt r s)
  rw [this]
  exact k
end
end K58
set_option Elab.async false
set_option linter.all false
set_option maxRecDepth 100000
set_option maxHeartbeats 4000000
namespace K58
open PySem PySem.Spec PyProof.Rows L2
open C8 (Cal Mak Met pe_c pe_mk pe_mt pe_mt0)
open KM (pr Sz)
section
variable {P : Program} {w : World} {K : PySem.W.Frag} {mg : Str → Option Value} {base : Heap} {f C : Addr} {fd : FuncData}
/-! ### total -/
/-- the sum from the left -/
def sumR (rs : List Rat) : Rat := rs.foldl (· + ·) 0
theorem fold_from (a : Rat) : ∀ rs : List Rat, rs.foldl (· + ·) a = a + sumR rs
  | [] => by show a = a + 0; rw [Rat.add_zero]
  | r :: rs => by
    show rs.foldl (· + ·) (a + r) = a + rs.foldl (· + ·) (0 + r)
    rw [fold_from (a + r) rs, fold_from (0 + r) rs, Rat.zero_add, Rat.add_assoc]
theorem sumR_app (xs ys : List Rat) : sumR (xs ++ ys) = sumR xs + sumR ys := by
  unfold sumR
  rw [List.foldl_append]
  exact fold_from _ ys
theorem sumR_cons (r : Rat) (rs : List Rat) : sumR (r :: rs) = r + sumR rs := by
  have := sumR_app [r] rs
  rw [List.singleton_append] at this
  rw [this]
  show (0 + r) + _ = _
  rw [Rat.zero_add]
theorem sumR_rev : ∀ rs : List Rat, sumR rs.reverse = sumR rs
  | [] => rfl
  | r :: rs => by
    rw [List.reverse_cons, sumR_app, sumR_rev rs, sumR_cons r rs, Rat.add_comm]
    show (0 + r) + _ = _
    rw [Rat.zero_add]
theorem sz_sum {k : Nat} : ∀ {rs : List Rat}, (∀ r ∈ rs, Sz k r) → Sz (1 + (k + 1) * rs.length) (sumR rs) := by
  intro rs
  induction rs with
  | nil =>
    intro _
    refine ⟨Nat.two_pow_pos _, ?_⟩
    show 1 < 2 ^ (1 + (k + 1) * 0)
    simp
  | cons r rs ih =>
    intro h
    rw [sumR_cons]
    have h1 := h r (List.mem_cons_self ..)
    have h2 := ih fun x hx => h x (List.mem_cons_of_mem _ hx)
    refine (KM.sz_plus h1 h2).1.mono ?_
    rw [List.length_cons, Nat.mul_add]
    omega
/-- a list of Shares at l -/
def ShL (K : PySem.W.Frag) (C : Addr) (H : Hp) (l : Addr) (L : List (Addr × Rat)) : Prop := SqL K H l (L.map fun x => V.ref x.1) ∧ ∀ x ∈ L, Sh C H x.1 (pr x.2)
theorem ShL.keep {H H' : Hp} {l : Addr} {L : List (Addr × Rat)} (s : Same H H') (h : ShL K C H l L) : ShL K C H' l L := ⟨s.seq h.1, fun x hx => (h.2 x hx).keep s⟩
def ratsOf (L : List (Addr × Rat)) : List Rat := L.map (·.2)
def spTotal (K : PySem.W.Frag) (C : Addr) : Sp := fun vs H Q _ => ∃ (l : Addr) (L : List (Addr × Rat)), vs = [.ref l, .int 0] ∧ ShL K C H l L ∧ (∀ x ∈ L, Sz 21 x.2) ∧ L.length ≤ 20 ∧
  ∀ t H', Same H H' → H t = none → Sh C H' t (pr (sumR (ratsOf L))) → Q (.ref t) H'
theorem ok_total (F : Dn K d_total f fd) (M1 : MakS1 P w K mg base C) (mp : Met P w K mg base 4 C "plus" (sp2 C (· + ·)) []) : FnOk P w K mg base CX0 5 f fd ["shares", "start"] (spTotal K C) := by
  refine F.ok sc_total (fun vs H Q E h => ?_) (fun cdv A outer s H vs Q E hr h => ?_)
  · obtain ⟨l, L, rfl, _⟩ := h
    rfl
  · obtain ⟨l, L, rfl, hL, hS, hlen, hQ⟩ := h
    refine ⟨_, PSs.nox (pss_cons (ps_set (i := 2) sc_total.nd rfl (.inl rfl) (pe_mk M1 hr (by decide) rfl (pa_cons (pv 1) pa_nil)))
      (pss_cons (ps_for PassesOwn.never rfl (pi_list (pv 0)) (pg_name (i := 3) sc_total.nd rfl (.inl rfl))
        (pss_one (ps_set (i := 2) sc_total.nd rfl (.inl rfl) (pe_mt mp hr (by decide) (pv 2) (pa_cons (pv 3) pa_nil)))))
      (pss_one (ps_ret (pv 2))))), ?_⟩
    refine ⟨_, rfl, ?_⟩
    intro p pd np nd ne
    refine mk_in (n := 1) np nd (by decide) (by decide) (by decide) (by decide) fun H1 s1 hp => ⟨rfl, ?_⟩
    have z0 : Rat.divInt 0 1 = 0 := by rfl
    rw [z0] at hp
    refine ⟨_, rfl, l, rfl, ⟨_, s1.seq hL.1⟩, for_list (K := K) (xs := L.map fun x => V.ref x.1) (fun i σ H2 => ∃ (q : Addr) (v : Option V), σ = [some (.ref l), some (.int 0), some (.ref q), v] ∧ Same H H2 ∧ H q = none ∧ Sh C H2 q (pr (sumR (ratsOf (L.take i)))))
      ⟨p, none, rfl, s1, np, hp⟩ (fun i σ H2 _ z => by obtain ⟨q, v, _, s2, _⟩ := z; exact s2.seq hL.1) ?_ ?_⟩
    · rintro i y σ H2 hi ⟨q, v, rfl, s2, fq, hq⟩
      rw [List.getElem?_map] at hi
      cases hx : L[i]? with
      | none =>
        rw [hx] at hi
        cases hi
      | some x =>
        rw [hx] at hi
        cases (Option.some.inj hi : V.ref x.1 = y)
        have hm : x ∈ L := List.mem_of_getElem? hx
        have hil : i < L.length := (List.getElem?_eq_some_iff.mp hx).1
        have et : L.take (i + 1) = L.take i ++ [x] := by rw [List.take_add_one, hx]; rfl
        have szt : Sz 500 (sumR (ratsOf (L.take i))) := by
          refine (sz_sum (k := 21) fun r hr => ?_).mono ?_
          · obtain ⟨x', hx', rfl⟩ := List.mem_map.mp hr
            exact hS x' (List.mem_of_mem_take hx')
          · unfold ratsOf
            rw [List.length_map, List.length_take]
            omega
        obtain ⟨dq, hq1⟩ := id hq
        refine ⟨_, rfl, q, dq, _, rfl, hq1, shF_no _ (by decide +kernel) (by decide +kernel), _, rfl, q, x.1, _, x.2, 500, rfl, hq, (hL.2 x hm).keep s2, szt, (hS x hm).mono (by decide), by decide, by decide, fun t H3 s3 ft ht => ?_⟩
        refine ⟨t, _, rfl, s2.trans s3, s2.free ft, ?_⟩
        have er : sumR (ratsOf (L.take i)) + x.2 = sumR (ratsOf (L.take (i + 1))) := by
          rw [et]
          unfold ratsOf
          rw [List.map_append, sumR_app]
          show _ = _ + (0 + x.2)
          rw [Rat.zero_add]
        rw [← er]
        exact ht
    · rintro σ H2 ⟨q, v, rfl, s2, fq, hq⟩
      rw [List.length_map, List.take_length] at hq
      exact ⟨_, rfl, hQ q H2 s2 fq hq⟩
end
end K58
set_option Elab.async false
set_option linter.all false
set_option maxRecDepth 100000
set_option maxHeartbeats 4000000
namespace K58
open PySem PySem.Spec PyProof.Rows L2
open KM (pr Sz)
open SX (S)
/-! ### multiples of one part -/
def Ro.key (r : Ro) : Str × Str × Rat := (r.p, r.t, r.v)
def mn (a b : Rat) : Rat := if a < b then a else b
def Gr (B m : Nat) (r : Rat) : Prop := ∃ t : Int, r = Rat.divInt t B ∧ t.natAbs ≤ m
theorem Gr.mono {B m k : Nat} {r : Rat} (h : Gr B m r) (e : m ≤ k) : Gr B k r := let ⟨t, a, b⟩ := h; ⟨t, a, Nat.le_trans b e⟩
theorem Gr.add {B m k : Nat} {r s : Rat} (hB : 0 < B) (h : Gr B m r) (g : Gr B k s) : Gr B (m + k) (r + s) := by
  obtain ⟨t, rfl, a⟩ := h
  obtain ⟨u, rfl, b⟩ := g
  have hb : (B : Int) ≠ 0 := by omega
  refine ⟨t + u, ?_, by omega⟩
  rw [Rat.divInt_add_divInt _ _ hb hb, ← Int.add_mul, Rat.divInt_mul_right hb]
theorem Gr.neg {B m : Nat} {r : Rat} (h : Gr B m r) : Gr B m (-r) := by
  obtain ⟨t, rfl, a⟩ := h
  exact ⟨-t, by rw [Rat.neg_divInt], by omega⟩
theorem Gr.sub {B m k : Nat} {r s : Rat} (hB : 0 < B) (h : Gr B m r) (g : Gr B k s) : Gr B (m + k) (r - s) := by
  rw [Rat.sub_eq_add_neg]
  exact h.add hB g.neg
theorem Gr.zero {B m : Nat} : Gr B m 0 := ⟨0, by rw [Rat.zero_divInt], Nat.zero_le _⟩
theorem Gr.sz {B m n : Nat} {r : Rat} (hB : 0 < B) (h : Gr B m r) (hm : m < 2 ^ n) (hb : B < 2 ^ n) : Sz n r := by
  obtain ⟨t, rfl, a⟩ := h
  exact KM.sz_of_low (by omega) (by omega) (by omega)
/-! ### who is paid, one behind another -/
theorem sumR_nil : sumR [] = 0 := rfl
theorem sumR_perm {xs ys : List Rat} (h : xs.Perm ys) : sumR xs = sumR ys := by
  induction h with
  | nil => rfl
  | cons x _ ih => rw [sumR_cons, sumR_cons, ih]
  | swap x y l => rw [sumR_cons, sumR_cons, sumR_cons, sumR_cons]; grind
  | trans _ _ a b => exact a.trans b
end K58
set_option Elab.async false
set_option linter.all false
set_option maxRecDepth 100000
set_option maxHeartbeats 4000000
/-! VL: list(d.values()), whatever the values. -/
namespace VL
open PySem PySem.Spec PyProof.Rows L2
theorem vals_get : ∀ {xs : List V} {us : List Value}, xs.length = us.length → (∀ (j : Nat) (x : V) (u : Value), xs[j]? = some x → us[j]? = some u → RelV x u) → Vals xs us
  | [], [], _, _ => .nil
  | x :: xs, u :: us, l, h => .cons (h 0 x u rfl rfl) (vals_get (by simpa using l) fun j x' u' e1 e2 => h (j + 1) x' u' (by simpa using e1) (by simpa using e2))
def tListVals (td : TE) : TE := fun σ H Q => td σ H fun x H1 => ∃ a kvs, x = V.ref a ∧ H1 a = some (.dK kvs) ∧ ∀ p, H1 p = none → Q (.ref p) (upd H1 p (.lst (kvs.map (·.2))))
theorem pe_listVals {X : Cx} {o : Expr} {p pos apos mpos : Pos} {td : TE} (hc : X.calm = true) (hg : Gl X "list") (hm : X.mg "list" = none) (hd : PE X o td) (hbase : attributeBase o "values" X.env (eval o X.env) = eval o X.env := by rfl) (hline : (apos.endLine == mpos.line) = true := by rfl)
    (na : starEach [Expr.Call (.Attribute o "values" apos) [] [] mpos] X.env = (false, eval (Expr.Call (.Attribute o "values" apos) [] [] mpos) X.env) :: starEach [] X.env := by rfl) :
    PE X (.Call (.Name "list" p) [.Call (.Attribute o "values" apos) [] [] mpos] [] pos) (tListVals td) := by
  refine ⟨fun pins s σ H Q I h => ?_⟩
  refine Call_ (ld_blt I hg hm boot_list (PyProof.Rows.callWith_type1 (args_cons (wpAny_Call_method0_late hbase hline (thn (hd.run pins s σ H _ I h) fun v s1 ⟨x, H1, I1, r1, a, kvs, ex, ha, q⟩ => ?_)) na) na))
  subst ex
  obtain rfl : v = Value.ref a := r1
  obtain ⟨hlen, hsys, vs, rel, dof⟩ := dk_of I1.hok ha
  obtain ⟨ep, dat⟩ := dof.dictAt
  have dat' := dat
  obtain ⟨ob, es, ho, ex, hdat, hko, hpr, hnd⟩ := dat'
  refine ⟨"dict", "dict.values", F.plainAttrs_dict, F.slot_dict_values, F.type_dict_values, ⟨ob, ho, ex.1⟩, fun b e => ?_, Calls.callWith_builtin rfl (PySem.evalArgs_none ?_)⟩
  · cases e
    exact ⟨ob, ho, ex.2.1⟩
  refine call_meetsIn F.slot_dict_values ⟨ob, ho, ex.1⟩ F.entry_dict_values (F.args_dict_values_1 _) (meets_dict_values (mixKind X.prog X.w) a hsys) ⟨⟨vs, dof⟩, args_nil ?_⟩
  have k1 : ∀ b u, s1.heap.get? b = some u → (s1.heap.push { cls := .type "dict_values", data := .fields #[.ref a] }).get? b = some u := fun b u e => Heap.get?_push_of_some _ e
  have dat1 : (s1.heap.push { cls := .type "dict_values", data := .fields #[.ref a] }).DictAt (mixKind X.prog X.w) a vs ep := dat.keep k1
  have hl : kvs.length = vs.length := KV.length rel
  have I2 : Inv X pins σ H1 { s1 with heap := s1.heap.push { cls := .type "dict_values", data := .fields #[.ref a] } } := I1.kept (t' := s1.toks) k1
  refine PySem.W.kdl_call (s := { s1 with heap := s1.heap.push { cls := .type "dict_values", data := .fields #[.ref a] } }) (PySem.W.kdl_values (knd := mixKind X.prog X.w) (d := a) (r := s1.heap.objs.size) (kvs := vs) (ep := ep)) (I1.ok.hd hc) ⟨⟨_, Heap.get?_push_size _ rfl, rfl, rfl⟩, dat1⟩ (by rw [← hl]; exact hlen) fun h' tk acc c' hk hD hacc => ?_
  refine ⟨.ref _, upd H1 (s1.heap.push { cls := .type "dict_values", data := .fields #[.ref a] }).objs.size (.lst (kvs.map (·.2))), I2.laid (t' := tk) hk (Nat.le_refl _) (show ObjOk X.prog X.w _ _ _ (.lst (kvs.map (·.2))) from ⟨by rw [List.length_map]; exact hlen, acc.toList, c', vals_get ?_ fun j x u e1 e2 => ?_, ?_⟩), rfl, q _ (I2.hok.fresh (Nat.le_refl _))⟩
  · exact (List.length_map ..).trans (hl.trans (hacc.1.symm.trans (Array.length_toList (xs := acc)).symm))
  · obtain ⟨k, hk2⟩ := hacc.2 j u (by rw [← Array.getElem?_toList]; exact e2)
    obtain ⟨y, h1, h2⟩ := KV.at' rel hk2
    rw [List.getElem?_map, h1] at e1
    cases e1
    exact h2
  · rw [Array.toArray_toList]
    exact hD
end VL
set_option Elab.async false
set_option linter.all false
set_option maxRecDepth 100000
set_option maxHeartbeats 4000000
namespace K58
open PySem PySem.Spec PyProof.Rows L2
open C8 (Cal Mak Met pe_c pe_mk pe_mt pe_mt0)
open KM (pr Sz)
open SX (S)
theorem ne_same (v : V) : (!decide (v = v)) = false := by simp
theorem no_below (q : Int × Int) : (shF q).lookup ("below" : Str) = none := shF_no q (by decide +kernel) (by decide +kernel)
theorem no_less (q : Int × Int) : (shF q).lookup ("less" : Str) = none := shF_no q (by decide +kernel) (by decide +kernel)
theorem num0 {r : Rat} : (pr r).1 = 0 ↔ r = 0 := Rat.num_eq_zero
theorem HL.app {C : Addr} {H : Hp} {l : Addr} {rows : List Ro} (h : HL C H l rows) (r : Ro) (h1 : H r.a = some (.tup [.str r.p, .str r.t, .ref r.s])) (h2 : Sh C H r.s (pr r.v)) : HL C (upd H l (.lst ((rows.map fun r => V.ref r.a) ++ [.ref r.a]))) l (rows ++ [r]) := by
  have shn : ∀ {p : Addr} {k : Int × Int}, Sh C H p k → Sh C (upd H l (.lst ((rows.map fun r => V.ref r.a) ++ [.ref r.a]))) p k := fun {p k} g => by
    obtain ⟨dx, e⟩ := g
    exact ⟨dx, by rw [upd_ne fun z => by rw [z, h.1] at e; cases e]; exact e⟩
  refine ⟨by rw [upd_same, List.map_append]; rfl, fun y hy => ?_⟩
  rcases List.mem_append.mp hy with z | z
  · obtain ⟨g1, g2⟩ := h.2 y z
    exact ⟨by rw [upd_ne fun z => by rw [z, h.1] at g1; cases g1]; exact g1, shn g2⟩
  · cases List.mem_singleton.mp z
    exact ⟨by rw [upd_ne fun z => by rw [z, h.1] at h1; cases h1]; exact h1, shn h2⟩
section
variable {P : Program} {w : World} {K : PySem.W.Frag} {mg : Str → Option Value} {base : Heap} {f C : Addr} {fd : FuncData}
def spCE (C : Addr) : Sp := fun vs H Q _ => ∃ (d : Addr) (L : List Str) (c : Str → Rat), vs = [.ref d] ∧ SDc C H d L c ∧ L.length ≤ 20 ∧ (∀ x ∈ L, Sz 20 (c x)) ∧ sumR (L.map c) = 0 ∧ ∀ H', Same H H' → Q .non H'
theorem ok_ce (F : Dn K d_check_even f fd) (bl : Bl mg) (T : Cl K mg C) (cT : Cal P w K mg base 5 "total" (spTotal K C) [.int 0]) : FnOk P w K mg base CX0 6 f fd ["standing"] (spCE C) := by
  refine F.ok sc_check_even (fun vs H Q E h => ?_) (fun cdv A outer s H vs Q E hr h => ?_)
  · obtain ⟨d, L, c, rfl, _⟩ := h
    rfl
  · obtain ⟨d, L, c, rfl, ⟨ad, hd, hv⟩, ll, hz, h0, hQ⟩ := h
    refine ⟨_, PSs.nox (pss_cons (ps_set (i := 1) sc_check_even.nd rfl (.inl rfl) (pe_c cT hr (by decide) rfl (pa_cons (VL.pe_listVals rfl rfl bl.list (pv 0)) pa_nil)))
      (pss_one (ps_if (pt_cmpR op_ne (pe_fld (pv 1) rfl) pe_int (nomark _)) pss_never pss_nil))), ?_⟩
    refine ⟨_, rfl, d, _, rfl, hd, fun l fl => ?_⟩
    have sl := same_new (o := .lst ((L.map fun x => ((Sum.inr x : Key), V.ref (ad x))).map (·.2))) fl
    have el : ((L.map fun x => ((Sum.inr x : Key), V.ref (ad x))).map (·.2)) = (L.map fun x => (ad x, c x)).map fun y => V.ref y.1 := by rw [List.map_map, List.map_map]; rfl
    refine ⟨l, L.map fun x => (ad x, c x), rfl, ⟨by rw [← el]; exact SqL.of upd_same, fun y hy => ?_⟩, fun y hy => ?_, by rw [List.length_map]; exact ll, fun t H2 s2 ft ht => ?_⟩
    · obtain ⟨x, hx, rfl⟩ := List.mem_map.mp hy
      exact (hv x hx).keep sl
    · obtain ⟨x, hx, rfl⟩ := List.mem_map.mp hy
      exact (hz x hx).mono (by decide)
    · have e : ratsOf (L.map fun x => (ad x, c x)) = L.map c := by unfold ratsOf; rw [List.map_map]; rfl
      rw [e, h0] at ht
      obtain ⟨dt, ht⟩ := ht
      refine ⟨_, rfl, t, C, dt, _, _, rfl, ht, T.cl, T.nt, shF_top _, rfl, _, rfl, ?_⟩
      have e0 : (!decide (V.int (pr 0).1 = V.int 0)) = false := ne_same (V.int 0)
      rw [e0]
      refine iteF ?_
      exact hQ H2 (sl.trans s2)
def spAN (C : Addr) : Sp := fun vs H Q _ => ∃ (d : Addr) (L : List Str) (c : Str → Rat), vs = [.ref d] ∧ SDc C H d L c ∧ L.length ≤ 300 ∧ (∀ x ∈ L, Sz 3900 (c x)) ∧
  ∀ o H', Same H H' → H o = none → H' o = some (.lst ((L.filter fun x => decide (0 < c x)).map V.str)) → Q (.ref o) H'
theorem ok_an (F : Dn K d_above_nought f fd) (M1 : MakS1 P w K mg base C) (mB : Met P w K mg base 1 C "below" (spLt C) []) : FnOk P w K mg base CX0 4 f fd ["standing"] (spAN C) := by
  refine F.ok sc_above_nought (fun vs H Q E h => ?_) (fun cdv A outer s H vs Q E hr h => ?_)
  · obtain ⟨d, L, c, rfl, _⟩ := h
    rfl
  · obtain ⟨d, L, c, rfl, ⟨ad, hd, hv⟩, ll, hz, hQ⟩ := h
    have hu := hu_of hr
    refine ⟨_, PSs.nox (pss_one (ps_ret (pe_lock (pe_lc (own := [("name", 1)]) (g := gName 1) rfl sc_above_nought.nd (pi_keys (pv 0)) (blkOk_by (N := N_above_nought) (sc := defScope s_above_nought) (by decide +kernel))
      (fun _ _ _ _ _ => pg_name (i := 1) sc_above_nought.nd rfl (Or.inl rfl)) (fun _ _ _ _ _ => pts_one (pt_val (pe_mt mB hr (by decide) (pe_mk M1 hr (by decide) rfl (pa_cons pe_int pa_nil)) (pa_cons (pe_dget hu (pv 0) (pv 1) (fun _ _ => rfl)) pa_nil))))
      (fun _ _ _ _ _ => pv 1))))), ?_⟩
    refine ⟨d, _, hd, trivial, fun od => ?_⟩
    obtain ⟨hd1, kp1, new1, back1⟩ := lockf (C := C) hd od
    have hv1 : ∀ x ∈ L, Sh C (upd H d (.frz od (dctO L fun x => .ref (ad x)))) (ad x) (pr (c x)) := fun x hx => (hv x hx).un ((hv x hx).at_ne hd)
    generalize upd H d (.frz od (dctO L fun x => .ref (ad x))) = H1 at hd1 kp1 new1 back1 hv1
    refine ⟨_, rfl, d, od, rfl, .inl ⟨_, hd1, fun D hD => lc_it walk_keys (fun i H2 => H2 D = some (.lst (((L.take i).filter fun x => decide (0 < c x)).map V.str)) ∧ Same H1 H2) ⟨upd_same, same_new hD⟩ (fun i H2 _ z => z.2 _ _ hd1) ?_ ?_⟩⟩
    · rintro i x H2 H3 hi ⟨hD2, sm⟩ ⟨eH, kk, v, hkk, rfl⟩
      have eH := eH.symm
      subst eH
      rw [List.length_map] at hi
      rw [List.getElem?_map] at hkk
      obtain ⟨z, hz0, e0⟩ := Option.map_eq_some_iff.mp hkk
      cases e0
      have hzL := List.mem_of_getElem? hz0
      refine ⟨rfl, ?_⟩
      intro t dt nt ndt ne
      refine mk_in (n := 1) nt ndt (by decide) (by decide) (by decide) (by decide) fun H4 s4 ht => ⟨rfl, ?_⟩
      rw [div01] at ht
      have dg : DGet H4 d (.str z) (some (.ref (ad z))) := .inl ⟨_, Sum.inr z, .inr ⟨od, s4 _ _ (sm _ _ hd1)⟩, rfl, by rw [val_dct, if_pos hzL]⟩
      obtain ⟨dt, ht⟩ := ht
      refine ⟨t, dt, _, rfl, ht, no_below _, _, rfl, _, rfl, d, _, rfl, dg, t, ad z, 0, c z, 3900, rfl, ⟨dt, ht⟩, ((hv1 z hzL).keep sm).keep s4, sz0 (by decide), hz z hzL, by decide, by decide, _, rfl, ?_⟩
      have hD4 := s4 _ _ hD2
      have ef : (L.take (i + 1)).filter (fun x => decide (0 < c x)) = (L.take i).filter (fun x => decide (0 < c x)) ++ if decide (0 < c z) = true then [z] else [] := by
        rw [take_one hz0, List.filter_append]
        by_cases q : 0 < c z <;> simp [q]
      refine ite2 (fun q => ?_) (fun q => ?_)
      · refine ⟨_, rfl, _, hD4, by rw [List.length_map]; exact Nat.lt_of_le_of_lt (List.length_filter_le _ _) (by rw [List.length_take]; exact line_lt (by omega)), ?_, fun b o e => ?_⟩
        · rw [upd_same, ef, if_pos q, List.map_append]
          rfl
        · rw [upd_ne (ne_of_none e hD)]
          exact s4 _ _ (sm _ _ e)
      · rw [ef, if_neg q, List.append_nil]
        exact ⟨hD4, sm.trans s4⟩
    · rintro H2 ⟨hD2, sm⟩
      rw [List.length_map, List.take_length] at hD2
      obtain ⟨nD, nDd⟩ := new1 D hD
      refine ⟨sm _ _ hd1, hQ D _ (back1 H2 sm) nD ?_⟩
      rw [upd_ne nDd]
      exact hD2
def spLe (C : Addr) : Sp := fun vs H Q _ => ∃ (p q : Addr) (r s : Rat) (n : Nat), vs = [.ref p, .ref q] ∧ Sh C H p (pr r) ∧ Sh C H q (pr s) ∧ Sz n r ∧ Sz n s ∧ 0 < n ∧ n ≤ 4000 ∧
  ∀ t H', Same H H' → H t = none → Sh C H' t (pr (mn r s)) → Q (.ref t) H'
theorem ok_le (F : Dn K d_lesser f fd) (mB : Met P w K mg base 1 C "below" (spLt C) []) (cS : Cal P w K mg base 4 "same_share" (spSS C) []) : FnOk P w K mg base CX0 5 f fd ["one", "other"] (spLe C) := by
  refine F.ok sc_lesser (fun vs H Q E h => ?_) (fun cdv A outer s H vs Q E hr h => ?_)
  · obtain ⟨p, q, r, s, n, rfl, _⟩ := h
    rfl
  · obtain ⟨p, q, r, s, n, rfl, hp, hq, sr, ss, n0, n9, hQ⟩ := h
    refine ⟨_, PSs.nox (pss_one (ps_ret (pe_c cS hr (by decide) rfl (pa_cons (pe_ifExp (pt_val (pe_mt mB hr (by decide) (pv 0) (pa_cons (pv 1) pa_nil))) (pv 0) (pv 1)) pa_nil)))), ?_⟩
    obtain ⟨dp, hp'⟩ := id hp
    refine ⟨_, rfl, p, dp, _, rfl, hp', no_below _, _, rfl, p, q, r, s, n, rfl, hp, hq, sr, ss, n0, n9, _, rfl, ?_⟩
    refine ite2 (fun c => ?_) (fun c => ?_)
    · have c := of_decide_eq_true c
      refine ⟨_, rfl, p, _, rfl, hp, fun t H2 s2 ft ht => hQ t H2 s2 ft ?_⟩
      unfold mn
      rw [if_pos c]
      exact ht
    · have c : ¬ r < s := fun z => c (decide_eq_true z)
      refine ⟨_, rfl, q, _, rfl, hq, fun t H2 s2 ft ht => hQ t H2 s2 ft ?_⟩
      unfold mn
      rw [if_neg c]
      exact ht
end
end K58
set_option Elab.async false
set_option linter.all false
set_option maxRecDepth 100000
set_option maxHeartbeats 4000000
namespace K58
open PySem PySem.Spec PyProof.Rows L2
open KM (pr Sz)
/-- the credits of one turn -/
structure Crd (L : List Str) (c : Str → Rat) (B : Nat) : Prop where
  nd : L.Nodup
  ll : L.length ≤ 12
  B0 : 0 < B
  B1 : B ≤ 60
  gr : ∀ x ∈ L, Gr B 1100 (c x)
  s0 : sumR (L.map c) = 0
theorem Crd.sz {L : List Str} {c : Str → Rat} {B : Nat} (h : Crd L c B) {x : Str} (hx : x ∈ L) : Sz 20 (c x) := (h.gr x hx).sz h.B0 (by decide) (by have := h.B1; omega)
end K58
set_option Elab.async false
set_option linter.all false
set_option maxRecDepth 100000
set_option maxHeartbeats 4000000
namespace K58
open PySem PySem.Spec PyProof.Rows L2
open C8 (Cal Mak Met pe_c pe_mk pe_mt pe_mt0)
open KM (pr Sz)
open SX (S)
theorem S_inj' {l m : List Nat} (h : S l = S m) : l = m := by
  have := congrArg (fun z : Str => z.cps.toList) h
  simpa [S] using this
theorem cut_from1 {α : Type} (g : α → V) (L : List α) : cutV (L.map g) (some 1) none = (L.drop 1).map g := by
  unfold cutV
  rw [show (1 : Int) = ((1 : Nat) : Int) from rfl, HT.sIx_nat, HT.sIx_none, List.length_map, List.map_drop]
  by_cases h : L.length = 0
  · rw [List.length_eq_zero_iff.mp h]
    rfl
  · rw [Nat.min_eq_left (by omega), List.take_of_length_le (by rw [List.length_drop, List.length_map]; omega)]
theorem Held.no {H : Hp} {h a : Addr} {c : Nat} {o : HO} (x : Held H h c) (e : H a = some o) (n : ∀ kvs, o ≠ .dK kvs) : a ≠ h := fun z => by
  obtain ⟨l, ns, m, k, h1, _⟩ := x
  rw [z, h1] at e
  exact n _ (Option.some.inj e).symm
theorem TDc.kp {H H' : Hp} {h d : Addr} {k : Nat} {L : List Str} {c : Str → Rat} (x : TDc H d L c) (he : Held H h k) (n : d ≠ h) (kp : Kp h H H') : TDc H' d L c := by
  obtain ⟨ad, h1, h2⟩ := x
  exact ⟨ad, kp.1 _ _ h1 n, fun y hy => kp.1 _ _ (h2 y hy) (he.no (h2 y hy) fun kvs e => by cases e)⟩
theorem sum_setc {c : Str → Rat} {L : List Str} {x : Str} {v : Rat} (h : x ∉ L) : sumR ((L ++ [x]).map (setc c x v)) = sumR (L.map c) + v := by
  have e : L.map (setc c x v) = L.map c := List.map_congr_left fun y hy => by
    unfold setc
    rw [if_neg (show ¬ y = x from fun z => h (z ▸ hy))]
  rw [List.map_append, sumR_app, e]
  show _ + (0 + setc c x v x) = _
  unfold setc
  rw [if_pos rfl, Rat.zero_add]
section
variable {P : Program} {w : World} {K : PySem.W.Frag} {mg : Str → Option Value} {base : Heap} {f C : Addr} {fd : FuncData}
def spStd : Sp := fun vs H Q _ => ∃ (h o : Addr) (cnt : Nat) (zs : List (List Nat)), vs = [.ref h, .ref o] ∧ Held H h (cnt + 40) ∧ H o = some (.lst (zs.map fun l => V.str (S l))) ∧ zs ≠ [] ∧ zs.length ≤ 12 ∧ zs.Pairwise (· ≠ ·) ∧
  ∀ (d : Addr) (H' : Hp) (L : List Str) (c : Str → Rat) (B : Nat), Held H' h cnt → Kp h H H' → H d = none → d ≠ h → TDc H' d L c → Crd L c B → L.Perm (zs.map S) → Q (.ref d) H'
theorem ok_std (F : Dn K d_l_standing f fd) (cD : CalD P w K mg base) (cL : CalL P w K mg base) (cA : Cal P w K mg base 2 "_law_add" spAdd []) : FnOk P w K mg base CX0 3 f fd ["_law_held_here", "_law_names_here"] spStd := by
  refine F.ok sc_l_standing (fun vs H Q E h => ?_) (fun cdv A outer s H vs Q E hr h => ?_)
  · obtain ⟨h, o, cnt, zs, rfl, _⟩ := h
    rfl
  · obtain ⟨h, o, cnt, zs, rfl, held, ho, zne, zl, zpw, hQ⟩ := h
    have hu := hu_of hr
    have noh : o ≠ h := held.no ho fun kvs e => by cases e
    refine ⟨_, PSs.nox (pss_cons (ps_par (i := 2) (j := 3) rfl sc_l_standing.nd rfl rfl (by decide) rfl rfl (pa_cons pe_dnewK (pa_cons (pe_tup (pa_cons pe_int (pa_cons pe_int pa_nil))) pa_nil)) rfl)
      (C8.pss_cut (ps_par (i := 4) (j := 5) rfl sc_l_standing.nd rfl rfl (by decide) rfl rfl (pa_cons (pe_ix ix_list (pe_lst (pa_cons pe_int (pa_cons pe_int (pa_cons pe_int (pa_cons (pe_op op_add pe_int (pe_c cD hr (by decide) rfl (pa_cons (pv 0) (pa_cons pe_int pa_nil)))) pa_nil))))) (pe_c cD hr (by decide) rfl (pa_cons (pv 0) (pa_cons pe_int pa_nil))) (fun _ _ => rfl))
        (pa_cons (pe_ix ix_list (pe_lst (pa_cons pe_int (pa_cons pe_int (pa_cons pe_int pa_nil)))) (pe_c cD hr (by decide) rfl (pa_cons (pv 0) (pa_cons pe_int pa_nil))) (fun _ _ => rfl)) pa_nil)) rfl)
      (C8.pss_cut (ps_for PassesOwn.never rfl (pi_list (pe_slice sl_list (pv 1) (po_some pe_int) po_none)) (pg_name (i := 6) sc_l_standing.nd rfl (.inl rfl))
        (pss_cons (ps_dput hu (pv 2) (pv 6) (pe_c cL hr (by decide) rfl (pa_cons (pe_op op_sub (pe_c cD hr (by decide) rfl (pa_cons (pv 0) (pa_cons (pe_op op_add (pe_op op_mulW pe_int (pv 5)) pe_int) pa_nil))) (pv 5)) (pa_cons (pv 4) pa_nil))) rfl)
        (pss_one (ps_set (i := 3) sc_l_standing.nd rfl (.inl rfl) (pe_c cA hr (by decide) rfl (pa_cons (pv 3) (pa_cons (pe_tup (pa_cons (pe_op op_sub pe_int (pe_ix ix_tup (pe_dget hu (pv 2) (pv 6) (fun _ _ => rfl)) pe_int (fun _ _ => rfl))) (pa_cons (pe_ix ix_tup (pe_dget hu (pv 2) (pv 6) (fun _ _ => rfl)) pe_int (fun _ _ => rfl)) pa_nil))) pa_nil)))))))
      (pss_cons (ps_dput hu (pv 2) (pe_ix ix_list (pv 1) pe_int (fun _ _ => rfl)) (pv 3) rfl)
      (pss_one (ps_ret (pv 2))))))), ?_⟩
    intro ds fds
    have sd := same_new (o := .dK []) fds
    have hds1 : (upd H ds (.dK [])) ds = some (dctO [] fun x => .ref 0) := upd_same
    have held1 := held.same sd
    have cel1 : Cel h ds (upd H ds (.dK [])) := (Cel.of held fds).kp (Kp.same sd)
    have ho1 := sd _ _ ho
    have k1 : Kp h H (upd H ds (.dK [])) := Kp.same sd
    have s1k : ∀ b o, H b = some o → b ≠ ds := fun b o e => ne_of_none e fds
    generalize upd H ds (.dK []) = H1 at hds1 held1 cel1 ho1 k1
    clear sd
    refine ⟨by show 2 ≤ sizeLine; decide, fun rt frt => ?_⟩
    have sr := same_new (o := .tup [.int 0, .int 1]) frt
    have hrt2 : (upd H1 rt (.tup [.int 0, .int 1])) rt = some (tupP (pr 0)) := by rw [upd_same]; rfl
    have hds2 := sr _ _ hds1
    have held2 := held1.same sr
    have cel2 := cel1.kp (Kp.same sr)
    have ho2 := sr _ _ ho1
    have k2 := k1.trans (Kp.same sr)
    generalize upd H1 rt (.tup [.int 0, .int 1]) = H2 at hrt2 hds2 held2 cel2 ho2 k2
    refine ⟨_, _, rfl, ?_⟩
    -- the bottom, how wide
    refine ⟨fun σ' H' => ∃ (B wd : Nat), σ' = [some (.ref h), some (.ref o), some (.ref ds), some (.ref rt), some (.int B), some (.int wd), none] ∧ 0 < B ∧ B ≤ 60 ∧ 0 < wd ∧ wd ≤ 100 ∧ H' rt = some (tupP (pr 0)) ∧ H' ds = some (dctO [] fun x => .ref 0) ∧ Held H' h (cnt + 30) ∧ Cel h ds H' ∧ H' o = some (.lst (zs.map fun l => V.str (S l))) ∧ Kp h H H', ?_, ?_⟩
    · refine ⟨_, rfl, h, cnt + 39, 60, rfl, held2.weak (by omega), by decide, by decide, fun r1 H3 r10 r11 held3 k3 => ⟨_, _, rfl, rfl, by show 4 ≤ sizeLine; decide, fun q fq => ?_⟩⟩
      have sq := same_new (o := .lst [.int 1, .int 2, .int 6, .int (1 + r1)]) fq
      have held4 := held3.same sq
      have hq4 : (upd H3 q (.lst [.int 1, .int 2, .int 6, .int (1 + r1)])) q = some (.lst [.int 1, .int 2, .int 6, .int (1 + r1)]) := upd_same
      have k24 := k3.trans (Kp.same sq)
      generalize upd H3 q (.lst [.int 1, .int 2, .int 6, .int (1 + r1)]) = H4 at held4 hq4 k24
      refine ⟨_, rfl, h, cnt + 38, 4, rfl, held4.weak (by omega), by decide, by decide, fun r2 H5 r20 r21 held5 k5 => ?_⟩
      have hq5 := k5.1 _ _ hq4 (held4.no hq4 fun kvs e => by cases e)
      obtain ⟨B, hB, B0, B1⟩ : ∃ B : Nat, atI [V.int 1, V.int 2, V.int 6, V.int (1 + r1)] r2 = some (.int (B : Int)) ∧ 0 < B ∧ B ≤ 60 := by
        rcases (show r2 = 0 ∨ r2 = 1 ∨ r2 = 2 ∨ r2 = 3 by omega) with rfl | rfl | rfl | rfl
        · exact ⟨1, rfl, by decide, by decide⟩
        · exact ⟨2, rfl, by decide, by decide⟩
        · exact ⟨6, rfl, by decide, by decide⟩
        · exact ⟨(1 + r1).toNat, by show some (V.int (1 + r1)) = _; rw [Int.toNat_of_nonneg (by omega)], by omega, by omega⟩
      refine ⟨q, _, _, _, rfl, rfl, SqL.of hq5, hB, by show 3 ≤ sizeLine; decide, fun q2 fq2 => ?_⟩
      have sq2 := same_new (o := .lst [.int 3, .int 7, .int 100]) fq2
      have held6 := held5.same sq2
      have hq6 : (upd H5 q2 (.lst [.int 3, .int 7, .int 100])) q2 = some (.lst [.int 3, .int 7, .int 100]) := upd_same
      have k26 := (k24.trans k5).trans (Kp.same sq2)
      generalize upd H5 q2 (.lst [.int 3, .int 7, .int 100]) = H6 at held6 hq6 k26
      refine ⟨_, rfl, h, cnt + 37, 3, rfl, held6.weak (by omega), by decide, by decide, fun r3 H7 r30 r31 held7 k7 => ?_⟩
      have hq7 := k7.1 _ _ hq6 (held6.no hq6 fun kvs e => by cases e)
      obtain ⟨wd, hw, w0, w1⟩ : ∃ wd : Nat, atI [V.int 3, V.int 7, V.int 100] r3 = some (.int (wd : Int)) ∧ 0 < wd ∧ wd ≤ 100 := by
        rcases (show r3 = 0 ∨ r3 = 1 ∨ r3 = 2 by omega) with rfl | rfl | rfl
        · exact ⟨3, rfl, by decide, by decide⟩
        · exact ⟨7, rfl, by decide, by decide⟩
        · exact ⟨100, rfl, by decide, by decide⟩
      have k27 := k26.trans k7
      exact ⟨q2, _, _, _, rfl, rfl, SqL.of hq7, hw, _, _, rfl, B, wd, rfl, B0, B1, w0, w1, k27.1 _ _ hrt2 (held2.no hrt2 fun kvs e => by cases e), k27.1 _ _ hds2 cel2.ne, held7.weak (by omega), cel2.kp k27, k27.1 _ _ ho2 noh, k2.trans k27⟩
    rintro σ' H3 ⟨B, wd, rfl, B0, B1, w0, w1, hrt3, hds3, held3, cel3, ho3, k3⟩
    clear held1 held2 hds1 hds2 hrt2 k1 k2 ho1 ho2 cel1 cel2
    have nds : ds ≠ h := cel3.ne
    have nods : o ≠ ds := fun z => by rw [z, hds3] at ho3; cases ho3
    -- the others
    refine ⟨fun σ' H' => ∃ (rt : Addr) (c : Str → Rat) (r : Rat) (v6 : Option V), σ' = [some (.ref h), some (.ref o), some (.ref ds), some (.ref rt), some (.int B), some (.int wd), v6] ∧ TDc H' ds ((zs.drop 1).map S) c ∧ (∀ x ∈ (zs.drop 1).map S, Gr B 100 (c x)) ∧ H' rt = some (tupP (pr r)) ∧ r = -(sumR (((zs.drop 1).map S).map c)) ∧ Gr B 1100 r ∧
      H' o = some (.lst (zs.map fun l => V.str (S l))) ∧ Held H' h cnt ∧ Cel h ds H' ∧ Kp h H H', ?_, ?_⟩
    · refine ⟨_, rfl, _, rfl, o, _, rfl, SqL.of ho3, ?_⟩
      rw [cut_from1]
      intro sl fsl
      obtain ⟨ms, hms⟩ : ∃ ms, ms = zs.drop 1 := ⟨_, rfl⟩
      rw [← hms]
      have ml : ms.length ≤ 11 := by rw [hms, List.length_drop]; omega
      have mpw : ms.Pairwise (· ≠ ·) := by rw [hms]; exact zpw.sublist (List.drop_sublist 1 zs)
      have ss := same_new (o := .lst (ms.map fun l => V.str (S l))) fsl
      have held4 := held3.same ss
      have cel4 := cel3.kp (Kp.same ss)
      have hsl4 : (upd H3 sl (.lst (ms.map fun l => V.str (S l)))) sl = some (.lst (ms.map fun l => V.str (S l))) := upd_same
      have ho4 := ss _ _ ho3
      have hds4 := ss _ _ hds3
      have hrt4 := ss _ _ hrt3
      have k4 := k3.trans (Kp.same ss)
      generalize upd H3 sl (.lst (ms.map fun l => V.str (S l))) = H4 at held4 cel4 hsl4 ho4 hds4 hrt4 k4
      have noslh : sl ≠ h := held4.no hsl4 fun kvs e => by cases e
      have nsl : sl ≠ ds := fun z => by rw [z, hds4] at hsl4; cases hsl4
      refine ⟨sl, rfl, ⟨_, SqL.of hsl4⟩, for_list (K := K) (xs := ms.map fun l => V.str (S l)) (fun i σ H' => ∃ (rt : Addr) (c : Str → Rat) (r : Rat) (v6 : Option V), σ = [some (.ref h), some (.ref o), some (.ref ds), some (.ref rt), some (.int B), some (.int wd), v6] ∧ TDc H' ds ((ms.take i).map S) c ∧ (∀ x ∈ (ms.take i).map S, Gr B 100 (c x)) ∧ H' rt = some (tupP (pr r)) ∧ r = -(sumR (((ms.take i).map S).map c)) ∧ Gr B (100 * i) r ∧
        H' o = some (.lst (zs.map fun l => V.str (S l))) ∧ H' sl = some (.lst (ms.map fun l => V.str (S l))) ∧ Held H' h (cnt + 20 - i) ∧ Cel h ds H' ∧ Kp h H H')
        ⟨rt, fun _ => 0, 0, none, rfl, ⟨fun _ => 0, hds4, fun x hx => (nomatch hx)⟩, fun x hx => (nomatch hx), hrt4, by show (0 : Rat) = -0; grind, Gr.zero, ho4, hsl4, held4.weak (by omega), cel4, k4⟩ (fun i σ H' _ z => by obtain ⟨_, _, _, _, _, _, _, _, _, _, _, e, _⟩ := z; exact SqL.of e) ?_ ?_⟩
      · rintro i v σ H5 hi ⟨rt5, c, r, v6, rfl, T5, g5, hrt5, er, gr5, ho5, hsl5, held5, cel5, k5⟩
        rw [List.getElem?_map] at hi
        obtain ⟨z, hz0, rfl⟩ := Option.map_eq_some_iff.mp hi
        have hil : i < ms.length := (List.getElem?_eq_some_iff.mp hz0).1
        have nb : (B : Int) ≠ 0 := by omega
        refine ⟨_, rfl, _, rfl, _, _, rfl, rfl, wide_mul (a := 7) (b := 7) (by decide) (by show ((wd : Int)).natAbs < 2 ^ 7; omega) (by decide) (by decide) (by decide), _, _, rfl, rfl, h, cnt + 20 - (i + 1), 2 * (wd : Int) + 1, rfl, held5.weak (by omega), by omega, by omega, fun t H6 t0 t1 held6 k6 => ⟨_, rfl, _, _, rfl, rfl, _, rfl, _, _, 12, rfl, nb, by show ((B : Int)).natAbs < 2 ^ 12; omega, by decide, by decide, fun q fq => ?_⟩⟩
        rw [KM.low_eq nb]
        have gv : Gr B 100 (Rat.divInt (t - wd) B) := ⟨t - wd, rfl, by omega⟩
        have sq := same_new (o := tupP (pr (Rat.divInt (t - wd) B))) fq
        have hq7 : (upd H6 q (tupP (pr (Rat.divInt (t - wd) B)))) q = some (tupP (pr (Rat.divInt (t - wd) B))) := upd_same
        have T7 := (T5.kp held5 nds k6).same sq
        have held7 := held6.same sq
        have cel7 := (cel5.kp k6).kp (Kp.same sq)
        have ho7 := sq _ _ (k6.1 _ _ ho5 noh)
        have hsl7 := sq _ _ (k6.1 _ _ hsl5 noslh)
        have hrt7 := sq _ _ (k6.1 _ _ hrt5 (held5.no hrt5 fun kvs e => by cases e))
        have k7 := (k5.trans k6).trans (Kp.same sq)
        generalize upd H6 q (tupP (pr (Rat.divInt (t - wd) B))) = H7 at hq7 T7 held7 cel7 ho7 hsl7 hrt7 k7
        generalize Rat.divInt (t - wd) B = vz at hq7 gv
        obtain ⟨ad, hd7, hv7⟩ := T7
        have nz : S z ∉ (ms.take i).map S := fun hm => by
          obtain ⟨y, hy, e⟩ := List.mem_map.mp hm
          have e := S_inj' e
          subst e
          obtain ⟨i', hi', e'⟩ := List.getElem_of_mem hy
          rw [List.getElem_take] at e'
          rw [List.length_take] at hi'
          have := List.pairwise_iff_getElem.mp mpw i' i (by omega) hil (by omega)
          exact this (by rw [e']; exact (List.getElem?_eq_some_iff.mp hz0).2.symm)
        have ek : (ms.take (i + 1)).map S = addK ((ms.take i).map S) (S z) := by
          unfold addK
          rw [if_neg nz, take_one hz0, List.map_append]
          rfl
        have ek2 : (ms.take (i + 1)).map S = (ms.take i).map S ++ [S z] := by
          rw [take_one hz0, List.map_append]
          rfl
        have tl : ((ms.take i).map S).length ≤ 100 := by rw [List.length_map, List.length_take]; omega
        have P7 := TDc.put (x := S z) (v := vz) hd7 hv7 hq7
        refine ⟨_, rfl, _, rfl, ds, _, rfl, DPut.k (k := Sum.inr (S z)) hd7 (by rw [List.length_map]; exact line_lt (by omega)), ?_⟩
        have hold : ∀ {b : Addr} {o' : HO}, H7 b = some o' → b ≠ ds → (upd H7 ds (.dK (putK (((ms.take i).map S).map fun y => ((Sum.inr y : Key), V.ref (ad y))) (Sum.inr (S z)) (.ref q)))) b = some o' := fun e n => by rw [upd_ne n]; exact e
        have nq : q ≠ ds := fun z => by rw [z, hd7] at hq7; cases hq7
        have nrt : rt5 ≠ ds := fun z => by rw [z, hd7] at hrt7; cases hrt7
        have hq8 := hold hq7 nq
        have hrt8 := hold hrt7 nrt
        have ho8 := hold ho7 nods
        have hsl8 := hold hsl7 nsl
        have dgv : valV (putK (((ms.take i).map S).map fun y => ((Sum.inr y : Key), V.ref (ad y))) (Sum.inr (S z)) (.ref q)) (Sum.inr (S z)) = some (.ref q) := by
          rw [put_dct, val_dct, if_pos mem_addK, if_pos rfl]
        have hd8 : (upd H7 ds (.dK (putK (((ms.take i).map S).map fun y => ((Sum.inr y : Key), V.ref (ad y))) (Sum.inr (S z)) (.ref q)))) ds = some (.dK (putK (((ms.take i).map S).map fun y => ((Sum.inr y : Key), V.ref (ad y))) (Sum.inr (S z)) (.ref q))) := upd_same
        have held8 : Held (upd H7 ds (.dK (putK (((ms.take i).map S).map fun y => ((Sum.inr y : Key), V.ref (ad y))) (Sum.inr (S z)) (.ref q)))) h (cnt + 20 - (i + 1)) := held7.put cel7
        have cel8 : Cel h ds (upd H7 ds (.dK (putK (((ms.take i).map S).map fun y => ((Sum.inr y : Key), V.ref (ad y))) (Sum.inr (S z)) (.ref q)))) := cel7.put nds.symm
        have k8 : Kp h H (upd H7 ds (.dK (putK (((ms.take i).map S).map fun y => ((Sum.inr y : Key), V.ref (ad y))) (Sum.inr (S z)) (.ref q)))) := k7.new fds
        generalize upd H7 ds (.dK (putK (((ms.take i).map S).map fun y => ((Sum.inr y : Key), V.ref (ad y))) (Sum.inr (S z)) (.ref q))) = H8 at P7 hq8 hrt8 ho8 hsl8 hd8 held8 cel8 k8
        clear hold
        have dg : DGet H8 ds (.str (S z)) (some (.ref q)) := by
          have := DGet.k (k := Sum.inr (S z)) hd8
          rw [dgv] at this
          exact this
        refine ⟨_, rfl, _, rfl, _, rfl, ds, _, rfl, dg, q, _, _, _, rfl, rfl, SqT.of hq8, atI_nat (j := 0) rfl, _, _, rfl, rfl, _, rfl, _, rfl, ds, _, rfl, dg, q, _, _, _, rfl, rfl, SqT.of hq8, atI_nat (j := 1) rfl, by show 2 ≤ sizeLine; decide, fun n fn => ?_⟩
        have e6 : (HO.tup [V.int (0 - (pr vz).1), V.int (pr vz).2]) = tupP (pr (-vz)) := by rw [← pr_neg]; rfl
        have sn := same_new (o := .tup [V.int (0 - (pr vz).1), V.int (pr vz).2]) fn
        have hn9 : (upd H8 n (.tup [V.int (0 - (pr vz).1), V.int (pr vz).2])) n = some (tupP (pr (-vz))) := by rw [upd_same, e6]
        refine ⟨rt5, n, _, _, 20, rfl, sn _ _ hrt8, hn9, ⟨bd_of (gr5.sz B0 (by omega) (by omega)), bd_of (gv.neg.sz B0 (by decide) (by omega)), by decide, by decide⟩, fun r2 fr2 => ?_⟩
        rw [KM.pr_plus]
        have sr2 := sn.trans (same_new (o := tupP (pr (r + -vz))) fr2)
        refine ⟨r2, setc c (S z) vz, r + -vz, _, rfl, ?_, ?_, upd_same, ?_, ?_, sr2 _ _ ho8, sr2 _ _ hsl8, held8.same sr2, cel8.kp (Kp.same sr2), k8.trans (Kp.same sr2)⟩
        · rw [ek]
          exact P7.same sr2
        · rw [ek]
          intro x hx
          unfold setc
          split
          · exact gv
          · rename_i nx
            exact g5 x ((addK_sub hx).elim id fun e => absurd e nx)
        · rw [ek2, sum_setc nz, er]
          grind
        · exact (gr5.add B0 gv.neg).mono (by omega)
      · rintro σ H5 ⟨rt5, c, r, v6, rfl, T5, g5, hrt5, er, gr5, ho5, hsl5, held5, cel5, k5⟩
        have eT : ms.take (ms.map fun l => V.str (S l)).length = ms := by rw [List.length_map, List.take_length]
        have lT : (ms.map fun l => V.str (S l)).length ≤ 11 := by rw [List.length_map]; exact ml
        rw [eT] at T5 g5 er
        exact ⟨rt5, c, r, v6, rfl, T5, g5, hrt5, er, gr5.mono (by omega), ho5, held5.weak (by omega), cel5, k5⟩
    rintro σ' H4 ⟨rt4, c, r, w6, rfl, T4, g4, hrt4, er, gr4, ho4, held4, cel4, k4⟩
    obtain ⟨z0, ms, rfl⟩ : ∃ z0 ms, zs = z0 :: ms := by
      cases zs with
      | nil => exact absurd rfl zne
      | cons z0 ms => exact ⟨z0, ms, rfl⟩
    have ed : (z0 :: ms).drop 1 = ms := rfl
    rw [ed] at T4 g4 er
    have n0 : S z0 ∉ ms.map S := fun hm => by
      obtain ⟨y, hy, e⟩ := List.mem_map.mp hm
      exact (List.pairwise_cons.mp zpw).1 y hy (S_inj' e).symm
    have ndm : (ms.map S).Nodup := List.Pairwise.map S (fun a b ne e => ne (S_inj' e)) (List.pairwise_cons.mp zpw).2
    have ml : (ms.map S).length ≤ 11 := by rw [List.length_map]; rw [List.length_cons] at zl; omega
    obtain ⟨ad, hd4, hv4⟩ := T4
    have P4 := TDc.put (x := S z0) (v := r) hd4 hv4 hrt4
    have ea : addK (ms.map S) (S z0) = ms.map S ++ [S z0] := by unfold addK; rw [if_neg n0]
    refine ⟨_, rfl, _, rfl, _, rfl, o, _, 0, .str (S z0), rfl, rfl, SqL.of ho4, atI_nat (j := 0) rfl, ds, _, rfl, DPut.k (k := Sum.inr (S z0)) hd4 (by rw [List.length_map]; exact line_lt (by omega)), ?_⟩
    refine ⟨_, rfl, hQ ds _ (addK (ms.map S) (S z0)) (setc c (S z0) r) B (held4.put cel4) (k4.new fds) fds nds P4 ⟨addK_nd ndm, ?_, B0, B1, fun x hx => ?_, ?_⟩ ?_⟩
    · have := addK_len (ms.map S) (S z0)
      omega
    · unfold setc
      split
      · exact gr4
      · rename_i nx
        exact (g4 x ((addK_sub hx).elim id fun e => absurd e nx)).mono (by decide)
    · rw [ea, sum_setc n0, er]
      grind
    · rw [ea]
      exact List.perm_append_comm
end
end K58
set_option Elab.async false
set_option linter.all false
set_option maxRecDepth 100000
set_option maxHeartbeats 4000000
/-! sorted(xs), xs a list of data at any depth -/
namespace SRT
open PySem PySem.Spec PyProof.Rows L2
/-- p stands not behind q -/
def leD (p q : V × PyData) : Bool := !PySem.W.dataLt q.2 p.2
/-- the sorted list -/
def srt (xs : List V) (ds : List PyData) : List V := ((xs.zip ds).mergeSort leD).map Prod.fst
theorem len_of {K : PySem.W.Frag} {H : Hp} : ∀ {xs : List V} {ds : List PyData}, DpAll K H xs ds → xs.length = ds.length
  | _, _, .nil => rfl
  | _, _, .cons _ t => congrArg (· + 1) (len_of t)
theorem srt_perm {xs : List V} {ds : List PyData} (h : xs.length = ds.length) : (srt xs ds).Perm xs := by
  unfold srt
  refine ((List.mergeSort_perm _ _).map Prod.fst).trans ?_
  rw [List.map_fst_zip (by omega)]
theorem vals_each : ∀ {xs : List V} {us : List Value} {ds : List PyData}, Vals xs us → xs.length = ds.length → PySem.W.EachIs (fun v (b : V × PyData) => RelV b.1 v) us (xs.zip ds)
  | [], _, [], .nil, _ => .nil
  | x :: xs, _, d :: ds, .cons r rs, h => .cons r (vals_each rs (by simpa using h))
theorem each_vals : ∀ {us : List Value} {bs : List (V × PyData)}, PySem.W.EachIs (fun v (b : V × PyData) => RelV b.1 v) us bs → Vals (bs.map Prod.fst) us
  | _, _, .nil => .nil
  | _, _, .cons r rs => .cons r (each_vals rs)
def rSortedD (K : PySem.W.Frag) : List V → Hp → VK → Prop := fun vs H Q => ∃ (a : Addr) (xs : List V) (ds : List PyData), vs = [V.ref a] ∧ (SqL K H a xs ∨ SqT K H a xs) ∧ DpAll K H xs ds ∧ PySem.W.AllAlike ds ∧ PySem.W.Sortable ds ∧ (∀ d ∈ ds, d.depth ≤ 60) ∧
  ∀ p : Addr, H p = none → Q (.ref p) (upd H p (.lst (srt xs ds)))
/-! sorted of a tuple -/
section
variable {prog : Program} {w : World} {A : Around} {E : Value → Shared → Prop} {s : Shared} {κ : KeyKind}
theorem gather_tup {b : Addr} {us : List Value} {R : List Value → Shared → Prop} (ht : s.heap.IsTuple b us.toArray) (hz : us.length ≤ sizeLine)
    (h : R us { s with heap := (s.heap.push (seqObj "list" #[] 0)).update s.heap.objs.size (Obj.mapSeq (· ++ us.toArray)) }) : wpAny (model prog w) A (collect (.ref b)) R E s := by
  obtain ⟨ob, e1, e2, k, e3⟩ := id ht
  have e4 : (s.heap.push (seqObj "list" #[] 0)).get? b = some ob := Heap.get?_push_of_some _ e1
  have em : (s.heap.push (seqObj "list" #[] 0)).get? s.heap.objs.size = some (seqObj "list" #[] 0) := Heap.get?_push_size _ rfl
  unfold collect
  refine wpAny_bind (wpAny_runValue (codeAny_builtin entry_proto_collect' ?_))
  show wpAny _ _ (do again (.builtin "list.__iadd__" ⟨[← newList [], .ref b], []⟩)) _ _ s
  refine wpAny_bind (wpAny_newList (wpAny_pure ⟨Code.quiet_builtin _ (by decide +kernel), codeAny_builtin entry_list_iadd' ?_⟩))
  show wpAny _ _ (Builtin.List.listExtendWith (.ref s.heap.objs.size) (.ref b) (.ref s.heap.objs.size)) _ _ { s with heap := s.heap.push (seqObj "list" #[] 0) }
  unfold Builtin.List.listExtendWith
  refine wpAny_bind (wpAny_typeOf (T := "tuple") ⟨ob, e4, e2⟩ ?_)
  have et : (Value.type "tuple" == Value.type "tuple") = true := by rfl
  rw [if_pos (by rw [et]; simp)]
  refine wpAny_bind (listItems_at e4 e3 (wpAny_bind (listItems_at em rfl ?_)))
  rw [if_neg (by simp)]
  refine wpAny_bind (listUpdate_at em rfl ?_ (Nat.zero_le _) (by simp only [Array.size_append, List.size_toArray, List.length_nil]; omega))
  refine wpAny_pure ?_
  show wpAny (model prog w) A (load s.heap.objs.size >>= fun o => match o.data with | .seq xs _ => pure xs.toList | _ => unsupported "internal:collect") R E _
  refine wpAny_bind (wpAny_load (get?_update_seq em _) ?_)
  show wpAny _ _ (pure ((#[] : Array Value) ++ us.toArray).toList) R E _
  have e5 : ((#[] : Array Value) ++ us.toArray).toList = us := by simp
  rw [e5]
  exact wpAny_pure h
theorem sorted_tupV {b : Addr} {us : List Value} {R : Value → Shared → Prop} (ht : s.heap.IsTuple b us.toArray) (hz : us.length ≤ sizeLine)
    (S : PySem.W.SortsAt prog w A.in1.in1 { s with heap := PySem.W.sortingHeap (PySem.W.copyHeap s.heap us) (s.heap.objs.size + 1) us } κ us)
    (h : R (.ref (s.heap.objs.size + 1)) { s with heap := sortedAll s.heap us (PySem.W.sortVals κ false us us).toArray }) : wpAny (model prog w) A (call (.builtin "sorted") [.ref b]) R E s := by
  refine Calls.call_function_entry kind_sorted plain_sorted entry_sorted (args_sorted1 _) ?_
  unfold Builtin.«sorted»
  refine wpAny_bind (m := checkCount "sorted" 1 1 _) (wpAny_pure (wpAny_bind (gather_tup ht hz (wpAny_bind (wpAny_newList ?_ hz)))))
  have e : ((s.heap.push (seqObj "list" #[] 0)).update s.heap.objs.size (Obj.mapSeq (· ++ us.toArray))).objs.size = s.heap.objs.size + 1 := (Heap.size_update ..).trans (size_push' ..)
  show wpAny _ _ _ _ _ { s with heap := PySem.W.copyHeap s.heap us }
  rw [e]
  refine wpAny_bind (wpAny_holding (wpAny_call_entry slot_list_sort ⟨_, PySem.W.copyHeap_at s.heap us, rfl⟩ entry_list_sort ?_ (args_list_sort _)))
  exact PySem.W.list_sort_vals (s := { s with heap := PySem.W.copyHeap s.heap us }) (PySem.W.copyHeap_at s.heap us) S hz ⟨_, rfl, wpAny_pure ⟨_, rfl, h⟩⟩
end
section
variable {X : Cx} {pins : List (Addr × Obj)} {σ : L2.St} {H : Hp} {s : Shared}
theorem reads_each (I : Inv X pins σ H s) : ∀ {ds : List PyData} {vs : List V} {us : List Value}, DpAll X.K H vs ds → Vals vs us → PySem.W.EachIs (fun v d => ∃ as, Reads s.heap v d as) us ds
  | [], _, _, h, r => by
    cases h
    cases r
    exact .nil
  | d :: ds, _, _, h, r => by
    cases h with
    | cons h1 h2 =>
      cases r with
      | cons r1 r2 => exact .cons (Dp.reads I d _ _ h1 r1) (reads_each I h2 r2)
theorem cr_sortedD (hu : X.A.units + 64 < cLine) : CallR X (.builtin "sorted") (rSortedD X.K) := by
  intro pins s σ H vs us Q I r h
  obtain ⟨a, xs, ds, rfl, hs, hd, al, so, dp, q⟩ := h
  rw [Vals.ref1 r]
  have ln := len_of hd
  have main : ∀ its : List Value, Vals xs its → xs.length ≤ sizeLine → ∃ κ : KeyKind, PySem.W.SortsAt X.prog X.w X.A.in1.in1 { s with heap := PySem.W.sortingHeap (PySem.W.copyHeap s.heap its) (s.heap.objs.size + 1) its } κ its ∧
      EP X pins σ Q (.ref (s.heap.objs.size + 1)) { s with heap := sortedAll s.heap its (PySem.W.sortVals κ false its its).toArray } := fun its rv hz => by
    have e := reads_each I hd rv
    have e2 : PySem.W.EachIs (fun v d => ∃ as, Reads (PySem.W.sortingHeap (PySem.W.copyHeap s.heap its) (s.heap.objs.size + 1) its) v d as) its ds := e.mono fun v d ⟨as, h⟩ => ⟨as, Reads.keeps (fun b o z => PySem.W.sorting_copy_old z) h⟩
    have S := PySem.W.SortsAt.data (prog := X.prog) (w := X.w) (A := X.A.in1.in1) (s := { s with heap := PySem.W.sortingHeap (PySem.W.copyHeap s.heap its) (s.heap.objs.size + 1) its }) e2 al so (fun d hd => by have := dp d hd; show X.A.units + 1 + 1 + d.depth < cLine; omega)
    refine ⟨_, S, ?_⟩
    have ek : PySem.W.EachIs (fun v (b : V × PyData) => (PySem.W.dataKind (PySem.W.sortingHeap (PySem.W.copyHeap s.heap its) (s.heap.objs.size + 1) its) ds).keyOf v = some (PySem.W.keyToks b.2)) its (xs.zip ds) := by
      have f := PySem.W.each_keys al e2
      have mz : (xs.zip ds).map Prod.snd = ds := List.map_snd_zip (by omega)
      rw [← mz] at f
      have f' := PySem.W.each_of_map (fun b : V × PyData => b.2) f
      rw [mz] at f'
      exact f'
    have eo := PySem.W.sortVals_each (κ := PySem.W.dataKind (PySem.W.sortingHeap (PySem.W.copyHeap s.heap its) (s.heap.objs.size + 1) its) ds) (rev := false) (fun b : V × PyData => PySem.W.keyToks b.2) (vals_each rv ln) ek
    have vo := each_vals eo
    generalize PySem.W.sortVals _ false its its = out at vo ⊢
    obtain ⟨ep, he'⟩ := PyProof.Rows.sortedAll_at s.heap its out.toArray
    have hlen : (srt xs ds).length ≤ sizeLine := by rw [(srt_perm ln).length_eq]; exact hz
    exact ⟨.ref _, upd H (s.heap.objs.size + 1) (.lst (srt xs ds)), I.laid (t' := s.toks) (fun _ _ => PyProof.Rows.sortedAll_old) (Nat.le_succ _) ⟨hlen, out, ep, vo, he'⟩, rfl, q _ (I.hok.fresh (Nat.le_succ _))⟩
  rcases hs with hs | hs
  · obtain ⟨its, rv, hl, hz⟩ := I.list hs
    obtain ⟨κ, S, k⟩ := main its rv hz
    exact PySem.W.sorted_vals hl.isList S (by rw [← rv.length]; exact hz) k
  · obtain ⟨its, rv, hl, hz⟩ := I.tuple hs
    obtain ⟨κ, S, k⟩ := main its rv hz
    exact sorted_tupV hl (by rw [← rv.length]; exact hz) S k
/-- texts -/
def leS (x y : Str) : Prop := ¬ y.cps.toList < x.cps.toList
theorem dpS {H : Hp} : ∀ xs : List Str, DpAll X.K H (xs.map V.str) (xs.map PyData.str)
  | [] => .nil
  | x :: xs => .cons (.str x) (dpS xs)
theorem srtS (xs : List Str) : ∃ ys : List Str, srt (xs.map V.str) (xs.map PyData.str) = ys.map V.str ∧ ys.Perm xs ∧ ys.Pairwise leS := by
  have tot := PySem.W.sortLe_total (listOrd itemOrd) false (fun p : V × PyData => PySem.W.keyToks p.2)
  have pw := PySem.W.sort_pairwise tot ((xs.map V.str).zip (xs.map PyData.str))
  have pm := List.mergeSort_perm ((xs.map V.str).zip (xs.map PyData.str)) leD
  have mem : ∀ p ∈ ((xs.map V.str).zip (xs.map PyData.str)).mergeSort leD, ∃ x, p = (V.str x, PyData.str x) := fun p hp => by
    have := pm.mem_iff.mp hp
    rw [List.zip_map'] at this
    obtain ⟨x, _, e⟩ := List.mem_map.mp this
    exact ⟨x, e.symm⟩
  have pw' : (((xs.map V.str).zip (xs.map PyData.str)).mergeSort leD).Pairwise fun a b => leD a b = true := pw
  unfold srt
  generalize ((xs.map V.str).zip (xs.map PyData.str)).mergeSort leD = L at pm mem pw'
  have : ∃ ys : List Str, L = ys.map fun x => (V.str x, PyData.str x) := by
    clear pm pw'
    induction L with
    | nil => exact ⟨[], rfl⟩
    | cons p L ih =>
      obtain ⟨x, e⟩ := mem p List.mem_cons_self
      obtain ⟨ys, e2⟩ := ih fun q hq => mem q (List.mem_cons_of_mem _ hq)
      exact ⟨x :: ys, by rw [e, e2]; rfl⟩
  obtain ⟨ys, rfl⟩ := this
  refine ⟨ys, ?_, ?_, ?_⟩
  · rw [List.map_map]
    rfl
  · have p2 := pm.map fun p : V × PyData => match p.1 with | .str x => x | _ => ""
    rw [List.map_map, List.zip_map', List.map_map] at p2
    simpa [Function.comp_def] using p2
  · refine (List.pairwise_map.mp pw').imp fun {a b} h => ?_
    have h' : (!PySem.W.dataLt (.str b) (.str a)) = true := h
    rw [PySem.W.dataLt_str] at h'
    simpa [leS] using h'
/-- sorted of texts, a list or a tuple -/
def rSortedTx (K : PySem.W.Frag) : List V → Hp → VK → Prop := fun vs H Q => ∃ (a : Addr) (xs : List Str), vs = [V.ref a] ∧ (SqL K H a (xs.map V.str) ∨ SqT K H a (xs.map V.str)) ∧
  ∀ (ys : List Str) (p : Addr), ys.Perm xs → ys.Pairwise leS → H p = none → Q (.ref p) (upd H p (.lst (ys.map V.str)))
theorem cr_sortedTx (hu : X.A.units + 64 < cLine) : CallR X (.builtin "sorted") (rSortedTx X.K) := by
  intro pins s σ H vs us Q I r h
  obtain ⟨a, xs, rfl, hs, q⟩ := h
  obtain ⟨ys, e, pm, pw⟩ := srtS xs
  refine cr_sortedD hu pins s σ H _ us Q I r ⟨a, _, xs.map PyData.str, rfl, hs, dpS xs, fun d h1 d' h2 => ?_, .inr fun d h1 => ?_, fun d h1 => ?_, fun p fp => ?_⟩
  · obtain ⟨x, _, rfl⟩ := List.mem_map.mp h1
    obtain ⟨y, _, rfl⟩ := List.mem_map.mp h2
    rfl
  · obtain ⟨x, _, rfl⟩ := List.mem_map.mp h1
    refine ⟨fun z => ?_, fun l z => ?_⟩ <;> cases z
  · obtain ⟨x, _, rfl⟩ := List.mem_map.mp h1
    show 0 ≤ 60
    decide
  · rw [e]
    exact q ys p pm pw fp
end
end SRT
set_option Elab.async false
set_option linter.all false
set_option maxRecDepth 100000
set_option maxHeartbeats 4000000
/-! MXP: max of a list of pairs of whole numbers: one of those whose first is the greatest. -/
namespace MXP
open PySem PySem.Spec PyProof.Rows L2
open PySem.W (DatumOrd Datum)
theorem lt_fst {x y : Int × Int} (h : DatumOrd.lt x y = true) : x.1 ≤ y.1 := by
  have h' : (if x.1 = y.1 then decide (x.2 < y.2) else decide (x.1 < y.1)) = true := h
  split at h'
  · omega
  · have := of_decide_eq_true h'
    omega
theorem nlt_fst {x y : Int × Int} (h : ¬ DatumOrd.lt x y = true) : y.1 ≤ x.1 := by
  have h' : ¬ (if x.1 = y.1 then decide (x.2 < y.2) else decide (x.1 < y.1)) = true := h
  split at h'
  · omega
  · simp only [decide_eq_true_eq] at h'
    omega
theorem max_fst : ∀ (xs : List (Int × Int)) (x : Int × Int), x.1 ≤ (PySem.W.maxOf x xs).1 ∧ ∀ q ∈ xs, q.1 ≤ (PySem.W.maxOf x xs).1
  | [], x => ⟨Int.le_refl _, fun q h => nomatch h⟩
  | y :: ys, x => by
    have e : PySem.W.maxOf x (y :: ys) = PySem.W.maxOf (if DatumOrd.lt x y = true then y else x) ys := rfl
    by_cases h : DatumOrd.lt x y = true
    · rw [e, if_pos h]
      obtain ⟨a, b⟩ := max_fst ys y
      refine ⟨Int.le_trans (lt_fst h) a, fun q hq => ?_⟩
      rcases List.mem_cons.mp hq with rfl | hq
      · exact a
      · exact b q hq
    · rw [e, if_neg h]
      obtain ⟨a, b⟩ := max_fst ys x
      refine ⟨a, fun q hq => ?_⟩
      rcases List.mem_cons.mp hq with rfl | hq
      · exact Int.le_trans (nlt_fst h) a
      · exact b q hq
def pD (p : Int × Int) : PyData := .tuple [.int p.1, .int p.2]
theorem depth_p : ∀ ps : List (Int × Int), PyData.depthAll (ps.map pD) ≤ 1
  | [] => by simp [PyData.depthAll]
  | p :: ps => by
    rw [List.map_cons, PyData.depthAll]
    have := depth_p ps
    have e : (pD p).depth = 1 := by simp [pD, PyData.depth, PyData.depthAll]
    omega
theorem inv_p {h : Heap} {v : Value} {p : Int × Int} {a : Addr} {o : Obj} {c : Nat} {t1 t2 : Tok} {i j : Int} {as : List Addr} (e : v = .ref a) (ho : h.get? a = some o) (hd : o.data = .seq #[.int i t1, .int j t2] c) (r : Reads h v (pD p) as) : p = (i, j) := by
  subst e
  unfold pD at r
  cases r with
  | tuple ho' hc' hd' hr' =>
    rw [ho] at ho'
    cases ho'
    rw [hd] at hd'
    cases hd'
    cases hr' with
    | cons r1 r2 =>
      cases r1
      cases r2 with
      | cons r3 r4 =>
        cases r3
        rfl
section
variable {X : Cx}
def rMaxP (K : PySem.W.Frag) : List V → Hp → VK → Prop := fun vs H Q => ∃ (l : Addr) (rs : List (Addr × Int × Int)), vs = [.ref l] ∧ SqL K H l (rs.map fun r => V.ref r.1) ∧ rs ≠ [] ∧ (∀ r ∈ rs, H r.1 = some (.tup [.int r.2.1, .int r.2.2])) ∧
  ∀ r ∈ rs, (∀ q ∈ rs, q.2.1 ≤ r.2.1) → Q (.ref r.1) H
theorem dp_rs {K : PySem.W.Frag} {H : Hp} : ∀ {rs : List (Addr × Int × Int)}, (∀ r ∈ rs, H r.1 = some (.tup [.int r.2.1, .int r.2.2])) → DpAll K H (rs.map fun r => V.ref r.1) ((rs.map fun r => r.2).map pD)
  | [], _ => .nil
  | r :: rs, h => .cons (.tup (SqT.of (h r List.mem_cons_self)) (.cons (.int _) (.cons (.int _) .nil))) (dp_rs fun q hq => h q (List.mem_cons_of_mem _ hq))
theorem call_maxP (hc : X.calm = true) (hu : X.A.units + 64 < cLine) : CallR X (.builtin "max") (rMaxP X.K) := by
  intro pins s σ H vs us Q I rv h
  obtain ⟨l, rs, rfl, hs, ne, hp, q⟩ := h
  obtain ⟨u, rfl, ru⟩ := rv.one
  cases ru
  obtain ⟨its, rvl, hl, hz⟩ := I.list hs
  obtain ⟨as, hr⟩ := Dp.readsAll I _ _ its (dp_rs (K := X.K) hp) rvl
  obtain ⟨r0, rt, rfl⟩ : ∃ r0 rt, rs = r0 :: rt := by
    cases rs with
    | nil => exact absurd rfl ne
    | cons a b => exact ⟨a, b, rfl⟩
  have eP : pD = (Datum.toD : Int × Int → PyData) := funext fun _ => rfl
  have eD : PySem.W.maxD (pD r0.2) ((rt.map fun r => r.2).map pD) = pD (PySem.W.maxOf r0.2 (rt.map fun r => r.2)) := by
    rw [eP]
    exact PySem.W.maxD_map (α := Int × Int) r0.2 (rt.map fun r => r.2)
  have al : PySem.W.AlikeAll (pD r0.2 :: (rt.map fun r => r.2).map pD) := by
    rw [eP]
    exact PySem.W.alikeAll_datum (α := Int × Int) (r0.2 :: rt.map fun r => r.2)
  refine PySem.W.max_list_data (x := pD r0.2) (xs := (rt.map fun r => r.2).map pD) (I.ok.hd hc) hl.isList (by simpa using hr) al (by have := depth_p ((r0 :: rt).map fun r => r.2); simp only [List.map_cons] at this; omega) (fun i v h' tk bs hi hr' hk => ?_)
  rw [eD] at hr'
  have hi' : its[i]? = some v := by simpa using hi
  have il : i < ((r0 :: rt).map fun r => V.ref r.1).length := by
    rw [rvl.length]
    exact (List.getElem?_eq_some_iff.mp hi').1
  have ir : i < (r0 :: rt).length := by simpa using il
  obtain ⟨u1, e1, q1⟩ := rvl.get (List.getElem?_eq_getElem il)
  rw [hi'] at e1
  cases e1
  rw [List.getElem_map] at q1
  have ev : v = Value.ref ((r0 :: rt)[i]).1 := q1
  have hm : (r0 :: rt)[i] ∈ r0 :: rt := List.getElem_mem ir
  have hx := hp _ hm
  obtain ⟨js, rj, ⟨o, ho, hcl, n, hd⟩, _⟩ := I.tuple (SqT.of (K := X.K) hx)
  have em : PySem.W.maxOf r0.2 (rt.map fun r => r.2) = ((r0 :: rt)[i]).2 := by
    match js, rj with
    | [_, _], .cons r1 (.cons r2 .nil) =>
      obtain ⟨t1, rfl⟩ := r1
      obtain ⟨t2, rfl⟩ := r2
      exact inv_p ev (hk _ _ ho) hd hr'
  refine ⟨.ref ((r0 :: rt)[i]).1, H, I.kept hk, ev, q _ hm fun y hy => ?_⟩
  rw [← em]
  obtain ⟨a, b⟩ := max_fst (rt.map fun r => r.2) r0.2
  rcases List.mem_cons.mp hy with rfl | hy
  · exact a
  · exact b _ (List.mem_map.mpr ⟨y, hy, rfl⟩)
end
end MXP
set_option Elab.async false
set_option linter.all false
set_option maxRecDepth 100000
set_option maxHeartbeats 4000000
namespace K58
open PySem PySem.Spec PyProof.Rows L2
open C8 (Cal Mak Met pe_c pe_mk pe_mt pe_mt0)
open KM (pr Sz)
/-- the product of the bottoms -/
def comN (c : Str → Rat) (xs : List Str) : Nat := xs.foldl (fun a x => a * (c x).den) 1
theorem comN_snoc (c : Str → Rat) (xs : List Str) (x : Str) : comN c (xs ++ [x]) = comN c xs * (c x).den := by
  unfold comN
  rw [List.foldl_append]
  rfl
/-- small credits -/
def Cs (r : Rat) : Prop := r.den ≤ 60 ∧ r.num.natAbs ≤ 1100
theorem com_lt {c : Str → Rat} : ∀ (n : Nat) {xs : List Str}, xs.length = n → (∀ x ∈ xs, Cs (c x)) → comN c xs < 2 ^ (6 * n + 1)
  | 0, xs, e, _ => by
    rw [List.length_eq_zero_iff.mp e]
    show 1 < 2 ^ 1
    decide
  | n + 1, xs, e, h => by
    have ne : xs ≠ [] := fun z => by rw [z] at e; simp at e
    rw [← List.dropLast_concat_getLast ne] at h ⊢
    rw [comN_snoc]
    have ih := com_lt n (xs := xs.dropLast) (by rw [List.length_dropLast]; omega) fun x hx => h x (List.mem_append_left _ hx)
    have hd := (h (xs.getLast ne) (by simp)).1
    have e2 : 2 ^ (6 * (n + 1) + 1) = 2 ^ (6 * n + 1) * 64 := by
      rw [show 6 * (n + 1) + 1 = (6 * n + 1) + 6 by omega, Nat.pow_add]
    rw [e2]
    exact Nat.lt_of_le_of_lt (Nat.mul_le_mul_left _ (Nat.le_trans hd (by decide : 60 ≤ 64))) (Nat.mul_lt_mul_of_pos_right ih (by decide))
theorem com_pos {c : Str → Rat} : ∀ (n : Nat) {xs : List Str}, xs.length = n → 0 < comN c xs
  | 0, xs, e => by
    rw [List.length_eq_zero_iff.mp e]
    show 0 < 1
    decide
  | n + 1, xs, e => by
    have ne : xs ≠ [] := fun z => by rw [z] at e; simp at e
    rw [← List.dropLast_concat_getLast ne, comN_snoc]
    exact Nat.mul_pos (com_pos n (by rw [List.length_dropLast]; omega)) (Rat.den_pos _)
theorem pe_fldK {X : Cx} {K : PySem.W.Frag} {e : Expr} {ta : TE} {f : Str} {pos : Pos} (hK : X.K = K) (he : PE X e ta) (hb : attributeBase e f X.env (eval e X.env) = eval e X.env) : PE X (.Attribute e f pos) (tFld K ta f) := hK ▸ pe_fld he hb
/-- a credit as a whole number -/
def wcr (c : Str → Rat) (m : Nat) (x : Str) : Int := (c x).num * ((m : Int) / ((c x).den : Int))
theorem take_all {α : Type} (l : List α) : l.take l.length = l := List.take_length
theorem dct_dg {H : Hp} {d : Addr} {L : List Str} {ad : Str → Addr} {x : Str} (hd : H d = some (dctO L fun y => .ref (ad y))) (hx : x ∈ L) : DGet H d (.str x) (some (.ref (ad x))) := by
  have := DGet.k (k := Sum.inr x) hd
  rw [val_dct, if_pos hx] at this
  exact this
section
variable {P : Program} {w : World} {K : PySem.W.Frag} {mg : Str → Option Value} {base : Heap} {f C : Addr} {fd : FuncData}
def spWC (C : Addr) : Sp := fun vs H Q _ => ∃ (d nl : Addr) (L xs : List Str) (c : Str → Rat), vs = [.ref d, .ref nl] ∧ SDc C H d L c ∧ H nl = some (.lst (xs.map V.str)) ∧ (∀ x ∈ xs, x ∈ L) ∧ xs.length ≤ 20 ∧ (∀ x ∈ xs, Cs (c x)) ∧
  ∀ o H', Same H H' → H o = none → H' o = some (.lst ((xs.map (wcr c (comN c xs))).map V.int)) → Q (.ref o) H'
theorem ok_wc (F : Dn K d_whole_credits f fd) (T : Cl K mg C) : FnOk P w K mg base CX0 1 f fd ["standing", "names"] (spWC C) := by
  refine F.ok sc_whole_credits (fun vs H Q E h => ?_) (fun cdv A outer s H vs Q E hr h => ?_)
  · obtain ⟨d, nl, L, xs, c, rfl, _⟩ := h
    rfl
  · obtain ⟨d, nl, L, xs, c, rfl, ⟨ad, hd, hv⟩, hn, sub, xl, cs, hQ⟩ := h
    have hu := hu_of hr
    refine ⟨_, PSs.nox (pss_cons (ps_set (i := 2) sc_whole_credits.nd rfl (.inr rfl) pe_int)
      (pss_cons (ps_for PassesOwn.never rfl (pi_list (pv 1)) (pg_name (i := 3) sc_whole_credits.nd rfl (.inl rfl)) (pss_one (ps_set (i := 2) sc_whole_credits.nd rfl (.inr rfl) (pe_op op_mulW (pv 2) (pe_fld (pe_dget hu (pv 0) (pv 3) (fun _ _ => rfl)) rfl)))))
      (pss_one (ps_ret (pe_lc (own := [("name", 3)]) (g := gName 3) (tt := tYes) rfl sc_whole_credits.nd (pi_list (pv 1)) (blkOk_by (N := N_whole_credits) (sc := defScope s_whole_credits) (by decide +kernel))
        (fun _ _ _ _ _ => pg_name (i := 3) sc_whole_credits.nd rfl (Or.inl rfl)) (fun _ _ _ _ _ => pts_nil)
        (fun _ _ _ _ _ => pe_op op_mulW (pe_fldK (K := K) rfl (pe_dget hu (pv 0) (pv 3) (fun _ _ => rfl)) rfl) (pe_op op_fdW (pv 2) (pe_fldK (K := K) rfl (pe_dget hu (pv 0) (pv 3) (fun _ _ => rfl)) rfl)))))))), ?_⟩
    have sz : ∀ i, comN c (xs.take i) < 2 ^ 121 := fun i => by
      have h1 := com_lt (c := c) _ (xs := xs.take i) rfl fun x hx => cs x (List.mem_of_mem_take hx)
      have h2 : (xs.take i).length ≤ 20 := Nat.le_trans (List.length_take_le' _ _) xl
      exact Nat.lt_of_lt_of_le h1 (Nat.pow_le_pow_right (by decide) (by omega))
    refine ⟨_, rfl, nl, rfl, ⟨_, SqL.of hn⟩, for_list (K := K) (xs := xs.map V.str) (fun i σ H' => ∃ v3, σ = [some (.ref d), some (.ref nl), some (.int ((comN c (xs.take i) : Nat) : Int)), v3] ∧ H' = H) ⟨_, rfl, rfl⟩ (fun i σ H' _ z => by obtain ⟨_, _, e⟩ := z; rw [e]; exact SqL.of hn) ?_ ?_⟩
    · rintro i v σ H' hi ⟨v3, rfl, eH⟩
      subst eH
      rw [List.getElem?_map] at hi
      obtain ⟨z, hz, rfl⟩ := Option.map_eq_some_iff.mp hi
      have hzx := List.mem_of_getElem? hz
      obtain ⟨dz, hvz⟩ := hv z (sub z hzx)
      refine ⟨_, rfl, _, rfl, _, rfl, d, _, rfl, dct_dg hd (sub z hzx), ad z, C, dz, _, _, rfl, hvz, T.cl, T.nb, shF_bot _, _, _, rfl, rfl, wide_mul (a := 121) (b := 6) (by show ((comN c (xs.take i) : Nat) : Int).natAbs < _; have := sz i; omega) (by show (((c z).den : Nat) : Int).natAbs < 2 ^ 6; have := (cs z hzx).1; omega) (by decide) (by decide) (by decide), ?_⟩
      refine ⟨some (.str z), ?_, rfl⟩
      rw [take_one hz, comN_snoc]
      show [some (V.ref d), some (V.ref nl), some (V.int ((comN c (xs.take i) : Int) * ((c z).den : Int))), some (V.str z)] = _
      rw [Int.natCast_mul]
    · rintro σ H' ⟨v3, rfl, eH⟩
      subst eH
      rw [List.length_map, take_all]
      have szA : comN c xs < 2 ^ 121 := by
        have := sz xs.length
        rw [take_all] at this
        exact this
      refine ⟨_, rfl, nl, rfl, ⟨_, SqL.of hn⟩, fun D fD => lc_list (K := K) (xs := xs.map V.str) (fun j H2 => H2 D = some (.lst (((xs.take j).map (wcr c (comN c xs))).map V.int)) ∧ Same H' H2) ⟨upd_same, same_new fD⟩ (fun j H2 _ z => SqL.of (z.2 _ _ hn)) ?_ ?_⟩
      · rintro j v H2 hj ⟨hD, s2⟩
        rw [List.getElem?_map] at hj
        obtain ⟨z, hz, rfl⟩ := Option.map_eq_some_iff.mp hj
        have hzx := List.mem_of_getElem? hz
        obtain ⟨dz, hvz⟩ := hv z (sub z hzx)
        have hd2 := s2 _ _ hd
        have hvz2 := s2 _ _ hvz
        have dp := Rat.den_pos (c z)
        have d60 := (cs z hzx).1
        refine ⟨rfl, ?_⟩
        refine ⟨_, rfl, _, rfl, d, _, rfl, dct_dg hd2 (sub z hzx), ad z, C, dz, _, _, rfl, hvz2, T.cl, T.nt, shF_top _, _, rfl, _, rfl, _, rfl, d, _, rfl, dct_dg hd2 (sub z hzx), ad z, C, dz, _, _, rfl, hvz2, T.cl, T.nb, shF_bot _, _, _, rfl, rfl, ⟨by show (((c z).den : Nat) : Int) ≠ 0; omega, log_lt (n := 6) (by show (((c z).den : Nat) : Int).natAbs < 2 ^ 6; omega) (by decide) (by decide)⟩, ?_⟩
        have e : ((comN c xs : Nat) : Int).fdiv (((c z).den : Nat) : Int) = ((comN c xs : Nat) : Int) / (((c z).den : Nat) : Int) := Int.fdiv_eq_ediv_of_nonneg _ (by omega)
        have lq : (((comN c xs : Nat) : Int) / (((c z).den : Nat) : Int)).natAbs < 2 ^ 121 := by
          rw [← Int.natCast_ediv, Int.natAbs_natCast]
          exact Nat.lt_of_le_of_lt (Nat.div_le_self _ _) szA
        refine ⟨_, _, rfl, rfl, ?_, ?_⟩
        · show CMulW (pr (c z)).1 (((comN c xs : Nat) : Int).fdiv (((c z).den : Nat) : Int))
          rw [e]
          exact wide_mul (a := 11) (b := 121) (by show (c z).num.natAbs < 2 ^ 11; have := (cs z hzx).2; omega) lq (by decide) (by decide) (by decide)
        · show ∃ acc, H2 D = some (.lst acc) ∧ acc.length < sizeLine ∧ _ ∧ _
          refine ⟨_, hD, by rw [List.length_map, List.length_map, List.length_take]; exact line_lt (by omega), ?_, fun b o eo => ?_⟩
          · rw [upd_same, take_one hz, List.map_append, List.map_append]
            show some (HO.lst (_ ++ [V.int ((pr (c z)).1 * ((comN c xs : Nat) : Int).fdiv (((c z).den : Nat) : Int))])) = _
            rw [e]
            rfl
          · rw [upd_ne (ne_of_none eo fD)]
            exact s2 _ _ eo
      · rintro H2 ⟨hD, s2⟩
        rw [List.length_map, take_all] at hD
        exact hQ D _ s2 fD hD
end
end K58
set_option Elab.async false
set_option linter.all false
set_option maxHeartbeats 1000000
/-! SETM: sets as numbers: sums over sets, the most noughts on the way down. -/
namespace SETM
/-- the members -/
def bs (n S : Nat) : List Nat := (List.range n).filter fun k => S.testBit k
theorem mem_bs {n S k : Nat} : k ∈ bs n S ↔ k < n ∧ S.testBit k = true := by
  unfold bs
  rw [List.mem_filter, List.mem_range]
theorem nd_range : ∀ n : Nat, (List.range n).Nodup := fun n => List.nodup_range
theorem bs_nd (n S : Nat) : (bs n S).Nodup := (nd_range n).sublist List.filter_sublist
theorem rem : ∀ (k S : Nat), S.testBit k = true → 2 ^ k ≤ S ∧ ∀ j, (S - 2 ^ k).testBit j = (S.testBit j && decide (j ≠ k))
  | 0, S, h => by
    rw [Nat.testBit_zero, decide_eq_true_eq] at h
    refine ⟨by show 1 ≤ S; omega, fun j => ?_⟩
    cases j with
    | zero =>
      rw [Nat.testBit_zero, Nat.testBit_zero]
      show decide ((S - 1) % 2 = 1) = _
      rw [decide_eq_false (by omega)]
      simp
    | succ j =>
      rw [Nat.testBit_succ, Nat.testBit_succ]
      have e : (S - 2 ^ 0) / 2 = S / 2 := by show (S - 1) / 2 = S / 2; omega
      rw [e]
      simp
  | k + 1, S, h => by
    rw [Nat.testBit_succ] at h
    obtain ⟨h1, h2⟩ := rem k (S / 2) h
    have e : 2 ^ (k + 1) = 2 * 2 ^ k := by rw [Nat.pow_succ]; omega
    refine ⟨by omega, fun j => ?_⟩
    cases j with
    | zero =>
      rw [Nat.testBit_zero, Nat.testBit_zero]
      have : (S - 2 ^ (k + 1)) % 2 = S % 2 := by omega
      rw [this]
      simp
    | succ j =>
      rw [Nat.testBit_succ, Nat.testBit_succ]
      have : (S - 2 ^ (k + 1)) / 2 = S / 2 - 2 ^ k := by omega
      rw [this, h2 j]
      simp
theorem bs_perm {n S k : Nat} (hk : k < n) (h : S.testBit k = true) : (bs n S).Perm (k :: bs n (S - 2 ^ k)) := by
  obtain ⟨_, h2⟩ := rem k S h
  refine (List.perm_ext_iff_of_nodup (bs_nd n S) (List.nodup_cons.mpr ⟨fun z => ?_, bs_nd _ _⟩)).mpr fun j => ?_
  · have := (mem_bs.mp z).2
    rw [h2 k] at this
    simp at this
  · rw [List.mem_cons, mem_bs, mem_bs, h2 j]
    by_cases e : j = k
    · subst e
      simp [hk, h]
    · simp [e]
theorem bs_zero (n : Nat) : bs n 0 = [] := by
  unfold bs
  rw [List.filter_eq_nil_iff]
  intro k _
  simp
theorem bs_full (n : Nat) : bs n (2 ^ n - 1) = List.range n := by
  unfold bs
  rw [List.filter_eq_self]
  intro k hk
  rw [Nat.testBit_two_pow_sub_one]
  exact decide_eq_true (List.mem_range.mp hk)
theorem some_bit {n S : Nat} (h0 : 0 < S) (h : S < 2 ^ n) : ∃ k, k < n ∧ S.testBit k = true := by
  obtain ⟨k, hk⟩ := Nat.exists_testBit_of_ne_zero (show S ≠ 0 by omega)
  refine ⟨k, Classical.byContradiction fun z => ?_, hk⟩
  have : S < 2 ^ k := Nat.lt_of_lt_of_le h (Nat.pow_le_pow_right (by decide) (by omega))
  rw [Nat.testBit_lt_two_pow this] at hk
  cases hk
theorem sum_perm {l m : List Int} (p : l.Perm m) : l.sum = m.sum := by
  induction p with
  | nil => rfl
  | cons x _ ih => simp [ih]
  | swap x y l => simp; omega
  | trans _ _ h1 h2 => exact h1.trans h2
/-- the sum over a set -/
def sm (W : List Int) (S : Nat) : Int := ((bs W.length S).map fun k => W.getD k 0).sum
theorem sm_zero (W : List Int) : sm W 0 = 0 := by
  unfold sm
  rw [bs_zero]
  rfl
theorem sm_rem {W : List Int} {S k : Nat} (hk : k < W.length) (h : S.testBit k = true) : sm W S = W.getD k 0 + sm W (S - 2 ^ k) := by
  unfold sm
  rw [sum_perm ((bs_perm hk h).map _)]
  simp
theorem sm_full (W : List Int) : sm W (2 ^ W.length - 1) = W.sum := by
  unfold sm
  rw [bs_full]
  congr 1
  refine List.ext_getElem (by simp) fun i h1 h2 => ?_
  simp at h1
  simp [List.getD_eq_getElem?_getD, h1]
/-- all sums, one number behind another -/
def sumsL (W : List Int) : List Int := W.foldl (fun L w => L ++ L.map fun x => x + w) [0]
theorem sumsL_snoc (W : List Int) (w : Int) : sumsL (W ++ [w]) = sumsL W ++ (sumsL W).map fun x => x + w := by
  unfold sumsL
  rw [List.foldl_append]
  rfl
theorem bs_low {n S : Nat} (h : S < 2 ^ n) : bs (n + 1) S = bs n S := by
  unfold bs
  rw [List.range_succ, List.filter_append]
  have : S.testBit n = false := Nat.testBit_lt_two_pow h
  simp [this]
theorem bs_high {n r : Nat} (h : r < 2 ^ n) : bs (n + 1) (2 ^ n + r) = bs n r ++ [n] := by
  unfold bs
  rw [List.range_succ, List.filter_append]
  have e1 : (2 ^ n + r).testBit n = true := by
    rw [Nat.testBit_two_pow_add_eq, Nat.testBit_lt_two_pow h]
    rfl
  have e2 : (List.range n).filter (fun k => (2 ^ n + r).testBit k) = (List.range n).filter fun k => r.testBit k := by
    refine List.filter_congr fun k hk => ?_
    rw [Nat.testBit_two_pow_add_gt (List.mem_range.mp hk)]
  rw [e2]
  simp [e1]
theorem sumsL_get : ∀ (n : Nat) (W : List Int), W.length = n → (sumsL W).length = 2 ^ n ∧ ∀ S, S < 2 ^ n → (sumsL W)[S]? = some (sm W S)
  | 0, W, e => by
    rw [List.length_eq_zero_iff.mp e]
    refine ⟨rfl, fun S h => ?_⟩
    have : S = 0 := by simpa using h
    subst this
    rfl
  | n + 1, W, e => by
    have ne : W ≠ [] := fun z => by rw [z] at e; simp at e
    obtain ⟨V, w, rfl⟩ : ∃ V w, W = V ++ [w] := ⟨W.dropLast, W.getLast ne, (List.dropLast_concat_getLast ne).symm⟩
    have lV : V.length = n := by simpa using e
    obtain ⟨i1, i2⟩ := sumsL_get n V lV
    rw [sumsL_snoc]
    have e2 : 2 ^ (n + 1) = 2 ^ n + 2 ^ n := by rw [Nat.pow_succ]; omega
    refine ⟨by rw [List.length_append, List.length_map, i1, e2], fun S h => ?_⟩
    have lW : (V ++ [w]).length = n + 1 := by simp [lV]
    have low : ∀ (r : Nat), ((bs n r).map fun k => (V ++ [w]).getD k 0) = (bs n r).map fun k => V.getD k 0 := fun r => by
      refine List.map_congr_left fun k hk => ?_
      have := (mem_bs.mp hk).1
      rw [List.getD_eq_getElem?_getD, List.getD_eq_getElem?_getD, List.getElem?_append_left (by omega)]
    by_cases c : S < 2 ^ n
    · rw [List.getElem?_append_left (by omega), i2 S c]
      unfold sm
      rw [lW, bs_low c, low, lV]
    · obtain ⟨r, rfl⟩ : ∃ r, S = 2 ^ n + r := ⟨S - 2 ^ n, by omega⟩
      have hr : r < 2 ^ n := by omega
      rw [List.getElem?_append_right (by omega), i1, Nat.add_sub_cancel_left, List.getElem?_map, i2 r hr]
      unfold sm
      rw [lW, bs_high hr, List.map_append, low, lV]
      simp [List.getD_eq_getElem?_getD, ← lV]
/-- one for a nought -/
def t (b : Bool) : Int := if b = true then 1 else 0
/-- f tells the most noughts on the way down from each set -/
structure Nt (n : Nat) (z : Nat → Bool) (f : Nat → Int) (m : Nat) : Prop where
  zero : f 0 = 0
  up : ∀ S, 0 < S → S < m → ∀ k, k < n → S.testBit k = true → f (S - 2 ^ k) + t (z S) ≤ f S
  at_ : ∀ S, 0 < S → S < m → ∃ k, k < n ∧ S.testBit k = true ∧ f S = f (S - 2 ^ k) + t (z S)
theorem Nt.one {n : Nat} {z : Nat → Bool} {f g : Nat → Int} {m : Nat} (a : Nt n z f m) (b : Nt n z g m) : ∀ S, S < m → f S = g S := by
  intro S
  induction S using Nat.strongRecOn with
  | ind S ih =>
    intro h
    rcases Nat.eq_zero_or_pos S with rfl | h0
    · rw [a.zero, b.zero]
    · obtain ⟨k, hk, hb, e⟩ := a.at_ S h0 h
      obtain ⟨k', hk', hb', e'⟩ := b.at_ S h0 h
      have p : 0 < 2 ^ k := Nat.pow_pos (by decide)
      have p' : 0 < 2 ^ k' := Nat.pow_pos (by decide)
      have i1 := ih (S - 2 ^ k) (by omega) (by omega)
      have i2 := ih (S - 2 ^ k') (by omega) (by omega)
      have u1 := b.up S h0 h k hk hb
      have u2 := a.up S h0 h k' hk' hb'
      omega
end SETM
set_option Elab.async false
set_option linter.all false
set_option maxRecDepth 100000
set_option maxHeartbeats 4000000
namespace K58
open PySem PySem.Spec PyProof.Rows L2
open C8 (Cal Mak Met pe_c pe_mk pe_mt pe_mt0)
open SETM
theorem same_put {H0 H : Hp} {D : Addr} {o : HO} (s : Same H0 H) (f : H0 D = none) : Same H0 (upd H D o) := fun b ob e => by
  rw [upd_ne (ne_of_none e f)]
  exact s b ob e
section
variable {P : Program} {w : World} {K : PySem.W.Frag} {mg : Str → Option Value} {base : Heap} {f C : Addr} {fd : FuncData}
def spSu : Sp := fun vs H Q _ => ∃ (nl : Addr) (W : List Int), vs = [.ref nl] ∧ H nl = some (.lst (W.map V.int)) ∧ W.length ≤ 12 ∧ ∀ o H', Same H H' → H o = none → H' o = some (.lst ((sumsL W).map V.int)) → Q (.ref o) H'
theorem ok_su (F : Dn K d_sums_of_sets f fd) : FnOk P w K mg base CX0 1 f fd ["numbers"] spSu := by
  refine F.ok sc_sums_of_sets (fun vs H Q E h => ?_) (fun cdv A outer s H vs Q E hr h => ?_)
  · obtain ⟨nl, W, rfl, _⟩ := h
    rfl
  · obtain ⟨nl, W, rfl, hn, wl, hQ⟩ := h
    refine ⟨_, PSs.nox (pss_cons (ps_set (i := 1) sc_sums_of_sets.nd rfl (.inl rfl) (pe_lst (pa_cons pe_int pa_nil)))
      (pss_cons (ps_for PassesOwn.never rfl (pi_list (pv 0)) (pg_name (i := 2) sc_sums_of_sets.nd rfl (.inr rfl)) (pss_one (ps_set (i := 1) sc_sums_of_sets.nd rfl (.inl rfl) (pe_op op_cat (pv 1)
        (pe_lc (own := [("one", 3)]) (g := gName 3) (tt := tYes) rfl sc_sums_of_sets.nd (pi_list (pv 1)) (blkOk_by (N := N_sums_of_sets) (sc := defScope s_sums_of_sets) (by decide +kernel))
        (fun _ _ _ _ _ => pg_name (i := 3) sc_sums_of_sets.nd rfl (Or.inl rfl)) (fun _ _ _ _ _ => pts_nil)
        (fun _ _ _ _ _ => pe_op op_add (pv 3) (pv 2)))))))
      (pss_one (ps_ret (pv 1))))), ?_⟩
    refine ⟨by show 1 ≤ sizeLine; decide, fun o fo => ?_⟩
    have so := same_new (o := .lst [.int 0]) fo
    refine ⟨_, rfl, nl, rfl, ⟨_, SqL.of (so _ _ hn)⟩, for_list (K := K) (xs := W.map V.int) (fun i σ H' => ∃ (o : Addr) (v2 v3 : Option V), σ = [some (.ref nl), some (.ref o), v2, v3] ∧ H o = none ∧ H' o = some (.lst ((sumsL (W.take i)).map V.int)) ∧ Same H H') ⟨o, _, _, rfl, fo, upd_same, so⟩ (fun i σ H' _ z => by obtain ⟨_, _, _, _, _, _, e⟩ := z; exact SqL.of (e _ _ hn)) ?_ ?_⟩
    · rintro i v σ H' hi ⟨o, v2, v3, rfl, fo, ho, s⟩
      rw [List.getElem?_map] at hi
      obtain ⟨z, hz, rfl⟩ := Option.map_eq_some_iff.mp hi
      have hil : i < W.length := (List.getElem?_eq_some_iff.mp hz).1
      obtain ⟨l1, _⟩ := sumsL_get _ (W.take i) rfl
      have l2 : (W.take i).length ≤ 12 := Nat.le_trans (List.length_take_le' _ _) wl
      have l3 : (sumsL (W.take i)).length ≤ 4096 := by rw [l1]; exact Nat.pow_le_pow_right (by decide) l2
      refine ⟨_, rfl, _, rfl, o, rfl, ⟨_, SqL.of ho⟩, fun D fD => lc_list (K := K) (xs := (sumsL (W.take i)).map V.int) (fun j H2 => H2 D = some (.lst ((((sumsL (W.take i)).take j).map fun x => x + z).map V.int)) ∧ Same H' H2) ⟨upd_same, same_new fD⟩ (fun j H2 _ z => SqL.of (z.2 _ _ ho)) ?_ ?_⟩
      · rintro j v H2 hj ⟨hD, s2⟩
        rw [List.getElem?_map] at hj
        obtain ⟨y, hy, rfl⟩ := Option.map_eq_some_iff.mp hj
        refine ⟨rfl, ?_⟩
        refine ⟨_, rfl, _, rfl, _, _, rfl, rfl, _, hD, by rw [List.length_map, List.length_map, List.length_take]; exact line_lt (by omega), ?_, same_put s2 fD⟩
        rw [upd_same, take_one hy, List.map_append, List.map_append]
        rfl
      · rintro H2 ⟨hD, s2⟩
        rw [List.length_map, take_all] at hD
        refine ⟨o, D, _, _, rfl, rfl, s2 _ _ ho, hD, by rw [List.length_map, List.length_map, List.length_map]; exact line_of (by omega), fun p fp => ?_⟩
        have s3 := s.trans s2
        refine ⟨p, _, _, rfl, s3.free fp, ?_, s3.trans (same_new fp)⟩
        rw [upd_same, take_one hz, sumsL_snoc, List.map_append]
    · rintro σ H' ⟨o, v2, v3, rfl, fo, ho, s⟩
      rw [List.length_map, take_all] at ho
      exact ⟨_, rfl, hQ o H' s fo ho⟩
/-- the pairs of what is left, and the place -/
def WoL (H : Hp) (o : Addr) (S : Nat) (rs : List (Addr × Nat)) : Prop := H o = some (.lst (rs.map fun r => V.ref r.1)) ∧ ∀ r ∈ rs, H r.1 = some (.tup [.int ((S - 2 ^ r.2 : Nat) : Int), .int (r.2 : Int)])
def spWo : Sp := fun vs H Q _ => ∃ (S n : Nat), vs = [.int S, .int n] ∧ n ≤ 20 ∧ S < 2 ^ n ∧ ∀ o H' rs, Same H H' → H o = none → WoL H' o S rs → rs.map (·.2) = bs n S → Q (.ref o) H'
theorem bs_step {n S i : Nat} (h : i < n) : bs (i + 1) S = bs i S ++ if S.testBit i = true then [i] else [] := by
  unfold bs
  rw [List.range_succ, List.filter_append]
  cases e : S.testBit i <;> simp [e]
theorem ok_wo (F : Dn K d_without_one f fd) (bl : Bl mg) : FnOk P w K mg base CX0 1 f fd ["chosen", "many"] spWo := by
  refine F.ok sc_without_one (fun vs H Q E h => ?_) (fun cdv A outer s H vs Q E hr h => ?_)
  · obtain ⟨S, n, rfl, _⟩ := h
    rfl
  · obtain ⟨S, n, rfl, nl, Sn, hQ⟩ := h
    refine ⟨_, PSs.nox (pss_one (ps_ret (pe_lc (own := [("place", 2)]) (g := gName 2) rfl sc_without_one.nd (pi_range1 rfl bl.range (pa_cons (pv 1) pa_nil)) (blkOk_by (N := N_without_one) (sc := defScope s_without_one) (by decide +kernel))
        (fun _ _ _ _ _ => pg_name (i := 2) sc_without_one.nd rfl (Or.inl rfl)) (fun _ _ _ _ _ => pts_one (pt_cmpR op_eq (pe_op op_odd (pe_op op_shr (pv 0) (pv 2)) pe_int) pe_int (nomark _)))
        (fun _ _ _ _ _ => pe_tup (pa_cons (pe_op op_sub (pv 0) (pe_op op_shl pe_int (pv 2))) (pa_cons (pv 2) pa_nil)))))), ?_⟩
    refine ⟨_, rfl, (n : Int), rfl, by omega, by omega, fun D fD => lc_range (n := n) (fun j H2 => ∃ rs, WoL H2 D S rs ∧ rs.map (·.2) = bs j S ∧ Same H H2) ?_ ?_ ?_⟩
    · exact ⟨[], ⟨upd_same, fun r h => nomatch h⟩, by rfl, same_new fD⟩
    · rintro j H2 hj ⟨rs, ⟨h1, h2⟩, e, s2⟩
      have lr : rs.length ≤ 20 := by
        have := congrArg List.length e
        rw [List.length_map] at this
        rw [this]
        exact Nat.le_trans (List.length_filter_le _ _) (by simp; omega)
      have ej : (0 + (j : Int)) = (j : Int) := Int.zero_add _
      have tj : (0 + (j : Int)).toNat = j := by omega
      refine ⟨rfl, ?_⟩
      refine ⟨_, rfl, _, rfl, _, _, rfl, rfl, (by omega : (0 : Int) ≤ 0 + (j : Int)), S / 2 ^ j, ?_, rfl, rfl, _, rfl, ?_⟩
      · show V.int ((S : Int) / 2 ^ (0 + (j : Int)).toNat) = _
        rw [tj, Int.natCast_ediv, Int.natCast_pow]
        rfl
      have tb : S.testBit j = decide (S / 2 ^ j % 2 = 1) := Nat.testBit_eq_decide_div_mod_eq
      refine ite2 (fun q => ?_) (fun q => ?_)
      · have q' : S.testBit j = true := by
          have z := of_decide_eq_true q
          rw [tb]
          refine decide_eq_true ?_
          have := V.int.inj z
          omega
        have le := (rem j S q').1
        refine ⟨_, rfl, _, rfl, _, _, rfl, rfl, ⟨by omega, by omega, by decide⟩, _, _, rfl, rfl, _, rfl, by show 2 ≤ sizeLine; decide, fun u fu => ?_⟩
        have ev : HO.tup [V.int ((S : Int) - 1 * 2 ^ (0 + (j : Int)).toNat), V.int (0 + (j : Int))] = HO.tup [V.int ((S - 2 ^ j : Nat) : Int), V.int (j : Int)] := by
          rw [tj, ej, Int.one_mul, Int.natCast_sub le, Int.natCast_pow]
          rfl
        have nu : u ≠ D := fun z => by rw [z, h1] at fu; cases fu
        have su := same_new (o := .tup [V.int ((S : Int) - 1 * 2 ^ (0 + (j : Int)).toNat), V.int (0 + (j : Int))]) fu
        refine ⟨_, su _ _ h1, by rw [List.length_map]; exact line_lt (by omega), rs ++ [(u, j)], ⟨?_, fun r hr => ?_⟩, ?_, same_put (s2.trans su) fD⟩
        · rw [upd_same, List.map_append]
          rfl
        · rcases List.mem_append.mp hr with hr | hr
          · have nr : r.1 ≠ D := fun z => by have := h2 r hr; rw [z, h1] at this; cases this
            rw [upd_ne nr]
            exact su _ _ (h2 r hr)
          · rw [List.mem_singleton.mp hr]
            show (upd _ D _) u = _
            rw [upd_ne nu, upd_same, ev]
        · rw [List.map_append, e, bs_step (n := n) hj, if_pos q']
          rfl
      · have q' : ¬ S.testBit j = true := fun z => by
          rw [tb] at z
          have z := of_decide_eq_true z
          refine absurd (decide_eq_true ?_) q
          rw [z]
          rfl
        refine ⟨rs, ⟨h1, h2⟩, ?_, s2⟩
        rw [e, bs_step (n := n) hj, if_neg q', List.append_nil]
    · rintro H2 ⟨rs, w1, e, s2⟩
      exact hQ D H2 rs s2 fD w1 e
end
end K58
set_option Elab.async false
set_option linter.all false
set_option maxRecDepth 100000
set_option maxHeartbeats 4000000
namespace K58
open PySem PySem.Spec PyProof.Rows L2
open C8 (Cal Mak Met pe_c pe_mk pe_mt pe_mt0)
open SETM
/-- where the way down goes -/
def plV (p : Nat → Nat) (S : Nat) : V := if S = 0 then .non else .int (p S : Int)
/-- is its sum nought -/
def zOf (ss : List Int) (S : Nat) : Bool := decide (ss.getD S 1 = 0)
def upN (f : Nat → Int) (m : Nat) (v : Int) : Nat → Int := fun S => if S = m then v else f S
def upP (p : Nat → Nat) (m k : Nat) : Nat → Nat := fun S => if S = m then k else p S
theorem rows_up {α : Type} (f : Nat → α) (m : Nat) (v : α) : (List.range (m + 1)).map (fun S => if S = m then v else f S) = (List.range m).map f ++ [v] := by
  rw [List.range_succ, List.map_append]
  congr 1
  · refine List.map_congr_left fun S hS => ?_
    rw [if_neg (by have := List.mem_range.mp hS; omega)]
  · simp
/-- one set more -/
theorem Nt.snoc {n m : Nat} {z : Nat → Bool} {f : Nat → Int} (h : Nt n z f m) (m0 : 0 < m) {k : Nat} (hk : k < n) (hb : m.testBit k = true) (hm : ∀ j, j < n → m.testBit j = true → f (m - 2 ^ j) ≤ f (m - 2 ^ k)) : Nt n z (upN f m (f (m - 2 ^ k) + t (z m))) (m + 1) := by
  have low : ∀ S, S < m → upN f m (f (m - 2 ^ k) + t (z m)) S = f S := fun S hS => if_neg (by omega)
  have top : upN f m (f (m - 2 ^ k) + t (z m)) m = f (m - 2 ^ k) + t (z m) := if_pos rfl
  have less : ∀ S j, 0 < S → S - 2 ^ j < S := fun S j h0 => by
    have : 0 < 2 ^ j := Nat.pow_pos (by decide)
    omega
  refine ⟨(low 0 m0).trans h.zero, fun S s0 sm j hj hbj => ?_, fun S s0 sm => ?_⟩
  · rcases Nat.lt_or_ge S m with c | c
    · rw [low S c, low _ (Nat.lt_trans (less S j s0) c)]
      exact h.up S s0 c j hj hbj
    · obtain rfl : S = m := by omega
      rw [top, low _ (less S j s0)]
      have := hm j hj hbj
      omega
  · rcases Nat.lt_or_ge S m with c | c
    · obtain ⟨j, hj, hbj, e⟩ := h.at_ S s0 c
      exact ⟨j, hj, hbj, by rw [low S c, low _ (Nat.lt_trans (less S j s0) c)]; exact e⟩
    · obtain rfl : S = m := by omega
      exact ⟨k, hk, hb, by rw [top, low _ (less S k s0)]⟩
/-- the way down -/
def Way (n : Nat) (z : Nat → Bool) (f : Nat → Int) (p : Nat → Nat) (m : Nat) : Prop := ∀ S, 0 < S → S < m → p S < n ∧ S.testBit (p S) = true ∧ f S = f (S - 2 ^ p S) + t (z S)
theorem Way.snoc {n m : Nat} {z : Nat → Bool} {f : Nat → Int} {p : Nat → Nat} (h : Way n z f p m) {k : Nat} (hk : k < n) (hb : m.testBit k = true) : Way n z (upN f m (f (m - 2 ^ k) + t (z m))) (upP p m k) (m + 1) := by
  have low : ∀ S, S < m → upN f m (f (m - 2 ^ k) + t (z m)) S = f S := fun S hS => if_neg (by omega)
  have less : ∀ S j, 0 < S → S - 2 ^ j < S := fun S j h0 => by
    have : 0 < 2 ^ j := Nat.pow_pos (by decide)
    omega
  intro S s0 sm
  rcases Nat.lt_or_ge S m with c | c
  · have e : upP p m k S = p S := if_neg (by omega)
    rw [e, low S c, low _ (Nat.lt_trans (less S _ s0) c)]
    exact h S s0 c
  · obtain rfl : S = m := by omega
    have e : upP p S k S = k := if_pos rfl
    rw [e, low _ (less S k s0)]
    exact ⟨hk, hb, if_pos rfl⟩
section
variable {P : Program} {w : World} {K : PySem.W.Frag} {mg : Str → Option Value} {base : Heap} {f C : Addr} {fd : FuncData}
def spBt : Sp := fun vs H Q _ => ∃ (sl : Addr) (n : Nat) (ss : List Int), vs = [.ref sl, .int n] ∧ n ≤ 12 ∧ H sl = some (.lst (ss.map V.int)) ∧ ss.length = 2 ^ n ∧
  ∀ o H' (f : Nat → Int) (p : Nat → Nat), Same H H' → H o = none → H' o = some (.lst ((List.range (2 ^ n)).map (plV p))) → Nt n (zOf ss) f (2 ^ n) → Way n (zOf ss) f p (2 ^ n) → Q (.ref o) H'
theorem ok_bt (F : Dn K d_best_takings f fd) (bl : Bl mg) (bmax : mg "max" = none) (cW : Cal P w K mg base 1 "without_one" spWo []) : FnOk P w K mg base CX0 2 f fd ["sums", "many"] spBt := by
  refine F.ok sc_best_takings (fun vs H Q E h => ?_) (fun cdv A outer s H vs Q E hr h => ?_)
  · obtain ⟨sl, n, ss, rfl, _⟩ := h
    rfl
  · obtain ⟨sl, n, ss, rfl, n12, hs, ls, hQ⟩ := h
    have hu64 : (A.deeper (envOfC d_best_takings.qual d_best_takings.scope s.heap.objs.size f cdv)).units + 64 < cLine := by have := hr.un; omega
    refine ⟨_, PSs.nox (pss_cons (ps_set (i := 2) sc_best_takings.nd rfl (.inr rfl) (pe_lst (pa_cons pe_int pa_nil)))
      (pss_cons (ps_set (i := 3) sc_best_takings.nd rfl (.inl rfl) (pe_lst (pa_cons pe_non pa_nil)))
      (pss_cons (ps_for PassesOwn.never rfl (pi_range2 rfl bl.range (pa_cons pe_int (pa_cons (pe_callB call_len_seq rfl bl.len boot_len (pa_cons (pv 0) pa_nil)) pa_nil))) (pg_name (i := 4) sc_best_takings.nd rfl (.inl rfl))
        (pss_cons (ps_asg (pe_callB (r := MXP.rMaxP K) (MXP.call_maxP rfl hu64) rfl bmax boot_max (pa_cons (pe_lc (own := [("left", 7), ("place", 5)]) (g := gTup K 2 (gCons (gName 7) (gCons (gName 5) gNil))) (tt := tYes) rfl sc_best_takings.nd (pi_list (pe_c cW hr (by decide) rfl (pa_cons (pv 4) (pa_cons (pv 1) pa_nil)))) (blkOk_by (N := N_best_takings) (sc := defScope s_best_takings) (by decide +kernel))
            (fun _ _ _ _ _ => pg_tup rfl (pgs_cons (pg_name (i := 7) sc_best_takings.nd rfl (Or.inl rfl)) (pgs_cons (pg_name (i := 5) sc_best_takings.nd rfl (Or.inl rfl)) pgs_nil))) (fun _ _ _ _ _ => pts_nil)
            (fun _ _ _ _ _ => pe_tup (pa_cons (pe_ix (r := rIxL K) ix_list (pv 2) (pv 7) (fun _ _ => rfl)) (pa_cons (pv 5) pa_nil)))) pa_nil)) (pg_tup rfl (pgs_cons (pg_name (i := 6) sc_best_takings.nd rfl (.inl rfl)) (pgs_cons (pg_name (i := 5) sc_best_takings.nd rfl (.inl rfl)) pgs_nil))))
        (pss_cons (ps_expr (pe_bm PySem.F.plainAttrs_list PySem.F.slot_list_append PySem.F.type_list_append mt_append (pv 2) (pa_cons (pe_ifExp (pt_cmpR op_eq (pe_ix ix_list (pv 0) (pv 4) (fun _ _ => rfl)) pe_int (nomark _)) (pe_op op_add (pv 6) pe_int) (pv 6)) pa_nil)))
        (pss_one (ps_expr (pe_bm PySem.F.plainAttrs_list PySem.F.slot_list_append PySem.F.type_list_append mt_append (pv 3) (pa_cons (pv 5) pa_nil)))))))
      (pss_one (ps_ret (pv 3)))))), ?_⟩
    obtain ⟨M, hM⟩ : ∃ M, M = 2 ^ n := ⟨_, rfl⟩
    have M0 : 0 < M := by rw [hM]; exact Nat.pow_pos (by decide)
    have M12 : M ≤ 4096 := by rw [hM]; exact Nat.pow_le_pow_right (by decide) n12
    rw [← hM] at ls hQ
    refine ⟨by show 1 ≤ sizeLine; decide, fun N0 fN => ?_⟩
    have sN := same_new (o := .lst [.int 0]) fN
    have hN : (upd H N0 (.lst [.int 0])) N0 = some (.lst [.int 0]) := upd_same
    refine ⟨by show 1 ≤ sizeLine; decide, fun P0 fP => ?_⟩
    have sP := same_new (o := .lst [.non]) fP
    have hP : (upd (upd H N0 (.lst [.int 0])) P0 (.lst [.non])) P0 = some (.lst [.non]) := upd_same
    have nNP : N0 ≠ P0 := ne_of_none hN fP
    have hN := sP _ _ hN
    have s1 := sN.trans sP
    have fPH : H P0 = none := sN.free fP
    generalize upd (upd H N0 (.lst [.int 0])) P0 (.lst [.non]) = H1 at hN hP s1
    refine ⟨_, rfl, sl, _, rfl, .inl (SqL.of (s1 _ _ hs)), 1, _, rfl, ⟨by decide, by decide, by rw [List.length_map, ls]; omega, by rw [List.length_map, ls]; omega⟩, ?_⟩
    have en : (((ss.map V.int).length : Int) - 1).toNat = M - 1 := by rw [List.length_map, ls]; omega
    rw [en]
    refine for_range (n := M - 1) (fun i σ H' => (∃ v4 v5 v6 v7 : Option V, σ = [some (.ref sl), some (.int (n : Int)), some (.ref N0), some (.ref P0), v4, v5, v6, v7]) ∧ Same H H' ∧ ∃ (f : Nat → Int) (p : Nat → Nat), H' N0 = some (.lst ((List.range (i + 1)).map fun S => V.int (f S))) ∧ H' P0 = some (.lst ((List.range (i + 1)).map (plV p))) ∧ Nt n (zOf ss) f (i + 1) ∧ Way n (zOf ss) f p (i + 1))
      ⟨⟨_, _, _, _, rfl⟩, s1, fun _ => 0, fun _ => 0, hN, hP, ⟨rfl, fun S a b => absurd b (by omega), fun S a b => absurd b (by omega)⟩, fun S a b => absurd b (by omega)⟩ ?_ ?_
    · rintro i σ H2 hi ⟨⟨v4, v5, v6, v7, rfl⟩, s2, f, p, hN2, hP2, nt, wy⟩
      obtain ⟨m, hm⟩ : ∃ m, m = i + 1 := ⟨_, rfl⟩
      rw [← hm] at hN2 hP2 nt wy
      have ec : (1 + (i : Int)) = (m : Int) := by omega
      have m0 : 0 < m := by omega
      have mM : m < 2 ^ n := by omega
      rw [ec]
      refine ⟨_, rfl, _, rfl, m, n, rfl, by omega, mM, fun o H3 rs s3 fo wl eb => ?_⟩
      have rl : rs.length ≤ 12 := by
        have := congrArg List.length eb
        rw [List.length_map] at this
        rw [this]
        exact Nat.le_trans (List.length_filter_le _ _) (by simp; omega)
      refine ⟨o, rfl, ⟨_, SqL.of wl.1⟩, fun D fD => lc_list (K := K) (xs := rs.map fun r => V.ref r.1) (fun j H4 => ∃ qs : List (Addr × Int × Int), H4 D = some (.lst (qs.map fun q => V.ref q.1)) ∧ qs.map (·.2) = (rs.take j).map (fun r => (f (m - 2 ^ r.2), (r.2 : Int))) ∧ (∀ q ∈ qs, H4 q.1 = some (.tup [.int q.2.1, .int q.2.2])) ∧ Same H3 H4)
        ⟨[], upd_same, by simp, fun q h => (nomatch h), same_new fD⟩ (fun j H4 _ z => by obtain ⟨_, _, _, _, e⟩ := z; exact SqL.of (e _ _ wl.1)) ?_ ?_⟩
      · rintro j v H4 hj ⟨qs, hD, eq, hq, s4⟩
        rw [List.getElem?_map] at hj
        obtain ⟨r, hr, rfl⟩ := Option.map_eq_some_iff.mp hj
        have hrm := List.mem_of_getElem? hr
        have lq : qs.length ≤ 12 := by
          have := congrArg List.length eq
          rw [List.length_map, List.length_map, List.length_take] at this
          omega
        have lo : m - 2 ^ r.2 < m := by
          have : 0 < 2 ^ r.2 := Nat.pow_pos (by decide)
          omega
        refine ⟨r.1, _, rfl, SqT.of (s4 _ _ (wl.2 r hrm)), rfl, _, _, rfl, _, _, rfl, rfl, rfl, ?_⟩
        refine ⟨_, rfl, _, rfl, N0, _, _, V.int (f (m - 2 ^ r.2)), rfl, rfl, SqL.of (s4 _ _ (s3 _ _ hN2)), atI_nat (by rw [List.getElem?_map, List.getElem?_range lo]; rfl), _, rfl, by show 2 ≤ sizeLine; decide, fun u fu => ?_⟩
        have su := same_new (o := .tup [.int (f (m - 2 ^ r.2)), .int (r.2 : Int)]) fu
        have nu : u ≠ D := fun z => by rw [z, hD] at fu; cases fu
        refine ⟨_, su _ _ hD, by rw [List.length_map]; exact line_lt (by omega), qs ++ [(u, f (m - 2 ^ r.2), (r.2 : Int))], ?_, ?_, fun q hq' => ?_, same_put (s4.trans su) fD⟩
        · rw [upd_same, List.map_append]
          rfl
        · rw [List.map_append, eq, take_one hr, List.map_append]
          rfl
        · rcases List.mem_append.mp hq' with h | h
          · have nq : q.1 ≠ D := fun z => by have := hq q h; rw [z, hD] at this; cases this
            rw [upd_ne nq]
            exact su _ _ (hq q h)
          · rw [List.mem_singleton.mp h]
            show (upd _ D _) u = _
            rw [upd_ne nu, upd_same]
      · rintro H4 ⟨qs, hD, eq, hq, s4⟩
        rw [List.length_map, take_all] at eq
        obtain ⟨k0, hk0, hb0⟩ := some_bit m0 mM
        have inQ : ∀ j, j < n → m.testBit j = true → ∃ q ∈ qs, q.2 = (f (m - 2 ^ j), (j : Int)) := fun j hj hb => by
          have : j ∈ rs.map (·.2) := by rw [eb]; exact mem_bs.mpr ⟨hj, hb⟩
          obtain ⟨r, hr, rfl⟩ := List.mem_map.mp this
          have : (f (m - 2 ^ r.2), (r.2 : Int)) ∈ qs.map (·.2) := by rw [eq]; exact List.mem_map.mpr ⟨r, hr, rfl⟩
          obtain ⟨q, hq1, hq2⟩ := List.mem_map.mp this
          exact ⟨q, hq1, hq2⟩
        refine ⟨D, qs, rfl, SqL.of hD, fun z => ?_, hq, fun q hqm hmax => ?_⟩
        · obtain ⟨q, hq1, _⟩ := inQ k0 hk0 hb0
          rw [z] at hq1
          cases hq1
        have : q.2 ∈ qs.map (·.2) := List.mem_map.mpr ⟨q, hqm, rfl⟩
        rw [eq] at this
        obtain ⟨r, hr, er⟩ := List.mem_map.mp this
        have : r.2 ∈ bs n m := by rw [← eb]; exact List.mem_map.mpr ⟨r, hr, rfl⟩
        obtain ⟨hk, hb⟩ := mem_bs.mp this
        have hqt := hq q hqm
        rw [← er] at hqt
        generalize r.2 = k at er hk hb hqt
        have best : ∀ j, j < n → m.testBit j = true → f (m - 2 ^ j) ≤ f (m - 2 ^ k) := fun j hj hbj => by
          obtain ⟨q', h1, h2⟩ := inQ j hj hbj
          have := hmax q' h1
          rw [h2, ← er] at this
          exact this
        have s5 := s3.trans s4
        have hN4 := s5 _ _ hN2
        have hP4 := s5 _ _ hP2
        refine ⟨q.1, _, rfl, SqT.of hqt, rfl, _, _, rfl, _, _, rfl, rfl, ?_⟩
        have at_z : atI (ss.map V.int) (m : Int) = some (.int (ss.getD m 1)) := by
          refine atI_nat ?_
          have : m < ss.length := by omega
          rw [List.getElem?_map, List.getD_eq_getElem?_getD, List.getElem?_eq_getElem this]
          rfl
        refine ⟨_, rfl, .inl ⟨rfl, _, SqL.of hN4⟩, ?_⟩
        refine ⟨_, rfl, _, rfl, sl, _, _, _, rfl, rfl, SqL.of (s5 _ _ (s2 _ _ hs)), at_z, rfl, _, rfl, ?_⟩
        have ez : decide (V.int (ss.getD m 1) = V.int 0) = zOf ss m := decide_eq_decide.mpr ⟨fun h => V.int.inj h, fun h => congrArg V.int h⟩
        refine ite2 (fun c => ?_) (fun c => ?_)
        · have ev : f (m - 2 ^ k) + 1 = f (m - 2 ^ k) + t (zOf ss m) := by rw [← ez, c]; rfl
          refine ⟨_, rfl, _, _, rfl, rfl, ?_⟩
          refine ⟨N0, _, V.int (f (m - 2 ^ k) + t (zOf ss m)), rfl, congrArg (fun x => [V.int x]) ev, hN4, by rw [List.length_map, List.length_range]; exact line_lt (by omega), ?_⟩
          have hP5 : (upd H4 N0 (.lst (((List.range m).map fun S => V.int (f S)) ++ [V.int (f (m - 2 ^ k) + t (zOf ss m))]))) P0 = some (.lst ((List.range m).map (plV p))) := by rw [upd_ne nNP.symm]; exact hP4
          refine ⟨_, rfl, .inl ⟨rfl, _, SqL.of hP5⟩, _, rfl, P0, _, _, rfl, rfl, hP5, by rw [List.length_map, List.length_range]; exact line_lt (by omega), ?_⟩
          refine ⟨⟨_, _, _, _, rfl⟩, same_put (same_put (s2.trans s5) fN) fPH, upN f m (f (m - 2 ^ k) + t (zOf ss m)), upP p m k, ?_, ?_, ?_, ?_⟩
          · rw [upd_ne nNP, upd_same, ← hm, ← rows_up (fun S => V.int (f S))]
            congr 2
            refine List.map_congr_left fun S _ => ?_
            unfold upN
            split <;> rfl
          · rw [upd_same, ← hm]
            have ek : V.int (k : Int) = plV (fun _ => k) m := by
              unfold plV
              rw [if_neg (by omega)]
            rw [ek, ← rows_up (plV p)]
            congr 2
            refine List.map_congr_left fun S _ => ?_
            unfold upP plV
            by_cases e : S = m
            · subst e
              rw [if_pos rfl, if_neg (by omega), if_neg (by omega)]
              dsimp only
              rw [if_pos rfl]
            · rw [if_neg e]
              dsimp only
              rw [if_neg e]
          · rw [← hm]
            exact K58.Nt.snoc nt m0 hk hb best
          · rw [← hm]
            exact K58.Way.snoc wy hk hb
        · have ev : f (m - 2 ^ k) = f (m - 2 ^ k) + t (zOf ss m) := by
            rw [← ez]
            unfold t
            rw [if_neg c]
            omega
          refine ⟨_, rfl, ?_⟩
          refine ⟨N0, _, V.int (f (m - 2 ^ k) + t (zOf ss m)), rfl, congrArg (fun x => [V.int x]) ev, hN4, by rw [List.length_map, List.length_range]; exact line_lt (by omega), ?_⟩
          have hP5 : (upd H4 N0 (.lst (((List.range m).map fun S => V.int (f S)) ++ [V.int (f (m - 2 ^ k) + t (zOf ss m))]))) P0 = some (.lst ((List.range m).map (plV p))) := by rw [upd_ne nNP.symm]; exact hP4
          refine ⟨_, rfl, .inl ⟨rfl, _, SqL.of hP5⟩, _, rfl, P0, _, _, rfl, rfl, hP5, by rw [List.length_map, List.length_range]; exact line_lt (by omega), ?_⟩
          refine ⟨⟨_, _, _, _, rfl⟩, same_put (same_put (s2.trans s5) fN) fPH, upN f m (f (m - 2 ^ k) + t (zOf ss m)), upP p m k, ?_, ?_, ?_, ?_⟩
          · rw [upd_ne nNP, upd_same, ← hm, ← rows_up (fun S => V.int (f S))]
            congr 2
            refine List.map_congr_left fun S _ => ?_
            unfold upN
            split <;> rfl
          · rw [upd_same, ← hm]
            have ek : V.int (k : Int) = plV (fun _ => k) m := by
              unfold plV
              rw [if_neg (by omega)]
            rw [ek, ← rows_up (plV p)]
            congr 2
            refine List.map_congr_left fun S _ => ?_
            unfold upP plV
            by_cases e : S = m
            · subst e
              rw [if_pos rfl, if_neg (by omega), if_neg (by omega)]
              dsimp only
              rw [if_pos rfl]
            · rw [if_neg e]
              dsimp only
              rw [if_neg e]
          · rw [← hm]
            exact K58.Nt.snoc nt m0 hk hb best
          · rw [← hm]
            exact K58.Way.snoc wy hk hb
    · rintro σ H2 ⟨⟨v4, v5, v6, v7, rfl⟩, s2, f, p, hN2, hP2, nt, wy⟩
      have e1 : M - 1 + 1 = M := by omega
      rw [e1] at hN2 hP2 nt wy
      exact ⟨_, rfl, hQ P0 H2 f p s2 fPH hP2 nt wy⟩
end
end K58
set_option Elab.async false
set_option linter.all false
set_option maxRecDepth 100000
set_option maxHeartbeats 4000000
/-! SRX: sorted lists of tuples of texts -/
namespace SRX
open PySem PySem.Spec PyProof.Rows L2
def tD (xs : List Str) : PyData := .tuple (xs.map .str)
/-- a stands not behind b -/
def leT (a b : List Str) : Prop := PySem.W.dataLt (tD b) (tD a) = false
theorem toks_strs : ∀ (a b : List Str) (l m : List (Int ⊕ List Nat)), PySem.W.keyToksAll (a.map .str) ++ l = PySem.W.keyToksAll (b.map .str) ++ m → a = b ∧ l = m
  | [], [], l, m, h => ⟨rfl, List.append_cancel_left h⟩
  | [], y :: b, l, m, h => by
    rw [List.map_nil, List.map_cons, PySem.W.toks_all_cons, PySem.W.keyToksAll] at h
    simp at h
  | x :: a, [], l, m, h => by
    rw [List.map_nil, List.map_cons, PySem.W.toks_all_cons, PySem.W.keyToksAll] at h
    simp at h
  | x :: a, y :: b, l, m, h => by
    rw [List.map_cons, List.map_cons, PySem.W.toks_all_cons, PySem.W.toks_all_cons] at h
    simp only [PySem.W.keyToks, List.cons_append, List.nil_append, List.cons.injEq, true_and, Sum.inr.injEq] at h
    obtain ⟨h1, h2⟩ := h
    obtain ⟨e1, e2⟩ := toks_strs a b l m h2
    exact ⟨by rw [PySem.W.str_of_cps h1, e1], e2⟩
theorem srtT {α : Type} (g : α → V) (p : α → List Str) (l : List α) : ∃ l' : List α, SRT.srt (l.map g) (l.map fun a => tD (p a)) = l'.map g ∧ l'.Perm l ∧ (l'.map p).Pairwise leT ∧ ((l.map p).Pairwise leT → l' = l) := by
  have tot := PySem.W.sortLe_total (listOrd itemOrd) false (fun p : V × PyData => PySem.W.keyToks p.2)
  have pw := PySem.W.sort_pairwise tot ((l.map g).zip (l.map fun a => tD (p a)))
  have pm := List.mergeSort_perm ((l.map g).zip (l.map fun a => tD (p a))) SRT.leD
  have pw' : (((l.map g).zip (l.map fun a => tD (p a))).mergeSort SRT.leD).Pairwise fun a b => SRT.leD a b = true := pw
  have same : (l.map p).Pairwise leT → ((l.map g).zip (l.map fun a => tD (p a))).mergeSort SRT.leD = (l.map g).zip (l.map fun a => tD (p a)) := fun h => by
    refine List.mergeSort_of_pairwise ?_
    rw [List.zip_map']
    refine List.pairwise_map.mpr ((List.pairwise_map.mp h).imp fun {a b} h => ?_)
    show (!PySem.W.dataLt (tD (p b)) (tD (p a))) = true
    have h : PySem.W.dataLt (tD (p b)) (tD (p a)) = false := h
    rw [h]
    rfl
  by_cases hs : (l.map p).Pairwise leT
  · refine ⟨l, ?_, List.Perm.refl _, hs, fun _ => rfl⟩
    unfold SRT.srt
    rw [same hs, List.zip_map', List.map_map]
    rfl
  unfold SRT.srt
  generalize ((l.map g).zip (l.map fun a => tD (p a))).mergeSort SRT.leD = L at pm pw'
  rw [List.zip_map'] at pm
  obtain ⟨l', p1, rfl⟩ := SDC.perm_inv pm (l := l) rfl
  refine ⟨l', by rw [List.map_map]; rfl, p1, List.pairwise_map.mpr ((List.pairwise_map.mp pw').imp fun {a b} h => ?_), fun z => absurd z hs⟩
  have h' : (!PySem.W.dataLt (tD (p b)) (tD (p a))) = true := h
  simpa [leT] using h'
section
variable {X : Cx}
theorem dp_strs {K : PySem.W.Frag} {H : Hp} : ∀ xs : List Str, DpAll K H (xs.map V.str) (xs.map PyData.str)
  | [] => .nil
  | x :: xs => .cons (.str x) (dp_strs xs)
theorem dp_tt {K : PySem.W.Frag} {H : Hp} : ∀ {rs : List (Addr × List Str)}, (∀ r ∈ rs, H r.1 = some (.tup (r.2.map V.str))) → DpAll K H (rs.map fun r => V.ref r.1) (rs.map fun r => tD r.2)
  | [], _ => .nil
  | r :: rs, h => .cons (.tup (SqT.of (h r List.mem_cons_self)) (dp_strs _)) (dp_tt fun q hq => h q (List.mem_cons_of_mem _ hq))
theorem dep_strs : ∀ xs : List Str, PyData.depthAll (xs.map PyData.str) = 0
  | [] => by simp [PyData.depthAll]
  | x :: xs => by
    rw [List.map_cons, PyData.depthAll, dep_strs xs]
    simp [PyData.depth]
def rSortedTT (K : PySem.W.Frag) : List V → Hp → VK → Prop := fun vs H Q => ∃ (a : Addr) (rs : List (Addr × List Str)), vs = [V.ref a] ∧ SqL K H a (rs.map fun r => V.ref r.1) ∧ (∀ r ∈ rs, r.2 ≠ [] ∧ H r.1 = some (.tup (r.2.map V.str))) ∧
  ∀ (rs' : List (Addr × List Str)) (p : Addr), rs'.Perm rs → (rs'.map (·.2)).Pairwise leT → ((rs.map (·.2)).Pairwise leT → rs' = rs) → H p = none → Q (.ref p) (upd H p (.lst (rs'.map fun r => V.ref r.1)))
theorem cr_sortedTT (hu : X.A.units + 64 < cLine) : CallR X (.builtin "sorted") (rSortedTT X.K) := by
  intro pins s σ H vs us Q I r h
  obtain ⟨a, rs, rfl, hs, hp, q⟩ := h
  obtain ⟨rs', e, pm, pw, same⟩ := srtT (fun r : Addr × List Str => V.ref r.1) (fun r => r.2) rs
  refine SRT.cr_sortedD hu pins s σ H _ us Q I r ⟨a, _, rs.map fun r => tD r.2, rfl, .inl hs, dp_tt fun r hr => (hp r hr).2, fun d h1 d' h2 => ?_, .inl fun d h1 => ?_, fun d h1 => ?_, fun p fp => ?_⟩
  · obtain ⟨x, _, rfl⟩ := List.mem_map.mp h1
    obtain ⟨y, _, rfl⟩ := List.mem_map.mp h2
    show PySem.W.alike (.tuple _) (.tuple _) = true
    simp only [PySem.W.alike]
    exact PySem.W.alikeAll_map (α := Str) x.2 y.2
  · obtain ⟨x, hx, rfl⟩ := List.mem_map.mp h1
    obtain ⟨y, ys, e⟩ : ∃ y ys, x.2 = y :: ys := by
      cases hz : x.2 with
      | nil => exact absurd hz (hp x hx).1
      | cons y ys => exact ⟨y, ys, rfl⟩
    exact ⟨.str y, ys.map .str, by unfold tD; rw [e]; rfl⟩
  · obtain ⟨x, _, rfl⟩ := List.mem_map.mp h1
    have : (tD x.2).depth = 1 := by simp [tD, PyData.depth, dep_strs]
    omega
  · rw [e]
    exact q rs' p pm pw same fp
end
end SRX
set_option linter.all false
set_option Elab.async false
/-! IO: names put in order by worths, one behind another. -/
namespace IO
open PySem
/-- x is ahead of y, as texts -/
def slt (x y : Str) : Prop := x.cps.toList < y.cps.toList
instance (x y : Str) : Decidable (slt x y) := inferInstanceAs (Decidable (x.cps.toList < y.cps.toList))
theorem slt_trans_not {x y z : Str} (h1 : ¬ slt y x) (h2 : ¬ slt z y) : ¬ slt z x := by
  have a : x.cps.toList ≤ y.cps.toList := h1
  have b : y.cps.toList ≤ z.cps.toList := h2
  exact List.le_trans a b
theorem slt_antisymm {x y : Str} (h1 : ¬ slt y x) (h2 : ¬ slt x y) : x = y := by
  have a : x.cps.toList ≤ y.cps.toList := h1
  have b : y.cps.toList ≤ x.cps.toList := h2
  exact TL.ext_tl (List.le_antisymm a b)
theorem rising : ∀ (l : List Str) (p : Str), PyProof.Rows.risingS p l = true → (p :: l).Pairwise fun a b => ¬ slt b a
  | [], p, _ => List.pairwise_singleton ..
  | x :: r, p, h => by
    have h' : (!PySem.Spec.ltCps x.cps.toList p.cps.toList && PyProof.Rows.risingS x r) = true := h
    rw [Bool.and_eq_true, PyProof.Rows.ltCps_eq] at h'
    have h1 : ¬ slt x p := by
      have := h'.1
      simpa [slt] using this
    have ih := rising r x h'.2
    refine List.pairwise_cons.mpr ⟨fun y hy => ?_, ih⟩
    rcases List.mem_cons.mp hy with e | hy
    · rw [e]; exact h1
    · exact slt_trans_not h1 ((List.pairwise_cons.mp ih).1 y hy)
theorem sorted_pw {l : List Str} (h : PyProof.Rows.sortedS l = true) : l.Pairwise fun a b => ¬ slt b a := by
  cases l with
  | nil => exact List.Pairwise.nil
  | cons x r => exact rising r x h
/-- two lists in order, of the same texts, are one -/
theorem sorted_same {l m : List Str} (h1 : l.Pairwise fun a b => ¬ slt b a) (h2 : m.Pairwise fun a b => ¬ slt b a) (p : l.Perm m) : l = m :=
  List.Perm.eq_of_pairwise (le := fun a b => ¬ slt b a) (fun a b _ _ x y => slt_antisymm x y) h1 h2 p
/-- by worths, alike ones by names -/
def le (ρ : Str → Rat) (x y : Str) : Prop := ρ x < ρ y ∨ (ρ x = ρ y ∧ ¬ slt y x)
theorem le_rat {ρ : Str → Rat} {x y : Str} (h : le ρ x y) : ρ x ≤ ρ y := by
  rcases h with h | h
  · exact Rat.le_of_lt h
  · rw [h.1]; exact Rat.le_refl
theorem put_in {ρ : Str → Rat} {zs : List Str} {x : Str} {j : Nat} (hz : zs.Pairwise (le ρ)) (hx : ∀ z ∈ zs, ¬ slt x z) (hj : j ≤ zs.length) (hi : ∀ z ∈ zs.drop j, ρ x < ρ z) (lo : ∀ z ∈ zs.take j, ρ z ≤ ρ x) :
    (zs.take j ++ [x] ++ zs.drop j).Pairwise (le ρ) := by
  have h0 := hz
  rw [← List.take_append_drop j zs] at h0
  obtain ⟨h1, h2, h3⟩ := List.pairwise_append.mp h0
  rw [List.append_assoc]
  refine List.pairwise_append.mpr ⟨h1, ?_, fun a ha b hb => ?_⟩
  · exact List.pairwise_cons.mpr ⟨fun b hb => .inl (hi b hb), h2⟩
  · rcases List.mem_cons.mp hb with e | hb
    · subst e
      rcases Rat.le_iff_lt_or_eq.mp (lo a ha) with h | h
      · exact .inl h
      · exact .inr ⟨h, hx a (List.mem_of_mem_take ha)⟩
    · exact h3 a ha b hb
theorem put_perm {zs : List Str} {x : Str} (j : Nat) : (zs.take j ++ [x] ++ zs.drop j).Perm (x :: zs) := by
  rw [List.append_assoc]
  have h : (zs.take j ++ ([x] ++ zs.drop j)).Perm (x :: (zs.take j ++ zs.drop j)) := List.perm_middle
  rw [List.take_append_drop] at h
  exact h
end IO
set_option Elab.async false
set_option linter.all false
set_option maxRecDepth 100000
set_option maxHeartbeats 4000000
namespace K58
open PySem PySem.Spec PyProof.Rows L2
open KM (pr Sz)
open SETM SRX
theorem wc_rat {m : Nat} {r : Rat} (h : r.den ∣ m) : ((r.num * ((m : Int) / (r.den : Int)) : Int) : Rat) = ((m : Int) : Rat) * r := by
  obtain ⟨q, rfl⟩ := h
  have hp := r.den_pos
  have e1 : (((r.den * q : Nat) : Int) / (r.den : Int)) = (q : Int) := by
    rw [Int.natCast_mul]
    exact Int.mul_ediv_cancel_left _ (by omega)
  rw [e1]
  have hd : ((r.den : Int) : Rat) ≠ 0 := by
    intro z
    have : (r.den : Int) = 0 := by exact_mod_cast z
    omega
  have e2 : (r.num : Rat) = r * ((r.den : Int) : Rat) := by
    have h := Rat.num_divInt_den r
    rw [Rat.divInt_eq_div] at h
    grind
  rw [Int.natCast_mul, Rat.intCast_mul, Rat.intCast_mul, e2]
  grind
theorem sum_rat {c : Str → Rat} {m : Nat} : ∀ {ys : List Str}, (∀ y ∈ ys, (c y).den ∣ m) → (((ys.map (wcr c m)).sum : Int) : Rat) = ((m : Int) : Rat) * sumR (ys.map c)
  | [], _ => by
    show ((0 : Int) : Rat) = _ * 0
    grind
  | y :: ys, h => by
    rw [List.map_cons, List.map_cons, sumR_cons, List.sum_cons, Rat.intCast_add, sum_rat fun z hz => h z (List.mem_cons_of_mem _ hz)]
    have : ((wcr c m y : Int) : Rat) = ((m : Int) : Rat) * c y := wc_rat (h y List.mem_cons_self)
    rw [this]
    grind
theorem den_dvd {c : Str → Rat} : ∀ (n : Nat) {xs : List Str}, xs.length = n → ∀ x ∈ xs, (c x).den ∣ comN c xs
  | 0, xs, e, x, hx => by
    rw [List.length_eq_zero_iff.mp e] at hx
    cases hx
  | n + 1, xs, e, x, hx => by
    have ne : xs ≠ [] := fun z => by rw [z] at e; simp at e
    rw [← List.dropLast_concat_getLast ne] at hx ⊢
    rw [comN_snoc]
    rcases List.mem_append.mp hx with h | h
    · exact Nat.dvd_trans (den_dvd n (by rw [List.length_dropLast]; omega) x h) (Nat.dvd_mul_right _ _)
    · rw [List.mem_singleton.mp h]
      exact Nat.dvd_mul_left _ _
theorem zero_of {c : Str → Rat} {m : Nat} (m0 : 0 < m) {ys : List Str} (h : ∀ y ∈ ys, (c y).den ∣ m) : (ys.map (wcr c m)).sum = 0 ↔ sumR (ys.map c) = 0 := by
  have e := sum_rat h
  have hm : ((m : Int) : Rat) ≠ 0 := by
    intro z
    have : (m : Int) = 0 := by exact_mod_cast z
    omega
  constructor
  · intro z
    rw [z] at e
    have e : (0 : Rat) = ((m : Int) : Rat) * sumR (ys.map c) := e
    grind
  · intro z
    rw [z] at e
    have e : (((ys.map (wcr c m)).sum : Int) : Rat) = ((0 : Int) : Rat) := by rw [e]; show _ * 0 = (0 : Rat); grind
    exact_mod_cast e
theorem sum_nz (c : Str → Rat) : ∀ L : List Str, sumR ((L.filter fun x => decide (c x ≠ 0)).map c) = sumR (L.map c)
  | [] => rfl
  | x :: L => by
    rw [List.map_cons, sumR_cons, ← sum_nz c L]
    by_cases h : c x = 0
    · rw [List.filter_cons_of_neg (by simp [h]), h, Rat.zero_add]
    · rw [List.filter_cons_of_pos (by simp [h]), List.map_cons, sumR_cons]
/-- what lots are -/
structure Lots (L : List Str) (c : Str → Rat) (T : List (List Str)) : Prop where
  sorted : T.Pairwise leT
  each : ∀ l ∈ T, l ≠ [] ∧ l.Pairwise SRT.leS ∧ sumR (l.map c) = 0
  perm : T.flatten.Perm (L.filter fun x => decide (c x ≠ 0))
  least : ∀ l ∈ T, ∀ g : Str → Bool, sumR ((l.filter g).map c) = 0 → l.filter g = [] ∨ l.filter g = l
  most : ∀ xs : List Str, xs.Perm (L.filter fun x => decide (c x ≠ 0)) → xs.Pairwise SRT.leS → ∀ f : Nat → Int, Nt xs.length (zOf (sumsL (xs.map (wcr c (comN c xs))))) f (2 ^ xs.length) → (T.length : Int) = f (2 ^ xs.length - 1)
/-- the way down: rs the lots told, ys the one under way, from the names xs, at the set S -/
structure Dn_ (c : Str → Rat) (xs : List Str) (f : Nat → Int) (S : Nat) (T : List (List Str)) (ys : List Str) : Prop where
  lt : S < 2 ^ xs.length
  perm : (T.flatten ++ ys ++ (bs xs.length S).map fun k => xs.getD k "").Perm xs
  each : ∀ l ∈ T, l ≠ [] ∧ l.Pairwise SRT.leS ∧ sumR (l.map c) = 0
  sum : sm (xs.map (wcr c (comN c xs))) S + (ys.map (wcr c (comN c xs))).sum = 0
  nil : S = 0 → ys = []
  num : (T.length : Int) = f (2 ^ xs.length - 1) - f S - 1 + t (zOf (sumsL (xs.map (wcr c (comN c xs)))) S)
theorem z_sm {W : List Int} {S : Nat} (h : S < 2 ^ W.length) : zOf (sumsL W) S = decide (sm W S = 0) := by
  unfold zOf
  have e := (sumsL_get _ W rfl).2 S h
  rw [List.getD_eq_getElem?_getD, e]
  rfl
section
variable {c : Str → Rat} {xs : List Str} {f : Nat → Int}
theorem Dn_.start (s0 : sumR (xs.map c) = 0) : Dn_ c xs f (2 ^ xs.length - 1) [] [] := by
  have p : 0 < 2 ^ xs.length := Nat.pow_pos (by decide)
  have hs : sm (xs.map (wcr c (comN c xs))) (2 ^ xs.length - 1) = 0 := by
    have := sm_full (xs.map (wcr c (comN c xs)))
    rw [List.length_map] at this
    rw [this]
    exact (zero_of (com_pos _ rfl) (den_dvd _ rfl)).mpr s0
  refine ⟨by omega, ?_, fun l h => (nomatch h), ?_, fun _ => rfl, ?_⟩
  · rw [bs_full]
    have : (List.range xs.length).map (fun k => xs.getD k "") = xs := by
      refine List.ext_getElem (by simp) fun i h1 h2 => ?_
      simp [List.getD_eq_getElem?_getD, h2]
    rw [this]
    exact List.Perm.refl _
  · rw [hs]
    rfl
  · rw [z_sm (by rw [List.length_map]; omega), hs]
    show (0 : Int) = _ - _ - 1 + 1
    omega
theorem get_x {k : Nat} (hk : k < xs.length) : xs[k]? = some (xs.getD k "") := by
  rw [List.getD_eq_getElem?_getD, List.getElem?_eq_getElem hk]
  rfl
variable {S : Nat} {T : List (List Str)} {ys : List Str}
theorem Dn_.sub (h : Dn_ c xs f S T ys) {k : Nat} (hk : k < xs.length) (hb : S.testBit k = true) : (T.flatten ++ (ys ++ [xs.getD k ""]) ++ (bs xs.length (S - 2 ^ k)).map fun k => xs.getD k "").Perm xs := by
  refine List.Perm.trans ?_ h.perm
  have p := (bs_perm hk hb).map fun k => xs.getD k ""
  rw [List.map_cons] at p
  rw [← List.append_assoc, List.append_assoc (T.flatten ++ ys)]
  exact List.Perm.append_left _ p.symm
theorem Dn_.summ (h : Dn_ c xs f S T ys) {k : Nat} (hk : k < xs.length) (hb : S.testBit k = true) : sm (xs.map (wcr c (comN c xs))) (S - 2 ^ k) + ((ys ++ [xs.getD k ""]).map (wcr c (comN c xs))).sum = 0 := by
  have e := h.sum
  rw [sm_rem (k := k) (by rw [List.length_map]; exact hk) hb] at e
  have eg : (xs.map (wcr c (comN c xs))).getD k 0 = wcr c (comN c xs) (xs.getD k "") := by
    rw [List.getD_eq_getElem?_getD, List.getElem?_map, get_x hk]
    rfl
  rw [eg] at e
  rw [List.map_append, List.sum_append]
  simp only [List.map_cons, List.map_nil, List.sum_cons, List.sum_nil]
  omega
/-- a step that goes on -/
theorem Dn_.go (h : Dn_ c xs f S T ys) {k : Nat} (hk : k < xs.length) (hb : S.testBit k = true) (ef : f S = f (S - 2 ^ k) + t (zOf (sumsL (xs.map (wcr c (comN c xs)))) S)) (nz : ¬ zOf (sumsL (xs.map (wcr c (comN c xs)))) (S - 2 ^ k) = true) : Dn_ c xs f (S - 2 ^ k) T (ys ++ [xs.getD k ""]) := by
  have lt : S - 2 ^ k < 2 ^ xs.length := Nat.lt_of_le_of_lt (Nat.sub_le _ _) h.lt
  refine ⟨lt, h.sub hk hb, h.each, h.summ hk hb, fun z => ?_, ?_⟩
  · refine absurd ?_ nz
    rw [z_sm (by rw [List.length_map]; exact lt), z, sm_zero]
    rfl
  · have := h.num
    rw [this, ef]
    unfold t
    rw [if_neg nz]
    split <;> omega
/-- a step that ends a lot -/
theorem Dn_.out (h : Dn_ c xs f S T ys) {k : Nat} (hk : k < xs.length) (hb : S.testBit k = true) (ef : f S = f (S - 2 ^ k) + t (zOf (sumsL (xs.map (wcr c (comN c xs)))) S)) (z : zOf (sumsL (xs.map (wcr c (comN c xs)))) (S - 2 ^ k) = true) {l : List Str} (pl : l.Perm (ys ++ [xs.getD k ""])) (pw : l.Pairwise SRT.leS) : Dn_ c xs f (S - 2 ^ k) (T ++ [l]) [] := by
  have lt : S - 2 ^ k < 2 ^ xs.length := Nat.lt_of_le_of_lt (Nat.sub_le _ _) h.lt
  have z' := z
  rw [z_sm (by rw [List.length_map]; exact lt)] at z'
  have z' := of_decide_eq_true z'
  have hs := h.summ hk hb
  rw [z', Int.zero_add] at hs
  have sub := h.sub hk hb
  have mem : ∀ y ∈ l, y ∈ xs := fun y hy => sub.mem_iff.mp (List.mem_append_left _ (List.mem_append_right _ (pl.mem_iff.mp hy)))
  refine ⟨lt, ?_, fun m hm => ?_, ?_, fun _ => rfl, ?_⟩
  · refine List.Perm.trans ?_ sub
    rw [List.flatten_append, List.append_nil]
    refine List.Perm.append_right _ (List.Perm.append_left _ ?_)
    simpa using pl
  · rcases List.mem_append.mp hm with hm | hm
    · exact h.each m hm
    · rw [List.mem_singleton.mp hm]
      refine ⟨fun e => ?_, pw, ?_⟩
      · rw [e] at pl
        have := pl.length_eq
        simp at this
      · refine (zero_of (com_pos _ rfl) fun y hy => den_dvd _ rfl y (mem y hy)).mp ?_
        rw [← hs]
        exact sum_perm (pl.map _)
  · rw [z']
    rfl
  · have := h.num
    rw [List.length_append, List.length_singleton, Int.natCast_add, this, ef, z]
    unfold t
    rw [if_pos rfl]
    split <;> omega
end
/-! ### no lot can be parted -/
def nmS (xs : List Str) (S : Nat) : List Str := (bs xs.length S).map fun k => xs.getD k ""
theorem nm_rem {xs : List Str} {S k : Nat} (hk : k < xs.length) (hb : S.testBit k = true) : (nmS xs S).Perm (xs.getD k "" :: nmS xs (S - 2 ^ k)) := by
  have p := (bs_perm hk hb).map fun k => xs.getD k ""
  rw [List.map_cons] at p
  exact p
theorem nt_pos {n m : Nat} {z : Nat → Bool} {f : Nat → Int} (h : Nt n z f m) : ∀ S, S < m → 0 ≤ f S := by
  intro S
  induction S using Nat.strongRecOn with
  | ind S ih =>
    intro hS
    rcases Nat.eq_zero_or_pos S with rfl | h0
    · rw [h.zero]
      exact Int.le_refl _
    · obtain ⟨k, hk, hb, e⟩ := h.at_ S h0 hS
      have p : 0 < 2 ^ k := Nat.pow_pos (by decide)
      have := ih (S - 2 ^ k) (by omega) (by omega)
      rw [e]
      unfold t
      split <;> omega
/-- taking names out -/
theorem nt_out {xs : List Str} {z : Nat → Bool} {f : Nat → Int} (h : Nt xs.length z f (2 ^ xs.length)) : ∀ (l R : List Str) (S : Nat), S < 2 ^ xs.length → (nmS xs S).Perm (l ++ R) → ∃ S1, S1 < 2 ^ xs.length ∧ (nmS xs S1).Perm R ∧ f S1 ≤ f S ∧ (l ≠ [] → f S1 + t (z S) ≤ f S)
  | [], R, S, hS, p => ⟨S, hS, p, Int.le_refl _, fun n => absurd rfl n⟩
  | x :: l, R, S, hS, p => by
    have hx : x ∈ nmS xs S := p.mem_iff.mpr (by simp)
    obtain ⟨k, hk, rfl⟩ := List.mem_map.mp hx
    obtain ⟨hkn, hb⟩ := mem_bs.mp hk
    have le := (rem k S hb).1
    have pk : 0 < 2 ^ k := Nat.pow_pos (by decide)
    have p2 : (nmS xs (S - 2 ^ k)).Perm (l ++ R) := List.Perm.cons_inv ((nm_rem hkn hb).symm.trans p)
    obtain ⟨S1, h1, h2, h3, _⟩ := nt_out h l R (S - 2 ^ k) (by omega) p2
    have up := h.up S (by omega) hS k hkn hb
    have t0 : 0 ≤ t (z S) := by unfold t; split <;> decide
    exact ⟨S1, h1, h2, by omega, fun _ => by omega⟩
/-- lots are never more than f tells -/
theorem nt_most {c : Str → Rat} {xs : List Str} {f : Nat → Int} (nt : Nt xs.length (zOf (sumsL (xs.map (wcr c (comN c xs))))) f (2 ^ xs.length)) : ∀ (T : List (List Str)) (S : Nat), S < 2 ^ xs.length → (nmS xs S).Perm T.flatten → (∀ l ∈ T, l ≠ [] ∧ sumR (l.map c) = 0) → (T.length : Int) ≤ f S
  | [], S, hS, _, _ => nt_pos nt S hS
  | l :: T, S, hS, p, hT => by
    rw [List.flatten_cons] at p
    obtain ⟨S1, h1, h2, _, h4⟩ := nt_out nt l T.flatten S hS p
    have ih := nt_most nt T S1 h1 h2 fun m hm => hT m (List.mem_cons_of_mem _ hm)
    have z0 : sumR ((l ++ T.flatten).map c) = 0 := by
      rw [← List.flatten_cons]
      have : ∀ Z : List (List Str), (∀ m ∈ Z, sumR (m.map c) = 0) → sumR (Z.flatten.map c) = 0 := fun Z => by
        induction Z with
        | nil => intro _; rfl
        | cons m Z ihz =>
          intro hz
          rw [List.flatten_cons, List.map_append, sumR_app, hz m List.mem_cons_self, ihz fun q hq => hz q (List.mem_cons_of_mem _ hq)]
          exact Rat.zero_add 0
      exact this _ fun m hm => (hT m hm).2
    have zS : zOf (sumsL (xs.map (wcr c (comN c xs)))) S = true := by
      rw [z_sm (by rw [List.length_map]; exact hS)]
      refine decide_eq_true ?_
      have e1 : sm (xs.map (wcr c (comN c xs))) S = ((nmS xs S).map (wcr c (comN c xs))).sum := by
        unfold sm nmS
        rw [List.map_map, List.length_map]
        congr 1
        refine List.map_congr_left fun k hk => ?_
        have g := get_x (xs := xs) (mem_bs.mp hk).1
        rw [List.getD_eq_getElem?_getD, List.getElem?_map, g]
        rfl
      rw [e1, sum_perm (p.map _)]
      refine (zero_of (com_pos _ rfl) fun y hy => den_dvd _ rfl y ?_).mpr z0
      have := p.mem_iff.mpr hy
      obtain ⟨k, hk, rfl⟩ := List.mem_map.mp this
      exact List.mem_of_getElem? (get_x (mem_bs.mp hk).1)
    have := h4 (hT l List.mem_cons_self).1
    rw [zS] at this
    unfold t at this
    rw [if_pos rfl] at this
    rw [List.length_cons]
    omega
theorem sum_part (c : Str → Rat) (g : Str → Bool) : ∀ l : List Str, sumR (l.map c) = sumR ((l.filter g).map c) + sumR ((l.filter fun x => !g x).map c)
  | [] => (Rat.zero_add 0).symm
  | x :: l => by
    rw [List.map_cons, sumR_cons, sum_part c g l]
    cases h : g x
    · rw [List.filter_cons_of_neg (by simp [h]), List.filter_cons_of_pos (by simp [h]), List.map_cons, sumR_cons]
      grind
    · rw [List.filter_cons_of_pos (by simp [h]), List.filter_cons_of_neg (by simp [h]), List.map_cons, sumR_cons]
      grind
/-- no lot of the most can be parted -/
theorem least_of {c : Str → Rat} {xs : List Str} {f : Nat → Int} (nt : Nt xs.length (zOf (sumsL (xs.map (wcr c (comN c xs))))) f (2 ^ xs.length)) {T : List (List Str)} (p : xs.Perm T.flatten) (hT : ∀ l ∈ T, l ≠ [] ∧ sumR (l.map c) = 0) (num : (T.length : Int) = f (2 ^ xs.length - 1)) {l : List Str} (hl : l ∈ T) (g : Str → Bool) (hg : sumR ((l.filter g).map c) = 0) : l.filter g = [] ∨ l.filter g = l := by
  refine Classical.byContradiction fun no => ?_
  have n1 : l.filter g ≠ [] := fun z => no (.inl z)
  have n2 : (l.filter fun x => !g x) ≠ [] := fun z => no (.inr (List.filter_eq_self.mpr fun x hx => by
    have := List.filter_eq_nil_iff.mp z x hx
    simpa using this))
  obtain ⟨A, B, rfl⟩ := List.append_of_mem hl
  have s2 : sumR ((l.filter fun x => !g x).map c) = 0 := by
    have h := sum_part c g l
    rw [(hT l hl).2, hg] at h
    grind
  have M0 : 0 < 2 ^ xs.length := Nat.pow_pos (by decide)
  have full : nmS xs (2 ^ xs.length - 1) = xs := by
    unfold nmS
    rw [bs_full]
    refine List.ext_getElem (by simp) fun i h1 h2 => ?_
    simp [List.getD_eq_getElem?_getD, h2]
  have pf : l.Perm (l.filter g ++ l.filter fun x => !g x) := (List.filter_append_perm g l).symm
  have := nt_most nt (A ++ (l.filter g :: (l.filter fun x => !g x) :: B)) (2 ^ xs.length - 1) (by omega) (by
    rw [full]
    refine p.trans ?_
    rw [List.flatten_append, List.flatten_append, List.flatten_cons, List.flatten_cons, List.flatten_cons]
    refine List.Perm.append_left _ ?_
    rw [← List.append_assoc]
    exact pf.append_right _) (fun m hm => by
    rcases List.mem_append.mp hm with h | h
    · exact hT m (List.mem_append_left _ h)
    · rcases List.mem_cons.mp h with rfl | h
      · exact ⟨n1, hg⟩
      · rcases List.mem_cons.mp h with rfl | h
        · exact ⟨n2, s2⟩
        · exact hT m (List.mem_append_right _ (List.mem_cons_of_mem _ h)))
  rw [List.length_append] at num this
  simp only [List.length_cons] at num this
  omega
section
variable {c : Str → Rat} {xs : List Str} {f : Nat → Int} {S : Nat} {T : List (List Str)} {ys : List Str}
/-- at the end -/
theorem Dn_.done {L : List Str} (h : Dn_ c xs f 0 T ys) (px : xs.Perm (L.filter fun x => decide (c x ≠ 0))) (pw : xs.Pairwise SRT.leS) (nt : Nt xs.length (zOf (sumsL (xs.map (wcr c (comN c xs))))) f (2 ^ xs.length)) {T' : List (List Str)} (pT : T'.Perm T) (sT : T'.Pairwise leT) : Lots L c T' := by
  have e := h.nil rfl
  subst e
  have pfl : T'.flatten.Perm xs := by
    have p := h.perm
    rw [bs_zero, List.append_nil, List.map_nil, List.append_nil] at p
    exact (List.Perm.flatten pT).trans p
  have num' : (T'.length : Int) = f (2 ^ xs.length - 1) := by
    have n := h.num
    rw [z_sm (by rw [List.length_map]; exact h.lt), sm_zero, nt.zero] at n
    rw [pT.length_eq, n]
    show _ - 0 - 1 + 1 = _
    omega
  refine ⟨sT, fun l hl => h.each l (pT.mem_iff.mp hl), ?_, fun l hl g hg => least_of nt pfl.symm (fun m hm => ⟨(h.each m (pT.mem_iff.mp hm)).1, (h.each m (pT.mem_iff.mp hm)).2.2⟩) num' hl g hg, fun xs' px' pw' f' nt' => ?_⟩
  · refine List.Perm.trans ?_ px
    have p := h.perm
    rw [bs_zero, List.append_nil, List.map_nil, List.append_nil] at p
    exact (List.Perm.flatten pT).trans p
  · have : xs' = xs := IO.sorted_same pw' pw (px'.trans px.symm)
    subst this
    have n := h.num
    rw [z_sm (by rw [List.length_map]; exact h.lt), sm_zero, nt.zero] at n
    rw [pT.length_eq, n]
    have one := Nt.one nt nt' (2 ^ xs'.length - 1) (by have : 0 < 2 ^ xs'.length := Nat.pow_pos (by decide); omega)
    rw [← one]
    show _ - 0 - 1 + 1 = _
    omega
end
end K58
set_option Elab.async false
set_option linter.all false
set_option maxRecDepth 100000
set_option maxHeartbeats 4000000
namespace K58
open PySem PySem.Spec PyProof.Rows L2
open C8 (Cal Mak Met pe_c pe_mk pe_mt pe_mt0)
open KM (pr Sz)
open SETM SRX
theorem iteTE {b : Bool} {p q : Prop} (h : b = true) (x : p) : if b = true then p else q := by rw [if_pos h]; exact x
theorem iteFE {b : Bool} {p q : Prop} (h : b = false) (x : q) : if b = true then p else q := by rw [h]; exact x
/-- the lots told -/
def LtL (H : Hp) (o : Addr) (rs : List (Addr × List Str)) : Prop := H o = some (.lst (rs.map fun r => V.ref r.1)) ∧ ∀ r ∈ rs, H r.1 = some (.tup (r.2.map V.str))
theorem LtL.same {H H' : Hp} {o : Addr} {rs : List (Addr × List Str)} (h : LtL H o rs) (s : Same H H') : LtL H' o rs := ⟨s _ _ h.1, fun r hr => s _ _ (h.2 r hr)⟩
section
variable {P : Program} {w : World} {K : PySem.W.Frag} {mg : Str → Option Value} {base : Heap} {f C : Addr} {fd : FuncData}
def spLo (C : Addr) : Sp := fun vs H Q _ => ∃ (d : Addr) (L : List Str) (c : Str → Rat), vs = [.ref d] ∧ SDc C H d L c ∧ L.length ≤ 10 ∧ (∀ x ∈ L, Cs (c x)) ∧ sumR (L.map c) = 0 ∧
  ∀ o H' rs, Same H H' → H o = none → LtL H' o rs → Lots L c (rs.map (·.2)) → Q (.ref o) H'
theorem Cs.sz {r : Rat} (h : Cs r) : Sz 20 r := ⟨by have := h.2; show r.num.natAbs < 2 ^ 20; omega, by have := h.1; show r.den < 2 ^ 20; omega⟩
theorem ok_lo (F : Dn K d_lots f fd) (bl : Bl mg) (bs' : mg "sorted" = none) (btup : mg "tuple" = none) (T : Cl K mg C) (g : ∃ t, mg "MOST_UNEVEN" = some (.int 10 t)) (cCE : Cal P w K mg base 6 "check_even" (spCE C) []) (cWC : Cal P w K mg base 1 "whole_credits" (spWC C) []) (cSu : Cal P w K mg base 1 "sums_of_sets" spSu []) (cBt : Cal P w K mg base 2 "best_takings" spBt []) :
    FnOk P w K mg base CX0 7 f fd ["standing"] (spLo C) := by
  refine F.ok sc_lots (fun vs H Q E h => ?_) (fun cdv A outer s H vs Q E hr h => ?_)
  · obtain ⟨d, L, c, rfl, _⟩ := h
    rfl
  · obtain ⟨d, L, c, rfl, ⟨ad, hd, hv⟩, ll, cs, s0, hQ⟩ := h
    obtain ⟨tg, g⟩ := g
    have hu := hu_of hr
    have hu64 : (A.deeper (envOfC d_lots.qual d_lots.scope s.heap.objs.size f cdv)).units + 64 < cLine := by have := hr.un; omega
    refine ⟨_, PSs.nox (pss_cons (ps_expr (pe_c cCE hr (by decide) rfl (pa_cons (pv 0) pa_nil)))
      (pss_cons (ps_set (i := 1) sc_lots.nd rfl (.inl rfl) (pe_callB (r := SRT.rSortedTx K) (SRT.cr_sortedTx hu64) rfl bs' boot_sorted (pa_cons (pe_lock (pe_lc (own := [("name", 8)]) (g := gName 8) rfl sc_lots.nd (pi_keys (pv 0)) (blkOk_by (N := N_lots) (sc := defScope s_lots) (by decide +kernel))
          (fun _ _ _ _ _ => pg_name (i := 8) sc_lots.nd rfl (Or.inl rfl)) (fun _ _ _ _ _ => pts_one (pt_cmpR op_ne (pe_fldK (K := K) rfl (pe_dget hu (pv 0) (pv 8) (fun _ _ => rfl)) rfl) pe_int (nomark _))) (fun _ _ _ _ _ => pv 8))) pa_nil)))
      (pss_cons (ps_if (pt_cmpR op_gt (pe_callB call_len_seq rfl bl.len boot_len (pa_cons (pv 1) pa_nil)) (pe_glob (v := .int 10) rfl g ⟨tg, rfl⟩) (nomark _)) pss_never pss_nil)
      (pss_cons (ps_set (i := 2) sc_lots.nd rfl (.inl rfl) (pe_c cSu hr (by decide) rfl (pa_cons (pe_c cWC hr (by decide) rfl (pa_cons (pv 0) (pa_cons (pv 1) pa_nil))) pa_nil)))
      (pss_cons (ps_set (i := 3) sc_lots.nd rfl (.inl rfl) (pe_c cBt hr (by decide) rfl (pa_cons (pv 2) (pa_cons (pe_callB call_len_seq rfl bl.len boot_len (pa_cons (pv 1) pa_nil)) pa_nil))))
      (pss_cons (ps_set (i := 4) sc_lots.nd rfl (.inl rfl) (pe_lst pa_nil))
      (pss_cons (ps_set (i := 5) sc_lots.nd rfl (.inl rfl) (pe_lst pa_nil))
      (pss_cons (ps_set (i := 6) sc_lots.nd rfl (.inl rfl) (pe_op op_sub (pe_callB call_len_seq rfl bl.len boot_len (pa_cons (pv 2) pa_nil)) pe_int))
      (pss_cons (ps_while PassesOwn.never (pt_cmpR op_gt (pv 6) pe_int (nomark _))
        (pss_cons (ps_set (i := 7) sc_lots.nd rfl (.inl rfl) (pe_ix ix_list (pv 3) (pv 6) (fun _ _ => rfl)))
        (pss_cons (ps_aug (i := 6) sc_lots.nd rfl (.inl rfl) (pe_op op_shl pe_int (pv 7)) ip_sub)
        (pss_cons (ps_expr (pe_bm PySem.F.plainAttrs_list PySem.F.slot_list_append PySem.F.type_list_append mt_append (pv 5) (pa_cons (pe_ix ix_list (pv 1) (pv 7) (fun _ _ => rfl)) pa_nil)))
        (pss_one (ps_if (pt_cmpR op_eq (pe_ix ix_list (pv 2) (pv 6) (fun _ _ => rfl)) pe_int (nomark _))
          (pss_cons (ps_expr (pe_bm PySem.F.plainAttrs_list PySem.F.slot_list_append PySem.F.type_list_append mt_append (pv 4) (pa_cons (pe_callTy call_tuple_of rfl btup boot_tuple (pa_cons (pe_callB (r := SRT.rSortedTx K) (SRT.cr_sortedTx hu64) rfl bs' boot_sorted (pa_cons (pv 5) pa_nil)) pa_nil)) pa_nil)))
          (pss_one (ps_set (i := 5) sc_lots.nd rfl (.inl rfl) (pe_lst pa_nil)))) pss_nil))))))
      (pss_one (ps_ret (pe_callB (r := SRX.rSortedTT K) (SRX.cr_sortedTT hu64) rfl bs' boot_sorted (pa_cons (pv 4) pa_nil))))))))))))), ?_⟩
    refine ⟨_, rfl, d, L, c, rfl, ⟨ad, hd, hv⟩, by omega, fun x hx => (cs x hx).sz, s0, fun H1 s1 => ?_⟩
    have hd := s1 _ _ hd
    have hv : ∀ x ∈ L, Sh C H1 (ad x) (pr (c x)) := fun x hx => (hv x hx).keep s1
    refine ⟨d, _, hd, trivial, fun od => ?_⟩
    obtain ⟨hd1, kp1, new1, back1⟩ := lockf (C := C) hd od
    have hv1 : ∀ x ∈ L, Sh C (upd H1 d (.frz od (dctO L fun x => .ref (ad x)))) (ad x) (pr (c x)) := fun x hx => (hv x hx).un ((hv x hx).at_ne hd)
    generalize upd H1 d (.frz od (dctO L fun x => .ref (ad x))) = F1 at hd1 kp1 new1 back1 hv1
    refine ⟨_, rfl, d, od, rfl, .inl ⟨_, hd1, fun D hD => lc_it walk_keys (fun i H2 => H2 D = some (.lst (((L.take i).filter fun x => decide (c x ≠ 0)).map V.str)) ∧ Same F1 H2) ⟨upd_same, same_new hD⟩ (fun i H2 _ z => z.2 _ _ hd1) ?_ ?_⟩⟩
    · rintro i x H2 H3 hi ⟨hD2, sm⟩ ⟨eH, kk, v, hkk, rfl⟩
      have eH := eH.symm
      subst eH
      rw [List.length_map] at hi
      rw [List.getElem?_map] at hkk
      obtain ⟨z, hz0, e0⟩ := Option.map_eq_some_iff.mp hkk
      cases e0
      have hzL := List.mem_of_getElem? hz0
      refine ⟨rfl, ?_⟩
      have dg : DGet H2 d (.str z) (some (.ref (ad z))) := .inl ⟨_, Sum.inr z, .inr ⟨od, sm _ _ hd1⟩, rfl, by rw [val_dct, if_pos hzL]⟩
      obtain ⟨dz, hvz⟩ := (hv1 z hzL).keep sm
      refine ⟨_, rfl, _, rfl, d, _, rfl, dg, ad z, C, dz, _, _, rfl, hvz, T.cl, T.nt, shF_top _, rfl, _, rfl, ?_⟩
      have en : (!decide (V.int (pr (c z)).1 = V.int 0)) = decide (c z ≠ 0) := by
        by_cases q : c z = 0
        · have : (pr (c z)).1 = 0 := num0.mpr q
          rw [decide_eq_true (congrArg V.int this), decide_eq_false (fun h => h q)]
          rfl
        · rw [decide_eq_false (fun h => q (num0.mp (V.int.inj h))), decide_eq_true q]
          rfl
      rw [en]
      have ef : (L.take (i + 1)).filter (fun x => decide (c x ≠ 0)) = (L.take i).filter (fun x => decide (c x ≠ 0)) ++ if decide (c z ≠ 0) = true then [z] else [] := by
        rw [take_one hz0, List.filter_append]
        by_cases q : c z = 0 <;> simp [q]
      refine ite2 (fun q => ?_) (fun q => ?_)
      · refine ⟨_, rfl, _, hD2, by rw [List.length_map]; exact Nat.lt_of_le_of_lt (List.length_filter_le _ _) (by rw [List.length_take]; exact line_lt (by omega)), ?_, same_put sm hD⟩
        rw [upd_same, ef, if_pos q, List.map_append]
        rfl
      · rw [ef, if_neg q, List.append_nil]
        exact ⟨hD2, sm⟩
    rintro H2 ⟨hD2, sm⟩
    rw [List.length_map, take_all] at hD2
    obtain ⟨nD, nDd⟩ := new1 D hD
    have s2 := back1 H2 sm
    refine ⟨sm _ _ hd1, ?_⟩
    have hD3 : (upd H2 d (dctO L fun x => .ref (ad x))) D = some (.lst ((L.filter fun x => decide (c x ≠ 0)).map V.str)) := by rw [upd_ne nDd]; exact hD2
    generalize upd H2 d (dctO L fun x => .ref (ad x)) = H3 at s2 hD3
    refine ⟨D, _, rfl, .inl (SqL.of hD3), fun xs nl px pw fnl => ?_⟩
    have s3 := s1.trans (s2.trans (same_new (o := .lst (xs.map V.str)) fnl))
    have s23 := s2.trans (same_new (o := .lst (xs.map V.str)) fnl)
    have hn : (upd H3 nl (.lst (xs.map V.str))) nl = some (.lst (xs.map V.str)) := upd_same
    have hd4 := s23 _ _ hd
    have hv4 : ∀ x ∈ L, Sh C (upd H3 nl (.lst (xs.map V.str))) (ad x) (pr (c x)) := fun x hx => (hv x hx).keep s23
    generalize upd H3 nl (.lst (xs.map V.str)) = H4 at s3 hn hd4 hv4
    have xl : xs.length ≤ 10 := by
      rw [px.length_eq]
      exact Nat.le_trans (List.length_filter_le _ _) ll
    have sub : ∀ x ∈ xs, x ∈ L := fun x hx => (List.mem_filter.mp (px.mem_iff.mp hx)).1
    have cs' : ∀ x ∈ xs, Cs (c x) := fun x hx => cs x (sub x hx)
    have sx0 : sumR (xs.map c) = 0 := by
      rw [sumR_perm (px.map c), sum_nz]
      exact s0
    refine ⟨_, rfl, nl, _, rfl, .inl (SqL.of hn), _, _, rfl, rfl, _, rfl, ?_⟩
    refine iteFE (decide_eq_false (by rw [List.length_map]; omega)) ?_
    refine ⟨_, rfl, _, rfl, d, nl, L, xs, c, rfl, ⟨ad, hd4, hv4⟩, hn, sub, by omega, cs', fun wl H5 s5 fw hw => ?_⟩
    obtain ⟨W, hW⟩ : ∃ W, W = xs.map (wcr c (comN c xs)) := ⟨_, rfl⟩
    rw [← hW] at hw
    have lW : W.length = xs.length := by rw [hW, List.length_map]
    refine ⟨wl, W, rfl, hw, by omega, fun sl H6 s6 fs hs => ?_⟩
    have hn6 := s6 _ _ (s5 _ _ hn)
    have lS := (sumsL_get _ W rfl).1
    refine ⟨_, rfl, _, rfl, nl, _, rfl, .inl (SqL.of hn6), sl, xs.length, sumsL W, (by rw [List.length_map]; rfl), by omega, hs, by rw [lS, lW], fun pl H7 ff p s7 fp hp nt wy => ?_⟩
    refine ⟨by show 0 ≤ sizeLine; decide, fun T0 fT => ?_⟩
    have sT := same_new (o := .lst []) fT
    have hT : (upd H7 T0 (.lst [])) T0 = some (.lst []) := upd_same
    have nTn : T0 ≠ nl := fun z => by rw [z, s7 _ _ hn6] at fT; cases fT
    have nTs : T0 ≠ sl := fun z => by rw [z, s7 _ _ hs] at fT; cases fT
    have nTp : T0 ≠ pl := fun z => by rw [z, hp] at fT; cases fT
    refine ⟨by show 0 ≤ sizeLine; decide, fun L0 fL => ?_⟩
    have sL := same_new (o := .lst []) fL
    have hL : (upd (upd H7 T0 (.lst [])) L0 (.lst [])) L0 = some (.lst []) := upd_same
    have hT := sL _ _ hT
    have nLT : L0 ≠ T0 := fun z => by rw [z, upd_same] at fL; cases fL
    have fL7 : H7 L0 = none := by rw [upd_ne nLT] at fL; exact fL
    have s8 := sT.trans sL
    generalize upd (upd H7 T0 (.lst [])) L0 (.lst []) = H8 at hT hL s8
    have s07 : Same H H7 := s3.trans (s5.trans (s6.trans s7))
    have hn7 := s7 _ _ hn6
    have hs7 := s7 _ _ hs
    have M0 : 0 < 2 ^ xs.length := Nat.pow_pos (by decide)
    have M1 : 2 ^ xs.length ≤ 1024 := Nat.pow_le_pow_right (by decide) xl
    refine ⟨_, rfl, sl, _, rfl, .inl (SqL.of (s8 _ _ hs7)), _, _, rfl, rfl, ?_⟩
    have ec : (((sumsL W).map V.int).length : Int) - 1 = ((2 ^ xs.length - 1 : Nat) : Int) := by
      rw [List.length_map, lS, lW]
      omega
    rw [hW] at nt wy
    refine ⟨fun m σ' H' => ∃ (S : Nat) (L0 : Addr) (rs : List (Addr × List Str)) (ys : List Str) (v7 v8 : Option V), m = S ∧ σ' = [some (.ref d), some (.ref nl), some (.ref sl), some (.ref pl), some (.ref T0), some (.ref L0), some (.int (S : Int)), v7, v8] ∧ Same H7 H' ∧ LtL H' T0 rs ∧ H' L0 = some (.lst (ys.map V.str)) ∧ H7 L0 = none ∧ L0 ≠ T0 ∧ Dn_ c xs ff S (rs.map (·.2)) ys,
      ⟨2 ^ xs.length - 1, 2 ^ xs.length - 1, L0, [], [], none, none, rfl, (by show [some (V.ref d), some (V.ref nl), some (V.ref sl), some (V.ref pl), some (V.ref T0), some (V.ref L0), some (V.int ((((sumsL W).map V.int).length : Int) - 1)), none, none] = _; rw [ec]), s8, ⟨hT, fun r h => nomatch h⟩, hL, fL7, nLT, Dn_.start sx0⟩, ?_⟩
    rintro m σ' H' ⟨S, L0, rs, ys, v7, v8, rfl, rfl, s9, ⟨hT, hrs⟩, hL, fL7, nLT, dn⟩
    refine ⟨_, rfl, _, _, rfl, rfl, _, rfl, ?_⟩
    have lens : ((rs.map (·.2)).flatten ++ ys ++ (bs xs.length m).map fun k => xs.getD k "").length = xs.length := dn.perm.length_eq
    rw [List.length_append, List.length_append] at lens
    have lrs : rs.length ≤ 10 := by
      have : ∀ (Z : List (List Str)), (∀ l ∈ Z, l ≠ []) → Z.length ≤ Z.flatten.length := fun Z => by
        induction Z with
        | nil => intro _; simp
        | cons l Z ih =>
          intro h
          have h1 := ih fun m hm => h m (List.mem_cons_of_mem _ hm)
          have h2 : l.length ≠ 0 := fun z => h l List.mem_cons_self (List.length_eq_zero_iff.mp z)
          rw [List.flatten_cons, List.length_append, List.length_cons]
          omega
      have := this (rs.map (·.2)) fun l hl => (dn.each l hl).1
      rw [List.length_map] at this
      omega
    rcases Nat.eq_zero_or_pos m with rfl | m0
    · refine iteFE (decide_eq_false (by omega)) ?_
      refine ⟨_, rfl, T0, rs, rfl, SqL.of hT, fun r hr => ⟨(dn.each r.2 (List.mem_map.mpr ⟨r, hr, rfl⟩)).1, hrs r hr⟩, fun rs' o pr' pw' _ fo => ?_⟩
      have so := same_new (o := .lst (rs'.map fun r => V.ref r.1)) fo
      refine hQ o _ rs' (s07.trans (s9.trans so)) ((s07.trans s9).free fo) ⟨upd_same, fun r hr => so _ _ (hrs r (pr'.mem_iff.mp hr))⟩ ?_
      exact dn.done px pw nt (pr'.map _) pw'
    · refine iteTE (decide_eq_true (by omega)) ?_
      obtain ⟨hk, hb, ef⟩ := wy m m0 dn.lt
      have at_p : atI ((List.range (2 ^ xs.length)).map (plV p)) (m : Int) = some (.int (p m : Int)) := atI_nat (by
        rw [List.getElem?_map, List.getElem?_range dn.lt]
        show some (plV p m) = _
        unfold plV
        rw [if_neg (by omega)])
      have k64 : p m < 64 := by omega
      have le := (rem (p m) m hb).1
      have p2 : 0 < 2 ^ p m := Nat.pow_pos (by decide)
      generalize p m = k at hk hb ef at_p k64 le p2
      have e6 : (m : Int) - 1 * 2 ^ ((k : Int)).toNat = ((m - 2 ^ k : Nat) : Int) := by
        rw [Int.toNat_natCast, Int.one_mul, Int.natCast_sub le, Int.natCast_pow]
        rfl
      have lt2 : m - 2 ^ k < 2 ^ xs.length := Nat.lt_of_le_of_lt (Nat.sub_le _ _) dn.lt
      have hs9 := s9 _ _ hs7
      have at_s : atI ((sumsL W).map V.int) ((m : Int) - 1 * 2 ^ ((k : Int)).toNat) = some (.int ((sumsL W).getD (m - 2 ^ k) 1)) := by
        rw [e6]
        refine atI_nat ?_
        have : m - 2 ^ k < (sumsL W).length := by rw [lS, lW]; exact lt2
        rw [List.getElem?_map, List.getD_eq_getElem?_getD, List.getElem?_eq_getElem this]
        rfl
      refine ⟨_, fun σ' H' z => z, ?_⟩
      refine ⟨_, rfl, _, rfl, pl, _, _, .int (k : Int), rfl, rfl, SqL.of (s9 _ _ hp), at_p, ?_⟩
      refine ⟨_, rfl, _, rfl, _, _, rfl, rfl, ⟨by omega, by omega, by decide⟩, _, _, rfl, rfl, ?_⟩
      refine ⟨_, rfl, .inl ⟨rfl, _, SqL.of hL⟩, _, rfl, _, rfl, nl, _, _, .str (xs.getD k ""), rfl, rfl, SqL.of (s9 _ _ hn7), atI_nat (by rw [List.getElem?_map, get_x hk]; rfl), L0, _, _, rfl, rfl, hL, by rw [List.length_map]; exact line_lt (by omega), ?_⟩
      have eL : (ys.map V.str ++ [V.str (xs.getD k "")]) = (ys ++ [xs.getD k ""]).map V.str := by rw [List.map_append]; rfl
      have s10 : Same H7 (upd H' L0 (.lst (ys.map V.str ++ [V.str (xs.getD k "")]))) := same_put s9 fL7
      have hL2 : (upd H' L0 (.lst (ys.map V.str ++ [V.str (xs.getD k "")]))) L0 = some (.lst ((ys ++ [xs.getD k ""]).map V.str)) := by rw [upd_same, eL]
      have hT2 : (upd H' L0 (.lst (ys.map V.str ++ [V.str (xs.getD k "")]))) T0 = some (.lst (rs.map fun r => V.ref r.1)) := by rw [upd_ne nLT.symm]; exact hT
      have hrs2 : ∀ r ∈ rs, (upd H' L0 (.lst (ys.map V.str ++ [V.str (xs.getD k "")]))) r.1 = some (.tup (r.2.map V.str)) := fun r hr => by
        have nr : r.1 ≠ L0 := fun z => by
          have := hrs r hr
          rw [z, hL] at this
          cases this
        rw [upd_ne nr]
        exact hrs r hr
      generalize upd H' L0 (.lst (ys.map V.str ++ [V.str (xs.getD k "")])) = G1 at s10 hL2 hT2 hrs2
      refine ⟨_, rfl, _, rfl, sl, _, _, _, rfl, rfl, SqL.of (s10 _ _ hs7), at_s, rfl, _, rfl, ?_⟩
      have ez : decide (V.int ((sumsL W).getD (m - 2 ^ k) 1) = V.int 0) = zOf (sumsL W) (m - 2 ^ k) := decide_eq_decide.mpr ⟨fun h => V.int.inj h, fun h => congrArg V.int h⟩
      rw [ez]
      rw [← hW] at ef
      refine ite2 (fun q => ?_) (fun q => ?_)
      · refine ⟨_, rfl, .inl ⟨rfl, _, SqL.of hT2⟩, _, rfl, L0, _, rfl, .inl (SqL.of hL2), fun l q1 pl1 pwl fq => ?_⟩
        have sq := same_new (o := .lst (l.map V.str)) fq
        have hq : (upd G1 q1 (.lst (l.map V.str))) q1 = some (.lst (l.map V.str)) := upd_same
        have hT3 := sq _ _ hT2
        have hrs3 := fun r hr => sq _ _ (hrs2 r hr)
        have s11 := s10.trans sq
        generalize upd G1 q1 (.lst (l.map V.str)) = G2 at hq hT3 hrs3 s11
        refine ⟨q1, _, rfl, .inl ⟨SqL.of hq, fun u fu => ?_⟩⟩
        have su := same_new (o := .tup (l.map V.str)) fu
        have hu : (upd G2 u (.tup (l.map V.str))) u = some (.tup (l.map V.str)) := upd_same
        have hT4 := su _ _ hT3
        have hrs4 := fun r hr => su _ _ (hrs3 r hr)
        have s12 := s11.trans su
        generalize upd G2 u (.tup (l.map V.str)) = G3 at hu hT4 hrs4 s12
        refine ⟨T0, _, _, rfl, rfl, hT4, by rw [List.length_map]; exact line_lt (by omega), ?_⟩
        have s13 : Same H7 (upd G3 T0 (.lst ((rs.map fun r => V.ref r.1) ++ [.ref u]))) := same_put s12 fT
        have hT5 : (upd G3 T0 (.lst ((rs.map fun r => V.ref r.1) ++ [.ref u]))) T0 = some (.lst ((rs ++ [(u, l)]).map fun r => V.ref r.1)) := by rw [upd_same, List.map_append]; rfl
        have hrs5 : ∀ r ∈ rs ++ [(u, l)], (upd G3 T0 (.lst ((rs.map fun r => V.ref r.1) ++ [.ref u]))) r.1 = some (.tup (r.2.map V.str)) := fun r hr => by
          have h : G3 r.1 = some (.tup (r.2.map V.str)) := by
            rcases List.mem_append.mp hr with h | h
            · exact hrs4 r h
            · rw [List.mem_singleton.mp h]
              exact hu
          have nr : r.1 ≠ T0 := fun z => by
            rw [z, hT4] at h
            cases h
          rw [upd_ne nr]
          exact h
        generalize upd G3 T0 (.lst ((rs.map fun r => V.ref r.1) ++ [.ref u])) = G4 at s13 hT5 hrs5
        refine ⟨by show 0 ≤ sizeLine; decide, fun L1 fL1 => ?_⟩
        have s1' := same_new (o := .lst []) fL1
        refine ⟨m - 2 ^ k, by omega, m - 2 ^ k, L1, rs ++ [(u, l)], [], some (.int (k : Int)), v8, rfl, ?_, s13.trans s1', ⟨s1' _ _ hT5, fun r hr => s1' _ _ (hrs5 r hr)⟩, upd_same, s13.free fL1, fun z => ?_, ?_⟩
        · rw [← e6]
          rfl
        · rw [z, hT5] at fL1
          cases fL1
        · rw [List.map_append]
          rw [hW] at ef q
          exact dn.out hk hb ef q pl1 pwl
      · refine ⟨m - 2 ^ k, by omega, m - 2 ^ k, L0, rs, ys ++ [xs.getD k ""], some (.int (k : Int)), v8, rfl, ?_, s10, ⟨hT2, hrs2⟩, hL2, fL7, nLT, ?_⟩
        · rw [← e6]
          rfl
        · rw [hW] at ef q
          exact dn.go hk hb ef q
end
end K58
set_option Elab.async false
set_option linter.all false
set_option maxRecDepth 100000
set_option maxHeartbeats 4000000
/-! SD: small data (short texts, ints below a million and a bit, lists and tuples of such): what repr and == ask of it. -/
namespace SD
open PySem PySem.Spec PyProof.Rows L2
/-- small: its weight at most n, its depth at most k -/
structure Sm (n k : Nat) (d : PyData) : Prop where
  sh : d.showable = true
  nd : d.hasDict = false
  dp : d.depth ≤ k
  ls : d.leavesShort 13 = true
  wt : d.weight ≤ n
  cl : d.canLay0 = true
structure SmA (n k : Nat) (ds : List PyData) : Prop where
  sh : PyData.showableAll ds = true
  nd : PyData.hasDictAll ds = false
  dp : PyData.depthAll ds ≤ k
  ls : PyData.leavesShortAll 13 ds = true
  wt : PyData.weightAll ds ≤ n
  cl : PyData.canLayAll0 ds = true
theorem Sm.mono {n n' k k' : Nat} {d : PyData} (h : Sm n k d) (hn : n ≤ n') (hk : k ≤ k') : Sm n' k' d := ⟨h.sh, h.nd, Nat.le_trans h.dp hk, h.ls, Nat.le_trans h.wt hn, h.cl⟩
theorem SmA.mono {n n' k k' : Nat} {ds : List PyData} (h : SmA n k ds) (hn : n ≤ n') (hk : k ≤ k') : SmA n' k' ds := ⟨h.sh, h.nd, Nat.le_trans h.dp hk, h.ls, Nat.le_trans h.wt hn, h.cl⟩
theorem Sm.int {i : Int} (h : i.natAbs < 2 ^ 20) : Sm 20 0 (.int i) := by
  have h1 : i.natAbs.log2 < 20 := by
    by_cases z : i.natAbs = 0
    · rw [z]; decide
    · exact (Nat.log2_lt z).mpr h
  refine ⟨by simp only [PyData.showable]; exact decide_eq_true (by omega), by simp only [PyData.hasDict], by simp only [PyData.depth]; omega, ?_, ?_, by simp only [PyData.canLay0]⟩
  · simp only [PyData.leavesShort]
    exact decide_eq_true (PyData.shown_int_le (Nat.lt_of_lt_of_le h (by decide)))
  · simp only [PyData.weight]
    split <;> omega
theorem Sm.str {x : Str} {n : Nat} (h : PyData.strOk x = true) (hn : x.length ≤ n) : Sm n 0 (.str x) := by
  have hn' : x.cps.size ≤ n := hn
  have hc : x.cps.toList.all (fun c => decide (c < 16 ^ 8)) = true := by
    unfold PyData.strOk at h
    rw [← Array.all_toList, List.all_eq_true] at h
    rw [List.all_eq_true]
    intro c hc
    have := of_decide_eq_true (h c hc)
    exact decide_eq_true (by omega)
  exact ⟨by simp only [PyData.showable], by simp only [PyData.hasDict], by simp only [PyData.depth]; omega, by simp only [PyData.leavesShort]; exact hc, by simp only [PyData.weight]; exact hn', by simp only [PyData.canLay0]; exact h⟩
theorem SmA.nil {k : Nat} : SmA 0 k [] := ⟨by simp only [PyData.showableAll], by simp only [PyData.hasDictAll], by simp only [PyData.depthAll]; omega, by simp only [PyData.leavesShortAll], by simp only [PyData.weightAll]; omega, by simp only [PyData.canLayAll0]⟩
theorem SmA.cons {n m k : Nat} {d : PyData} {ds : List PyData} (a : Sm n k d) (b : SmA m k ds) : SmA (n + 1 + m) k (d :: ds) := by
  refine ⟨by simp only [PyData.showableAll, a.sh, b.sh, Bool.and_self], by simp only [PyData.hasDictAll, a.nd, b.nd, Bool.or_self], ?_, by simp only [PyData.leavesShortAll, a.ls, b.ls, Bool.and_self], ?_, by simp only [PyData.canLayAll0, a.cl, b.cl, Bool.and_self]⟩
  · simp only [PyData.depthAll]
    have := a.dp
    have := b.dp
    omega
  · simp only [PyData.weightAll]
    have := a.wt
    have := b.wt
    omega
theorem SmA.map {α : Type} {n k : Nat} {g : α → PyData} : ∀ {xs : List α}, (∀ x ∈ xs, Sm n k (g x)) → SmA ((n + 1) * xs.length) k (xs.map g)
  | [], _ => SmA.nil.mono (Nat.zero_le _) (Nat.le_refl _)
  | x :: xs, h => by
    refine (SmA.cons (h x List.mem_cons_self) (SmA.map fun y hy => h y (List.mem_cons_of_mem _ hy))).mono ?_ (Nat.le_refl _)
    rw [List.length_cons, Nat.mul_add]
    omega
theorem Sm.lst {n k : Nat} {ds : List PyData} (a : SmA n k ds) : Sm n (k + 1) (.list ds) :=
  ⟨by simp only [PyData.showable]; exact a.sh, by simp only [PyData.hasDict]; exact a.nd, by simp only [PyData.depth]; have := a.dp; omega, by simp only [PyData.leavesShort]; exact a.ls, by simp only [PyData.weight]; exact a.wt, by simp only [PyData.canLay0]; exact a.cl⟩
theorem Sm.tup {n k : Nat} {ds : List PyData} (a : SmA n k ds) : Sm n (k + 1) (.tuple ds) :=
  ⟨by simp only [PyData.showable]; exact a.sh, by simp only [PyData.hasDict]; exact a.nd, by simp only [PyData.depth]; have := a.dp; omega, by simp only [PyData.leavesShort]; exact a.ls, by simp only [PyData.weight]; exact a.wt, by simp only [PyData.canLay0]; exact a.cl⟩
theorem Sm.shown {n k : Nat} {d : PyData} (a : Sm n k d) (h : 15 * n + 13 ≤ sizeLine) : d.shown.length ≤ sizeLine := by
  have := PyData.shown_le 13 (by decide) d a.ls
  have := a.wt
  omega
theorem Sm.shaped {n k : Nat} {d : PyData} (a : Sm n k d) (h : k ≤ 64) : SeqAt.shaped d = true := by
  simp only [SeqAt.shaped, a.cl, Bool.true_and]
  exact decide_eq_true (Nat.le_trans a.dp h)
theorem Sm.same {n k : Nat} {d : PyData} (a : Sm n k d) : PyData.eqv d d = true := PySem.SeqAt.eqv_refl d a.cl
theorem Sm.four {n k : Nat} {d : PyData} (a : Sm n k d) (hn : 15 * n + 13 ≤ sizeLine) (hk : k ≤ 60) : d.showable = true ∧ d.hasDict = false ∧ d.depth ≤ 60 ∧ d.shown.length ≤ sizeLine :=
  ⟨a.sh, a.nd, Nat.le_trans a.dp hk, a.shown hn⟩
end SD
set_option Elab.async false
set_option linter.all false
set_option maxRecDepth 100000
set_option maxHeartbeats 4000000
namespace K58
open PySem PySem.Spec PyProof.Rows L2
open C8 (Cal Mak Met pe_c pe_mk pe_mt pe_mt0)
open KM (pr Sz)
open SX (S)
theorem TL.app {H : Hp} {l : Addr} {rows : List Ro} (h : TL H l rows) (r : Ro) (h1 : H r.a = some (.tup [.str r.p, .str r.t, .ref r.s])) (h2 : H r.s = some (tupP (pr r.v))) : TL (upd H l (.lst ((rows.map fun r => V.ref r.a) ++ [.ref r.a]))) l (rows ++ [r]) := by
  refine ⟨by rw [upd_same, List.map_append]; rfl, fun y hy => ?_⟩
  rcases List.mem_append.mp hy with z | z
  · obtain ⟨g1, g2⟩ := h.2 y z
    exact ⟨by rw [upd_ne fun z => by rw [z, h.1] at g1; cases g1]; exact g1, by rw [upd_ne fun z => by rw [z, h.1] at g2; cases g2]; exact g2⟩
  · cases List.mem_singleton.mp z
    exact ⟨by rw [upd_ne fun z => by rw [z, h.1] at h1; cases h1]; exact h1, by rw [upd_ne fun z => by rw [z, h.1] at h2; cases h2]; exact h2⟩
/-- hand-overs as data -/
def keyD (k : Str × Str × Rat) : PyData := .tuple [.str k.1, .str k.2.1, DQ.pD (pr k.2.2)]
theorem TL.dp {K : PySem.W.Frag} {H : Hp} {l : Addr} {rows : List Ro} (h : TL H l rows) : Dp K H (.ref l) (.list ((rows.map Ro.key).map keyD)) := by
  refine Dp.lst (SqL.of h.1) ?_
  have h2 := h.2
  clear h
  induction rows with
  | nil => exact .nil
  | cons r rows ih =>
    obtain ⟨g1, g2⟩ := h2 r List.mem_cons_self
    exact .cons (Dp.tup (SqT.of g1) (.cons (.str _) (.cons (.str _) (.cons (DQ.dp_pair g2) .nil)))) (ih fun y hy => h2 y (List.mem_cons_of_mem _ hy))
theorem strOk_nm {x : Str} (h : Nmd x) : PyData.strOk x = true := by
  obtain ⟨l, rfl, ok⟩ := h
  unfold PyData.strOk
  rw [← Array.all_toList, List.all_eq_true]
  intro c hc
  have := ok.2.2 c hc
  exact decide_eq_true (by omega)
theorem len_nm {x : Str} (h : Nmd x) : x.length ≤ 8 := by
  obtain ⟨l, rfl, ok⟩ := h
  rw [SX.S_len]
  exact ok.2.1
theorem keyD_sm {k : Str × Str × Rat} (h1 : Nmd k.1) (h2 : Nmd k.2.1) (hz : Sz 20 k.2.2) : SD.Sm 100 2 (keyD k) := by
  have i1 : SD.Sm 20 0 (.int (pr k.2.2).1) := SD.Sm.int hz.1
  have i2 : SD.Sm 20 0 (.int (pr k.2.2).2) := SD.Sm.int (by have := hz.2; show ((k.2.2.den : Int)).natAbs < 2 ^ 20; omega)
  have t : SD.Sm 60 1 (DQ.pD (pr k.2.2)) := (SD.Sm.tup (SD.SmA.cons i1 (SD.SmA.cons i2 SD.SmA.nil))).mono (by decide) (by decide)
  have s1 : SD.Sm 8 1 (.str k.1) := (SD.Sm.str (strOk_nm h1) (len_nm h1)).mono (by decide) (by decide)
  have s2 : SD.Sm 8 1 (.str k.2.1) := (SD.Sm.str (strOk_nm h2) (len_nm h2)).mono (by decide) (by decide)
  exact (SD.Sm.tup (SD.SmA.cons s1 (SD.SmA.cons s2 (SD.SmA.cons t SD.SmA.nil)))).mono (by decide) (by decide)
theorem keys_sm {ks : List (Str × Str × Rat)} (h : ∀ k ∈ ks, Nmd k.1 ∧ Nmd k.2.1 ∧ Sz 20 k.2.2) : SD.Sm (101 * ks.length) 3 (.list (ks.map keyD)) := SD.Sm.lst (SD.SmA.map fun k hk => keyD_sm (h k hk).1 (h k hk).2.1 (h k hk).2.2)
section
variable {P : Program} {w : World} {K : PySem.W.Frag} {mg : Str → Option Value} {base : Heap} {f C : Addr} {fd : FuncData}
def spHd (C : Addr) : Sp := fun vs H Q _ => ∃ (l : Addr) (rows : List Ro), vs = [.ref l] ∧ HL C H l rows ∧ rows.length ≤ 100 ∧ ∀ (o : Addr) (H' : Hp) (rs : List Ro), Same H H' → H o = none → TL H' o rs → rs.map Ro.key = rows.map Ro.key → Q (.ref o) H'
theorem ok_hd (F : Dn K d_l_handed f fd) (bl : Bl mg) (bstr : mg "str" = none) (btup : mg "tuple" = none) (cP : Cal P w K mg base 1 "_law_pair" (spPair C) []) : FnOk P w K mg base CX0 2 f fd ["_law_found"] (spHd C) := by
  refine F.ok sc_l_handed (fun vs H Q E h => ?_) (fun cdv A outer s H vs Q E hr h => ?_)
  · obtain ⟨l, rows, rfl, _⟩ := h
    rfl
  · obtain ⟨l, rows, rfl, hl, ll, hQ⟩ := h
    refine ⟨_, PSs.nox (pss_cons (ps_if (pt_not (pt_val (pe_callB call_isi rfl bl.isi boot_isinstance (pa_cons (pv 0) (pa_cons (pe_bltn (v := .ty "list") rfl bl.list boot_list rfl) pa_nil))))) pss_never pss_nil)
      (pss_cons (ps_set (i := 1) sc_l_handed.nd rfl (.inl rfl) (pe_lst pa_nil))
      (pss_cons (ps_for PassesOwn.never rfl (pi_list (pv 0)) (pg_name (i := 2) sc_l_handed.nd rfl (.inl rfl))
        (pss_cons (ps_if (PW.pt (pw_or (pt_not (pt_val (pe_callB call_isi rfl bl.isi boot_isinstance (pa_cons (pv 2) (pa_cons (pe_bltn (v := .ty "tuple") rfl btup boot_tuple rfl) pa_nil)))))
            (pw_or (pt_cmpR op_ne (pe_callB call_len_seq rfl bl.len boot_len (pa_cons (pv 2) pa_nil)) pe_int (nomark _)) (pw_or1 (pt_cmpR op_isN1 (pe_c cP hr (by decide) rfl (pa_cons (pe_ix ix_tup (pv 2) pe_int (fun _ _ => rfl)) pa_nil)) pe_non (nomark _)))))) pss_never pss_nil)
        (pss_cons (ps_if (PW.pt (pw_or (pt_not (pt_val (pe_callB call_isi rfl bl.isi boot_isinstance (pa_cons (pe_ix ix_tup (pv 2) pe_int (fun _ _ => rfl)) (pa_cons (pe_bltn (v := .ty "str") rfl bstr boot_str rfl) pa_nil)))))
            (pw_or1 (pt_not (pt_val (pe_callB call_isi rfl bl.isi boot_isinstance (pa_cons (pe_ix ix_tup (pv 2) pe_int (fun _ _ => rfl)) (pa_cons (pe_bltn (v := .ty "str") rfl bstr boot_str rfl) pa_nil)))))))) pss_never pss_nil)
        (pss_one (ps_expr (pe_bm PySem.F.plainAttrs_list PySem.F.slot_list_append PySem.F.type_list_append mt_append (pv 1) (pa_cons (pe_tup (pa_cons (pe_ix ix_tup (pv 2) pe_int (fun _ _ => rfl)) (pa_cons (pe_ix ix_tup (pv 2) pe_int (fun _ _ => rfl)) (pa_cons (pe_c cP hr (by decide) rfl (pa_cons (pe_ix ix_tup (pv 2) pe_int (fun _ _ => rfl)) pa_nil)) pa_nil)))) pa_nil)))))))
      (pss_one (ps_ret (pv 1)))))), ?_⟩
    refine ⟨_, rfl, _, _, _, _, true, rfl, ClsV.ty _, TyX.base (TyOf.lst hl.1), kit_ty (by decide +kernel), true, rfl, iteF ?_⟩
    refine ⟨by show 0 ≤ sizeLine; decide, fun o fo => ?_⟩
    have so := same_new (o := .lst []) fo
    have ho1 : (upd H o (.lst [])) o = some (.lst []) := upd_same
    generalize upd H o (.lst []) = H1 at so ho1
    have hl1 := hl.same so
    refine ⟨_, rfl, l, rfl, ⟨_, SqL.of hl1.1⟩, for_list (K := K) (xs := rows.map fun r => V.ref r.a) (fun i σ H' => ∃ (rs : List Ro) (v2 : Option V), σ = [some (.ref l), some (.ref o), v2] ∧ Same H H' ∧ TL H' o rs ∧ rs.map Ro.key = (rows.take i).map Ro.key)
      ⟨[], none, rfl, so, ⟨ho1, fun r hr => nomatch hr⟩, rfl⟩ (fun i σ H' _ z => by obtain ⟨_, _, _, s, _⟩ := z; exact SqL.of (s _ _ hl.1)) ?_ ?_⟩
    · rintro i v σ H2 hi ⟨rs, v2, rfl, s2, T2, ek⟩
      rw [List.getElem?_map] at hi
      obtain ⟨r, hr0, rfl⟩ := Option.map_eq_some_iff.mp hi
      have hrm := List.mem_of_getElem? hr0
      have hil : i < rows.length := (List.getElem?_eq_some_iff.mp hr0).1
      obtain ⟨h1, h2⟩ := hl.2 r hrm
      have h12 := s2 _ _ h1
      have at_0 : ∀ {H' : Hp}, Same H2 H' → SqT K H' r.a [.str r.p, .str r.t, .ref r.s] := fun sm => SqT.of (sm _ _ h12)
      refine ⟨_, rfl, _, _, _, _, true, rfl, ClsV.ty _, TyX.base (TyOf.tup h12), kit_ty (by decide +kernel), true, rfl, iteF ?_⟩
      refine ⟨_, rfl, r.a, _, rfl, .inr (SqT.of h12), rfl, _, rfl, iteF ?_⟩
      refine ⟨_, rfl, r.a, _, _, _, rfl, rfl, SqT.of h12, atI_nat (j := 2) rfl, r.s, _, rfl, h2.keep s2, fun p3 H3 s3 fp3 hp3 => ⟨rfl, _, rfl, iteF ?_⟩⟩
      refine ⟨_, rfl, r.a, _, _, _, rfl, rfl, at_0 s3, atI_nat (j := 0) rfl, _, _, _, _, true, rfl, ClsV.ty _, TyX.base (TyOf.str _), kit_ty (by decide +kernel), true, rfl, iteF ?_⟩
      refine ⟨_, rfl, r.a, _, _, _, rfl, rfl, at_0 s3, atI_nat (j := 1) rfl, _, _, _, _, true, rfl, ClsV.ty _, TyX.base (TyOf.str _), kit_ty (by decide +kernel), true, rfl, iteF ?_⟩
      refine ⟨_, rfl, .inl ⟨rfl, _, SqL.of (s3 _ _ T2.1)⟩, _, rfl, r.a, _, _, _, rfl, rfl, at_0 s3, atI_nat (j := 0) rfl, _, rfl, r.a, _, _, _, rfl, rfl, at_0 s3, atI_nat (j := 1) rfl, _, rfl, r.a, _, _, _, rfl, rfl, at_0 s3, atI_nat (j := 2) rfl, r.s, _, rfl, (h2.keep s2).keep s3, fun p4 H4 s4 fp4 hp4 => ?_⟩
      refine ⟨by show 3 ≤ sizeLine; decide, fun u fu => ?_⟩
      have su := same_new (o := .tup [.str r.p, .str r.t, .ref p4]) fu
      have T5 := ((T2.same s3).same s4).same su
      have hp5 := su _ _ hp4
      have hu5 : (upd H4 u (.tup [.str r.p, .str r.t, .ref p4])) u = some (.tup [.str r.p, .str r.t, .ref p4]) := upd_same
      have s5 := s2.trans (s3.trans (s4.trans su))
      generalize upd H4 u (.tup [.str r.p, .str r.t, .ref p4]) = H5 at T5 hp5 hu5 s5
      have lrs : rs.length ≤ 100 := by
        have := congrArg List.length ek
        rw [List.length_map, List.length_map, List.length_take] at this
        omega
      refine ⟨o, _, _, rfl, rfl, T5.1, by rw [List.length_map]; exact line_lt (by omega), rs ++ [⟨u, r.p, r.t, p4, r.v⟩], _, rfl, fun b o' e => by rw [upd_ne (ne_of_none e fo)]; exact s5 _ _ e, T5.app ⟨u, r.p, r.t, p4, r.v⟩ hu5 hp5, ?_⟩
      rw [take_one hr0, List.map_append, List.map_append, ek]
      rfl
    · rintro σ H2 ⟨rs, v2, rfl, s2, T2, ek⟩
      rw [List.length_map, List.take_length] at ek
      exact ⟨_, rfl, hQ o H2 rs s2 fo T2 ek⟩
end
end K58
set_option Elab.async false
set_option linter.all false
set_option maxRecDepth 100000
set_option maxHeartbeats 4000000
namespace K58
open PySem PySem.Spec PyProof.Rows L2
open KM (pr Sz)
/-- a hand-over: the payer, the taker, the share -/
abbrev Hk := Str × Str × Rat
/-- credits behind one hand-over -/
def mv1 (c : Str → Rat) (k : Hk) : Str → Rat := setc (setc c k.1 (c k.1 + k.2.2)) k.2.1 ((setc c k.1 (c k.1 + k.2.2)) k.2.1 + -k.2.2)
def runK (c : Str → Rat) (ks : List Hk) : Str → Rat := ks.foldl mv1 c
theorem runK_snoc (c : Str → Rat) (ks : List Hk) (k : Hk) : runK c (ks ++ [k]) = mv1 (runK c ks) k := by
  unfold runK
  rw [List.foldl_append]
  rfl
theorem runK_app (c : Str → Rat) (ks js : List Hk) : runK c (ks ++ js) = runK (runK c ks) js := by
  unfold runK
  rw [List.foldl_append]
def LedK : (Str → Rat) → List Hk → Prop
  | _, [] => True
  | c, k :: ks => (0 < k.2.2 ∧ c k.1 < 0 ∧ 0 < c k.2.1) ∧ LedK (mv1 c k) ks
theorem LedK.snoc : ∀ {ks : List Hk} {c : Str → Rat} {k : Hk}, LedK c ks → 0 < k.2.2 → runK c ks k.1 < 0 → 0 < runK c ks k.2.1 → LedK c (ks ++ [k])
  | [], c, k, _, a, b, d => ⟨⟨a, b, d⟩, True.intro⟩
  | j :: ks, c, k, h, a, b, d => ⟨h.1, LedK.snoc (ks := ks) h.2 a b d⟩
theorem LedK.app : ∀ {ks : List Hk} {c : Str → Rat} {js : List Hk}, LedK c ks → LedK (runK c ks) js → LedK c (ks ++ js)
  | [], c, js, _, g => g
  | k :: ks, c, js, h, g => ⟨h.1, LedK.app (ks := ks) h.2 g⟩
theorem mv1_ne {c : Str → Rat} {k : Hk} {z : Str} (h1 : z ≠ k.1) (h2 : z ≠ k.2.1) : mv1 c k z = c z := by
  unfold mv1 setc
  rw [if_neg h2, if_neg h1]
theorem mv1_p {c : Str → Rat} {k : Hk} (h : k.1 ≠ k.2.1) : mv1 c k k.1 = c k.1 + k.2.2 := by
  unfold mv1 setc
  rw [if_neg h, if_pos rfl]
theorem mv1_t {c : Str → Rat} {k : Hk} (h : k.1 ≠ k.2.1) : mv1 c k k.2.1 = c k.2.1 - k.2.2 := by
  unfold mv1 setc
  rw [if_pos rfl, if_neg fun z => h z.symm, Rat.sub_eq_add_neg]
/-- the same names, other credits elsewhere -/
theorem run_on {l : List Str} : ∀ (ks : List Hk) (c e : Str → Rat), (∀ k ∈ ks, k.1 ∈ l ∧ k.2.1 ∈ l) → (∀ z ∈ l, e z = c z) → LedK c ks → LedK e ks ∧ (∀ z ∈ l, runK e ks z = runK c ks z) ∧ ∀ z, z ∉ l → runK e ks z = e z
  | [], c, e, _, h, _ => ⟨True.intro, h, fun _ _ => rfl⟩
  | k :: ks, c, e, hm, h, hl => by
    obtain ⟨m1, m2⟩ := hm k List.mem_cons_self
    have same : ∀ z ∈ l, mv1 e k z = mv1 c k z := fun z hz => by
      unfold mv1 setc
      rw [h z hz, h k.1 m1, h k.2.1 m2]
    obtain ⟨a, b, d⟩ := run_on ks (mv1 c k) (mv1 e k) (fun j hj => hm j (List.mem_cons_of_mem _ hj)) same hl.2
    refine ⟨⟨⟨hl.1.1, by rw [h k.1 m1]; exact hl.1.2.1, by rw [h k.2.1 m2]; exact hl.1.2.2⟩, a⟩, b, fun z hz => ?_⟩
    have := d z hz
    show runK (mv1 e k) ks z = e z
    rw [this]
    exact mv1_ne (fun q => hz (q ▸ m1)) (fun q => hz (q ▸ m2))
/-- who is owed, who owes -/
def pos (L : List Str) (c : Str → Rat) : List Str := L.filter fun x => decide (0 < c x)
def neg (L : List Str) (c : Str → Rat) : List Str := L.filter fun x => decide (c x < 0)
def nzs (L : List Str) (c : Str → Rat) : List Str := L.filter fun x => decide (c x ≠ 0)
theorem nz_split (c : Str → Rat) : ∀ L : List Str, (nzs L c).length = (pos L c).length + (neg L c).length
  | [] => rfl
  | x :: L => by
    have ih := nz_split c L
    unfold nzs pos neg at ih ⊢
    by_cases h1 : 0 < c x
    · have h2 : ¬ c x < 0 := by grind
      have h3 : c x ≠ 0 := by grind
      rw [List.filter_cons_of_pos (p := fun x => decide (0 < c x)) (decide_eq_true h1), List.filter_cons_of_neg (p := fun x => decide (c x < 0)) (by simp [h2]), List.filter_cons_of_pos (p := fun x => decide (c x ≠ 0)) (decide_eq_true h3), List.length_cons, List.length_cons]
      omega
    · by_cases h2 : c x < 0
      · have h3 : c x ≠ 0 := by grind
        rw [List.filter_cons_of_neg (p := fun x => decide (0 < c x)) (by simp [h1]), List.filter_cons_of_pos (p := fun x => decide (c x < 0)) (decide_eq_true h2), List.filter_cons_of_pos (p := fun x => decide (c x ≠ 0)) (decide_eq_true h3), List.length_cons, List.length_cons]
        omega
      · have h3 : c x = 0 := by grind
        rw [List.filter_cons_of_neg (p := fun x => decide (0 < c x)) (by simp [h1]), List.filter_cons_of_neg (p := fun x => decide (c x < 0)) (by simp [h2]), List.filter_cons_of_neg (p := fun x => decide (c x ≠ 0)) (by simp [h3])]
        exact ih
theorem sum_nonneg {c : Str → Rat} : ∀ {L : List Str}, (∀ x ∈ L, 0 ≤ c x) → 0 ≤ sumR (L.map c) ∧ (sumR (L.map c) = 0 → ∀ x ∈ L, c x = 0)
  | [], _ => ⟨by show (0 : Rat) ≤ 0; grind, fun _ x h => nomatch h⟩
  | x :: L, h => by
    obtain ⟨a, b⟩ := sum_nonneg (L := L) fun y hy => h y (List.mem_cons_of_mem _ hy)
    have hx := h x List.mem_cons_self
    rw [List.map_cons, sumR_cons]
    refine ⟨by grind, fun z y hy => ?_⟩
    have e1 : c x = 0 := by grind
    have e2 : sumR (L.map c) = 0 := by grind
    rcases List.mem_cons.mp hy with rfl | hy
    · exact e1
    · exact b e2 y hy
theorem sumR_neg (c : Str → Rat) : ∀ L : List Str, sumR (L.map fun x => -(c x)) = -(sumR (L.map c))
  | [] => by show (0 : Rat) = -0; grind
  | x :: L => by
    rw [List.map_cons, List.map_cons, sumR_cons, sumR_cons, sumR_neg c L]
    grind
/-- nobody is owed: all is nought -/
theorem all_zero {L : List Str} {c : Str → Rat} (s : sumR (L.map c) = 0) (h : pos L c = []) : ∀ x ∈ L, c x = 0 := by
  have le : ∀ x ∈ L, 0 ≤ -(c x) := fun x hx => by
    have := List.filter_eq_nil_iff.mp h x hx
    simp only [decide_eq_true_eq] at this
    grind
  obtain ⟨_, b⟩ := sum_nonneg (c := fun x => -(c x)) le
  intro x hx
  have := b (by rw [sumR_neg, s]; grind) x hx
  grind
theorem neg_some {L : List Str} {c : Str → Rat} (s : sumR (L.map c) = 0) (h : pos L c ≠ []) : neg L c ≠ [] := fun z => by
  have le : ∀ x ∈ L, 0 ≤ c x := fun x hx => by
    have := List.filter_eq_nil_iff.mp z x hx
    simp only [decide_eq_true_eq] at this
    grind
  obtain ⟨_, b⟩ := sum_nonneg le
  refine h (List.filter_eq_nil_iff.mpr fun x hx => ?_)
  rw [b s x hx]
  decide
/-- how a lot's settling stands: o what was, c what is, k hand-overs so far -/
structure Go (L : List Str) (o c : Str → Rat) (k : Nat) : Prop where
  sum : sumR (L.map c) = 0
  mid : ∃ q, (∀ z ∈ L, z ≠ q → c z = 0 ∨ c z = o z) ∧ (c q = 0 ∨ c q = o q ∨ (pos L c).head? = some q ∨ (neg L c).head? = some q)
  cnt : (nzs L c = [] → k + 1 = L.length) ∧ (nzs L c ≠ [] → k + (nzs L c).length = L.length)
theorem Go.start {L : List Str} {o : Str → Rat} (s : sumR (L.map o) = 0) (h : ∀ x ∈ L, o x ≠ 0) (ne : L ≠ []) : Go L o o 0 := by
  have e : nzs L o = L := List.filter_eq_self.mpr fun x hx => decide_eq_true (h x hx)
  refine ⟨s, ⟨"", fun z _ _ => .inr rfl, .inr (.inl rfl)⟩, fun z => absurd (e.symm.trans z) ne, fun _ => by rw [e]; omega⟩
theorem head_mem {L : List Str} {p : Str → Bool} {q : Str} (h : (L.filter p).head? = some q) : q ∈ L ∧ p q = true := by
  have := List.mem_of_head? h
  exact List.mem_filter.mp this
theorem filt_head {p p' : Str → Bool} {t : Str} : ∀ {L P : List Str}, L.Nodup → L.filter p = t :: P → p' t = true → (∀ z ∈ L, z ≠ t → p' z = p z) → L.filter p' = t :: P := fun {L P} nd h ht hz => by
  have : L.filter p' = L.filter p := by
    refine List.filter_congr fun z hzL => ?_
    by_cases e : z = t
    · subst e
      rw [ht]
      have : z ∈ L.filter p := by rw [h]; exact List.mem_cons_self
      exact (List.mem_filter.mp this).2.symm
    · exact hz z hzL e
  rw [this, h]
theorem filt_drop {p p' : Str → Bool} {t : Str} : ∀ {L P : List Str}, L.Nodup → L.filter p = t :: P → p' t = false → (∀ z ∈ L, z ≠ t → p' z = p z) → L.filter p' = P := fun {L P} nd h ht hz => by
  have e1 : L.filter p' = (L.filter p).filter fun z => decide (z ≠ t) := by
    rw [List.filter_filter]
    refine List.filter_congr fun z hzL => ?_
    by_cases e : z = t
    · subst e
      rw [ht]
      simp
    · rw [hz z hzL e]
      simp [e]
  have ndp : (t :: P).Nodup := by rw [← h]; exact nd.sublist List.filter_sublist
  rw [e1, h, List.filter_cons_of_neg (by simp), List.filter_eq_self]
  intro z hzP
  refine decide_eq_true fun e => ?_
  subst e
  exact (List.nodup_cons.mp ndp).1 hzP
/-- the sum stays -/
theorem sum_mv {L : List Str} {c : Str → Rat} {k : Hk} (nd : L.Nodup) (m1 : k.1 ∈ L) (m2 : k.2.1 ∈ L) (ne : k.1 ≠ k.2.1) : sumR (L.map (mv1 c k)) = sumR (L.map c) := by
  have one : ∀ (M : List Str) (e : Str → Rat) (x : Str) (v : Rat), M.Nodup → sumR (M.map (setc e x v)) = sumR (M.map e) + if x ∈ M then v - e x else 0 := fun M e x v => by
    induction M with
    | nil => intro _; show (0 : Rat) = 0 + 0; grind
    | cons y M ih =>
      intro hM
      obtain ⟨h1, h2⟩ := List.nodup_cons.mp hM
      rw [List.map_cons, List.map_cons, sumR_cons, sumR_cons, ih h2]
      by_cases e1 : y = x
      · subst e1
        have : setc e y v y = v := if_pos rfl
        rw [this, if_neg h1, if_pos List.mem_cons_self]
        grind
      · have : setc e x v y = e y := if_neg e1
        rw [this]
        by_cases e2 : x ∈ M
        · rw [if_pos e2, if_pos (List.mem_cons_of_mem _ e2)]
          grind
        · rw [if_neg e2, if_neg (fun z => (List.mem_cons.mp z).elim (fun q => e1 q.symm) e2)]
          grind
  unfold mv1
  rw [one _ _ _ _ nd, one _ _ _ _ nd, if_pos m1, if_pos m2]
  grind
/-- one hand-over more -/
theorem Go.step {L : List Str} {o c : Str → Rat} {k : Nat} (h : Go L o c k) (nd : L.Nodup) (least : ∀ g : Str → Bool, sumR ((L.filter g).map o) = 0 → L.filter g = [] ∨ L.filter g = L) {t p : Str} {P N : List Str} (hP : pos L c = t :: P) (hN : neg L c = p :: N) :
    Go L o (mv1 c (p, t, mn (c t) (-(c p)))) (k + 1) ∧ 0 < mn (c t) (-(c p)) := by
  have mt : t ∈ L ∧ decide (0 < c t) = true := head_mem (p := fun x => decide (0 < c x)) (by show (pos L c).head? = _; rw [hP]; rfl)
  have mp : p ∈ L ∧ decide (c p < 0) = true := head_mem (p := fun x => decide (c x < 0)) (by show (neg L c).head? = _; rw [hN]; rfl)
  have ct := of_decide_eq_true mt.2
  have cp := of_decide_eq_true mp.2
  have ne : p ≠ t := fun z => by rw [z] at cp; grind
  obtain ⟨v, hv⟩ : ∃ v, v = mn (c t) (-(c p)) := ⟨_, rfl⟩
  rw [← hv]
  have v0 : 0 < v := by
    rw [hv]
    unfold mn
    split <;> grind
  have ep : mv1 c (p, t, v) p = c p + v := mv1_p (k := (p, t, v)) ne
  have et : mv1 c (p, t, v) t = c t - v := mv1_t (k := (p, t, v)) ne
  have eo : ∀ z, z ≠ p → z ≠ t → mv1 c (p, t, v) z = c z := fun z h1 h2 => mv1_ne (k := (p, t, v)) h1 h2
  have hs : sumR (L.map (mv1 c (p, t, v))) = 0 := by rw [sum_mv (k := (p, t, v)) nd mp.1 mt.1 ne]; exact h.sum
  generalize mv1 c (p, t, v) = e at ep et eo hs
  refine ⟨?_, v0⟩
  obtain ⟨q, m1, m2⟩ := h.mid
  -- all but the two are nought or as they were
  have rest : ∀ z ∈ L, z ≠ p → z ≠ t → e z = 0 ∨ e z = o z := fun z hz n1 n2 => by
    rw [eo z n1 n2]
    by_cases zq : z = q
    · subst zq
      rcases m2 with m2 | m2 | m2 | m2
      · exact .inl m2
      · exact .inr m2
      · rw [hP] at m2
        exact absurd (Option.some.inj m2).symm n2
      · rw [hN] at m2
        exact absurd (Option.some.inj m2).symm n1
    · exact m1 z hz zq
  have nzc : nzs L c ≠ [] := fun z => by
    have : t ∈ nzs L c := List.mem_filter.mpr ⟨mt.1, decide_eq_true (by grind)⟩
    rw [z] at this
    cases this
  have cn := h.cnt.2 nzc
  rw [nz_split c L, hP, hN] at cn
  simp only [List.length_cons] at cn
  have ecz : ∀ z, z ≠ p → z ≠ t → decide (0 < e z) = decide (0 < c z) ∧ decide (e z < 0) = decide (c z < 0) := fun z a b => by rw [eo z a b]; exact ⟨rfl, rfl⟩
  have cpt : decide (0 < c p) = false := decide_eq_false (by grind)
  have ctn : decide (c t < 0) = false := decide_eq_false (by grind)
  have ept : e p ≤ 0 := by rw [ep, hv]; unfold mn; split <;> grind
  have ett : 0 ≤ e t := by rw [et, hv]; unfold mn; split <;> grind
  have eP1 : decide (0 < e p) = false := decide_eq_false (by grind)
  have eT1 : decide (e t < 0) = false := decide_eq_false (by grind)
  by_cases zt : e t = 0
  · -- the taker has all
    have hP' : pos L e = P := filt_drop (p := fun x => decide (0 < c x)) (p' := fun x => decide (0 < e x)) nd hP (decide_eq_false (by rw [zt]; grind)) fun z hz zt' => by
      by_cases zp : z = p
      · subst zp
        show decide (0 < e z) = decide (0 < c z)
        rw [eP1, cpt]
      · exact (ecz z zp zt').1
    by_cases zp : e p = 0
    · have hN' : neg L e = N := filt_drop (p := fun x => decide (c x < 0)) (p' := fun x => decide (e x < 0)) nd hN (decide_eq_false (by rw [zp]; grind)) fun z hz zp' => by
        by_cases zt' : z = t
        · subst zt'
          show decide (e z < 0) = decide (c z < 0)
          rw [eT1, ctn]
        · exact (ecz z zp' zt').2
      have all : ∀ z ∈ L, e z ≠ 0 → e z = o z := fun z hz nz => by
        have n1 : z ≠ p := fun q => nz (q ▸ zp)
        have n2 : z ≠ t := fun q => nz (q ▸ zt)
        exact (rest z hz n1 n2).resolve_left nz
      have so : sumR ((nzs L e).map o) = 0 := by
        have e1 : (nzs L e).map o = (nzs L e).map e := List.map_congr_left fun z hz => by
          obtain ⟨a, b⟩ := List.mem_filter.mp hz
          exact (all z a (of_decide_eq_true b)).symm
        rw [e1]
        have := sum_nz e L
        unfold nzs
        rw [this, hs]
      have emp : nzs L e = [] := by
        rcases least (fun x => decide (e x ≠ 0)) so with q | q
        · exact q
        · have : t ∈ L.filter fun x => decide (e x ≠ 0) := by rw [q]; exact mt.1
          exact absurd zt (of_decide_eq_true (List.mem_filter.mp this).2)
      have l0 : P.length + N.length = 0 := by
        have := nz_split e L
        rw [emp, hP', hN'] at this
        simp at this
        omega
      refine ⟨hs, ⟨p, fun z hz n => ?_, .inl zp⟩, fun _ => by omega, fun n => absurd emp n⟩
      by_cases n2 : z = t
      · exact .inl (n2 ▸ zt)
      · exact rest z hz n n2
    · have hN' : neg L e = p :: N := filt_head (p := fun x => decide (c x < 0)) (p' := fun x => decide (e x < 0)) nd hN (decide_eq_true (by grind)) fun z hz zp' => by
        by_cases zt' : z = t
        · subst zt'
          show decide (e z < 0) = decide (c z < 0)
          rw [eT1, ctn]
        · exact (ecz z zp' zt').2
      have ln := nz_split e L
      rw [hP', hN'] at ln
      simp only [List.length_cons] at ln
      refine ⟨hs, ⟨p, fun z hz n => ?_, .inr (.inr (.inr (by rw [hN']; rfl)))⟩, fun n => by rw [n, List.length_nil] at ln; omega, fun _ => by omega⟩
      by_cases n2 : z = t
      · exact .inl (n2 ▸ zt)
      · exact rest z hz n n2
  · -- the payer has paid all
    have zp : e p = 0 := by
      rw [et, hv] at zt
      rw [ep, hv]
      unfold mn at zt ⊢
      split <;> rename_i hh
      · rw [if_pos hh] at zt
        grind
      · grind
    have hP' : pos L e = t :: P := filt_head (p := fun x => decide (0 < c x)) (p' := fun x => decide (0 < e x)) nd hP (decide_eq_true (by grind)) fun z hz zt' => by
      by_cases zp' : z = p
      · subst zp'
        show decide (0 < e z) = decide (0 < c z)
        rw [eP1, cpt]
      · exact (ecz z zp' zt').1
    have hN' : neg L e = N := filt_drop (p := fun x => decide (c x < 0)) (p' := fun x => decide (e x < 0)) nd hN (decide_eq_false (by rw [zp]; grind)) fun z hz zp' => by
      by_cases zt' : z = t
      · subst zt'
        show decide (e z < 0) = decide (c z < 0)
        rw [eT1, ctn]
      · exact (ecz z zp' zt').2
    have ln := nz_split e L
    rw [hP', hN'] at ln
    simp only [List.length_cons] at ln
    refine ⟨hs, ⟨t, fun z hz n => ?_, .inr (.inr (.inl (by rw [hP']; rfl)))⟩, fun n => by rw [n, List.length_nil] at ln; omega, fun _ => by omega⟩
    by_cases n2 : z = p
    · exact .inl (n2 ▸ zp)
    · exact rest z hz n2 n
/-- credits stay small -/
theorem Go.sz {L : List Str} {o c : Str → Rat} {k : Nat} (h : Go L o c k) (nd : L.Nodup) (ll : L.length ≤ 10) (so : ∀ x ∈ L, Sz 20 (o x)) : ∀ x ∈ L, Sz 300 (c x) := by
  obtain ⟨q, m1, m2⟩ := h.mid
  clear m2
  have small : ∀ x ∈ L, x ≠ q → Sz 20 (c x) := fun x hx n => by
    rcases m1 x hx n with e | e
    · rw [e]
      exact sz0 (by decide)
    · rw [e]
      exact so x hx
  intro x hx
  by_cases e : x = q
  · subst e
    have sp := sum_part c (fun y => decide (y ≠ x)) L
    rw [h.sum] at sp
    have e2 : (L.filter fun y => !decide (y ≠ x)) = [x] := by
      clear sp m1 small so ll h
      induction L with
      | nil => cases hx
      | cons y L ih =>
        obtain ⟨h1, h2⟩ := List.nodup_cons.mp nd
        by_cases z : y = x
        · subst z
          rw [List.filter_cons_of_pos (by simp)]
          congr 1
          refine List.filter_eq_nil_iff.mpr fun a ha => ?_
          have : a ≠ y := fun q => h1 (q ▸ ha)
          simp [this]
        · rw [List.filter_cons_of_neg (by simp [z])]
          exact ih h2 ((List.mem_cons.mp hx).resolve_left fun q => z q.symm)
    rw [e2] at sp
    have s1 : sumR (([x] : List Str).map c) = c x := by show 0 + c x = c x; grind
    rw [s1] at sp
    have b := sz_sum (k := 20) (rs := (L.filter fun y => decide (y ≠ x)).map c) fun r hr => by
      obtain ⟨y, hy, rfl⟩ := List.mem_map.mp hr
      obtain ⟨h1, h2⟩ := List.mem_filter.mp hy
      exact small y h1 (of_decide_eq_true h2)
    have ln : (L.filter fun y => decide (y ≠ x)).length ≤ 10 := Nat.le_trans (List.length_filter_le _ _) ll
    have e3 : c x = -(sumR ((L.filter fun y => decide (y ≠ x)).map c)) := by grind
    rw [e3]
    refine sz_neg (b.mono ?_)
    rw [List.length_map]
    omega
  · exact (small x hx e).mono (by decide)
end K58
set_option Elab.async false
set_option linter.all false
set_option maxRecDepth 100000
set_option maxHeartbeats 4000000
namespace K58
open PySem PySem.Spec PyProof.Rows L2
open C8 (Cal Mak Met pe_c pe_mk pe_mt pe_mt0)
open KM (pr Sz)
theorem cut_last {α : Type} (g : α → V) (L : List α) (x : α) : cutV ((L ++ [x]).map g) (some (-1)) none = [g x] := by
  have e : HT.sIx ((L ++ [x]).map g).length 0 (some (-1)) = L.length := by
    have e0 : HT.sIx ((L ++ [x]).map g).length 0 (some (-1)) = ((-1 : Int) + (((L ++ [x]).map g).length : Int)).toNat := by
      unfold HT.sIx
      dsimp only
      rw [if_pos (by decide)]
    rw [e0, List.length_map, List.length_append, List.length_singleton]
    omega
  unfold cutV
  rw [e, HT.sIx_none, List.map_append, List.drop_left' (by rw [List.length_map])]
  simp
theorem mv_one {L : List Str} {c : Str → Rat} {p t : Str} {v : Rat} (hp : p ∈ L) (ht : t ∈ L) : mvL (L, c) [(p, v), (t, -v)] = (L, mv1 c (p, t, v)) := by
  have a1 : addK L p = L := if_pos hp
  have a2 : addK L t = L := if_pos ht
  have g : ∀ (e : Str → Rat) (x : Str), x ∈ L → get0 L e x = e x := fun e x hx => if_pos hx
  show mv (mv (L, c) (p, v)) (t, -v) = _
  have e1 : mv (L, c) (p, v) = (L, setc c p (c p + v)) := by
    unfold mv
    dsimp only
    rw [a1, g c p hp]
  rw [e1]
  unfold mv
  dsimp only
  rw [a2, g _ t ht]
  rfl
/-- a lot settled -/
structure DoneL (L : List Str) (o : Str → Rat) (ks : List Hk) : Prop where
  led : LedK o ks
  zero : ∀ z ∈ L, runK o ks z = 0
  mem : ∀ k ∈ ks, k.1 ∈ L ∧ k.2.1 ∈ L
  szv : ∀ k ∈ ks, Sz 300 k.2.2
  szr : ∀ j, ∀ z ∈ L, Sz 300 (runK o (ks.take j) z)
  cnt : ks.length + 1 = L.length
section
variable {P : Program} {w : World} {K : PySem.W.Frag} {mg : Str → Option Value} {base : Heap} {f C : Addr} {fd : FuncData}
def spSl (C : Addr) : Sp := fun vs H Q _ => ∃ (d : Addr) (L : List Str) (o : Str → Rat), vs = [.ref d] ∧ SDc C H d L o ∧ L.Nodup ∧ L ≠ [] ∧ L.length ≤ 10 ∧ (∀ x ∈ L, Sz 20 (o x) ∧ o x ≠ 0) ∧ sumR (L.map o) = 0 ∧ (∀ g : Str → Bool, sumR ((L.filter g).map o) = 0 → L.filter g = [] ∨ L.filter g = L) ∧
  ∀ h H' rows, Same H H' → H h = none → HL C H' h rows → DoneL L o (rows.map Ro.key) → Q (.ref h) H'
theorem ok_sl (F : Dn K d_settled_lot f fd) (bl : Bl mg) (M1 : MakS1 P w K mg base C) (mL : Met P w K mg base 4 C "less" (sp2 C (· - ·)) []) (cAN : Cal P w K mg base 4 "above_nought" (spAN C) []) (cTu : Cal P w K mg base 5 "turned" (spTu C) []) (cLe : Cal P w K mg base 5 "lesser" (spLe C) []) (cAf : Cal P w K mg base 6 "after" (spAf C) []) :
    FnOk P w K mg base CX0 7 f fd ["standing"] (spSl C) := by
  refine F.ok sc_settled_lot (fun vs H Q E h => ?_) (fun cdv A outer s H vs Q E hr h => ?_)
  · obtain ⟨d, L, o, rfl, _⟩ := h
    rfl
  · obtain ⟨d, L, o, rfl, Sd, nd, Lne, ll, so, s0, least, hQ⟩ := h
    have hu := hu_of hr
    refine ⟨_, PSs.nox (pss_cons (ps_set (i := 1) sc_settled_lot.nd rfl (.inl rfl) (pe_lst pa_nil))
      (pss_cons (ps_set (i := 2) sc_settled_lot.nd rfl (.inl rfl) (pe_c cAN hr (by decide) rfl (pa_cons (pv 0) pa_nil)))
      (pss_cons (ps_while PassesOwn.never (pt_cmpR op_gt (pe_callB call_len_seq rfl bl.len boot_len (pa_cons (pv 2) pa_nil)) pe_int (nomark _))
        (pss_cons (ps_set (i := 3) sc_settled_lot.nd rfl (.inl rfl) (pe_ix ix_list (pe_c cAN hr (by decide) rfl (pa_cons (pe_c cTu hr (by decide) rfl (pa_cons (pv 0) pa_nil)) pa_nil)) pe_int (fun _ _ => rfl)))
        (pss_cons (ps_set (i := 4) sc_settled_lot.nd rfl (.inl rfl) (pe_c cLe hr (by decide) rfl (pa_cons (pe_dget hu (pv 0) (pe_ix ix_list (pv 2) pe_int (fun _ _ => rfl)) (fun _ _ => rfl)) (pa_cons (pe_mt mL hr (by decide) (pe_mk M1 hr (by decide) rfl (pa_cons pe_int pa_nil)) (pa_cons (pe_dget hu (pv 0) (pv 3) (fun _ _ => rfl)) pa_nil)) pa_nil))))
        (pss_cons (ps_expr (pe_bm PySem.F.plainAttrs_list PySem.F.slot_list_append PySem.F.type_list_append mt_append (pv 1) (pa_cons (pe_tup (pa_cons (pv 3) (pa_cons (pe_ix ix_list (pv 2) pe_int (fun _ _ => rfl)) (pa_cons (pv 4) pa_nil)))) pa_nil)))
        (pss_cons (ps_set (i := 0) sc_settled_lot.nd rfl (.inl rfl) (pe_c cAf hr (by decide) rfl (pa_cons (pv 0) (pa_cons (pe_slice sl_list (pv 1) (po_some (pe_un un_neg pe_int)) po_none) pa_nil))))
        (pss_one (ps_set (i := 2) sc_settled_lot.nd rfl (.inl rfl) (pe_c cAN hr (by decide) rfl (pa_cons (pv 0) pa_nil)))))))))
      (pss_one (ps_ret (pv 1)))))), ?_⟩
    refine ⟨by show 0 ≤ sizeLine; decide, fun h0 fh => ?_⟩
    have sh := same_new (o := .lst []) fh
    have hh : HL C (upd H h0 (.lst [])) h0 [] := ⟨upd_same, fun r hr => nomatch hr⟩
    have Sd1 := Sd.same sh
    generalize upd H h0 (.lst []) = H1 at sh hh Sd1
    have s3900 : ∀ {c : Str → Rat}, (∀ x ∈ L, Sz 300 (c x)) → ∀ x ∈ L, Sz 3900 (c x) := fun h x hx => (h x hx).mono (by decide)
    refine ⟨_, rfl, d, L, o, rfl, Sd1, by omega, fun x hx => ((so x hx).1).mono (by decide), fun ow H2 s2 fo ho => ?_⟩
    refine ⟨fun m σ G => ∃ (d' ow : Addr) (v3 v4 : Option V) (rows : List Ro) (c : Str → Rat), c = runK o (rows.map Ro.key) ∧ m = (nzs L c).length ∧ σ = [some (.ref d'), some (.ref h0), some (.ref ow), v3, v4] ∧ Same H G ∧ SDc C G d' L c ∧ HL C G h0 rows ∧ G ow = some (.lst ((pos L c).map V.str)) ∧ Go L o c rows.length ∧ LedK o (rows.map Ro.key) ∧ (∀ k ∈ rows.map Ro.key, k.1 ∈ L ∧ k.2.1 ∈ L) ∧ (∀ k ∈ rows.map Ro.key, Sz 300 k.2.2) ∧ ∀ j, ∀ z ∈ L, Sz 300 (runK o ((rows.map Ro.key).take j) z),
      ⟨_, d, ow, none, none, [], o, rfl, rfl, rfl, sh.trans s2, Sd1.same s2, hh.same s2, ho, Go.start s0 (fun x hx => (so x hx).2) Lne, True.intro, fun k h => (nomatch h), fun k h => (nomatch h), fun j z hz => by rw [List.map_nil, List.take_nil]; exact (so z hz).1.mono (by decide)⟩, ?_⟩
    rintro m σ G ⟨d', ow, v3, v4, rows, c, ec, rfl, rfl, sG, SdG, hhG, hoG, go, led, mem, szv, szr⟩
    have szc : ∀ x ∈ L, Sz 300 (c x) := go.sz nd ll fun x hx => (so x hx).1
    refine ⟨_, rfl, ow, _, rfl, .inl (SqL.of hoG), _, _, rfl, rfl, _, rfl, ?_⟩
    by_cases hp : pos L c = []
    · refine iteFE (decide_eq_false (by rw [hp]; decide)) ?_
      have z := all_zero go.sum hp
      have nz : nzs L c = [] := List.filter_eq_nil_iff.mpr fun x hx => by rw [z x hx]; simp
      refine ⟨_, rfl, hQ h0 G rows sG fh hhG ⟨led, fun x hx => by rw [← ec]; exact z x hx, mem, szv, szr, ?_⟩⟩
      rw [List.length_map]
      exact go.cnt.1 nz
    have hn := neg_some go.sum hp
    obtain ⟨t, P', hP⟩ : ∃ t P', pos L c = t :: P' := by
      cases e : pos L c with
      | nil => exact absurd e hp
      | cons a b => exact ⟨a, b, rfl⟩
    obtain ⟨p, N', hN⟩ : ∃ p N', neg L c = p :: N' := by
      cases e : neg L c with
      | nil => exact absurd e hn
      | cons a b => exact ⟨a, b, rfl⟩
    have htL : t ∈ L := (List.mem_filter.mp (show t ∈ L.filter _ by show t ∈ pos L c; rw [hP]; exact List.mem_cons_self)).1
    have hpL : p ∈ L := (List.mem_filter.mp (show p ∈ L.filter _ by show p ∈ neg L c; rw [hN]; exact List.mem_cons_self)).1
    refine iteTE (decide_eq_true (by rw [hP, List.map_cons, List.length_cons]; omega)) ?_
    refine ⟨_, fun σ' H' z => z, ?_⟩
    -- who pays
    refine ⟨_, rfl, d', L, c, rfl, SdG, nd, by omega, s3900 szc, fun d2 G1 g1 f1 S1 => ⟨d2, L, fun x => -(c x), rfl, S1, by omega, fun x hx => sz_neg (s3900 szc x hx), fun o2 G2 g2 f2 ho2 => ?_⟩⟩
    have en : (L.filter fun x => decide (0 < -(c x))) = neg L c := by
      unfold neg
      refine List.filter_congr fun x _ => ?_
      exact decide_eq_decide.mpr ⟨fun h => by grind, fun h => by grind⟩
    rw [en, hN] at ho2
    refine ⟨o2, _, 0, .str p, rfl, rfl, SqL.of ho2, atI_nat (j := 0) rfl, ?_⟩
    have g02 := g1.trans g2
    have SdG2 := SdG.same g02
    obtain ⟨ad, hd2, hv2⟩ := id SdG2
    have hoG2 := g02 _ _ hoG
    rw [hP] at hoG2
    -- the share
    refine ⟨_, rfl, _, rfl, ow, _, 0, .str t, rfl, rfl, SqL.of hoG2, atI_nat (j := 0) rfl, d', _, rfl, dct_dg hd2 htL, ?_⟩
    intro tt dt nt ndt ne
    refine mk_in (n := 1) nt ndt (by decide) (by decide) (by decide) (by decide) fun G3 g3 ht => ⟨rfl, ?_⟩
    rw [div01] at ht
    obtain ⟨d4, ht4⟩ := ht
    refine ⟨tt, d4, _, rfl, ht4, no_less _, _, rfl, _, rfl, d', _, rfl, dct_dg (g3 _ _ hd2) hpL, tt, ad p, 0, c p, 300, rfl, ⟨d4, ht4⟩, (hv2 p hpL).keep g3, sz0 (by decide), szc p hpL, by decide, by decide, fun lf G4 g4 flf hlf => ?_⟩
    have hlf : Sh C G4 lf (pr (-(c p))) := by
      rw [← zero_sub' (c p)]
      exact hlf
    have g24 := g3.trans g4
    refine ⟨ad t, lf, c t, -(c p), 300, rfl, (hv2 t htL).keep g24, hlf, szc t htL, sz_neg (szc p hpL), by decide, by decide, fun sh0 G5 g5 fs5 hs5 => ?_⟩
    obtain ⟨v, hv⟩ : ∃ v, v = mn (c t) (-(c p)) := ⟨_, rfl⟩
    rw [← hv] at hs5
    have szvv : Sz 300 v := by
      rw [hv]
      unfold mn
      split
      · exact szc t htL
      · exact sz_neg (szc p hpL)
    have g05 := g02.trans (g24.trans g5)
    have g25 := g24.trans g5
    have hh5 := hhG.same g05
    have hoG5 := g25 _ _ hoG2
    have go2 := go.step nd least hP hN
    rw [← hv] at go2
    obtain ⟨go2, v0⟩ := go2
    have lrows : rows.length ≤ 10 := by
      have nzc : nzs L c ≠ [] := fun z => by
        have : t ∈ nzs L c := List.mem_filter.mpr ⟨htL, decide_eq_true (by
          have : t ∈ pos L c := by rw [hP]; exact List.mem_cons_self
          have := of_decide_eq_true (List.mem_filter.mp this).2
          grind)⟩
        rw [z] at this
        cases this
      have := go.cnt.2 nzc
      omega
    refine ⟨_, rfl, .inl ⟨rfl, _, SqL.of hh5.1⟩, _, rfl, _, rfl, ow, _, 0, .str t, rfl, rfl, SqL.of hoG5, atI_nat (j := 0) rfl, _, rfl, by show 3 ≤ sizeLine; decide, fun u fu => ?_⟩
    have su := same_new (o := .tup [.str p, .str t, .ref sh0]) fu
    have hu6 : (upd G5 u (.tup [.str p, .str t, .ref sh0])) u = some (.tup [.str p, .str t, .ref sh0]) := upd_same
    have hs6 := hs5.keep su
    have hh6 := hh5.same su
    have g06 := g05.trans su
    generalize upd G5 u (.tup [.str p, .str t, .ref sh0]) = G6 at hu6 hs6 hh6 g06
    refine ⟨h0, _, _, rfl, rfl, hh6.1, by rw [List.length_map]; exact line_lt (by omega), ?_⟩
    have hh7 := hh6.app ⟨u, p, t, sh0, v⟩ hu6 hs6
    have g7 : Same H (upd G6 h0 (.lst ((rows.map fun r => V.ref r.a) ++ [.ref u]))) := fun b ob e => by
      rw [upd_ne (ne_of_none e fh)]
      exact (sG.trans g06) _ _ e
    have Sd7 : SDc C (upd G6 h0 (.lst ((rows.map fun r => V.ref r.a) ++ [.ref u]))) d' L c := (SdG.same g06).un hh6.1
    have hu7 : (upd G6 h0 (.lst ((rows.map fun r => V.ref r.a) ++ [.ref u]))) u = some (.tup [.str p, .str t, .ref sh0]) := by
      rw [upd_ne fun z => by rw [z, hh6.1] at hu6; cases hu6]
      exact hu6
    have hs7 : Sh C (upd G6 h0 (.lst ((rows.map fun r => V.ref r.a) ++ [.ref u]))) sh0 (pr v) := by
      obtain ⟨dx, e⟩ := hs6
      exact ⟨dx, by rw [upd_ne fun z => by rw [z, hh6.1] at e; cases e]; exact e⟩
    generalize upd G6 h0 (.lst ((rows.map fun r => V.ref r.a) ++ [.ref u])) = G7 at hh7 g7 Sd7 hu7 hs7
    -- behind it
    refine ⟨_, rfl, _, rfl, 1, rfl, _, rfl, h0, _, rfl, SqL.of hh7.1, ?_⟩
    intro sl fsl
    rw [cut_last]
    have ss := same_new (o := .lst [V.ref u]) fsl
    have hsl : HL C (upd G7 sl (.lst [V.ref u])) sl [⟨u, p, t, sh0, v⟩] := ⟨upd_same, fun r hr => by
      rw [List.mem_singleton.mp hr]
      exact ⟨ss _ _ hu7, hs7.keep ss⟩⟩
    have hh8 := hh7.same ss
    have Sd8 := Sd7.same ss
    have g8 := g7.trans ss
    generalize upd G7 sl (.lst [V.ref u]) = G8 at hsl hh8 Sd8 g8
    refine ⟨d', sl, L, c, [⟨u, p, t, sh0, v⟩], rfl, Sd8, nd, hsl, szc, fun r hr => by rw [List.mem_singleton.mp hr]; exact szvv, by omega, by show 1 ≤ 1; decide, fun D G9 g9 fD SD => ?_⟩
    have eD : mvL (L, c) (mvs [⟨u, p, t, sh0, v⟩]) = (L, mv1 c (p, t, v)) := mv_one hpL htL
    rw [eD] at SD
    have SD : SDc C G9 D L (mv1 c (p, t, v)) := SD
    have szc2 := go2.sz nd ll fun x hx => (so x hx).1
    refine ⟨_, rfl, D, L, mv1 c (p, t, v), rfl, SD, by omega, s3900 szc2, fun o3 G10 g10 fo3 ho3 => ?_⟩
    have eks : (rows ++ [(⟨u, p, t, sh0, v⟩ : Ro)]).map Ro.key = rows.map Ro.key ++ [(p, t, v)] := by rw [List.map_append]; rfl
    have ec2 : mv1 c (p, t, v) = runK o ((rows ++ [(⟨u, p, t, sh0, v⟩ : Ro)]).map Ro.key) := by rw [eks, runK_snoc, ← ec]
    have g910 := g9.trans g10
    refine ⟨(nzs L (mv1 c (p, t, v))).length, ?_, D, o3, some (.str p), some (.ref sh0), rows ++ [⟨u, p, t, sh0, v⟩], mv1 c (p, t, v), ec2, rfl, rfl, g8.trans g910, SD.same g10, hh8.same g910, ho3, by rw [List.length_append]; exact go2, ?_, ?_, ?_, ?_⟩
    · have nzc : nzs L c ≠ [] := fun z => by
        have : t ∈ nzs L c := List.mem_filter.mpr ⟨htL, decide_eq_true (by
          have : t ∈ pos L c := by rw [hP]; exact List.mem_cons_self
          have := of_decide_eq_true (List.mem_filter.mp this).2
          grind)⟩
        rw [z] at this
        cases this
      have c1 := go.cnt.2 nzc
      by_cases e : nzs L (mv1 c (p, t, v)) = []
      · rw [e]
        exact List.length_pos_iff.mpr nzc
      · have c2 := go2.cnt.2 e
        omega
    · rw [eks]
      refine led.snoc v0 ?_ ?_
      · rw [← ec]
        have : p ∈ neg L c := by rw [hN]; exact List.mem_cons_self
        exact of_decide_eq_true (List.mem_filter.mp this).2
      · rw [← ec]
        have : t ∈ pos L c := by rw [hP]; exact List.mem_cons_self
        exact of_decide_eq_true (List.mem_filter.mp this).2
    · rw [eks]
      intro k hk
      rcases List.mem_append.mp hk with hk | hk
      · exact mem k hk
      · rw [List.mem_singleton.mp hk]
        exact ⟨hpL, htL⟩
    · rw [eks]
      intro k hk
      rcases List.mem_append.mp hk with hk | hk
      · exact szv k hk
      · rw [List.mem_singleton.mp hk]
        exact szvv
    · rw [eks]
      intro j z hz
      by_cases hj : j ≤ (rows.map Ro.key).length
      · rw [List.take_append_of_le_length hj]
        exact szr j z hz
      · rw [List.take_of_length_le (by rw [List.length_append, List.length_singleton]; omega), ← eks, ← ec2]
        exact szc2 z hz
end
end K58
set_option Elab.async false
set_option linter.all false
set_option maxRecDepth 100000
set_option maxHeartbeats 4000000
namespace K58
open PySem PySem.Spec PyProof.Rows L2
open C8 (Cal Mak Met pe_c pe_mk pe_mt pe_mt0)
open KM (pr Sz)
theorem LedK.take : ∀ (ks : List Hk) (c : Str → Rat) (j : Nat), LedK c ks → LedK c (ks.take j)
  | _, _, 0, _ => True.intro
  | [], _, _ + 1, _ => True.intro
  | _ :: ks, _, j + 1, h => ⟨h.1, LedK.take ks _ j h.2⟩
/-- all settled -/
structure Done (L : List Str) (c : Str → Rat) (ks : List Hk) : Prop where
  led : LedK c ks
  zero : ∀ z ∈ L, runK c ks z = 0
  mem : ∀ k ∈ ks, k.1 ∈ L ∧ k.2.1 ∈ L
  szv : ∀ k ∈ ks, Sz 300 k.2.2
  szr : ∀ j, ∀ z ∈ L, Sz 300 (runK c (ks.take j) z)
  cnt : ∃ T, Lots L c T ∧ ks.length + T.length = (nzs L c).length
/-- settled up to some lots -/
structure Part (L : List Str) (c : Str → Rat) (F : List Str) (n : Nat) (ks : List Hk) : Prop where
  led : LedK c ks
  val : ∀ z ∈ L, runK c ks z = if z ∈ F then 0 else c z
  mem : ∀ k ∈ ks, k.1 ∈ L ∧ k.2.1 ∈ L
  szv : ∀ k ∈ ks, Sz 300 k.2.2
  szr : ∀ j, ∀ z ∈ L, Sz 300 (runK c (ks.take j) z)
  cnt : ks.length + n = F.length
theorem Part.go {L : List Str} {c : Str → Rat} {F : List Str} {n : Nat} {ks js : List Hk} (h : Part L c F n ks) {l : List Str} (sub : ∀ z ∈ l, z ∈ L ∧ z ∉ F) (d : DoneL l c js) (sc : ∀ z ∈ L, Sz 300 (c z)) : Part L c (F ++ l) (n + 1) (ks ++ js) := by
  have same : ∀ z ∈ l, runK c ks z = c z := fun z hz => by rw [h.val z (sub z hz).1, if_neg (sub z hz).2]
  obtain ⟨a, b, e⟩ := run_on js c (runK c ks) d.mem same d.led
  refine ⟨h.led.app a, fun z hz => ?_, fun k hk => ?_, fun k hk => ?_, fun j z hz => ?_, ?_⟩
  · rw [runK_app]
    by_cases q : z ∈ l
    · rw [b z q, d.zero z q, if_pos (List.mem_append_right _ q)]
    · rw [e z q, h.val z hz]
      by_cases q2 : z ∈ F
      · rw [if_pos q2, if_pos (List.mem_append_left _ q2)]
      · rw [if_neg q2, if_neg fun w => (List.mem_append.mp w).elim q2 q]
  · rcases List.mem_append.mp hk with hk | hk
    · exact h.mem k hk
    · exact ⟨(sub _ (d.mem k hk).1).1, (sub _ (d.mem k hk).2).1⟩
  · rcases List.mem_append.mp hk with hk | hk
    · exact h.szv k hk
    · exact d.szv k hk
  · by_cases hj : j ≤ ks.length
    · rw [List.take_append_of_le_length hj]
      exact h.szr j z hz
    · obtain ⟨m, rfl⟩ : ∃ m, j = ks.length + m := ⟨j - ks.length, by omega⟩
      rw [List.take_length_add_append, runK_app]
      obtain ⟨_, b2, e2⟩ := run_on (js.take m) c (runK c ks) (fun k hk => d.mem k (List.mem_of_mem_take hk)) same (d.led.take _ _ m)
      by_cases q : z ∈ l
      · rw [b2 z q]
        exact d.szr m z q
      · rw [e2 z q, h.val z hz]
        split
        · exact sz0 (by decide)
        · exact sc z hz
  · rw [List.length_append, List.length_append, ← h.cnt, ← d.cnt]
    omega
section
variable {P : Program} {w : World} {K : PySem.W.Frag} {mg : Str → Option Value} {base : Heap} {f C : Addr} {fd : FuncData}
def spSe (C : Addr) : Sp := fun vs H Q _ => ∃ (d : Addr) (L : List Str) (c : Str → Rat), vs = [.ref d] ∧ SDc C H d L c ∧ L.Nodup ∧ L.length ≤ 10 ∧ (∀ x ∈ L, Cs (c x)) ∧ sumR (L.map c) = 0 ∧
  ∀ o H' rows, Same H H' → H o = none → HL C H' o rows → Done L c (rows.map Ro.key) → Q (.ref o) H'
theorem ok_se (F : Dn K d_settled f fd) (cLo : Cal P w K mg base 7 "lots" (spLo C) []) (cSl : Cal P w K mg base 7 "settled_lot" (spSl C) []) : FnOk P w K mg base CX0 8 f fd ["standing"] (spSe C) := by
  refine F.ok sc_settled (fun vs H Q E h => ?_) (fun cdv A outer s H vs Q E hr h => ?_)
  · obtain ⟨d, L, c, rfl, _⟩ := h
    rfl
  · obtain ⟨d, L, c, rfl, Sd, nd, ll, cs, s0, hQ⟩ := h
    have hu := hu_of hr
    refine ⟨_, PSs.nox (pss_cons (ps_set (i := 1) sc_settled.nd rfl (.inl rfl) (pe_lst pa_nil))
      (pss_cons (ps_for PassesOwn.never rfl (pi_list (pe_c cLo hr (by decide) rfl (pa_cons (pv 0) pa_nil))) (pg_name (i := 2) sc_settled.nd rfl (.inl rfl))
        (pss_one (ps_set (i := 1) sc_settled.nd rfl (.inl rfl) (pe_op op_cat (pv 1) (pe_c cSl hr (by decide) rfl (pa_cons (pe_dc (own := [("name", 3)]) (g := gName 3) (tt := tYes) rfl sc_settled.nd (pi_tup (pv 2)) (blkOk_by (N := N_settled) (sc := defScope s_settled) (by decide +kernel))
          (fun _ _ _ _ _ => pg_name (i := 3) sc_settled.nd rfl (.inl rfl)) (fun _ _ _ _ _ => pts_nil) (fun _ _ _ _ _ => pv 3) (fun _ _ _ _ _ => pe_dget hu (pv 0) (pv 3) (fun _ _ => rfl))) pa_nil))))))
      (pss_one (ps_ret (pv 1))))), ?_⟩
    refine ⟨by show 0 ≤ sizeLine; decide, fun h0 fh => ?_⟩
    have sh := same_new (o := .lst []) fh
    have hh : HL C (upd H h0 (.lst [])) h0 [] := ⟨upd_same, fun r hr => nomatch hr⟩
    have Sd1 := Sd.same sh
    generalize upd H h0 (.lst []) = H1 at sh hh Sd1
    refine ⟨_, rfl, d, L, c, rfl, Sd1, ll, cs, s0, fun lo H2 rs s2 flo lt lots => ?_⟩
    have sc300 : ∀ z ∈ L, Sz 300 (c z) := fun z hz => (cs z hz).sz.mono (by decide)
    have memT : ∀ {r : Addr × List Str}, r ∈ rs → r.2 ∈ rs.map (·.2) := fun {r} h => List.mem_map.mpr ⟨r, h, rfl⟩
    have inL : ∀ {x : Str} {r : Addr × List Str}, r ∈ rs → x ∈ r.2 → x ∈ L ∧ c x ≠ 0 := fun {x r} h hx => by
      have := lots.perm.mem_iff.mp (List.mem_flatten.mpr ⟨r.2, memT h, hx⟩)
      obtain ⟨h1, h2⟩ := List.mem_filter.mp this
      exact ⟨h1, of_decide_eq_true h2⟩
    have ndT : ((rs.map (·.2)).flatten).Nodup := lots.perm.nodup_iff.mpr (nd.sublist List.filter_sublist)
    have lenT : ((rs.map (·.2)).flatten).length ≤ 10 := by
      rw [lots.perm.length_eq]
      exact Nat.le_trans (List.length_filter_le _ _) ll
    refine ⟨lo, rfl, ⟨_, SqL.of lt.1⟩, for_list (K := K) (xs := rs.map fun r => V.ref r.1) (fun i σ G => ∃ (h0 : Addr) (v2 v3 : Option V) (rows : List Ro), σ = [some (.ref d), some (.ref h0), v2, v3] ∧ Same H2 G ∧ H h0 = none ∧ HL C G h0 rows ∧ Part L c (((rs.take i).map (·.2)).flatten) i (rows.map Ro.key))
      ⟨h0, _, _, [], rfl, Same.refl _, fh, hh.same s2, ⟨True.intro, fun z hz => rfl, fun k h => (nomatch h), fun k h => (nomatch h), fun j z hz => by rw [List.map_nil, List.take_nil]; exact sc300 z hz, rfl⟩⟩ (fun i σ G _ z => by obtain ⟨_, _, _, _, _, e, _⟩ := z; exact SqL.of (e _ _ lt.1)) ?_ ?_⟩
    · rintro i v σ G hi ⟨h0, v2, v3, rows, rfl, sG, fh0, hhG, pt⟩
      rw [List.getElem?_map] at hi
      obtain ⟨r, hr0, rfl⟩ := Option.map_eq_some_iff.mp hi
      have hrm := List.mem_of_getElem? hr0
      obtain ⟨l, hl⟩ : ∃ l, l = r.2 := ⟨_, rfl⟩
      have hrt := sG _ _ (lt.2 r hrm)
      rw [← hl] at hrt
      obtain ⟨ad, hd, hv⟩ := (Sd1.same s2).same sG
      have e1 : rs = rs.take i ++ r :: rs.drop (i + 1) := by
        have h1 := List.take_append_drop i rs
        obtain ⟨hil, he⟩ := List.getElem?_eq_some_iff.mp hr0
        rw [List.drop_eq_getElem_cons hil, he] at h1
        exact h1.symm
      have e3 : (rs.map (·.2)).flatten = ((rs.take i).map (·.2)).flatten ++ (l ++ ((rs.drop (i + 1)).map (·.2)).flatten) := by
        have e4 := congrArg (fun z => (List.map (·.2) z).flatten) e1
        simp only [List.map_append, List.map_cons, List.flatten_append, List.flatten_cons] at e4
        rw [e4, ← hl]
      have nd3 := ndT
      rw [e3] at nd3
      obtain ⟨_, nd4, dis⟩ := List.nodup_append.mp nd3
      have ndl : l.Nodup := (List.nodup_append.mp nd4).1
      have subl : ∀ z ∈ l, z ∈ L ∧ z ∉ ((rs.take i).map (·.2)).flatten := fun z hz => ⟨(inL hrm (by rw [← hl]; exact hz)).1, fun q => dis z q z (List.mem_append_left _ hz) rfl⟩
      have len3 : ((rs.take i).map (·.2)).flatten.length + l.length ≤ 10 := by
        have := congrArg List.length e3
        rw [List.length_append, List.length_append] at this
        omega
      obtain ⟨lne, _, lsum⟩ := lots.each r.2 (memT hrm)
      have least := lots.least r.2 (memT hrm)
      rw [← hl] at lne lsum least
      -- the lot's dict
      refine ⟨_, rfl, _, rfl, r.1, rfl, ⟨_, SqT.of hrt⟩, fun D fD => dc_it (walk_tup (K := K) (xs := l.map V.str)) (fun j G2 => G2 D = some (dctO (l.take j) fun x => .ref (ad x)) ∧ Same G G2) ⟨upd_same, same_new fD⟩ (fun j G2 _ z => SqT.of (z.2 _ _ hrt)) ?_ ?_⟩
      · rintro j x G2 G3 hj ⟨hD, s4⟩ ⟨eH, hx⟩
        have eH := eH.symm
        subst eH
        rw [List.getElem?_map] at hx
        obtain ⟨z, hz, rfl⟩ := Option.map_eq_some_iff.mp hx
        have hzl := List.mem_of_getElem? hz
        have nz := nin_take ndl hz
        refine ⟨rfl, _, rfl, _, rfl, _, rfl, d, _, rfl, dct_dg (s4 _ _ hd) (subl z hzl).1, _, Sum.inr z, rfl, hD, by rw [List.length_map, List.length_take]; exact line_lt (by omega), ?_, same_put s4 fD⟩
        rw [upd_same, put_dct, take_one hz]
        have ea : addK (l.take j) z = l.take j ++ [z] := if_neg nz
        rw [ea]
        show some (HO.dK _) = some (HO.dK _)
        congr 2
        refine List.map_congr_left fun y _ => ?_
        by_cases q : y = z
        · subst q
          rw [if_pos rfl]
        · rw [if_neg q]
      rintro G2 ⟨hD, s4⟩
      rw [List.length_map, take_all] at hD
      have SdD : SDc C G2 D l c := ⟨ad, hD, fun x hx => (hv x (subl x hx).1).keep s4⟩
      refine ⟨D, l, c, rfl, SdD, ndl, lne, by omega, fun x hx => ⟨(cs x (subl x hx).1).sz, (inL hrm (by rw [← hl]; exact hx)).2⟩, lsum, least, fun h2 G3 rows2 s5 fh2 hh2 done => ?_⟩
      have hh3 := (hhG.same s4).same s5
      have lr1 : rows.length ≤ 10 := by
        have := pt.cnt
        rw [List.length_map] at this
        omega
      have lr2 : rows2.length ≤ 10 := by
        have := done.cnt
        rw [List.length_map] at this
        omega
      refine ⟨h0, h2, _, _, rfl, rfl, hh3.1, hh2.1, by rw [List.length_map, List.length_map]; exact line_of (by omega), fun p fp => ?_⟩
      have sp := same_new (o := .lst ((rows.map fun r => V.ref r.a) ++ rows2.map fun r => V.ref r.a)) fp
      have s25 := sG.trans (s4.trans s5)
      refine ⟨p, _, _, rows ++ rows2, rfl, s25.trans sp, (sh.trans (s2.trans s25)).free fp, ⟨?_, fun q hq => ?_⟩, ?_⟩
      · rw [upd_same, List.map_append]
      · rcases List.mem_append.mp hq with hq | hq
        · exact (hh3.same sp).2 q hq
        · exact (hh2.same sp).2 q hq
      · rw [List.map_append]
        have ef : ((rs.take (i + 1)).map (·.2)).flatten = ((rs.take i).map (·.2)).flatten ++ l := by
          rw [take_one hr0, List.map_append, List.flatten_append, hl]
          simp
        rw [ef]
        exact pt.go subl done sc300
    · rintro σ G ⟨h0, v2, v3, rows, rfl, sG, fh0, hhG, pt⟩
      rw [List.length_map, take_all] at pt
      refine ⟨_, rfl, hQ h0 G rows (sh.trans (s2.trans sG)) fh0 hhG ⟨pt.led, fun z hz => ?_, pt.mem, pt.szv, pt.szr, rs.map (·.2), lots, ?_⟩⟩
      · rw [pt.val z hz]
        split
        · rfl
        · rename_i q
          refine Classical.byContradiction fun nz => q (lots.perm.mem_iff.mpr (List.mem_filter.mpr ⟨hz, decide_eq_true nz⟩))
      · have := pt.cnt
        rw [lots.perm.length_eq] at this
        rw [List.length_map (f := fun r : Addr × List Str => r.2)]
        exact this
end
end K58
set_option Elab.async false
set_option linter.all false
set_option maxRecDepth 100000
set_option maxHeartbeats 4000000
namespace K58
open PySem PySem.Spec PyProof.Rows L2
open C8 (Cal Mak Met pe_c pe_mk pe_mt pe_mt0)
open KM (pr Sz)
theorem num_neg {r : Rat} : (pr r).1 < 0 ↔ r < 0 := by
  have h := KM.pr_lt r 0
  have e : pr (0 : Rat) = (0, 1) := rfl
  rw [e] at h
  rw [← h]
  simp
theorem num_pos {r : Rat} : 0 < (pr r).1 ↔ 0 < r := by
  have h := KM.pr_lt 0 r
  have e : pr (0 : Rat) = (0, 1) := rfl
  rw [e] at h
  rw [← h]
  simp
theorem LedK.at_ : ∀ {ks : List Hk} {c : Str → Rat} {i : Nat} {k : Hk}, LedK c ks → ks[i]? = some k → 0 < k.2.2 ∧ runK c (ks.take i) k.1 < 0 ∧ 0 < runK c (ks.take i) k.2.1
  | [], _, _, _, _, h => by simp at h
  | j :: ks, c, 0, k, hl, h => by
    simp at h
    subst h
    exact hl.1
  | j :: ks, c, i + 1, k, hl, h => LedK.at_ (ks := ks) hl.2 (by simpa using h)
section
variable {P : Program} {w : World} {K : PySem.W.Frag} {mg : Str → Option Value} {base : Heap} {f C : Addr} {fd : FuncData}
def spLd : Sp := fun vs H Q _ => ∃ (d l : Addr) (L : List Str) (c : Str → Rat) (rows : List Ro), vs = [.ref d, .ref l] ∧ TDc H d L c ∧ L.Nodup ∧ L.length ≤ 30 ∧ TL H l rows ∧ rows.length ≤ 30 ∧ LedK c (rows.map Ro.key) ∧ (∀ k ∈ rows.map Ro.key, k.1 ∈ L ∧ k.2.1 ∈ L) ∧ (∀ k ∈ rows.map Ro.key, Sz 300 k.2.2) ∧ (∀ j, ∀ z ∈ L, Sz 300 (runK c ((rows.map Ro.key).take j) z)) ∧
  ∀ D H', Same H H' → H D = none → TDc H' D L (runK c (rows.map Ro.key)) → Q (.ref D) H'
theorem ok_ld (F : Dn K d_l_led f fd) (bd : mg "dict" = none) (cB : Cal P w K mg base 3 "_law_behind" spLB []) : FnOk P w K mg base CX0 4 f fd ["_law_standing_here", "_law_rows"] spLd := by
  refine F.ok sc_l_led (fun vs H Q E h => ?_) (fun cdv A outer s H vs Q E hr h => ?_)
  · obtain ⟨d, l, L, c, rows, rfl, _⟩ := h
    rfl
  · obtain ⟨d, l, L, c, rows, rfl, ⟨ad, hd, hv⟩, nd, ll, hl, lr, led, mem, szv, szr, hQ⟩ := h
    have hu := hu_of hr
    refine ⟨_, PSs.nox (pss_cons (ps_set (i := 2) sc_l_led.nd rfl (.inl rfl) (pe_callTy call_dictD rfl bd boot_dict (pa_cons (pv 0) pa_nil)))
      (pss_cons (ps_for PassesOwn.never rfl (pi_list (pv 1)) (pg_name (i := 3) sc_l_led.nd rfl (.inl rfl))
        (pss_cons (ps_asg (pv 3) (pg_tup rfl (pgs_cons (pg_name (i := 4) sc_l_led.nd rfl (.inl rfl)) (pgs_cons (pg_name (i := 5) sc_l_led.nd rfl (.inl rfl)) (pgs_cons (pg_name (i := 6) sc_l_led.nd rfl (.inl rfl)) pgs_nil)))))
        (pss_cons (ps_if (PW.pt (pw_or (pt_cmpR op_lt (pe_ix ix_tup (pv 6) pe_int (fun _ _ => rfl)) pe_int (nomark _))
            (pw_or (pt_cmpR op_ge (pe_ix ix_tup (pe_dget2 hu (pv 2) (pv 4) (pe_tup (pa_cons pe_int (pa_cons pe_int pa_nil))) ⟨rfl, rfl, rfl, rfl⟩) pe_int (fun _ _ => rfl)) pe_int (nomark _))
            (pw_or1 (pt_cmpR op_le (pe_ix ix_tup (pe_dget2 hu (pv 2) (pv 5) (pe_tup (pa_cons pe_int (pa_cons pe_int pa_nil))) ⟨rfl, rfl, rfl, rfl⟩) pe_int (fun _ _ => rfl)) pe_int (nomark _)))))) pss_never pss_nil)
        (pss_one (ps_set (i := 2) sc_l_led.nd rfl (.inl rfl) (pe_c cB hr (by decide) rfl (pa_cons (pv 2) (pa_cons (pe_lst (pa_cons (pv 3) pa_nil)) pa_nil))))))))
      (pss_one (ps_ret (pv 2))))), ?_⟩
    refine ⟨_, rfl, d, _, rfl, .inl hd, fun D hD => ?_⟩
    have s1 := same_new (o := dctO L fun x => .ref (ad x)) hD
    have lk : (rows.map Ro.key).length = rows.length := List.length_map _
    refine ⟨_, rfl, l, rfl, ⟨_, SqL.of (s1 _ _ hl.1)⟩, for_list (K := K) (xs := rows.map fun r => V.ref r.a) (fun i σ G => ∃ (D : Addr) (v3 v4 v5 v6 : Option V), σ = [some (.ref d), some (.ref l), some (.ref D), v3, v4, v5, v6] ∧ Same H G ∧ H D = none ∧ TDc G D L (runK c ((rows.map Ro.key).take i)))
      ⟨D, _, _, _, _, rfl, s1, hD, ad, upd_same, fun x hx => s1 _ _ (hv x hx)⟩ (fun i σ G _ z => by obtain ⟨_, _, _, _, _, _, sm, _⟩ := z; exact SqL.of (sm _ _ hl.1)) ?_ ?_⟩
    · rintro i v σ G hi ⟨D, v3, v4, v5, v6, rfl, sG, fD, Td⟩
      rw [List.getElem?_map] at hi
      obtain ⟨r, hr0, rfl⟩ := Option.map_eq_some_iff.mp hi
      have hrm := List.mem_of_getElem? hr0
      have hk : (rows.map Ro.key)[i]? = some r.key := by rw [List.getElem?_map, hr0]; rfl
      have hkm := List.mem_of_getElem? hk
      obtain ⟨l1, l2, l3⟩ := led.at_ hk
      obtain ⟨mp, mt⟩ := mem _ hkm
      have svv := szv _ hkm
      have szi := szr i
      have szj := szr (i + 1)
      rw [take_one hk, runK_snoc] at szj
      obtain ⟨e, he⟩ : ∃ e, e = runK c ((rows.map Ro.key).take i) := ⟨_, rfl⟩
      rw [← he] at l2 l3 szi szj Td
      have l1 : 0 < r.v := l1
      have l2 : e r.p < 0 := l2
      have l3 : 0 < e r.t := l3
      have mp : r.p ∈ L := mp
      have mt : r.t ∈ L := mt
      obtain ⟨ht0, hs0⟩ := hl.2 r hrm
      have hts := sG _ _ ht0
      have hss := sG _ _ hs0
      obtain ⟨a2, hd2, hv2⟩ := Td
      refine ⟨_, rfl, r.a, _, rfl, SqT.of hts, rfl, _, _, rfl, _, _, rfl, _, _, rfl, rfl, ?_⟩
      -- a share, from one who owes to one who is owed
      refine ⟨_, rfl, r.s, _, _, _, rfl, rfl, SqT.of hss, atI_nat (j := 0) rfl, _, _, rfl, rfl, _, rfl, ?_⟩
      refine iteFE (decide_eq_false (by have := num_pos.mpr l1; omega)) ?_
      refine ⟨_, rfl, D, rfl, .inl ⟨_, .inl hd2⟩, _, rfl, by show 2 ≤ sizeLine; decide, fun t2 ft2 => ?_⟩
      have st := same_new (o := .tup [.int 0, .int 1]) ft2
      have dg : DGet (upd G t2 (.tup [.int 0, .int 1])) D (.str r.p) (valV (L.map fun y => ((Sum.inr y : Key), V.ref (a2 y))) (Sum.inr r.p)) := DGet.k (k := Sum.inr r.p) (st _ _ hd2)
      rw [val_dct, if_pos mp] at dg
      refine ⟨_, dg, a2 r.p, _, _, _, rfl, rfl, SqT.of (st _ _ (hv2 r.p mp)), atI_nat (j := 0) rfl, _, _, rfl, rfl, _, rfl, ?_⟩
      refine iteFE (decide_eq_false (by have := num_neg.mpr l2; omega)) ?_
      have sG2 := sG.trans st
      have hd3 := st _ _ hd2
      have hv3 : ∀ x ∈ L, (upd G t2 (.tup [.int 0, .int 1])) (a2 x) = some (tupP (pr (e x))) := fun x hx => st _ _ (hv2 x hx)
      generalize upd G t2 (.tup [.int 0, .int 1]) = G2 at sG2 hd3 hv3
      refine ⟨_, rfl, D, rfl, .inl ⟨_, .inl hd3⟩, _, rfl, by show 2 ≤ sizeLine; decide, fun t3 ft3 => ?_⟩
      have st3 := same_new (o := .tup [.int 0, .int 1]) ft3
      have dg3 : DGet (upd G2 t3 (.tup [.int 0, .int 1])) D (.str r.t) (valV (L.map fun y => ((Sum.inr y : Key), V.ref (a2 y))) (Sum.inr r.t)) := DGet.k (k := Sum.inr r.t) (st3 _ _ hd3)
      rw [val_dct, if_pos mt] at dg3
      refine ⟨_, dg3, a2 r.t, _, _, _, rfl, rfl, SqT.of (st3 _ _ (hv3 r.t mt)), atI_nat (j := 0) rfl, _, _, rfl, rfl, _, rfl, ?_⟩
      refine iteFE (decide_eq_false (by have := num_pos.mpr l3; omega)) ?_
      have sG3 := sG2.trans st3
      have hd4 := st3 _ _ hd3
      have hv4 : ∀ x ∈ L, (upd G2 t3 (.tup [.int 0, .int 1])) (a2 x) = some (tupP (pr (e x))) := fun x hx => st3 _ _ (hv3 x hx)
      generalize upd G2 t3 (.tup [.int 0, .int 1]) = G3 at sG3 hd4 hv4
      -- behind it
      refine ⟨_, rfl, _, rfl, by show 1 ≤ sizeLine; decide, fun q fq => ?_⟩
      have sq := same_new (o := .lst [.ref r.a]) fq
      have hTL : TL (upd G3 q (.lst [.ref r.a])) q [r] := ⟨upd_same, fun r' hr' => by
        rw [List.mem_singleton.mp hr']
        exact ⟨sq _ _ (sG3 _ _ ht0), sq _ _ (sG3 _ _ hs0)⟩⟩
      have Td4 : TDc (upd G3 q (.lst [.ref r.a])) D L e := ⟨a2, sq _ _ hd4, fun x hx => sq _ _ (hv4 x hx)⟩
      have ne : r.p ≠ r.t := fun z => by rw [z] at l2; grind
      have gin : ∀ (e : Str → Rat) (x : Str), (∀ z ∈ L, Sz 300 (e z)) → Sz 3800 (get0 L e x) := fun e x h => by
        unfold get0
        split
        · rename_i hx
          exact (h x hx).mono (by decide)
        · exact sz0 (by decide)
      refine ⟨D, q, L, e, [r], rfl, Td4, nd, hTL, fun ms hms x => ?_, fun r' hr' => by rw [List.mem_singleton.mp hr']; exact svv.mono (by decide), ll, by show 1 ≤ 30; decide, fun D' G4 s4 fD' Td' => ?_⟩
      · have em : mvs [r] = [(r.p, r.v), (r.t, -r.v)] := rfl
        rw [em] at hms
        have half : ∀ z ∈ L, Sz 300 (setc e r.p (e r.p + r.v) z) := fun z hz => by
          unfold setc
          by_cases q : z = r.p
          · rw [if_pos q]
            have := szj r.p mp
            rw [show mv1 e r.key r.p = e r.p + r.v from mv1_p (k := r.key) ne] at this
            exact this
          · rw [if_neg q]
            exact szi z hz
        match ms, hms with
        | [], _ => exact gin e x szi
        | [a], h => 
          obtain ⟨t, h⟩ := h
          simp only [List.cons_append, List.nil_append, List.cons.injEq] at h
          obtain ⟨rfl, _⟩ := h
          have e1 : mvL (L, e) [(r.p, r.v)] = (L, setc e r.p (e r.p + r.v)) := by
            show mv (L, e) (r.p, r.v) = _
            unfold mv
            dsimp only
            rw [show addK L r.p = L from if_pos mp, show get0 L e r.p = e r.p from if_pos mp]
          rw [e1]
          exact gin _ x half
        | [a, b], h =>
          obtain ⟨t, h⟩ := h
          simp only [List.cons_append, List.nil_append, List.cons.injEq] at h
          obtain ⟨rfl, rfl, _⟩ := h
          rw [mv_one mp mt]
          exact gin _ x szj
        | a :: b :: y :: m, h =>
          obtain ⟨t, h⟩ := h
          simp at h
      · have eD : mvL (L, e) (mvs [r]) = (L, mv1 e r.key) := mv_one mp mt
        rw [eD] at Td'
        refine ⟨D', _, _, _, _, rfl, sG3.trans (sq.trans s4), sG3.free ((sq).free fD'), ?_⟩
        rw [take_one hk, runK_snoc, ← he]
        exact Td'
    · rintro σ G ⟨D, v3, v4, v5, v6, rfl, sG, fD, Td⟩
      rw [List.length_map, ← lk, take_all] at Td
      exact ⟨_, rfl, hQ D G sG fD Td⟩
end
end K58
set_option Elab.async false
set_option linter.all false
set_option maxRecDepth 100000
set_option maxHeartbeats 4000000
namespace K58
open PySem PySem.Spec PyProof.Rows L2
open C8 (Cal Mak Met pe_c pe_mk pe_mt pe_mt0)
open KM (pr Sz)
open SETM SRX
theorem ix_end {L : List V} {v : V} : atI (L ++ [v]) (-1) = some v := by
  have e : ixN (L ++ [v]).length (-1) = some L.length := by
    unfold ixN
    rw [if_neg (by decide), if_pos (by rw [List.length_append, List.length_singleton]; omega), List.length_append, List.length_singleton]
    congr 1
    omega
  unfold atI
  rw [e]
  simp
section
variable {P : Program} {w : World} {K : PySem.W.Frag} {mg : Str → Option Value} {base : Heap} {f C : Addr} {fd : FuncData}
def spMl : Sp := fun vs H Q _ => ∃ (d : Addr) (L : List Str) (c : Str → Rat), vs = [.ref d] ∧ TDc H d L c ∧ L.length ≤ 10 ∧ (∀ x ∈ L, Cs (c x)) ∧
  ∀ H' (xs : List Str) (g : Nat → Int), Same H H' → xs.Perm (L.filter fun x => decide (c x ≠ 0)) → xs.Pairwise SRT.leS → Nt xs.length (zOf (sumsL (xs.map (wcr c (comN c xs))))) g (2 ^ xs.length) → Q (.int (g (2 ^ xs.length - 1))) H'
theorem ok_ml (F : Dn K d_l_most_lots f fd) (bl : Bl mg) (bs' : mg "sorted" = none) (bsum : mg "sum" = none) (bmax : mg "max" = none) : FnOk P w K mg base CX0 1 f fd ["_law_standing_here"] spMl := by
  refine F.ok sc_l_most_lots (fun vs H Q E h => ?_) (fun cdv A outer s H vs Q E hr h => ?_)
  · obtain ⟨d, L, c, rfl, _⟩ := h
    rfl
  · obtain ⟨d, L, c, rfl, ⟨ad, hd, hv⟩, ll, cs, hQ⟩ := h
    have hu := hu_of hr
    refine ⟨_, PSs.nox (pss_cons (ps_set (i := 1) sc_l_most_lots.nd rfl (.inr rfl) (pe_lc (own := [("_law_name", 9)]) (g := gName 9) rfl sc_l_most_lots.nd (pi_list (pe_callB (call_sortedD rfl) rfl bs' boot_sorted (pa_cons (pv 0) pa_nil))) (blkOk_by (N := N_l_most_lots) (sc := defScope s_l_most_lots) (by decide +kernel))
          (fun _ _ _ _ _ => pg_name (i := 9) sc_l_most_lots.nd rfl (Or.inl rfl)) (fun _ _ _ _ _ => pts_one (pt_cmpR op_ne (pe_ix (r := rIxT K) ix_tup (pe_dget hu (pv 0) (pv 9) (fun _ _ => rfl)) pe_int (fun _ _ => rfl)) pe_int (nomark _))) (fun _ _ _ _ _ => pe_dget hu (pv 0) (pv 9) (fun _ _ => rfl))))
      (pss_cons (ps_set (i := 2) sc_l_most_lots.nd rfl (.inr rfl) pe_int)
      (pss_cons (ps_for PassesOwn.never rfl (pi_list (pv 1)) (pg_tup rfl (pgs_cons (pg_name (i := 3) sc_l_most_lots.nd rfl (.inl rfl)) (pgs_cons (pg_name (i := 4) sc_l_most_lots.nd rfl (.inl rfl)) pgs_nil))) (pss_one (ps_set (i := 2) sc_l_most_lots.nd rfl (.inr rfl) (pe_op op_mulW (pv 2) (pv 4)))))
      (pss_cons (ps_asg (pe_tup (pa_cons (pe_lst (pa_cons pe_int pa_nil)) (pa_cons (pe_lst (pa_cons pe_int pa_nil)) pa_nil))) (pg_tup rfl (pgs_cons (pg_name (i := 5) sc_l_most_lots.nd rfl (.inl rfl)) (pgs_cons (pg_name (i := 6) sc_l_most_lots.nd rfl (.inr rfl)) pgs_nil))))
      (pss_cons (ps_for PassesOwn.never rfl (pi_range2 rfl bl.range (pa_cons pe_int (pa_cons (pe_op op_shl pe_int (pe_callB call_len_seq rfl bl.len boot_len (pa_cons (pv 1) pa_nil))) pa_nil))) (pg_name (i := 7) sc_l_most_lots.nd rfl (.inr rfl))
        (pss_cons (ps_setLc (i := 8) (own := [("_law_k", 10)]) (g := gName 10) rfl sc_l_most_lots.nd rfl rfl (sw_true rfl rfl rfl (by decide +kernel)) (pi_range1 rfl bl.range (pa_cons (pe_callB call_len_seq rfl bl.len boot_len (pa_cons (pv 1) pa_nil)) pa_nil)) (blkOk_by (N := N_l_most_lots) (sc := defScope s_l_most_lots) (by decide +kernel))
            (fun _ _ _ _ _ => pg_name (i := 10) sc_l_most_lots.nd rfl (Or.inl rfl)) (fun _ _ _ _ _ => pts_one (pt_cmpR op_eq (pe_op op_odd (pe_op op_shr (pv 7) (pv 10)) pe_int) pe_int (nomark _))) (fun _ _ _ _ _ => pv 10))
        (pss_cons (ps_expr (pe_bm PySem.F.plainAttrs_list PySem.F.slot_list_append PySem.F.type_list_append mt_append (pv 5) (pa_cons (pe_callB (r := rSum K) (cr_sum rfl) rfl bsum boot_sum (pa_cons (pe_lc (own := [("_law_k", 10)]) (g := gName 10) (tt := tYes) rfl sc_l_most_lots.nd (pi_list (pv 8)) (blkOk_by (N := N_l_most_lots) (sc := defScope s_l_most_lots) (by decide +kernel))
            (fun _ _ _ _ _ => pg_name (i := 10) sc_l_most_lots.nd rfl (Or.inl rfl)) (fun _ _ _ _ _ => pts_nil)
            (fun _ _ _ _ _ => pe_op op_mulW (pe_ix (r := rIxT K) ix_tup (pe_ix (r := rIxL K) ix_list (pv 1) (pv 10) (fun _ _ => rfl)) pe_int (fun _ _ => rfl)) (pe_op op_fdW (pv 2) (pe_ix (r := rIxT K) ix_tup (pe_ix (r := rIxL K) ix_list (pv 1) (pv 10) (fun _ _ => rfl)) pe_int (fun _ _ => rfl))))) pa_nil)) pa_nil)))
        (pss_one (ps_expr (pe_bm PySem.F.plainAttrs_list PySem.F.slot_list_append PySem.F.type_list_append mt_append (pv 6) (pa_cons (pe_op op_add (pe_callB (r := rMax K) (cr_max rfl) rfl bmax boot_max (pa_cons (pe_lc (own := [("_law_k", 10)]) (g := gName 10) (tt := tYes) rfl sc_l_most_lots.nd (pi_list (pv 8)) (blkOk_by (N := N_l_most_lots) (sc := defScope s_l_most_lots) (by decide +kernel))
            (fun _ _ _ _ _ => pg_name (i := 10) sc_l_most_lots.nd rfl (Or.inl rfl)) (fun _ _ _ _ _ => pts_nil)
            (fun _ _ _ _ _ => pe_ix (r := rIxL K) ix_list (pv 6) (pe_op op_sub (pv 7) (pe_op op_shl pe_int (pv 10))) (fun _ _ => rfl))) pa_nil)) (pe_callTy call_int1 rfl bl.int boot_int (pa_cons (pe_cmpR op_eq (pe_ix ix_list (pv 5) (pv 7) (fun _ _ => rfl)) pe_int (nomark _)) pa_nil))) pa_nil)))))))
      (pss_one (ps_ret (pe_ix ix_list (pv 6) (pe_un un_neg pe_int) (fun _ _ => rfl))))))))), ?_⟩
    refine ⟨_, rfl, d, _, L, rfl, .inl hd, by rw [List.map_map]; rfl, by omega, fun ps p pm so fp => ?_⟩
    have sp := same_new (o := .lst (ps.map V.str)) fp
    have hp1 : (upd H p (.lst (ps.map V.str))) p = some (.lst (ps.map V.str)) := upd_same
    generalize upd H p (.lst (ps.map V.str)) = H1 at sp hp1
    obtain ⟨xs, hxs⟩ : ∃ xs, xs = ps.filter fun x => decide (c x ≠ 0) := ⟨_, rfl⟩
    have px : xs.Perm (L.filter fun x => decide (c x ≠ 0)) := by rw [hxs]; exact pm.filter _
    have pw : xs.Pairwise SRT.leS := by rw [hxs]; exact (IO.sorted_pw so).sublist List.filter_sublist
    have xl : xs.length ≤ 10 := by
      rw [px.length_eq]
      exact Nat.le_trans (List.length_filter_le _ _) ll
    have sub : ∀ x ∈ xs, x ∈ L := fun x hx => (List.mem_filter.mp (px.mem_iff.mp hx)).1
    have cs' : ∀ x ∈ xs, Cs (c x) := fun x hx => cs x (sub x hx)
    refine ⟨p, rfl, ⟨_, SqL.of hp1⟩, fun D fD => lc_list (K := K) (xs := ps.map V.str) (fun i H2 => H2 D = some (.lst (((ps.take i).filter fun x => decide (c x ≠ 0)).map fun x => V.ref (ad x))) ∧ Same H1 H2) ⟨upd_same, same_new fD⟩ (fun i H2 _ z => SqL.of (z.2 _ _ hp1)) ?_ ?_⟩
    · rintro i v H2 hi ⟨hD, s2⟩
      rw [List.getElem?_map] at hi
      obtain ⟨y, hy0, rfl⟩ := Option.map_eq_some_iff.mp hi
      have hyL := pm.mem_iff.mp (List.mem_of_getElem? hy0)
      have pl : ps.length ≤ 10 := by rw [pm.length_eq]; exact ll
      have hd2 := (sp.trans s2) _ _ hd
      refine ⟨rfl, _, rfl, _, rfl, d, _, rfl, dct_dg hd2 hyL, ad y, _, _, _, rfl, rfl, SqT.of ((sp.trans s2) _ _ (hv y hyL)), atI_nat (j := 0) rfl, rfl, _, rfl, ?_⟩
      have en : (!decide (V.int (pr (c y)).1 = V.int 0)) = decide (c y ≠ 0) := by
        by_cases q : c y = 0
        · have : (pr (c y)).1 = 0 := num0.mpr q
          rw [decide_eq_true (congrArg V.int this), decide_eq_false (fun h => h q)]
          rfl
        · rw [decide_eq_false (fun h => q (num0.mp (V.int.inj h))), decide_eq_true q]
          rfl
      rw [en]
      have ef : (ps.take (i + 1)).filter (fun x => decide (c x ≠ 0)) = (ps.take i).filter (fun x => decide (c x ≠ 0)) ++ if decide (c y ≠ 0) = true then [y] else [] := by
        rw [take_one hy0, List.filter_append]
        by_cases q : c y = 0 <;> simp [q]
      refine ite2 (fun q => ?_) (fun q => ?_)
      · refine ⟨_, rfl, _, rfl, d, _, rfl, dct_dg hd2 hyL, _, hD, by rw [List.length_map]; exact Nat.lt_of_le_of_lt (List.length_filter_le _ _) (by rw [List.length_take]; exact line_lt (by omega)), ?_, same_put s2 fD⟩
        rw [upd_same, ef, if_pos q, List.map_append]
        rfl
      · rw [ef, if_neg q, List.append_nil]
        exact ⟨hD, s2⟩
    rintro H2 ⟨hD, s2⟩
    rw [List.length_map, take_all, ← hxs] at hD
    have s02 := sp.trans s2
    have sz : ∀ i, comN c (xs.take i) < 2 ^ 121 := fun i => by
      have h1 := com_lt (c := c) _ (xs := xs.take i) rfl fun x hx => cs' x (List.mem_of_mem_take hx)
      have h2 : (xs.take i).length ≤ 20 := Nat.le_trans (List.length_take_le' _ _) (by omega)
      exact Nat.lt_of_lt_of_le h1 (Nat.pow_le_pow_right (by decide) (by omega))
    refine ⟨_, rfl, D, rfl, ⟨_, SqL.of hD⟩, for_list (K := K) (xs := xs.map fun x => V.ref (ad x)) (fun i σ H' => ∃ v3 v4, σ = [some (.ref d), some (.ref D), some (.int ((comN c (xs.take i) : Nat) : Int)), v3, v4, none, none, none, none, none, none] ∧ H' = H2) ⟨_, _, rfl, rfl⟩ (fun i σ H' _ z => by obtain ⟨_, _, _, e⟩ := z; rw [e]; exact SqL.of hD) ?_ ?_⟩
    · rintro i v σ H' hi ⟨v3, v4, rfl, eH⟩
      subst eH
      rw [List.getElem?_map] at hi
      obtain ⟨z, hz, rfl⟩ := Option.map_eq_some_iff.mp hi
      have hzx := List.mem_of_getElem? hz
      refine ⟨ad z, _, rfl, SqT.of (s02 _ _ (hv z (sub z hzx))), rfl, _, _, rfl, _, _, rfl, rfl, ?_⟩
      refine ⟨_, rfl, _, rfl, _, _, rfl, rfl, wide_mul (a := 121) (b := 6) (by show ((comN c (xs.take i) : Nat) : Int).natAbs < _; have := sz i; omega) (by show (((c z).den : Nat) : Int).natAbs < 2 ^ 6; have := (cs' z hzx).1; omega) (by decide) (by decide) (by decide), ?_⟩
      refine ⟨some (.int (c z).num), some (.int ((c z).den : Int)), ?_, rfl⟩
      rw [take_one hz, comN_snoc]
      show [some (V.ref d), some (V.ref D), some (V.int ((comN c (xs.take i) : Int) * ((c z).den : Int))), some (V.int (c z).num), some (V.int ((c z).den : Int)), none, none, none, none, none, none] = _
      rw [Int.natCast_mul]
    rintro σ H' ⟨v3, v4, rfl, eH⟩
    subst eH
    rw [List.length_map, take_all]
    have szA : comN c xs < 2 ^ 121 := by
      have := sz xs.length
      rw [take_all] at this
      exact this
    obtain ⟨W, hW⟩ : ∃ W, W = xs.map (wcr c (comN c xs)) := ⟨_, rfl⟩
    have lW : W.length = xs.length := by rw [hW, List.length_map]
    obtain ⟨n, hn⟩ : ∃ n, n = xs.length := ⟨_, rfl⟩
    obtain ⟨M, hM⟩ : ∃ M, M = 2 ^ n := ⟨_, rfl⟩
    have M0 : 0 < M := by rw [hM]; exact Nat.pow_pos (by decide)
    have n10 : n ≤ 10 := by omega
    have M1 : M ≤ 1024 := by
      rw [hM]
      exact Nat.pow_le_pow_right (n := 2) (i := n) (j := 10) (by decide) n10
    refine ⟨by show 1 ≤ sizeLine; decide, fun S0 fS => ?_⟩
    have sS := same_new (o := .lst [.int 0]) fS
    have hS : (upd H' S0 (.lst [.int 0])) S0 = some (.lst [.int 0]) := upd_same
    refine ⟨by show 1 ≤ sizeLine; decide, fun F0 fF => ?_⟩
    have sF := same_new (o := .lst [.int 0]) fF
    have hF : (upd (upd H' S0 (.lst [.int 0])) F0 (.lst [.int 0])) F0 = some (.lst [.int 0]) := upd_same
    have nSF : S0 ≠ F0 := ne_of_none hS fF
    have hS := sF _ _ hS
    have s3 := sS.trans sF
    have fF' : H' F0 = none := sS.free fF
    generalize upd (upd H' S0 (.lst [.int 0])) F0 (.lst [.int 0]) = H3 at hS hF s3
    refine ⟨by show 2 ≤ sizeLine; decide, fun u fu => ?_⟩
    have su := same_new (o := .tup [.ref S0, .ref F0]) fu
    refine ⟨u, _, rfl, SqT.of upd_same, rfl, _, _, rfl, _, _, rfl, rfl, ?_⟩
    have hS := su _ _ hS
    have hF := su _ _ hF
    have s3 := s3.trans su
    generalize upd H3 u (.tup [.ref S0, .ref F0]) = H4 at hS hF s3
    have e2 : (1 * 2 ^ (((xs.map fun x => V.ref (ad x)).length : Int)).toNat : Int) = (M : Int) := by
      rw [List.length_map, Int.toNat_natCast, Int.one_mul, hM, hn, Int.natCast_pow]
      rfl
    refine ⟨_, rfl, D, _, rfl, .inl (SqL.of (s3 _ _ hD)), _, _, rfl, rfl, ⟨by omega, by rw [List.length_map]; omega, by decide⟩, 1, (M : Int), congrArg (fun x => [V.int 1, V.int x]) e2, ⟨by decide, by decide, by omega, by omega⟩, ?_⟩
    have e3 : ((M : Int) - 1).toNat = M - 1 := by omega
    rw [e3]
    refine for_range (n := M - 1) (fun i σ G => (∃ v3 v4 v7 v8 : Option V, σ = [some (.ref d), some (.ref D), some (.int ((comN c xs : Nat) : Int)), v3, v4, some (.ref S0), some (.ref F0), v7, v8, none, none]) ∧ Same H' G ∧ ∃ (g : Nat → Int), G S0 = some (.lst ((List.range (i + 1)).map fun S => V.int (sm W S))) ∧ G F0 = some (.lst ((List.range (i + 1)).map fun S => V.int (g S))) ∧ Nt n (zOf (sumsL W)) g (i + 1))
      ⟨⟨_, _, _, _, rfl⟩, s3, fun _ => 0, (by rw [hS]; show _ = some (HO.lst [V.int (sm W 0)]); rw [sm_zero]), hF, ⟨rfl, fun S a b => absurd b (by omega), fun S a b => absurd b (by omega)⟩⟩ ?_ ?_
    · rintro i σ G hi ⟨⟨v3, v4, v7, v8, rfl⟩, sG, g, hSg, hFg, nt⟩
      obtain ⟨m, hm⟩ : ∃ m, m = i + 1 := ⟨_, rfl⟩
      rw [← hm] at hSg hFg nt
      have ec : (1 + (i : Int)) = (m : Int) := by omega
      have m0 : 0 < m := by omega
      have mM : m < 2 ^ n := by omega
      rw [ec]
      have hDg := sG _ _ hD
      have bl12 : (bs n m).length ≤ 10 := Nat.le_trans (List.length_filter_le _ _) (by simp; omega)
      refine ⟨_, rfl, D, _, rfl, .inl (SqL.of hDg), _, rfl, by omega, by rw [List.length_map]; omega, fun B fB => lc_range (n := (xs.map fun x => V.ref (ad x)).length) (fun j G2 => G2 B = some (.lst ((bs j m).map fun k => V.int ((k : Nat) : Int))) ∧ Same G G2) ⟨upd_same, same_new fB⟩ ?_ ?_⟩
      · rintro j G2 hj ⟨hB, s4⟩
        rw [List.length_map] at hj
        have ej : (0 + (j : Int)) = (j : Int) := Int.zero_add _
        have tj : (0 + (j : Int)).toNat = j := by omega
        have lb : (bs j m).length ≤ 20 := Nat.le_trans (List.length_filter_le _ _) (by simp; omega)
        refine ⟨rfl, _, rfl, _, rfl, _, _, rfl, rfl, (by omega : (0 : Int) ≤ 0 + (j : Int)), m / 2 ^ j, ?_, rfl, rfl, _, rfl, ?_⟩
        · show V.int ((m : Int) / 2 ^ (0 + (j : Int)).toNat) = _
          rw [tj, Int.natCast_ediv, Int.natCast_pow]
          rfl
        have tb : m.testBit j = decide (m / 2 ^ j % 2 = 1) := Nat.testBit_eq_decide_div_mod_eq
        refine ite2 (fun q => ?_) (fun q => ?_)
        · have q' : m.testBit j = true := by
            have z := of_decide_eq_true q
            rw [tb]
            refine decide_eq_true ?_
            have := V.int.inj z
            omega
          refine ⟨_, rfl, _, hB, by rw [List.length_map]; exact line_lt (by omega), ?_, same_put s4 fB⟩
          rw [upd_same, bs_step (n := xs.length) hj, if_pos q', List.map_append, ej]
          rfl
        · have q' : ¬ m.testBit j = true := fun z => by
            rw [tb] at z
            have z := of_decide_eq_true z
            refine absurd (decide_eq_true ?_) q
            rw [z]
            rfl
          rw [bs_step (n := xs.length) hj, if_neg q', List.append_nil]
          exact ⟨hB, s4⟩
      rintro G2 ⟨hB, s4⟩
      rw [List.length_map, ← hn] at hB
      have hS4 := s4 _ _ hSg
      have at_x : ∀ {j k : Nat}, (bs n m)[j]? = some k → ∃ x, x = xs.getD k "" ∧ x ∈ xs ∧ atI (xs.map fun x => V.ref (ad x)) (k : Int) = some (.ref (ad x)) ∧ W.getD k 0 = wcr c (comN c xs) x := fun {j k} h => by
        have hk := (mem_bs.mp (List.mem_of_getElem? h)).1
        have g1 := get_x (xs := xs) (show k < xs.length by omega)
        refine ⟨_, rfl, List.mem_of_getElem? g1, atI_nat (by rw [List.getElem?_map, g1]; rfl), ?_⟩
        rw [hW, List.getD_eq_getElem?_getD, List.getElem?_map, g1]
        rfl
      -- the sum
      refine ⟨_, rfl, .inl ⟨rfl, _, SqL.of hS4⟩, _, rfl, B, rfl, ⟨_, SqL.of hB⟩, fun E1 fE => lc_list (K := K) (xs := (bs n m).map fun k => V.int ((k : Nat) : Int)) (fun j G3 => G3 E1 = some (.lst ((((bs n m).take j).map fun k => W.getD k 0).map V.int)) ∧ Same G2 G3) ⟨upd_same, same_new fE⟩ (fun j G3 _ z => SqL.of (z.2 _ _ hB)) ?_ ?_⟩
      · rintro j v G3 hj ⟨hE, s5⟩
        rw [List.getElem?_map] at hj
        obtain ⟨k, hk, rfl⟩ := Option.map_eq_some_iff.mp hj
        obtain ⟨x, ex, hx, atx, wx⟩ := at_x hk
        have s45 := sG.trans (s4.trans s5)
        have hD5 := s45 _ _ hD
        have hvx := s45 _ _ (s02 _ _ (hv x (sub x hx)))
        have dp := Rat.den_pos (c x)
        have d60 := (cs' x hx).1
        have e : ((comN c xs : Nat) : Int).fdiv (((c x).den : Nat) : Int) = ((comN c xs : Nat) : Int) / (((c x).den : Nat) : Int) := Int.fdiv_eq_ediv_of_nonneg _ (by omega)
        have lq : (((comN c xs : Nat) : Int) / (((c x).den : Nat) : Int)).natAbs < 2 ^ 121 := by
          rw [← Int.natCast_ediv, Int.natAbs_natCast]
          exact Nat.lt_of_le_of_lt (Nat.div_le_self _ _) szA
        refine ⟨rfl, _, rfl, _, rfl, D, _, _, _, rfl, rfl, SqL.of hD5, atx, ad x, _, _, _, rfl, rfl, SqT.of hvx, atI_nat (j := 0) rfl, _, rfl, _, rfl, _, rfl, D, _, _, _, rfl, rfl, SqL.of hD5, atx, ad x, _, _, _, rfl, rfl, SqT.of hvx, atI_nat (j := 1) rfl, _, _, rfl, rfl, ⟨by show (((c x).den : Nat) : Int) ≠ 0; omega, log_lt (n := 6) (by show (((c x).den : Nat) : Int).natAbs < 2 ^ 6; omega) (by decide) (by decide)⟩, ?_⟩
        refine ⟨_, _, rfl, rfl, ?_, ?_⟩
        · show CMulW (pr (c x)).1 (((comN c xs : Nat) : Int).fdiv (((c x).den : Nat) : Int))
          rw [e]
          exact wide_mul (a := 11) (b := 121) (by show (c x).num.natAbs < 2 ^ 11; have := (cs' x hx).2; omega) lq (by decide) (by decide) (by decide)
        · refine ⟨_, hE, by rw [List.length_map, List.length_map, List.length_take]; exact line_lt (by omega), ?_, same_put s5 fE⟩
          rw [upd_same, take_one hk, List.map_append, List.map_append]
          show some (HO.lst (_ ++ [V.int ((pr (c x)).1 * ((comN c xs : Nat) : Int).fdiv (((c x).den : Nat) : Int))])) = some (HO.lst (_ ++ [V.int (W.getD k 0)]))
          rw [e, wx]
          rfl
      rintro G3 ⟨hE, s5⟩
      rw [List.length_map, take_all] at hE
      have esum : ((bs n m).map fun k => W.getD k 0).sum = sm W m := by
        unfold sm
        rw [lW, hn]
      refine ⟨E1, _, rfl, SqL.of hE, S0, _, V.int (sm W m), rfl, congrArg (fun x => [V.int x]) esum, s5 _ _ hS4, by rw [List.length_map, List.length_range]; exact line_lt (by omega), ?_⟩
      have hS6 : (upd G3 S0 (.lst (((List.range m).map fun S => V.int (sm W S)) ++ [V.int (sm W m)]))) S0 = some (.lst ((List.range (m + 1)).map fun S => V.int (sm W S))) := by
        rw [upd_same, List.range_succ, List.map_append]
        rfl
      have keepS : ∀ b o, G3 b = some o → b ≠ S0 → (upd G3 S0 (.lst (((List.range m).map fun S => V.int (sm W S)) ++ [V.int (sm W m)]))) b = some o := fun b o e n => by rw [upd_ne n]; exact e
      have nB : B ≠ S0 := fun z => by rw [z, hSg] at fB; cases fB
      have hB6 := keepS _ _ (s5 _ _ hB) nB
      have hF6 := keepS _ _ (s5 _ _ (s4 _ _ hFg)) nSF.symm
      have s6 : Same H' (upd G3 S0 (.lst (((List.range m).map fun S => V.int (sm W S)) ++ [V.int (sm W m)]))) := same_put (sG.trans (s4.trans s5)) fS
      generalize upd G3 S0 (.lst (((List.range m).map fun S => V.int (sm W S)) ++ [V.int (sm W m)])) = G4 at hS6 hB6 hF6 s6
      -- the most
      refine ⟨_, rfl, .inl ⟨rfl, _, SqL.of hF6⟩, _, rfl, B, rfl, ⟨_, SqL.of hB6⟩, fun E2 fE2 => lc_list (K := K) (xs := (bs n m).map fun k => V.int ((k : Nat) : Int)) (fun j G5 => G5 E2 = some (.lst ((((bs n m).take j).map fun k => g (m - 2 ^ k)).map V.int)) ∧ Same G4 G5) ⟨upd_same, same_new fE2⟩ (fun j G5 _ z => SqL.of (z.2 _ _ hB6)) ?_ ?_⟩
      · rintro j v G5 hj ⟨hE2, s7⟩
        rw [List.getElem?_map] at hj
        obtain ⟨k, hk, rfl⟩ := Option.map_eq_some_iff.mp hj
        obtain ⟨hkn, hkb⟩ := mem_bs.mp (List.mem_of_getElem? hk)
        have le := (rem k m hkb).1
        have p2 : 0 < 2 ^ k := Nat.pow_pos (by decide)
        have e6 : (m : Int) - 1 * 2 ^ ((k : Int)).toNat = ((m - 2 ^ k : Nat) : Int) := by
          rw [Int.toNat_natCast, Int.one_mul, Int.natCast_sub le, Int.natCast_pow]
          rfl
        have at_g : atI ((List.range m).map fun S => V.int (g S)) ((m : Int) - 1 * 2 ^ ((k : Int)).toNat) = some (.int (g (m - 2 ^ k))) := by
          rw [e6]
          exact atI_nat (by rw [List.getElem?_map, List.getElem?_range (by omega)]; rfl)
        refine ⟨rfl, _, rfl, _, rfl, _, rfl, _, _, rfl, rfl, ⟨by omega, by omega, by decide⟩, _, _, rfl, rfl, F0, _, _, _, rfl, rfl, SqL.of (s7 _ _ hF6), at_g, _, hE2, by rw [List.length_map, List.length_map, List.length_take]; exact line_lt (by omega), ?_, same_put s7 fE2⟩
        rw [upd_same, take_one hk, List.map_append, List.map_append]
        rfl
      rintro G5 ⟨hE2, s7⟩
      rw [List.length_map, take_all] at hE2
      obtain ⟨k0, hk0, hb0⟩ := some_bit m0 mM
      refine ⟨E2, _, rfl, SqL.of hE2, by rw [List.length_map]; exact List.length_pos_of_mem (mem_bs.mpr ⟨hk0, hb0⟩), fun mx hmx hmax => ?_⟩
      obtain ⟨k, hk, rfl⟩ := List.mem_map.mp hmx
      obtain ⟨hkn, hkb⟩ := mem_bs.mp hk
      have best : ∀ j, j < n → m.testBit j = true → g (m - 2 ^ j) ≤ g (m - 2 ^ k) := fun j hj hb => hmax _ (List.mem_map.mpr ⟨j, mem_bs.mpr ⟨hj, hb⟩, rfl⟩)
      have hS7 := s7 _ _ hS6
      have hF7 := s7 _ _ hF6
      refine ⟨_, rfl, _, rfl, S0, _, _, V.int (sm W m), rfl, rfl, SqL.of hS7, atI_nat (by rw [List.getElem?_map, List.getElem?_range (by omega)]; rfl), rfl, .inr ⟨_, rfl, _, _, rfl, rfl, ?_⟩⟩
      have ez : decide (V.int (sm W m) = V.int 0) = zOf (sumsL W) m := by
        rw [z_sm (by rw [lW, ← hn]; exact mM)]
        exact decide_eq_decide.mpr ⟨fun h => V.int.inj h, fun h => congrArg V.int h⟩
      refine ⟨F0, _, V.int (g (m - 2 ^ k) + t (zOf (sumsL W) m)), rfl, ?_, hF7, by rw [List.length_map, List.length_range]; exact line_lt (by omega), ?_⟩
      · show [V.int (g (m - 2 ^ k) + if decide (V.int (sm W m) = V.int 0) = true then 1 else 0)] = _
        rw [ez]
        rfl
      refine ⟨⟨_, _, _, _, rfl⟩, same_put (s6.trans s7) fF', upN g m (g (m - 2 ^ k) + t (zOf (sumsL W) m)), ?_, ?_, ?_⟩
      · rw [upd_ne nSF, ← hm]
        exact hS7
      · rw [upd_same, ← hm, ← rows_up (fun S => V.int (g S))]
        congr 2
        refine List.map_congr_left fun S _ => ?_
        unfold upN
        split <;> rfl
      · rw [← hm]
        exact K58.Nt.snoc nt m0 hkn hkb best
    · rintro σ G ⟨⟨v3, v4, v7, v8, rfl⟩, sG, g, hSg, hFg, nt⟩
      have e1 : M - 1 + 1 = M := by omega
      have er : (List.range (M - 1 + 1)).map (fun S => V.int (g S)) = ((List.range (M - 1)).map fun S => V.int (g S)) ++ [V.int (g (M - 1))] := by
        rw [List.range_succ, List.map_append]
        rfl
      rw [er] at hFg
      rw [e1, hM, hn, hW] at nt
      refine ⟨_, rfl, 1, rfl, F0, _, _, _, rfl, rfl, SqL.of hFg, ix_end, ?_⟩
      have := hQ G xs g (s02.trans sG) px pw nt
      rw [hM, hn]
      exact this
end
end K58
set_option Elab.async false
set_option linter.all false
set_option maxRecDepth 100000
set_option maxHeartbeats 4000000
/-! d.update(e), both dicts by texts or numbers -/
namespace DU
open PySem PySem.Spec PyProof.Rows L2
def rUpd : V → List V → Hp → VK → Prop := fun x xs H Q => ∃ (d o : Addr) (kvs more : List (Key × V)), x = .ref d ∧ xs = [.ref o] ∧ d ≠ o ∧ H d = some (.dK kvs) ∧ H o = some (.dK more) ∧ kvs.length + more.length ≤ sizeLine ∧ Q .non (upd H d (.dK (mergeK kvs more)))
theorem putK_len (kvs : List (Key × V)) (k : Key) (v : V) : (putK kvs k v).length ≤ kvs.length + 1 := by
  unfold putK
  split
  · rw [List.length_map]; omega
  · rw [List.length_append]; exact Nat.le_refl _
theorem mergeK_len : ∀ (more kvs : List (Key × V)), (mergeK kvs more).length ≤ kvs.length + more.length
  | [], kvs => Nat.le_refl _
  | p :: more, kvs => by
    have ih := mergeK_len more (putK kvs p.1 p.2)
    have h := putK_len kvs p.1 p.2
    show (mergeK (putK kvs p.1 p.2) more).length ≤ _
    rw [List.length_cons]
    omega
theorem mt_upd {X : Cx} : MtR X "dict.update" rUpd := by
  intro pins s σ H x xs v us Q I rx rxs h
  obtain ⟨d, o, kvs, more, rfl, rfl, ne, hd, ho, hz, q⟩ := h
  cases rx
  obtain ⟨u, rfl, ru⟩ := rxs.one
  cases ru
  obtain ⟨l1, s1, vs, kv1, D1⟩ := I.hok d _ hd
  obtain ⟨l2, s2, ws, kv2, D2⟩ := I.hok o _ ho
  have e1 : vs.length = kvs.length := (Paired.length kv1).symm
  have e2 : ws.length = more.length := (Paired.length kv2).symm
  have T := D1.typeIs
  refine call_meetsIn PySem.F.slot_dict_update T PySem.F.entry_dict_update (PySem.F.args_dict_update_2 _ _) (meets_dict_update (mixKind X.prog X.w) d o ne s2) ⟨vs, ws, D1, D2, by omega, fun h' D1' D2' same => ?_⟩
  have J := I.write (t' := s.toks) (x := d) (e := d) (o := .dK (mergeK kvs more)) (by rw [hd]; exact True.intro) (.inl rfl) (fun b u hb e => (same.2 b hb).trans e) (by obtain ⟨ob, es, ep, e, _⟩ := D1'; exact ⟨ob, e⟩) ⟨Nat.le_trans (mergeK_len more kvs) hz, s1, _, KV.merge kv2 kv1, D1'⟩
  exact ⟨.non, _, J, rfl, q⟩
end DU
set_option Elab.async false
set_option linter.all false
set_option maxRecDepth 100000
set_option maxHeartbeats 4000000
/-! GE: a law's end by a promise that is asked only where no repr is under way. -/
namespace GL
open PySem PySem.Spec PyProof.Rows L2
theorem lawG {P : Program} {w : World} {K : PySem.W.Frag} {mg mb : Str → Option Value} {k : Nat} {fa a : Addr} {fd : FuncData} {x : Str} {sp : Sp} {s₁ : Shared} {vs : List Value} {ns : List Int}
    (KX : K.In s₁.heap) (hns : s₁.heap.Ns mainGlobals mg) (hb : s₁.heap.Ns builtinsNs mb) (hbb : ∀ x : Str, x ≠ "__name__" → mb x = bootBuiltins x) (hlim : s₁.heap.NoLimit) (hg : s₁.gens = #[])
    (ha : s₁.heap.get? a = some { cls := .type "list", data := .seq vs.toArray }) (hi : IntsAre vs ns) (hl : ns.length ≤ sizeLine) (hr : Room k callerA)
    (F : ∀ base : Heap, K.In base → base.Ns mainGlobals mg → FnG P w K mg base k fa fd [x] sp) (hbind : ∀ (s : Shared) (u : Value), BindsTo s fd ⟨[u], []⟩ [(x, u)])
    (hsp : ∀ H : Hp, SqL K H a (ns.map V.int) → sp [.ref a] H (fun v _ => v = .bl true) fun _ _ _ => False) :
    codeAny (model P w) callerA (.call (.ref fa) ⟨[.ref a], []⟩) (fun r s' => r = .ok (.ret (.bool true)) ∧ OldK s₁.heap s'.heap ∧ s'.os = s₁.os ∧ AllBare s'.gens) s₁ := by
  -- the script alone is tracked, as it is, or nothing
  have from_ : ∀ H : Hp, SqL K H a (ns.map V.int) → HOk P w H s₁.heap → (∀ b u, H b = some u → b = a ∧ K.lookup a = none ∧ ∃ o xs, u = .frz o (.lst xs)) →
      codeAny (model P w) callerA (.call (.ref fa) ⟨[.ref a], []⟩) (fun r s' => r = .ok (.ret (.bool true)) ∧ OldK s₁.heap s'.heap ∧ s'.os = s₁.os ∧ AllBare s'.gens) s₁ := by
    intro H hS hok hA
    have off : ∀ b, (b = a → K.lookup a ≠ none) → H b = none := fun b n => by
      cases q : H b with
      | none => rfl
      | some u => exact absurd (hA b u q).2.1 (n (hA b u q).1)
    have nsK : ∀ {b : Addr} {m : Str → Option Value}, s₁.heap.Ns b m → (hidT s₁.heap H).Ns b m := by
      rintro b m ⟨o, es, ep, e, d, r⟩
      refine ⟨o, es, ep, hidT_get e (off b fun z => ?_), d, r⟩
      subst z
      rw [ha] at e
      cases e
      cases d
    have inK : K.In (hidT s₁.heap H) := fun b o e => hidT_get (KX b o e) (off b fun z => by rw [← z, e]; simp)
    have hM : Mod K mg (hidT s₁.heap H) := ⟨inK, nsK hns, ⟨mb, nsK hb, hbb⟩, by obtain ⟨mc, h1, h2⟩ := hlim; exact ⟨mc, nsK h1, h2⟩⟩
    have nofr : ∀ b : Addr, b ∉ frs ([] : List Env) := fun b z => nomatch z
    have e0 : Env0 P w K mg (hidT s₁.heap H) callerA [] s₁ H := ⟨rfl, hM, fun b o e => of_hidT e, Nat.le_of_eq (hidT_size _ _), trivial, fun b z => absurd z (nofr b), hok, .of_eq hg⟩
    refine codeAny_mono ((F _ inK (nsK hns)).run callerA [] s₁ H ⟨[.ref a], []⟩ [.ref a] [.ref a] _ _ rfl hr e0 (hbind s₁ (.ref a)) (.cons rfl .nil) (hsp H hS)) fun r s' h => ?_
    match r, h with
    | .error e, h => exact False.elim h
    | .ok .next, h => exact False.elim h
    | .ok .brk, h => exact False.elim h
    | .ok .cont, h => exact False.elim h
    | .ok (.ret u), ⟨v, H', os, bare, un, hok', r', q⟩ =>
      cases (show v = .bl true from q)
      cases (show u = Value.bool true from r')
      refine ⟨rfl, OldK.of_keep fun b o e => ?_, os, bare⟩
      cases q : H b with
      | none => exact un.keep b o e q (nofr b) (by simp)
      | some u =>
        obtain ⟨_, _, ob, xs, rfl⟩ := hA b u q
        have e1 := (hok b _ q).1
        have e2 := (hok' b _ (un.frzs b ob _ q)).1
        rw [e] at e1
        cases e1
        exact e2
  have rv := vals_ints hi
  cases hk : K.lookup a with
  | some o =>
    have e := KX a o hk
    rw [ha] at e
    cases e
    exact from_ (fun _ => none) (.inr ⟨_, vs.toArray, _, hk, rfl, rfl, rfl, by rw [List.size_toArray, hi.length]; exact hl, by simpa using rv⟩) (fun b u z => nomatch z) (fun b u z => nomatch z)
  | none =>
    have at_ : ∀ (b : Addr) (u : HO), (if b = a then some (HO.frz { cls := .type "list", data := .seq vs.toArray } (.lst (ns.map V.int))) else none) = some u → b = a ∧ u = HO.frz { cls := .type "list", data := .seq vs.toArray } (.lst (ns.map V.int)) := fun b u z => by
      by_cases h : b = a
      · rw [if_pos h] at z
        exact ⟨h, (Option.some.inj z).symm⟩
      · rw [if_neg h] at z
        cases z
    refine from_ (fun b => if b = a then some (.frz { cls := .type "list", data := .seq vs.toArray } (.lst (ns.map V.int))) else none) (.inl (.inr ⟨{ cls := .type "list", data := .seq vs.toArray }, if_pos rfl⟩)) (fun b u z => ?_) (fun b u z => ?_)
    · obtain ⟨rfl, rfl⟩ := at_ b u z
      exact ⟨ha, by rw [List.length_map]; exact hl, vs, _, rv, ha⟩
    · obtain ⟨rfl, rfl⟩ := at_ b u z
      exact ⟨rfl, hk, _, _, rfl⟩
/-- a law: F gives the written part, the function object, the promise over every base -/
theorem walkG {l : PySem.W.OpenLaw} {n k : Nat} {q : Program} {loose : List Str} {XP : (Str → Option Value) → Heap → Prop} {YP : World → Heap → Prop} {d : DefRec} {x : Str} (hn : l.most = some n) (hn2 : n ≤ sizeLine) (hdf : d.params.defaults = []) (hr : Room k callerA)
    (F : ∀ (w : World) (mg : Str → Option Value) (fa : Addr) (h : Heap), YP w h → h.Ns mainGlobals mg → mg d.name = some (.ref fa) →
      ∃ (K : PySem.W.Frag) (fd : FuncData) (sp : Sp), K.In h ∧ (∀ (s : Shared) (u : Value), BindsTo s fd ⟨[u], []⟩ [(x, u)]) ∧
        (∀ (H : Hp) (a : Addr) (ns : List Int), ns.length ≤ n → SqL K H a (ns.map V.int) → sp [.ref a] H (fun v _ => v = .bl true) fun _ _ _ => False) ∧
        ∀ base : Heap, K.In base → base.Ns mainGlobals mg → FnG l.prog w K mg base k fa fd [x] sp) : PySem.W.WalkO q loose XP YP l.row.toRowW d [] (fun f vs => PySem.call f vs) := by
  refine Att.attach_call hn hdf fun w s₀ s₁ mg mb fa o pm cd doc a vs ns G Y ho hd hcd hmg hobj hints hlen hg => ?_
  obtain ⟨K, fd, sp, KX, hb, hsp, hF⟩ := F w mg fa _ Y G.T.g hmg
  exact lawG KX G.T.g G.T.b G.T.builtins G.T.nolimit hg hobj hints (Nat.le_trans hlen hn2) hr hF hb fun H hS => hsp H a ns hlen hS
end GL
set_option Elab.async false
set_option linter.all false
set_option maxRecDepth 100000
set_option maxHeartbeats 4000000
namespace K58
open PySem PySem.Spec PyProof.Rows L2
open C8 (Cal Mak Met pe_c pe_mk pe_mt pe_mt0)
open KM (pr Sz)
open SX (S)
open SETM SRX
theorem Gr.cs {B : Nat} {r : Rat} (hB : 0 < B) (b60 : B ≤ 60) (h : Gr B 1100 r) : Cs r := by
  obtain ⟨t, rfl, a⟩ := h
  have hb : (B : Int) ≠ 0 := by omega
  have e := KM.low_eq (t := t) hb
  have e1 : (KM.low t B).1 = (Rat.divInt t B).num := congrArg Prod.fst e
  have e2 : (KM.low t B).2 = ((Rat.divInt t B).den : Int) := congrArg Prod.snd e
  have l1 := KM.low_top_le (t := t) hb
  have l2 := KM.low_bot_le (t := t) hb
  constructor
  · have : ((KM.low t B).2).natAbs ≤ 60 := by omega
    rw [e2] at this
    simpa using this
  · rw [← e1]
    omega
theorem cut_to {α : Type} (g : α → V) (L : List α) {j : Nat} (h : j ≤ L.length) : cutV (L.map g) none (some (j : Int)) = (L.take j).map g := by
  unfold cutV
  rw [HT.sIx_nat, HT.sIx_none, List.length_map, Nat.min_eq_left h, List.map_take]
  rfl
theorem cut_fr {α : Type} (g : α → V) (L : List α) {j : Nat} (h : j ≤ L.length) : cutV (L.map g) (some (j : Int)) none = (L.drop j).map g := by
  unfold cutV
  rw [HT.sIx_nat, HT.sIx_none, List.length_map, Nat.min_eq_left h, List.map_drop]
  exact List.take_of_length_le (by rw [List.length_drop, List.length_map]; omega)
theorem putK_new {kvs : List (Key × V)} {k : Key} {v : V} (h : ∀ p ∈ kvs, p.1 ≠ k) : putK kvs k v = kvs ++ [(k, v)] := by
  unfold putK
  rw [if_neg]
  intro z
  obtain ⟨p, hp, e⟩ := List.any_eq_true.mp z
  exact h p hp (of_decide_eq_true e)
theorem mergeK_new : ∀ (more kvs : List (Key × V)), (∀ p ∈ kvs, ∀ q ∈ more, p.1 ≠ q.1) → more.Pairwise (fun p q => p.1 ≠ q.1) → mergeK kvs more = kvs ++ more
  | [], kvs, _, _ => (List.append_nil kvs).symm
  | q :: more, kvs, h, pw => by
    have e : mergeK kvs (q :: more) = mergeK (putK kvs q.1 q.2) more := rfl
    obtain ⟨p1, p2⟩ := List.pairwise_cons.mp pw
    rw [e, putK_new fun p hp => h p hp q List.mem_cons_self, mergeK_new more _ (fun p hp r hr => ?_) p2, List.append_assoc]
    · rfl
    · rcases List.mem_append.mp hp with hp | hp
      · exact h p hp r (List.mem_cons_of_mem _ hr)
      · rw [List.mem_singleton.mp hp]
        exact p1 r hr
/-- one or the other -/
def either {α : Type} (L : List Str) (f g : Str → α) : Str → α := fun x => if x ∈ L then f x else g x
theorem either_l {α : Type} {L : List Str} {f g : Str → α} {x : Str} (h : x ∈ L) : either L f g x = f x := if_pos h
theorem either_r {α : Type} {L : List Str} {f g : Str → α} {x : Str} (h : x ∉ L) : either L f g x = g x := if_neg h
/-- what a turn's credits are -/
structure Tr (L : List Str) (c : Str → Rat) : Prop where
  nd : L.Nodup
  ll : L.length ≤ 10
  cs : ∀ x ∈ L, Cs (c x) ∧ Nmd x
  s0 : sumR (L.map c) = 0
theorem Tr.of {L : List Str} {c : Str → Rat} {B : Nat} (h : Crd L c B) (l : L.length ≤ 10) (nm : ∀ x ∈ L, Nmd x) : Tr L c := ⟨h.nd, l, fun x hx => ⟨(h.gr x hx).cs h.B0 h.B1, nm x hx⟩, h.s0⟩
theorem Tr.two {L M : List Str} {c e : Str → Rat} (a : Tr L c) (b : Tr M e) (dj : ∀ x ∈ M, x ∉ L) (l : L.length + M.length ≤ 10) : Tr (L ++ M) (either L c e) := by
  have e1 : L.map (either L c e) = L.map c := List.map_congr_left fun x hx => either_l hx
  have e2 : M.map (either L c e) = M.map e := List.map_congr_left fun x hx => either_r (dj x hx)
  refine ⟨List.nodup_append.mpr ⟨a.nd, b.nd, fun x hx y hy z => dj y hy (z ▸ hx)⟩, by rw [List.length_append]; exact l, fun x hx => ?_, ?_⟩
  · rcases List.mem_append.mp hx with h | h
    · rw [either_l h]
      exact a.cs x h
    · rw [either_r (dj x h)]
      exact b.cs x h
  · rw [List.map_append, e1, e2, sumR_app, a.s0, b.s0]
    exact Rat.zero_add 0
section
variable {P : Program} {w : World} {K : PySem.W.Frag} {mg : Str → Option Value} {base : Heap} {f C : Addr} {fd : FuncData}
def spLaw (K : PySem.W.Frag) : Sp := fun vs H Q _ => ∃ (a : Addr) (ns : List Int), vs = [.ref a] ∧ SqL K H a (ns.map V.int) ∧ ns.length ≤ 63 ∧ ∀ H', Q (.bl true) H'
theorem ok_law (F : Dn K d_law f fd) (bl : Bl mg) (brep : mg "repr" = none) (Sp : OW.Spc P w K mg base 1 C "__repr__" (spStr C rpS)) (cH : Cal P w K mg base 1 "_law_held" (spHeld K) []) (cD : CalD P w K mg base) (cNm : Cal P w K mg base 2 "_law_names" spNames []) (cStd : Cal P w K mg base 3 "_law_standing" spStd [])
    (cLS : Cal P w K mg base 4 "_law_shares" (spLS C) []) (cSe : Cal P w K mg base 8 "settled" (spSe C) []) (cHd : Cal P w K mg base 2 "_law_handed" (spHd C) []) (cLd : Cal P w K mg base 4 "_law_led" spLd []) (cMl : Cal P w K mg base 1 "_law_most_lots" spMl []) : GL.FnG P w K mg base 9 f fd ["_law_script"] (spLaw K) := by
  refine GL.okG F sc_law (fun vs H Q E h => ?_) (fun cdv A outer s H vs Q E hgd hr h => ?_)
  · obtain ⟨a, ns, rfl, _⟩ := h
    rfl
  · obtain ⟨s0, ns, rfl, hS, hlen, hQ⟩ := h
    have hu := hu_of hr
    have hu64 : (A.deeper (envOfC d_law.qual d_law.scope s.heap.objs.size f cdv)).units + 64 < cLine := by have := hr.un; omega
    refine ⟨_, PSs.nox (pss_cons (ps_set (i := 1) sc_law.nd rfl (.inl rfl) (pe_c cH hr (by decide) rfl (pa_cons (pv 0) pa_nil)))
      (pss_cons (ps_for PassesOwn.never rfl (pi_range1 rfl bl.range (pa_cons pe_int pa_nil)) (pg_name (i := 2) sc_law.nd rfl (.inl rfl))
        (pss_cons (ps_set (i := 3) sc_law.nd rfl (.inl rfl) (pe_c cNm hr (by decide) rfl (pa_cons (pv 1) (pa_cons pe_int pa_nil))))
        (pss_cons (ps_set (i := 4) sc_law.nd rfl (.inl rfl) (pe_op op_add pe_int (pe_c cD hr (by decide) rfl (pa_cons (pv 1) (pa_cons pe_int pa_nil)))))
        (pss_cons (ps_set (i := 5) sc_law.nd rfl (.inr rfl) (pe_c cStd hr (by decide) rfl (pa_cons (pv 1) (pa_cons (pe_slice sl_list (pv 3) po_none (po_some (pv 4))) pa_nil))))
        (C8.pss_cut (ps_if (pt_cmpR op_eq (pe_c cD hr (by decide) rfl (pa_cons (pv 1) (pa_cons pe_int pa_nil))) pe_int (nomark _)) (pss_one (ps_expr (pe_bm PySem.F.plainAttrs_dict PySem.F.slot_dict_update PySem.F.type_dict_update DU.mt_upd (pv 5) (pa_cons (pe_c cStd hr (by decide) rfl (pa_cons (pv 1) (pa_cons (pe_slice sl_list (pv 3) (po_some (pv 4)) po_none) pa_nil))) pa_nil)))) pss_nil)
        (pss_cons (ps_set (i := 6) sc_law.nd rfl (.inl rfl) (pe_c cLS hr (by decide) rfl (pa_cons (pv 5) pa_nil)))
        (pss_cons (ps_set (i := 7) sc_law.nd rfl (.inl rfl) (pe_c cHd hr (by decide) rfl (pa_cons (pe_c cSe hr (by decide) rfl (pa_cons (pv 6) pa_nil)) pa_nil)))
        (pss_cons (ps_if (pt_cmpR op_isN1 (pv 7) pe_non (nomark _)) pss_never pss_nil)
        (pss_cons (ps_set (i := 8) sc_law.nd rfl (.inr rfl) (pe_c cLd hr (by decide) rfl (pa_cons (pv 5) (pa_cons (pv 7) pa_nil))))
        (pss_cons (ps_if (PW.pt (pw_or (pt_cmpR op_isN1 (pv 8) pe_non (nomark _)) (pw_or1 (pt_cmpR (op_neD hu64) (pe_lock (pe_lc (own := [("_law_name", 10)]) (g := gName 10) rfl sc_law.nd (pi_keys (pv 8)) (blkOk_by (N := N_law) (sc := defScope s_law) (by decide +kernel))
            (fun _ _ _ _ _ => pg_name (i := 10) sc_law.nd rfl (Or.inl rfl)) (fun _ _ _ _ _ => pts_one (pt_cmpR op_ne (pe_ix (r := rIxT K) ix_tup (pe_dget hu (pv 8) (pv 10) (fun _ _ => rfl)) pe_int (fun _ _ => rfl)) pe_int (nomark _))) (fun _ _ _ _ _ => pv 10))) (pe_lst pa_nil) (nomark _))))) pss_never pss_nil)
        (pss_cons (ps_lock (ps_setLc (i := 9) (own := [("_law_name", 10)]) (g := gName 10) rfl sc_law.nd rfl rfl (sw_true rfl rfl rfl (by decide +kernel)) (pi_keys (pv 5)) (blkOk_by (N := N_law) (sc := defScope s_law) (by decide +kernel))
            (fun _ _ _ _ _ => pg_name (i := 10) sc_law.nd rfl (Or.inl rfl)) (fun _ _ _ _ _ => pts_one (pt_cmpR op_ne (pe_ix (r := rIxT K) ix_tup (pe_dget hu (pv 5) (pv 10) (fun _ _ => rfl)) pe_int (fun _ _ => rfl)) pe_int (nomark _))) (fun _ _ _ _ _ => pv 10)))
        (pss_one (ps_if (PW.pt (pw_or (pt_cmpR op_ne (pe_callB call_len_seq rfl bl.len boot_len (pa_cons (pv 7) pa_nil)) (pe_op op_sub (pe_callB call_len_seq rfl bl.len boot_len (pa_cons (pv 9) pa_nil)) (pe_c cMl hr (by decide) rfl (pa_cons (pv 5) pa_nil))) (nomark _))
          (pw_or1 (pt_cmpR op_ne (pe_callB (RPO.call_reprDc (n := 1) hgd (hr.mono (by decide))) rfl brep boot_repr (pa_cons (pv 6) pa_nil)) (pe_callB (RPO.call_reprDc (n := 1) hgd (hr.mono (by decide))) rfl brep boot_repr (pa_cons (pe_c cLS hr (by decide) rfl (pa_cons (pv 5) pa_nil)) pa_nil)) (nomark _))))) pss_never pss_nil)))))))))))))
      (pss_one (ps_ret pe_bl)))), ?_⟩
    refine ⟨_, rfl, s0, ns, rfl, hS, hlen, fun h H1 s1 f1 held1 => ?_⟩
    refine ⟨2, rfl, by decide, by decide, for_range (n := 2) (fun i σ H2 => ∃ v2 v3 v4 v5 v6 v7 v8 v9 v10, σ = [some (.ref s0), some (.ref h), v2, v3, v4, v5, v6, v7, v8, v9, v10] ∧ Held H2 h (1000 * (8 - i)))
      ⟨_, _, _, _, _, _, _, _, _, rfl, held1.weak (by decide)⟩ ?_ ?_⟩
    · rintro i σ H2 hi ⟨v2, v3, v4, v5, v6, v7, v8, v9, v10, rfl, held2⟩
      obtain ⟨k, hk⟩ : ∃ k, 1000 * (8 - i) = k + 1000 := ⟨1000 * (8 - i) - 1000, by omega⟩
      rw [hk] at held2
      refine ⟨_, rfl, h, k + 900, 10, rfl, held2.weak (by omega), by decide, fun o zs H3 held3 k3 fo ho zl zok zpw => ?_⟩
      refine ⟨_, rfl, h, k + 899, _, rfl, held3.weak (by omega), by decide, by decide, fun r H4 r0 r1 held4 k4 => ⟨_, _, rfl, rfl, ?_⟩⟩
      obtain ⟨n, hn, n1, n9⟩ : ∃ n : Nat, (1 + r : Int) = (n : Int) ∧ 1 ≤ n ∧ n ≤ 9 := ⟨(1 + r).toNat, by omega, by omega, by omega⟩
      have noh : o ≠ h := held3.no ho fun kvs e => by cases e
      have ho4 := k4.1 _ _ ho noh
      have zsplit := List.take_append_drop n zs
      have zpw2 := zpw
      rw [← zsplit] at zpw2
      obtain ⟨pw1, pw2, pwx⟩ := List.pairwise_append.mp zpw2
      -- the first ones
      refine ⟨_, rfl, _, rfl, _, rfl, _, rfl, o, _, rfl, SqL.of ho4, ?_⟩
      intro p fp
      have ec : cutV (zs.map fun l => V.str (S l)) none (some (1 + r)) = (zs.take n).map fun l => V.str (S l) := by
        rw [hn]
        exact cut_to _ _ (by omega)
      rw [ec]
      have sp := same_new (o := .lst ((zs.take n).map fun l => V.str (S l))) fp
      have hp5 : (upd H4 p (.lst ((zs.take n).map fun l => V.str (S l)))) p = some (.lst ((zs.take n).map fun l => V.str (S l))) := upd_same
      have held5 := held4.same sp
      have ho5 := sp _ _ ho4
      generalize upd H4 p (.lst ((zs.take n).map fun l => V.str (S l))) = H5 at hp5 held5 ho5
      have lt1 : (zs.take n).length = n := by rw [List.length_take]; omega
      refine ⟨h, p, k + 840, zs.take n, rfl, held5.weak (by omega), hp5, (fun e => by rw [e] at lt1; simp at lt1; omega), by omega, pw1, fun d H6 L c B held6 k6 fd5 ndh Td cr pL => ?_⟩
      have cel6 : Cel h d H6 := (Cel.of held5 fd5).kp k6
      have ho6 := k6.1 _ _ ho5 noh
      have nmL : ∀ x ∈ L, Nmd x := fun x hx => by
        obtain ⟨l, hl, rfl⟩ := List.mem_map.mp (pL.mem_iff.mp hx)
        exact ⟨l, rfl, zok l (List.mem_of_mem_take hl)⟩
      have lL : L.length = n := by rw [pL.length_eq, List.length_map, lt1]
      have tr1 : Tr L c := Tr.of cr (by omega) nmL
      refine ⟨fun σ' H' => ∃ (L : List Str) (c : Str → Rat), σ' = [some (.ref s0), some (.ref h), some (.int (0 + (i : Int))), some (.ref o), some (.int (1 + r)), some (.ref d), v6, v7, v8, v9, v10] ∧ TDc H' d L c ∧ Tr L c ∧ Held H' h k, ?_, ?_⟩
      · refine ⟨_, rfl, h, k + 800, 2, rfl, held6.weak (by omega), by decide, by decide, fun b H7 b0 b1 held7 k7 => ⟨rfl, _, rfl, ?_⟩⟩
        have Td7 := Td.kp held6 ndh k7
        have cel7 := cel6.kp k7
        have ho7 := k7.1 _ _ ho6 noh
        refine ite2 (fun q => ?_) (fun q => ?_)
        · obtain ⟨ad, hd7, hv7⟩ := id Td7
          refine ⟨_, rfl, .inr (.inr (.inl ⟨rfl, .inl ⟨_, hd7⟩⟩)), _, rfl, _, rfl, _, rfl, _, rfl, o, _, rfl, SqL.of ho7, ?_⟩
          intro p2 fp2
          have ec2 : cutV (zs.map fun l => V.str (S l)) (some (1 + r)) none = (zs.drop n).map fun l => V.str (S l) := by
            rw [hn]
            exact cut_fr _ _ (by omega)
          rw [ec2]
          have sp2 := same_new (o := .lst ((zs.drop n).map fun l => V.str (S l))) fp2
          have hp8 : (upd H7 p2 (.lst ((zs.drop n).map fun l => V.str (S l)))) p2 = some (.lst ((zs.drop n).map fun l => V.str (S l))) := upd_same
          have held8 := held7.same sp2
          have Td8 := Td7.same sp2
          have cel8 := cel7.kp (Kp.same sp2)
          generalize upd H7 p2 (.lst ((zs.drop n).map fun l => V.str (S l))) = H8 at hp8 held8 Td8 cel8
          have lt2 : (zs.drop n).length = 10 - n := by rw [List.length_drop]; omega
          refine ⟨h, p2, k + 700, zs.drop n, rfl, held8.weak (by omega), hp8, (fun e => by rw [e] at lt2; simp at lt2; omega), by omega, pw2, fun d2 H9 M e B2 held9 k9 fd9 nd2h Td9 cr2 pM => ?_⟩
          have nmM : ∀ x ∈ M, Nmd x := fun x hx => by
            obtain ⟨l, hl, rfl⟩ := List.mem_map.mp (pM.mem_iff.mp hx)
            exact ⟨l, rfl, zok l (List.mem_of_mem_drop hl)⟩
          have lM : M.length = 10 - n := by rw [pM.length_eq, List.length_map, lt2]
          have tr2 : Tr M e := Tr.of cr2 (by omega) nmM
          have dj : ∀ x ∈ M, x ∉ L := fun x hx hxL => by
            obtain ⟨l, hl, e1⟩ := List.mem_map.mp (pM.mem_iff.mp hx)
            obtain ⟨l', hl', e2⟩ := List.mem_map.mp (pL.mem_iff.mp hxL)
            exact pwx l' hl' l hl (S_inj' (e2.trans e1.symm))
          obtain ⟨ad1, hd9, hv9⟩ := Td8.kp held8 ndh k9
          obtain ⟨ad2, hd29, hv29⟩ := Td9
          have cel9 := cel8.kp k9
          obtain ⟨ad', had0, _⟩ := id Td8
          have ndd : d ≠ d2 := ne_of_none had0 fd9
          have em : mergeK (L.map fun x => ((Sum.inr x : Key), V.ref (ad1 x))) (M.map fun x => ((Sum.inr x : Key), V.ref (ad2 x))) = (L ++ M).map fun x => ((Sum.inr x : Key), V.ref (either L ad1 ad2 x)) := by
            have q1 : ∀ a ∈ (L.map fun x => ((Sum.inr x : Key), V.ref (ad1 x))), ∀ b ∈ (M.map fun x => ((Sum.inr x : Key), V.ref (ad2 x))), a.1 ≠ b.1 := fun a ha b hb z => by
              obtain ⟨x, hx, rfl⟩ := List.mem_map.mp ha
              obtain ⟨y, hy, rfl⟩ := List.mem_map.mp hb
              have z : x = y := Sum.inr.inj z
              subst z
              exact dj _ hy hx
            have q2 : (M.map fun x => ((Sum.inr x : Key), V.ref (ad2 x))).Pairwise fun p q => p.1 ≠ q.1 := by
              refine List.pairwise_map.mpr ?_
              refine List.Pairwise.imp ?_ cr2.nd
              intro a b n z
              exact n (Sum.inr.inj z)
            rw [mergeK_new _ _ q1 q2, List.map_append]
            congr 1
            · exact List.map_congr_left fun x hx => by rw [either_l hx]
            · exact List.map_congr_left fun x hx => by rw [either_r (dj x hx)]
          refine ⟨d, d2, _, _, rfl, rfl, ndd, hd9, hd29, by rw [List.length_map, List.length_map]; exact line_of (by omega), ?_⟩
          rw [em]
          refine ⟨L ++ M, either L c e, rfl, ⟨either L ad1 ad2, upd_same, fun x hx => ?_⟩, tr1.two tr2 dj (by omega), (held9.put cel9).weak (by omega)⟩
          have hx9 : H9 (either L ad1 ad2 x) = some (tupP (pr (either L c e x))) := by
            rcases List.mem_append.mp hx with hx | hx
            · rw [either_l hx, either_l hx]
              exact hv9 x hx
            · rw [either_r (dj x hx), either_r (dj x hx)]
              exact hv29 x hx
          have nx : either L ad1 ad2 x ≠ d := fun z => by
            rw [z, hd9] at hx9
            cases hx9
          rw [upd_ne nx]
          exact hx9
        · exact ⟨L, c, rfl, Td7, tr1, held7.weak (by omega)⟩
      rintro σ' G0 ⟨L, c, rfl, Td, tr, held⟩
      have sz : ∀ x ∈ L, Sz 20 (c x) := fun x hx => (tr.cs x hx).1.sz
      have nL : ∀ x ∈ L, Nmd x := fun x hx => (tr.cs x hx).2
      have csL : ∀ x ∈ L, Cs (c x) := fun x hx => (tr.cs x hx).1
      have l30 : L.length ≤ 30 := by have := tr.ll; omega
      refine ⟨_, rfl, d, L, c, rfl, Td, tr.nd, l30, sz, fun sd G1 g1 fsd Sd => ?_⟩
      refine ⟨_, rfl, sd, L, c, rfl, Sd, tr.nd, tr.ll, csL, tr.s0, fun h0 G2 rows g2 fh hh done => ?_⟩
      obtain ⟨T, lots, cnt⟩ := done.cnt
      have lnz : (nzs L c).length ≤ 10 := Nat.le_trans (List.length_filter_le _ _) tr.ll
      rw [List.length_map] at cnt
      have lrows : rows.length ≤ 10 := by omega
      refine ⟨h0, rows, rfl, hh, by omega, fun o2 G3 rs g3 fo2 tl ek => ?_⟩
      have lrs : rs.length = rows.length := by
        have := congrArg List.length ek
        rw [List.length_map, List.length_map] at this
        exact this
      refine ⟨_, rfl, rfl, _, rfl, iteF ?_⟩
      have g03 := g1.trans (g2.trans g3)
      refine ⟨_, rfl, _, rfl, d, o2, L, c, rs, rfl, Td.same g03, tr.nd, l30, tl, by omega, by rw [ek]; exact done.led, by rw [ek]; exact done.mem, by rw [ek]; exact done.szv, by rw [ek]; exact done.szr, fun D G4 g4 fD TdD => ?_⟩
      rw [ek] at TdD
      refine ⟨_, rfl, rfl, _, rfl, iteF ?_⟩
      -- nobody is left
      obtain ⟨aD, hdD, hvD⟩ := TdD
      refine ⟨D, _, hdD, trivial, fun od => ?_⟩
      obtain ⟨hd1, kp1, new1, back1⟩ := lockf (C := 0) hdD od
      have hv1 : ∀ x ∈ L, (upd G4 D (.frz od (dctO L fun x => .ref (aD x)))) (aD x) = some (tupP (pr (runK c (rows.map Ro.key) x))) := fun x hx => kp1 _ _ (hvD x hx) fun z => by have := hvD x hx; rw [z, hdD] at this; cases this
      generalize upd G4 D (.frz od (dctO L fun x => .ref (aD x))) = F1 at hd1 kp1 new1 back1 hv1
      refine ⟨_, rfl, D, od, rfl, .inl ⟨_, hd1, fun B hB => lc_it walk_keys (fun i H2 => H2 B = some (.lst []) ∧ Same F1 H2) ⟨upd_same, same_new hB⟩ (fun i H2 _ z => z.2 _ _ hd1) ?_ ?_⟩⟩
      · rintro j x H2 H3 hj ⟨hB2, sm⟩ ⟨eH, kk, v, hkk, rfl⟩
        have eH := eH.symm
        subst eH
        rw [List.getElem?_map] at hkk
        obtain ⟨z, hz0, e0⟩ := Option.map_eq_some_iff.mp hkk
        cases e0
        have hzL := List.mem_of_getElem? hz0
        have dg : DGet H2 D (.str z) (some (.ref (aD z))) := .inl ⟨_, Sum.inr z, .inr ⟨od, sm _ _ hd1⟩, rfl, by rw [val_dct, if_pos hzL]⟩
        refine ⟨rfl, _, rfl, _, rfl, D, _, rfl, dg, aD z, _, _, _, rfl, rfl, SqT.of (sm _ _ (hv1 z hzL)), atI_nat (j := 0) rfl, rfl, _, rfl, ?_⟩
        have e1 : (!decide (V.int (pr (runK c (rows.map Ro.key) z)).1 = V.int 0)) = false := by
          rw [done.zero z hzL]
          exact ne_same (V.int 0)
        rw [e1]
        exact iteF ⟨hB2, sm⟩
      rintro H2 ⟨hB2, sm⟩
      obtain ⟨nB, nBd⟩ := new1 B hB
      have s2' := back1 H2 sm
      refine ⟨sm _ _ hd1, ?_⟩
      have hB3 : (upd H2 D (dctO L fun x => .ref (aD x))) B = some (.lst []) := by rw [upd_ne nBd]; exact hB2
      generalize upd H2 D (dctO L fun x => .ref (aD x)) = G5 at s2' hB3
      refine ⟨by show 0 ≤ sizeLine; decide, fun e0 fe => ?_⟩
      have s6 := same_new (o := .lst []) fe
      refine ⟨.list [], .list [], .lst (SqL.of (s6 _ _ hB3)) .nil, .lst (SqL.of upd_same) .nil, by rfl, by rfl, _, rfl, ?_⟩
      have ee : PyData.eqv (.list []) (.list []) = true := by simp [PyData.eqv, PyData.eqvAll]
      rw [ee]
      refine iteF ?_
      have g06 : Same G0 (upd G5 e0 (.lst [])) := g03.trans (g4.trans (s2'.trans s6))
      have g36 : Same G3 (upd G5 e0 (.lst [])) := g4.trans (s2'.trans s6)
      generalize upd G5 e0 (.lst []) = G6 at g06 g36
      -- who was uneven
      obtain ⟨a6, hd6, hv6⟩ := Td.same g06
      refine ⟨d, _, hd6, trivial, fun od => ?_⟩
      obtain ⟨hd7, kp7, new7, back7⟩ := lockf (C := 0) hd6 od
      have hv7 : ∀ x ∈ L, (upd G6 d (.frz od (dctO L fun x => .ref (a6 x)))) (a6 x) = some (tupP (pr (c x))) := fun x hx => kp7 _ _ (hv6 x hx) fun z => by have := hv6 x hx; rw [z, hd6] at this; cases this
      generalize upd G6 d (.frz od (dctO L fun x => .ref (a6 x))) = F7 at hd7 kp7 new7 back7 hv7
      refine ⟨_, rfl, d, od, rfl, .inl ⟨_, hd7, fun B hB => lc_it walk_keys (fun i H2 => H2 B = some (.lst (((L.take i).filter fun x => decide (c x ≠ 0)).map V.str)) ∧ Same F7 H2) ⟨upd_same, same_new hB⟩ (fun i H2 _ z => z.2 _ _ hd7) ?_ ?_⟩⟩
      · rintro j x H2 H3 hj ⟨hD2, sm⟩ ⟨eH, kk, v, hkk, rfl⟩
        have eH := eH.symm
        subst eH
        rw [List.length_map] at hj
        rw [List.getElem?_map] at hkk
        obtain ⟨z, hz0, e0⟩ := Option.map_eq_some_iff.mp hkk
        cases e0
        have hzL := List.mem_of_getElem? hz0
        refine ⟨rfl, ?_⟩
        have dg : DGet H2 d (.str z) (some (.ref (a6 z))) := .inl ⟨_, Sum.inr z, .inr ⟨od, sm _ _ hd7⟩, rfl, by rw [val_dct, if_pos hzL]⟩
        refine ⟨_, rfl, _, rfl, d, _, rfl, dg, a6 z, _, _, _, rfl, rfl, SqT.of (sm _ _ (hv7 z hzL)), atI_nat (j := 0) rfl, rfl, _, rfl, ?_⟩
        have en : (!decide (V.int (pr (c z)).1 = V.int 0)) = decide (c z ≠ 0) := by
          by_cases q : c z = 0
          · have : (pr (c z)).1 = 0 := num0.mpr q
            rw [decide_eq_true (congrArg V.int this), decide_eq_false (fun h => h q)]
            rfl
          · rw [decide_eq_false (fun h => q (num0.mp (V.int.inj h))), decide_eq_true q]
            rfl
        rw [en]
        have ef : (L.take (j + 1)).filter (fun x => decide (c x ≠ 0)) = (L.take j).filter (fun x => decide (c x ≠ 0)) ++ if decide (c z ≠ 0) = true then [z] else [] := by
          rw [take_one hz0, List.filter_append]
          by_cases q : c z = 0 <;> simp [q]
        refine ite2 (fun q => ?_) (fun q => ?_)
        · refine ⟨_, rfl, _, hD2, by rw [List.length_map]; exact Nat.lt_of_le_of_lt (List.length_filter_le _ _) (by rw [List.length_take]; exact line_lt (by omega)), ?_, same_put sm hB⟩
          rw [upd_same, ef, if_pos q, List.map_append]
          rfl
        · rw [ef, if_neg q, List.append_nil]
          exact ⟨hD2, sm⟩
      rintro H2 ⟨hB2, sm⟩
      rw [List.length_map, take_all] at hB2
      obtain ⟨nB, nBd⟩ := new7 B hB
      have s8' := back7 H2 sm
      refine ⟨sm _ _ hd7, ?_⟩
      have hB3 : (upd H2 d (dctO L fun x => .ref (a6 x))) B = some (.lst ((nzs L c).map V.str)) := by rw [upd_ne nBd]; exact hB2
      generalize upd H2 d (dctO L fun x => .ref (a6 x)) = G8 at s8' hB3
      have g08 := g06.trans s8'
      have g38 := g36.trans s8'
      have tl8 := tl.same g38
      -- how many
      refine ⟨_, rfl, o2, _, rfl, .inl (SqL.of tl8.1), _, rfl, B, _, rfl, .inl (SqL.of hB3), _, rfl, ?_⟩
      refine ⟨d, L, c, rfl, Td.same g08, tr.ll, csL, fun G9 xs g g9 px pw nt => ⟨_, _, rfl, rfl, rfl, _, rfl, ?_⟩⟩
      have em := lots.most xs px pw g nt
      have en : (((rs.map fun r => V.ref r.a).length : Nat) : Int) = ((((nzs L c).map V.str).length : Nat) : Int) - g (2 ^ xs.length - 1) := by
        rw [← em, List.length_map, List.length_map, lrs]
        omega
      refine iteFE (by show (!decide (V.int _ = V.int _)) = false; rw [en]; exact ne_same _) ?_
      have g09 := g08.trans g9
      obtain ⟨as2, hsd2, hsv2⟩ := Sd.same (g2.trans (g3.trans (g38.trans g9)))
      refine ⟨_, rfl, sd, _, _, rfl, hsd2, rp_dict Sp (Nat.le_refl 1) hsd2 hsv2 sz, dict_len l30 nL sz, fun Ga xa => ?_⟩
      have g0a : Same G0 Ga := g09.trans xa
      refine ⟨_, rfl, d, L, c, rfl, Td.same g0a, tr.nd, l30, sz, fun sd3 Gb gb fsd3 Sd3 => ?_⟩
      obtain ⟨as3, hsd3, hsv3⟩ := Sd3
      refine ⟨sd3, _, _, rfl, hsd3, rp_dict Sp (Nat.le_refl 1) hsd3 hsv3 sz, dict_len l30 nL sz, fun Gc xc => ⟨rfl, _, rfl, ?_⟩⟩
      rw [ne_same]
      refine iteF ?_
      exact ⟨_, _, _, _, _, _, _, _, _, rfl, (held.same (g0a.trans (gb.trans xc))).weak (by omega)⟩
    · rintro σ H2 ⟨v2, v3, v4, v5, v6, v7, v8, v9, v10, rfl, held2⟩
      exact hQ H2
end
end K58
set_option Elab.async false
set_option linter.all false
set_option maxRecDepth 100000
set_option maxHeartbeats 4000000
/-! KB: what a call by keywords binds, for a def without keyword-only parameters. -/
namespace KW
open PySem PySem.Spec PyProof.Rows L2
section
variable {K : PySem.W.Frag} {x qual : Str} {params : Arguments} {body : List Stmt} {scope : Scope} {dvs : List V} {kws : List (Str × V)} {f : Addr} {fd : FuncData} {ps : List Str}
theorem kb1 (F : FunD K x qual params body scope dvs kws f fd) (n : Nat) (ks : List Str) (g : {α : Type} → List α → List α → List α → List α) (hd : dvs ≠ [])
    (hrel : ∀ {vs ds zs : List V} {us its ws : List Value}, Vals vs us → Vals ds its → Vals zs ws → Vals (g vs ds zs) (g us its ws))
    (h : ∀ (T : Addr) (kV doc pm : Value) (an : Option Addr) (cdv ct : Value) (us its ws : List Value), us.length = n → its.length = dvs.length → ws.length = ks.length →
      ∃ k, bindArgs (PySem.W.fnOf x qual params body scope (.ref T) kV doc pm an cdv ct) ⟨us, ks.zip ws⟩ = seqItems? (.ref T) >>= k ∧ k (some its.toArray) = pure (ps.zip (g us its ws))) :
    ∃ its : List Value, KBn K fd ps n ks (fun us ws => g us its ws) (fun vs zs => g vs dvs zs) := by
  obtain ⟨oc, od, dV, kV, doc, pm, an, cdv, ct, osl, rfl, lk, hcd, hD, hK⟩ := F.ex
  rcases hD with ⟨e, _⟩ | ⟨_, T, o, its, m, rfl, lT, oT, rT⟩
  · exact absurd e hd
  · refine ⟨its, ⟨fun s us ws X l1 l2 => ?_, fun r1 r2 => hrel r1 rT r2⟩⟩
    obtain ⟨k, e1, e2⟩ := h T kV doc pm an cdv ct us its ws l1 rT.length.symm l2
    refine BindsTo.of_looks fun M => ?_
    rw [e1]
    exact looks_items X lT oT (.of_pure e2)
theorem kb0 (F : FunD K x qual params body scope [] kws f fd) (n : Nat) (ks : List Str) (g : {α : Type} → List α → List α → List α)
    (hrel : ∀ {vs zs : List V} {us ws : List Value}, Vals vs us → Vals zs ws → Vals (g vs zs) (g us ws))
    (h : ∀ (kV doc pm : Value) (an : Option Addr) (cdv ct : Value) (us ws : List Value), us.length = n → ws.length = ks.length →
      bindArgs (PySem.W.fnOf x qual params body scope .none kV doc pm an cdv ct) ⟨us, ks.zip ws⟩ = pure (ps.zip (g us ws))) :
    KBn K fd ps n ks (fun us ws => g us ws) (fun vs zs => g vs zs) := by
  obtain ⟨oc, od, dV, kV, doc, pm, an, cdv, ct, osl, rfl, lk, hcd, hD, hK⟩ := F.ex
  rcases hD with ⟨_, rfl⟩ | ⟨e, _⟩
  · exact ⟨fun s us ws X l1 l2 => .of_eq (h kV doc pm an cdv ct us ws l1 l2), fun r1 r2 => hrel r1 r2⟩
  · exact absurd rfl e
end
end KW
set_option Elab.async false
set_option linter.all false
set_option maxRecDepth 100000
set_option maxHeartbeats 0
namespace K58
open PySem PySem.Spec PyProof.Rows L2
open C8 (Cal Mak Met pe_c pe_mk pe_mt pe_mt0)
def fa : List He.Fa := [.glo "is_whole", .glo "common_part", .glo "same_share", .glo "total", .glo "check_even", .glo "joined", .glo "turned", .glo "after", .glo "lesser", .glo "above_nought", .glo "whole_credits", .glo "sums_of_sets", .glo "without_one", .glo "best_takings", .glo "lots", .glo "settled_lot", .glo "settled", .glo "_law_held", .glo "_law_draw", .glo "_law_names", .glo "_law_low", .glo "_law_add", .glo "_law_pair", .glo "_law_shares", .glo "_law_standing", .glo "_law_handed", .glo "_law_behind", .glo "_law_most_lots", .glo "_law_led", .glo "law", .free "isinstance", .free "int", .free "bool", .free "abs", .free "list", .free "range", .free "len", .free "repr", .free "sorted", .free "dict", .free "str", .free "tuple", .free "max", .free "sum", .glo "Share", .cls "Share", .mkr "Share", .noat "Share" "top", .noat "Share" "bottom", .meth "Share" "plus", .meth "Share" "less", .meth "Share" "below", .meth "Share" "__repr__", .int "MOST_UNEVEN" 10]
def xk (K : PySem.W.Frag) : Bool := (fun K => GX.isB K (He.ga K "Share")) K
abbrev R : PySem.W.OpenRow := PySem.W.OpenLaw.row PySem.Challenge.rw_rideturns_k58_all_settled
abbrev hk : PySem.W.Hook := He.hookX 6 fa fn [] [] xk
def ob (s : PySem.W.SharedT) : He.AlX := He.obsX 6 fa fn [] [] xk (HandSHeadRun.getT s)
theorem ob_eq (s : PySem.W.SharedT) : ob s = hk.obs s.abs := He.obsX_eq (HandSHeadRun.getT_eq s)
abbrev loose : List Str := [("_wall" : Str), ("NoKind" : Str), ("Nought" : Str), ("Uneven" : Str), ("TooMany" : Str), ("is_whole" : Str), ("common_part" : Str), ("Share" : Str), ("same_share" : Str), ("total" : Str), ("check_even" : Str), ("joined" : Str), ("turned" : Str), ("MOST_UNEVEN" : Str), ("after" : Str), ("lesser" : Str), ("above_nought" : Str), ("whole_credits" : Str), ("sums_of_sets" : Str), ("without_one" : Str), ("best_takings" : Str), ("lots" : Str), ("settled_lot" : Str), ("settled" : Str), ("_law_held" : Str), ("_law_draw" : Str), ("_law_names" : Str), ("_law_low" : Str), ("_law_add" : Str), ("_law_pair" : Str), ("_law_shares" : Str), ("_law_standing" : Str), ("_law_handed" : Str), ("_law_behind" : Str), ("_law_most_lots" : Str), ("_law_led" : Str)]
theorem run_ (w : World) : HandSHeadRun.RunEq R (PySem.W.view R.prog [42]) hk ob 5000 loose w := by
  intro os
  kernel_rfl
theorem cal_of {P : Program} {w : World} {K : PySem.W.Frag} {mg : Str → Option Value} {base : Heap} {f : Addr} {fd : FuncData} {ps : List Str} {k : Nat} {x : Str} {sp : Sp} (F : FnOk P w K mg base CX0 k f fd ps sp) (g : mg x = some (.ref f)) (kp : PySem.W.keepIn K (.ref f) = true) (b : Binds K fd ps []) : Cal P w K mg base k x sp [] :=
  ⟨f, fd, ps, [], F, g, kp, b, .nil⟩
theorem met_of {P : Program} {w : World} {K : PySem.W.Frag} {mg : Str → Option Value} {base : Heap} {f C : Addr} {fd : FuncData} {ps : List Str} {k : Nat} {m : Str} {sp : Sp} (c : Cls K C) (h : Meth K C m f) (F : FnOk P w K mg base CX0 k f fd ps sp) (b : Binds K fd ps []) : Met P w K mg base k C m sp [] :=
  ⟨f, fd, ps, [], c, h, F, b, .nil⟩
theorem facts {P : Program} {w : World} {K : PySem.W.Frag} {h h0 : Heap} {mg : Str → Option Value} {f : Addr} (X : K.In h) (G : h.Ns mainGlobals mg) (hfa : mg ("law" : Str) = some (.ref f)) (c : He.SaysX fa fn [] [] xk w h0 K) :
    ∃ fd : FuncData, (∀ (s : Shared) (v : Value), BindsTo s fd ⟨[v], []⟩ [("_law_script", v)]) ∧ ∀ base : Heap, K.In base → base.Ns mainGlobals mg → GL.FnG P w K mg base 9 f fd ["_law_script"] (spLaw K) := by
  have d := c.t.d
  have x := c.more
  have gl : ∀ (i : Nat) (x : Str), fa[i]? = some (.glo x) → mg x = some (.ref (He.ga K x)) := fun i x e => He.glo_ok X G (d.fact i e)
  have fr : ∀ (i : Nat) (x : Str), fa[i]? = some (.free x) → mg x = none := fun i x e => He.free_ok X G (d.fact i e)
  have me : ∀ (i : Nat) (C m : Str), fa[i]? = some (.meth C m) → Meth K (He.ga K C) m (He.ma K (He.ga K C) m) := fun i C m e => He.meth_ok (d.fact i e)
  have gl_is_whole := gl 0 "is_whole" rfl
  have gl_common_part := gl 1 "common_part" rfl
  have gl_same_share := gl 2 "same_share" rfl
  have gl_total := gl 3 "total" rfl
  have gl_check_even := gl 4 "check_even" rfl
  have gl_joined := gl 5 "joined" rfl
  have gl_turned := gl 6 "turned" rfl
  have gl_after := gl 7 "after" rfl
  have gl_lesser := gl 8 "lesser" rfl
  have gl_above_nought := gl 9 "above_nought" rfl
  have gl_whole_credits := gl 10 "whole_credits" rfl
  have gl_sums_of_sets := gl 11 "sums_of_sets" rfl
  have gl_without_one := gl 12 "without_one" rfl
  have gl_best_takings := gl 13 "best_takings" rfl
  have gl_lots := gl 14 "lots" rfl
  have gl_settled_lot := gl 15 "settled_lot" rfl
  have gl_settled := gl 16 "settled" rfl
  have gl__law_held := gl 17 "_law_held" rfl
  have gl__law_draw := gl 18 "_law_draw" rfl
  have gl__law_names := gl 19 "_law_names" rfl
  have gl__law_low := gl 20 "_law_low" rfl
  have gl__law_add := gl 21 "_law_add" rfl
  have gl__law_pair := gl 22 "_law_pair" rfl
  have gl__law_shares := gl 23 "_law_shares" rfl
  have gl__law_standing := gl 24 "_law_standing" rfl
  have gl__law_handed := gl 25 "_law_handed" rfl
  have gl__law_behind := gl 26 "_law_behind" rfl
  have gl__law_most_lots := gl 27 "_law_most_lots" rfl
  have gl__law_led := gl 28 "_law_led" rfl
  have gl_law := gl 29 "law" rfl
  have fr_isinstance := fr 30 "isinstance" rfl
  have fr_int := fr 31 "int" rfl
  have fr_bool := fr 32 "bool" rfl
  have fr_abs := fr 33 "abs" rfl
  have fr_list := fr 34 "list" rfl
  have fr_range := fr 35 "range" rfl
  have fr_len := fr 36 "len" rfl
  have fr_repr := fr 37 "repr" rfl
  have fr_sorted := fr 38 "sorted" rfl
  have fr_dict := fr 39 "dict" rfl
  have fr_str := fr 40 "str" rfl
  have fr_tuple := fr 41 "tuple" rfl
  have fr_max := fr 42 "max" rfl
  have fr_sum := fr 43 "sum" rfl
  have gl_Share := gl 44 "Share" rfl
  have cls_Share := He.cls_ok (d.fact 45 (f := .cls "Share") rfl)
  have mk_Share := He.mkr_ok (d.fact 46 (f := .mkr "Share") rfl)
  have no_Share_top := He.noat_ok (d.fact 47 (f := .noat "Share" "top") rfl)
  have no_Share_bottom := He.noat_ok (d.fact 48 (f := .noat "Share" "bottom") rfl)
  have me_Share_plus := me 49 "Share" "plus" rfl
  have me_Share_less := me 50 "Share" "less" rfl
  have me_Share_below := me 51 "Share" "below" rfl
  have me_Share_repr := me 52 "Share" "__repr__" rfl
  have val_MOST_UNEVEN := He.int_ok X G (d.fact 53 (f := .int "MOST_UNEVEN" 10) rfl)
  obtain ⟨fd_is_whole, D_is_whole⟩ := d.def_ 5 (d := d_is_whole) rfl
  obtain ⟨fd_common_part, D_common_part⟩ := d.def_ 6 (d := d_common_part) rfl
  obtain ⟨fd_Share_init, D_Share_init⟩ := d.def_ 7 (d := d_Share_init) rfl
  obtain ⟨fd_Share_repr, D_Share_repr⟩ := d.def_ 10 (d := d_Share_repr) rfl
  obtain ⟨fd_Share_plus, D_Share_plus⟩ := d.def_ 11 (d := d_Share_plus) rfl
  obtain ⟨fd_Share_less, D_Share_less⟩ := d.def_ 12 (d := d_Share_less) rfl
  obtain ⟨fd_Share_below, D_Share_below⟩ := d.def_ 15 (d := d_Share_below) rfl
  obtain ⟨fd_same_share, D_same_share⟩ := d.def_ 17 (d := d_same_share) rfl
  obtain ⟨fd_total, D_total⟩ := d.def_ 18 (d := d_total) rfl
  obtain ⟨fd_check_even, D_check_even⟩ := d.def_ 19 (d := d_check_even) rfl
  obtain ⟨fd_joined, D_joined⟩ := d.def_ 20 (d := d_joined) rfl
  obtain ⟨fd_turned, D_turned⟩ := d.def_ 21 (d := d_turned) rfl
  obtain ⟨fd_after, D_after⟩ := d.def_ 22 (d := d_after) rfl
  obtain ⟨fd_lesser, D_lesser⟩ := d.def_ 23 (d := d_lesser) rfl
  obtain ⟨fd_above_nought, D_above_nought⟩ := d.def_ 24 (d := d_above_nought) rfl
  obtain ⟨fd_whole_credits, D_whole_credits⟩ := d.def_ 25 (d := d_whole_credits) rfl
  obtain ⟨fd_sums_of_sets, D_sums_of_sets⟩ := d.def_ 26 (d := d_sums_of_sets) rfl
  obtain ⟨fd_without_one, D_without_one⟩ := d.def_ 27 (d := d_without_one) rfl
  obtain ⟨fd_best_takings, D_best_takings⟩ := d.def_ 28 (d := d_best_takings) rfl
  obtain ⟨fd_lots, D_lots⟩ := d.def_ 29 (d := d_lots) rfl
  obtain ⟨fd_settled_lot, D_settled_lot⟩ := d.def_ 30 (d := d_settled_lot) rfl
  obtain ⟨fd_settled, D_settled⟩ := d.def_ 31 (d := d_settled) rfl
  obtain ⟨fd_l_held, D_l_held⟩ := d.def_ 32 (d := d_l_held) rfl
  obtain ⟨fd_l_draw, D_l_draw⟩ := d.def_ 33 (d := d_l_draw) rfl
  obtain ⟨fd_l_names, D_l_names⟩ := d.def_ 34 (d := d_l_names) rfl
  obtain ⟨fd_l_low, D_l_low⟩ := d.def_ 35 (d := d_l_low) rfl
  obtain ⟨fd_l_add, D_l_add⟩ := d.def_ 36 (d := d_l_add) rfl
  obtain ⟨fd_l_pair, D_l_pair⟩ := d.def_ 37 (d := d_l_pair) rfl
  obtain ⟨fd_l_shares, D_l_shares⟩ := d.def_ 38 (d := d_l_shares) rfl
  obtain ⟨fd_l_standing, D_l_standing⟩ := d.def_ 39 (d := d_l_standing) rfl
  obtain ⟨fd_l_handed, D_l_handed⟩ := d.def_ 40 (d := d_l_handed) rfl
  obtain ⟨fd_l_behind, D_l_behind⟩ := d.def_ 41 (d := d_l_behind) rfl
  obtain ⟨fd_l_most_lots, D_l_most_lots⟩ := d.def_ 42 (d := d_l_most_lots) rfl
  obtain ⟨fd_l_led, D_l_led⟩ := d.def_ 43 (d := d_l_led) rfl
  obtain ⟨fd_law, D_law⟩ := d.def_ 44 (d := d_law) rfl
  have e := hfa.symm.trans gl_law
  cases e
  have bL := FunD.bindsA (ps := ["_law_script"]) D_law fun _ _ _ _ _ _ us hl => match us, hl with | [_], _ => rfl
  refine ⟨fd_law, fun s v => bL s [v] rfl, fun base _ _ => ?_⟩
  have b_is_whole : Binds K fd_is_whole ["thing"] [] := D_is_whole.bindsN fun _ _ _ _ _ _ us hl => match us, hl with | [_], _ => rfl
  have b_common_part : Binds K fd_common_part ["one", "other"] [] := D_common_part.bindsN fun _ _ _ _ _ _ us hl => match us, hl with | [_, _], _ => rfl
  have b_Share_init : Binds K fd_Share_init ["self", "top", "bottom"] [] := by
    obtain ⟨ds, h1, h2⟩ := D_Share_init.binds1 (ps := ["self", "top", "bottom"]) 3 1 (List.cons_ne_nil _ _) rfl (fun T kV doc pm an cdv ct us its hl h1 => match us, hl, its, h1 with | [_, _, _], _, [_], _ => ⟨_, rfl, rfl⟩)
    cases h1
    exact h2
  obtain ⟨ds1_Share_init, v1_Share_init, b1_Share_init⟩ := D_Share_init.binds1 (ps := ["self", "top", "bottom"]) 2 0 (List.cons_ne_nil _ _) rfl (fun T kV doc pm an cdv ct us its hl h1 => match us, hl, its, h1 with | [_, _], _, [_], _ => ⟨_, rfl, rfl⟩)
  have b_Share_repr : Binds K fd_Share_repr ["self"] [] := D_Share_repr.bindsN fun _ _ _ _ _ _ us hl => match us, hl with | [_], _ => rfl
  have b_Share_plus : Binds K fd_Share_plus ["self", "other"] [] := D_Share_plus.bindsN fun _ _ _ _ _ _ us hl => match us, hl with | [_, _], _ => rfl
  have b_Share_less : Binds K fd_Share_less ["self", "other"] [] := D_Share_less.bindsN fun _ _ _ _ _ _ us hl => match us, hl with | [_, _], _ => rfl
  have b_Share_below : Binds K fd_Share_below ["self", "other"] [] := D_Share_below.bindsN fun _ _ _ _ _ _ us hl => match us, hl with | [_, _], _ => rfl
  have b_same_share : Binds K fd_same_share ["share"] [] := D_same_share.bindsN fun _ _ _ _ _ _ us hl => match us, hl with | [_], _ => rfl
  have b_total : Binds K fd_total ["shares", "start"] [] := by
    obtain ⟨ds, h1, h2⟩ := D_total.binds1 (ps := ["shares", "start"]) 2 1 (List.cons_ne_nil _ _) rfl (fun T kV doc pm an cdv ct us its hl h1 => match us, hl, its, h1 with | [_, _], _, [_], _ => ⟨_, rfl, rfl⟩)
    cases h1
    exact h2
  obtain ⟨ds1_total, v1_total, b1_total⟩ := D_total.binds1 (ps := ["shares", "start"]) 1 0 (List.cons_ne_nil _ _) rfl (fun T kV doc pm an cdv ct us its hl h1 => match us, hl, its, h1 with | [_], _, [_], _ => ⟨_, rfl, rfl⟩)
  have b_check_even : Binds K fd_check_even ["standing"] [] := D_check_even.bindsN fun _ _ _ _ _ _ us hl => match us, hl with | [_], _ => rfl
  have b_joined : Binds K fd_joined ["standing", "moves"] [] := D_joined.bindsN fun _ _ _ _ _ _ us hl => match us, hl with | [_, _], _ => rfl
  have b_turned : Binds K fd_turned ["standing"] [] := D_turned.bindsN fun _ _ _ _ _ _ us hl => match us, hl with | [_], _ => rfl
  have b_after : Binds K fd_after ["standing", "handed"] [] := D_after.bindsN fun _ _ _ _ _ _ us hl => match us, hl with | [_, _], _ => rfl
  have b_lesser : Binds K fd_lesser ["one", "other"] [] := D_lesser.bindsN fun _ _ _ _ _ _ us hl => match us, hl with | [_, _], _ => rfl
  have b_above_nought : Binds K fd_above_nought ["standing"] [] := D_above_nought.bindsN fun _ _ _ _ _ _ us hl => match us, hl with | [_], _ => rfl
  have b_whole_credits : Binds K fd_whole_credits ["standing", "names"] [] := D_whole_credits.bindsN fun _ _ _ _ _ _ us hl => match us, hl with | [_, _], _ => rfl
  have b_sums_of_sets : Binds K fd_sums_of_sets ["numbers"] [] := D_sums_of_sets.bindsN fun _ _ _ _ _ _ us hl => match us, hl with | [_], _ => rfl
  have b_without_one : Binds K fd_without_one ["chosen", "many"] [] := D_without_one.bindsN fun _ _ _ _ _ _ us hl => match us, hl with | [_, _], _ => rfl
  have b_best_takings : Binds K fd_best_takings ["sums", "many"] [] := D_best_takings.bindsN fun _ _ _ _ _ _ us hl => match us, hl with | [_, _], _ => rfl
  have b_lots : Binds K fd_lots ["standing"] [] := D_lots.bindsN fun _ _ _ _ _ _ us hl => match us, hl with | [_], _ => rfl
  have b_settled_lot : Binds K fd_settled_lot ["standing"] [] := D_settled_lot.bindsN fun _ _ _ _ _ _ us hl => match us, hl with | [_], _ => rfl
  have b_settled : Binds K fd_settled ["standing"] [] := D_settled.bindsN fun _ _ _ _ _ _ us hl => match us, hl with | [_], _ => rfl
  have b_l_held : Binds K fd_l_held ["_law_script"] [] := D_l_held.bindsN fun _ _ _ _ _ _ us hl => match us, hl with | [_], _ => rfl
  have b_l_draw : Binds K fd_l_draw ["_law_held_here", "_law_many"] [] := D_l_draw.bindsN fun _ _ _ _ _ _ us hl => match us, hl with | [_, _], _ => rfl
  have b_l_names : Binds K fd_l_names ["_law_held_here", "_law_many"] [] := D_l_names.bindsN fun _ _ _ _ _ _ us hl => match us, hl with | [_, _], _ => rfl
  have b_l_low : Binds K fd_l_low ["_law_top", "_law_bottom"] [] := D_l_low.bindsN fun _ _ _ _ _ _ us hl => match us, hl with | [_, _], _ => rfl
  have b_l_add : Binds K fd_l_add ["_law_one", "_law_other"] [] := D_l_add.bindsN fun _ _ _ _ _ _ us hl => match us, hl with | [_, _], _ => rfl
  have b_l_pair : Binds K fd_l_pair ["_law_share"] [] := D_l_pair.bindsN fun _ _ _ _ _ _ us hl => match us, hl with | [_], _ => rfl
  have b_l_shares : Binds K fd_l_shares ["_law_standing_here"] [] := D_l_shares.bindsN fun _ _ _ _ _ _ us hl => match us, hl with | [_], _ => rfl
  have b_l_standing : Binds K fd_l_standing ["_law_held_here", "_law_names_here"] [] := D_l_standing.bindsN fun _ _ _ _ _ _ us hl => match us, hl with | [_, _], _ => rfl
  have b_l_handed : Binds K fd_l_handed ["_law_found"] [] := D_l_handed.bindsN fun _ _ _ _ _ _ us hl => match us, hl with | [_], _ => rfl
  have b_l_behind : Binds K fd_l_behind ["_law_standing_here", "_law_rows"] [] := D_l_behind.bindsN fun _ _ _ _ _ _ us hl => match us, hl with | [_, _], _ => rfl
  have b_l_most_lots : Binds K fd_l_most_lots ["_law_standing_here"] [] := D_l_most_lots.bindsN fun _ _ _ _ _ _ us hl => match us, hl with | [_], _ => rfl
  have b_l_led : Binds K fd_l_led ["_law_standing_here", "_law_rows"] [] := D_l_led.bindsN fun _ _ _ _ _ _ us hl => match us, hl with | [_, _], _ => rfl
  have b_law : Binds K fd_law ["_law_script"] [] := D_law.bindsN fun _ _ _ _ _ _ us hl => match us, hl with | [_], _ => rfl
  unfold xk GX.isB at x
  simp only [Bool.and_eq_true, decide_eq_true_eq] at x
  obtain ⟨y1, y2, y3, y4⟩ := x
  have IC : IsC K (He.ga K "Share") := ⟨He.eqO_ok y1, He.eqO_ok y2, y3, y4, by unfold PySem.W.kitOne; rw [if_pos (beq_self_eq_true _)]⟩
  have B : Bl mg := ⟨fr_isinstance, fr_int, fr_bool, fr_abs, fr_list, fr_range, fr_len⟩
  have T : Cl K mg (He.ga K "Share") := ⟨cls_Share, no_Share_top, no_Share_bottom, gl_Share⟩
  have cW : CalW P w K mg base := cal_of (ok_whole D_is_whole B) gl_is_whole D_is_whole.kp b_is_whole
  have cG : CalG P w K mg base := cal_of (ok_gcd D_common_part B) gl_common_part D_common_part.kp b_common_part
  have MS : MakS P w K mg base (He.ga K "Share") := ⟨_, _, _, _, mk_Share, ok_init D_Share_init cW cG T, T.g, b_Share_init, .nil⟩
  have M1 : MakS1 P w K mg base (He.ga K "Share") := ⟨_, _, _, _, mk_Share, ok_init D_Share_init cW cG T, T.g, b1_Share_init, v1_Share_init⟩
  have mP : Met P w K mg base 4 (He.ga K "Share") "plus" (sp2 (He.ga K "Share") (· + ·)) [] := met_of T.cl me_Share_plus ((ok_plus D_Share_plus MS T).imp fun _ _ _ _ => plusR) b_Share_plus
  have mL : Met P w K mg base 4 (He.ga K "Share") "less" (sp2 (He.ga K "Share") (· - ·)) [] := met_of T.cl me_Share_less ((ok_less D_Share_less MS T).imp fun _ _ _ _ => lessR) b_Share_less
  have mB : Met P w K mg base 1 (He.ga K "Share") "below" (spLt (He.ga K "Share")) [] := met_of T.cl me_Share_below ((ok_below D_Share_below T).imp fun _ _ _ _ => belowR) b_Share_below
  have Sp : OW.Spc P w K mg base 1 (He.ga K "Share") "__repr__" (spStr (He.ga K "Share") rpS) := ⟨_, _, _, me_Share_repr.at_, me_Share_repr.fn, ok_repr D_Share_repr T, b_Share_repr⟩
  have cS := cal_of (ok_ss D_same_share T M1) gl_same_share D_same_share.kp b_same_share
  have cT : Cal P w K mg base 5 "total" (spTotal K (He.ga K "Share")) [.int 0] := ⟨_, _, _, _, ok_total D_total M1 mP, gl_total, D_total.kp, b1_total, v1_total⟩
  have cCE := cal_of (ok_ce D_check_even B T cT) gl_check_even D_check_even.kp b_check_even
  have cTu := cal_of (ok_tu D_turned M1 mL) gl_turned D_turned.kp b_turned
  have cJ := cal_of (ok_jo D_joined M1 mP cS) gl_joined D_joined.kp b_joined
  have cAf := cal_of (ok_af D_after cTu cJ) gl_after D_after.kp b_after
  have cLe := cal_of (ok_le D_lesser mB cS) gl_lesser D_lesser.kp b_lesser
  have cAN := cal_of (ok_an D_above_nought M1 mB) gl_above_nought D_above_nought.kp b_above_nought
  have cWC := cal_of (P := P) (w := w) (base := base) (ok_wc D_whole_credits T) gl_whole_credits D_whole_credits.kp b_whole_credits
  have cSu := cal_of (P := P) (w := w) (base := base) (ok_su D_sums_of_sets) gl_sums_of_sets D_sums_of_sets.kp b_sums_of_sets
  have cWo := cal_of (P := P) (w := w) (base := base) (ok_wo D_without_one B) gl_without_one D_without_one.kp b_without_one
  have cBt := cal_of (ok_bt D_best_takings B fr_max cWo) gl_best_takings D_best_takings.kp b_best_takings
  have cLots := cal_of (ok_lo D_lots B fr_sorted fr_tuple T val_MOST_UNEVEN cCE cWC cSu cBt) gl_lots D_lots.kp b_lots
  have cSl := cal_of (ok_sl D_settled_lot B M1 mL cAN cTu cLe cAf) gl_settled_lot D_settled_lot.kp b_settled_lot
  have cSe := cal_of (ok_se D_settled cLots cSl) gl_settled D_settled.kp b_settled
  have cH := cal_of (P := P) (w := w) (base := base) (ok_held D_l_held B) gl__law_held D_l_held.kp b_l_held
  have cD : CalD P w K mg base := cal_of (ok_draw D_l_draw B) gl__law_draw D_l_draw.kp b_l_draw
  have cNm := cal_of (ok_names D_l_names B cD) gl__law_names D_l_names.kp b_l_names
  have cLo : CalL P w K mg base := cal_of (ok_low D_l_low B) gl__law_low D_l_low.kp b_l_low
  have cA := cal_of (ok_add D_l_add cLo) gl__law_add D_l_add.kp b_l_add
  have cPr := cal_of (P := P) (w := w) (base := base) (ok_pair D_l_pair B T IC) gl__law_pair D_l_pair.kp b_l_pair
  have cLS := cal_of (ok_ls D_l_shares fr_dict MS) gl__law_shares D_l_shares.kp b_l_shares
  have cStd := cal_of (ok_std D_l_standing cD cLo cA) gl__law_standing D_l_standing.kp b_l_standing
  have cHd := cal_of (ok_hd D_l_handed B fr_str fr_tuple cPr) gl__law_handed D_l_handed.kp b_l_handed
  have cB := cal_of (ok_lb D_l_behind fr_dict cA) gl__law_behind D_l_behind.kp b_l_behind
  have cLd := cal_of (ok_ld D_l_led fr_dict cB) gl__law_led D_l_led.kp b_l_led
  have cMl := cal_of (P := P) (w := w) (base := base) (ok_ml D_l_most_lots B fr_sorted fr_sum fr_max) gl__law_most_lots D_l_most_lots.kp b_l_most_lots
  exact ok_law D_law B fr_repr Sp cH cD cNm cStd cLS cSe cHd cLd cMl
end K58
open PySem PySem.W PySem.Calls PyProof.Rows
set_option maxRecDepth 100000 in
set_option maxHeartbeats 0 in
theorem PySem.Challenge.cw_rideturns_k58_all_settled_holds : PySem.Challenge.rw_rideturns_k58_all_settled.Holds := by
  w_on; o_law
  refine HandSHeadRun.head_any (r := OpenLaw.row PySem.Challenge.rw_rideturns_k58_all_settled) (q := view (OpenLaw.row PySem.Challenge.rw_rideturns_k58_all_settled).prog [42]) (H := K58.hk) (ob := K58.ob) (M := 5000) (loose := K58.loose) (d := HandSHeadRun.topDef (OpenLaw.row PySem.Challenge.rw_rideturns_k58_all_settled).prog 42) (kwd := []) K58.ob_eq
    (by kernel_rfl) (fun s => by kernel_rfl) K58.run_ (by kernel_rfl) (by kernel_rfl) (by kernel_rfl) (by rfl) (by first | assumption | decide +kernel) (by decide +kernel) ⟨rfl, rfl, rfl, rfl, rfl, by decide +kernel⟩ ?hw ?hc
  case hw => w_witness2
  case hc =>
    refine GL.walkG (l := PySem.Challenge.rw_rideturns_k58_all_settled) (n := 63) (k := 9) (x := "_law_script") rfl (by decide) (by kernel_rfl) ⟨rfl, by decide, by decide⟩ ?F
    intro w mg fa h Y G hmg0
    obtain ⟨K, KX, c⟩ := Y
    have hmg : mg ("law" : PySem.Str) = some (.ref fa) := by
      have e : (HandSHeadRun.topDef (OpenLaw.row PySem.Challenge.rw_rideturns_k58_all_settled).prog 42).name = ("law" : PySem.Str) := by kernel_rfl
      rw [← e]
      exact hmg0
    obtain ⟨fd, hb, hF⟩ := K58.facts (P := (PySem.Challenge.rw_rideturns_k58_all_settled).prog) (w := w) KX G hmg c
    exact ⟨K, fd, K58.spLaw K, KX, hb, fun H a ns hl hS => ⟨a, ns, rfl, hS, hl, fun _ => rfl⟩, hF⟩
