import PyProof.Rows.All
import Wide.All
import OpenK.AllK
import Wide.FinOn
import HandS.ForMost
import HandS.ForExc
import HandS.Defaults
import HandS.Codes
import HandS.IsInst
import HandS.Wide
import HandS.Flow
import HandS.Evl
import HandS.Steps
import HandS.ExcField
import HandS.Head0
import HandS.Head1
import HandS.Head2
import HandS.HeadEnd
import HandS.HeadHook1
import HandS.HeadHook2
import HandS.HeadHook3
import HandS.HeadHook4
import KE.KExcInit
import HandS.ExcInit
import KE.KEqSeq
import HandS.Words
import HandS.MakeKw
import HandS.MakeKwOnly
import HandS.Style
import HandS.Comp
import HandS.Text
import HandS.More
import PyProof.StrOps2
import KE.KCallOwn
import KE.IntTextLaws
import PyProof.StrLawsAffix
import HandS.List
import HandS.Deep
import HandS.Dict
import KE.LtData
import HandS.Call
import KE.KIndexOf
import HandS.FStr
import HandS.StrMore
import HandS.Walk
import HandS.Iter
import HandS.DictComp
import PyProof.ReprRoads
import PyProof.ReprDict
import HandS.OwnEq
import HandS.Sort
import KE.KDictList
import HandS.ExcOwn
import HandS.Lambda
import HandS.Nested
import KE.SortCalls
import KE.SortKeyed
import HandS.SetFor
import HandS.HeadWalk
import HandS.EndTab
import PyProof.OldK
import HandS.Strs
import HandS.Set
import PyProof.EqKinds
import PyProof.NeKinds
import PyProof.FactsAll.dict_1
import HandS.ListEq
import KE.KEqNest
import HandS.TupAny
import PyProof.ReprLen
import HandS.NestedK
import PySem.Challenge.RW_rideturns_k52_papers_of_uneven_looked_at
set_option Elab.async false
set_option linter.all false
set_option maxRecDepth 100000
set_option maxHeartbeats 4000000
namespace K52
open PySem PySem.Spec PyProof.Rows L2
def top (i : Nat) : Stmt := PySem.Challenge.pw_rideturns_k52_papers_of_uneven_looked_at.main.body.getD i (.Pass ⟨0, 0, 0, 0⟩)
abbrev s__wall : Stmt := top 0
abbrev N__wall : List Str := ["k"]
theorem sc__wall : FnScope N__wall ["k"] (defScope s__wall) := ⟨rfl, rfl, rfl, by decide +kernel, rfl, by decide +kernel, by decide +kernel⟩
def d__wall : He.DefD := ⟨("_wall", none), "_wall", "_wall", defArgs s__wall, defBody s__wall, defScope s__wall, [], []⟩
abbrev s_NoKind_init : Stmt := inClass (top 2) 0
abbrev N_NoKind_init : List Str := ["self", "thing"]
theorem sc_NoKind_init : FnScope N_NoKind_init ["self", "thing"] (defScope s_NoKind_init) := ⟨rfl, rfl, rfl, by decide +kernel, rfl, by decide +kernel, by decide +kernel⟩
def d_NoKind_init : He.DefD := ⟨("NoKind", some "__init__"), "__init__", "NoKind.__init__", defArgs s_NoKind_init, defBody s_NoKind_init, defScope s_NoKind_init, [], []⟩
abbrev s_Nought_init : Stmt := inClass (top 3) 0
abbrev N_Nought_init : List Str := ["self", "top"]
theorem sc_Nought_init : FnScope N_Nought_init ["self", "top"] (defScope s_Nought_init) := ⟨rfl, rfl, rfl, by decide +kernel, rfl, by decide +kernel, by decide +kernel⟩
def d_Nought_init : He.DefD := ⟨("Nought", some "__init__"), "__init__", "Nought.__init__", defArgs s_Nought_init, defBody s_Nought_init, defScope s_Nought_init, [], []⟩
abbrev s_Uneven_init : Stmt := inClass (top 4) 0
abbrev N_Uneven_init : List Str := ["self", "rest"]
theorem sc_Uneven_init : FnScope N_Uneven_init ["self", "rest"] (defScope s_Uneven_init) := ⟨rfl, rfl, rfl, by decide +kernel, rfl, by decide +kernel, by decide +kernel⟩
def d_Uneven_init : He.DefD := ⟨("Uneven", some "__init__"), "__init__", "Uneven.__init__", defArgs s_Uneven_init, defBody s_Uneven_init, defScope s_Uneven_init, [], []⟩
abbrev s_is_whole : Stmt := top 6
abbrev N_is_whole : List Str := ["thing"]
theorem sc_is_whole : FnScope N_is_whole ["thing"] (defScope s_is_whole) := ⟨rfl, rfl, rfl, by decide +kernel, rfl, by decide +kernel, by decide +kernel⟩
def d_is_whole : He.DefD := ⟨("is_whole", none), "is_whole", "is_whole", defArgs s_is_whole, defBody s_is_whole, defScope s_is_whole, [], []⟩
abbrev s_common_part : Stmt := top 8
abbrev N_common_part : List Str := ["one", "other"]
theorem sc_common_part : FnScope N_common_part ["one", "other"] (defScope s_common_part) := ⟨rfl, rfl, rfl, by decide +kernel, rfl, by decide +kernel, by decide +kernel⟩
def d_common_part : He.DefD := ⟨("common_part", none), "common_part", "common_part", defArgs s_common_part, defBody s_common_part, defScope s_common_part, [], []⟩
abbrev s_Share_init : Stmt := inClass (top 9) 0
abbrev N_Share_init : List Str := ["self", "top", "bottom", "thing", "common"]
theorem sc_Share_init : FnScope N_Share_init ["self", "top", "bottom"] (defScope s_Share_init) := ⟨rfl, rfl, rfl, by decide +kernel, rfl, by decide +kernel, by decide +kernel⟩
def d_Share_init : He.DefD := ⟨("Share", some "__init__"), "__init__", "Share.__init__", defArgs s_Share_init, defBody s_Share_init, defScope s_Share_init, [.int 1], []⟩
abbrev s_Share_eq : Stmt := inClass (top 9) 1
abbrev N_Share_eq : List Str := ["self", "other"]
theorem sc_Share_eq : FnScope N_Share_eq ["self", "other"] (defScope s_Share_eq) := ⟨rfl, rfl, rfl, by decide +kernel, rfl, by decide +kernel, by decide +kernel⟩
def d_Share_eq : He.DefD := ⟨("Share", some "__eq__"), "__eq__", "Share.__eq__", defArgs s_Share_eq, defBody s_Share_eq, defScope s_Share_eq, [], []⟩
abbrev s_Share_str : Stmt := inClass (top 9) 2
abbrev N_Share_str : List Str := ["self"]
theorem sc_Share_str : FnScope N_Share_str ["self"] (defScope s_Share_str) := ⟨rfl, rfl, rfl, by decide +kernel, rfl, by decide +kernel, by decide +kernel⟩
def d_Share_str : He.DefD := ⟨("Share", some "__str__"), "__str__", "Share.__str__", defArgs s_Share_str, defBody s_Share_str, defScope s_Share_str, [], []⟩
abbrev s_Share_repr : Stmt := inClass (top 9) 3
abbrev N_Share_repr : List Str := ["self"]
theorem sc_Share_repr : FnScope N_Share_repr ["self"] (defScope s_Share_repr) := ⟨rfl, rfl, rfl, by decide +kernel, rfl, by decide +kernel, by decide +kernel⟩
def d_Share_repr : He.DefD := ⟨("Share", some "__repr__"), "__repr__", "Share.__repr__", defArgs s_Share_repr, defBody s_Share_repr, defScope s_Share_repr, [], []⟩
abbrev s_Share_plus : Stmt := inClass (top 9) 4
abbrev N_Share_plus : List Str := ["self", "other"]
theorem sc_Share_plus : FnScope N_Share_plus ["self", "other"] (defScope s_Share_plus) := ⟨rfl, rfl, rfl, by decide +kernel, rfl, by decide +kernel, by decide +kernel⟩
def d_Share_plus : He.DefD := ⟨("Share", some "plus"), "plus", "Share.plus", defArgs s_Share_plus, defBody s_Share_plus, defScope s_Share_plus, [], []⟩
abbrev s_Share_less : Stmt := inClass (top 9) 5
abbrev N_Share_less : List Str := ["self", "other"]
theorem sc_Share_less : FnScope N_Share_less ["self", "other"] (defScope s_Share_less) := ⟨rfl, rfl, rfl, by decide +kernel, rfl, by decide +kernel, by decide +kernel⟩
def d_Share_less : He.DefD := ⟨("Share", some "less"), "less", "Share.less", defArgs s_Share_less, defBody s_Share_less, defScope s_Share_less, [], []⟩
abbrev s_Share_times : Stmt := inClass (top 9) 6
abbrev N_Share_times : List Str := ["self", "many"]
theorem sc_Share_times : FnScope N_Share_times ["self", "many"] (defScope s_Share_times) := ⟨rfl, rfl, rfl, by decide +kernel, rfl, by decide +kernel, by decide +kernel⟩
def d_Share_times : He.DefD := ⟨("Share", some "times"), "times", "Share.times", defArgs s_Share_times, defBody s_Share_times, defScope s_Share_times, [], []⟩
abbrev s_Share_over : Stmt := inClass (top 9) 7
abbrev N_Share_over : List Str := ["self", "many"]
theorem sc_Share_over : FnScope N_Share_over ["self", "many"] (defScope s_Share_over) := ⟨rfl, rfl, rfl, by decide +kernel, rfl, by decide +kernel, by decide +kernel⟩
def d_Share_over : He.DefD := ⟨("Share", some "over"), "over", "Share.over", defArgs s_Share_over, defBody s_Share_over, defScope s_Share_over, [], []⟩
abbrev s_Share_below : Stmt := inClass (top 9) 8
abbrev N_Share_below : List Str := ["self", "other"]
theorem sc_Share_below : FnScope N_Share_below ["self", "other"] (defScope s_Share_below) := ⟨rfl, rfl, rfl, by decide +kernel, rfl, by decide +kernel, by decide +kernel⟩
def d_Share_below : He.DefD := ⟨("Share", some "below"), "below", "Share.below", defArgs s_Share_below, defBody s_Share_below, defScope s_Share_below, [], []⟩
abbrev s_Share_whole : Stmt := inClass (top 9) 9
abbrev N_Share_whole : List Str := ["self"]
theorem sc_Share_whole : FnScope N_Share_whole ["self"] (defScope s_Share_whole) := ⟨rfl, rfl, rfl, by decide +kernel, rfl, by decide +kernel, by decide +kernel⟩
def d_Share_whole : He.DefD := ⟨("Share", some "whole"), "whole", "Share.whole", defArgs s_Share_whole, defBody s_Share_whole, defScope s_Share_whole, [], []⟩
abbrev s_same_share : Stmt := top 10
abbrev N_same_share : List Str := ["share", "told"]
theorem sc_same_share : FnScope N_same_share ["share"] (defScope s_same_share) := ⟨rfl, rfl, rfl, by decide +kernel, rfl, by decide +kernel, by decide +kernel⟩
def d_same_share : He.DefD := ⟨("same_share", none), "same_share", "same_share", defArgs s_same_share, defBody s_same_share, defScope s_same_share, [], []⟩
abbrev s_total : Stmt := top 11
abbrev N_total : List Str := ["shares", "start", "summed", "share"]
theorem sc_total : FnScope N_total ["shares", "start"] (defScope s_total) := ⟨rfl, rfl, rfl, by decide +kernel, rfl, by decide +kernel, by decide +kernel⟩
def d_total : He.DefD := ⟨("total", none), "total", "total", defArgs s_total, defBody s_total, defScope s_total, [.int 0], []⟩
abbrev s_check_even : Stmt := top 13
abbrev N_check_even : List Str := ["standing", "rest"]
theorem sc_check_even : FnScope N_check_even ["standing"] (defScope s_check_even) := ⟨rfl, rfl, rfl, by decide +kernel, rfl, by decide +kernel, by decide +kernel⟩
def d_check_even : He.DefD := ⟨("check_even", none), "check_even", "check_even", defArgs s_check_even, defBody s_check_even, defScope s_check_even, [], []⟩
abbrev s_joined : Stmt := top 14
abbrev N_joined : List Str := ["standing", "moves", "name", "told", "move"]
theorem sc_joined : FnScope N_joined ["standing", "moves"] (defScope s_joined) := ⟨rfl, rfl, rfl, by decide +kernel, rfl, by decide +kernel, by decide +kernel⟩
def d_joined : He.DefD := ⟨("joined", none), "joined", "joined", defArgs s_joined, defBody s_joined, defScope s_joined, [], []⟩
abbrev s_turned : Stmt := top 15
abbrev N_turned : List Str := ["standing", "name"]
theorem sc_turned : FnScope N_turned ["standing"] (defScope s_turned) := ⟨rfl, rfl, rfl, by decide +kernel, rfl, by decide +kernel, by decide +kernel⟩
def d_turned : He.DefD := ⟨("turned", none), "turned", "turned", defArgs s_turned, defBody s_turned, defScope s_turned, [], []⟩
abbrev s_wanted : Stmt := top 17
abbrev N_wanted : List Str := ["standing", "days", "fares", "riders", "able", "name"]
theorem sc_wanted : FnScope N_wanted ["standing", "days"] (defScope s_wanted) := ⟨rfl, rfl, rfl, by decide +kernel, rfl, by decide +kernel, by decide +kernel⟩
def d_wanted : He.DefD := ⟨("wanted", none), "wanted", "wanted", defArgs s_wanted, defBody s_wanted, defScope s_wanted, [], []⟩
abbrev s_slack_share : Stmt := top 18
abbrev N_slack_share : List Str := ["slack"]
theorem sc_slack_share : FnScope N_slack_share ["slack"] (defScope s_slack_share) := ⟨rfl, rfl, rfl, by decide +kernel, rfl, by decide +kernel, by decide +kernel⟩
def d_slack_share : He.DefD := ⟨("slack_share", none), "slack_share", "slack_share", defArgs s_slack_share, defBody s_slack_share, defScope s_slack_share, [], []⟩
abbrev s_least_of : Stmt := top 19
abbrev N_least_of : List Str := ["want", "slack"]
theorem sc_least_of : FnScope N_least_of ["want", "slack"] (defScope s_least_of) := ⟨rfl, rfl, rfl, by decide +kernel, rfl, by decide +kernel, by decide +kernel⟩
def d_least_of : He.DefD := ⟨("least_of", none), "least_of", "least_of", defArgs s_least_of, defBody s_least_of, defScope s_least_of, [], []⟩
abbrev s_most_of : Stmt := top 20
abbrev N_most_of : List Str := ["want", "slack"]
theorem sc_most_of : FnScope N_most_of ["want", "slack"] (defScope s_most_of) := ⟨rfl, rfl, rfl, by decide +kernel, rfl, by decide +kernel, by decide +kernel⟩
def d_most_of : He.DefD := ⟨("most_of", none), "most_of", "most_of", defArgs s_most_of, defBody s_most_of, defScope s_most_of, [], []⟩
abbrev s_is_parted : Stmt := top 21
abbrev N_is_parted : List Str := ["want", "slack"]
theorem sc_is_parted : FnScope N_is_parted ["want", "slack"] (defScope s_is_parted) := ⟨rfl, rfl, rfl, by decide +kernel, rfl, by decide +kernel, by decide +kernel⟩
def d_is_parted : He.DefD := ⟨("is_parted", none), "is_parted", "is_parted", defArgs s_is_parted, defBody s_is_parted, defScope s_is_parted, [], []⟩
abbrev s_drives_given : Stmt := top 22
abbrev N_drives_given : List Str := ["days", "drivers", "name", "at", "driver", "other"]
theorem sc_drives_given : FnScope N_drives_given ["days", "drivers", "name"] (defScope s_drives_given) := ⟨rfl, rfl, rfl, by decide +kernel, rfl, by decide +kernel, by decide +kernel⟩
def d_drives_given : He.DefD := ⟨("drives_given", none), "drives_given", "drives_given", defArgs s_drives_given, defBody s_drives_given, defScope s_drives_given, [], []⟩
abbrev s_drives_taken : Stmt := top 23
abbrev N_drives_taken : List Str := ["days", "drivers", "name", "at", "driver"]
theorem sc_drives_taken : FnScope N_drives_taken ["days", "drivers", "name"] (defScope s_drives_taken) := ⟨rfl, rfl, rfl, by decide +kernel, rfl, by decide +kernel, by decide +kernel⟩
def d_drives_taken : He.DefD := ⟨("drives_taken", none), "drives_taken", "drives_taken", defArgs s_drives_taken, defBody s_drives_taken, defScope s_drives_taken, [], []⟩
abbrev s_find_way : Stmt := top 24
abbrev N_find_way : List Str := ["starts", "goals", "steps", "name", "came", "waiting", "at", "other", "day", "taker"]
theorem sc_find_way : FnScope N_find_way ["starts", "goals", "steps"] (defScope s_find_way) := ⟨rfl, rfl, rfl, by decide +kernel, rfl, by decide +kernel, by decide +kernel⟩
def d_find_way : He.DefD := ⟨("find_way", none), "find_way", "find_way", defArgs s_find_way, defBody s_find_way, defScope s_find_way, [], []⟩
abbrev s_pass_along : Stmt := top 25
abbrev N_pass_along : List Str := ["drivers", "came", "end", "name", "day", "taker"]
theorem sc_pass_along : FnScope N_pass_along ["drivers", "came", "end"] (defScope s_pass_along) := ⟨rfl, rfl, rfl, by decide +kernel, rfl, by decide +kernel, by decide +kernel⟩
def d_pass_along : He.DefD := ⟨("pass_along", none), "pass_along", "pass_along", defArgs s_pass_along, defBody s_pass_along, defScope s_pass_along, [], []⟩
abbrev s_fill_days : Stmt := top 26
abbrev N_fill_days : List Str := ["days", "drivers", "mosts", "riders", "able", "goals", "came", "end", "name"]
theorem sc_fill_days : FnScope N_fill_days ["days", "drivers", "mosts"] (defScope s_fill_days) := ⟨rfl, rfl, rfl, by decide +kernel, rfl, by decide +kernel, by decide +kernel⟩
def d_fill_days : He.DefD := ⟨("fill_days", none), "fill_days", "fill_days", defArgs s_fill_days, defBody s_fill_days, defScope s_fill_days, [], []⟩
abbrev s_raise_to_leasts : Stmt := top 27
abbrev N_raise_to_leasts : List Str := ["days", "drivers", "leasts", "name", "goals", "came", "end", "one"]
theorem sc_raise_to_leasts : FnScope N_raise_to_leasts ["days", "drivers", "leasts"] (defScope s_raise_to_leasts) := ⟨rfl, rfl, rfl, by decide +kernel, rfl, by decide +kernel, by decide +kernel⟩
def d_raise_to_leasts : He.DefD := ⟨("raise_to_leasts", none), "raise_to_leasts", "raise_to_leasts", defArgs s_raise_to_leasts, defBody s_raise_to_leasts, defScope s_raise_to_leasts, [], []⟩
abbrev s_search : Stmt := top 28
abbrev N_search : List Str := ["standing", "days", "slack", "wants", "spare", "name", "drivers", "crowd", "few"]
theorem sc_search : FnScope N_search ["standing", "days", "slack"] (defScope s_search) := ⟨rfl, rfl, rfl, by decide +kernel, rfl, by decide +kernel, by decide +kernel⟩
def d_search : He.DefD := ⟨("search", none), "search", "search", defArgs s_search, defBody s_search, defScope s_search, [], []⟩
abbrev s_why_uneven : Stmt := top 29
abbrev N_why_uneven : List Str := ["standing", "days", "slack", "drivers", "paper"]
theorem sc_why_uneven : FnScope N_why_uneven ["standing", "days", "slack"] (defScope s_why_uneven) := ⟨rfl, rfl, rfl, by decide +kernel, rfl, by decide +kernel, by decide +kernel⟩
def d_why_uneven : He.DefD := ⟨("why_uneven", none), "why_uneven", "why_uneven", defArgs s_why_uneven, defBody s_why_uneven, defScope s_why_uneven, [.int 0], []⟩
abbrev s_are_rising : Stmt := top 31
abbrev N_are_rising : List Str := ["thing", "names", "one"]
theorem sc_are_rising : FnScope N_are_rising ["thing", "names"] (defScope s_are_rising) := ⟨rfl, rfl, rfl, by decide +kernel, rfl, by decide +kernel, by decide +kernel⟩
def d_are_rising : He.DefD := ⟨("are_rising", none), "are_rising", "are_rising", defArgs s_are_rising, defBody s_are_rising, defScope s_are_rising, [], []⟩
abbrev s_are_few : Stmt := top 32
abbrev N_are_few : List Str := ["wants", "days", "names", "slack", "open_days", "riders", "able", "name"]
theorem sc_are_few : FnScope N_are_few ["wants", "days", "names", "slack"] (defScope s_are_few) := ⟨rfl, rfl, rfl, by decide +kernel, rfl, by decide +kernel, by decide +kernel⟩
def d_are_few : He.DefD := ⟨("are_few", none), "are_few", "are_few", defArgs s_are_few, defBody s_are_few, defScope s_are_few, [], []⟩
abbrev s_are_crowded : Stmt := top 33
abbrev N_are_crowded : List Str := ["wants", "days", "names", "slack", "own_days", "riders", "able", "name"]
theorem sc_are_crowded : FnScope N_are_crowded ["wants", "days", "names", "slack"] (defScope s_are_crowded) := ⟨rfl, rfl, rfl, by decide +kernel, rfl, by decide +kernel, by decide +kernel⟩
def d_are_crowded : He.DefD := ⟨("are_crowded", none), "are_crowded", "are_crowded", defArgs s_are_crowded, defBody s_are_crowded, defScope s_are_crowded, [], []⟩
abbrev s_shows_uneven : Stmt := top 34
abbrev N_shows_uneven : List Str := ["standing", "days", "thing", "slack", "wants", "spare", "kind", "named"]
theorem sc_shows_uneven : FnScope N_shows_uneven ["standing", "days", "thing", "slack"] (defScope s_shows_uneven) := ⟨rfl, rfl, rfl, by decide +kernel, rfl, by decide +kernel, by decide +kernel⟩
def d_shows_uneven : He.DefD := ⟨("shows_uneven", none), "shows_uneven", "shows_uneven", defArgs s_shows_uneven, defBody s_shows_uneven, defScope s_shows_uneven, [.int 0], []⟩
abbrev s_l_held : Stmt := top 36
abbrev N_l_held : List Str := ["_law_script"]
theorem sc_l_held : FnScope N_l_held ["_law_script"] (defScope s_l_held) := ⟨rfl, rfl, rfl, by decide +kernel, rfl, by decide +kernel, by decide +kernel⟩
def d_l_held : He.DefD := ⟨("_law_held", none), "_law_held", "_law_held", defArgs s_l_held, defBody s_l_held, defScope s_l_held, [], []⟩
abbrev s_l_draw : Stmt := top 37
abbrev N_l_draw : List Str := ["_law_held_here", "_law_many", "_law_found", "_law_at", "_law_cell", "_law_number"]
theorem sc_l_draw : FnScope N_l_draw ["_law_held_here", "_law_many"] (defScope s_l_draw) := ⟨rfl, rfl, rfl, by decide +kernel, rfl, by decide +kernel, by decide +kernel⟩
def d_l_draw : He.DefD := ⟨("_law_draw", none), "_law_draw", "_law_draw", defArgs s_l_draw, defBody s_l_draw, defScope s_l_draw, [], []⟩
abbrev s_l_names : Stmt := top 38
abbrev N_l_names : List Str := ["_law_held_here", "_law_many", "_law_letters", "_law_size", "_law_k", "_law_base", "_law_at", "_law_begin", "_law_step", "_law_lot", "_law_found", "_law_tail"]
theorem sc_l_names : FnScope N_l_names ["_law_held_here", "_law_many"] (defScope s_l_names) := ⟨rfl, rfl, rfl, by decide +kernel, rfl, by decide +kernel, by decide +kernel⟩
def d_l_names : He.DefD := ⟨("_law_names", none), "_law_names", "_law_names", defArgs s_l_names, defBody s_l_names, defScope s_l_names, [], []⟩
abbrev s_l_low : Stmt := top 39
abbrev N_l_low : List Str := ["_law_top", "_law_bottom", "_law_one", "_law_other"]
theorem sc_l_low : FnScope N_l_low ["_law_top", "_law_bottom"] (defScope s_l_low) := ⟨rfl, rfl, rfl, by decide +kernel, rfl, by decide +kernel, by decide +kernel⟩
def d_l_low : He.DefD := ⟨("_law_low", none), "_law_low", "_law_low", defArgs s_l_low, defBody s_l_low, defScope s_l_low, [], []⟩
abbrev s_l_add : Stmt := top 40
abbrev N_l_add : List Str := ["_law_one", "_law_other"]
theorem sc_l_add : FnScope N_l_add ["_law_one", "_law_other"] (defScope s_l_add) := ⟨rfl, rfl, rfl, by decide +kernel, rfl, by decide +kernel, by decide +kernel⟩
def d_l_add : He.DefD := ⟨("_law_add", none), "_law_add", "_law_add", defArgs s_l_add, defBody s_l_add, defScope s_l_add, [], []⟩
abbrev s_l_coming : Stmt := top 41
abbrev N_l_coming : List Str := ["_law_held_here", "_law_names_here", "_law_many", "_law_found", "_law_k", "_law_left", "_law_riders", "_law_turn", "_law_able", "_law_name"]
theorem sc_l_coming : FnScope N_l_coming ["_law_held_here", "_law_names_here", "_law_many"] (defScope s_l_coming) := ⟨rfl, rfl, rfl, by decide +kernel, rfl, by decide +kernel, by decide +kernel⟩
def d_l_coming : He.DefD := ⟨("_law_coming", none), "_law_coming", "_law_coming", defArgs s_l_coming, defBody s_l_coming, defScope s_l_coming, [], []⟩
abbrev s_l_wants : Stmt := top 42
abbrev N_l_wants : List Str := ["_law_standing", "_law_days", "_law_name", "_law_found", "_law_riders", "_law_able"]
theorem sc_l_wants : FnScope N_l_wants ["_law_standing", "_law_days"] (defScope s_l_wants) := ⟨rfl, rfl, rfl, by decide +kernel, rfl, by decide +kernel, by decide +kernel⟩
def d_l_wants : He.DefD := ⟨("_law_wants", none), "_law_wants", "_law_wants", defArgs s_l_wants, defBody s_l_wants, defScope s_l_wants, [], []⟩
abbrev s_l_even_case : Stmt := top 43
abbrev N_l_even_case : List Str := ["_law_held_here", "_law_names_here", "_law_many", "_law_days", "_law_drivers", "_law_wants_here", "_law_standing", "_law_name", "_law_gap", "_law_riders", "_law_able"]
theorem sc_l_even_case : FnScope N_l_even_case ["_law_held_here", "_law_names_here", "_law_many"] (defScope s_l_even_case) := ⟨rfl, rfl, rfl, by decide +kernel, rfl, by decide +kernel, by decide +kernel⟩
def d_l_even_case : He.DefD := ⟨("_law_even_case", none), "_law_even_case", "_law_even_case", defArgs s_l_even_case, defBody s_l_even_case, defScope s_l_even_case, [], []⟩
abbrev s_l_shares : Stmt := top 44
abbrev N_l_shares : List Str := ["_law_standing", "_law_name"]
theorem sc_l_shares : FnScope N_l_shares ["_law_standing"] (defScope s_l_shares) := ⟨rfl, rfl, rfl, by decide +kernel, rfl, by decide +kernel, by decide +kernel⟩
def d_l_shares : He.DefD := ⟨("_law_shares", none), "_law_shares", "_law_shares", defArgs s_l_shares, defBody s_l_shares, defScope s_l_shares, [], []⟩
abbrev s_l_moved : Stmt := top 45
abbrev N_l_moved : List Str := ["_law_held_here", "_law_standing", "_law_names_here", "_law_found", "_law_one", "_law_other", "_law_part"]
theorem sc_l_moved : FnScope N_l_moved ["_law_held_here", "_law_standing", "_law_names_here"] (defScope s_l_moved) := ⟨rfl, rfl, rfl, by decide +kernel, rfl, by decide +kernel, by decide +kernel⟩
def d_l_moved : He.DefD := ⟨("_law_moved", none), "_law_moved", "_law_moved", defArgs s_l_moved, defBody s_l_moved, defScope s_l_moved, [], []⟩
abbrev s_l_slack : Stmt := top 46
abbrev N_l_slack : List Str := ["_law_held_here", "_law_pair"]
theorem sc_l_slack : FnScope N_l_slack ["_law_held_here"] (defScope s_l_slack) := ⟨rfl, rfl, rfl, by decide +kernel, rfl, by decide +kernel, by decide +kernel⟩
def d_l_slack : He.DefD := ⟨("_law_slack", none), "_law_slack", "_law_slack", defArgs s_l_slack, defBody s_l_slack, defScope s_l_slack, [], []⟩
abbrev s_l_ends : Stmt := top 47
abbrev N_l_ends : List Str := ["_law_want", "_law_width", "_law_low_here", "_law_high"]
theorem sc_l_ends : FnScope N_l_ends ["_law_want", "_law_width"] (defScope s_l_ends) := ⟨rfl, rfl, rfl, by decide +kernel, rfl, by decide +kernel, by decide +kernel⟩
def d_l_ends : He.DefD := ⟨("_law_ends", none), "_law_ends", "_law_ends", defArgs s_l_ends, defBody s_l_ends, defScope s_l_ends, [], []⟩
abbrev s_l_bars : Stmt := top 48
abbrev N_l_bars : List Str := ["_law_wants_here", "_law_days", "_law_width", "_law_thing", "_law_least", "_law_most", "_law_names_here", "_law_ends_here", "_law_there", "_law_alone", "_law_name", "_law_riders", "_law_able"]
theorem sc_l_bars : FnScope N_l_bars ["_law_wants_here", "_law_days", "_law_width", "_law_thing"] (defScope s_l_bars) := ⟨rfl, rfl, rfl, by decide +kernel, rfl, by decide +kernel, by decide +kernel⟩
def d_l_bars : He.DefD := ⟨("_law_bars", none), "_law_bars", "_law_bars", defArgs s_l_bars, defBody s_l_bars, defScope s_l_bars, [], []⟩
abbrev s_l_long_case : Stmt := top 49
abbrev N_l_long_case : List Str := ["_law_held_here", "_law_names_here", "_law_many", "_law_standing", "_law_days", "_law_drivers", "_law_way", "_law_some", "_law_fewer", "_law_riders", "_law_able", "_law_left", "_law_name"]
theorem sc_l_long_case : FnScope N_l_long_case ["_law_held_here", "_law_names_here"] (defScope s_l_long_case) := ⟨rfl, rfl, rfl, by decide +kernel, rfl, by decide +kernel, by decide +kernel⟩
def d_l_long_case : He.DefD := ⟨("_law_long_case", none), "_law_long_case", "_law_long_case", defArgs s_l_long_case, defBody s_l_long_case, defScope s_l_long_case, [], []⟩
abbrev s_l_paper : Stmt := top 50
abbrev N_l_paper : List Str := ["_law_held_here", "_law_names_here", "_law_some", "_law_name"]
theorem sc_l_paper : FnScope N_l_paper ["_law_held_here", "_law_names_here"] (defScope s_l_paper) := ⟨rfl, rfl, rfl, by decide +kernel, rfl, by decide +kernel, by decide +kernel⟩
def d_l_paper : He.DefD := ⟨("_law_paper", none), "_law_paper", "_law_paper", defArgs s_l_paper, defBody s_l_paper, defScope s_l_paper, [], []⟩
abbrev s_l_bent : Stmt := top 51
abbrev N_l_bent : List Str := ["_law_held_here", "_law_names_here", "_law_thing", "_law_odds", "_law_at", "_law_some"]
theorem sc_l_bent : FnScope N_l_bent ["_law_held_here", "_law_names_here", "_law_thing"] (defScope s_l_bent) := ⟨rfl, rfl, rfl, by decide +kernel, rfl, by decide +kernel, by decide +kernel⟩
def d_l_bent : He.DefD := ⟨("_law_bent", none), "_law_bent", "_law_bent", defArgs s_l_bent, defBody s_l_bent, defScope s_l_bent, [], []⟩
abbrev s_law : Stmt := top 52
abbrev N_law : List Str := ["_law_script", "_law_held_here", "_law_turn", "_law_names_here", "_law_standing", "_law_days", "_law_handed", "_law_pair", "_law_wants_here", "_law_shares_here", "_law_told", "_law_things", "_law_k", "_law_thing", "_law_kept", "_law_due"]
theorem sc_law : FnScope N_law ["_law_script"] (defScope s_law) := ⟨rfl, rfl, rfl, by decide +kernel, rfl, by decide +kernel, by decide +kernel⟩
def d_law : He.DefD := ⟨("law", none), "law", "law", defArgs s_law, defBody s_law, defScope s_law, [], []⟩
def fn : List He.DefD := [d__wall, d_NoKind_init, d_Nought_init, d_Uneven_init, d_is_whole, d_common_part, d_Share_init, d_Share_eq, d_Share_str, d_Share_repr, d_Share_plus, d_Share_less, d_Share_times, d_Share_over, d_Share_below, d_Share_whole, d_same_share, d_total, d_check_even, d_joined, d_turned, d_wanted, d_slack_share, d_least_of, d_most_of, d_is_parted, d_drives_given, d_drives_taken, d_find_way, d_pass_along, d_fill_days, d_raise_to_leasts, d_search, d_why_uneven, d_are_rising, d_are_few, d_are_crowded, d_shows_uneven, d_l_held, d_l_draw, d_l_names, d_l_low, d_l_add, d_l_coming, d_l_wants, d_l_even_case, d_l_shares, d_l_moved, d_l_slack, d_l_ends, d_l_bars, d_l_long_case, d_l_paper, d_l_bent, d_law]
end K52
set_option Elab.async false
set_option linter.all false
set_option maxRecDepth 100000
set_option maxHeartbeats 4000000
/-! GX: own exceptions over any built-in base, whose own __init__ calls the base's and stores a field. -/
namespace GX
open PySem PySem.Spec PyProof.Rows L2

/-- what the written part tells of the class -/
structure Gx (K : PySem.W.Frag) (C : Addr) (bmB : List Value) (nid : String) : Prop where
  over : PySem.W.excOver K C bmB = true
  made : PySem.W.excInitIn K C bmB nid = true
  hasd : ∃ cd, PySem.W.clsIn K C = some cd ∧ cd.hasDict = true
  sets : PySem.W.findIn K (.ref C) "__setattr__" = some (some (.builtin "object.__setattr__"))
  base : PySem.W.subIn K (.ref C) (.type "BaseException") = some true
  typ : PySem.W.typeIn K (.ref C) = some (.type "type")
  keep : PySem.W.keepIn K (.ref C) = true

section
open Builtin Builtin.ObjectAttr
variable {prog : Program} {w : World} {A : Around} {R : Result → Shared → Prop} {hp : Heap} {g : Array GenState} {d : Drawn} {t : Nat} {os : OsState} {B : String} {bmB : List Value}
theorem first_store {K : PySem.W.Frag} {name : Str} {tk : Tok} {v : Value} {x C : Addr} {fv : Array Value} {cd : ClassData} (SF : StoreFacts B bmB "object.__setattr__" "object")
    (X : K.In hp) (hx : hp.get? x = some { cls := .ref C, data := .fields fv }) (ho : PySem.W.excOver K C bmB = true) (hc : PySem.W.clsIn K C = some cd) (hd : cd.hasDict = true)
    (hf : PySem.W.findIn K (.ref C) name = some none)
    (post : ∀ h' tk' dx, (∀ b o, b ≠ x → hp.get? b = some o → h'.get? b = some o) → hp.objs.size ≤ dx → dx ≠ x →
      h'.get? x = some { cls := .ref C, dict := some dx, data := .fields fv } → h'.Ns1 dx (fun y => if y = name then some v else none) → R (.ok (.ret .none)) ⟨h', g, d, tk', os⟩) :
    codeAny (model prog w) A (.call (.builtin "object.__setattr__") ⟨[.ref x, .str name tk, v], []⟩) R ⟨hp, g, d, t, os⟩ := by
  have inst : PySem.W.InstAt hp x { cls := .ref C, data := .fields fv } C none := ⟨hx, rfl, rfl, trivial⟩
  have far : x ≠ hp.objs.size := Nat.ne_of_lt (Heap.lt_size hx)
  have lc : PySem.W.Looks (model prog w) hp (classData C) cd := PySem.W.looks_clsIn X hc
  refine PySem.W.osa_openX (r := none) SF X inst ho (by unfold PySem.W.takerIn; rw [hf]; rfl) fun b => ?_
  dsimp only
  obtain ⟨n1, n2, n3, n4, n5, n6, n7, n8, n9, n10, n11⟩ := cd
  dsimp only at hd
  subst hd
  unfold storeInOwnDict ownDictForStores
  repeat (first | with_reducible refine PySem.HandSPX.store_in_new ?_ ?_ | with_reducible refine wpAny_loadPart_at hx ?_ | with_reducible refine lc.at ?_ | wp_step)
  · exact ⟨_, #[], _, (Heap.get?_update_ne _ _ _ _ far.symm).trans (Heap.get?_push_at rfl rfl), rfl, fun e he => absurd he (by simp), fun _ => rfl⟩
  · intro h' tk' hn hs
    have hx1 : (hp.push { cls := .type "dict", data := .dict #[] }).get? x = some { cls := .ref C, data := .fields fv } := Heap.get?_push_of_some _ hx
    refine post h' tk' hp.objs.size (fun b o hb hob => ?_) (Nat.le_refl _) far.symm ?_ hn
    · have e1 := hs.2 b (Nat.ne_of_lt (Heap.lt_size hob))
      rw [e1, Heap.get?_update_ne _ _ _ _ hb]
      exact Heap.get?_push_of_some _ hob
    · rw [hs.2 x far]
      exact Heap.get?_update_self _ hx1 rfl
end

section
variable {X : Cx} {pins : List (Addr × Obj)} {σ : L2.St} {H : Hp} {s : Shared} {a C dx : Addr} {f : Str} {y : V} {u : Value} {Q : Unit → Shared → Prop} {E : Value → Shared → Prop} {A : Around} {B : String} {bmB : List Value} {nid iid : String}
/-- self.f = y, the first store -/
theorem put_first (SF : StoreFacts B bmB "object.__setattr__" "object") (T : Gx X.K C bmB nid) (I : Inv X pins σ H s) (e : H a = some (exo a C none)) (hno : PySem.W.findIn X.K (.ref C) f = some none) (ry : RelV y u)
    (post : ∀ dx s', H dx = none → dx ≠ a → Inv X pins σ (upd (upd H dx (exd dx [(f, y)])) a (exo a C (some dx))) s' → Q () s') : wpAny (model X.prog X.w) A (setAttr (.ref a) f u) Q E s := by
  obtain ⟨cd, hcd, hdd⟩ := T.hasd
  obtain ⟨t1, at1⟩ := exo_at I.hok e
  obtain ⟨hp, g, d, t, os⟩ := s
  refine PySem.W.set_plain I.kIn (ox := { cls := .ref C, dict := none, data := .fields #[.ref t1, .none, .none, .none, .bool false, .none] }) (od := none) ⟨at1, rfl, rfl, trivial⟩ T.sets ?_
  refine first_store SF I.kIn at1 T.over hcd hdd hno (fun h' tk' dx kp dn dne hx hn => ?_)
  have fresh : H dx = none := I.hok.fresh dn
  have old : ∀ {b : Addr} {o : Obj}, hp.get? b = some o → b ≠ dx := fun {b o} q => Nat.ne_of_lt (Nat.lt_of_lt_of_le (Heap.lt_size q) dn)
  have other : ∀ {b : Addr}, H b = none → b ≠ a := fun {b} n z => by
    rw [z, e] at n
    cases n
  have un : Un X.fs [] H (upd (upd H dx (exd dx [(f, y)])) a (exo a C (some dx))) hp h' := {
    keep := fun b o q n _ _ => kp b o (other n) q
    slot := fun b o q n _ _ => ⟨o.slots, kp b o (other n) q⟩
    free := fun b o q n _ => by rw [upd_ne (other n), upd_ne (old q)]; exact n
    there := fun b o q _ => by
      by_cases hb : b = a
      · exact ⟨_, hb ▸ hx⟩
      · exact ⟨o, kp b o hb q⟩
    tups := fun b xs q => by rw [upd_ne (at_ne e q exo_tup), upd_ne (ne_of_none q fresh)]; exact q
    frzs := fun b o v q => by rw [upd_ne (at_ne e q exo_frz), upd_ne (ne_of_none q fresh)]; exact q
    tbls := fun b ps q => ⟨#[], by rw [upd_ne (at_ne e q exo_tbl), upd_ne (ne_of_none q fresh), q]; simp⟩ }
  refine post dx _ fresh dne (I.un (t' := tk') un fun b o q => ?_)
  by_cases hb : b = a
  · subst hb
    rw [upd_same] at q
    cases q
    exact exo_ok hx
  · rw [upd_ne hb] at q
    by_cases hd : b = dx
    · subst hd
      rw [upd_same] at q
      cases q
      exact exd_ok hn (relO_put (fs := []) ry fun g => True.intro)
    · rw [upd_ne hd] at q
      refine (I.hok b o q).stay (fun c v hc z => kp c v ?_ z) (fun c hc => ?_) (fun c xs hc => ?_)
      · rcases hc with hc | hc
        · exact hc ▸ hb
        · exact at_ne e hc exo_own
      · rw [upd_ne (at_ne e hc exo_own), upd_ne (ne_of_none hc fresh)]; exact hc
      · rw [upd_ne (at_ne e hc exo_tup), upd_ne (ne_of_none hc fresh)]; exact hc
/-- Base.__init__(self, ..) -/
theorem base_init {us : List Value} {Q : Value → Shared → Prop} (FB : ExcBaseFacts B nid iid bmB) (T : Gx X.K C bmB nid) (I : Inv X pins σ H s) (e : H a = some (exo a C none)) (hl : us.length ≤ sizeLine) (post : ∀ s', Inv X pins σ H s' → Q .none s') :
    wpAny (model X.prog X.w) A (call (.builtin iid) (.ref a :: us)) Q E s := by
  obtain ⟨nm, N, qn, bs, bm, hdct, sn, sub, ab, col, dd, k0, k1, k2, k3, k5, hC, hT⟩ := PySem.W.excInit_of I.kIn T.made
  obtain ⟨t1, at1⟩ := exo_at I.hok e
  obtain ⟨hp, g, d, t, os⟩ := s
  refine wpAny_call (PySem.HandSPX.init_base FB hT hC at1 hl fun h' t2 kp hx => ?_)
  have J := I.write (t' := t) (x := a) (e := a) (o := exo a C none) (by rw [e]; exact True.intro) (.inl rfl) kp ⟨_, hx⟩ (exo_ok hx)
  have same : upd H a (exo a C none) = H := funext fun b => by
    by_cases hb : b = a
    · rw [hb, upd_same, e]
    · rw [upd_ne hb]
  rw [same] at J
  exact post _ J
end

/-! ### readings and rules -/
/-- Base.__init__(self, ..) -/
def tBi (K : PySem.W.Frag) (bmB : List Value) (nid : String) (ta : TA) : TE := fun σ H Q => ta σ H fun vs H1 => ∃ (a C : Addr) (ws : List V), vs = .ref a :: ws ∧ ws.length ≤ 1000 ∧ Gx K C bmB nid ∧ H1 a = some (exo a C none) ∧ Q .non H1
/-- self.f = e, the first one -/
def tPf (K : PySem.W.Frag) (bmB : List Value) (nid : String) (f : Str) (to te : TE) : TS := fun D σ H => te σ H fun y H1 => to σ H1 fun x H2 => ∃ a C : Addr, x = .ref a ∧ Gx K C bmB nid ∧ PySem.W.findIn K (.ref C) f = some none ∧
  H2 a = some (exo a C none) ∧ ∀ dx, H2 dx = none → dx ≠ a → D.nx σ (upd (upd H2 dx (exd dx [(f, y)])) a (exo a C (some dx)))
section
variable {X : Cx} {o e : Expr} {es : List Expr} {to te : TE} {ta : TA} {f : Str} {p p' p1 p2 pos : Pos} {B nid iid : String} {bmB : List Value} {x : Str}
theorem pe_bi {pl : Sem Bool} (FB : ExcBaseFacts B nid iid bmB) (hg : Gl X x) (hm : X.mg x = none) (hv : bootBuiltins x = some (.type B)) (ty : typeOf (.type B) = pure (.type "type"))
    (vV : PySem.W.findCls X.K (.type B) (.type "type") "__init__" = some (.val (.builtin iid))) (hb : PySem.W.handedIn (.builtin iid) = true) (hst : Manifest.isStub B = false) (ha : PA X (e :: es) ta)
    (hc : eval (.Call (.Attribute (.Name x p1) "__init__" p2) (e :: es) [] pos) X.env = (do
      let ov ← eval (.Name x p1) X.env
      standAt p2.atName
      let (f, first) ← holding [ov] (getMethod ov "__init__" pl)
      callWith pos f first (backTo pos (starEach (e :: es) X.env)) (backToKw pos (keywordEach [] X.env))) := by rfl)
    (hn : x ≠ "__name__" := by decide) (hd : (x == ("__debug__" : Str)) = false := by decide)
    (he : starEach (e :: es) X.env = (false, eval e X.env) :: starEach es X.env := by rfl) (hpl : (backTo pos (starEach es X.env)).any (·.1) = false := by rfl) :
    PE X (.Call (.Attribute (.Name x p1) "__init__" p2) (e :: es) [] pos) (tBi X.K bmB nid ta) := by
  refine ⟨fun pins s σ H Q I h => ?_⟩
  refine PySem.W.methodCall_KW (ld_blt I hg hm hv ?_ hn hd) hc
  obtain ⟨m, fr⟩ := I.fr
  refine PySem.W.method_type fr I.ok.mod.kin ty hst vV hb ?_
  show wpAny _ _ (callWith pos (Value.builtin iid) [] (backTo pos (starEach (e :: es) X.env)) []) _ _ _
  refine PyProof.Rows.callWith_method1 (thn (ha.run pos pins _ σ H _ (I.tok _) h) fun us s1 hh => ?_) he hpl
  obtain ⟨vs, H1, I1, r1, a, C, ws, ev, hl, T, ea, q⟩ := hh
  subst ev
  cases r1 with
  | @cons _ u0 _ ur ra rw' =>
    obtain rfl : u0 = Value.ref a := ra
    have hlen : ur.length ≤ sizeLine := by
      have := Paired.length rw'
      rw [sizeLine_eq]
      omega
    exact base_init FB T I1 ea hlen fun s' J => ⟨.non, H1, J, rfl, q⟩
theorem ps_pf (SF : StoreFacts B bmB "object.__setattr__" "object") (ho : PE X o to) (he : PE X e te) (hs : swapsWith e (some (.Attribute o f p')) pos.line X.env = pure false := by rfl) : PS X (.Assign [.Attribute o f p'] e pos) (tPf X.K bmB nid f to te) := by
  refine ⟨fun pins s σ H D I h => ?_⟩
  refine plainObj_wpAny_Assign_Attribute (thn (he.run pins s σ H _ I h) fun v s1 h1 => ?_) hs
  obtain ⟨y, H1, I1, r1, q1⟩ := h1
  refine thn (ho.run pins s1 σ H1 _ I1 q1) fun u s2 h2 => ?_
  obtain ⟨z, H2, I2, r2, a, C, ex, T, hno, ea, q⟩ := h2
  subst ex
  obtain rfl : u = Value.ref a := r2
  exact put_first SF T I2 ea hno r1 fun dx s' n ne J => ⟨σ, _, J, q dx n ne⟩
/-- C(e, ..) as what is raised, C's own __init__ keeping sp -/
theorem pmk_gx {CX : CXT} {C fI : Addr} {k : Nat} {fd : FuncData} {ps : List Str} {sp : Sp} {ds : List Value} {dvs : List V} (FB : ExcBaseFacts B nid iid bmB) (T : Gx X.K C bmB nid) (iC : PySem.W.findIn X.K (.ref C) "__init__" = some (some (.ref fI)))
    (tI : PySem.W.typeIn X.K (.ref fI) = some (.type "function"))
    (F1 : FnOk X.prog X.w X.K X.mg X.base CX k fI fd ps sp) (hr : Room (k + 1) X.A) (hb : Binds X.K fd ps ds) (hd : Vals dvs ds) (hx : Passes CX X (fun _ _ _ => False)) (hg : Gl X x) (hm : X.mg x = some (.ref C)) (ha : PA X (e :: es) ta)
    (hdb : (x == ("__debug__" : Str)) = false := by decide) (he : starEach (e :: es) X.env = (false, eval e X.env) :: starEach es X.env := by rfl) (hpl : (backTo pos (starEach es X.env)).any (·.1) = false := by rfl) :
    PMk X (.Call (.Name x p) (e :: es) [] pos) (tMkO C sp dvs ta) := by
  intro pins s σ H Q I h
  refine wpAny_Call_Name_kw (ld_glob I hg hm ?_ hdb)
  refine PySem.W.callWith_K (h₀ := X.base) I.ok.mod.kin T.keep (thn (ha.run pos pins s σ H _ I h) fun us s1 hh => ?_) he hpl
  obtain ⟨vs, H1, I1, r1, hz, q1⟩ := hh
  refine ⟨I1.kIn, ?_⟩
  show wpAny _ _ (call (.ref C) us) _ _ _
  obtain ⟨nm, N, qn, bs, bm, hdct, sn, sub, ab, col, dd, k0, k1, k2, k3, k5, hC, hT⟩ := PySem.W.excInit_of I1.kIn T.made
  obtain ⟨hp, g, dr, tk, os⟩ := s1
  have big : hp.objs.size ≤ hp.objs.size + 1 := Nat.le_succ _
  have hq := q1 (hp.objs.size + 1) (I1.hok.fresh big)
  have kk : ∀ b o, hp.get? b = some o → ((hp.push (PySem.W.kdv_tup us)).push (PySem.HandSPX.excO C hp.objs.size)).get? b = some o := fun b o z =>
    Heap.get?_push_of_some _ (Heap.get?_push_of_some _ z)
  have there : ((hp.push (PySem.W.kdv_tup us)).push (PySem.HandSPX.excO C hp.objs.size)).get? (hp.objs.size + 1) = some (PySem.HandSPX.excO C hp.objs.size) := by heap_get
  have I2 := I1.laid (t' := tk) (a := hp.objs.size + 1) (o := exo (hp.objs.size + 1) C none) (h' := (hp.push (PySem.W.kdv_tup us)).push (PySem.HandSPX.excO C hp.objs.size)) kk big (exo_ok there)
  have r2 : Vals (V.ref (hp.objs.size + 1) :: (vs ++ dvs)) (Value.ref (hp.objs.size + 1) :: (us ++ ds)) := .cons rfl (r1.append hd)
  have hl : (Value.ref (hp.objs.size + 1) :: us ++ ds).length = ps.length := by
    have e1 := r2.length
    rw [F1.len _ _ _ _ hq] at e1
    exact e1.symm
  have few : us.length ≤ sizeLine := by
    have := Paired.length r1
    rw [sizeLine_eq]
    omega
  refine wpAny_call (PySem.HandSPX.call_own FB hT hC (PySem.W.looks_findIn I1.kIn iC) (fun self => PySem.W.bind_fn I1.kIn self tI) few (codeAny_mono
    (F1.run _ X.stack _ _ ⟨Value.ref (hp.objs.size + 1) :: us, []⟩ (Value.ref (hp.objs.size + 1) :: (us ++ ds)) _ _ (fun _ _ _ => False) (hr.make C us []) (I2.env0.make C us []) (hb _ (Value.ref (hp.objs.size + 1) :: us) I2.kIn hl) r2 hq) fun r s' hq' => ?_))
  cases r with
  | error er => exact hx pins σ _ _ er s' I2 hq'
  | ok fl =>
    cases fl with
    | ret u =>
      obtain ⟨v, H2, os2, bare2, un2, hok2, rv, ev, d, fs, ea, ed, hd1, q2⟩ := hq'
      subst ev
      obtain ⟨h2, g2, d2, t2, os'⟩ := s'
      exact ⟨rv, mk_end (raises_own T.base T.typ) I1 big kk un2 hok2 os2 bare2 ea ed hd1 q2⟩
    | next => exact False.elim hq'
    | brk => exact False.elim hq'
    | cont => exact False.elim hq'
end
/-! ### the head's look at such a class -/
def hasDB (K : PySem.W.Frag) (C : Addr) : Bool := match PySem.W.clsIn K C with
  | some cd => cd.hasDict
  | none => false
/-- Base.__init__, read off the class Base -/
def vvB (K : PySem.W.Frag) (B iid : String) : Bool := match PySem.W.findCls K (.type B) (.type "type") "__init__" with
  | some (.val (.builtin n)) => n == iid
  | _ => false
theorem vvB_ok {K : PySem.W.Frag} {B iid : String} (h : vvB K B iid = true) : PySem.W.findCls K (.type B) (.type "type") "__init__" = some (.val (.builtin iid)) := by
  unfold vvB at h
  split at h
  · rename_i n e
    rw [e, eq_of_beq h]
  · cases h
/-- what isinstance asks of an own class -/
def isB (K : PySem.W.Frag) (C : Addr) : Bool := He.eqO (PySem.W.findIn K (.ref C) "__class__") (some (some (.builtin "object.__class__"))) && (He.eqO (PySem.W.specialIn K (.builtin "object.__class__") "__get__") (some (some (.builtin "getset_descriptor.__get__"))) &&
  (decide (PySem.W.takesIn K (.builtin "object.__class__") = some true) && decide (PySem.W.mroIn K C (.type "object") = some true)))
def gxB (K : PySem.W.Frag) (C : Addr) (bmB : List Value) (nid : String) : Bool := PySem.W.excOver K C bmB && (PySem.W.excInitIn K C bmB nid && (hasDB K C &&
  (He.eqO (PySem.W.findIn K (.ref C) "__setattr__") (some (some (.builtin "object.__setattr__"))) && (decide (PySem.W.subIn K (.ref C) (.type "BaseException") = some true) &&
  (decide (PySem.W.typeIn K (.ref C) = some (.type "type")) && PySem.W.keepIn K (.ref C))))))
theorem gxB_ok {K : PySem.W.Frag} {C : Addr} {bmB : List Value} {nid : String} (h : gxB K C bmB nid = true) : Gx K C bmB nid := by
  unfold gxB at h
  simp only [Bool.and_eq_true, decide_eq_true_eq] at h
  obtain ⟨h1, h2, h3, h4, h5, h6, h7⟩ := h
  refine ⟨h1, h2, ?_, He.eqO_ok h4, h5, h6, h7⟩
  unfold hasDB at h3
  split at h3
  · rename_i cd e
    exact ⟨cd, e, h3⟩
  · cases h3
end GX
set_option linter.all false
namespace KM
/-- the signed common part -/
def sg (t b : Int) : Int := if b < 0 then -(Int.gcd t b : Int) else (Int.gcd t b : Int)
/-- a fraction in lowest terms -/
def low (t b : Int) : Int × Int := (t.fdiv (sg t b), b.fdiv (sg t b))
theorem gcd_pos {t b : Int} (h : b ≠ 0) : 0 < Int.gcd t b := Int.gcd_pos_of_ne_zero_right t h
theorem sg_ne {t b : Int} (h : b ≠ 0) : sg t b ≠ 0 := by
  have := gcd_pos (t := t) h
  unfold sg
  split <;> omega
theorem sg_dvd_left (t b : Int) : sg t b ∣ t := by
  unfold sg
  split
  · exact Int.neg_dvd.mpr (Int.gcd_dvd_left ..)
  · exact Int.gcd_dvd_left ..
theorem sg_dvd_right (t b : Int) : sg t b ∣ b := by
  unfold sg
  split
  · exact Int.neg_dvd.mpr (Int.gcd_dvd_right ..)
  · exact Int.gcd_dvd_right ..
theorem low_top {t b : Int} : sg t b * (low t b).1 = t := by
  show sg t b * t.fdiv (sg t b) = t
  rw [Int.fdiv_eq_ediv_of_dvd (sg_dvd_left t b)]
  exact Int.mul_ediv_cancel' (sg_dvd_left t b)
theorem low_bot {t b : Int} : sg t b * (low t b).2 = b := by
  show sg t b * b.fdiv (sg t b) = b
  rw [Int.fdiv_eq_ediv_of_dvd (sg_dvd_right t b)]
  exact Int.mul_ediv_cancel' (sg_dvd_right t b)
theorem sg_abs (t b : Int) : (sg t b).natAbs = Int.gcd t b := by
  unfold sg
  split <;> simp
theorem low_pos {t b : Int} (h : b ≠ 0) : 0 < (low t b).2 := by
  have e := low_bot (t := t) (b := b)
  have g := gcd_pos (t := t) h
  by_cases hb : b < 0
  · have hs : sg t b < 0 := by unfold sg; rw [if_pos hb]; omega
    refine Int.lt_of_not_ge fun hc => ?_
    have := Int.mul_nonneg_of_nonpos_of_nonpos (Int.le_of_lt hs) hc
    omega
  · have hs : 0 < sg t b := by unfold sg; rw [if_neg hb]; omega
    refine Int.lt_of_not_ge fun hc => ?_
    have := Int.mul_nonpos_of_nonneg_of_nonpos (Int.le_of_lt hs) hc
    omega
theorem low_cop {t b : Int} (h : b ≠ 0) : Int.gcd (low t b).1 (low t b).2 = 1 := by
  have e : Int.gcd (sg t b * (low t b).1) (sg t b * (low t b).2) = (sg t b).natAbs * Int.gcd (low t b).1 (low t b).2 := Int.gcd_mul_left ..
  rw [low_top, low_bot, sg_abs] at e
  have g := gcd_pos (t := t) h
  have : Int.gcd t b * Int.gcd (low t b).1 (low t b).2 = Int.gcd t b * 1 := by omega
  exact Nat.eq_of_mul_eq_mul_left g this
theorem low_id {t b : Int} (hb : 0 < b) (h : Int.gcd t b = 1) : low t b = (t, b) := by
  have e : sg t b = 1 := by unfold sg; rw [if_neg (by omega), h]; rfl
  unfold low
  rw [e]
  simp
theorem low_low {t b : Int} (h : b ≠ 0) : low (low t b).1 (low t b).2 = low t b := low_id (low_pos h) (low_cop h)
/-- the bottom stays: nothing is taken out -/
theorem low_same {t b : Int} (hb : 0 < b) (h : (low t b).2 = b) : low t b = (t, b) := by
  have e := low_bot (t := t) (b := b)
  rw [h] at e
  have e1 : sg t b * b = 1 * b := by omega
  have e2 := Int.eq_of_mul_eq_mul_right (Int.ne_of_gt hb) e1
  have e3 := low_top (t := t) (b := b)
  rw [e2] at e3
  refine Prod.ext ?_ h
  show (low t b).1 = t
  omega
theorem dvd_le {x y : Int} (h : x * y ≠ 0) : y.natAbs ≤ (x * y).natAbs := by
  rw [Int.natAbs_mul]
  have : x ≠ 0 := fun z => h (by rw [z, Int.zero_mul])
  exact Nat.le_mul_of_pos_left _ (by omega)
theorem low_top_le {t b : Int} (h : b ≠ 0) : (low t b).1.natAbs ≤ t.natAbs := by
  by_cases ht : t = 0
  · subst ht
    have e := low_top (t := 0) (b := b)
    rcases Int.mul_eq_zero.mp e with z | z
    · exact absurd z (sg_ne h)
    · rw [z]; exact Nat.le_refl _
  · have e := low_top (t := t) (b := b)
    have := dvd_le (x := sg t b) (y := (low t b).1) (by omega)
    rw [e] at this
    exact this
theorem low_bot_le {t b : Int} (h : b ≠ 0) : (low t b).2.natAbs ≤ b.natAbs := by
  have e := low_bot (t := t) (b := b)
  have := dvd_le (x := sg t b) (y := (low t b).2) (by omega)
  rw [e] at this
  exact this
theorem sg_le {t b : Int} (h : b ≠ 0) : (sg t b).natAbs ≤ b.natAbs := by
  have e := low_bot (t := t) (b := b)
  have := dvd_le (x := (low t b).2) (y := sg t b) (by rw [Int.mul_comm]; omega)
  rw [Int.mul_comm, e] at this
  exact this
/-- Euclid's turn over whole numbers from 0 on -/
theorem gcd_turn {a b : Int} (ha : 0 ≤ a) (hb : 0 < b) : Int.gcd b (a % b) = Int.gcd a b := by
  obtain ⟨m, rfl⟩ := Int.eq_ofNat_of_zero_le ha
  obtain ⟨n, rfl⟩ := Int.eq_ofNat_of_zero_le (Int.le_of_lt hb)
  show Nat.gcd (Int.natAbs (n : Int)) (Int.natAbs ((m : Int) % (n : Int))) = Nat.gcd (Int.natAbs (m : Int)) (Int.natAbs (n : Int))
  rw [← Int.natCast_emod, Int.natAbs_natCast, Int.natAbs_natCast, Int.natAbs_natCast, Nat.gcd_comm n, Nat.gcd_comm m n]
  exact (Nat.gcd_rec n m).symm
theorem gcd_succ (a : Int) : Int.gcd a (a + 1) = 1 := by
  have : Int.gcd (a + 1) a = Int.gcd 1 a := by
    rw [Int.add_comm, Int.gcd_add_self_left]
  rw [Int.gcd_comm, this, Int.gcd_comm]
  simp
end KM
set_option Elab.async false
set_option linter.all false
set_option maxRecDepth 100000
set_option maxHeartbeats 4000000
namespace K52
open PySem PySem.Spec PyProof.Rows L2
/-- a def of the text -/
abbrev Dn (K : PySem.W.Frag) (d : He.DefD) (f : Addr) (fd : FuncData) : Prop := FunD K d.name d.qual d.params d.body d.scope (d.dvs K) (d.kws K) f fd
/-- what the module's names are -/
structure Bl (mg : Str → Option Value) : Prop where
  isi : mg "isinstance" = none
  int : mg "int" = none
  bool : mg "bool" = none
  abs : mg "abs" = none
  list : mg "list" = none
  range : mg "range" = none
  len : mg "len" = none
theorem op_fdW {X : Cx} : OpR X (binaryOp .FloorDiv) (rI (fun _ j => j ≠ 0 ∧ j.natAbs.log2 < 9000) fun i j => .int (i.fdiv j)) := opI fun _ _ _ _ _ _ _ hc q => floordiv_int hc.1 q (.inl (PyProof.noPylong_of_log2 hc.2))
/-- the fields of a Share -/
def shF (q : Int × Int) : List (Str × V) := putF "bottom" (.int q.2) (putF "top" (.int q.1) [])
theorem tb : ¬ (("top" : Str) = "bottom") := by decide +kernel
theorem shF_top (q : Int × Int) : (shF q).lookup ("top" : Str) = some (.int q.1) := by
  unfold shF
  rw [lookup_putF, if_neg tb, lookup_putF, if_pos rfl]
theorem shF_bot (q : Int × Int) : (shF q).lookup ("bottom" : Str) = some (.int q.2) := by
  unfold shF
  rw [lookup_putF, if_pos rfl]
theorem shF_no (q : Int × Int) {m : Str} (h1 : ¬ m = "bottom") (h2 : ¬ m = "top") : (shF q).lookup m = none := by
  unfold shF
  rw [lookup_putF, if_neg h1, lookup_putF, if_neg h2]
  all_goals rfl
/-- a Share stands at p -/
def Sh (C : Addr) (H : Hp) (p : Addr) (q : Int × Int) : Prop := ∃ dx, H p = some (.ins C dx (shF q))
/-- small enough, the bottom above nought -/
def Bd (n : Nat) (q : Int × Int) : Prop := q.1.natAbs < 2 ^ n ∧ 0 < q.2 ∧ q.2.natAbs < 2 ^ n
theorem Sh.keep {C : Addr} {H H' : Hp} {p : Addr} {q : Int × Int} (s : Same H H') (h : Sh C H p q) : Sh C H' p q := let ⟨dx, e⟩ := h; ⟨dx, s _ _ e⟩
theorem log_lt {j : Int} {n : Nat} (h : j.natAbs < 2 ^ n) (h0 : 0 < n) (h9 : n ≤ 9000) : j.natAbs.log2 < 9000 := Nat.lt_of_lt_of_le (PySem.Flt.log2_lt_of h0 h) h9
/-- what is known of the class -/
structure Cl (K : PySem.W.Frag) (mg : Str → Option Value) (C : Addr) : Prop where
  cl : Cls K C
  nt : NoAttr K C "top"
  nb : NoAttr K C "bottom"
  g : mg "Share" = some (.ref C)
section
variable {P : Program} {w : World} {K : PySem.W.Frag} {mg : Str → Option Value} {base : Heap} {f C : Addr} {fd : FuncData}

def spWhole : Sp := fun vs H Q _ => ∃ n : Int, vs = [.int n] ∧ Q (.bl true) H
theorem ok_whole (F : Dn K d_is_whole f fd) (b : Bl mg) : FnOk P w K mg base CX0 1 f fd ["thing"] spWhole := by
  refine F.ok sc_is_whole (fun vs H Q E h => ?_) (fun cdv A outer s H vs Q E hr h => ?_)
  · obtain ⟨n, rfl, _⟩ := h
    rfl
  · obtain ⟨n, rfl, hQ⟩ := h
    refine ⟨_, PSs.nox (pss_one (ps_ret (pe_and
      (pe_callB call_isi rfl b.isi boot_isinstance (pa_cons (pv 0) (pa_cons (pe_bltn (v := .ty "int") rfl b.int boot_int rfl) pa_nil)))
      (pe_one (pe_not (pe_callB call_isi rfl b.isi boot_isinstance (pa_cons (pv 0) (pa_cons (pe_bltn (v := .ty "bool") rfl b.bool boot_bool rfl) pa_nil)))))))), ?_⟩
    refine ⟨_, rfl, _, _, _, _, true, rfl, ClsV.ty _, TyX.base (TyOf.int n), kit_ty (by decide +kernel), true, rfl, ?_⟩
    refine iteT ?_
    exact ⟨_, rfl, _, _, _, _, false, rfl, ClsV.ty _, TyX.base (TyOf.int n), kit_ty (by decide +kernel), false, rfl, hQ⟩
def spGcd : Sp := fun vs H Q _ => ∃ x y : Int, vs = [.int x, .int y] ∧ Q (.int (Int.gcd x y : Int)) H
theorem abs_eq (x : Int) : (if x < 0 then -x else x) = (x.natAbs : Int) := by split <;> omega
theorem ok_gcd (F : Dn K d_common_part f fd) (b : Bl mg) : FnOk P w K mg base CX0 1 f fd ["one", "other"] spGcd := by
  refine F.ok sc_common_part (fun vs H Q E h => ?_) (fun cdv A outer s H vs Q E hr h => ?_)
  · obtain ⟨x, y, rfl, _⟩ := h
    rfl
  · obtain ⟨x, y, rfl, hQ⟩ := h
    refine ⟨_, PSs.nox (pss_cons (ps_set (i := 0) sc_common_part.nd rfl (.inl rfl) (pe_callB call_abs rfl b.abs boot_abs (pa_cons (pv 0) pa_nil)))
      (pss_cons (ps_set (i := 1) sc_common_part.nd rfl (.inl rfl) (pe_callB call_abs rfl b.abs boot_abs (pa_cons (pv 1) pa_nil)))
      (pss_cons (ps_while PassesOwn.never (pt_cmpR op_ne (pv 1) pe_int (nomark _)) (pss_one (ps_par (i := 0) (j := 1) rfl sc_common_part.nd rfl rfl (by decide) rfl rfl (pa_cons (pv 1) (pa_cons (pe_op op_mod (pv 0) (pv 1)) pa_nil)) rfl)))
      (pss_one (ps_ret (pv 0)))))), ?_⟩
    refine ⟨_, rfl, _, rfl, _, rfl, _, rfl, while_by (fun σ H2 => H2 = H ∧ ∃ a c : Int, σ = [some (.int a), some (.int c)] ∧ 0 ≤ a ∧ 0 ≤ c ∧ Int.gcd a c = Int.gcd x y)
      (fun σ _ => match σ with | [_, some (.int c)] => c.toNat | _ => 0) ⟨rfl, _, _, rfl, ?_, ?_, ?_⟩ ?_ ?_⟩
    · split <;> omega
    · split <;> omega
    · rw [abs_eq, abs_eq]
      rfl
    · rintro σ H2 ⟨rfl, a, c, rfl, ha, hc, hg⟩
      refine ⟨_, rfl, rfl, _, rfl, ?_⟩
      by_cases h0 : c = 0
      · subst h0
        refine iteNS rfl ?_
        refine ⟨_, rfl, ?_⟩
        have e : Int.gcd x y = a.natAbs := by rw [← hg]; simp
        have e2 : (Int.gcd x y : Int) = a := by omega
        rw [e2] at hQ
        exact hQ
      · have hne : (!decide (V.int c = V.int 0)) = true := by simp [h0]
        rw [hne]
        refine iteT ?_
        have hp : 0 < c := by omega
        refine ⟨_, rfl, _, rfl, _, rfl, _, _, rfl, rfl, hp, _, _, rfl, ⟨rfl, _, _, rfl, hc, Int.emod_nonneg _ h0, ?_⟩, ?_⟩
        · rw [KM.gcd_turn ha hp, hg]
        · show (a % c).toNat < c.toNat
          have h1 := Int.emod_nonneg a h0
          have h2 := Int.emod_lt_of_pos a hp
          omega
    · rintro σ H2 Q1 Q2 hm ⟨v, hv, h1, k, hk, q⟩
      exact ⟨v, hv, h1, k, hk, hm _ _ q⟩
end
end K52
set_option Elab.async false
set_option linter.all false
set_option maxRecDepth 100000
set_option maxHeartbeats 4000000
namespace K52
open PySem PySem.Spec PyProof.Rows L2
open C8 (Cal Mak Met pe_c pe_mk pe_mt pe_mt0)
section
variable {P : Program} {w : World} {K : PySem.W.Frag} {mg : Str → Option Value} {base : Heap} {f C : Addr} {fd : FuncData}
abbrev CalW (P : Program) (w : World) (K : PySem.W.Frag) (mg : Str → Option Value) (base : Heap) : Prop := Cal P w K mg base 1 "is_whole" spWhole []
abbrev CalG (P : Program) (w : World) (K : PySem.W.Frag) (mg : Str → Option Value) (base : Heap) : Prop := Cal P w K mg base 1 "common_part" spGcd []
/-- __init__: a Share in lowest terms -/
def spInit (C : Addr) : Sp := fun vs H Q _ => ∃ (p dx : Addr) (t b : Int) (n : Nat), vs = [.ref p, .int t, .int b] ∧ b ≠ 0 ∧ b.natAbs < 2 ^ n ∧ 0 < n ∧ n ≤ 9000 ∧ H p = some (.ins C dx []) ∧
  ∀ H', (∀ a o, a ≠ p → H a = some o → H' a = some o) → H' p = some (.ins C dx (shF (KM.low t b))) → Q .non H'
theorem ok_init (F : Dn K d_Share_init f fd) (cW : CalW P w K mg base) (cG : CalG P w K mg base) (T : Cl K mg C) : FnOk P w K mg base CX0 2 f fd ["self", "top", "bottom"] (spInit C) := by
  refine F.ok sc_Share_init (fun vs H Q E h => ?_) (fun cdv A outer s H vs Q E hr h => ?_)
  · obtain ⟨p, dx, t, b, n, rfl, _⟩ := h
    rfl
  · obtain ⟨p, dx, t, b, n, rfl, hb, hn, hn0, hn9, hp, hQ⟩ := h
    refine ⟨_, PSs.nox (pss_cons (ps_for PassesOwn.never rfl (pi_tup (pe_tup (pa_cons (pv 1) (pa_cons (pv 2) pa_nil)))) (pg_name (i := 3) sc_Share_init.nd rfl (.inl rfl))
        (pss_one (ps_if (pt_not (pt_val (pe_c cW hr (by decide) rfl (pa_cons (pv 3) pa_nil)))) pss_never pss_nil)))
      (pss_cons (ps_if (pt_cmpR op_eq (pv 2) pe_int (nomark _)) pss_never pss_nil)
      (pss_cons (ps_set (i := 4) sc_Share_init.nd rfl (.inl rfl) (pe_c cG hr (by decide) rfl (pa_cons (pv 1) (pa_cons (pv 2) pa_nil))))
      (pss_cons (ps_if (pt_cmpR op_lt (pv 2) pe_int (nomark _)) (pss_one (ps_set (i := 4) sc_Share_init.nd rfl (.inl rfl) (pe_un un_neg (pv 4)))) pss_nil)
      (pss_cons (ps_fld (pv 0) (pe_op op_fdW (pv 1) (pv 4)) rfl)
      (pss_one (ps_fld (pv 0) (pe_op op_fdW (pv 2) (pv 4)) rfl))))))), ?_⟩
    refine ⟨_, rfl, _, rfl, by show 2 ≤ sizeLine; decide, fun u hu => ?_⟩
    have npu : p ≠ u := ne_of_none hp hu
    refine ⟨u, rfl, ⟨_, SqT.of upd_same⟩, for_tup (K := K) (xs := [.int t, .int b]) (fun i σ H2 => H2 = upd H u (.tup [.int t, .int b]) ∧ ∃ v, σ = [some (.ref p), some (.int t), some (.int b), v, none])
      ⟨rfl, none, rfl⟩ (fun i σ H2 _ h => by rw [h.1]; exact SqT.of upd_same) ?_ ?_⟩
    · rintro i y σ H2 hi ⟨rfl, v, rfl⟩
      have hy : ∃ n : Int, y = .int n := by
        match i, hi with
        | 0, e => exact ⟨t, (Option.some.inj e).symm⟩
        | 1, e => exact ⟨b, (Option.some.inj e).symm⟩
      obtain ⟨n, rfl⟩ := hy
      refine ⟨_, rfl, n, rfl, true, rfl, ?_⟩
      refine iteF ?_
      exact ⟨rfl, _, rfl⟩
    · rintro σ H2 ⟨rfl, v, rfl⟩
      refine ⟨_, rfl, rfl, _, rfl, ?_⟩
      have hb0 : decide (V.int b = V.int 0) = false := by simp [hb]
      rw [hb0]
      refine iteF ?_
      refine ⟨_, rfl, _, rfl, t, b, rfl, ?_⟩
      refine ⟨_, rfl, _, _, rfl, rfl, _, rfl, ?_⟩
      have hs9 : (KM.sg t b).natAbs.log2 < 9000 := log_lt (Nat.lt_of_le_of_lt (KM.sg_le hb) hn) hn0 hn9
      have fin : ∀ c : Int, c = KM.sg t b → ∀ v, tSeq (sFld K (tVar 0) (tOp (rI (fun _ j => j ≠ 0 ∧ j.natAbs.log2 < 9000) fun i j => .int (i.fdiv j)) (tVar 1) (tVar 4)) "top") (sFld K (tVar 0) (tOp (rI (fun _ j => j ≠ 0 ∧ j.natAbs.log2 < 9000) fun i j => .int (i.fdiv j)) (tVar 2) (tVar 4)) "bottom")
          { nx := fun _ H' => Q .non H', rt := Q } [some (.ref p), some (.int t), some (.int b), v, some (.int c)] (upd H u (.tup [.int t, .int b])) := by
        rintro c rfl v
        refine ⟨_, rfl, _, rfl, _, _, rfl, rfl, ⟨KM.sg_ne hb, hs9⟩, _, rfl, p, C, dx, _, rfl, (by rw [upd_ne npu]; exact hp), T.cl, T.nt, (by show 0 < 1000; decide), ?_⟩
        refine ⟨_, rfl, _, rfl, _, _, rfl, rfl, ⟨KM.sg_ne hb, hs9⟩, _, rfl, p, C, dx, _, rfl, upd_same, T.cl, T.nb, (by show 1 < 1000; decide), ?_⟩
        refine hQ _ (fun a o ha e => ?_) upd_same
        rw [upd_ne ha, upd_ne ha, upd_ne (ne_of_none e hu)]
        exact e
      refine ite2 (fun h => ?_) (fun h => ?_)
      · have h' : b < 0 := of_decide_eq_true h
        refine ⟨_, rfl, _, rfl, ?_⟩
        exact fin _ (by unfold KM.sg; rw [if_pos h']) _
      · have h' : ¬ b < 0 := fun z => h (decide_eq_true z)
        exact fin _ (by unfold KM.sg; rw [if_neg h']) _
end
end K52
set_option Elab.async false
set_option linter.all false
set_option maxRecDepth 100000
set_option maxHeartbeats 4000000
namespace K52
open PySem PySem.Spec PyProof.Rows L2
open C8 (Cal Mak Met pe_c pe_mk pe_mt pe_mt0)
section
variable {P : Program} {w : World} {K : PySem.W.Frag} {mg : Str → Option Value} {base : Heap} {f C : Addr} {fd : FuncData}
abbrev MakS (P : Program) (w : World) (K : PySem.W.Frag) (mg : Str → Option Value) (base : Heap) (C : Addr) : Prop := Mak P w K mg base 2 "Share" C (spInit C) []
/-- Share(t, b): what is left to show -/
theorem mk_at {H1 : Hp} {t b : Int} {n : Nat} {Q : VK} (hb : b ≠ 0) (hn : b.natAbs < 2 ^ n) (hn0 : 0 < n) (hn9 : n ≤ 9000)
    (hQ : ∀ r H', Same H1 H' → H1 r = none → Sh C H' r (KM.low t b) → Q (.ref r) H') :
    ∀ x dx, H1 x = none → H1 dx = none → dx ≠ x → spInit C (.ref x :: ([V.int t, V.int b] ++ [])) (upd (upd H1 dx (.own x)) x (.ins C dx [])) (fun v H2 => v = .non ∧ Q (.ref x) H2) E0 := by
  intro x dx nx nd ne
  refine ⟨x, dx, t, b, n, rfl, hb, hn, hn0, hn9, upd_same, fun H' kp hp => ⟨rfl, hQ x H' (fun a o e => ?_) nx ⟨dx, hp⟩⟩⟩
  refine kp a o (ne_of_none e nx) ?_
  rw [upd_ne (ne_of_none e nx), upd_ne (ne_of_none e nd)]
  exact e
theorem mul_pos_ne {a b : Int} (ha : 0 < a) (hb : 0 < b) : a * b ≠ 0 := fun z => by
  have := Int.mul_pos ha hb
  omega
def two (n : Nat) (a b : Int × Int) : Prop := Bd n a ∧ Bd n b ∧ 0 < n ∧ n ≤ 4000

def sp_plus (C : Addr) : Sp := fun vs H Q _ => ∃ (p q : Addr) (a b : Int × Int) (n : Nat), vs = [.ref p, .ref q] ∧ Sh C H p a ∧ Sh C H q b ∧ two n a b ∧
  ∀ r H', Same H H' → H r = none → Sh C H' r (KM.low (a.1 * b.2 + b.1 * a.2) (a.2 * b.2)) → Q (.ref r) H'
theorem ok_plus (F : Dn K d_Share_plus f fd) (M : MakS P w K mg base C) (T : Cl K mg C) : FnOk P w K mg base CX0 4 f fd ["self", "other"] (sp_plus C) := by
  refine F.ok sc_Share_plus (fun vs H Q E h => ?_) (fun cdv A outer s H vs Q E hr h => ?_)
  · obtain ⟨p, q, a, b, n, rfl, _⟩ := h
    rfl
  · obtain ⟨p, q, a, b, n, rfl, ⟨dp, hp⟩, ⟨dq, hq⟩, ⟨ba, bb, hn0, hn9⟩, hQ⟩ := h
    refine ⟨_, PSs.nox (pss_one (ps_ret (pe_mk M hr (by decide) rfl (pa_cons (pe_op op_add (pe_op op_mulW (pe_fld (pv 0) rfl) (pe_fld (pv 1) rfl)) (pe_op op_mulW (pe_fld (pv 1) rfl) (pe_fld (pv 0) rfl)))
      (pa_cons (pe_op op_mulW (pe_fld (pv 0) rfl) (pe_fld (pv 1) rfl)) pa_nil))))), ?_⟩
    refine ⟨_, rfl, p, C, dp, _, _, rfl, hp, T.cl, T.nt, shF_top a, _, rfl, q, C, dq, _, _, rfl, hq, T.cl, T.nb, shF_bot b, _, _, rfl, rfl, wide_mul ba.1 bb.2.2 hn0 hn0 (by omega), ?_⟩
    refine ⟨_, rfl, q, C, dq, _, _, rfl, hq, T.cl, T.nt, shF_top b, _, rfl, p, C, dp, _, _, rfl, hp, T.cl, T.nb, shF_bot a, _, _, rfl, rfl, wide_mul bb.1 ba.2.2 hn0 hn0 (by omega), _, _, rfl, rfl, ?_⟩
    refine ⟨_, rfl, p, C, dp, _, _, rfl, hp, T.cl, T.nb, shF_bot a, _, rfl, q, C, dq, _, _, rfl, hq, T.cl, T.nb, shF_bot b, _, _, rfl, rfl, wide_mul ba.2.2 bb.2.2 hn0 hn0 (by omega), ?_⟩
    exact mk_at (n := n + n) (mul_pos_ne ba.2.1 bb.2.1) (wide_lt ba.2.2 bb.2.2) (by omega) (by omega) hQ

def sp_less (C : Addr) : Sp := fun vs H Q _ => ∃ (p q : Addr) (a b : Int × Int) (n : Nat), vs = [.ref p, .ref q] ∧ Sh C H p a ∧ Sh C H q b ∧ two n a b ∧
  ∀ r H', Same H H' → H r = none → Sh C H' r (KM.low (a.1 * b.2 - b.1 * a.2) (a.2 * b.2)) → Q (.ref r) H'
theorem ok_less (F : Dn K d_Share_less f fd) (M : MakS P w K mg base C) (T : Cl K mg C) : FnOk P w K mg base CX0 4 f fd ["self", "other"] (sp_less C) := by
  refine F.ok sc_Share_less (fun vs H Q E h => ?_) (fun cdv A outer s H vs Q E hr h => ?_)
  · obtain ⟨p, q, a, b, n, rfl, _⟩ := h
    rfl
  · obtain ⟨p, q, a, b, n, rfl, ⟨dp, hp⟩, ⟨dq, hq⟩, ⟨ba, bb, hn0, hn9⟩, hQ⟩ := h
    refine ⟨_, PSs.nox (pss_one (ps_ret (pe_mk M hr (by decide) rfl (pa_cons (pe_op op_sub (pe_op op_mulW (pe_fld (pv 0) rfl) (pe_fld (pv 1) rfl)) (pe_op op_mulW (pe_fld (pv 1) rfl) (pe_fld (pv 0) rfl)))
      (pa_cons (pe_op op_mulW (pe_fld (pv 0) rfl) (pe_fld (pv 1) rfl)) pa_nil))))), ?_⟩
    refine ⟨_, rfl, p, C, dp, _, _, rfl, hp, T.cl, T.nt, shF_top a, _, rfl, q, C, dq, _, _, rfl, hq, T.cl, T.nb, shF_bot b, _, _, rfl, rfl, wide_mul ba.1 bb.2.2 hn0 hn0 (by omega), ?_⟩
    refine ⟨_, rfl, q, C, dq, _, _, rfl, hq, T.cl, T.nt, shF_top b, _, rfl, p, C, dp, _, _, rfl, hp, T.cl, T.nb, shF_bot a, _, _, rfl, rfl, wide_mul bb.1 ba.2.2 hn0 hn0 (by omega), _, _, rfl, rfl, ?_⟩
    refine ⟨_, rfl, p, C, dp, _, _, rfl, hp, T.cl, T.nb, shF_bot a, _, rfl, q, C, dq, _, _, rfl, hq, T.cl, T.nb, shF_bot b, _, _, rfl, rfl, wide_mul ba.2.2 bb.2.2 hn0 hn0 (by omega), ?_⟩
    exact mk_at (n := n + n) (mul_pos_ne ba.2.1 bb.2.1) (wide_lt ba.2.2 bb.2.2) (by omega) (by omega) hQ
end
end K52
set_option Elab.async false
set_option linter.all false
set_option maxRecDepth 100000
set_option maxHeartbeats 4000000
namespace K52
open PySem PySem.Spec PyProof.Rows L2
open C8 (Cal Mak Met pe_c pe_mk pe_mt pe_mt0)
/-- the held dict's pairs -/
def hd0 (l : Addr) (n m : Int) : List (Key × V) := [(Sum.inr "cells", .ref l), (Sum.inr "at", .int n), (Sum.inr "left", .int m)]
theorem hd_cells (l : Addr) (n m : Int) : valV (hd0 l n m) (Sum.inr "cells") = some (.ref l) := valV_pos rfl
theorem k1 : ¬ (("cells" : Str) = "at") := by decide +kernel
theorem k2 : ¬ (("cells" : Str) = "left") := by decide +kernel
theorem k3 : ¬ (("at" : Str) = "left") := by decide +kernel
theorem k1' : ¬ (("at" : Str) = "cells") := by decide +kernel
theorem k3' : ¬ (("left" : Str) = "at") := by decide +kernel
theorem inr_ne {x y : Str} (h : ¬ x = y) : ¬ ((Sum.inr x : Key) = Sum.inr y) := fun z => h (Sum.inr.inj z)
theorem hd_at (l : Addr) (n m : Int) : valV (hd0 l n m) (Sum.inr "at") = some (.int n) := (valV_neg (inr_ne k1)).trans (valV_pos rfl)
theorem hd_left (l : Addr) (n m : Int) : valV (hd0 l n m) (Sum.inr "left") = some (.int m) := (valV_neg (inr_ne k2)).trans ((valV_neg (inr_ne k3)).trans (valV_pos rfl))
theorem put_at (l : Addr) (n m k : Int) : putK (hd0 l n m) (Sum.inr "at") (.int k) = hd0 l k m := by
  unfold putK hd0
  simp [k1, k3']
theorem put_left (l : Addr) (n m k : Int) : putK (hd0 l n m) (Sum.inr "left") (.int k) = hd0 l n k := by
  unfold putK hd0
  simp [k2, k3]
theorem hd_merge (l : Addr) (n m : Int) : mergeK [] (hd0 l n m) = hd0 l n m := by
  simp [mergeK, hd0, putK, k1, k2, k3]
/-- the held dict at h, good for c draws more -/
def Held (H : Hp) (h : Addr) (c : Nat) : Prop := ∃ (l : Addr) (ns : List Int) (n m : Int), H h = some (.dK (hd0 l n m)) ∧ H l = some (.lst (ns.map V.int)) ∧ 0 ≤ n ∧ n + c ≤ 1000000000
theorem Held.weak {H : Hp} {h : Addr} {c c' : Nat} (hc : c' ≤ c) (x : Held H h c) : Held H h c' := by
  obtain ⟨l, ns, n, m, h1, h2, h3, h4⟩ := x
  exact ⟨l, ns, n, m, h1, h2, h3, by omega⟩
/-- all but h is kept -/
def Kp (h : Addr) (H H' : Hp) : Prop := (∀ b o, H b = some o → b ≠ h → H' b = some o) ∧ ∀ l n m, H h = some (.dK (hd0 l n m)) → ∃ n' m', H' h = some (.dK (hd0 l n' m'))
theorem Kp.refl (h : Addr) (H : Hp) : Kp h H H := ⟨fun _ _ e _ => e, fun _ n m e => ⟨n, m, e⟩⟩
theorem Kp.trans {h : Addr} {H H1 H2 : Hp} (a : Kp h H H1) (b : Kp h H1 H2) : Kp h H H2 := ⟨fun c o e n => b.1 c o (a.1 c o e n) n, fun l n m e => let ⟨n', m', e'⟩ := a.2 l n m e; b.2 l n' m' e'⟩
theorem Kp.same {h : Addr} {H H1 : Hp} (a : Same H H1) : Kp h H H1 := ⟨fun c o e _ => a c o e, fun _ n m e => ⟨n, m, a _ _ e⟩⟩
theorem hd_inj {l l' : Addr} {n m n' m' : Int} (h : HO.dK (hd0 l n m) = HO.dK (hd0 l' n' m')) : l = l' := by
  injection h with h
  injection h with h _
  injection h with _ h
  injection h
/-- the held dict put anew -/
theorem Kp.put {h l : Addr} {H : Hp} {n m : Int} (n' m' : Int) (e : H h = some (.dK (hd0 l n m))) : Kp h H (upd H h (.dK (hd0 l n' m'))) := by
  refine ⟨fun c o z ne => by rw [upd_ne ne]; exact z, fun l' n1 m1 z => ⟨n', m', ?_⟩⟩
  rw [upd_same, hd_inj (Option.some.inj (z.symm.trans e))]
theorem Held.same {H H' : Hp} {h : Addr} {c : Nat} (s : Same H H') (x : Held H h c) : Held H' h c := by
  obtain ⟨l, ns, n, m, h1, h2, h3, h4⟩ := x
  exact ⟨l, ns, n, m, s _ _ h1, s _ _ h2, h3, h4⟩
theorem same_new {H : Hp} {p : Addr} {o : HO} (h : H p = none) : Same H (upd H p o) := fun a u e => by
  rw [upd_ne (ne_of_none e h)]
  exact e
theorem dpInts {K : PySem.W.Frag} {H : Hp} : ∀ ns : List Int, DpAll K H (ns.map V.int) (ns.map PyData.int)
  | [] => .nil
  | n :: ns => .cons (.int n) (dpInts ns)
section
variable {P : Program} {w : World} {K : PySem.W.Frag} {mg : Str → Option Value} {base : Heap} {f C : Addr} {fd : FuncData}
def spHeld (K : PySem.W.Frag) : Sp := fun vs H Q _ => ∃ (a : Addr) (ns : List Int), vs = [.ref a] ∧ SqL K H a (ns.map V.int) ∧ ns.length ≤ 63 ∧ ∀ h H', Same H H' → H h = none → Held H' h 900000000 → Q (.ref h) H'
theorem ok_held (F : Dn K d_l_held f fd) (b : Bl mg) : FnOk P w K mg base CX0 1 f fd ["_law_script"] (spHeld K) := by
  refine F.ok sc_l_held (fun vs H Q E h => ?_) (fun cdv A outer s H vs Q E hr h => ?_)
  · obtain ⟨a, ns, rfl, _⟩ := h
    rfl
  · obtain ⟨a, ns, rfl, hS, hlen, hQ⟩ := h
    refine ⟨_, PSs.nox (pss_one (ps_ret (pe_disp (pps_cons pe_str (pe_callTy call_list_of rfl b.list boot_list (pa_cons (pe_slice sl_list (pv 0) po_none (po_some pe_int)) pa_nil)) (pps_cons pe_str pe_int (pps_cons pe_str pe_int pps_nil))) rfl rfl (by simp) (by decide)))), ?_⟩
    intro h hh
    have sS : SqL K (upd H h (.dK [])) a (ns.map V.int) := (same_new hh).seq hS
    refine ⟨_, rfl, 63, rfl, a, _, rfl, sS, fun p hp => ⟨p, _, rfl, Or.inl (SqL.of upd_same), fun l hl => ?_⟩⟩
    have nhp : h ≠ p := ne_of_none upd_same hp
    have nhl : h ≠ l := ne_of_none (by rw [upd_ne nhp]; exact upd_same) hl
    refine ⟨by rw [upd_ne nhl, upd_ne nhp, upd_same], hd0 l 0 0, rfl, by show 3 ≤ 15; decide, ?_⟩
    have e : cutV (ns.map V.int) none (some 63) = (ns.take 63).map V.int := by
      unfold cutV
      simp [HT.sIx, List.map_take]
    refine hQ h _ (fun c o z => ?_) hh ⟨l, ns.take 63, 0, 0, ?_, ?_, by decide, by decide⟩
    · have z1 : c ≠ h := ne_of_none z hh
      have z2 : (upd H h (.dK [])) c = some o := by rw [upd_ne z1]; exact z
      have z3 : c ≠ p := ne_of_none z2 hp
      have z4 : c ≠ l := ne_of_none (by rw [upd_ne z3]; exact z2) hl
      rw [upd_ne z1, upd_ne z4, upd_ne z3]
      exact z2
    · rw [upd_same, hd_merge]
    · rw [upd_ne nhl.symm, upd_same, ← e]

def spDraw : Sp := fun vs H Q _ => ∃ (h : Addr) (c : Nat) (k : Int), vs = [.ref h, .int k] ∧ Held H h (c + 1) ∧ 0 < k ∧ k < 1073741824 ∧
  ∀ r H', 0 ≤ r → r < k → Held H' h c → Kp h H H' → Q (.int r) H'
theorem cb_l {i j : Int} (h1 : -(2 ^ 64) < i) (h2 : i < 2 ^ 64) : CMul i j := .inl ⟨h1, h2⟩
theorem cb_r {i j : Int} (h1 : -(2 ^ 64) < j) (h2 : j < 2 ^ 64) : CMul i j := .inr ⟨h1, h2⟩
theorem ok_draw (F : Dn K d_l_draw f fd) (b : Bl mg) : FnOk P w K mg base CX0 1 f fd ["_law_held_here", "_law_many"] spDraw := by
  refine F.ok sc_l_draw (fun vs H Q E h => ?_) (fun cdv A outer s H vs Q E hr h => ?_)
  · obtain ⟨h, c, k, rfl, _⟩ := h
    rfl
  · obtain ⟨h, c, k, rfl, ⟨l, ns, n, m, hh, hl, hn, hc⟩, hk0, hk1, hQ⟩ := h
    have hu := hu_of hr
    have hu64 : (A.deeper (envOfC d_l_draw.qual d_l_draw.scope s.heap.objs.size f cdv)).units + 64 < cLine := by have := hr.un; omega
    have nlh : l ≠ h := ne_of hl hh (by intro z; cases z)
    refine ⟨_, PSs.nox (pss_cons (ps_if (pt_cmpR op_gt (pe_dget hu (pv 0) pe_str (fun _ _ => rfl)) pe_int (nomark _))
         (pss_cons (ps_set (i := 2) sc_l_draw.nd rfl (.inl rfl) (pe_op op_mod (pe_dget hu (pv 0) pe_str (fun _ _ => rfl)) (pv 1)))
         (pss_cons (ps_dput hu (pv 0) pe_str (pe_op op_fdiv (pe_dget hu (pv 0) pe_str (fun _ _ => rfl)) (pv 1)) rfl)
         (pss_one (ps_ret (pv 2))))) pss_nil)
      (pss_cons (ps_set (i := 3) sc_l_draw.nd rfl (.inl rfl) (pe_dget hu (pv 0) pe_str (fun _ _ => rfl)))
      (pss_cons (ps_dput hu (pv 0) pe_str (pe_op op_add (pv 3) pe_int) rfl)
      (C8.pss_cut (ps_set (i := 4) sc_l_draw.nd rfl (.inl rfl) (pe_ifExp (pt_cmpR (op_neD hu64) (pe_dget hu (pv 0) pe_str (fun _ _ => rfl)) (pe_lst pa_nil) (nomark _))
        (pe_ix ix_list (pe_dget hu (pv 0) pe_str (fun _ _ => rfl)) (pe_op op_mod (pv 3) (pe_callB call_len_seq rfl b.len boot_len (pa_cons (pe_dget hu (pv 0) pe_str (fun _ _ => rfl)) pa_nil))) (fun _ _ => rfl)) pe_int))
      (pss_cons (ps_if (PW.pt (pw_and (pt_cmpR op_ge (pv 4) (pe_op op_pow pe_int pe_int) (nomark _)) (pw_and1 (pt_cmpR op_lt (pv 3) (pe_callB call_len_seq rfl b.len boot_len (pa_cons (pe_dget hu (pv 0) pe_str (fun _ _ => rfl)) pa_nil)) (nomark _)))))
         (pss_cons (ps_dput hu (pv 0) pe_str (pe_op op_fdiv (pe_op op_sub (pv 4) (pe_op op_pow pe_int pe_int)) (pv 1)) rfl)
         (pss_one (ps_ret (pe_op op_mod (pe_op op_sub (pv 4) (pe_op op_pow pe_int pe_int)) (pv 1))))) pss_nil)
      (pss_cons (ps_set (i := 5) sc_l_draw.nd rfl (.inl rfl) (pe_op op_mod (pe_op op_add (pe_op op_add (pe_op op_add (pe_op op_mul (pe_op op_mod (pv 4) pe_int) pe_int) (pe_op op_mul (pe_op op_mul pe_int (pv 3)) (pv 3))) (pe_op op_mul pe_int (pv 3))) pe_int) pe_int))
      (pss_cons (ps_set (i := 5) sc_l_draw.nd rfl (.inl rfl) (pe_op op_mod (pe_op op_add (pe_op op_add (pe_op op_mul (pv 5) pe_int) (pe_op op_fdiv (pv 5) pe_int)) pe_int) pe_int))
      (pss_one (ps_ret (pe_op op_mod (pe_op op_fdiv (pv 5) pe_int) (pv 1))))))))))), ?_⟩
    have cM : ∀ x y : Int, 0 < y → (0 ≤ x % y ∧ x % y < y) := fun x y hy => ⟨Int.emod_nonneg _ (by omega), Int.emod_lt_of_pos _ hy⟩
    refine ⟨_, rfl, h, _, rfl, hd_left l n m ▸ DGet.k (k := Sum.inr "left") hh, _, _, rfl, rfl, _, rfl, ?_⟩
    refine ite2 (fun h1 => ?_) (fun h1 => ?_)
    · refine ⟨_, rfl, h, _, rfl, hd_left l n m ▸ DGet.k (k := Sum.inr "left") hh, _, rfl, _, _, rfl, rfl, hk0, ?_⟩
      refine ⟨_, rfl, h, _, rfl, hd_left l n m ▸ DGet.k (k := Sum.inr "left") hh, _, rfl, _, _, rfl, rfl, ⟨hk0, hk1⟩, _, rfl, h, _, rfl, DPut.k (k := Sum.inr "left") hh (by show 3 < sizeLine; decide), ?_⟩
      refine ⟨_, rfl, hQ _ _ (cM _ _ hk0).1 (cM _ _ hk0).2 ⟨l, ns, n, m / k, ?_, ?_, hn, by omega⟩ ?_⟩
      · rw [upd_same, put_left]
      · rw [upd_ne nlh]; exact hl
      · rw [put_left]; exact Kp.put _ _ hh
    · refine ⟨_, rfl, h, _, rfl, hd_at l n m ▸ DGet.k (k := Sum.inr "at") hh, ?_⟩
      refine ⟨_, rfl, _, _, rfl, rfl, _, rfl, h, _, rfl, DPut.k (k := Sum.inr "at") hh (by show 3 < sizeLine; decide), ?_⟩
      rw [put_at]
      have hh1 : (upd H h (.dK (hd0 l (n + 1) m))) h = some (.dK (hd0 l (n + 1) m)) := upd_same
      have hl1 : (upd H h (.dK (hd0 l (n + 1) m))) l = some (.lst (ns.map V.int)) := by rw [upd_ne nlh]; exact hl
      have kp1 : Kp h H (upd H h (.dK (hd0 l (n + 1) m))) := Kp.put _ _ hh
      refine ⟨fun σ' H' => ∃ (cell : Int), σ' = [some (.ref h), some (.int k), none, some (.int n), some (.int cell), none] ∧ H' h = some (.dK (hd0 l (n + 1) m)) ∧ H' l = some (.lst (ns.map V.int)) ∧ Kp h H H', ?_, ?_⟩
      · refine ⟨_, rfl, h, _, rfl, hd_cells l (n + 1) m ▸ DGet.k (k := Sum.inr "cells") hh1, (by show 0 ≤ sizeLine; decide), fun e he => ?_⟩
        have nhe : h ≠ e := ne_of_none hh1 he
        have nle : l ≠ e := ne_of_none hl1 he
        have hh2 : (upd (upd H h (.dK (hd0 l (n + 1) m))) e (.lst [])) h = some (.dK (hd0 l (n + 1) m)) := by rw [upd_ne nhe]; exact hh1
        have hl2 : (upd (upd H h (.dK (hd0 l (n + 1) m))) e (.lst [])) l = some (.lst (ns.map V.int)) := by rw [upd_ne nle]; exact hl1
        have kp2 : Kp h H (upd (upd H h (.dK (hd0 l (n + 1) m))) e (.lst [])) := kp1.trans (Kp.same (same_new he))
        refine ⟨.list (ns.map .int), .list [], Dp.lst (SqL.of hl2) (dpInts ns), Dp.lst (SqL.of upd_same) .nil, PySem.W.ke_shaped_ints ns, by decide, _, rfl, ?_⟩
        cases ns with
        | nil => exact iteF ⟨0, rfl, hh2, hl2, kp2⟩
        | cons z zs =>
          refine iteT ?_
          have hlen : (0 : Int) < (((z :: zs).map V.int).length : Int) := by simp
          refine ⟨_, rfl, h, _, rfl, hd_cells l (n + 1) m ▸ DGet.k (k := Sum.inr "cells") hh2, _, rfl, _, rfl, h, _, rfl, hd_cells l (n + 1) m ▸ DGet.k (k := Sum.inr "cells") hh2, l, _, rfl, Or.inl (SqL.of hl2), _, _, rfl, rfl, hlen, ?_⟩
          obtain ⟨q, hq⟩ := Int.eq_ofNat_of_zero_le (cM n _ hlen).1
          have hq2 := (cM n _ hlen).2
          rw [hq] at hq2
          have hq3 : q < (z :: zs).length := by rw [List.length_map] at hq2; omega
          refine ⟨l, _, _, .int ((z :: zs)[q]), rfl, rfl, SqL.of hl2, (by rw [hq]; exact atI_nat (by rw [List.getElem?_map, List.getElem?_eq_getElem hq3]; rfl)), ?_⟩
          exact ⟨_, rfl, hh2, hl2, kp2⟩
      · rintro σ' H' ⟨cell, rfl, hh2, hl2, kp2⟩
        have stay : ∀ m', Held (upd H' h (.dK (hd0 l (n + 1) m'))) h c := fun m' => ⟨l, ns, n + 1, m', upd_same, by rw [upd_ne nlh]; exact hl2, by omega, by omega⟩
        have stay0 : Held H' h c := ⟨l, ns, n + 1, m, hh2, hl2, by omega, by omega⟩
        have last : ∀ D : Ends, D.rt = Q → tSeq (tAsg (tOp (rI (fun _ j => 0 < j) fun i j => .int (i % j)) (tOp (rI0 fun i j => .int (i + j)) (tOp (rI0 fun i j => .int (i + j)) (tOp (rI0 fun i j => .int (i + j))
            (tOp (rI CMul fun i j => .int (i * j)) (tOp (rI (fun _ j => 0 < j) fun i j => .int (i % j)) (tVar 4) (tC (.int 2147483587))) (tC (.int 40692))) (tOp (rI CMul fun i j => .int (i * j)) (tOp (rI CMul fun i j => .int (i * j)) (tC (.int 7907)) (tVar 3)) (tVar 3)))
            (tOp (rI CMul fun i j => .int (i * j)) (tC (.int 104729)) (tVar 3))) (tC (.int 17))) (tC (.int 2147483629))) (gName 5))
          (tSeq (tAsg (tOp (rI (fun _ j => 0 < j) fun i j => .int (i % j)) (tOp (rI0 fun i j => .int (i + j)) (tOp (rI0 fun i j => .int (i + j)) (tOp (rI CMul fun i j => .int (i * j)) (tVar 5) (tC (.int 48271))) (tOp (rI CDiv fun i j => .int (i / j)) (tVar 5) (tC (.int 127)))) (tC (.int 31))) (tC (.int 2147483647))) (gName 5))
          (tRet (tOp (rI (fun _ j => 0 < j) fun i j => .int (i % j)) (tOp (rI CDiv fun i j => .int (i / j)) (tVar 5) (tC (.int 89))) (tVar 1)))) D [some (.ref h), some (.int k), none, some (.int n), some (.int cell), none] H' := by
          intro D hD
          refine ⟨_, rfl, _, _, rfl, rfl, (by decide : (0 : Int) < 2147483587), _, _, rfl, rfl, cb_r (by decide) (by decide), _, rfl, _, _, rfl, rfl, cb_l (by decide) (by decide), _, rfl, _, _, rfl, rfl, cb_r (by omega) (by omega), _, _, rfl, rfl, ?_⟩
          refine ⟨_, rfl, _, _, rfl, rfl, cb_l (by decide) (by decide), _, _, rfl, rfl, _, _, rfl, rfl, _, _, rfl, rfl, (by decide : (0 : Int) < 2147483629), ?_⟩
          refine ⟨_, rfl, _, _, rfl, rfl, cb_r (by decide) (by decide), _, rfl, _, _, rfl, rfl, ⟨by decide, by decide⟩, _, _, rfl, rfl, _, _, rfl, rfl, _, _, rfl, rfl, (by decide : (0 : Int) < 2147483647), ?_⟩
          refine ⟨_, rfl, _, _, rfl, rfl, ⟨by decide, by decide⟩, _, rfl, _, _, rfl, rfl, hk0, ?_⟩
          rw [hD]
          exact hQ _ _ (cM _ _ hk0).1 (cM _ _ hk0).2 stay0 kp2
        refine ⟨_, rfl, _, _, rfl, rfl, ⟨by decide, by decide, by decide⟩, _, _, rfl, rfl, _, rfl, ?_⟩
        refine ite2 (fun g1 => ?_) (fun g1 => iteF (last _ rfl))
        refine ⟨_, rfl, _, rfl, h, _, rfl, hd_cells l (n + 1) m ▸ DGet.k (k := Sum.inr "cells") hh2, l, _, rfl, Or.inl (SqL.of hl2), _, _, rfl, rfl, _, rfl, ?_⟩
        refine ite2 (fun g2 => ?_) (fun g2 => last _ rfl)
        refine ⟨_, rfl, _, _, rfl, rfl, ⟨by decide, by decide, by decide⟩, _, _, rfl, rfl, _, rfl, _, _, rfl, rfl, ⟨hk0, hk1⟩, _, rfl, h, _, rfl, DPut.k (k := Sum.inr "left") hh2 (by show 3 < sizeLine; decide), ?_⟩
        refine ⟨_, rfl, _, _, rfl, rfl, ⟨by decide, by decide, by decide⟩, _, _, rfl, rfl, _, rfl, _, _, rfl, rfl, hk0, ?_⟩
        rw [put_left]
        refine hQ _ _ (cM _ _ hk0).1 (cM _ _ hk0).2 (stay _) (kp2.trans (Kp.put _ _ hh2))
end
end K52
set_option linter.all false
namespace KM
/-- top and bottom of a rational number -/
def pr (r : Rat) : Int × Int := (r.num, (r.den : Int))
theorem pr_inj {r s : Rat} (h : pr r = pr s) : r = s := by
  have h1 : r.num = s.num := congrArg Prod.fst h
  have h2 : (r.den : Int) = (s.den : Int) := congrArg Prod.snd h
  rw [← Rat.num_divInt_den r, ← Rat.num_divInt_den s, h1, h2]
theorem den_ne (r : Rat) : (r.den : Int) ≠ 0 := by
  have := r.den_nz
  omega
theorem den_pos (r : Rat) : 0 < (r.den : Int) := by
  have := r.den_nz
  omega
theorem low_eq {t b : Int} (h : b ≠ 0) : low t b = pr (Rat.divInt t b) := by
  have hp := low_pos (t := t) h
  have hc := low_cop (t := t) h
  obtain ⟨d, hd⟩ := Int.eq_ofNat_of_zero_le (Int.le_of_lt hp)
  have hd0 : d ≠ 0 := by
    intro z
    rw [z] at hd
    omega
  have hcop : (low t b).1.natAbs.Coprime d := by
    have : Int.gcd (low t b).1 (low t b).2 = 1 := hc
    rw [hd] at this
    exact this
  have e1 : Rat.divInt (low t b).1 (d : Int) = Rat.divInt t b := by
    rw [Rat.divInt_eq_divInt_iff (by omega) h, ← hd]
    have h1 := low_top (t := t) (b := b)
    have h2 := low_bot (t := t) (b := b)
    calc (low t b).1 * b = (low t b).1 * (sg t b * (low t b).2) := by rw [h2]
      _ = sg t b * (low t b).1 * (low t b).2 := by rw [← Int.mul_assoc, Int.mul_comm (low t b).1]
      _ = t * (low t b).2 := by rw [h1]
  have e2 : ({ num := (low t b).1, den := d, den_nz := hd0, reduced := hcop } : Rat) = Rat.divInt t b := by rw [Rat.mk_eq_divInt, e1]
  rw [← e2]
  exact Prod.ext rfl hd
theorem pr_plus (r s : Rat) : low ((pr r).1 * (pr s).2 + (pr s).1 * (pr r).2) ((pr r).2 * (pr s).2) = pr (r + s) := by
  show low (r.num * s.den + s.num * r.den) (r.den * s.den) = _
  rw [low_eq (Int.mul_ne_zero (den_ne r) (den_ne s)), ← Rat.divInt_add_divInt _ _ (den_ne r) (den_ne s), Rat.num_divInt_den, Rat.num_divInt_den]
theorem pr_less (r s : Rat) : low ((pr r).1 * (pr s).2 - (pr s).1 * (pr r).2) ((pr r).2 * (pr s).2) = pr (r - s) := by
  show low (r.num * s.den - s.num * r.den) (r.den * s.den) = _
  rw [low_eq (Int.mul_ne_zero (den_ne r) (den_ne s)), ← Rat.divInt_sub_divInt _ _ (den_ne r) (den_ne s), Rat.num_divInt_den, Rat.num_divInt_den]
theorem pr_times (r : Rat) (k : Int) : low ((pr r).1 * k) (pr r).2 = pr (r * (Rat.divInt k 1)) := by
  show low (r.num * k) r.den = _
  have e : Rat.divInt (r.num * k) (r.den : Int) = Rat.divInt r.num r.den * Rat.divInt k 1 := by rw [Rat.divInt_mul_divInt, Int.mul_one]
  rw [low_eq (den_ne r), e, Rat.num_divInt_den]
theorem pr_over (r : Rat) {k : Int} (h : k ≠ 0) : low (pr r).1 ((pr r).2 * k) = pr (r * (Rat.divInt 1 k)) := by
  show low r.num (r.den * k) = _
  have e : Rat.divInt r.num (r.den * k : Int) = Rat.divInt r.num r.den * Rat.divInt 1 k := by rw [Rat.divInt_mul_divInt, Int.mul_one]
  rw [low_eq (Int.mul_ne_zero (den_ne r) h), e, Rat.num_divInt_den]
theorem inv_k {k : Int} (h : k ≠ 0) : Rat.divInt k 1 * Rat.divInt 1 k = 1 := by
  rw [Rat.divInt_mul_divInt, Int.mul_one, Int.one_mul]
  exact Rat.divInt_self' h
theorem pr_lt (r s : Rat) : ((pr r).1 * (pr s).2 < (pr s).1 * (pr r).2) ↔ r < s := (Rat.lt_iff r s).symm
theorem pr_bot (r : Rat) : 0 < (pr r).2 := den_pos r
theorem add_back (r s : Rat) : r + s - s = r := by
  rw [Rat.sub_eq_add_neg, Rat.add_assoc, Rat.add_neg_cancel, Rat.add_zero]
theorem sub_back (r s : Rat) : r - s + s = r := by
  rw [Rat.sub_eq_add_neg, Rat.add_assoc, Rat.neg_add_cancel, Rat.add_zero]
theorem mul_back (r : Rat) {k : Int} (h : k ≠ 0) : r * Rat.divInt k 1 * Rat.divInt 1 k = r := by
  rw [Rat.mul_assoc, inv_k h, Rat.mul_one]
theorem div_back (r : Rat) {k : Int} (h : k ≠ 0) : r * Rat.divInt 1 k * Rat.divInt k 1 = r := by
  rw [Rat.mul_assoc, Rat.mul_comm (Rat.divInt 1 k), inv_k h, Rat.mul_one]
/-- small -/
def Sz (n : Nat) (r : Rat) : Prop := r.num.natAbs < 2 ^ n ∧ r.den < 2 ^ n
theorem Sz.mono {n m : Nat} {r : Rat} (h : Sz n r) (hm : n ≤ m) : Sz m r := ⟨Nat.lt_of_lt_of_le h.1 (Nat.pow_le_pow_right (by decide) hm), Nat.lt_of_lt_of_le h.2 (Nat.pow_le_pow_right (by decide) hm)⟩
theorem sz_of_low {t b : Int} {n : Nat} (hb : b ≠ 0) (h1 : t.natAbs < 2 ^ n) (h2 : b.natAbs < 2 ^ n) : Sz n (Rat.divInt t b) := by
  have e := low_eq (t := t) hb
  have e1 : (low t b).1 = (Rat.divInt t b).num := congrArg Prod.fst e
  have e2 : (low t b).2 = ((Rat.divInt t b).den : Int) := congrArg Prod.snd e
  have l1 := low_top_le (t := t) hb
  have l2 := low_bot_le (t := t) hb
  constructor
  · rw [← e1]; omega
  · have : ((low t b).2).natAbs < 2 ^ n := by omega
    rw [e2] at this
    simpa using this
theorem two_lt {x y n m : Nat} (h1 : x < 2 ^ n) (h2 : y < 2 ^ m) : x * y < 2 ^ (n + m) := by
  rw [Nat.pow_add]
  exact Nat.mul_lt_mul'' h1 h2
theorem sz_sum {a b c d : Int} {n m : Nat} (h1 : a.natAbs < 2 ^ n) (h2 : d.natAbs < 2 ^ m) (h3 : c.natAbs < 2 ^ m) (h4 : b.natAbs < 2 ^ n) : (a * d + c * b).natAbs < 2 ^ (n + m + 1) ∧ (a * d - c * b).natAbs < 2 ^ (n + m + 1) := by
  have e1 : (a * d).natAbs < 2 ^ (n + m) := by rw [Int.natAbs_mul]; exact two_lt h1 h2
  have e2 : (c * b).natAbs < 2 ^ (n + m) := by rw [Int.natAbs_mul, Nat.add_comm]; exact two_lt h3 h4
  have e3 : 2 ^ (n + m + 1) = 2 * 2 ^ (n + m) := by rw [Nat.pow_succ, Nat.mul_comm]
  omega
theorem sz_plus {n m : Nat} {r s : Rat} (hr : Sz n r) (hs : Sz m s) : Sz (n + m + 1) (r + s) ∧ Sz (n + m + 1) (r - s) := by
  have d1 : ((r.den : Int)).natAbs < 2 ^ n := by simpa using hr.2
  have d2 : ((s.den : Int)).natAbs < 2 ^ m := by simpa using hs.2
  have hd : ((r.den : Int) * s.den).natAbs < 2 ^ (n + m + 1) := by
    have : ((r.den : Int) * s.den).natAbs < 2 ^ (n + m) := by rw [Int.natAbs_mul]; exact two_lt d1 d2
    exact Nat.lt_of_lt_of_le this (Nat.pow_le_pow_right (by decide) (by omega))
  have hn := sz_sum hr.1 d2 hs.1 d1
  have ne := Int.mul_ne_zero (den_ne r) (den_ne s)
  constructor
  · have := sz_of_low ne hn.1 hd
    rw [← Rat.divInt_add_divInt _ _ (den_ne r) (den_ne s), Rat.num_divInt_den, Rat.num_divInt_den] at this
    exact this
  · have := sz_of_low ne hn.2 hd
    rw [← Rat.divInt_sub_divInt _ _ (den_ne r) (den_ne s), Rat.num_divInt_den, Rat.num_divInt_den] at this
    exact this
theorem sz_times {n m : Nat} {r : Rat} {k : Int} (hr : Sz n r) (hk : k.natAbs < 2 ^ m) : Sz (n + m) (r * Rat.divInt k 1) := by
  have e : r * Rat.divInt k 1 = Rat.divInt (r.num * k) r.den := by
    have : Rat.divInt (r.num * k) (r.den : Int) = Rat.divInt r.num r.den * Rat.divInt k 1 := by rw [Rat.divInt_mul_divInt, Int.mul_one]
    rw [this, Rat.num_divInt_den]
  rw [e]
  refine sz_of_low (den_ne r) (by rw [Int.natAbs_mul]; exact two_lt hr.1 hk) ?_
  have d1 : ((r.den : Int)).natAbs < 2 ^ n := by simpa using hr.2
  exact Nat.lt_of_lt_of_le d1 (Nat.pow_le_pow_right (by decide) (by omega))
theorem sz_over {n m : Nat} {r : Rat} {k : Int} (hr : Sz n r) (h : k ≠ 0) (hk : k.natAbs < 2 ^ m) : Sz (n + m) (r * Rat.divInt 1 k) := by
  have e : r * Rat.divInt 1 k = Rat.divInt r.num (r.den * k) := by
    have : Rat.divInt r.num (r.den * k : Int) = Rat.divInt r.num r.den * Rat.divInt 1 k := by rw [Rat.divInt_mul_divInt, Int.mul_one]
    rw [this, Rat.num_divInt_den]
  rw [e]
  have d1 : ((r.den : Int)).natAbs < 2 ^ n := by simpa using hr.2
  refine sz_of_low (Int.mul_ne_zero (den_ne r) h) (Nat.lt_of_lt_of_le hr.1 (Nat.pow_le_pow_right (by decide) (by omega))) ?_
  rw [Int.natAbs_mul]
  exact two_lt d1 hk
end KM
set_option Elab.async false
set_option linter.all false
set_option maxRecDepth 100000
set_option maxHeartbeats 4000000
/-! KW: calls by keywords alone: f(k = v, ..), o.m(k = v, ..). -/
namespace KW
open PySem PySem.Spec PyProof.Rows L2
section
variable {X : Cx} {k j : Nat} {C f : Addr} {fd : FuncData} {ps ks : List Str} {sp : Sp} {x m : Str} {p pos apos : Pos} {o : Expr} {kws : List Keyword} {ta : TE} {tk : TA} {g : List Value → List Value → List Value} {gV : List V → List V → List V}
theorem pe_cK (F : FnOk X.prog X.w X.K X.mg X.base CX0 k f fd ps sp) (hr : Room k X.A) (hg : Gl X x) (hm : X.mg x = some (.ref f)) (hk : PySem.W.keepIn X.K (.ref f) = true) (hb : KBn X.K fd ps 0 ks g gV) (hkw : PK X kws tk)
    (hall : (backToKw pos (keywordEach kws X.env)).all (·.1.isSome) = true := by rfl) (hks : (backToKw pos (keywordEach kws X.env)).filterMap (·.1) = ks := by rfl) (hdb : (x == ("__debug__" : Str)) = false := by decide)
    (hpl : ((backTo pos (starEach [] X.env)).any (·.1) || (backToKw pos (keywordEach kws X.env)).any (·.1.isNone)) = false := by rfl) :
    PE X (.Call (.Name x p) [] kws pos) (fun σ H Q => tk σ H fun zs H1 => zs.length = ks.length ∧ sp (gV [] zs) H1 Q E0) := by
  refine ⟨fun pins s σ H Q I h => wpAny_Call_Name_kw (ld_glob I hg hm (PySem.W.callWith_KW0 (h₀ := X.base) I.ok.mod.kin hk hall ?_ hpl) hdb)⟩
  refine thn (hkw.run pos pins s σ H _ I h) fun ws s2 ⟨zs, H2, I2, rz, l2, q2⟩ => ⟨I2.kIn, ?_⟩
  rw [hks]
  exact run_fnN (us := []) (vs := []) F hr hb (fun _ _ _ _ _ _ _ h => False.elim h) I2 .nil rz rfl l2 q2
theorem pe_mtK {pl : Sem Bool} (he : PE X o ta) (c : Cls X.K C) (hm : Meth X.K C m f) (F : FnOk X.prog X.w X.K X.mg X.base CX0 k f fd ps sp) (hr : Room k X.A) (hb : KBn X.K fd ps 1 ks g gV) (hkw : PK X kws tk)
    (hall : (backToKw pos (keywordEach kws X.env)).all (·.1.isSome) = true := by rfl) (hks : (backToKw pos (keywordEach kws X.env)).filterMap (·.1) = ks := by rfl)
    (hpl : ((backTo pos (starEach [] X.env)).any (·.1) || (backToKw pos (keywordEach kws X.env)).any (·.1.isNone)) = false := by rfl)
    (ht : eval (.Call (.Attribute o m apos) [] kws pos) X.env = (do
      let ov ← eval o X.env
      standAt apos.atName
      let (f, first) ← holding [ov] (getMethod ov m pl)
      callWith pos f first (backTo pos (starEach [] X.env)) (backToKw pos (keywordEach kws X.env))) := by rfl) :
    PE X (.Call (.Attribute o m apos) [] kws pos) (fun σ H Q => ta σ H fun x H1 => ∃ a dx fs, x = .ref a ∧ H1 a = some (.ins C dx fs) ∧ fs.lookup m = none ∧ tk σ H1 fun zs H2 => zs.length = ks.length ∧ sp (gV [.ref a] zs) H2 Q E0) := by
  refine ⟨fun pins s σ H Q I h => ?_⟩
  refine PySem.W.methodCall_KW (pl := pl) (thn (he.run pins s σ H _ I h) fun u s1 ⟨x, H1, I1, rx, a, dx, fs, ex, ea, l, q⟩ => ?_) ht
  subst ex
  obtain rfl : u = Value.ref a := rx
  refine getmeth_ok I1 ea c hm l (PySem.W.callWith_KW0 (first := [.ref a]) (h₀ := X.base) I.ok.mod.kin hm.kp hall ?_ hpl)
  refine thn (hkw.run pos pins s1 σ H1 _ I1 q) fun ws s2 ⟨zs, H2, I2, rz, l2, q2⟩ => ⟨I2.kIn, ?_⟩
  rw [hks]
  exact run_fnN (us := [.ref a]) (vs := [.ref a]) F hr hb (fun _ _ _ _ _ _ _ h => False.elim h) I2 (.cons rfl .nil) rz rfl l2 q2
end
end KW
set_option Elab.async false
set_option linter.all false
set_option maxRecDepth 100000
set_option maxHeartbeats 4000000
namespace K52
open PySem PySem.Spec PyProof.Rows L2
open C8 (Cal Mak Met pe_c pe_mk pe_mt pe_mt0)
open KM (pr Sz)
/-- what isinstance asks of the class -/
structure IsC (K : PySem.W.Frag) (C : Addr) : Prop where
  ha : PySem.W.findIn K (.ref C) "__class__" = some (some (.builtin "object.__class__"))
  hn : PySem.W.specialIn K (.builtin "object.__class__") "__get__" = some (some (.builtin "getset_descriptor.__get__"))
  htk : PySem.W.takesIn K (.builtin "object.__class__") = some true
  hm : PySem.W.mroIn K C (.type "object") = some true
  kit : PySem.W.kitOne K (.ref C) (.ref C) = some true
theorem bd_of {n : Nat} {r : Rat} (h : Sz n r) : Bd n (pr r) := ⟨h.1, KM.den_pos r, by simpa [pr] using h.2⟩

section
variable {P : Program} {w : World} {K : PySem.W.Frag} {mg : Str → Option Value} {base : Heap} {f C : Addr} {fd : FuncData}
abbrev CalD (P : Program) (w : World) (K : PySem.W.Frag) (mg : Str → Option Value) (base : Heap) : Prop := Cal P w K mg base 1 "_law_draw" spDraw []
def tupP (q : Int × Int) : HO := .tup [.int q.1, .int q.2]
def spLow : Sp := fun vs H Q _ => ∃ (t b : Int) (n : Nat), vs = [.int t, .int b] ∧ b ≠ 0 ∧ b.natAbs < 2 ^ n ∧ 0 < n ∧ n ≤ 9000 ∧ ∀ r, H r = none → Q (.ref r) (upd H r (tupP (KM.low t b)))
theorem ok_low (F : Dn K d_l_low f fd) (b : Bl mg) : FnOk P w K mg base CX0 1 f fd ["_law_top", "_law_bottom"] spLow := by
  refine F.ok sc_l_low (fun vs H Q E h => ?_) (fun cdv A outer s H vs Q E hr h => ?_)
  · obtain ⟨t, b, n, rfl, _⟩ := h
    rfl
  · obtain ⟨x, y, n, rfl, hy, hn, hn0, hn9, hQ⟩ := h
    refine ⟨_, PSs.nox (pss_cons (ps_par (i := 2) (j := 3) rfl sc_l_low.nd rfl rfl (by decide) rfl rfl (pa_cons (pe_callB call_abs rfl b.abs boot_abs (pa_cons (pv 0) pa_nil)) (pa_cons (pe_callB call_abs rfl b.abs boot_abs (pa_cons (pv 1) pa_nil)) pa_nil)) rfl)
      (pss_cons (ps_while PassesOwn.never (pt_cmpR op_gt (pv 3) pe_int (nomark _)) (pss_one (ps_par (i := 2) (j := 3) rfl sc_l_low.nd rfl rfl (by decide) rfl rfl (pa_cons (pv 3) (pa_cons (pe_op op_mod (pv 2) (pv 3)) pa_nil)) rfl)))
      (C8.pss_cut (ps_if (pt_cmpR op_lt (pv 1) pe_int (nomark _)) (pss_one (ps_set (i := 2) sc_l_low.nd rfl (.inl rfl) (pe_op op_sub pe_int (pv 2)))) pss_nil)
      (pss_one (ps_ret (pe_tup (pa_cons (pe_op op_fdW (pv 0) (pv 2)) (pa_cons (pe_op op_fdW (pv 1) (pv 2)) pa_nil)))))))), ?_⟩
    refine ⟨_, rfl, _, rfl, _, rfl, _, rfl, _, _, rfl, while_by (fun σ H2 => H2 = H ∧ ∃ a c : Int, σ = [some (.int x), some (.int y), some (.int a), some (.int c)] ∧ 0 ≤ a ∧ 0 ≤ c ∧ Int.gcd a c = Int.gcd x y)
      (fun σ _ => match σ with | [_, _, _, some (.int c)] => c.toNat | _ => 0) ⟨rfl, _, _, rfl, ?_, ?_, ?_⟩ ?_ ?_⟩
    · split <;> omega
    · split <;> omega
    · rw [abs_eq, abs_eq]
      rfl
    · rintro σ H2 ⟨rfl, a, c, rfl, ha, hc, hg⟩
      refine ⟨_, rfl, _, _, rfl, rfl, _, rfl, ?_⟩
      refine ite2 (fun g => ?_) (fun g => ?_)
      · have hp : 0 < c := of_decide_eq_true g
        refine ⟨_, rfl, _, rfl, _, rfl, _, _, rfl, rfl, hp, _, _, rfl, ⟨rfl, _, _, rfl, hc, Int.emod_nonneg _ (by omega), ?_⟩, ?_⟩
        · rw [KM.gcd_turn ha hp, hg]
        · show (a % c).toNat < c.toNat
          have h1 := Int.emod_nonneg a (show c ≠ 0 by omega)
          have h2 := Int.emod_lt_of_pos a hp
          omega
      · have h0 : c = 0 := by
          have : ¬ 0 < c := fun z => g (decide_eq_true z)
          omega
        subst h0
        have e : Int.gcd x y = a.natAbs := by rw [← hg]; simp
        refine ⟨fun σ' H' => H' = H2 ∧ ∃ v, σ' = [some (.int x), some (.int y), some (.int (KM.sg x y)), v], ?_, ?_⟩
        · refine ⟨_, rfl, _, _, rfl, rfl, _, rfl, ?_⟩
          refine ite2 (fun g1 => ?_) (fun g1 => ?_)
          · refine ⟨_, rfl, _, _, rfl, rfl, rfl, some (.int 0), ?_⟩
            have e2 : KM.sg x y = 0 - a := by unfold KM.sg; rw [if_pos (of_decide_eq_true g1), e]; omega
            rw [e2]
            rfl
          · refine ⟨rfl, some (.int 0), ?_⟩
            have e2 : KM.sg x y = a := by unfold KM.sg; rw [if_neg (fun z => g1 (decide_eq_true z)), e]; omega
            rw [e2]
        · rintro σ' H' ⟨rfl, v, rfl⟩
          have hs9 : (KM.sg x y).natAbs.log2 < 9000 := log_lt (Nat.lt_of_le_of_lt (KM.sg_le hy) hn) hn0 hn9
          refine ⟨_, rfl, _, rfl, _, _, rfl, rfl, ⟨KM.sg_ne hy, hs9⟩, _, rfl, _, rfl, _, _, rfl, rfl, ⟨KM.sg_ne hy, hs9⟩, (by show 2 ≤ sizeLine; decide), fun r hr => hQ r hr⟩
    · rintro σ H2 Q1 Q2 hm ⟨v, hv, i, j, e1, e2, k, hk, q⟩
      exact ⟨v, hv, i, j, e1, e2, k, hk, hm _ _ q⟩
abbrev CalL (P : Program) (w : World) (K : PySem.W.Frag) (mg : Str → Option Value) (base : Heap) : Prop := Cal P w K mg base 1 "_law_low" spLow []
def spAdd : Sp := fun vs H Q _ => ∃ (p q : Addr) (a b : Int × Int) (n : Nat), vs = [.ref p, .ref q] ∧ H p = some (tupP a) ∧ H q = some (tupP b) ∧ two n a b ∧
  ∀ r, H r = none → Q (.ref r) (upd H r (tupP (KM.low (a.1 * b.2 + b.1 * a.2) (a.2 * b.2))))
theorem at0 {a b : V} : atI [a, b] 0 = some a := rfl
theorem at1 {a b : V} : atI [a, b] 1 = some b := rfl
theorem ok_add (F : Dn K d_l_add f fd) (cL : CalL P w K mg base) : FnOk P w K mg base CX0 2 f fd ["_law_one", "_law_other"] spAdd := by
  refine F.ok sc_l_add (fun vs H Q E h => ?_) (fun cdv A outer s H vs Q E hr h => ?_)
  · obtain ⟨p, q, a, b, n, rfl, _⟩ := h
    rfl
  · obtain ⟨p, q, a, b, n, rfl, hp, hq, ⟨ba, bb, hn0, hn9⟩, hQ⟩ := h
    refine ⟨_, PSs.nox (pss_one (ps_ret (pe_c cL hr (by decide) rfl (pa_cons (pe_op op_add (pe_op op_mulW (pe_ix ix_tup (pv 0) pe_int (fun _ _ => rfl)) (pe_ix ix_tup (pv 1) pe_int (fun _ _ => rfl))) (pe_op op_mulW (pe_ix ix_tup (pv 1) pe_int (fun _ _ => rfl)) (pe_ix ix_tup (pv 0) pe_int (fun _ _ => rfl))))
      (pa_cons (pe_op op_mulW (pe_ix ix_tup (pv 0) pe_int (fun _ _ => rfl)) (pe_ix ix_tup (pv 1) pe_int (fun _ _ => rfl))) pa_nil))))), ?_⟩
    refine ⟨_, rfl, p, _, _, _, rfl, rfl, SqT.of hp, at0, _, rfl, q, _, _, _, rfl, rfl, SqT.of hq, at1, _, _, rfl, rfl, wide_mul ba.1 bb.2.2 hn0 hn0 (by omega), ?_⟩
    refine ⟨_, rfl, q, _, _, _, rfl, rfl, SqT.of hq, at0, _, rfl, p, _, _, _, rfl, rfl, SqT.of hp, at1, _, _, rfl, rfl, wide_mul bb.1 ba.2.2 hn0 hn0 (by omega), _, _, rfl, rfl, ?_⟩
    refine ⟨_, rfl, p, _, _, _, rfl, rfl, SqT.of hp, at1, _, rfl, q, _, _, _, rfl, rfl, SqT.of hq, at1, _, _, rfl, rfl, wide_mul ba.2.2 bb.2.2 hn0 hn0 (by omega), ?_⟩
    exact ⟨_, _, n + n, rfl, mul_pos_ne ba.2.1 bb.2.1, wide_lt ba.2.2 bb.2.2, by omega, by omega, hQ⟩
def sp2 (C : Addr) (g : Rat → Rat → Rat) : Sp := fun vs H Q _ => ∃ (p q : Addr) (r s : Rat) (n : Nat), vs = [.ref p, .ref q] ∧ Sh C H p (pr r) ∧ Sh C H q (pr s) ∧ Sz n r ∧ Sz n s ∧ 0 < n ∧ n ≤ 4000 ∧
  ∀ t H', Same H H' → H t = none → Sh C H' t (pr (g r s)) → Q (.ref t) H'
theorem plusR {vs : List V} {H : Hp} {Q : VK} {E : XK} (h : sp2 C (· + ·) vs H Q E) : sp_plus C vs H Q E := by
  obtain ⟨p, q, r, s, n, e, hp, hq, sr, ss, n0, n9, k⟩ := h
  refine ⟨p, q, _, _, n, e, hp, hq, ⟨bd_of sr, bd_of ss, n0, n9⟩, fun t H' a b c => k t H' a b ?_⟩
  rw [KM.pr_plus] at c
  exact c
abbrev MakS1 (P : Program) (w : World) (K : PySem.W.Frag) (mg : Str → Option Value) (base : Heap) (C : Addr) : Prop := Mak P w K mg base 2 "Share" C (spInit C) [.int 1]
theorem mk_in {C x dx : Addr} {H1 : Hp} {t b : Int} {n : Nat} {Qv : VK} {E : XK} (nx : H1 x = none) (nd : H1 dx = none) (hb : b ≠ 0) (hn : b.natAbs < 2 ^ n) (hn0 : 0 < n) (hn9 : n ≤ 9000)
    (hQ : ∀ H', Same H1 H' → Sh C H' x (pr (Rat.divInt t b)) → Qv .non H') : spInit C [.ref x, .int t, .int b] (upd (upd H1 dx (.own x)) x (.ins C dx [])) Qv E := by
  refine ⟨x, dx, t, b, n, rfl, hb, hn, hn0, hn9, upd_same, fun H' kp hp => hQ H' (fun a o e => ?_) ⟨dx, KM.low_eq hb ▸ hp⟩⟩
  refine kp a o (ne_of_none e nx) ?_
  rw [upd_ne (ne_of_none e nx), upd_ne (ne_of_none e nd)]
  exact e
end
end K52
set_option Elab.async false
set_option linter.all false
set_option maxRecDepth 100000
set_option maxHeartbeats 4000000
/-! NM: the names that a law draws: words by a base, a place, a spot and a way. -/
namespace NM
open PySem PySem.Spec
def ok (l : List Nat) : Prop := 1 ≤ l.length ∧ l.length ≤ 8 ∧ ∀ c ∈ l, 97 ≤ c ∧ c ≤ 122
def words : List (List Nat) := [[108, 97, 116, 101], [105, 110], [111, 117, 116], [114, 105, 100, 101], [104, 97, 110, 100], [108, 97, 99, 107], [121, 101, 115], [110, 111], [110, 97, 109, 101, 115], [103, 111, 110, 101], [116, 101, 120, 116], [112, 108, 97, 110], [117, 110, 100, 111], [117, 115, 117, 97, 108], [98, 97, 99, 107], [108, 101, 97, 118, 101]]
def lets : List Nat := (List.range 26).map (97 + ·)
def w0 (bs : List Nat) (at_ spot k : Nat) : List Nat := bs.take at_ ++ [97 + (spot + 5 * k) % 26] ++ bs.drop (at_ + 1)
def w1 (bs : List Nat) (at_ spot k : Nat) : List Nat := (w0 bs at_ spot k).take (bs.length - k % (bs.length - at_))
def w2 (spot k : Nat) : List Nat := (List.replicate 8 (97 + (spot + k / 8) % 26)).take (k % 8 + 1)
def w3 (spot k : Nat) : List Nat := words.getD ((spot + k) % 16) []
def word (bs : List Nat) (at_ spot way k : Nat) : List Nat := if way = 1 then w1 bs at_ spot k else if way = 2 then w2 spot k else if way = 3 then w3 spot k else w0 bs at_ spot k
theorem words_ok : ∀ i, i < 16 → ok (words.getD i []) := by
  have : ∀ i : Fin 16, 1 ≤ (words.getD i.1 []).length ∧ (words.getD i.1 []).length ≤ 8 ∧ (words.getD i.1 []).all (fun c => decide (97 ≤ c ∧ c ≤ 122)) = true := by decide +kernel
  intro i hi
  obtain ⟨h1, h2, h3⟩ := this ⟨i, hi⟩
  refine ⟨h1, h2, fun c hc => ?_⟩
  have := List.all_eq_true.mp h3 c hc
  exact of_decide_eq_true this
theorem words_inj : ∀ i j, i < 16 → j < 16 → words.getD i [] = words.getD j [] → i = j := by
  have : ∀ i j : Fin 16, words.getD i.1 [] = words.getD j.1 [] → i = j := by decide +kernel
  intro i j hi hj e
  exact congrArg Fin.val (this ⟨i, hi⟩ ⟨j, hj⟩ e)
section
variable {bs : List Nat} {at_ spot k : Nat}
theorem w0_len (h : at_ < bs.length) : (w0 bs at_ spot k).length = bs.length := by
  unfold w0
  simp only [List.length_append, List.length_take, List.length_drop, List.length_cons, List.length_nil]
  omega
theorem w0_at (h : at_ < bs.length) : (w0 bs at_ spot k)[at_]? = some (97 + (spot + 5 * k) % 26) := by
  unfold w0
  rw [List.append_assoc, List.getElem?_append_right (by rw [List.length_take]; omega), List.length_take, Nat.min_eq_left (by omega), Nat.sub_self]
  rfl
theorem w0_mem (hb : ∀ c ∈ bs, 97 ≤ c ∧ c ≤ 122) : ∀ c ∈ w0 bs at_ spot k, 97 ≤ c ∧ c ≤ 122 := by
  intro c hc
  unfold w0 at hc
  rcases List.mem_append.mp hc with hc | hc
  · rcases List.mem_append.mp hc with hc | hc
    · exact hb c (List.mem_of_mem_take hc)
    · rw [List.mem_singleton] at hc
      omega
  · exact hb c (List.mem_of_mem_drop hc)
theorem w1_len (h : at_ < bs.length) : at_ + 1 ≤ (w1 bs at_ spot k).length ∧ (w1 bs at_ spot k).length ≤ bs.length := by
  unfold w1
  rw [List.length_take, w0_len h]
  have := Nat.mod_lt k (show 0 < bs.length - at_ by omega)
  omega
theorem w1_at (h : at_ < bs.length) : (w1 bs at_ spot k)[at_]? = some (97 + (spot + 5 * k) % 26) := by
  have h1 := (w1_len (spot := spot) (k := k) h).1
  unfold w1 at h1 ⊢
  rw [List.length_take, w0_len h] at h1
  rw [List.getElem?_take_of_lt (by omega)]
  exact w0_at h
theorem spot_inj {i j : Nat} (hi : i < 16) (hj : j < 16) (e : 97 + (spot + 5 * i) % 26 = 97 + (spot + 5 * j) % 26) : i = j := by omega
theorem word_ok (hb0 : 1 ≤ bs.length) (hb8 : bs.length ≤ 8) (hb : ∀ c ∈ bs, 97 ≤ c ∧ c ≤ 122) (h : at_ < bs.length) (way : Nat) : ok (word bs at_ spot way k) := by
  unfold word
  split
  · have := w1_len (spot := spot) (k := k) h
    exact ⟨by omega, by omega, fun c hc => w0_mem hb c (List.mem_of_mem_take hc)⟩
  split
  · unfold w2
    refine ⟨by rw [List.length_take, List.length_replicate]; omega, by rw [List.length_take, List.length_replicate]; omega, fun c hc => ?_⟩
    have := List.eq_of_mem_replicate (List.mem_of_mem_take hc)
    omega
  split
  · exact words_ok _ (Nat.mod_lt _ (by decide))
  · exact ⟨by rw [w0_len h]; exact hb0, by rw [w0_len h]; exact hb8, w0_mem hb⟩
theorem word_inj (h : at_ < bs.length) (way : Nat) {i j : Nat} (hi : i < 16) (hj : j < 16) (e : word bs at_ spot way i = word bs at_ spot way j) : i = j := by
  unfold word at e
  split at e
  · have h1 := w1_at (spot := spot) (k := i) h
    rw [e, w1_at h] at h1
    exact (spot_inj hj hi (Option.some.inj h1)).symm
  split at e
  · unfold w2 at e
    have hl := congrArg List.length e
    rw [List.length_take, List.length_take, List.length_replicate, List.length_replicate] at hl
    have h0 : ((List.replicate 8 (97 + (spot + i / 8) % 26)).take (i % 8 + 1))[0]? = ((List.replicate 8 (97 + (spot + j / 8) % 26)).take (j % 8 + 1))[0]? := by rw [e]
    rw [List.getElem?_take_of_lt (by omega), List.getElem?_take_of_lt (by omega), List.getElem?_replicate, List.getElem?_replicate, if_pos (by decide), if_pos (by decide)] at h0
    have := Option.some.inj h0
    omega
  split at e
  · have := words_inj _ _ (Nat.mod_lt _ (by decide)) (Nat.mod_lt _ (by decide)) e
    omega
  · have h1 := w0_at (spot := spot) (k := i) h
    rw [e, w0_at h] at h1
    exact (spot_inj hj hi (Option.some.inj h1)).symm
/-- as many as are asked: unlike ones -/
theorem all_unlike (h : at_ < bs.length) (way n : Nat) (hn : n ≤ 16) : ((List.range n).map (word bs at_ spot way)).Pairwise (· ≠ ·) := by
  rw [List.pairwise_map]
  refine (List.pairwise_lt_range (n := n)).imp_of_mem fun {a b} ha hb hlt e => ?_
  have := word_inj h way (by have := List.mem_range.mp ha; omega) (by have := List.mem_range.mp hb; omega) e
  omega
end
end NM
set_option Elab.async false
set_option linter.all false
set_option maxRecDepth 100000
set_option maxHeartbeats 4000000
/-! NH: the names that a law with a held dict draws. -/
namespace NH
open PySem PySem.Spec
def word (bs : List Nat) (at_ begin_ step lot k : Nat) : List Nat := bs.take at_ ++ [97 + (begin_ + step * k) % 26] ++ (bs.drop at_).take (if lot = 0 then 8 else k % (bs.length - at_ + 1))
def steps : List Nat := [1, 3, 5, 7, 9, 11, 15, 17]
section
variable {bs : List Nat} {at_ begin_ step lot k : Nat}
theorem word_at (h : at_ ≤ bs.length) : (word bs at_ begin_ step lot k)[at_]? = some (97 + (begin_ + step * k) % 26) := by
  unfold word
  rw [List.append_assoc, List.getElem?_append_right (by rw [List.length_take]; omega), List.length_take, Nat.min_eq_left h, Nat.sub_self]
  rfl
theorem step_inj {i j : Nat} (hs : step ∈ steps) (hi : i < 13) (hj : j < 13) (e : 97 + (begin_ + step * i) % 26 = 97 + (begin_ + step * j) % 26) : i = j := by
  simp only [steps, List.mem_cons, List.not_mem_nil, or_false] at hs
  rcases hs with rfl | rfl | rfl | rfl | rfl | rfl | rfl | rfl <;> omega
theorem word_inj (h : at_ ≤ bs.length) (hs : step ∈ steps) {i j : Nat} (hi : i < 13) (hj : j < 13) (e : word bs at_ begin_ step lot i = word bs at_ begin_ step lot j) : i = j := by
  have h1 := word_at (begin_ := begin_) (step := step) (lot := lot) (k := i) h
  rw [e, word_at h] at h1
  exact (step_inj hs hj hi (Option.some.inj h1)).symm
theorem word_ok (h8 : bs.length ≤ 7) (hb : ∀ c ∈ bs, 97 ≤ c ∧ c ≤ 122) (h : at_ ≤ bs.length) : NM.ok (word bs at_ begin_ step lot k) := by
  unfold word
  refine ⟨?_, ?_, fun c hc => ?_⟩
  · simp only [List.length_append, List.length_take, List.length_drop, List.length_cons, List.length_nil]
    omega
  · simp only [List.length_append, List.length_take, List.length_drop, List.length_cons, List.length_nil]
    omega
  · rcases List.mem_append.mp hc with hc | hc
    · rcases List.mem_append.mp hc with hc | hc
      · exact hb c (List.mem_of_mem_take hc)
      · rw [List.mem_singleton] at hc
        omega
    · exact hb c (List.mem_of_mem_drop (List.mem_of_mem_take hc))
theorem all_unlike (h : at_ ≤ bs.length) (hs : step ∈ steps) (n : Nat) (hn : n ≤ 13) : ((List.range n).map (word bs at_ begin_ step lot)).Pairwise (· ≠ ·) := by
  rw [List.pairwise_map]
  refine (List.pairwise_lt_range (n := n)).imp_of_mem fun {a b} ha hb hlt e => ?_
  have := word_inj h hs (by have := List.mem_range.mp ha; omega) (by have := List.mem_range.mp hb; omega) e
  omega
end
end NH
set_option Elab.async false
set_option linter.all false
set_option maxRecDepth 100000
set_option maxHeartbeats 4000000
namespace K52
open PySem PySem.Spec PyProof.Rows L2
open C8 (Cal Mak Met pe_c pe_mk pe_mt pe_mt0)
open SX (S)
theorem lets_S : (Str.ofString "abcdefghijklmnopqrstuvwxyz").cps.toList = NM.lets := by decide +kernel
theorem at_lets {x : Int} {j : Nat} (e : x = (j : Int)) (hj : j < 26) : atI (Str.ofString "abcdefghijklmnopqrstuvwxyz").cps.toList x = some (97 + j) := by
  rw [e, lets_S]
  refine atI_nat ?_
  unfold NM.lets
  rw [List.getElem?_map, List.getElem?_range hj]
  rfl
theorem cut_t {l : List Nat} {x : Int} {j : Nat} (e : x = (j : Int)) (h : j ≤ l.length) : cutS (S l) none (some x) = S (l.take j) := by
  rw [e]
  unfold cutS
  rw [HT.sIx_nat, HT.sIx_none, SX.S_len, Nat.min_eq_left h]
  simp [S]
theorem cut_m {l : List Nat} {x y : Int} {j m : Nat} (e : x = (j : Int)) (e2 : y = ((j + m : Nat) : Int)) (h : j ≤ l.length) : cutS (S l) (some x) (some y) = S ((l.drop j).take m) := by
  rw [e, e2]
  unfold cutS
  rw [HT.sIx_nat, HT.sIx_nat, SX.S_len, Nat.min_eq_left h]
  have e3 : (l.drop j).take (min (j + m) l.length - j) = (l.drop j).take m := by
    by_cases c : j + m ≤ l.length
    · rw [Nat.min_eq_left c, Nat.add_sub_cancel_left]
    · rw [Nat.min_eq_right (by omega), List.take_of_length_le (Nat.le_of_eq (List.length_drop ..)), List.take_of_length_le (by rw [List.length_drop]; omega)]
  simp [S, e3]
theorem ones : ∀ bs : List Nat, ((bs.map fun c => S [c]).map (·.length)).sum = bs.length
  | [] => rfl
  | b :: bs => by
    rw [List.map_cons, List.map_cons, List.sum_cons, ones bs, List.length_cons, SX.S_len]
    simp
    omega
theorem joined : ∀ bs : List Nat, TL.joinL [] (bs.map fun c => [c]) = bs
  | [] => rfl
  | [b] => rfl
  | b :: d :: bs => by
    have := joined (d :: bs)
    simp only [List.map_cons, TL.joinL] at this ⊢
    simp [this]
theorem Held.ne_new {H : Hp} {h u : Addr} {c : Nat} (x : Held H h c) (e : H u = none) : u ≠ h := by
  obtain ⟨l, ns, n, m, h1, _⟩ := x
  exact (ne_of_none h1 e).symm
/-- the held dict's cells aren't at D -/
def Cel (h D : Addr) (H : Hp) : Prop := ∃ la n m, H h = some (.dK (hd0 la n m)) ∧ la ≠ D ∧ h ≠ D
theorem Cel.kp {h D : Addr} {H H' : Hp} (x : Cel h D H) (k : Kp h H H') : Cel h D H' := by
  obtain ⟨la, n, m, e, n1, n2⟩ := x
  obtain ⟨n', m', e'⟩ := k.2 _ _ _ e
  exact ⟨la, n', m', e', n1, n2⟩
theorem Cel.of {h D : Addr} {H : Hp} {c : Nat} (x : Held H h c) (f : H D = none) : Cel h D H := by
  obtain ⟨la, ns, n, m, e1, e2, _⟩ := x
  exact ⟨la, n, m, e1, ne_of_none e2 f, ne_of_none e1 f⟩
theorem Cel.ne {h D : Addr} {H : Hp} (x : Cel h D H) : D ≠ h := by
  obtain ⟨_, _, _, _, _, n⟩ := x
  exact n.symm
theorem Held.put {h D : Addr} {H : Hp} {o : HO} {c : Nat} (x : Held H h c) (y : Cel h D H) : Held (upd H D o) h c := by
  obtain ⟨la, ns, n, m, e1, e2, e3⟩ := x
  obtain ⟨la', n', m', e', n1, n2⟩ := y
  cases hd_inj (Option.some.inj (e1.symm.trans e'))
  exact ⟨la, ns, n, m, by rw [upd_ne n2]; exact e1, by rw [upd_ne n1]; exact e2, e3⟩
theorem Cel.put {h D D' : Addr} {H : Hp} {o : HO} (x : Cel h D H) (n : h ≠ D') : Cel h D (upd H D' o) := by
  obtain ⟨la', n', m', e', n1, n2⟩ := x
  exact ⟨la', n', m', by rw [upd_ne n]; exact e', n1, n2⟩
theorem Kp.new {h st : Addr} {H1 H2 : Hp} {o : HO} (k : Kp h H1 H2) (f : H1 st = none) : Kp h H1 (upd H2 st o) :=
  ⟨fun b u e ne => by rw [upd_ne (ne_of_none e f)]; exact k.1 b u e ne, fun l n m e => by
    obtain ⟨n', m', e'⟩ := k.2 l n m e
    exact ⟨n', m', by rw [upd_ne (ne_of_none e f)]; exact e'⟩⟩
theorem pick {α : Type} (g : α → V) {L : List α} {i : Int} (i0 : 0 ≤ i) (i1 : i < (L.length : Int)) : ∃ x ∈ L, atI (L.map g) i = some (g x) := by
  obtain ⟨j, rfl⟩ := Int.eq_ofNat_of_zero_le i0
  have hj : j < L.length := by omega
  exact ⟨L[j], List.getElem_mem hj, atI_nat (j := j) (by rw [List.getElem?_map, List.getElem?_eq_getElem hj]; rfl)⟩
section
variable {P : Program} {w : World} {K : PySem.W.Frag} {mg : Str → Option Value} {base : Heap} {f C : Addr} {fd : FuncData}
def spNames : Sp := fun vs H Q _ => ∃ (h : Addr) (c n : Nat), vs = [.ref h, .int n] ∧ Held H h (c + 40) ∧ n ≤ 13 ∧
  ∀ (o : Addr) (zs : List (List Nat)) (H' : Hp), Held H' h c → Kp h H H' → H o = none → H' o = some (.lst (zs.map fun l => V.str (S l))) → zs.length = n → (∀ z ∈ zs, NM.ok z) → zs.Pairwise (· ≠ ·) → Q (.ref o) H'
theorem ok_names (F : Dn K d_l_names f fd) (bl : Bl mg) (cD : CalD P w K mg base) : FnOk P w K mg base CX0 2 f fd ["_law_held_here", "_law_many"] spNames := by
  refine F.ok sc_l_names (fun vs H Q E h => ?_) (fun cdv A outer s H vs Q E hr h => ?_)
  · obtain ⟨p, c, n, rfl, _⟩ := h
    rfl
  · obtain ⟨p, c, n, rfl, pen, hn, hQ⟩ := h
    refine ⟨_, PSs.nox (pss_cons (ps_set (i := 2) sc_l_names.nd rfl (.inr rfl) pe_str)
      (pss_cons (ps_set (i := 3) sc_l_names.nd rfl (.inl rfl) (pe_c cD hr (by decide) rfl (pa_cons (pv 0) (pa_cons pe_int pa_nil))))
      (C8.pss_cut (ps_set (i := 5) sc_l_names.nd rfl (.inl rfl) (pe_join pe_str (pe_lc (own := [("_law_k", 4)]) (g := gName 4) (tt := tYes) rfl sc_l_names.nd (pi_range1 rfl bl.range (pa_cons (pv 3) pa_nil)) (blkOk_by (N := N_l_names) (sc := defScope s_l_names) (by decide +kernel))
          (fun _ _ _ _ _ => pg_name (i := 4) sc_l_names.nd rfl (Or.inl rfl)) (fun _ _ _ _ _ => pts_nil) (fun _ _ _ _ _ => pe_ix ix_str (pv 2) (pe_c cD hr (by decide) rfl (pa_cons (pv 0) (pa_cons pe_int pa_nil))) (fun _ _ => rfl)))))
      (pss_cons (ps_par (i := 6) (j := 7) rfl sc_l_names.nd rfl rfl (by decide) rfl rfl (pa_cons (pe_c cD hr (by decide) rfl (pa_cons (pv 0) (pa_cons (pe_op op_add (pv 3) pe_int) pa_nil))) (pa_cons (pe_c cD hr (by decide) rfl (pa_cons (pv 0) (pa_cons pe_int pa_nil))) pa_nil)) rfl)
      (pss_cons (ps_par (i := 8) (j := 9) rfl sc_l_names.nd rfl rfl (by decide) rfl rfl (pa_cons (pe_ix ix_list (pe_lst (pa_cons pe_int (pa_cons pe_int (pa_cons pe_int (pa_cons pe_int (pa_cons pe_int (pa_cons pe_int (pa_cons pe_int (pa_cons pe_int pa_nil))))))))) (pe_c cD hr (by decide) rfl (pa_cons (pv 0) (pa_cons pe_int pa_nil))) (fun _ _ => rfl)) (pa_cons (pe_c cD hr (by decide) rfl (pa_cons (pv 0) (pa_cons pe_int pa_nil))) pa_nil)) rfl)
      (pss_cons (ps_set (i := 10) sc_l_names.nd rfl (.inl rfl) (pe_lst pa_nil))
      (pss_cons (ps_for PassesOwn.never rfl (pi_range1 rfl bl.range (pa_cons (pv 1) pa_nil)) (pg_name (i := 4) sc_l_names.nd rfl (.inl rfl))
        (C8.pss_cut (ps_set (i := 11) sc_l_names.nd rfl (.inl rfl) (pe_slice sl_str (pv 5) (po_some (pv 6)) (po_some (pe_op op_add (pv 6) (pe_ix ix_list (pe_lst (pa_cons pe_int (pa_cons (pe_op op_mod (pv 4) (pe_op op_add (pe_op op_sub (pv 3) (pv 6)) pe_int)) pa_nil))) (pv 9) (fun _ _ => rfl))))))
        (pss_one (ps_expr (pe_bm PySem.F.plainAttrs_list PySem.F.slot_list_append PySem.F.type_list_append mt_append (pv 10) (pa_cons (pe_op op_add_str (pe_op op_add_str (pe_slice sl_str (pv 5) po_none (po_some (pv 6))) (pe_ix ix_str (pv 2) (pe_op op_mod (pe_op op_add (pv 7) (pe_op op_mul (pv 8) (pv 4))) pe_int) (fun _ _ => rfl))) (pv 11)) pa_nil))))))
      (pss_one (ps_ret (pv 10)))))))))), ?_⟩
    -- the size
    refine ⟨_, rfl, p, c + 39, _, rfl, pen, by decide, by decide, fun z0 H2 a2 b2 pen2 k2 => ?_⟩
    obtain ⟨sz, rfl⟩ := Int.eq_ofNat_of_zero_le a2
    have sz7 : sz ≤ 7 := by omega
    -- the base
    refine ⟨fun σ' H' => ∃ bs : List Nat, σ' = [some (.ref p), some (.int n), some (.str (Str.ofString "abcdefghijklmnopqrstuvwxyz")), some (.int (sz : Int)), none, some (.str (S bs)), none, none, none, none, none, none] ∧ bs.length = sz ∧ (∀ c ∈ bs, 97 ≤ c ∧ c ≤ 122) ∧
      Held H' p (c + 30) ∧ Kp p H H', ?_, ?_⟩
    · refine ⟨⟨_, rfl⟩, _, rfl, _, rfl, by omega, by omega, ?_⟩
      rw [Int.toNat_natCast]
      intro D hD
      have offD := Cel.of pen2 hD
      have sD := same_new (o := .lst []) hD
      refine lc_range (n := sz) (fun i H3 => ∃ bs : List Nat, bs.length = i ∧ (∀ c ∈ bs, 97 ≤ c ∧ c ≤ 122) ∧ H3 D = some (.lst (bs.map fun c => V.str (S [c]))) ∧ Held H3 p (c + 39 - i) ∧ Kp p H2 H3 ∧ Cel p D H3) ?_ ?_ ?_
      · exact ⟨[], rfl, by simp, upd_same, pen2.same sD, Kp.same sD, offD.kp (Kp.same sD)⟩
      · rintro i H3 hi ⟨bs, hbl, hbc, hd, pen3, k3, off3⟩
        refine ⟨rfl, ?_⟩
        refine ⟨_, rfl, _, rfl, p, c + 39 - (i + 1), _, rfl, pen3.weak (by omega), by decide, by decide, fun r H4 r0 r1 pen4 k4 => ?_⟩
        obtain ⟨rn, rfl⟩ := Int.eq_ofNat_of_zero_le r0
        have hd4 := k4.1 _ _ hd off3.ne
        have off4 := off3.kp k4
        refine ⟨_, _, 97 + rn, rfl, rfl, by decide +kernel, at_lets rfl (by omega), _, hd4, ?_, bs ++ [97 + rn], by simp [hbl], ?_, ?_, pen4.put off4, (k3.trans k4).new hD, ?_⟩
        · rw [List.length_map, hbl]
          exact Nat.lt_of_lt_of_le (by omega : i < 64) (by decide)
        · intro c' hc'
          rcases List.mem_append.mp hc' with hc' | hc'
          · exact hbc c' hc'
          · rw [List.mem_singleton] at hc'
            omega
        · rw [upd_same]
          simp [S]
        · exact off4.put off4.ne.symm
      · rintro H3 ⟨bs, hbl, hbc, hd, pen3, k3, off3⟩
        have ey : (bs.map fun c => V.str (S [c])) = (bs.map fun c => S [c]).map V.str := by rw [List.map_map]; rfl
        refine ⟨_, D, bs.map fun c => S [c], rfl, rfl, .inl (by rw [← ey]; exact SqL.of hd), ?_, bs, ?_, hbl, hbc, pen3.weak (by omega), k2.trans k3⟩
        · rw [ones bs, List.length_map]
          have e2 : (Str.ofString "").length = 0 := by decide +kernel
          rw [e2, hbl]
          omega
        · have e3 : Txt.join (Str.ofString "") (bs.map fun c => S [c]) = S bs := by
            have e4 : Str.ofString "" = S [] := by decide +kernel
            have e5 : (bs.map fun c => S [c]) = (bs.map fun c => [c]).map S := by rw [List.map_map]; rfl
            rw [e4, e5, SX.join_S, joined]
          rw [e3]
          rfl
    clear pen pen2 k2
    rintro σ' H3 ⟨bs, rfl, hbl, hbc, pen3, k3⟩
    refine ⟨_, rfl, _, rfl, _, _, rfl, rfl, p, c + 29, _, rfl, pen3, by omega, by omega, fun at_ H4 a4 b4 pen4 k4 => ?_⟩
    refine ⟨_, rfl, p, c + 28, _, rfl, pen4, by decide, by decide, fun bg H5 a5 b5 pen5 k5 => ⟨_, _, rfl, ?_⟩⟩
    refine ⟨by show 8 ≤ sizeLine; decide, fun u fu => ?_⟩
    have su := same_new (o := .lst [.int 1, .int 3, .int 5, .int 7, .int 9, .int 11, .int 15, .int 17]) fu
    refine ⟨_, rfl, p, c + 27, 8, rfl, pen5.same su, by decide, by decide, fun q6 H6 a6 b6 pen6 k6 => ?_⟩
    have hu6 := k6.1 u _ upd_same (pen5.ne_new fu)
    obtain ⟨st, hst, est⟩ := pick (fun n : Nat => V.int (n : Int)) (L := NH.steps) a6 (by simpa [NH.steps] using b6)
    refine ⟨u, _, _, _, rfl, rfl, SqL.of hu6, est, ?_⟩
    refine ⟨_, rfl, p, c + 26, 2, rfl, pen6, by decide, by decide, fun lot H7 a7 b7 pen7 k7 => ⟨_, _, rfl, ?_⟩⟩
    obtain ⟨at_, rfl⟩ := Int.eq_ofNat_of_zero_le a4
    obtain ⟨bg, rfl⟩ := Int.eq_ofNat_of_zero_le a5
    obtain ⟨lot, rfl⟩ := Int.eq_ofNat_of_zero_le a7
    have hat : at_ ≤ bs.length := by omega
    have k07 := ((k3.trans k4).trans k5).trans (((Kp.same su).trans k6).trans k7)
    have st17 : st ≤ 17 := by
      simp only [NH.steps, List.mem_cons, List.not_mem_nil, or_false] at hst
      omega
    clear k3 k4 k5 k6 k7 su pen3 pen4 pen5 pen6
    refine ⟨by show 0 ≤ sizeLine; decide, fun o fo => ?_⟩
    have so := same_new (o := .lst []) fo
    refine ⟨_, rfl, _, rfl, by omega, by omega, ?_⟩
    rw [Int.toNat_natCast]
    have fo0 : H o = none := by
      cases e : H o with
      | none => rfl
      | some ob =>
        by_cases z : o = p
        · rw [z] at fo
          obtain ⟨l0, ns0, n0, m0, h0, _⟩ := pen7
          rw [h0] at fo
          cases fo
        · rw [k07.1 o ob e z] at fo
          cases fo
    refine for_range (n := n) (fun i σ H8 => ∃ (v4 v11 : Option V), σ = [some (.ref p), some (.int n), some (.str (Str.ofString "abcdefghijklmnopqrstuvwxyz")), some (.int (sz : Int)), v4, some (.str (S bs)), some (.int (at_ : Int)), some (.int (bg : Int)), some (.int (st : Int)), some (.int (lot : Int)), some (.ref o), v11] ∧
        H8 o = some (.lst (((List.range i).map (NH.word bs at_ bg st lot)).map fun l => V.str (S l))) ∧ Held H8 p c ∧ Kp p H H8 ∧ Cel p o H8)
      ⟨none, none, rfl, upd_same, (pen7.same so).weak (by omega), k07.trans (Kp.same so), (Cel.of pen7 fo).kp (Kp.same so)⟩ ?_ ?_
    · rintro i σ H8 hi ⟨v4, v11, rfl, ho8, pen8, k8, off8⟩
      have len0 : (S bs).length ≤ sizeLine := by rw [SX.S_len]; exact Nat.le_trans (by omega : bs.length ≤ 8) (by decide)
      have lets_len : (Str.ofString "abcdefghijklmnopqrstuvwxyz").length ≤ sizeLine := by decide +kernel
      obtain ⟨m, hm⟩ : ∃ m : Nat, (if lot = 0 then 8 else i % (bs.length - at_ + 1)) = m := ⟨_, rfl⟩
      refine ⟨fun σ' H' => σ' = [some (.ref p), some (.int n), some (.str (Str.ofString "abcdefghijklmnopqrstuvwxyz")), some (.int (sz : Int)), some (.int (0 + (i : Int))), some (.str (S bs)), some (.int (at_ : Int)), some (.int (bg : Int)), some (.int (st : Int)), some (.int (lot : Int)), some (.ref o), some (.str (S ((bs.drop at_).take m)))] ∧ Same H8 H', ?_, ?_⟩
      · refine ⟨_, rfl, _, rfl, _, rfl, _, rfl, _, rfl, _, rfl, _, rfl, _, _, rfl, rfl, _, _, rfl, rfl, _, _, rfl, rfl, by omega, by show 2 ≤ sizeLine; decide, fun u2 fu2 => ?_⟩
        have eix : atI [V.int 8, .int ((0 + (i : Int)) % ((sz : Int) - (at_ : Int) + 1))] (lot : Int) = some (.int (m : Nat)) := by
          rcases (show lot = 0 ∨ lot = 1 by omega) with rfl | rfl
          · rw [← hm]
            rfl
          · have h1 : ((sz : Int) - (at_ : Int) + 1) = ((bs.length - at_ + 1 : Nat) : Int) := by omega
            rw [h1, Int.zero_add, ← Int.natCast_emod, ← hm]
            rfl
        refine ⟨_, rfl, u2, _, _, _, rfl, rfl, SqL.of upd_same, eix, _, _, rfl, rfl, _, rfl, _, rfl, len0, ?_⟩
        rw [cut_m (j := at_) (m := m) rfl (by omega) hat]
        exact ⟨rfl, same_new fu2⟩
      · rintro σ' H9 ⟨rfl, s9⟩
        have ho9 := s9 _ _ ho8
        have e5 : ((bg : Int) + (st : Int) * (0 + (i : Int))) % 26 = (((bg + st * i) % 26 : Nat) : Int) := by
          rw [Int.zero_add, ← Int.natCast_mul, ← Int.natCast_add]
          exact (Int.natCast_emod _ 26).symm
        refine ⟨_, rfl, Or.inl ⟨rfl, _, SqL.of ho9⟩, _, rfl, _, rfl, _, rfl, _, rfl, len0, ?_⟩
        rw [cut_t rfl hat]
        refine ⟨_, rfl, _, rfl, _, rfl, _, rfl, _, _, rfl, rfl, cb_l (by omega) (by omega), _, _, rfl, rfl, _, _, rfl, rfl, (by decide : (0 : Int) < 26), _, _, _, rfl, rfl, lets_len, at_lets e5 (Nat.mod_lt _ (by decide)), _, _, rfl, rfl, ?_, ?_⟩
        · rw [SX.S_len, List.length_take]
          exact Nat.le_trans (by show min at_ bs.length + 1 ≤ 64; omega) (by decide)
        have ec : S (bs.take at_) ++ (⟨#[97 + (bg + st * i) % 26]⟩ : Str) = S (bs.take at_ ++ [97 + (bg + st * i) % 26]) := SX.S_cat _ _
        rw [ec]
        refine ⟨_, rfl, _, _, rfl, rfl, ?_, ?_⟩
        · rw [SX.S_len, SX.S_len, List.length_append, List.length_take, List.length_take, List.length_drop]
          exact Nat.le_trans (by show min at_ bs.length + 1 + min m (bs.length - at_) ≤ 64; omega) (by decide)
        rw [SX.S_cat]
        have ew : bs.take at_ ++ [97 + (bg + st * i) % 26] ++ (bs.drop at_).take m = NH.word bs at_ bg st lot i := by rw [← hm]; rfl
        rw [ew]
        refine ⟨o, _, _, rfl, rfl, ho9, ?_, _, _, rfl, ?_, (pen8.same s9).put (off8.kp (Kp.same s9)), (k8.trans (Kp.same s9)).new fo0, (off8.kp (Kp.same s9)).put off8.ne.symm⟩
        · rw [List.length_map, List.length_map, List.length_range]
          exact Nat.lt_of_lt_of_le (by omega : i < 64) (by decide)
        · rw [upd_same, List.range_succ, List.map_append, List.map_append]
          rfl
    · rintro σ H8 ⟨v4, v11, rfl, ho8, pen8, k8, off8⟩
      refine ⟨_, rfl, hQ o _ H8 pen8 k8 fo0 ho8 (by simp) (fun z hz => ?_) (NH.all_unlike hat hst n hn)⟩
      obtain ⟨k, _, rfl⟩ := List.mem_map.mp hz
      exact NH.word_ok (by omega) hbc hat
end
end K52
set_option Elab.async false
set_option linter.all false
set_option maxRecDepth 100000
set_option maxHeartbeats 4000000
/-! OW: ==, !=, str and repr of instances of an own class by its own __eq__, __str__, __repr__. -/
namespace OW
open PySem PySem.Spec PyProof.Rows L2
/-- what is known of a special def of the class: where it stands, that it keeps its promise -/
structure Spc (P : Program) (w : World) (K : PySem.W.Frag) (mg : Str → Option Value) (base : Heap) (k : Nat) (C : Addr) (m : Str) (sp : Sp) : Prop where
  ex : ∃ (f : Addr) (fd : FuncData) (ps : List Str), PySem.W.findIn K (.ref C) m = some (some (.ref f)) ∧ PySem.W.isFn K (.ref f) = true ∧ FnOk P w K mg base CX0 k f fd ps sp ∧ Binds K fd ps []
section
variable {X : Cx} {pins : List (Addr × Obj)} {σ : L2.St} {H : Hp} {s : Shared} {Q : VK} {k : Nat} {C a b : Addr} {sp : Sp}
/-- a def called at any around with room -/
theorem run_at {f : Addr} {fd : FuncData} {ps : List Str} {A : Around} {us : List Value} {vs : List V} {E' : Value → Shared → Prop} (F : FnOk X.prog X.w X.K X.mg X.base CX0 k f fd ps sp) (hb : Binds X.K fd ps []) (hr : Room k A) (I : Inv X pins σ H s)
    (he : Env0 X.prog X.w X.K X.mg X.base A X.stack s H) (r : Vals vs us) (h : sp vs H Q E0) : wpAny (model X.prog X.w) A (call (.ref f) us) (EP X pins σ Q) E' s := by
  have hl : us.length = ps.length := by rw [← r.length]; exact F.len _ _ _ _ h
  have b := hb s us I.kIn (by rw [List.append_nil]; exact hl)
  rw [List.append_nil] at b
  refine wpAny_call (codeAny_mono (F.run A X.stack s H ⟨us, []⟩ us vs Q E0 hr he b r h) fun r s' hq => ?_)
  cases r with
  | error e => exact False.elim hq
  | ok fl =>
    cases fl with
    | ret u => exact I.after hq
    | next => exact False.elim hq
    | brk => exact False.elim hq
    | cont => exact False.elim hq
theorem same_first : PySem.W.notFirst X.K C (.ref C) = true := by
  unfold PySem.W.notFirst
  rw [beq_self_eq_true, Bool.true_or]
/-- x == y, both of the class -/
def rEqO (C : Addr) (sp : Sp) : R2 := fun x y H Q => ∃ a dx fs b dy gs, x = .ref a ∧ y = .ref b ∧ H a = some (.ins C dx fs) ∧ H b = some (.ins C dy gs) ∧ sp [x, y] H (fun v H' => ∃ z, v = .bl z ∧ Q (.bl z) H') E0
def rNeO (C : Addr) (sp : Sp) : R2 := fun x y H Q => ∃ a dx fs b dy gs, x = .ref a ∧ y = .ref b ∧ H a = some (.ins C dx fs) ∧ H b = some (.ins C dy gs) ∧ sp [x, y] H (fun v H' => ∃ z, v = .bl z ∧ Q (.bl (!z)) H') E0
theorem op_eqO (S : Spc X.prog X.w X.K X.mg X.base k C "__eq__" sp) (hr : Room k X.A) : OpR X (compareOp .Eq) (rEqO C sp) := by
  obtain ⟨f, fd, ps, h1, h2, F, hb⟩ := S.ex
  intro pins s σ H x y v u Q I rx ry h
  obtain ⟨a, dx, fs, b, dy, gs, rfl, rfl, ea, eb, q⟩ := h
  cases (show v = Value.ref a from rx)
  cases (show u = Value.ref b from ry)
  obtain ⟨mA, O, _⟩ := ins_get I.hok ea
  obtain ⟨od, J, _⟩ := O.look
  obtain ⟨mB, O', _⟩ := ins_get I.hok eb
  obtain ⟨od', J', _⟩ := O'.look
  obtain ⟨m, hF⟩ := I.fr
  show wpAny _ _ (richCompare .Eq (.ref a) (.ref b)) _ _ _
  refine PySem.W.cmp_K (op := .Eq) (tb := .ref C) hr.units0 hF I.ok.mod.kin J J'.type same_first h1 h2 ?_
  refine wpAny_mono (run_at (E' := X.xe) (vs := [.ref a, .ref b]) F hb hr I I.env0 (.cons rfl (.cons rfl .nil)) q) (fun w s' z => ?_) fun _ _ x => x
  obtain ⟨z', H', I', rz, z, rfl, qz⟩ := z
  cases (show w = Value.bool z from rz)
  exact ⟨.bl z, H', I', rfl, qz⟩
open Builtin in
theorem op_neO (S : Spc X.prog X.w X.K X.mg X.base (k + 1) C "__eq__" sp) (hn : PySem.W.findIn X.K (.ref C) "__ne__" = some (some (.builtin "object.__ne__"))) (hm : PySem.W.mroIn X.K C (.type "object") = some true) (hr : Room (k + 2) X.A) : OpR X (compareOp .NotEq) (rNeO C sp) := by
  obtain ⟨f, fd, ps, h1, h2, F, hb⟩ := S.ex
  intro pins s σ H x y v u Q I rx ry h
  obtain ⟨a, dx, fs, b, dy, gs, rfl, rfl, ea, eb, q⟩ := h
  cases (show v = Value.ref a from rx)
  cases (show u = Value.ref b from ry)
  obtain ⟨mA, O, _⟩ := ins_get I.hok ea
  obtain ⟨od, J, _⟩ := O.look
  obtain ⟨mB, O', _⟩ := ins_get I.hok eb
  obtain ⟨od', J', _⟩ := O'.look
  have KI := I.kIn
  have callEq : wpAny (model X.prog X.w) X.A.in1 (call (.ref f) [.ref a, .ref b]) (fun v s' => ∃ z, v = .bool z ∧ EP X pins σ Q (.bool (!z)) s') X.xe s := by
    refine wpAny_mono (run_at (E' := X.xe) (vs := [.ref a, .ref b]) F hb hr.in1 I I.env0.in1 (.cons rfl (.cons rfl .nil)) q) (fun w s' z => ?_) fun _ _ x => x
    obtain ⟨z', H', I', rz, z, rfl, qz⟩ := z
    exact ⟨z, rz, .bl (!z), H', I', rfl, qz⟩
  have slot := PySem.F.cmp_object.ne
  have sub : PySem.W.Looks (model X.prog X.w) s.heap (isInstance (.ref a) (.type "object")) true := J.type.andThen (PySem.W.looks_mroIn KI hm)
  have uu : X.A.in1.units < cLine := hr.in1.units0
  have body : wpAny (model X.prog X.w) X.A.in1 (Builtin.«object.__ne__» ⟨[.ref a, .ref b], []⟩) (fun fin s' => match fin with | .done f => (match f with | .ret v => EP X pins σ Q v s' ∧ ∃ z, v = .bool z | _ => False) | .again _ => False) X.xe s := by
    unfold Builtin.«object.__ne__»
    repeat (first
      | with_reducible refine wpAny_cRoomFor uu ?_
      | (refine wpAny_bind (m := callSpecialIfBound? (.ref a) (Str.ofString "__eq__") [.ref b]) (PySem.W.ifBound_K KI J h1 h2 (wpAny_mono callEq (fun r s' hr => by
          obtain ⟨z, rfl, hq⟩ := hr
          repeat (first | exact ⟨hq, _, rfl⟩ | exact wpAny_pure ⟨hq, _, rfl⟩ | (refine wpAny_bind (m := truthy (.bool _)) (wpAny_truthy_bool ?_)) | wp_step)) fun _ _ e => e)))
      | wp_step)
  have callNe : wpAny (model X.prog X.w) X.A (call (.builtin "object.__ne__") [.ref a, .ref b]) (fun v s' => EP X pins σ Q v s' ∧ ∃ z, v = .bool z) X.xe s := by
    refine wpAny_call (codeAny_call_builtin slot.plain PySem.F.cmpEntry_ne (PySem.W.check_slot PySem.F.cmpKind_ne PySem.F.cmpSplit_ne sub (PySem.F.cmpArgs_ne _ _) ?_))
    refine wpAny_mono body (fun fin s' z => ?_) fun _ _ x => x
    cases fin with
    | done fl =>
      cases fl with
      | ret v => exact z
      | next => exact z.elim
      | brk => exact z.elim
      | cont => exact z.elim
    | again c => exact z.elim
  show wpAny _ _ (richCompare .NotEq (.ref a) (.ref b)) _ _ _
  unfold richCompare
  simp only [oneThing_ref]
  refine wpAny_holding (wpAny_bind (wpAny_cRoomFor hr.units0 ?_))
  rw [cmpInfo_NotEq]
  dsimp only
  refine wpAny_bind (J.type.here (wpAny_bind (J'.type.here ?_)))
  rw [show (Value.ref C != Value.ref C) = false from by simp]
  simp only [Bool.false_eq_true, if_false]
  refine wpAny_bind (wpAny_pure ?_)
  simp only [Bool.false_eq_true, if_false, tryCompare]
  have fin : wpAny (model X.prog X.w) X.A (call (.builtin "object.__ne__") ([.ref a] ++ [.ref b]) >>= fun v => pure (some v)) (fun r s' => ∃ v, r = some v ∧ EP X pins σ Q v s' ∧ ∃ z, v = .bool z) X.xe s :=
    wpAny_bind (wpAny_mono callNe (fun v s' h' => wpAny_pure ⟨v, rfl, h'⟩) fun _ _ h' => h')
  have bound : wpAny (model X.prog X.w) X.A (callSpecialIfBound? (.ref a) "__ne__" [.ref b]) (fun r s' => ∃ v, r = some v ∧ EP X pins σ Q v s' ∧ ∃ z, v = .bool z) X.xe s := by
    simp only [callSpecialIfBound?, bindSpecialIfBound?]
    refine wpAny_holding (wpAny_bind (wpAny_bind (wpAny_bind (J.type.here ((PySem.W.looks_findIn KI hn).here ?_)))))
    simp only [slot.bind]
    refine wpAny_bind (wpAny_askSetting (wpAny_ite ?_))
    split
    · exact wpAny_bind (wpAny_pure (wpAny_pure fin))
    · exact wpAny_tryCatch (wpAny_bind (wpAny_pure (wpAny_pure fin)))
  refine wpAny_bind (wpAny_bind (wpAny_mono bound (fun r s' z => ?_) fun _ _ h => h))
  obtain ⟨v, rfl, hq, z, rfl⟩ := z
  first | exact wpAny_pure (wpAny_pure hq) | exact wpAny_pure hq
/-- str(x), repr(x) -/
def rStrO (C : Addr) (sp : Sp) : List V → Hp → VK → Prop := fun xs H Q => ∃ a dx fs, xs = [.ref a] ∧ H a = some (.ins C dx fs) ∧ sp [.ref a] H (fun v H' => ∃ z, v = .str z ∧ Q (.str z) H') E0
theorem call_strO (S : Spc X.prog X.w X.K X.mg X.base k C "__str__" sp) (hr : Room (k + 2) X.A) : CallR X (.type "str") (rStrO C sp) := by
  obtain ⟨f, fd, ps, h1, h2, F, hb⟩ := S.ex
  intro pins s σ H xs us Q I r h
  obtain ⟨a, dx, fs, rfl, ea, q⟩ := h
  obtain ⟨u, rfl, ru⟩ := vals1 r
  cases (show u = Value.ref a from ru)
  obtain ⟨mA, O, _⟩ := ins_get I.hok ea
  obtain ⟨od, J, _⟩ := O.look
  refine PySem.W.kso_call hr.in1.in1.units0 I.kIn J h1 h2 ?_
  refine wpAny_mono (run_at (E' := X.xe) (vs := [.ref a]) F hb hr.in1.in1 I I.env0.in1.in1 (.cons rfl .nil) q) (fun w s' z => ?_) fun _ _ x => x
  obtain ⟨z', H', I', rz, z, rfl, qz⟩ := z
  obtain ⟨t, rfl⟩ := rz
  exact ⟨.str z, H', I', ⟨t, rfl⟩, qz⟩
theorem call_reprO (S : Spc X.prog X.w X.K X.mg X.base k C "__repr__" sp) (hr : Room (k + 1) X.A) : CallR X (.builtin "repr") (rStrO C sp) := by
  obtain ⟨f, fd, ps, h1, h2, F, hb⟩ := S.ex
  intro pins s σ H xs us Q I r h
  obtain ⟨a, dx, fs, rfl, ea, q⟩ := h
  obtain ⟨u, rfl, ru⟩ := vals1 r
  cases (show u = Value.ref a from ru)
  obtain ⟨mA, O, _⟩ := ins_get I.hok ea
  obtain ⟨od, J, _⟩ := O.look
  obtain ⟨m, hF⟩ := I.fr
  refine PySem.W.repr_K hr.in1.units0 hF I.ok.mod.kin J h1 h2 ?_
  refine wpAny_mono (run_at (E' := X.xe) (vs := [.ref a]) F hb hr.in1 I I.env0.in1 (.cons rfl .nil) q) (fun w s' z => ?_) fun _ _ x => x
  obtain ⟨z', H', I', rz, z, rfl, qz⟩ := z
  obtain ⟨t, rfl⟩ := rz
  exact ⟨.str z, H', I', ⟨t, rfl⟩, qz⟩
end
end OW
set_option linter.all false
set_option Elab.async false
set_option maxRecDepth 100000
/-! TX: the texts of whole numbers and of fractions, sign by sign. -/
namespace TX
open PySem SX TL NumText
/-- the signs of a whole number -/
def intL (i : Int) : List Nat := if i < 0 then 45 :: numL i.natAbs else numL i.natAbs
theorem tl_int (i : Int) : Str.ofString (toString i) = S (intL i) := by
  by_cases h : i < 0
  · obtain ⟨n, rfl⟩ : ∃ n : Nat, i = -((n + 1 : Nat) : Int) := ⟨i.natAbs - 1, by omega⟩
    have e : toString (-((n + 1 : Nat) : Int)) = "-" ++ toString ((n + 1 : Nat) : Int) := by rfl
    unfold intL
    rw [if_pos h, e]
    have e2 : (-((n + 1 : Nat) : Int)).natAbs = n + 1 := by omega
    rw [e2]
    refine TL.ext_tl ?_
    have e3 : (Str.ofString (toString ((n + 1 : Nat) : Int))).cps.toList = numL (n + 1) := tl_num (n + 1)
    show (Str.ofString ("-" ++ toString ((n + 1 : Nat) : Int))).cps.toList = 45 :: numL (n + 1)
    rw [← e3]
    rw [Str.ofString_eq_toList, Str.ofString_eq_toList, String.toList_append]
    rfl
  · obtain ⟨n, rfl⟩ := Int.eq_ofNat_of_zero_le (by omega : 0 ≤ i)
    unfold intL
    rw [if_neg h]
    exact num_S n
theorem no_minus (n : Nat) : 45 ∉ numL n := numL_free (.inl (by decide))
theorem no_stroke_int (i : Int) : 47 ∉ intL i := by
  unfold intL
  split
  · intro h
    rcases List.mem_cons.mp h with z | z
    · cases z
    · exact numL_free (.inl (by decide)) z
  · exact numL_free (.inl (by decide))
theorem minus_S : (Str.ofString "-") = S [45] := by decide +kernel
theorem stroke_S : (Str.ofString "/") = S [47] := by decide +kernel
theorem one_S : (Str.ofString "1") = S [49] := by decide +kernel
theorem zero_S : (Str.ofString "0") = S [48] := by decide +kernel
theorem empty_S : (Str.ofString "") = S [] := by decide +kernel
theorem rp_cons (l : List Nat) : Txt.removeprefix (S (45 :: l)) (S [45]) = S l := by
  rw [StrLaws.removeprefix_eq, StrLaws.subAt_eq]
  have h1 : (decide (0 + (S [45]).length ≤ (S (45 :: l)).length)) = true := by
    rw [S_len, S_len]
    simp
  rw [h1]
  have h2 : (((S (45 :: l)).cps.toList.drop 0).take (S [45]).length == (S [45]).cps.toList) = true := by
    rw [S_len]
    simp
  rw [h2]
  simp only [Bool.and_self, if_true]
  rw [S_len, S_len]
  simp
theorem rp_other {c : Nat} {l : List Nat} (h : c ≠ 45) : Txt.removeprefix (S (c :: l)) (S [45]) = S (c :: l) := by
  rw [StrLaws.removeprefix_eq, StrLaws.subAt_eq]
  have h2 : (((S (c :: l)).cps.toList.drop 0).take (S [45]).length == (S [45]).cps.toList) = false := by
    rw [S_len]
    simp [h]
  rw [h2, Bool.and_false]
  simp
theorem rp_int (i : Int) : Txt.removeprefix (S (intL i)) (S [45]) = S (numL i.natAbs) := by
  unfold intL
  split
  · exact rp_cons _
  · have hne := numL_ne i.natAbs
    have hno := no_minus i.natAbs
    cases hl : numL i.natAbs with
    | nil => exact absurd hl hne
    | cons c l =>
      rw [hl] at hno
      exact rp_other fun z => hno (by rw [z]; exact List.mem_cons_self ..)
theorem intL_len {i : Int} {k : Nat} (hk : 0 < k) (h : i.natAbs < 10 ^ k) : (intL i).length ≤ k + 1 := by
  have := numL_len hk h
  unfold intL
  split
  · rw [List.length_cons]; omega
  · omega
theorem int_int {i : Int} (h : (intL i).length ≤ 4300) : intText? (S (intL i)) = some i := by
  unfold intL at h ⊢
  split
  · rename_i hi
    have e := intText_neg (x := S (45 :: numL i.natAbs)) (cs := numL i.natAbs) rfl (numL_digits _) (numL_ne _) (by rw [S_len]; rw [if_pos hi] at h; exact h)
    rw [e, numL_val]
    congr 1
    omega
  · rename_i hi
    have e := intText_digits (x := S (numL i.natAbs)) (numL_digits _) (numL_ne _) (by rw [S_len]; rw [if_neg hi] at h; exact h)
    rw [e]
    show some ((digitsVal (numL i.natAbs) : Nat) : Int) = some i
    rw [numL_val]
    congr 1
    omega
/-- the text of a fraction -/
def txL (r : Rat) : List Nat := if r.den = 1 then intL r.num else intL r.num ++ (47 :: numL r.den)
theorem numL_head : ∀ n : Nat, 0 < n → ∃ c l, numL n = c :: l ∧ c ≠ 48 := by
  intro n
  induction n using Nat.strongRecOn with
  | _ n ih =>
    intro hn
    by_cases h : n < 10
    · rw [numL_lt h]
      exact ⟨48 + n, [], rfl, by omega⟩
    · rw [numL_step (by omega)]
      obtain ⟨c, l, e, hc⟩ := ih (n / 10) (by omega) (by omega)
      exact ⟨c, l ++ [48 + n % 10], by rw [e]; rfl, hc⟩
theorem numL_zero : numL 0 = [48] := numL_lt (by decide)
theorem part_one (i : Int) : Txt.partition (S (intL i)) (S [47]) = (S (intL i), S [], S []) := partition_none (by simp) (par_head_none (no_stroke_int i))
theorem part_two (i : Int) (l : List Nat) : Txt.partition (S (intL i ++ (47 :: l))) (S [47]) = (S (intL i), S [47], S l) := partition_some (by simp) (par_head (sep := []) l (no_stroke_int i))
theorem numL_pow {n k : Nat} (h : n < 2 ^ k) (hk : 0 < k) : (numL n).length ≤ k := numL_len hk (Nat.lt_of_lt_of_le h (Nat.pow_le_pow_left (by decide) k))
theorem intL_pow {i : Int} {k : Nat} (h : i.natAbs < 2 ^ k) (hk : 0 < k) : (intL i).length ≤ k + 1 := intL_len hk (Nat.lt_of_lt_of_le h (Nat.pow_le_pow_left (by decide) k))
theorem txL_len {r : Rat} {k : Nat} (h : KM.Sz k r) (hk : 0 < k) : (txL r).length ≤ 2 * k + 2 := by
  have h1 := intL_pow h.1 hk
  have h2 := numL_pow h.2 hk
  unfold txL
  split
  · omega
  · rw [List.length_append, List.length_cons]; omega
end TX
set_option Elab.async false
set_option linter.all false
set_option maxRecDepth 100000
set_option maxHeartbeats 4000000
/-! data: texts, pairs -/
namespace DQ
open PySem PySem.Spec PyProof.Rows L2
def pD (q : Int × Int) : PyData := .tuple [.int q.1, .int q.2]
theorem all_strs : ∀ xs : List Str, (∀ x ∈ xs, PyData.strOk x = true) → PyData.canLayAll0 (xs.map PyData.str) = true ∧ PyData.depthAll (xs.map PyData.str) = 0
  | [], _ => ⟨rfl, rfl⟩
  | x :: r, h => by
    obtain ⟨h1, h2⟩ := all_strs r fun y hy => h y (List.mem_cons_of_mem _ hy)
    have h3 := h x List.mem_cons_self
    exact ⟨by simp [PyData.canLayAll0, PyData.canLay0, h1, h3], by simp [PyData.depthAll, PyData.depth, h2]⟩
theorem sh_strs {xs : List Str} (h : ∀ x ∈ xs, PyData.strOk x = true) : SeqAt.shaped (.list (xs.map PyData.str)) = true := by
  obtain ⟨h1, h2⟩ := all_strs xs h
  simp [SeqAt.shaped, PyData.canLay0, PyData.depth, h1, h2]
theorem all_pairs : ∀ qs : List (Int × Int), PyData.canLayAll0 (qs.map pD) = true ∧ PyData.depthAll (qs.map pD) ≤ 2
  | [] => ⟨rfl, by decide⟩
  | _ :: r => by
    obtain ⟨h1, h2⟩ := all_pairs r
    refine ⟨by simp [PyData.canLayAll0, PyData.canLay0, pD, h1], ?_⟩
    show max (PyData.depth (pD _)) (PyData.depthAll (r.map pD)) ≤ 2
    have h3 : ∀ q, PyData.depth (pD q) ≤ 2 := fun q => by show 1 ≤ 2; decide
    exact Nat.max_le.mpr ⟨h3 _, h2⟩
theorem sh_pair (q : Int × Int) : SeqAt.shaped (pD q) = true := rfl
theorem sh_pairs (qs : List (Int × Int)) : SeqAt.shaped (.list (qs.map pD)) = true := by
  obtain ⟨h1, h2⟩ := all_pairs qs
  have h3 : PyData.depthAll (qs.map pD) + 1 ≤ 64 := by omega
  simp [SeqAt.shaped, PyData.canLay0, PyData.depth, h1]
  omega
theorem eq_strs (xs : List Str) : PyData.eqv (.list (xs.map PyData.str)) (.list (xs.map PyData.str)) = true := by
  refine PySem.W.eqv_refl_alike _ ?_
  induction xs with
  | nil => rfl
  | cons x xs ih => simpa [PySem.W.alike, PySem.W.alikeAll] using ih
theorem eq_pair (q : Int × Int) : PyData.eqv (pD q) (pD q) = true := PySem.W.eqv_refl_alike _ rfl
theorem eq_pairs (qs : List (Int × Int)) : PyData.eqv (.list (qs.map pD)) (.list (qs.map pD)) = true := by
  refine PySem.W.eqv_refl_alike _ ?_
  induction qs with
  | nil => rfl
  | cons x xs ih => simpa [PySem.W.alike, PySem.W.alikeAll, pD] using ih
theorem dp_strs {K : PySem.W.Frag} {H : Hp} : ∀ xs : List Str, DpAll K H (xs.map V.str) (xs.map PyData.str)
  | [] => .nil
  | x :: xs => .cons (.str x) (dp_strs xs)
theorem dp_pair {K : PySem.W.Frag} {H : Hp} {t : Addr} {q : Int × Int} (h : H t = some (.tup [.int q.1, .int q.2])) : Dp K H (.ref t) (pD q) := .tup (SqT.of h) (.cons (.int _) (.cons (.int _) .nil))
theorem dp_pairs {K : PySem.W.Frag} {H : Hp} : ∀ L : List (Addr × (Int × Int)), (∀ p ∈ L, H p.1 = some (.tup [.int p.2.1, .int p.2.2])) → DpAll K H (L.map fun p => V.ref p.1) ((L.map (·.2)).map pD)
  | [], _ => .nil
  | p :: L, h => .cons (dp_pair (h p List.mem_cons_self)) (dp_pairs L fun q hq => h q (List.mem_cons_of_mem _ hq))
/-- a dict by names -/
theorem val_map (f : Str → V) {y : Str} : ∀ {l : List Str}, y ∈ l → valV (l.map fun x => ((Sum.inr x : Key), f x)) (Sum.inr y) = some (f y)
  | x :: l, h => by
    rw [List.map_cons]
    by_cases e : x = y
    · rw [valV_pos (by rw [e])]
      rw [e]
    · rw [valV_neg (fun z => e (Sum.inr.inj z))]
      exact val_map f ((List.mem_cons.mp h).resolve_left fun z => e z.symm)
theorem val_none (f : Str → V) {y : Str} : ∀ {l : List Str}, y ∉ l → valV (l.map fun x => ((Sum.inr x : Key), f x)) (Sum.inr y) = none
  | [], _ => rfl
  | x :: l, h => by
    rw [List.map_cons, valV_neg (fun z => h (by rw [Sum.inr.inj z]; exact List.mem_cons_self))]
    exact val_none f fun z => h (List.mem_cons_of_mem _ z)
theorem put_new (f : Str → V) {y : Str} {l : List Str} (h : y ∉ l) : putK (l.map fun x => ((Sum.inr x : Key), f x)) (Sum.inr y) (f y) = (l ++ [y]).map fun x => ((Sum.inr x : Key), f x) := by
  rw [putK_new _ (val_none f h), List.map_append]
  rfl
theorem put_old (f : Str → V) {y : Str} {v : V} {l : List Str} (h : y ∈ l) : putK (l.map fun x => ((Sum.inr x : Key), f x)) (Sum.inr y) v = l.map fun x => ((Sum.inr x : Key), if x = y then v else f x) := by
  have a : ((l.map fun x => ((Sum.inr x : Key), f x)).any fun kv => decide (kv.1 = Sum.inr y)) = true := by
    rw [List.any_eq_true]
    exact ⟨(Sum.inr y, f y), List.mem_map.mpr ⟨y, h, rfl⟩, by simp⟩
  unfold putK
  rw [if_pos a, List.map_map]
  refine List.map_congr_left fun x _ => ?_
  show (if (Sum.inr x : Key) = Sum.inr y then ((Sum.inr x : Key), v) else (Sum.inr x, f x)) = _
  by_cases e : x = y
  · rw [if_pos (by rw [e]), if_pos e]
  · rw [if_neg (fun z => e (Sum.inr.inj z)), if_neg e]
theorem merge_map (f : Str → V) : ∀ {l m : List Str}, (m ++ l).Nodup → mergeK (m.map fun x => ((Sum.inr x : Key), f x)) (l.map fun x => ((Sum.inr x : Key), f x)) = (m ++ l).map fun x => ((Sum.inr x : Key), f x)
  | [], m, _ => by rw [List.append_nil]; rfl
  | y :: l, m, h => by
    have h' : (m ++ [y] ++ l).Nodup := by rw [List.append_assoc]; exact h
    have ny : y ∉ m := fun z => by
      have := (List.nodup_append.mp h).2.2 y z y List.mem_cons_self
      exact this rfl
    show mergeK (putK _ (Sum.inr y) (f y)) (l.map fun x => ((Sum.inr x : Key), f x)) = _
    rw [put_new f ny, merge_map f h', List.append_assoc]
    rfl
end DQ
set_option Elab.async false
set_option linter.all false
set_option maxRecDepth 100000
set_option maxHeartbeats 4000000
/-! ts.index(x) of a tuple of texts -/
namespace TI
open PySem PySem.Spec PyProof.Rows L2
def rIxOf (K : PySem.W.Frag) : V → List V → Hp → VK → Prop := fun x xs H Q => ∃ (a : Addr) (ys : List Str) (k : Str), x = .ref a ∧ xs = [.str k] ∧ SqT K H a (ys.map V.str) ∧ k ∈ ys ∧ Q (.int (ys.idxOf k : Nat)) H
theorem mt_tindex {X : Cx} : MtR X "tuple.index" (rIxOf X.K) := by
  intro pins s σ H x xs v us Q I rx rxs h
  obtain ⟨a, ys, k, rfl, rfl, hs, hk, q⟩ := h
  cases rx
  obtain ⟨u, rfl, ru⟩ := rxs.one
  obtain ⟨t, rfl⟩ := ru
  obtain ⟨its, rv, it, hlen⟩ := I.tuple hs
  exact PySem.SeqAt.tuple_index_strs (vs := its) it (Vals.strs rv) hk ⟨.int _, H, I.tok _, ⟨_, rfl⟩, q⟩
/-- len of a list or a tuple, where the reading must be named -/
def rLen (K : PySem.W.Frag) : List V → Hp → VK → Prop := fun xs H Q => ∃ (p : Addr) (ys : List V), xs = [V.ref p] ∧ (SqL K H p ys ∨ SqT K H p ys) ∧ Q (V.int (ys.length : Nat)) H
theorem call_lenK {X : Cx} : CallR X (.builtin "len") (rLen X.K) := call_len_seq
end TI
set_option Elab.async false
set_option linter.all false
set_option maxRecDepth 100000
set_option maxHeartbeats 4000000
namespace K52
open PySem PySem.Spec PyProof.Rows L2
open C8 (Cal Mak Met pe_c pe_mk pe_mt pe_mt0)
open KM (pr Sz)
section
variable {P : Program} {w : World} {K : PySem.W.Frag} {mg : Str → Option Value} {base : Heap} {f C CT : Addr} {fd : FuncData}
theorem log_1920 {i : Int} {n : Nat} (h : i.natAbs < 2 ^ n) (h0 : 0 < n) (h9 : n ≤ 1920) : i.natAbs.log2 < 1920 := Nat.lt_of_lt_of_le (PySem.Flt.log2_lt_of h0 h) h9
def spStr (C : Addr) (g : Rat → Str) : Sp := fun vs H Q _ => ∃ (p : Addr) (r : Rat) (n : Nat), vs = [.ref p] ∧ Sh C H p (pr r) ∧ Sz n r ∧ 0 < n ∧ n ≤ 1900 ∧ Q (.str (g r)) H
theorem S_len_le {l : List Nat} {k : Nat} (h : l.length ≤ k) (hk : k ≤ 100000) : (SX.S l).length ≤ sizeLine := by
  rw [SX.S_len]
  exact Nat.le_trans h (Nat.le_trans hk (by decide))
theorem ok_str (F : Dn K d_Share_str f fd) (T : Cl K mg C) : FnOk P w K mg base CX0 1 f fd ["self"] (spStr C fun r => SX.S (TX.txL r)) := by
  refine F.ok sc_Share_str (fun vs H Q E h => ?_) (fun cdv A outer s H vs Q E hr h => ?_)
  · obtain ⟨p, r, n, rfl, _⟩ := h
    rfl
  · obtain ⟨p, r, n, rfl, ⟨dp, hp⟩, sr, n0, n9, hQ⟩ := h
    refine ⟨_, PSs.nox (pss_cons (ps_if (pt_cmpR op_eq (pe_fld (pv 0) rfl) pe_int (nomark _)) (pss_one (ps_ret (pe_joined1 (pe_fmt (pe_fld (pv 0) rfl))))) pss_nil)
      (pss_one (ps_ret (pe_joined (.cons (pe_fmt (pe_fld (pv 0) rfl)) (.cons pe_str (.cons (pe_fmt (pe_fld (pv 0) rfl)) .nil))))))), ?_⟩
    have l1 : (pr r).1.natAbs.log2 < 1920 := log_1920 (bd_of sr).1 n0 (by omega)
    have l2 : (pr r).2.natAbs.log2 < 1920 := log_1920 (bd_of sr).2.2 n0 (by omega)
    refine ⟨_, rfl, p, C, dp, _, _, rfl, hp, T.cl, T.nb, shF_bot _, rfl, _, rfl, ?_⟩
    refine ite2 (fun h1 => ?_) (fun h1 => ?_)
    · have e1 : r.den = 1 := by
        have : (pr r).2 = 1 := V.int.inj (of_decide_eq_true h1)
        have : (r.den : Int) = 1 := this
        omega
      refine ⟨_, rfl, p, C, dp, _, _, rfl, hp, T.cl, T.nt, shF_top _, .inr ⟨_, rfl, l1, ?_⟩⟩
      have e2 : (Str.ofString (toString (pr r).1)) = SX.S (TX.txL r) := by
        rw [TX.tl_int]
        unfold TX.txL
        rw [if_pos e1]
        rfl
      show Q (.str (Str.ofString (toString (pr r).1))) H
      rw [e2]
      exact hQ
    · have e1 : ¬ r.den = 1 := fun z => h1 (by
        have : (pr r).2 = 1 := by show (r.den : Int) = 1; omega
        rw [this]
        rfl)
      have k1 : (TX.intL r.num).length ≤ n + 1 := TX.intL_pow sr.1 n0
      have k2 := TX.numL_pow sr.2 n0
      refine ⟨_, rfl, p, C, dp, _, _, rfl, hp, T.cl, T.nt, shF_top _, .inr ⟨_, rfl, l1, _, rfl, ?_, _, rfl, ?_, _, rfl, p, C, dp, _, _, rfl, hp, T.cl, T.nb, shF_bot _, .inr ⟨_, rfl, l2, _, rfl, ?_, ?_⟩⟩⟩
      · show (Str.empty ++ Str.ofString (toString (pr r).1)).length ≤ sizeLine
        rw [show Str.empty ++ Str.ofString (toString (pr r).1) = SX.S (TX.intL r.num) from by rw [TX.tl_int]; exact SX.S_cat [] _]
        exact S_len_le k1 (by omega)
      · show (Str.empty ++ Str.ofString (toString (pr r).1) ++ Str.ofString "/").length ≤ sizeLine
        rw [show Str.empty ++ Str.ofString (toString (pr r).1) = SX.S (TX.intL r.num) from by rw [TX.tl_int]; exact SX.S_cat [] _, TX.stroke_S, SX.S_cat]
        exact S_len_le (k := n + 2) (by rw [List.length_append]; simp; omega) (by omega)
      · show (Str.empty ++ Str.ofString (toString (pr r).1) ++ Str.ofString "/" ++ Str.ofString (toString (pr r).2)).length ≤ sizeLine
        rw [show Str.empty ++ Str.ofString (toString (pr r).1) = SX.S (TX.intL r.num) from by rw [TX.tl_int]; exact SX.S_cat [] _, TX.stroke_S, SX.S_cat,
          show Str.ofString (toString (pr r).2) = SX.S (TL.numL r.den) from SX.num_S r.den, SX.S_cat]
        exact S_len_le (k := n + 2 + n) (by rw [List.length_append, List.length_append]; simp; omega) (by omega)
      · show Q (.str (Str.empty ++ Str.ofString (toString (pr r).1) ++ Str.ofString "/" ++ Str.ofString (toString (pr r).2))) H
        rw [show Str.empty ++ Str.ofString (toString (pr r).1) = SX.S (TX.intL r.num) from by rw [TX.tl_int]; exact SX.S_cat [] _, TX.stroke_S, SX.S_cat,
          show Str.ofString (toString (pr r).2) = SX.S (TL.numL r.den) from SX.num_S r.den, SX.S_cat,
          show TX.intL r.num ++ [47] ++ TL.numL r.den = TX.txL r from by unfold TX.txL; rw [if_neg e1]; simp]
        exact hQ
/-- the text that repr tells -/
def rpS (r : Rat) : Str := Str.empty ++ Str.ofString "Share(" ++ Str.ofString (toString (pr r).1) ++ Str.ofString ", " ++ Str.ofString (toString (pr r).2) ++ Str.ofString ")"
theorem ok_repr (F : Dn K d_Share_repr f fd) (T : Cl K mg C) : FnOk P w K mg base CX0 1 f fd ["self"] (spStr C rpS) := by
  refine F.ok sc_Share_repr (fun vs H Q E h => ?_) (fun cdv A outer s H vs Q E hr h => ?_)
  · obtain ⟨p, r, n, rfl, _⟩ := h
    rfl
  · obtain ⟨p, r, n, rfl, ⟨dp, hp⟩, sr, n0, n9, hQ⟩ := h
    refine ⟨_, PSs.nox (pss_one (ps_ret (pe_joined (.cons pe_str (.cons (pe_fmt (pe_fld (pv 0) rfl)) (.cons pe_str (.cons (pe_fmt (pe_fld (pv 0) rfl)) (.cons pe_str .nil)))))))), ?_⟩
    have l1 : (pr r).1.natAbs.log2 < 1920 := log_1920 (bd_of sr).1 n0 (by omega)
    have l2 : (pr r).2.natAbs.log2 < 1920 := log_1920 (bd_of sr).2.2 n0 (by omega)
    have k1 : (TX.intL r.num).length ≤ n + 1 := TX.intL_pow sr.1 n0
    have k2 := TX.numL_pow sr.2 n0
    have t1 : Str.ofString (toString (pr r).1) = SX.S (TX.intL r.num) := TX.tl_int r.num
    have t2 : Str.ofString (toString (pr r).2) = SX.S (TL.numL r.den) := SX.num_S r.den
    have c1 : Str.empty ++ Str.ofString "Share(" = SX.S [83, 104, 97, 114, 101, 40] := by decide +kernel
    have c2 : Str.ofString ", " = SX.S [44, 32] := by decide +kernel
    have c3 : Str.ofString ")" = SX.S [41] := by decide +kernel
    refine ⟨_, rfl, ?_, _, rfl, p, C, dp, _, _, rfl, hp, T.cl, T.nt, shF_top _, .inr ⟨_, rfl, l1, _, rfl, ?_, _, rfl, ?_, _, rfl, p, C, dp, _, _, rfl, hp, T.cl, T.nb, shF_bot _, .inr ⟨_, rfl, l2, _, rfl, ?_, _, rfl, ?_, hQ⟩⟩⟩
    · show (Str.empty ++ Str.ofString "Share(").length ≤ sizeLine
      rw [c1]
      exact S_len_le (k := 6) (by decide) (by decide)
    · show (Str.empty ++ Str.ofString "Share(" ++ Str.ofString (toString (pr r).1)).length ≤ sizeLine
      rw [c1, t1, SX.S_cat]
      exact S_len_le (k := n + 7) (by rw [List.length_append]; simp; omega) (by omega)
    · show (Str.empty ++ Str.ofString "Share(" ++ Str.ofString (toString (pr r).1) ++ Str.ofString ", ").length ≤ sizeLine
      rw [c1, t1, c2, SX.S_cat, SX.S_cat]
      exact S_len_le (k := n + 9) (by rw [List.length_append, List.length_append]; simp; omega) (by omega)
    · show (Str.empty ++ Str.ofString "Share(" ++ Str.ofString (toString (pr r).1) ++ Str.ofString ", " ++ Str.ofString (toString (pr r).2)).length ≤ sizeLine
      rw [c1, t1, c2, t2, SX.S_cat, SX.S_cat, SX.S_cat]
      exact S_len_le (k := n + 9 + n) (by rw [List.length_append, List.length_append, List.length_append]; simp; omega) (by omega)
    · show (Str.empty ++ Str.ofString "Share(" ++ Str.ofString (toString (pr r).1) ++ Str.ofString ", " ++ Str.ofString (toString (pr r).2) ++ Str.ofString ")").length ≤ sizeLine
      rw [c1, t1, c2, t2, c3, SX.S_cat, SX.S_cat, SX.S_cat, SX.S_cat]
      exact S_len_le (k := n + 10 + n) (by rw [List.length_append, List.length_append, List.length_append, List.length_append]; simp; omega) (by omega)
end
end K52
set_option Elab.async false
set_option linter.all false
set_option maxRecDepth 100000
set_option maxHeartbeats 4000000
/-! GL: promises of defs that are asked only where no repr is under way (A.guards = some []); what such a def may do more: repr of lists and tuples. -/
namespace GL
open PySem PySem.Spec PyProof.Rows L2
/-- a def's promise, where no repr is under way -/
structure FnG (P : Program) (w : World) (K : PySem.W.Frag) (mg : Str → Option Value) (base : Heap) (k : Nat) (f : Addr) (fd : FuncData) (ps : List Str) (sp : Sp) : Prop where
  len : ∀ vs H Q E, sp vs H Q E → vs.length = ps.length
  run : ∀ (A : Around) (outer : List Env) (s : Shared) (H : Hp) (args : Args) (us : List Value) (vs : List V) (Q : VK) (E : XK), A.guards = some [] → Room k A → Env0 P w K mg base A outer s H → BindsTo s fd args (ps.zip us) → Vals vs us → sp vs H Q E →
    codeAny (model P w) A (.call (.ref f) args) (CR CX0 outer P w H s Q E) s
section
variable {P : Program} {w : World} {K : PySem.W.Frag} {mg : Str → Option Value} {base : Heap} {k : Nat} {f : Addr} {fd : FuncData} {ps : List Str} {sp : Sp}
theorem FnG.of (F : FnOk P w K mg base CX0 k f fd ps sp) : FnG P w K mg base k f fd ps sp := ⟨F.len, fun A outer s H args us vs Q E _ => F.run A outer s H args us vs Q E⟩
/-- by its body -/
theorem okG {x qual : Str} {params : Arguments} {body : List Stmt} {scope : Scope} {dvs : List V} {kws : List (Str × V)} {N : List Str} (F : FunD K x qual params body scope dvs kws f fd) (S : FnScope N ps scope) (len : ∀ vs H Q E, sp vs H Q E → vs.length = ps.length)
    (hbody : ∀ (cdv : Value) (A : Around) (outer : List Env) (s : Shared) (H : Hp) (vs : List V) (Q : VK) (E : XK), A.guards = some [] → Room k (A.deeper (envOfC qual scope s.heap.objs.size f cdv)) → sp vs H Q E →
      ∃ t, PSs (cxOf CX0 P w K mg base N qual scope f cdv A outer s H E) body t ∧ t { nx := fun _ H' => Q .non H', rt := Q } (start N vs) H) : FnG P w K mg base (k + 1) f fd ps sp := by
  refine ⟨len, fun A outer s H args us vs Q E hg hr e0 hb r hsp => ?_⟩
  obtain ⟨oc, od, dV, kV, doc, pm, an, cdv, ct, osl, hfd, lk, hcd, _, _⟩ := F.ex
  subst hfd
  obtain ⟨t, ht, hq⟩ := hbody cdv A outer s H vs Q E hg (hr.deeper _) hsp
  have keep : ∀ b o, base.get? b = some o → s.heap.get? b = some o := fun b o e => (e0.bs b o e).1
  have KX : K.In s.heap := e0.mod.kin.keeps keep
  refine codeAny_call_function hr.depth (KX _ _ lk) rfl S.co S.gen rfl (PySem.W.codeRec_of KX hcd) (hb _ _ _ _ (wpAny_newFunctionEnv_cells S.kind (fun y hy => ?_) fun env he s1 x => ?_))
  · exact (S.par y.1 (List.of_mem_zip hy).1).imp id fun q => ⟨q, PySem.W.cellsFrom_some _ _ _ (.inl q)⟩
  · subst he
    refine ⟨(e0.mod.nolimit.keeps keep).keeps x.toInCall.keep, codeAny_func (wpAny_mono (ht.run [] s1 (start N vs) H _ (inv_start S hr.hd e0 (len _ _ _ _ hsp) r x) hq) (fun fl s' hs => ?_) fun e s' hs => hs)⟩
    match fl, hs with
    | .ret u, ⟨v, σ', H', J, rv, q⟩ => exact ⟨v, H', J.os, J.bare, J.base, J.hok, rv, q⟩
    | .next, ⟨σ', H', J, q⟩ => exact ⟨.non, H', J.os, J.bare, J.base, J.hok, rfl, q⟩
    | .brk, ⟨_, _, _, q⟩ => exact q.elim
    | .cont, ⟨_, _, _, q⟩ => exact q.elim
end
/-- the package of a def of this kind -/
structure CalG (P : Program) (w : World) (K : PySem.W.Frag) (mg : Str → Option Value) (base : Heap) (k : Nat) (x : Str) (sp : Sp) (dvs : List V) : Prop where
  ex : ∃ (f : Addr) (fd : FuncData) (ps : List Str) (ds : List Value), FnG P w K mg base k f fd ps sp ∧ mg x = some (.ref f) ∧ PySem.W.keepIn K (.ref f) = true ∧ Binds K fd ps ds ∧ Vals dvs ds
section
variable {X : Cx} {k j : Nat} {x : Str} {sp : Sp} {dvs : List V} {e : Expr} {es : List Expr} {t : TA} {p pos : Pos}
theorem pe_cG (c : CalG X.prog X.w X.K X.mg X.base k x sp dvs) (hgd : X.A.guards = some []) (hr : Room j X.A) (hk : k ≤ j) (hg : Gl X x) (ha : PA X (e :: es) t)
    (hdb : (x == ("__debug__" : Str)) = false := by decide) (he : starEach (e :: es) X.env = (false, eval e X.env) :: starEach es X.env := by rfl) (hpl : (backTo pos (starEach es X.env)).any (·.1) = false := by rfl) :
    PE X (.Call (.Name x p) (e :: es) [] pos) (tCall sp dvs E0 t) := by
  obtain ⟨f, fd, ps, ds, F, hm, kp, b, d⟩ := c.ex
  refine ⟨fun pins s σ H Q I h => wpAny_Call_Name_kw (ld_glob I hg hm (PySem.W.callWith_K (h₀ := X.base) I.ok.mod.kin kp (thn (ha.run pos pins s σ H _ I h) fun us s1 ⟨vs, H1, I1, r, q⟩ => ⟨I1.kIn, ?_⟩) he hpl) hdb)⟩
  have r2 := r.append d
  refine wpAny_call (codeAny_mono (F.run X.A X.stack s1 H1 ⟨us, []⟩ (us ++ ds) (vs ++ dvs) Q E0 hgd (hr.mono hk) I1.env0 (b s1 us I1.kIn (r2.length.symm.trans (F.len _ _ _ _ q))) r2 q) fun r s' hq => ?_)
  match r, hq with
  | .error _, hq => exact hq.elim
  | .ok (.ret u), hq => exact I1.after hq
  | .ok .next, hq => exact hq.elim
  | .ok .brk, hq => exact hq.elim
  | .ok .cont, hq => exact hq.elim
/-- repr of what is flat, of lists and tuples -/
def rRepr (K : PySem.W.Frag) : List V → Hp → VK → Prop := fun xs H Q => ∃ (y : V) (d : PyData), xs = [y] ∧ Dp K H y d ∧ d.showable = true ∧ d.hasDict = false ∧ d.depth ≤ 60 ∧ d.shown.length ≤ sizeLine ∧ Q (.str d.shown) H
theorem call_reprD (hgd : X.A.guards = some []) (hu : X.A.units + 64 < cLine) : CallR X (.builtin "repr") (rRepr X.K) := by
  intro pins s σ H xs us Q I r h
  obtain ⟨y, d, rfl, hd, hs, hn, hdp, hsz, q⟩ := h
  obtain ⟨u, rfl, ru⟩ := r.one
  obtain ⟨as, rd⟩ := Dp.reads I d y u hd ru
  have fin : ∀ h' tk t, (∀ b o, s.heap.get? b = some o → h'.get? b = some o) → EP X pins σ Q (.str d.shown t) { s with heap := h', toks := tk } := fun h' tk t hk => ⟨.str d.shown, H, I.kept hk, ⟨t, rfl⟩, q⟩
  cases hd with
  | non => cases ru; exact PySem.P.repr_of_none (fin s.heap _ _ fun _ _ e => e)
  | bl b => cases ru; exact PySem.P.repr_of_bool (fin s.heap _ _ fun _ _ e => e)
  | int i =>
    obtain ⟨t, rfl⟩ := ru
    exact PySem.P.repr_of_int (of_decide_eq_true hs) (fin s.heap _ _ fun _ _ e => e)
  | str z =>
    obtain ⟨t, rfl⟩ := ru
    exact PySem.P.repr_of_str (fin s.heap _ _ fun _ _ e => e) hsz
  | lst _ _ =>
    cases ru
    exact repr_of_reads' rd hs (fun z => absurd z (by rw [hn]; decide)) hgd (by omega) (fun _ _ e => e) (fun h' u tk hk => fin h' tk u hk) hsz
  | tup _ _ =>
    cases ru
    exact repr_of_reads' rd hs (fun z => absurd z (by rw [hn]; decide)) hgd (by omega) (fun _ _ e => e) (fun h' u tk hk => fin h' tk u hk) hsz
end
end GL
set_option Elab.async false
set_option linter.all false
set_option maxRecDepth 100000
set_option maxHeartbeats 4000000
/-! RPO: repr of lists, tuples and dicts that hold own instances, of any depth. -/
namespace RPO
open PySem PySem.Spec PyProof.Rows L2
open Builtin Builtin.List
/-- the guards stand on these alone -/
def Gd (g : List Code) (outs : List Addr) : Prop := ∀ id v rest kw, Code.builtin id ⟨v :: rest, kw⟩ ∈ g → ∃ a ∈ outs, v = .ref a
theorem Gd.nil : Gd [] [] := fun _ _ _ _ h => nomatch h
theorem Gd.cons {g : List Code} {outs : List Addr} {id : String} {a : Addr} {rest : List Value} {kw : List (Str × Value)} (h : Gd g outs) : Gd (.builtin id ⟨.ref a :: rest, kw⟩ :: g) (a :: outs) := by
  intro id' v rest' kw' hm
  rcases List.mem_cons.mp hm with e | hm
  · cases e
    exact ⟨a, List.mem_cons_self, rfl⟩
  · obtain ⟨b, hb, e⟩ := h _ _ _ _ hm
    exact ⟨b, List.mem_cons_of_mem _ hb, e⟩
theorem Gd.clear {g : List Code} {outs : List Addr} {a : Addr} (h : Gd g outs) (n : a ∉ outs) : Clear g a := fun id v rest kw hm e => by
  obtain ⟨b, hb, e2⟩ := h id v rest kw hm
  rw [e] at e2
  cases e2
  exact n hb
/-- all but these are as they were -/
def Ex (outs : List Addr) (H H' : Hp) : Prop := ∀ a o, H a = some o → a ∉ outs → H' a = some o
theorem Ex.refl (outs : List Addr) (H : Hp) : Ex outs H H := fun _ _ h _ => h
theorem Ex.ext {outs : List Addr} {H H1 H2 : Hp} (x : Ex outs H H1) (e : Ext H1 H2) : Ex outs H H2 := fun a o h n => e a o (x a o h n)
theorem Ex.more {outs : List Addr} {H H1 : Hp} {a : Addr} (x : Ex outs H H1) : Ex (a :: outs) H H1 := fun b o h n => x b o h fun z => n (List.mem_cons_of_mem _ z)
section
variable {X : Cx}
/-- what a thing shows as, within containers at outs -/
def RpU (X : Cx) (n : Nat) (outs : List Addr) (H0 : Hp) (v : V) (t : Str) : Prop := ∀ (A : Around) (g : List Code) (pins : List (Addr × Obj)) (s : Shared) (σ : L2.St) (H : Hp) (u : Value) (bs : Nat),
  Ex outs H0 H → Sub X n A → A.guards = some g → Gd g outs → Inv X pins σ H s → RelV v u → bs + t.length ≤ sizeLine →
  wpAny (model X.prog X.w) A (pyReprUnder bs u) (fun r s' => r = t ∧ ∃ H', Inv X pins σ H' s' ∧ Ext H H') X.xe s
theorem RpU.mono {n m : Nat} {outs : List Addr} {H0 : Hp} {v : V} {t : Str} (h : RpU X n outs H0 v t) (nm : n ≤ m) : RpU X m outs H0 v t := fun A g pins s σ H u bs x sb => h A g pins s σ H u bs x (sb.mono nm)
theorem RpU.non {n : Nat} {outs : List Addr} {H0 : Hp} : RpU X n outs H0 .non "None" := fun A g pins s σ H u bs x sb hg gd I r hb => by
  cases r
  exact ReprIs.none bs hb _ _ _ _ fun tk => ⟨rfl, H, I.tok tk, Ext.rfl'⟩
theorem RpU.bl {n : Nat} {outs : List Addr} {H0 : Hp} {b : Bool} : RpU X n outs H0 (.bl b) (if b then "True" else "False") := fun A g pins s σ H u bs x sb hg gd I r hb => by
  cases r
  exact ReprIs.bool b bs hb _ _ _ _ fun tk => ⟨rfl, H, I.tok tk, Ext.rfl'⟩
theorem RpU.int {n : Nat} {outs : List Addr} {H0 : Hp} {i : Int} (h : i.natAbs.log2 < 1920) : RpU X n outs H0 (.int i) (toString i) := fun A g pins s σ H u bs x sb hg gd I r hb => by
  obtain ⟨t, rfl⟩ := r
  exact ReprIs.int t h bs hb _ _ _ _ fun tk => ⟨rfl, H, I.tok tk, Ext.rfl'⟩
theorem RpU.str {n : Nat} {outs : List Addr} {H0 : Hp} {z : Str} : RpU X n outs H0 (.str z) (reprText z) := fun A g pins s σ H u bs x sb hg gd I r hb => by
  obtain ⟨t, rfl⟩ := r
  exact ReprIs.str z t (by omega) bs hb _ _ _ _ fun tk => ⟨rfl, H, I.tok tk, Ext.rfl'⟩
/-- an own instance, by its own __repr__ -/
theorem RpU.own {k n : Nat} {outs : List Addr} {H0 : Hp} {a C dx : Addr} {fs : List (Str × V)} {sp : Sp} {t : Str} (S : OW.Spc X.prog X.w X.K X.mg X.base k C "__repr__" sp) (ha : H0 a = some (.ins C dx fs)) (na : a ∉ outs)
    (hsp : ∀ H, H a = some (.ins C dx fs) → sp [.ref a] H (fun v H' => v = .str t ∧ Ext H H') E0) (kn : k ≤ n) : RpU X n outs H0 (.ref a) t := fun A g pins s σ H u bs x sb hg gd I r hb => by
  obtain ⟨f, fd, ps, h1, h2, F, hbi⟩ := S.ex
  cases (show u = Value.ref a from r)
  have ea := x a _ ha na
  obtain ⟨mA, O, _⟩ := ins_get I.hok ea
  obtain ⟨od, J, _⟩ := O.look
  have KI := I.kIn
  have e0 : Env0 X.prog X.w X.K X.mg X.base A X.stack s H := by
    have z := I.env0
    exact ⟨sb.fr.trans z.frames, z.mod, z.bs, z.bsz, z.funs, z.frf, z.hok, z.bare⟩
  refine wpAny_pyReprUnder_ref (by omega) ?_
  unfold pyReprObjUnder pyReprObjBy
  refine wpAny_bind (wpAny_cRoomFor sb.room.units0 ?_)
  refine wpAny_bind (wpAny_bind (J.type.here ((PySem.W.looks_findIn KI h1).here ?_)))
  show wpAny _ _ (if (some (Value.ref f)).isNone = true then _ else _) _ _ _
  rw [if_neg (by simp)]
  have called : wpAny (model X.prog X.w) A (call (.ref f) [.ref a]) (fun v s' => ∃ tk, v = .str t tk ∧ ∃ H', Inv X pins σ H' s' ∧ Ext H H') X.xe s := by
    refine wpAny_mono (OW.run_at (E' := X.xe) (vs := [.ref a]) F hbi (sb.room.mono kn) I e0 (.cons rfl .nil) (hsp H ea)) (fun w s' z => ?_) fun _ _ x => x
    obtain ⟨z', H', I', rz, z, e⟩ := z
    rw [z] at rz
    obtain ⟨tk, rfl⟩ := rz
    exact ⟨tk, rfl, H', I', e⟩
  refine wpAny_bind (m := callSpecialIfBoundBy? _ (.ref a) (Str.ofString "__repr__")) ?_
  have fin : wpAny (model X.prog X.w) A (callSpecialIfBoundBy? (fun g first => match reprUnder? g, first with | some twin, [self] => call twin [self, rawInt bs] | _, _ => call g (first ++ [])) (.ref a) (Str.ofString "__repr__"))
      (fun r s' => ∃ tk, r = some (.str t tk) ∧ ∃ H', Inv X pins σ H' s' ∧ Ext H H') X.xe s := by
    simp only [callSpecialIfBoundBy?, bindSpecialIfBound?]
    refine wpAny_holding (wpAny_bind (wpAny_bind (wpAny_bind (J.type.here ((PySem.W.looks_findIn KI h1).here ?_)))))
    refine wpAny_bind (wpAny_askSetting (wpAny_ite ?_))
    have ends : wpAny (model X.prog X.w) A (call (.ref f) ([.ref a] ++ []) >>= fun v => pure (some v)) (fun r s' => ∃ tk, r = some (.str t tk) ∧ ∃ H', Inv X pins σ H' s' ∧ Ext H H') X.xe s :=
      wpAny_bind (wpAny_mono called (fun v s' h' => wpAny_pure (by obtain ⟨tk, rfl, h⟩ := h'; exact ⟨tk, rfl, h⟩)) fun _ _ h' => h')
    split
    · exact wpAny_bind ((PySem.W.bind_fn KI _ (beq_iff_eq.mp h2)).here (wpAny_pure (by exact ends)))
    · exact wpAny_tryCatch (wpAny_bind ((PySem.W.bind_fn KI _ (beq_iff_eq.mp h2)).here (wpAny_pure (by exact ends))))
  refine wpAny_mono fin (fun r s' h' => ?_) fun _ _ x => x
  obtain ⟨tk, rfl, h⟩ := h'
  exact wpAny_bind (wpAny_isInstance (T := "str") (b := true) rfl isSubtype_str_str (wpAny_pure ⟨_, _, rfl, rfl, h⟩))
end
end RPO
set_option Elab.async false
set_option linter.all false
set_option maxRecDepth 100000
set_option maxHeartbeats 4000000
/-! RPL: the containers of RPO: lists, tuples, dicts. -/
namespace RPO
open PySem PySem.Spec PyProof.Rows L2
open Builtin Builtin.List
theorem strs_of : ∀ {ts : List Str} {us : List Value}, Vals (ts.map V.str) us → ∃ done : List (Str × Tok), us = strValues done ∧ done.map (·.1) = ts
  | [], _, .nil => ⟨[], rfl, rfl⟩
  | t :: ts, _, .cons r h => by
    obtain ⟨tk, rfl⟩ := r
    obtain ⟨done, rfl, e⟩ := strs_of h
    exact ⟨(t, tk) :: done, rfl, by simp [e]⟩
theorem sub_loop {X : Cx} {n : Nat} {A : Around} {args : Args} (h : Sub X (n + 1) A) : Sub X n (A.under (.builtin "list.__repr__.loop" args)) := by
  have hd : (A.under (.builtin "list.__repr__.loop" args)).depth ≤ A.depth + 1 := by
    first | exact Nat.le_refl _ | simp [Around.under, Code.weight, Code.isCreation, Code.isGuard, Code.isCaller, Code.frames, Code.isFrame, guardIds]
  have hu := units_under_list_loop A args
  have hf : (A.under (.builtin "list.__repr__.loop" args)).frames = A.frames := by
    have e : (Code.builtin "list.__repr__.loop" args).envs = [] := by first | rfl | simp [Code.envs, Code.isFrame]
    have e2 : (A.under (.builtin "list.__repr__.loop" args)).frames = pushEnvs (Code.envs (.builtin "list.__repr__.loop" args)) A.frames := by first | rfl | simp [Around.under]
    rw [e2, e]
    cases A.frames <;> first | rfl | simp [pushEnvs]
  obtain ⟨⟨h1, h2, h3⟩, h4⟩ := h
  exact ⟨⟨h1, by omega, by rw [hu]; omega⟩, hf.trans h4⟩
section
variable {X : Cx} {n : Nat} {outs : List Addr} {H0 : Hp} {a : Addr} {xs : List V} {ts : List Str}
theorem list_loop {A : Around} {g : List Code} {P : Addr} {bs : Nat} {pins : List (Addr × Obj)} {σ : L2.St} {Hb : Hp} {R : Result → Shared → Prop} (sb : Sub X (n + 1) A) (hg : A.guards = some g) (gd : Gd g outs) (ha : Hb a = some (.lst xs)) (hP : Hb P = none) (xe : Ex outs H0 Hb) (hlen : ts.length = xs.length)
    (hT : ∀ (i : Nat) (x : V), xs[i]? = some x → ∃ t, ts[i]? = some t ∧ RpU X n (a :: outs) H0 x t) (hsz : bs + (listText ts).length ≤ sizeLine)
    (hE : ∀ e s', X.xe e s' → R (.error e) s')
    (fin : ∀ (s' : Shared) (H' : Hp) (u : Tok), Inv X pins σ H' s' → Ext Hb H' → R (.ok (.ret (.str (listText ts) u))) s') :
    ∀ (k i : Nat) (s : Shared) (H : Hp), xs.length - i = k → i ≤ xs.length → Inv X pins σ H s → Ext Hb H → H P = some (.lst ((ts.take i).map V.str)) →
      codeAny (model X.prog X.w) A (.builtin "list.__repr__.loop" ⟨[.ref a, rawInt i, .ref P, rawInt ((bs + piled (ts.take i) : Nat) : Int)], []⟩) R s := by
  have hX : (listText ts).length = (textFrom 0 "[" ts).length + 1 := by
    show (textFrom 0 "[" ts ++ "]").length = _
    rw [strLen_append]; rfl
  have hL := textFrom_len ts 0 "["
  have each : ∀ t ∈ ts, t.length ≤ sizeLine := fun t ht => by
    have := hL.2.1 t ht
    omega
  have many : ts.length ≤ sizeLine := by
    have h1 := hL.1
    rw [if_neg (Nat.lt_irrefl 0)] at h1
    omega
  have hp3 := piled_le_listText ts
  have uu : A.in1.units < cLine := by have := sb.room.un; show A.units + 1 < cLine; omega
  intro k
  induction k with
  | zero =>
    intro i s H hk hi I eb hPi
    have hin : i = ts.length := by omega
    obtain ⟨_, its, m, rv, _, e⟩ := I.lstM (eb _ _ ha)
    obtain ⟨_, ups, c, rp, _, ep⟩ := I.lstM hPi
    have nits : its[i]? = none := by
      have := rv.length
      exact List.getElem?_eq_none (by omega)
    refine codeAny_builtin F.entry_list_repr_loop ?_
    show wpAny _ _ («list.__repr__.loop» ⟨[.ref a, .int i 0, .ref P, .int ((bs + piled (ts.take i) : Nat) : Int) 0], []⟩) _ _ s
    rw [repr_loop_tree]
    refine wpAny_bind (wpAny_listItems e rfl ?_)
    have hnone : its.toArray[((i : Int)).toNat]? = none := by simpa using nits
    simp only [hnone]
    unfold reprEnd
    refine wpAny_bind (wpAny_listItems ep rfl ?_)
    obtain ⟨done, rfl, ed⟩ := strs_of rp
    rw [show (strValues done).toArray.toList = strValues done from by simp, repr_fold]
    refine wpAny_bind (wpAny_pure ?_)
    have hall : done.map (·.1) = ts := by rw [ed, hin, List.take_length]
    rw [hall]
    refine wpAny_bind (wpAny_mkStr (wpAny_pure ?_) (by show (listText ts).length ≤ sizeLine; omega))
    exact fin _ H _ (I.tok _) eb
  | succ k ih =>
    intro i s H hk hi I eb hPi
    have hlt : i < xs.length := by omega
    obtain ⟨t, ht, hrep⟩ := hT i xs[i] (List.getElem?_eq_getElem hlt)
    obtain ⟨_, its, m, rv, lv, e⟩ := I.lstM (eb _ _ ha)
    have hlt2 : i < its.length := by omega
    have rvi : RelV xs[i] its[i] := by
      obtain ⟨u, e1, e2⟩ := rv.get (List.getElem?_eq_getElem hlt)
      rw [List.getElem?_eq_getElem hlt2] at e1
      cases e1
      exact e2
    have hp1 := piled_take_succ ht
    have hp2 := piled_take_le ts (i + 1)
    refine codeAny_builtin F.entry_list_repr_loop ?_
    show wpAny _ _ («list.__repr__.loop» ⟨[.ref a, .int i 0, .ref P, .int ((bs + piled (ts.take i) : Nat) : Int) 0], []⟩) _ _ s
    rw [repr_loop_tree]
    refine wpAny_bind (wpAny_listItems e rfl ?_)
    have hsome : its.toArray[((i : Int)).toNat]? = some its[i] := by simp [hlt2]
    simp only [hsome]
    rw [Int.toNat_natCast]
    refine wpAny_bind (wpAny_holding (wpAny_mono (hrep _ _ pins s σ H its[i] (bs + piled (ts.take i) + 1) ((xe.ext eb).more) (sub_loop sb) (guards_under_guard (isGuard_list_loop _) hg) gd.cons I rvi (by omega)) (fun r s2 h2 => ?_) fun e' s' h' => hE e' s' h'))
    obtain ⟨rfl, H2, I2, e2⟩ := h2
    refine wpAny_bind (wpAny_mkStr ?_ (each r (List.mem_of_getElem? ht)))
    have hP2 := e2 _ _ hPi
    obtain ⟨_, ups, c, rp, _, ep⟩ := I2.lstM hP2
    refine wpAny_bind ?_
    show wpAny _ _ (updateSeq P _) _ _ _
    have lp := rp.length
    rw [List.length_map, List.length_take] at lp
    refine wpAny_updateSeq ep rfl (wpAny_pure ⟨F.quiet_list_repr_loop _, ?_⟩) (by rw [List.size_toArray]; omega) (by rw [Array.size_push, List.size_toArray]; omega)
    have e1' : ((i : Int) + 1) = ((i + 1 : Nat) : Int) := by omega
    have e2' : bs + piled (ts.take i) + (r.length + 2) = bs + piled (ts.take (i + 1)) := by omega
    rw [e1', e2']
    have I3 := I2.lset (its' := ups ++ [.str r s2.toks]) (f := fun x => x.push (.str r s2.toks)) (t' := s2.toks + 1) hP2 ep (by simp) (ys := (ts.take (i + 1)).map V.str) (by
      rw [List.take_add_one, ht, List.map_append]
      exact rp.append (.cons ⟨_, rfl⟩ .nil)) (by rw [List.length_map, List.length_take]; omega)
    exact ih (i + 1) _ _ (by omega) hlt I3 (fun b o hb => by
      rw [upd_ne (fun z => by rw [z, hP] at hb; cases hb)]
      exact e2 _ _ (eb _ _ hb)) upd_same
end
end RPO
set_option Elab.async false
set_option linter.all false
set_option maxRecDepth 100000
set_option maxHeartbeats 4000000
namespace RPO
open PySem PySem.Spec PyProof.Rows L2
open Builtin Builtin.List
/-- things one by one -/
inductive RpAll (X : Cx) (n : Nat) (outs : List Addr) (H0 : Hp) : List V → List Str → Prop
  | nil : RpAll X n outs H0 [] []
  | cons {v : V} {t : Str} {vs : List V} {ts : List Str} : RpU X n outs H0 v t → RpAll X n outs H0 vs ts → RpAll X n outs H0 (v :: vs) (t :: ts)
theorem RpAll.len {X : Cx} {n : Nat} {outs : List Addr} {H0 : Hp} : ∀ {vs : List V} {ts : List Str}, RpAll X n outs H0 vs ts → ts.length = vs.length
  | _, _, .nil => rfl
  | _, _, .cons _ h => by rw [List.length_cons, List.length_cons, h.len]
theorem RpAll.get {X : Cx} {n : Nat} {outs : List Addr} {H0 : Hp} : ∀ {vs : List V} {ts : List Str}, RpAll X n outs H0 vs ts → ∀ (i : Nat) (x : V), vs[i]? = some x → ∃ t, ts[i]? = some t ∧ RpU X n outs H0 x t
  | _, _, .nil, _, _, h => by simp at h
  | _, _, .cons r h, 0, _, e => by
    simp at e
    subst e
    exact ⟨_, rfl, r⟩
  | _, _, .cons r h, i + 1, x, e => by
    obtain ⟨t, e1, e2⟩ := h.get i x (by simpa using e)
    exact ⟨t, by simpa using e1, e2⟩
section
variable {X : Cx} {n : Nat} {outs : List Addr} {H0 : Hp} {a : Addr} {xs : List V} {ts : List Str}
/-- what is asked of the end of a text -/
def Told (X : Cx) (pins : List (Addr × Obj)) (σ : L2.St) (H : Hp) (t : Str) (v : Value) (s' : Shared) : Prop := ∃ tk, v = .str t tk ∧ ∃ H', Inv X pins σ H' s' ∧ Ext H H'
theorem list_at {A : Around} {g : List Code} {bs : Nat} {pins : List (Addr × Obj)} {σ : L2.St} {s : Shared} {H : Hp} {Q : Value → Shared → Prop} (sb : Sub X (n + 1) A) (hg : A.guards = some g) (gd : Gd g outs) (I : Inv X pins σ H s) (ha : H a = some (.lst xs)) (na : a ∉ outs) (xe : Ex outs H0 H) (hx : xs ≠ [])
    (hT : RpAll X n (a :: outs) H0 xs ts) (hsz : bs + (listText ts).length ≤ sizeLine) (fin : ∀ v s', Told X pins σ H (listText ts) v s' → Q v s') :
    wpAny (model X.prog X.w) A.in1 (Builtin.listReprAt bs ⟨[.ref a], []⟩) (fun fin s' => match fin with | .done f => callEnd Q X.xe (.ok f) s' | .again c' => c'.quiet = true ∧ codeAny (model X.prog X.w) A c' (callEnd Q X.xe) s') (fun e s' => callEnd Q X.xe (.error e) s') s := by
  obtain ⟨_, its, m, rv, lv, e⟩ := I.lstM ha
  obtain ⟨y, l, rfl⟩ : ∃ y l, its = y :: l := by
    cases its with
    | nil =>
      have : xs.length = 0 := lv
      exact absurd (List.length_eq_zero_iff.mp this) hx
    | cons y l => exact ⟨y, l, rfl⟩
  refine wpAny_list_repr_head (A := A.in1) hg (fun v rest kw hm => listSameRef_of_ne ((gd.clear na) _ _ _ _ hm)) e rfl ?_
  refine wpAny_bind (m := newList []) (wpAny_newObj_type ?_)
  refine wpAny_pure ⟨F.quiet_list_repr_loop _, ?_⟩
  have I1 := I.lnew (its := []) (ys := []) (t' := s.toks) .nil (Nat.zero_le _)
  have hn := I.fresh
  exact list_loop (n := n) (Hb := H) (R := callEnd Q X.xe) sb hg gd ha hn xe hT.len hT.get hsz (fun _ _ h => h) (fun s' H' u I' e' => fin _ _ ⟨u, rfl, H', I', e'⟩) _ 0 _ _ rfl (Nat.zero_le _) I1 (Ext.upd hn) upd_same
theorem RpU.list (ha : H0 a = some (.lst xs)) (na : a ∉ outs) (hx : xs ≠ []) (hT : RpAll X n (a :: outs) H0 xs ts) : RpU X (n + 1) outs H0 (.ref a) (listText ts) := fun A g pins s σ H u bs x sb hg gd I r hb => by
  cases (show u = Value.ref a from r)
  have ea := x a _ ha na
  obtain ⟨_, its, m, rv, lv, e⟩ := I.lstM ea
  refine wpAny_pyReprUnder_ref (by omega) (wpAny_pyReprObjUnder_twin (twin := "list.__repr__.under") ⟨_, e, rfl⟩ F.slot_list_repr.toG rfl sb.room.units0
    (call_twin_plain F.plain_list_repr_under F.entry_list_repr_under F.check_list_repr_under ⟨_, e, rfl⟩ F.slot_list_repr.toG (F.args_list_repr_1 _) (list_at sb hg gd I ea na x hx hT hb fun v s' h => ?_)))
  obtain ⟨tk, rfl, h⟩ := h
  exact ⟨⟨_, _, rfl⟩, _, _, rfl, rfl, h⟩
theorem RpU.list0 (ha : H0 a = some (.lst [])) (na : a ∉ outs) : RpU X n outs H0 (.ref a) "[]" := fun A g pins s σ H u bs x sb hg gd I r hb => by
  cases (show u = Value.ref a from r)
  have ea := x a _ ha na
  obtain ⟨_, its, m, rv, lv, e⟩ := I.lstM ea
  obtain rfl : its = [] := List.length_eq_zero_iff.mp lv.symm
  exact wpAny_pyReprUnder_ref (by omega) (wpAny_pyReprObjUnder_list_empty ⟨_, e, rfl⟩ sb.room.units0 e rfl ⟨_, _, rfl, rfl, H, I.tok _, Ext.rfl'⟩)
theorem tup_fold {A : Around} {g : List Code} {pins : List (Addr × Obj)} {σ : L2.St} {Hb : Hp} {Q : (Array Str × Nat) → Shared → Prop} (sb : Sub X n A) (hg : A.guards = some g) (gd : Gd g (a :: outs)) (xe : Ex outs H0 Hb) :
    ∀ {vs : List V} {ts : List Str}, RpAll X n (a :: outs) H0 vs ts → ∀ (us : List Value) (acc : Array Str) (m : Nat) (s : Shared) (H : Hp), Vals vs us → m + piled ts ≤ sizeLine → Inv X pins σ H s → Ext Hb H →
      (∀ s' H', Inv X pins σ H' s' → Ext Hb H' → Q ⟨acc ++ ts.toArray, m + piled ts⟩ s') → wpAny (model X.prog X.w) A (forIn us (⟨acc, m⟩ : (Array Str × Nat)) tupBody) Q X.xe s := by
  intro vs ts h
  induction h with
  | nil =>
    intro us acc m s H rv hm I eb fin
    cases rv
    have h0 := fin s H I eb
    simp only [List.forIn_nil]
    exact wpAny_pure (by simpa [piled] using h0)
  | @cons v t vs ts hr hl ih =>
    intro us acc m s H rv hm I eb fin
    cases rv with
    | @cons _ u _ us r rv =>
      rw [piled_cons] at hm
      rw [List.forIn_cons]
      refine wpAny_bind (wpAny_bind (wpAny_mono (hr A g pins s σ H u (m + 1) (xe.ext eb).more sb hg gd I r (by omega)) (fun r' s2 h2 => ?_) fun _ _ x => x))
      obtain ⟨rfl, H2, I2, e2⟩ := h2
      refine wpAny_pure ?_
      refine ih us (acc.push r') (m + (r'.length + 2)) s2 H2 rv (by omega) I2 (eb.trans e2) fun s' H' I' e' => ?_
      have h1 := fin s' H' I' e'
      have e : m + piled (r' :: ts) = m + (r'.length + 2) + piled ts := by rw [piled_cons]; omega
      rw [e] at h1
      simpa using h1
theorem tup_at {A : Around} {g : List Code} {bs : Nat} {pins : List (Addr × Obj)} {σ : L2.St} {s : Shared} {H : Hp} {Q : Value → Shared → Prop} {id : String} {rest : List Value} (hcg : (Code.builtin id ⟨.ref a :: rest, []⟩).isGuard = true) (sb : Sub X n (A.under (.builtin id ⟨.ref a :: rest, []⟩)))
    (hg : A.guards = some g) (gd : Gd g outs) (I : Inv X pins σ H s) (ha : H a = some (.tup xs)) (na : a ∉ outs) (xe : Ex outs H0 H) (hT : RpAll X n (a :: outs) H0 xs ts) (hsz : bs + (tupleText ts).length ≤ sizeLine) (fin : ∀ v s', Told X pins σ H (tupleText ts) v s' → Q v s') :
    wpOwn (model X.prog X.w) A (.builtin id ⟨.ref a :: rest, []⟩) (Builtin.tupleReprAt bs ⟨[.ref a], []⟩) (fun fin s' => match fin with | .done f => callEnd Q X.xe (.ok f) s' | .again c' => c'.quiet = true ∧ codeAny (model X.prog X.w) A c' (callEnd Q X.xe) s') (fun e s' => callEnd Q X.xe (.error e) s') s := by
  obtain ⟨its, rv, ⟨o, ho, hc, m, hd⟩, hz⟩ := I.tuple (SqT.of (K := X.K) ha)
  have hca : Clear g a := gd.clear na
  have hlen : ts.length = its.length := hT.len.trans rv.length
  have hp := piled_le_tupleText ts
  have hsz0 : (tupleText ts).length ≤ sizeLine := by omega
  rw [tuple_repr_tree, tupleReprUnderWay_eq]
  refine wpOwn_bind (wpOwn_stackTailAny hg (tupGuardF_off _) (tupGuardF_pos _) ?_)
  have hn : (g.any fun c => tupGuardF (.ref a) (c, default)) = false := by
    rw [List.any_eq_false]
    intro c hcm
    rw [tupGuardF_of_clear hca c hcm]
    exact Bool.false_ne_true
  rw [hn]
  refine wpOwn_of_wpAny ?_
  show wpAny _ _ (tupleReprRest bs (.ref a)) _ _ s
  unfold tupleReprRest Builtin.Tuple.tupleItemsOf
  refine wpAny_bind (wpAny_bind (wpAny_seqItems ho hd (wpAny_pure ?_)))
  rw [← Array.forIn_toList]
  refine wpAny_bind (tup_fold (Hb := H) sb (guards_under_guard hcg hg) gd.cons xe hT _ _ _ s H (by simpa using rv) (by omega) I Ext.rfl' fun s' H' I' e' => ?_)
  refine wpAny_bind (wpAny_mkStr (wpAny_pure ?_) (by simpa [tupleText, hlen] using hsz0))
  have h1 := fin (.str (tupleText ts) s'.toks) { s' with toks := s'.toks + 1 } ⟨_, rfl, H', I'.tok _, e'⟩
  simpa [tupleText, hlen] using h1
theorem sub_code {A : Around} {id : String} {args : Args} (h : Sub X (n + 1) A) (hw : (Code.builtin id args).weight ≤ 1) (he : (Code.builtin id args).envs = []) (hu : (A.under (.builtin id args)).units = A.units + 1) : Sub X n (A.under (.builtin id args)) := by
  have e2 : (A.under (.builtin id args)).frames = pushEnvs (Code.envs (.builtin id args)) A.frames := by first | rfl | simp [Around.under]
  have hf : (A.under (.builtin id args)).frames = A.frames := by
    rw [e2, he]
    cases A.frames <;> first | rfl | simp [pushEnvs]
  have hd : (A.under (.builtin id args)).depth = A.depth + (Code.builtin id args).weight := by first | rfl | simp [Around.under]
  obtain ⟨⟨h1, h2, h3⟩, h4⟩ := h
  exact ⟨⟨h1, by omega, by rw [hu]; omega⟩, hf.trans h4⟩
theorem w_tup {args : Args} : (Code.builtin "tuple.__repr__" args).weight ≤ 1 := by
  first | exact Nat.le_refl _ | simp [Code.weight, Code.isCreation, Code.isGuard, Code.isCaller, Code.frames, Code.isFrame, guardIds]
theorem w_tupU {args : Args} : (Code.builtin "tuple.__repr__.under" args).weight ≤ 1 := by
  first | exact Nat.le_refl _ | simp [Code.weight, Code.isCreation, Code.isGuard, Code.isCaller, Code.frames, Code.isFrame, guardIds]
theorem e_b {id : String} {args : Args} (h : (Code.builtin id args).isFrame = false := by rfl) : (Code.builtin id args).envs = [] := by simp [Code.envs, h]
theorem RpU.tup (ha : H0 a = some (.tup xs)) (na : a ∉ outs) (hT : RpAll X n (a :: outs) H0 xs ts) : RpU X (n + 1) outs H0 (.ref a) (tupleText ts) := fun A g pins s σ H u bs x sb hg gd I r hb => by
  cases (show u = Value.ref a from r)
  have ea := x a _ ha na
  obtain ⟨its, rv, ⟨o, ho, hc, m, hd⟩, hz⟩ := I.tuple (SqT.of (K := X.K) ea)
  refine wpAny_pyReprUnder_ref (by omega) (wpAny_pyReprObjUnder_twin (twin := "tuple.__repr__.under") ⟨o, ho, hc⟩ F.slot_tuple_repr rfl sb.room.units0
    (call_twin_own (F.quiet_tuple_repr_under _) F.entry_tuple_repr_under F.check_tuple_repr_under ⟨o, ho, hc⟩ F.slot_tuple_repr (F.args_tuple_repr_1 _)
      (tup_at (isGuard_tuple_repr_under _) (sub_code sb w_tupU e_b (units_under_tuple_repr_under _ _)) hg gd I ea na x hT hb fun v s' h => ?_)))
  obtain ⟨tk, rfl, h⟩ := h
  exact ⟨⟨_, _, rfl⟩, _, _, rfl, rfl, h⟩
/-- repr of a tuple, where no repr is under way -/
def rReprT (X : Cx) (n : Nat) : List V → Hp → VK → Prop := fun ys H Q => ∃ (a : Addr) (xs : List V) (ts : List Str), ys = [.ref a] ∧ H a = some (.tup xs) ∧ RpAll X n [a] H xs ts ∧ (tupleText ts).length ≤ sizeLine ∧ ∀ H', Ext H H' → Q (.str (tupleText ts)) H'
theorem call_reprT (hgd : X.A.guards = some []) (hr : Room (n + 2) X.A) : CallR X (.builtin "repr") (rReprT X n) := by
  intro pins s σ H ys us Q I r h
  obtain ⟨a, xs, ts, rfl, ea, hT, hb, q⟩ := h
  obtain ⟨u, rfl, ru⟩ := r.one
  cases (show u = Value.ref a from ru)
  obtain ⟨its, rv, ⟨o, ho, hc, m, hd⟩, hz⟩ := I.tuple (SqT.of (K := X.K) ea)
  have sb : Sub X (n + 1) X.A.in1 := ⟨hr.in1, rfl⟩
  refine call_repr_slot (by have := hr.un; omega) ⟨o, ho, hc⟩ F.slot_tuple_repr ?_
  refine wpAny_call (codeAny_call_builtin_own (Code.quiet_builtin _ (by decide +kernel)) F.entry_tuple_repr (F.slot_tuple_repr.check _ _ _ _ _ _ _ _ ⟨o, ho, hc⟩ (F.args_tuple_repr_1 _)
    (tup_at (outs := []) (H0 := H) (bs := 0) (isGuard_tuple_repr _) (sub_code sb w_tup e_b (units_under_tuple_repr _ _)) hgd Gd.nil I ea (by simp) (Ex.refl _ _) hT (by omega) fun v s' h => ?_)))
  obtain ⟨tk, rfl, H', I', e⟩ := h
  exact ⟨_, _, rfl, .str _, H', I', ⟨_, rfl⟩, q H' e⟩
end
end RPO
set_option Elab.async false
set_option linter.all false
set_option maxRecDepth 100000
set_option maxHeartbeats 4000000
namespace RPO
open PySem PySem.Spec PyProof.Rows L2
open Builtin Builtin.List
/-- what the entries of a dict show as -/
inductive RpEnt (X : Cx) (n : Nat) (outs : List Addr) (H0 : Hp) : List (Key × V) → List Str → Prop
  | nil : RpEnt X n outs H0 [] []
  | cons {k : Key} {v : V} {tk tv : Str} {kvs : List (Key × V)} {ps : List Str} : RpU X n outs H0 (kV k) tk → RpU X n outs H0 v tv → RpEnt X n outs H0 kvs ps → RpEnt X n outs H0 ((k, v) :: kvs) ((tk ++ ": " ++ tv) :: ps)
section
variable {X : Cx} {n : Nat} {outs : List Addr} {H0 : Hp} {a : Addr} {kvs : List (Key × V)} {ps : List Str}
theorem RpEnt.len : ∀ {kvs : List (Key × V)} {ps : List Str}, RpEnt X n outs H0 kvs ps → ps.length = kvs.length
  | _, _, .nil => rfl
  | _, _, .cons _ _ h => by rw [List.length_cons, List.length_cons, h.len]
theorem RpEnt.get : ∀ {kvs : List (Key × V)} {ps : List Str}, RpEnt X n outs H0 kvs ps → ∀ (i : Nat) (e : Key × V), kvs[i]? = some e → ∃ tk tv : Str, ps[i]? = some (tk ++ ": " ++ tv) ∧ RpU X n outs H0 (kV e.1) tk ∧ RpU X n outs H0 e.2 tv
  | _, _, .nil, _, _, h => by simp at h
  | _, _, .cons r1 r2 h, 0, _, e => by
    simp at e
    subst e
    exact ⟨_, _, rfl, r1, r2⟩
  | _, _, .cons _ _ h, i + 1, x, e => by
    obtain ⟨t1, t2, e1, e2⟩ := h.get i x (by simpa using e)
    exact ⟨t1, t2, by simpa using e1, e2⟩
theorem pairs_at {P : Program} {w : World} : ∀ {es : List DictEntry} {vs : List (Key × Value)}, Pairs (mixKind P w) es vs → ∀ (i : Nat) (kv : Key × Value), vs[i]? = some kv → ∃ e, es[i]? = some e ∧ (mixKind P w).is kv.1 e.key = true ∧ e.val = kv.2
  | _, _, .nil, _, _, h => by simp at h
  | _, _, .cons h1 h2 h, 0, _, e => by
    simp at e
    subst e
    exact ⟨_, rfl, h1, h2⟩
  | _, _, .cons _ _ h, i + 1, kv, e => by
    obtain ⟨en, e1, e2⟩ := pairs_at h i kv (by simpa using e)
    exact ⟨en, by simpa using e1, e2⟩
theorem key_rel {k : Key} {v : Value} (h : keyIs k v = true) : RelV (kV k) v := by
  rcases keyIs_shape h with ⟨i, t, rfl, rfl⟩ | ⟨x, t, rfl, rfl⟩
  · exact ⟨_, rfl⟩
  · exact ⟨_, rfl⟩
theorem kv_at : ∀ {ks : List (Key × V)} {va : List (Key × Value)}, KV ks va → ∀ (i : Nat) (e : Key × V), ks[i]? = some e → ∃ u : Key × Value, va[i]? = some u ∧ e.1 = u.1 ∧ RelV e.2 u.2
  | _, _, .nil, _, _, h => by simp at h
  | _, _, .cons r h, 0, _, e => by
    simp at e
    subst e
    exact ⟨_, rfl, r.1, r.2⟩
  | _, _, .cons _ h, i + 1, x, e => by
    obtain ⟨u, e1, e2⟩ := kv_at h i x (by simpa using e)
    exact ⟨u, by simpa using e1, e2⟩
/-- the entries of a locked dict -/
theorem entry_of {pins : List (Addr × Obj)} {σ : L2.St} {s : Shared} {H : Hp} {o : Obj} (I : Inv X pins σ H s) (h : H a = some (.frz o (.dK kvs))) {es : Array DictEntry} {ep : Nat} (hd : o.data = .dict es ep) (i : Nat) (hi : i < kvs.length) :
    ∃ e, es[i]? = some e ∧ RelV (kV kvs[i].1) e.key ∧ RelV kvs[i].2 e.val := by
  obtain ⟨_, hg, _, es', ep', vs, hd', hs, kv, o2, es2, g2, x2, d2, k2, p2, _⟩ := I.frzK h
  rw [hg] at g2
  cases g2
  rw [hd] at d2
  cases d2
  obtain ⟨u, e1, e2, e3⟩ := kv_at kv i kvs[i] (List.getElem?_eq_getElem hi)
  obtain ⟨e, f1, f2, f3⟩ := pairs_at p2 i u e1
  refine ⟨e, by simpa using f1, ?_, by rw [f3]; exact e3⟩
  rw [e2]
  exact key_rel f2
theorem dct_at {A : Around} {g : List Code} {bs : Nat} {pins : List (Addr × Obj)} {σ : L2.St} {s : Shared} {H : Hp} {Q : Value → Shared → Prop} {id : String} {rest : List Value} (hcg : (Code.builtin id ⟨.ref a :: rest, []⟩).isGuard = true) (sb : Sub X n (A.under (.builtin id ⟨.ref a :: rest, []⟩)))
    (hg : A.guards = some g) (gd : Gd g outs) (I : Inv X pins σ H s) (ha : H a = some (.dK kvs)) (na : a ∉ outs) (xe : Ex outs H0 H) (hT : RpEnt X n (a :: outs) H0 kvs ps) (hsz : bs + (dictText ps).length ≤ sizeLine) (fin : ∀ v s', Told X pins σ H (dictText ps) v s' → Q v s') :
    wpOwn (model X.prog X.w) A (.builtin id ⟨.ref a :: rest, []⟩) (Builtin.dictReprAt bs ⟨[.ref a], []⟩) (fun fin s' => match fin with | .done f => callEnd Q X.xe (.ok f) s' | .again c' => c'.quiet = true ∧ codeAny (model X.prog X.w) A c' (callEnd Q X.xe) s') (fun e s' => callEnd Q X.xe (.error e) s') s := by
  have mu : Mut (some (HO.dK kvs)) := trivial
  have nf := I.nofrz ha mu
  obtain ⟨o, I1⟩ := I.lock ha mu
  have e1 : (upd H a (.frz o (.dK kvs))) a = some (.frz o (.dK kvs)) := upd_same
  have x1 : Ex (a :: outs) H0 (upd H a (.frz o (.dK kvs))) := fun b u e nb => by
    rw [upd_ne fun z => nb (by rw [z]; exact List.mem_cons_self)]
    exact xe b u e fun z => nb (List.mem_cons_of_mem _ z)
  have back : ∀ {H' : Hp} {s' : Shared}, Inv X pins σ H' s' → Ext (upd H a (.frz o (.dK kvs))) H' → ∃ H2, Inv X pins σ H2 s' ∧ Ext H H2 := fun {H' s'} I' e' => by
    refine ⟨_, I'.unlock (e' _ _ e1) nf, fun b u e => ?_⟩
    by_cases hb : b = a
    · subst hb
      rw [upd_same, ← e, ha]
    · rw [upd_ne hb]
      refine e' _ _ ?_
      rw [upd_ne hb]
      exact e
  generalize upd H a (.frz o (.dK kvs)) = H1 at I1 e1 x1 back
  obtain ⟨hsys, hget, hex, es, ep, vs, hd, hsize, _, _⟩ := I1.frzK e1
  have got : ∀ {H' : Hp} {s' : Shared}, Inv X pins σ H' s' → Ext H1 H' → s'.heap.get? a = some o := fun I' e' => (I'.frzK (e' _ _ e1)).2.1
  have hTy : s.TypeIs (.ref a) "dict" := ⟨o, hget, hex.1⟩
  have hca : Clear g a := gd.clear na
  have hlen : ps.length = es.size := hT.len.trans hsize.symm
  have hp3 := piled_le_dictText ps
  have hsz0 : (dictText ps).length ≤ sizeLine := by omega
  unfold Builtin.dictReprAt
  refine wpOwn_bind (wpOwn_of_wpAny ?_)
  unfold Builtin.Dict.dictSlotNone
  refine wpAny_bind (wpAny_notOrdered_dict hTy ?_)
  show wpAny _ _ (pure (Value.ref a)) _ _ s
  refine wpAny_pure ?_
  rw [dictReprRunning_eq]
  refine wpOwn_bind (wpOwn_stackTailAny hg (dictGuardF_off _) (dictGuardF_pos _) ?_)
  have hn : (g.any fun c => dictGuardF (.ref a) (c, default)) = false := by
    rw [List.any_eq_false]
    intro c hcm
    rw [dictGuardF_of_clear hca c hcm]
    exact Bool.false_ne_true
  rw [hn]
  refine wpOwn_of_wpAny ?_
  have hg' := guards_under_guard hcg hg
  show wpAny _ _ (Builtin.Dict.addrOf (.ref a) >>= _) _ _ s
  refine wpAny_bind (wpAny_pure ?_)
  show wpAny _ _ (Builtin.Dict.showsAll a >>= _) _ _ s
  unfold Builtin.Dict.showsAll
  rw [if_neg (by rw [hsys]; exact Bool.false_ne_true)]
  refine wpAny_bind (wpAny_pure ?_)
  refine wpAny_bind (wpAny_dictEpoch hget hd ?_)
  refine wpAny_bind (wpAny_dictEntries hget hd ?_)
  refine wpAny_bind ?_
  rw [Std.Legacy.Range.forIn_eq_forIn_range']
  simp only [Std.Legacy.Range.size, Nat.sub_zero, Nat.add_sub_cancel, Nat.div_one]
  refine wpAny_forIn_list _
    (fun rest' r s' => ∃ i H', rest' = List.range' i (es.size - i) ∧ i ≤ es.size ∧ r = (⟨(ps.take i).toArray, bs + piled (ps.take i)⟩ : (Array Str × Nat)) ∧ Inv X pins σ H' s' ∧ Ext H1 H')
    _ ?_ ?_ _ _ ⟨0, H1, by simp, Nat.zero_le _, by simp [piled], I1, Ext.rfl'⟩
  · rintro x rest' _ s' ⟨i, H', hr, hi, rfl, I', e'⟩
    have hlt : i < es.size := by
      rcases Nat.lt_or_ge i es.size with h | h
      · exact h
      · rw [Nat.sub_eq_zero_of_le h] at hr; simp at hr
    obtain ⟨rfl, hrest⟩ : x = i ∧ rest' = List.range' (i + 1) (es.size - (i + 1)) := by
      have e : es.size - i = (es.size - (i + 1)) + 1 := by omega
      rw [e, List.range'_succ] at hr
      injection hr with h1 h2
      exact ⟨h1, h2⟩
    have hx2 : x < kvs.length := by omega
    obtain ⟨tk, tv, hp, rk, rv⟩ := hT.get x kvs[x] (List.getElem?_eq_getElem hx2)
    obtain ⟨en, f1, f2, f3⟩ := entry_of I' (e' _ _ e1) hd x hx2
    have hpl : (tk ++ ": " ++ tv).length = tk.length + 2 + tv.length := by
      rw [strLen_append, strLen_append]; rfl
    have hp1 := piled_take_succ hp
    have hp2 := piled_take_le ps (x + 1)
    rw [hpl] at hp1
    refine wpAny_bind (wpAny_dictEntries (got I' e') hd ?_)
    rw [f1]
    refine wpAny_bind (wpAny_holding (wpAny_bind (wpAny_mono (rk _ _ pins s' σ H' en.key (bs + piled (ps.take x) + 1) (x1.ext e') sb hg' gd.cons I' f2 (by omega)) (fun r2 s2 h2 => ?_) fun _ _ z => z)))
    obtain ⟨rfl, H2, I2, e2⟩ := h2
    refine wpAny_bind (wpAny_mono (rv _ _ pins s2 σ H2 en.val (bs + piled (ps.take x) + (r2.length + 3)) (x1.ext (e'.trans e2)) sb hg' gd.cons I2 f3 (by omega)) (fun r3 s3 h3 => ?_) fun _ _ z => z)
    obtain ⟨rfl, H3, I3, e3⟩ := h3
    have e13 := (e'.trans e2).trans e3
    refine wpAny_pure ?_
    refine wpAny_bind (wpAny_dictEpoch (got I3 e13) hd ?_)
    rw [if_neg (by simp)]
    have g1 : (ps.take x).toArray.push (r2 ++ ": " ++ r3) = (ps.take (x + 1)).toArray := by
      rw [List.take_add_one, hp]
      simp
    have g2 : bs + piled (ps.take x) + (r2.length + r3.length + 4) = bs + piled (ps.take (x + 1)) := by omega
    refine wpAny_pure ⟨x + 1, H3, hrest, hlt, ?_, I3, e13⟩
    rw [g1, g2]
  · rintro _ s' ⟨i, H', hr, hi, rfl, I', e'⟩
    have hin : i = es.size := by
      rcases Nat.lt_or_ge i es.size with h | h
      · have e : es.size - i = (es.size - (i + 1)) + 1 := by omega
        rw [e, List.range'_succ] at hr; exact nomatch hr
      · exact Nat.le_antisymm hi h
    rw [hin, ← hlen, List.take_length]
    refine wpAny_bind (wpAny_mkStr (wpAny_pure ?_) (by simpa [dictText] using hsz0))
    have h1 := fin (.str (dictText ps) s'.toks) { s' with toks := s'.toks + 1 } ⟨_, rfl, back (I'.tok _) e'⟩
    simpa [dictText] using h1
theorem w_dct {args : Args} : (Code.builtin "dict.__repr__" args).weight ≤ 1 := by
  first | exact Nat.le_refl _ | simp [Code.weight, Code.isCreation, Code.isGuard, Code.isCaller, Code.frames, Code.isFrame, guardIds]
theorem w_dctU {args : Args} : (Code.builtin "dict.__repr__.under" args).weight ≤ 1 := by
  first | exact Nat.le_refl _ | simp [Code.weight, Code.isCreation, Code.isGuard, Code.isCaller, Code.frames, Code.isFrame, guardIds]
theorem RpU.dct (ha : H0 a = some (.dK kvs)) (na : a ∉ outs) (hT : RpEnt X n (a :: outs) H0 kvs ps) : RpU X (n + 1) outs H0 (.ref a) (dictText ps) := fun A g pins s σ H u bs x sb hg gd I r hb => by
  cases (show u = Value.ref a from r)
  have ea := x a _ ha na
  have mu : Mut (some (HO.dK kvs)) := trivial
  obtain ⟨o, I1⟩ := I.lock ea mu
  obtain ⟨_, hget, hex, _⟩ := I1.frzK (upd_same : (upd H a (.frz o (.dK kvs))) a = _)
  refine wpAny_pyReprUnder_ref (by omega) (wpAny_pyReprObjUnder_twin (twin := "dict.__repr__.under") ⟨o, hget, hex.1⟩ F.slot_dict_repr rfl sb.room.units0
    (call_twin_own (F.quiet_dict_repr_under _) F.entry_dict_repr_under F.check_dict_repr_under ⟨o, hget, hex.1⟩ F.slot_dict_repr (F.args_dict_repr_1 _)
      (dct_at (isGuard_dict_repr_under _) (sub_code sb w_dctU e_b (units_under_dict_repr_under _ _)) hg gd I ea na x hT hb fun v s' h => ?_)))
  obtain ⟨tk, rfl, h⟩ := h
  exact ⟨⟨_, _, rfl⟩, _, _, rfl, rfl, h⟩
/-- repr of a list, of a dict, where no repr is under way -/
def rReprL (X : Cx) (n : Nat) : List V → Hp → VK → Prop := fun ys H Q => ∃ (a : Addr) (xs : List V) (ts : List Str), ys = [.ref a] ∧ H a = some (.lst xs) ∧ xs ≠ [] ∧ RpAll X n [a] H xs ts ∧ (listText ts).length ≤ sizeLine ∧ ∀ H', Ext H H' → Q (.str (listText ts)) H'
theorem call_reprL (hgd : X.A.guards = some []) (hr : Room (n + 2) X.A) : CallR X (.builtin "repr") (rReprL X n) := by
  intro pins s σ H ys us Q I r h
  obtain ⟨a, xs, ts, rfl, ea, hx, hT, hb, q⟩ := h
  obtain ⟨u, rfl, ru⟩ := r.one
  cases (show u = Value.ref a from ru)
  obtain ⟨_, its, m, rv, lv, e⟩ := I.lstM ea
  have sb : Sub X (n + 1) X.A.in1 := ⟨hr.in1, rfl⟩
  refine call_repr_slot (by have := hr.un; omega) ⟨_, e, rfl⟩ F.slot_list_repr.toG ?_
  refine wpAny_call (codeAny_call_builtin F.slot_list_repr.plain F.entry_list_repr (F.slot_list_repr.check _ _ _ _ _ _ _ _ ⟨_, e, rfl⟩ (F.args_list_repr_1 _)
    (list_at (outs := []) (H0 := H) (bs := 0) sb hgd Gd.nil I ea (by simp) (Ex.refl _ _) hx hT (by omega) fun v s' h => ?_)))
  obtain ⟨tk, rfl, H', I', e⟩ := h
  exact ⟨_, _, rfl, .str _, H', I', ⟨_, rfl⟩, q H' e⟩
def rReprDc (X : Cx) (n : Nat) : List V → Hp → VK → Prop := fun ys H Q => ∃ (a : Addr) (kvs : List (Key × V)) (ps : List Str), ys = [.ref a] ∧ H a = some (.dK kvs) ∧ RpEnt X n [a] H kvs ps ∧ (dictText ps).length ≤ sizeLine ∧ ∀ H', Ext H H' → Q (.str (dictText ps)) H'
theorem call_reprDc (hgd : X.A.guards = some []) (hr : Room (n + 2) X.A) : CallR X (.builtin "repr") (rReprDc X n) := by
  intro pins s σ H ys us Q I r h
  obtain ⟨a, kvs, ps, rfl, ea, hT, hb, q⟩ := h
  obtain ⟨u, rfl, ru⟩ := r.one
  cases (show u = Value.ref a from ru)
  have mu : Mut (some (HO.dK kvs)) := trivial
  obtain ⟨o, I1⟩ := I.lock ea mu
  obtain ⟨_, hget, hex, _⟩ := I1.frzK (upd_same : (upd H a (.frz o (.dK kvs))) a = _)
  have sb : Sub X (n + 1) X.A.in1 := ⟨hr.in1, rfl⟩
  refine call_repr_slot (by have := hr.un; omega) ⟨o, hget, hex.1⟩ F.slot_dict_repr ?_
  refine wpAny_call (codeAny_call_builtin_own (Code.quiet_builtin _ (by decide +kernel)) F.entry_dict_repr (F.slot_dict_repr.check _ _ _ _ _ _ _ _ ⟨o, hget, hex.1⟩ (F.args_dict_repr_1 _)
    (dct_at (outs := []) (H0 := H) (bs := 0) (isGuard_dict_repr _) (sub_code sb w_dct e_b (units_under_dict_repr _ _)) hgd Gd.nil I ea (by simp) (Ex.refl _ _) hT (by omega) fun v s' h => ?_)))
  obtain ⟨tk, rfl, H', I', e⟩ := h
  exact ⟨_, _, rfl, .str _, H', I', ⟨_, rfl⟩, q H' e⟩
end
end RPO
set_option Elab.async false
set_option linter.all false
set_option maxRecDepth 100000
set_option maxHeartbeats 4000000
namespace K52
open PySem PySem.Spec PyProof.Rows L2
open C8 (Cal Mak Met pe_c pe_mk pe_mt pe_mt0)
open KM (pr Sz)
theorem take_one {α : Type} {l : List α} {i : Nat} {x : α} (h : l[i]? = some x) : l.take (i + 1) = l.take i ++ [x] := by rw [List.take_succ, h]; rfl
theorem line_of {n : Nat} (h : n ≤ 100000) : n ≤ sizeLine := by have := sizeLine_eq; omega
theorem line_lt {n : Nat} (h : n ≤ 100000) : n < sizeLine := by have := sizeLine_eq; omega
/-! ### dicts by names -/
def dctO (l : List Str) (g : Str → V) : HO := .dK (l.map fun x => ((Sum.inr x : Key), g x))
/-- a dict of Shares -/
def SDc (C : Addr) (H : Hp) (d : Addr) (L : List Str) (c : Str → Rat) : Prop := ∃ ad : Str → Addr, H d = some (dctO L fun x => .ref (ad x)) ∧ ∀ x ∈ L, Sh C H (ad x) (pr (c x))
/-- a dict of fractions -/
def TDc (H : Hp) (d : Addr) (L : List Str) (c : Str → Rat) : Prop := ∃ ad : Str → Addr, H d = some (dctO L fun x => .ref (ad x)) ∧ ∀ x ∈ L, H (ad x) = some (tupP (pr (c x)))
theorem SDc.same {C : Addr} {H H' : Hp} {d : Addr} {L : List Str} {c : Str → Rat} (h : SDc C H d L c) (s : Same H H') : SDc C H' d L c := by
  obtain ⟨ad, h1, h2⟩ := h
  exact ⟨ad, s _ _ h1, fun x hx => (h2 x hx).keep s⟩
theorem TDc.same {H H' : Hp} {d : Addr} {L : List Str} {c : Str → Rat} (h : TDc H d L c) (s : Same H H') : TDc H' d L c := by
  obtain ⟨ad, h1, h2⟩ := h
  exact ⟨ad, s _ _ h1, fun x hx => s _ _ (h2 x hx)⟩
/-! ### what is put -/
def addK (L : List Str) (x : Str) : List Str := if x ∈ L then L else L ++ [x]
def setc (c : Str → Rat) (x : Str) (v : Rat) : Str → Rat := fun y => if y = x then v else c y
def get0 (L : List Str) (c : Str → Rat) (x : Str) : Rat := if x ∈ L then c x else 0
def mv (u : List Str × (Str → Rat)) (m : Str × Rat) : List Str × (Str → Rat) := (addK u.1 m.1, setc u.2 m.1 (get0 u.1 u.2 m.1 + m.2))
def mvL (u : List Str × (Str → Rat)) (ms : List (Str × Rat)) : List Str × (Str → Rat) := ms.foldl mv u
theorem mvL_snoc (u : List Str × (Str → Rat)) (ms : List (Str × Rat)) (m : Str × Rat) : mvL u (ms ++ [m]) = mv (mvL u ms) m := by
  unfold mvL
  rw [List.foldl_append]
  rfl
theorem mvL_app (u : List Str × (Str → Rat)) (ms ns : List (Str × Rat)) : mvL u (ms ++ ns) = mvL (mvL u ms) ns := by
  unfold mvL
  rw [List.foldl_append]
theorem mem_addK {L : List Str} {x : Str} : x ∈ addK L x := by
  unfold addK
  split
  · assumption
  · exact List.mem_append_right _ (List.mem_singleton.mpr rfl)
theorem addK_sub {L : List Str} {x y : Str} (h : y ∈ addK L x) : y ∈ L ∨ y = x := by
  unfold addK at h
  split at h
  · exact .inl h
  · rcases List.mem_append.mp h with z | z
    · exact .inl z
    · exact .inr (List.mem_singleton.mp z)
theorem addK_len (L : List Str) (x : Str) : (addK L x).length ≤ L.length + 1 := by
  unfold addK
  split
  · omega
  · rw [List.length_append]
    exact Nat.le_refl _
theorem addK_nd {L : List Str} {x : Str} (h : L.Nodup) : (addK L x).Nodup := by
  unfold addK
  split
  · exact h
  · rename_i n
    rw [List.nodup_append]
    exact ⟨h, by simp, fun a ha b hb e => by
      rw [List.mem_singleton] at hb
      subst hb
      exact n (e ▸ ha)⟩
theorem mvL_len (ms : List (Str × Rat)) : ∀ u : List Str × (Str → Rat), (mvL u ms).1.length ≤ u.1.length + ms.length := by
  induction ms with
  | nil => intro u; exact Nat.le_refl _
  | cons m ms ih =>
    intro u
    have h1 := ih (mv u m)
    have h2 := addK_len u.1 m.1
    rw [List.length_cons]
    show (mvL (mv u m) ms).1.length ≤ _
    have : (mv u m).1.length ≤ u.1.length + 1 := h2
    omega
theorem mvL_nd (ms : List (Str × Rat)) : ∀ u : List Str × (Str → Rat), u.1.Nodup → (mvL u ms).1.Nodup := by
  induction ms with
  | nil => intro u h; exact h
  | cons m ms ih => intro u h; exact ih (mv u m) (addK_nd h)
/-- how great it gets -/
theorem mvL_sz {k : Nat} (ms : List (Str × Rat)) : ∀ (u : List Str × (Str → Rat)) (n : Nat), (∀ x, Sz n (get0 u.1 u.2 x)) → (∀ m ∈ ms, Sz k m.2) → ∀ x, Sz (n + (k + 1) * ms.length) (get0 (mvL u ms).1 (mvL u ms).2 x) := by
  induction ms with
  | nil => intro u n h _ x; exact h x
  | cons m ms ih =>
    intro u n h hm x
    have h1 : ∀ y, Sz (n + (k + 1)) (get0 (mv u m).1 (mv u m).2 y) := fun y => by
      unfold mv get0 setc
      dsimp only
      by_cases e : y = m.1
      · subst e
        rw [if_pos mem_addK, if_pos rfl]
        have := (KM.sz_plus (h m.1) (hm m List.mem_cons_self)).1
        exact this.mono (by omega)
      · rw [if_neg e]
        have : (y ∈ addK u.1 m.1) ↔ y ∈ u.1 := ⟨fun z => (addK_sub z).elim id fun z => absurd z e, fun z => by
          unfold addK
          split
          · exact z
          · exact List.mem_append_left _ z⟩
        have h2 := h y
        unfold get0 at h2
        simp only [this]
        exact h2.mono (by omega)
    have := ih (mv u m) (n + (k + 1)) h1 (fun m' hm' => hm m' (List.mem_cons_of_mem _ hm')) x
    refine this.mono ?_
    rw [List.length_cons, Nat.mul_add]
    omega
theorem put_dct {L : List Str} {ad : Str → Addr} {x : Str} {t : Addr} : putK (L.map fun y => ((Sum.inr y : Key), V.ref (ad y))) (Sum.inr x) (.ref t) = (addK L x).map fun y => ((Sum.inr y : Key), V.ref (if y = x then t else ad y)) := by
  unfold addK
  split
  · rename_i h
    rw [DQ.put_old (fun y => V.ref (ad y)) h]
    exact List.map_congr_left fun y _ => by by_cases e : y = x <;> simp [e]
  · rename_i h
    have e1 : (L.map fun y => ((Sum.inr y : Key), V.ref (ad y))) = L.map fun y => ((Sum.inr y : Key), V.ref (if y = x then t else ad y)) := List.map_congr_left fun y hy => by rw [if_neg (show ¬ y = x from fun e => h (e ▸ hy))]
    rw [e1]
    have e2 := DQ.put_new (fun y => V.ref (if y = x then t else ad y)) h
    rw [if_pos rfl] at e2
    exact e2
/-- a value put in, read -/
theorem val_dct {L : List Str} {ad : Str → Addr} (x : Str) : valV (L.map fun y => ((Sum.inr y : Key), V.ref (ad y))) (Sum.inr x) = if x ∈ L then some (.ref (ad x)) else none := by
  split
  · rename_i h
    exact DQ.val_map (fun y => V.ref (ad y)) h
  · rename_i h
    exact DQ.val_none (fun y => V.ref (ad y)) h
theorem _root_.K52.Sh.at_ne {C : Addr} {H : Hp} {p d : Addr} {q : Int × Int} {kvs : List (Key × V)} (h : Sh C H p q) (hd : H d = some (.dK kvs)) : p ≠ d := fun z => by
  obtain ⟨dx, e⟩ := h
  rw [z, hd] at e
  cases e
/-- the dict with one more put in -/
theorem SDc.put {C : Addr} {H : Hp} {d t : Addr} {L : List Str} {c : Str → Rat} {ad : Str → Addr} {x : Str} {v : Rat} (h1 : H d = some (dctO L fun y => .ref (ad y))) (h2 : ∀ y ∈ L, Sh C H (ad y) (pr (c y))) (ht : Sh C H t (pr v)) :
    SDc C (upd H d (.dK (putK (L.map fun y => ((Sum.inr y : Key), V.ref (ad y))) (Sum.inr x) (.ref t)))) d (addK L x) (setc c x v) := by
  rw [put_dct]
  refine ⟨fun y => if y = x then t else ad y, upd_same, fun y hy => ?_⟩
  have keep : ∀ {p : Addr} {q : Int × Int} {o : HO}, Sh C H p q → Sh C (upd H d o) p q := fun {p q o} hp => by
    have n := hp.at_ne h1
    obtain ⟨dx, e⟩ := hp
    exact ⟨dx, by rw [upd_ne n]; exact e⟩
  unfold setc
  dsimp only
  by_cases e : y = x
  · rw [if_pos e, if_pos e]
    exact keep ht
  · rw [if_neg e, if_neg e]
    exact keep (h2 y ((addK_sub hy).elim id fun z => absurd z e))
theorem TDc.put {H : Hp} {d t : Addr} {L : List Str} {c : Str → Rat} {ad : Str → Addr} {x : Str} {v : Rat} (h1 : H d = some (dctO L fun y => .ref (ad y))) (h2 : ∀ y ∈ L, H (ad y) = some (tupP (pr (c y)))) (ht : H t = some (tupP (pr v))) :
    TDc (upd H d (.dK (putK (L.map fun y => ((Sum.inr y : Key), V.ref (ad y))) (Sum.inr x) (.ref t)))) d (addK L x) (setc c x v) := by
  rw [put_dct]
  refine ⟨fun y => if y = x then t else ad y, upd_same, fun y hy => ?_⟩
  have keep : ∀ {p : Addr} {q : Int × Int} {o : HO}, H p = some (tupP q) → (upd H d o) p = some (tupP q) := fun {p q o} hp => by
    rw [upd_ne fun z => by rw [z, h1] at hp; cases hp]
    exact hp
  unfold setc
  dsimp only
  by_cases e : y = x
  · rw [if_pos e, if_pos e]
    exact keep ht
  · rw [if_neg e, if_neg e]
    exact keep (h2 y ((addK_sub hy).elim id fun z => absurd z e))
/-- a dict made by a walk -/
theorem dc_it {J : It} {n : Nat} {G : Hp → Prop} {Y : Nat → Hp → V → Hp → Prop} (w : Walk J n G Y) {g : TG} {tt : TT} {tk tv : TE} {vs : List Nat} {σ : L2.St} {H1 : Hp} {D : Addr} {Qd : Hp → Prop} (Pv : Nat → Hp → Prop) (h0 : Pv 0 (upd H1 D (.dK []))) (hG : ∀ i H, i ≤ n → Pv i H → G H)
    (hs : ∀ i x H H', i < n → Pv i H → Y i H x H' → g x (wipe σ vs) H' fun σ2 H2 => wipe σ2 vs = wipe σ vs ∧ tt σ2 H2 fun b H3 =>
      if b = true then tk σ2 H3 fun y H4 => tv σ2 H4 fun z H5 => ∃ kvs k, y = kV k ∧ H5 D = some (.dK kvs) ∧ kvs.length < sizeLine ∧ Pv (i + 1) (upd H5 D (.dK (putK kvs k z))) else Pv (i + 1) H3) (hd : ∀ H, Pv n H → Qd H) :
    ∃ W : Nat → Nat → Hp → Prop, (∃ m, W 0 m (upd H1 D (.dK []))) ∧ ∀ i m H, W i m H →
      (J.stop i H ∧ Qd H) ∨ (J.go i H ∧ ∃ Nx : Hp → Prop, (∀ H', Nx H' → ∃ m', m' < m ∧ W (i + 1) m' H') ∧ ∀ x H', J.yld i H x H' → g x (wipe σ vs) H' fun σ2 H2 => wipe σ2 vs = wipe σ vs ∧ tt σ2 H2 fun b H3 =>
        if b = true then tk σ2 H3 fun y H4 => tv σ2 H4 fun z H5 => ∃ kvs k, y = kV k ∧ H5 D = some (.dK kvs) ∧ kvs.length < sizeLine ∧ Nx (upd H5 D (.dK (putK kvs k z))) else Nx H3) := by
  refine ⟨fun i m H => m = n - i ∧ i ≤ n ∧ Pv i H, ⟨n, rfl, Nat.zero_le _, h0⟩, ?_⟩
  rintro i m H ⟨rfl, hi, p⟩
  by_cases hlt : i < n
  · exact .inr ⟨w.goes i H hlt (hG i H hi p), Pv (i + 1), fun H' p' => ⟨n - (i + 1), by omega, rfl, hlt, p'⟩, fun x H' y => hs i x H H' hlt p (w.yields i H x H' hlt (hG i H hi p) y)⟩
  · have e : i = n := by omega
    subst e
    exact .inl ⟨w.stops H (hG i H hi p), hd H p⟩
end K52
set_option Elab.async false
set_option linter.all false
set_option maxRecDepth 100000
set_option maxHeartbeats 4000000
/-! SDC: a dict comprehension assigned to a plain local on one line; a dict comprehension over a list. -/
namespace SDC
open PySem PySem.Spec PyProof.Rows L2
section
variable {X : Cx}
theorem ps_setDc {i : Nat} {y : Str} {py : Pos} {kx vx tg iter : Expr} {ifs : List Expr} {scope : Scope} {own : List (Str × Nat)} {pos spos : Pos} {wi : TI} {g : TG} {tt : TT} {tk tv : TE} (hc : X.calm = true) (hN : X.N.Nodup) (hy : X.N[i]? = some y) (hyl : X.env.scope.names.lookup y = some .local)
    (hsw : swapsWith (.DictComp kx vx [⟨tg, iter, ifs, 0⟩] scope pos) (some (.Name y py)) spos.line X.env = pure true) (hi : PI X tg iter wi) (ok : BlkOk X.N X.env.scope scope own)
    (hg : ∀ (s : Shared) (H : Hp) (C : Addr) (cl : List (Str × Addr)) (fp : List Addr), PG (X.blk s H scope (compEnvC scope cl C X.env) fp) tg g) (ht : ∀ (s : Shared) (H : Hp) (C : Addr) (cl : List (Str × Addr)) (fp : List Addr), PTs (X.blk s H scope (compEnvC scope cl C X.env) fp) ifs tt)
    (hk : ∀ (s : Shared) (H : Hp) (C : Addr) (cl : List (Str × Addr)) (fp : List Addr), PE (X.blk s H scope (compEnvC scope cl C X.env) fp) kx tk)
    (he : ∀ (s : Shared) (H : Hp) (C : Addr) (cl : List (Str × Addr)) (fp : List Addr), PE (X.blk s H scope (compEnvC scope cl C X.env) fp) vx tv) (hs : ∀ x, foldedSetIterable iter X.env x = pure x := by intro _; rfl) :
    PS X (.Assign [.Name y py] (.DictComp kx vx [⟨tg, iter, ifs, 0⟩] scope pos) spos) (tAsg (tDc wi g tt tk tv (own.map (·.2))) (gName i)) := by
  refine ⟨fun pins s σ H D I h => ?_⟩
  rw [exec_Assign_Name_used _ _ _ _ hsw]
  refine wpAny_bind (wpAny_standAt (wpAny_bind ?_))
  show wpAny _ X.A (do let _ ← comprehension (.DictComp kx vx [⟨tg, iter, ifs, 0⟩] scope pos) scope X.env (firstIterPos [⟨tg, iter, ifs, 0⟩] pos) newDict false (eval iter X.env) (some (assign (.Name y py) X.env))) _ _ s
  have h : tDc wi g tt tk tv (own.map (·.2)) σ H (fun x H1 => gName i x σ H1 D.nx) := h
  refine wpAny_bind (thn (dc_core (Qf := fun _ s' => SP X pins D .next s') hc hN I hi ok hg ht hk he hs h fun L C s' m H' I' q hn f => ?_) fun _ s' hq => wpAny_pure (wpAny_pure hq))
  show wpAny _ _ (assign (.Name y py) X.env (.ref L)) _ _ _
  refine wpAny_assign_Name (store_ok2 (v := V.ref L) I' hN hy (.inl hyl) rfl (fun s2 I2 ⟨a, sb, ha⟩ => ?_) (.inr hyl))
  obtain ⟨f0, f1, f2, f3, f4, f5⟩ := f
  have haC : C ≠ a := by
    rcases ha with z | z
    · rw [z]; exact f1
    · exact fun e => f4 y a z e.symm
  refine ⟨m, hn.sameBut sb haC, fun h3 sb3 => ?_⟩
  exact ⟨_, H', I2.turned (t' := s2.toks) (fun b o hb e => (sb3.2 b hb).trans e) f0 f1 f3 f4 f5, q⟩
theorem sw_true {kx vx : Expr} {gs : List Comprehension} {scope : Scope} {pos py : Pos} {y : Str} {l : Nat} {env : Env} (hk : env.scope.kind = .function) (hy : env.scope.names.lookup y = some .local) (hl : (py.line == pos.line) = true)
    (ha : (scope.names.any fun (n, k) => n == y && (k == .local || k == .cell)) = false) : swapsWith (.DictComp kx vx gs scope pos) (some (.Name y py)) l env = pure true := by
  have ky : env.kindOf y = some .local := hy
  have hb : env.blockKind = .function := by unfold Env.blockKind; rw [hk]; rfl
  unfold swapsWith
  simp only [hb, ky, ha, Expr.pos, hl]
  rfl
end
theorem dc_list {K : PySem.W.Frag} {a : Addr} {xs : List V} {g : TG} {tt : TT} {tk tv : TE} {vs : List Nat} {σ : L2.St} {H1 : Hp} {D : Addr} {Qd : Hp → Prop} (Pv : Nat → Hp → Prop) (h0 : Pv 0 (upd H1 D (.dK []))) (hl : ∀ i H, i ≤ xs.length → Pv i H → SqL K H a xs)
    (hs : ∀ i x H, xs[i]? = some x → Pv i H → g x (wipe σ vs) H fun σ2 H2 => wipe σ2 vs = wipe σ vs ∧ tt σ2 H2 fun b H3 =>
      if b = true then tk σ2 H3 fun y H4 => tv σ2 H4 fun z H5 => ∃ kvs k, y = kV k ∧ H5 D = some (.dK kvs) ∧ kvs.length < sizeLine ∧ Pv (i + 1) (upd H5 D (.dK (putK kvs k z))) else Pv (i + 1) H3) (hd : ∀ H, Pv xs.length H → Qd H) :
    ∃ W : Nat → Nat → Hp → Prop, (∃ m, W 0 m (upd H1 D (.dK []))) ∧ ∀ i m H, W i m H →
      ((Itl K a).stop i H ∧ Qd H) ∨ ((Itl K a).go i H ∧ ∃ Nx : Hp → Prop, (∀ H', Nx H' → ∃ m', m' < m ∧ W (i + 1) m' H') ∧ ∀ x H', (Itl K a).yld i H x H' → g x (wipe σ vs) H' fun σ2 H2 => wipe σ2 vs = wipe σ vs ∧ tt σ2 H2 fun b H3 =>
        if b = true then tk σ2 H3 fun y H4 => tv σ2 H4 fun z H5 => ∃ kvs k, y = kV k ∧ H5 D = some (.dK kvs) ∧ kvs.length < sizeLine ∧ Nx (upd H5 D (.dK (putK kvs k z))) else Nx H3) := by
  refine ⟨fun i m H => m = xs.length - i ∧ i ≤ xs.length ∧ Pv i H, ⟨xs.length, by simp, Nat.zero_le _, h0⟩, ?_⟩
  rintro i m H ⟨rfl, hi, p⟩
  have q := hl i H hi p
  by_cases hlt : i < xs.length
  · refine .inr ⟨⟨xs, xs[i], q, by simp [hlt]⟩, Pv (i + 1), fun H' p' => ⟨xs.length - (i + 1), by omega, rfl, hlt, p'⟩, fun x H' y => ?_⟩
    obtain ⟨e, y⟩ := y
    subst e
    exact hs i x _ (y xs q) p
  · have e : i = xs.length := by omega
    subst e
    exact .inl ⟨⟨xs, q, Nat.le_refl _⟩, hd H p⟩
/-- a row that is put anew comes from one of the row -/
theorem perm_inv {α β : Type} {f : α → β} : ∀ {l' z : List β}, l'.Perm z → ∀ {l : List α}, l.map f = z → ∃ m : List α, m.Perm l ∧ l' = m.map f := by
  intro l' z h
  induction h with
  | nil =>
    intro l e
    cases l with
    | nil => exact ⟨[], .nil, rfl⟩
    | cons _ _ => cases e
  | cons x h ih =>
    intro l e
    cases l with
    | nil => cases e
    | cons a as =>
      simp only [List.map_cons, List.cons.injEq] at e
      obtain ⟨m, p, rfl⟩ := ih e.2
      exact ⟨a :: m, p.cons a, by rw [List.map_cons, e.1]⟩
  | swap x y t =>
    intro l e
    match l, e with
    | a :: b :: t', e =>
      simp only [List.map_cons, List.cons.injEq] at e
      obtain ⟨e1, e2, e3⟩ := e
      exact ⟨b :: a :: t', List.Perm.swap _ _ _, by rw [List.map_cons, List.map_cons, e1, e2, e3]⟩
  | trans h1 h2 ih1 ih2 =>
    intro l e
    obtain ⟨m2, p2, e2⟩ := ih2 e
    obtain ⟨m1, p1, e1⟩ := ih1 e2.symm
    exact ⟨m1, p1.trans p2, e1⟩
end SDC
set_option Elab.async false
set_option linter.all false
set_option maxRecDepth 100000
set_option maxHeartbeats 4000000
namespace K52
open PySem PySem.Spec PyProof.Rows L2
open C8 (Cal Mak Met pe_c pe_mk pe_mt pe_mt0)
open KM (pr Sz)
theorem zero_sub' (r : Rat) : 0 - r = -r := by rw [Rat.sub_eq_add_neg, Rat.zero_add]
theorem pr0 : pr (0 : Rat) = (0, 1) := rfl
theorem div01 : Rat.divInt 0 1 = 0 := by rw [Rat.zero_divInt]
theorem sz0 {n : Nat} (h : 0 < n) : Sz n (0 : Rat) := ⟨by show 0 < 2 ^ n; exact Nat.pow_pos (by decide), by show 1 < 2 ^ n; exact Nat.one_lt_two_pow (by omega)⟩
theorem put_top (q : Int × Int) (t : Int) : putF "top" (.int t) (shF q) = shF (t, q.2) := by
  unfold shF
  simp only [putF, if_neg tb, if_neg (show ¬ (("bottom" : Str) = "top") from fun z => tb z.symm), if_pos]
theorem put_bot (q : Int × Int) (b : Int) : putF "bottom" (.int b) (shF q) = shF (q.1, b) := by
  unfold shF
  simp only [putF, if_neg tb, if_neg (show ¬ (("bottom" : Str) = "top") from fun z => tb z.symm), if_pos]
theorem shF_len (q : Int × Int) : (shF q).length < 1000 := by
  unfold shF
  simp only [putF, if_neg tb, if_neg (show ¬ (("bottom" : Str) = "top") from fun z => tb z.symm)]
  show 2 < 1000
  decide
/-- the puts of a row of moves -/
def puts (ms : List (Addr × List Str × (Str → Rat))) : List (Str × Rat) := ms.flatMap fun m => m.2.1.map fun x => (x, m.2.2 x)
/-- a dict locked: what is known of the heap -/
theorem lockf {C : Addr} {H : Hp} {d : Addr} {L : List Str} {ad : Str → Addr} (hd : H d = some (dctO L fun x => .ref (ad x))) (od : Obj) :
    (upd H d (.frz od (dctO L fun x => .ref (ad x)))) d = some (.frz od (.dK (L.map fun x => ((Sum.inr x : Key), V.ref (ad x))))) ∧
    (∀ b o, H b = some o → b ≠ d → (upd H d (.frz od (dctO L fun x => .ref (ad x)))) b = some o) ∧
    (∀ b, (upd H d (.frz od (dctO L fun x => .ref (ad x)))) b = none → H b = none ∧ b ≠ d) ∧
    (∀ H', Same (upd H d (.frz od (dctO L fun x => .ref (ad x)))) H' → Same H (upd H' d (dctO L fun x => .ref (ad x)))) := by
  refine ⟨upd_same, fun b o e n => by rw [upd_ne n]; exact e, fun b e => ?_, fun H' s b o e => ?_⟩
  · by_cases z : b = d
    · subst z
      rw [upd_same] at e
      cases e
    · rw [upd_ne z] at e
      exact ⟨e, z⟩
  · by_cases z : b = d
    · subst z
      rw [upd_same, ← e, hd]
    · rw [upd_ne z]
      exact s _ _ (by rw [upd_ne z]; exact e)
theorem _root_.K52.Sh.at_frz {C : Addr} {H : Hp} {p d : Addr} {q : Int × Int} {od : Obj} {u : HO} (h : Sh C H p q) (hd : H d = some (.frz od u)) : p ≠ d := fun z => by
  obtain ⟨dx, e⟩ := h
  rw [z, hd] at e
  cases e
theorem _root_.K52.Sh.un {C : Addr} {H : Hp} {p d : Addr} {q : Int × Int} {o : HO} (h : Sh C H p q) (n : p ≠ d) : Sh C (upd H d o) p q := by
  obtain ⟨dx, e⟩ := h
  exact ⟨dx, by rw [upd_ne n]; exact e⟩
theorem nin_take {xs : List Str} (nd : xs.Nodup) {i : Nat} {z : Str} (h : xs[i]? = some z) : z ∉ xs.take i := fun hm => by
  obtain ⟨j, hj, e⟩ := List.mem_iff_getElem.mp hm
  rw [List.getElem_take] at e
  rw [List.length_take] at hj
  have e3 : xs[j]? = xs[i]? := by rw [h, List.getElem?_eq_getElem (by omega), e]
  have := (List.getElem?_inj (by omega) nd).mp e3
  omega
/-- one more put at the end, new -/
theorem SDc.more {C : Addr} {H : Hp} {D t : Addr} {L : List Str} {c : Str → Rat} {ad : Str → Addr} {i : Nat} {z : Str} (nd : L.Nodup) (hz : L[i]? = some z) (h1 : H D = some (dctO (L.take i) fun y => .ref (ad y))) (h2 : ∀ y ∈ L.take i, Sh C H (ad y) (pr (c y))) (ht : Sh C H t (pr (c z))) :
    SDc C (upd H D (.dK (putK ((L.take i).map fun y => ((Sum.inr y : Key), V.ref (ad y))) (Sum.inr z) (.ref t)))) D (L.take (i + 1)) c := by
  have := SDc.put (x := z) (v := c z) h1 h2 ht
  rw [take_one hz]
  have ek : addK (L.take i) z = L.take i ++ [z] := by unfold addK; rw [if_neg (nin_take nd hz)]
  rw [ek] at this
  obtain ⟨a3, q1, q2⟩ := this
  refine ⟨a3, q1, fun y hy => ?_⟩
  have := q2 y hy
  unfold setc at this
  by_cases e : y = z
  · subst e
    rw [if_pos rfl] at this
    exact this
  · rw [if_neg e] at this
    exact this
section
variable {P : Program} {w : World} {K : PySem.W.Frag} {mg : Str → Option Value} {base : Heap} {f C CT : Addr} {fd : FuncData}
theorem lessR {vs : List V} {H : Hp} {Q : VK} {E : XK} (h : sp2 C (· - ·) vs H Q E) : sp_less C vs H Q E := by
  obtain ⟨p, q, r, s, n, e, hp, hq, sr, ss, n0, n9, k⟩ := h
  refine ⟨p, q, _, _, n, e, hp, hq, ⟨bd_of sr, bd_of ss, n0, n9⟩, fun t H' a b c => k t H' a b ?_⟩
  rw [KM.pr_less] at c
  exact c
def spSS (C : Addr) : Sp := fun vs H Q _ => ∃ (p : Addr) (q : Int × Int), vs = [.ref p] ∧ Sh C H p q ∧ ∀ t H', Same H H' → H t = none → Sh C H' t q → Q (.ref t) H'
theorem ok_ss (F : Dn K d_same_share f fd) (T : Cl K mg C) (M1 : MakS1 P w K mg base C) : FnOk P w K mg base CX0 4 f fd ["share"] (spSS C) := by
  refine F.ok sc_same_share (fun vs H Q E h => ?_) (fun cdv A outer s H vs Q E hr h => ?_)
  · obtain ⟨p, q, rfl, _⟩ := h
    rfl
  · obtain ⟨p, q, rfl, ⟨dp, hp⟩, hQ⟩ := h
    refine ⟨_, PSs.nox (pss_cons (ps_set (i := 1) sc_same_share.nd rfl (.inl rfl) (pe_mk M1 hr (by decide) rfl (pa_cons pe_int pa_nil)))
      (pss_cons (ps_fld (pv 1) (pe_fld (pv 0) rfl) rfl)
      (pss_cons (ps_fld (pv 1) (pe_fld (pv 0) rfl) rfl)
      (pss_one (ps_ret (pv 1)))))), ?_⟩
    intro t dt nt ndt ne
    refine mk_in (n := 10) nt ndt (by decide) (by decide) (by decide) (by decide) fun H1 s1 ht => ⟨rfl, ?_⟩
    obtain ⟨d2, ht⟩ := ht
    have hp1 := s1 _ _ hp
    have npt : p ≠ t := ne_of_none hp nt
    refine ⟨_, rfl, p, C, dp, _, _, rfl, hp1, T.cl, T.nt, shF_top q, _, rfl, t, C, d2, _, rfl, ht, T.cl, T.nt, shF_len _, ?_⟩
    rw [put_top]
    have hp2 : (upd H1 t (.ins C d2 (shF (q.1, (pr (Rat.divInt 0 1)).2)))) p = some (.ins C dp (shF q)) := by rw [upd_ne npt]; exact hp1
    refine ⟨_, rfl, p, C, dp, _, _, rfl, hp2, T.cl, T.nb, shF_bot q, _, rfl, t, C, d2, _, rfl, upd_same, T.cl, T.nb, shF_len _, ?_⟩
    rw [put_bot]
    refine ⟨_, rfl, hQ t _ (fun b o e => ?_) nt ⟨d2, upd_same⟩⟩
    have nb : b ≠ t := ne_of_none e nt
    rw [upd_ne nb, upd_ne nb]
    exact s1 _ _ e
def spTu (C : Addr) : Sp := fun vs H Q _ => ∃ (d : Addr) (L : List Str) (c : Str → Rat), vs = [.ref d] ∧ SDc C H d L c ∧ L.Nodup ∧ L.length ≤ 300 ∧ (∀ x ∈ L, Sz 3900 (c x)) ∧
  ∀ d' H', Same H H' → H d' = none → SDc C H' d' L (fun x => -(c x)) → Q (.ref d') H'
theorem ok_tu (F : Dn K d_turned f fd) (M1 : MakS1 P w K mg base C) (mL : Met P w K mg base 4 C "less" (sp2 C (· - ·)) []) : FnOk P w K mg base CX0 5 f fd ["standing"] (spTu C) := by
  refine F.ok sc_turned (fun vs H Q E h => ?_) (fun cdv A outer s H vs Q E hr h => ?_)
  · obtain ⟨d, L, c, rfl, _⟩ := h
    rfl
  · obtain ⟨d, L, c, rfl, ⟨ad, hd, hv⟩, nd, l3, hz, hQ⟩ := h
    have hu := hu_of hr
    refine ⟨_, PSs.nox (pss_one (ps_ret (pe_lock (pe_dc (own := [("name", 1)]) (g := gName 1) (tt := tYes) rfl sc_turned.nd (pi_keys (pv 0)) (blkOk_by (N := N_turned) (sc := defScope s_turned) (by decide +kernel))
      (fun _ _ _ _ _ => pg_name (i := 1) sc_turned.nd rfl (.inl rfl)) (fun _ _ _ _ _ => pts_nil) (fun _ _ _ _ _ => pv 1)
      (fun _ _ _ _ _ => pe_mt mL hr (by decide) (pe_mk M1 hr (by decide) rfl (pa_cons pe_int pa_nil)) (pa_cons (pe_dget hu (pv 0) (pv 1) (fun _ _ => rfl)) pa_nil)))))), ?_⟩
    refine ⟨d, _, hd, trivial, fun od => ?_⟩
    have hd1 : (upd H d (.frz od (dctO L fun x => .ref (ad x)))) d = some (.frz od (.dK (L.map fun x => ((Sum.inr x : Key), V.ref (ad x))))) := upd_same
    have hv1 : ∀ x ∈ L, Sh C (upd H d (.frz od (dctO L fun x => .ref (ad x)))) (ad x) (pr (c x)) := fun x hx => by
      have n := (hv x hx).at_ne hd
      obtain ⟨dx, e⟩ := hv x hx
      exact ⟨dx, by rw [upd_ne n]; exact e⟩
    have back : ∀ {H' : Hp}, Same (upd H d (.frz od (dctO L fun x => .ref (ad x)))) H' → Same H (upd H' d (dctO L fun x => .ref (ad x))) := fun {H'} s b o e => by
      by_cases z : b = d
      · subst z
        rw [upd_same, ← e, hd]
      · rw [upd_ne z]
        exact s _ _ (by rw [upd_ne z]; exact e)
    have new : ∀ {b : Addr}, (upd H d (.frz od (dctO L fun x => .ref (ad x)))) b = none → H b = none ∧ b ≠ d := fun {b} e => by
      by_cases z : b = d
      · subst z
        rw [hd1] at e
        cases e
      · rw [upd_ne z] at e
        exact ⟨e, z⟩
    generalize upd H d (.frz od (dctO L fun x => .ref (ad x))) = H1 at hd1 hv1 back new
    refine ⟨_, rfl, d, od, rfl, .inl ⟨_, hd1, fun D hD => dc_it walk_keys (fun i H2 => SDc C H2 D (L.take i) (fun x => -(c x)) ∧ Same H1 H2) ⟨⟨fun _ => 0, upd_same, fun x hx => by simp at hx⟩, same_new hD⟩ (fun i H2 _ z => z.2 _ _ hd1) ?_ ?_⟩⟩
    · rintro i x H2 H3 hi ⟨⟨a2, hdd, hval⟩, sm⟩ ⟨rfl, k, v, hk, rfl⟩
      rw [List.length_map] at hi
      rw [List.getElem?_map] at hk
      obtain ⟨z, hz0, e0⟩ := Option.map_eq_some_iff.mp hk
      cases e0
      have hzL := List.mem_of_getElem? hz0
      have nz : z ∉ L.take i := fun hm => by
        obtain ⟨j, hj, e⟩ := List.mem_iff_getElem.mp hm
        rw [List.getElem_take] at e
        rw [List.length_take] at hj
        have e3 : L[j]? = L[i]? := by rw [hz0, List.getElem?_eq_getElem (by omega), e]
        have := (List.getElem?_inj (by omega) nd).mp e3
        omega
      refine ⟨rfl, ?_⟩
      refine ⟨_, rfl, ?_⟩
      intro t dt nt ndt ne
      refine mk_in (n := 10) nt ndt (by decide) (by decide) (by decide) (by decide) fun H4 s4 ht => ⟨rfl, ?_⟩
      rw [div01] at ht
      obtain ⟨d2, htt⟩ := id ht
      have s14 := sm.trans s4
      have dg : DGet H4 d (.str z) (some (.ref (ad z))) := .inl ⟨_, Sum.inr z, .inr ⟨od, s14 _ _ hd1⟩, rfl, by rw [val_dct, if_pos hzL]⟩
      refine ⟨t, d2, _, rfl, htt, shF_no _ (by decide +kernel) (by decide +kernel), _, rfl, _, rfl, d, _, rfl, dg, ?_⟩
      refine ⟨t, ad z, 0, c z, 3900, rfl, ht, (hv1 z hzL).keep s14, sz0 (by decide), hz z hzL, by decide, by decide, fun r H5 s5 fr hr5 => ?_⟩
      have hr5 : Sh C H5 r (pr (-(c z))) := by rw [← zero_sub']; exact hr5
      have s25 := s4.trans s5
      have hD5 := s25 _ _ hdd
      refine ⟨_, Sum.inr z, rfl, hD5, by rw [List.length_map, List.length_take]; exact line_lt (by omega), ?_, fun b o e => ?_⟩
      · have := SDc.put (x := z) (v := -(c z)) hD5 (fun y hy => (hval y hy).keep s25) hr5
        rw [take_one hz0]
        have ek : addK (L.take i) z = L.take i ++ [z] := by unfold addK; rw [if_neg nz]
        rw [ek] at this
        obtain ⟨a3, q1, q2⟩ := this
        refine ⟨a3, q1, fun y hy => ?_⟩
        have := q2 y hy
        unfold setc at this
        by_cases e : y = z
        · subst e
          rw [if_pos rfl] at this
          exact this
        · rw [if_neg e] at this
          exact this
      · rw [upd_ne (ne_of_none e hD)]
        exact s25 _ _ (sm _ _ e)
    · rintro H2 ⟨⟨a2, hdd, hval⟩, sm⟩
      rw [List.length_map, List.take_length] at hdd hval
      obtain ⟨nD, nDd⟩ := new hD
      refine ⟨sm _ _ hd1, hQ D _ (back sm) nD ⟨a2, by rw [upd_ne nDd]; exact hdd, fun x hx => ?_⟩⟩
      obtain ⟨dx, e⟩ := hval x hx
      have n : a2 x ≠ d := fun z => by rw [z, sm _ _ hd1] at e; cases e
      exact ⟨dx, by rw [upd_ne n]; exact e⟩
/-- moves stand in a list -/
def MvL (C : Addr) (H : Hp) (l : Addr) (ms : List (Addr × List Str × (Str → Rat))) : Prop := H l = some (.lst (ms.map fun m => V.ref m.1)) ∧ ∀ m ∈ ms, SDc C H m.1 m.2.1 m.2.2
theorem MvL.same {H H' : Hp} {l : Addr} {ms : List (Addr × List Str × (Str → Rat))} (h : MvL C H l ms) (s : Same H H') : MvL C H' l ms := ⟨s _ _ h.1, fun m hm => (h.2 m hm).same s⟩
theorem puts_app (ms ns : List (Addr × List Str × (Str → Rat))) : puts (ms ++ ns) = puts ms ++ puts ns := by
  unfold puts
  rw [List.flatMap_append]
theorem puts_one (m : Addr × List Str × (Str → Rat)) : puts [m] = m.2.1.map fun x => (x, m.2.2 x) := by
  unfold puts
  simp
def spJo (C : Addr) : Sp := fun vs H Q _ => ∃ (d l : Addr) (L : List Str) (c : Str → Rat) (ms : List (Addr × List Str × (Str → Rat))) (n k : Nat), vs = [.ref d, .ref l] ∧ SDc C H d L c ∧ L.Nodup ∧ MvL C H l ms ∧ (∀ x ∈ L, Sz n (c x)) ∧ 0 < n ∧ (∀ p ∈ puts ms, Sz k p.2) ∧ n + (k + 1) * (puts ms).length ≤ 3900 ∧ k ≤ 3900 ∧ L.length + (puts ms).length ≤ 3000 ∧
  ∀ D H', Same H H' → H D = none → SDc C H' D (mvL (L, c) (puts ms)).1 (mvL (L, c) (puts ms)).2 → Q (.ref D) H'
theorem ok_jo (F : Dn K d_joined f fd) (M1 : MakS1 P w K mg base C) (mP : Met P w K mg base 4 C "plus" (sp2 C (· + ·)) []) (cS : Cal P w K mg base 4 "same_share" (spSS C) []) : FnOk P w K mg base CX0 5 f fd ["standing", "moves"] (spJo C) := by
  refine F.ok sc_joined (fun vs H Q E h => ?_) (fun cdv A outer s H vs Q E hr h => ?_)
  · obtain ⟨d, l, L, c, ms, n, k, rfl, _⟩ := h
    rfl
  · obtain ⟨d, l, L, c, ms, n, k, rfl, ⟨ad, hd, hv⟩, nd, hms, hz, n0, hk, hnk, hk9, hl9, hQ⟩ := h
    have hu := hu_of hr
    have gz : ∀ x, Sz n (get0 L c x) := fun x => by
      unfold get0
      split
      · rename_i hx
        exact hz x hx
      · exact sz0 n0
    refine ⟨_, PSs.nox (pss_cons (ps_lock (SDC.ps_setDc (i := 3) (own := [("name", 2)]) (g := gName 2) (tt := tYes) rfl sc_joined.nd rfl rfl (SDC.sw_true rfl rfl rfl (by decide +kernel)) (pi_keys (pv 0)) (blkOk_by (N := N_joined) (sc := defScope s_joined) (by decide +kernel))
        (fun _ _ _ _ _ => pg_name (i := 2) sc_joined.nd rfl (.inl rfl)) (fun _ _ _ _ _ => pts_nil) (fun _ _ _ _ _ => pv 2)
        (fun _ _ _ _ _ => pe_c cS hr (by decide) rfl (pa_cons (pe_dget hu (pv 0) (pv 2) (fun _ _ => rfl)) pa_nil))))
      (pss_cons (ps_for PassesOwn.never rfl (pi_list (pv 1)) (pg_name (i := 4) sc_joined.nd rfl (.inl rfl))
        (pss_one (ps_lock (ps_for PassesOwn.never rfl (pi_keys (pv 4)) (pg_name (i := 2) sc_joined.nd rfl (.inl rfl))
          (pss_one (ps_dput hu (pv 3) (pv 2) (pe_mt mP hr (by decide) (pe_dget2 hu (pv 3) (pv 2) (pe_mk M1 hr (by decide) rfl (pa_cons pe_int pa_nil)) ⟨rfl, rfl, rfl, rfl⟩) (pa_cons (pe_dget hu (pv 4) (pv 2) (fun _ _ => rfl)) pa_nil)) rfl))))))
      (pss_one (ps_ret (pv 3))))), ?_⟩
    refine ⟨d, _, hd, trivial, fun od => ?_⟩
    obtain ⟨hd1, kp1, new1, back1⟩ := lockf (C := C) hd od
    have hv1 : ∀ x ∈ L, Sh C (upd H d (.frz od (dctO L fun x => .ref (ad x)))) (ad x) (pr (c x)) := fun x hx => (hv x hx).un ((hv x hx).at_ne hd)
    generalize upd H d (.frz od (dctO L fun x => .ref (ad x))) = H1 at hd1 kp1 new1 back1 hv1
    refine ⟨_, rfl, d, od, rfl, .inl ⟨_, hd1, fun D hD => dc_it walk_keys (fun i H2 => SDc C H2 D (L.take i) c ∧ Same H1 H2) ⟨⟨fun _ => 0, upd_same, fun x hx => by simp at hx⟩, same_new hD⟩ (fun i H2 _ z => z.2 _ _ hd1) ?_ ?_⟩⟩
    · rintro i x H2 H3 hi ⟨⟨a2, hdd, hval⟩, sm⟩ ⟨eH, kk, v, hkk, rfl⟩
      have eH := eH.symm
      subst eH
      rw [List.length_map] at hi
      rw [List.getElem?_map] at hkk
      obtain ⟨z, hz0, e0⟩ := Option.map_eq_some_iff.mp hkk
      cases e0
      have hzL := List.mem_of_getElem? hz0
      refine ⟨rfl, ?_⟩
      have dg : DGet H2 d (.str z) (some (.ref (ad z))) := .inl ⟨_, Sum.inr z, .inr ⟨od, sm _ _ hd1⟩, rfl, by rw [val_dct, if_pos hzL]⟩
      refine ⟨_, rfl, _, rfl, _, rfl, d, _, rfl, dg, ad z, _, rfl, (hv1 z hzL).keep sm, fun t H4 s4 ft ht => ?_⟩
      have hD4 := s4 _ _ hdd
      refine ⟨_, Sum.inr z, rfl, hD4, by rw [List.length_map, List.length_take]; exact line_lt (by omega), SDc.more nd hz0 hD4 (fun y hy => (hval y hy).keep s4) ht, fun b o e => ?_⟩
      rw [upd_ne (ne_of_none e hD)]
      exact s4 _ _ (sm _ _ e)
    rintro H2 ⟨⟨a2, hdd, hval⟩, sm⟩
    rw [List.length_map, List.take_length] at hdd hval
    obtain ⟨nD, nDd⟩ := new1 D hD
    have s02 := back1 H2 sm
    have hd2 := sm _ _ hd1
    have S0 : SDc C (upd H2 d (dctO L fun x => .ref (ad x))) D L c := ⟨a2, by rw [upd_ne nDd]; exact hdd, fun x hx => (hval x hx).un ((hval x hx).at_frz hd2)⟩
    refine ⟨hd2, ?_⟩
    generalize upd H2 d (dctO L fun x => .ref (ad x)) = H3 at s02 S0
    clear hv1 hd1 kp1 new1 back1 hval hdd hd2 sm
    -- the moves
    refine ⟨_, rfl, l, rfl, ⟨_, SqL.of (s02 _ _ hms.1)⟩, for_list (K := K) (xs := ms.map fun m => V.ref m.1) (fun i σ H' => ∃ (v2 v4 : Option V), σ = [some (.ref d), some (.ref l), v2, some (.ref D), v4] ∧ Same H H' ∧ SDc C H' D (mvL (L, c) (puts (ms.take i))).1 (mvL (L, c) (puts (ms.take i))).2)
      ⟨_, _, rfl, s02, S0⟩ (fun i σ H' _ z => by obtain ⟨_, _, _, sm, _⟩ := z; exact SqL.of (sm _ _ hms.1)) ?_ ?_⟩
    · rintro i v σ H4 hi ⟨v2, v4, rfl, s4, S4⟩
      rw [List.getElem?_map] at hi
      obtain ⟨m, hm, rfl⟩ := Option.map_eq_some_iff.mp hi
      have hmm := List.mem_of_getElem? hm
      have hil : i < ms.length := (List.getElem?_eq_some_iff.mp hm).1
      obtain ⟨am, hmd0, hmv0⟩ := hms.2 m hmm
      have hmd := s4 _ _ hmd0
      have nDm : D ≠ m.1 := fun z => by rw [← z, nD] at hmd0; cases hmd0
      -- how many puts
      have tot : puts ms = puts (ms.take i) ++ ((m.2.1.map fun x => (x, m.2.2 x)) ++ puts (ms.drop (i + 1))) := by
        have : ms = ms.take i ++ ([m] ++ ms.drop (i + 1)) := by
          have h1 : ms[i] = m := by rw [List.getElem?_eq_getElem hil] at hm; exact Option.some.inj hm
          rw [List.singleton_append, ← h1, ← List.drop_eq_getElem_cons hil, List.take_append_drop]
        conv => lhs; rw [this]
        rw [puts_app, puts_app, puts_one]
      have tl := congrArg List.length tot
      rw [List.length_append, List.length_append, List.length_map] at tl
      refine ⟨m.1, _, hmd, trivial, fun od2 => ?_⟩
      obtain ⟨he1, kp2, new2, back2⟩ := lockf (C := C) hmd od2
      have S5 : SDc C (upd H4 m.1 (.frz od2 (dctO m.2.1 fun x => .ref (am x)))) D (mvL (L, c) (puts (ms.take i))).1 (mvL (L, c) (puts (ms.take i))).2 := by
        obtain ⟨a4, q1, q2⟩ := S4
        exact ⟨a4, kp2 _ _ q1 nDm, fun x hx => (q2 x hx).un ((q2 x hx).at_ne hmd)⟩
      have hmv1 : ∀ x ∈ m.2.1, Sh C (upd H4 m.1 (.frz od2 (dctO m.2.1 fun x => .ref (am x)))) (am x) (pr (m.2.2 x)) := fun x hx => ((hmv0 x hx).keep s4).un (((hmv0 x hx).keep s4).at_ne hmd)
      generalize upd H4 m.1 (.frz od2 (dctO m.2.1 fun x => .ref (am x))) = H5 at he1 kp2 new2 back2 S5 hmv1
      refine ⟨_, rfl, m.1, od2, rfl, .inl ⟨_, he1, for_it walk_keys (fun j σ H' => ∃ (v2 : Option V), σ = [some (.ref d), some (.ref l), v2, some (.ref D), some (.ref m.1)] ∧ (∀ b o, H5 b = some o → b ≠ D → H' b = some o) ∧ SDc C H' D (mvL (L, c) (puts (ms.take i) ++ (m.2.1.take j).map fun x => (x, m.2.2 x))).1 (mvL (L, c) (puts (ms.take i) ++ (m.2.1.take j).map fun x => (x, m.2.2 x))).2)
        ⟨_, rfl, fun b o e _ => e, by rw [List.take_zero, List.map_nil, List.append_nil]; exact S5⟩ (fun j σ H' _ z => by obtain ⟨_, _, k5, _⟩ := z; exact k5 _ _ he1 nDm.symm) ?_ ?_⟩⟩
      · rintro j x σ H6 H7 hj ⟨v2, rfl, k6, a6, hdd6, hval6⟩ ⟨eH, kk, v, hkk, rfl⟩
        have eH := eH.symm
        subst eH
        rw [List.length_map] at hj
        rw [List.getElem?_map] at hkk
        obtain ⟨z, hz0, e0⟩ := Option.map_eq_some_iff.mp hkk
        cases e0
        have hzM := List.mem_of_getElem? hz0
        obtain ⟨u, hu0⟩ : ∃ u, u = mvL (L, c) (puts (ms.take i) ++ (m.2.1.take j).map fun x => (x, m.2.2 x)) := ⟨_, rfl⟩
        have zs := mvL_sz (k := k) (puts (ms.take i) ++ (m.2.1.take j).map fun x => (x, m.2.2 x)) (L, c) n gz (fun p hp => hk p (by
          rw [tot]
          rcases List.mem_append.mp hp with q | q
          · exact List.mem_append_left _ q
          · obtain ⟨y, hy, rfl⟩ := List.mem_map.mp q
            exact List.mem_append_right _ (List.mem_append_left _ (List.mem_map.mpr ⟨y, List.mem_of_mem_take hy, rfl⟩))))
        have ul := mvL_len (puts (ms.take i) ++ (m.2.1.take j).map fun x => (x, m.2.2 x)) (L, c)
        rw [List.length_append, List.length_map, List.length_take] at zs ul
        rw [← hu0] at hdd6 hval6 zs ul
        have ul : u.1.length ≤ L.length + ((puts (ms.take i)).length + min j m.2.1.length) := ul
        have pl : (puts (ms.take i)).length + min j m.2.1.length ≤ (puts ms).length := by omega
        have mul : (k + 1) * ((puts (ms.take i)).length + min j m.2.1.length) ≤ (k + 1) * (puts ms).length := Nat.mul_le_mul_left _ pl
        have kz : Sz k (m.2.2 z) := hk (z, m.2.2 z) (by
          rw [tot]
          exact List.mem_append_right _ (List.mem_append_left _ (List.mem_map.mpr ⟨z, hzM, rfl⟩)))
        have dgm : DGet H6 m.1 (.str z) (some (.ref (am z))) := .inl ⟨_, Sum.inr z, .inr ⟨od2, k6 _ _ he1 nDm.symm⟩, rfl, by rw [val_dct, if_pos hzM]⟩
        have shm : Sh C H6 (am z) (pr (m.2.2 z)) := by
          obtain ⟨dx, e⟩ := hmv0 z hzM
          have nD2 : am z ≠ D := fun q => by rw [q, nD] at e; cases e
          obtain ⟨dx2, e2⟩ := hmv1 z hzM
          exact ⟨dx2, k6 _ _ e2 nD2⟩
        refine ⟨_, rfl, D, rfl, .inl ⟨_, .inl hdd6⟩, _, rfl, ?_⟩
        intro t dt nt ndt ne
        refine mk_in (n := 10) nt ndt (by decide) (by decide) (by decide) (by decide) fun H7 s7 ht => ⟨rfl, ?_⟩
        rw [div01] at ht
        have hD7 := s7 _ _ hdd6
        have dg7 : DGet H7 D (.str z) (valV (u.1.map fun y => ((Sum.inr y : Key), V.ref (a6 y))) (Sum.inr z)) := DGet.k (k := Sum.inr z) hD7
        rw [val_dct] at dg7
        obtain ⟨w0, hw0, sw0⟩ : ∃ w0, ((if z ∈ u.1 then some (V.ref (a6 z)) else none).getD (.ref t)) = .ref w0 ∧ Sh C H7 w0 (pr (get0 u.1 u.2 z)) := by
          unfold get0
          by_cases hzu : z ∈ u.1
          · rw [if_pos hzu, if_pos hzu]
            exact ⟨_, rfl, (hval6 z hzu).keep s7⟩
          · rw [if_neg hzu, if_neg hzu]
            exact ⟨_, rfl, ht⟩
        obtain ⟨dw, hw1⟩ := id sw0
        refine ⟨_, dg7, w0, dw, _, hw0, hw1, shF_no _ (by decide +kernel) (by decide +kernel), _, rfl, _, rfl, m.1, .ref (am z), rfl, ?_, ?_⟩
        · obtain ⟨kvs, kk2, r1, r2, r3⟩ | ⟨_, _, _, _, r2, _⟩ := dgm
          · refine .inl ⟨kvs, kk2, ?_, r2, r3⟩
            rcases r1 with r1 | ⟨o1, r1⟩
            · exact .inl (s7 _ _ r1)
            · exact .inr ⟨o1, s7 _ _ r1⟩
          · cases r2
        refine ⟨w0, am z, _, _, 3900, (by rw [hw0]; rfl), sw0, shm.keep s7, (zs z).mono (by omega), kz.mono hk9, by decide, by decide, fun r H8 s8 fr hr8 => ?_⟩
        have s68 := s7.trans s8
        have hD8 := s68 _ _ hdd6
        have fin := SDc.put (x := z) (v := get0 u.1 u.2 z + m.2.2 z) hD8 (fun y hy => (hval6 y hy).keep s68) hr8
        refine ⟨_, rfl, _, rfl, D, _, rfl, DPut.k (k := Sum.inr z) hD8 (by rw [List.length_map]; exact line_lt (by omega)), _, rfl, fun b o e nb => ?_, ?_⟩
        · rw [upd_ne nb]
          exact s68 _ _ (k6 _ _ e nb)
        · rw [take_one hz0, List.map_append, ← List.append_assoc]
          have e : mvL (L, c) ((puts (ms.take i) ++ (m.2.1.take j).map fun x => (x, m.2.2 x)) ++ [(z, m.2.2 z)]) = mv u (z, m.2.2 z) := by rw [mvL_snoc, ← hu0]
          show SDc C _ D (mvL (L, c) ((puts (ms.take i) ++ (m.2.1.take j).map fun x => (x, m.2.2 x)) ++ [(z, m.2.2 z)])).1 (mvL (L, c) ((puts (ms.take i) ++ (m.2.1.take j).map fun x => (x, m.2.2 x)) ++ [(z, m.2.2 z)])).2
          rw [e]
          exact fin
      · rintro σ H6 ⟨v2, rfl, k6, S6⟩
        rw [List.length_map, List.take_length] at S6
        have he6 := k6 _ _ he1 nDm.symm
        refine ⟨he6, _, _, rfl, fun b o e => ?_, ?_⟩
        · have nb : b ≠ D := ne_of_none e nD
          by_cases z : b = m.1
          · subst z
            rw [upd_same, ← s4 _ _ e, hmd]
          · rw [upd_ne z]
            exact k6 _ _ (kp2 _ _ (s4 _ _ e) z) nb
        · rw [take_one hm, puts_app, puts_one]
          obtain ⟨a6, q1, q2⟩ := S6
          exact ⟨a6, by rw [upd_ne nDm]; exact q1, fun x hx => (q2 x hx).un ((q2 x hx).at_frz he6)⟩
    · rintro σ H4 ⟨v2, v4, rfl, s4, S4⟩
      rw [List.length_map, List.take_length] at S4
      exact ⟨_, rfl, hQ D H4 s4 nD S4⟩
end
end K52
set_option Elab.async false
set_option linter.all false
set_option maxRecDepth 100000
set_option maxHeartbeats 4000000
namespace K52
open PySem PySem.Spec PyProof.Rows L2
open C8 (Cal Mak Met pe_c pe_mk pe_mt pe_mt0)
open KM (pr Sz)
/-- a hand-over: where it stands, who pays, who takes, its share -/
structure Ro where
  a : Addr
  p : Str
  t : Str
  s : Addr
  v : Rat
def mvs (rows : List Ro) : List (Str × Rat) := rows.flatMap fun r => [(r.p, r.v), (r.t, -r.v)]
theorem mvs_snoc (rows : List Ro) (r : Ro) : mvs (rows ++ [r]) = mvs rows ++ [(r.p, r.v), (r.t, -r.v)] := by
  unfold mvs
  rw [List.flatMap_append]
  simp
theorem mvs_len (rows : List Ro) : (mvs rows).length = 2 * rows.length := by
  unfold mvs
  induction rows with
  | nil => rfl
  | cons r rows ih =>
    rw [List.flatMap_cons, List.length_append, ih]
    simp
    omega
theorem sz_neg {n : Nat} {r : Rat} (h : Sz n r) : Sz n (-r) := ⟨by rw [Rat.neg_num, Int.natAbs_neg]; exact h.1, by rw [Rat.neg_den]; exact h.2⟩
theorem mvs_sz {n : Nat} {rows : List Ro} (h : ∀ r ∈ rows, Sz n r.v) : ∀ p ∈ mvs rows, Sz n p.2 := fun p hp => by
  obtain ⟨r, hr, hp⟩ := List.mem_flatMap.mp hp
  simp only [List.mem_cons, List.not_mem_nil, or_false] at hp
  rcases hp with rfl | rfl
  · exact h r hr
  · exact sz_neg (h r hr)
/-- hand-overs of Shares in a list -/
def HL (C : Addr) (H : Hp) (l : Addr) (rows : List Ro) : Prop := H l = some (.lst (rows.map fun r => V.ref r.a)) ∧ ∀ r ∈ rows, H r.a = some (.tup [.str r.p, .str r.t, .ref r.s]) ∧ Sh C H r.s (pr r.v)
theorem HL.same {C : Addr} {H H' : Hp} {l : Addr} {rows : List Ro} (h : HL C H l rows) (s : Same H H') : HL C H' l rows := ⟨s _ _ h.1, fun r hr => ⟨s _ _ (h.2 r hr).1, (h.2 r hr).2.keep s⟩⟩
theorem SDc.un {C : Addr} {H : Hp} {d l : Addr} {L : List Str} {c : Str → Rat} {xs : List V} {o : HO} (h : SDc C H d L c) (hl : H l = some (.lst xs)) : SDc C (upd H l o) d L c := by
  obtain ⟨ad, h1, h2⟩ := h
  refine ⟨ad, by rw [upd_ne fun z => by rw [z, hl] at h1; cases h1]; exact h1, fun x hx => ?_⟩
  obtain ⟨dx, e⟩ := h2 x hx
  exact ⟨dx, by rw [upd_ne fun z => by rw [z, hl] at e; cases e]; exact e⟩
/-- {x: share} -/
theorem one_dict {C : Addr} {H : Hp} {d s : Addr} {x : Str} {v : Rat} (hd : H d = none) (hs : Sh C H s (pr v)) : SDc C (upd H d (.dK (putK [] (Sum.inr x) (.ref s)))) d [x] (fun _ => v) := by
  refine ⟨fun _ => s, upd_same, fun y hy => ?_⟩
  obtain ⟨dx, e⟩ := hs
  exact ⟨dx, by rw [upd_ne (ne_of_none e hd)]; exact e⟩
end K52
set_option Elab.async false
set_option linter.all false
set_option maxRecDepth 100000
set_option maxHeartbeats 4000000
namespace K52
open PySem PySem.Spec PyProof.Rows L2
open C8 (Cal Mak Met pe_c pe_mk pe_mt pe_mt0)
open KM (pr Sz)
section
variable {P : Program} {w : World} {K : PySem.W.Frag} {mg : Str → Option Value} {base : Heap} {f C : Addr} {fd : FuncData}
def sp_below (C : Addr) : Sp := fun vs H Q _ => ∃ (p q : Addr) (a b : Int × Int) (n : Nat), vs = [.ref p, .ref q] ∧ Sh C H p a ∧ Sh C H q b ∧ two n a b ∧ Q (.bl (decide (a.1 * b.2 < b.1 * a.2))) H
theorem ok_below (F : Dn K d_Share_below f fd) (T : Cl K mg C) : FnOk P w K mg base CX0 1 f fd ["self", "other"] (sp_below C) := by
  refine F.ok sc_Share_below (fun vs H Q E h => ?_) (fun cdv A outer s H vs Q E hr h => ?_)
  · obtain ⟨p, q, a, b, n, rfl, _⟩ := h
    rfl
  · obtain ⟨p, q, a, b, n, rfl, ⟨dp, hp⟩, ⟨dq, hq⟩, ⟨ba, bb, hn0, hn9⟩, hQ⟩ := h
    refine ⟨_, PSs.nox (pss_one (ps_ret (pe_cmpR op_lt (pe_op op_mulW (pe_fld (pv 0) rfl) (pe_fld (pv 1) rfl)) (pe_op op_mulW (pe_fld (pv 1) rfl) (pe_fld (pv 0) rfl)) (nomark _)))), ?_⟩
    refine ⟨_, rfl, p, C, dp, _, _, rfl, hp, T.cl, T.nt, shF_top a, _, rfl, q, C, dq, _, _, rfl, hq, T.cl, T.nb, shF_bot b, _, _, rfl, rfl, wide_mul ba.1 bb.2.2 hn0 hn0 (by omega), ?_⟩
    exact ⟨_, rfl, q, C, dq, _, _, rfl, hq, T.cl, T.nt, shF_top b, _, rfl, p, C, dp, _, _, rfl, hp, T.cl, T.nb, shF_bot a, _, _, rfl, rfl, wide_mul bb.1 ba.2.2 hn0 hn0 (by omega), _, _, rfl, rfl, hQ⟩
def spLt (C : Addr) : Sp := fun vs H Q _ => ∃ (p q : Addr) (r s : Rat) (n : Nat), vs = [.ref p, .ref q] ∧ Sh C H p (pr r) ∧ Sh C H q (pr s) ∧ Sz n r ∧ Sz n s ∧ 0 < n ∧ n ≤ 4000 ∧ Q (.bl (decide (r < s))) H
theorem belowR {vs : List V} {H : Hp} {Q : VK} {E : XK} (h : spLt C vs H Q E) : sp_below C vs H Q E := by
  obtain ⟨p, q, r, s, n, e, hp, hq, sr, ss, n0, n9, k⟩ := h
  refine ⟨p, q, _, _, n, e, hp, hq, ⟨bd_of sr, bd_of ss, n0, n9⟩, ?_⟩
  have : decide ((pr r).1 * (pr s).2 < (pr s).1 * (pr r).2) = decide (r < s) := decide_eq_decide.mpr (KM.pr_lt r s)
  rw [this]
  exact k
end
end K52
set_option Elab.async false
set_option linter.all false
set_option maxRecDepth 100000
set_option maxHeartbeats 4000000
namespace K52
open PySem PySem.Spec PyProof.Rows L2
open C8 (Cal Mak Met pe_c pe_mk pe_mt pe_mt0)
open KM (pr Sz)
section
variable {P : Program} {w : World} {K : PySem.W.Frag} {mg : Str → Option Value} {base : Heap} {f C : Addr} {fd : FuncData}
/-! ### total -/
/-- the sum from the left -/
def sumR (rs : List Rat) : Rat := rs.foldl (· + ·) 0
theorem fold_from (a : Rat) : ∀ rs : List Rat, rs.foldl (· + ·) a = a + sumR rs
  | [] => by show a = a + 0; rw [Rat.add_zero]
  | r :: rs => by
    show rs.foldl (· + ·) (a + r) = a + rs.foldl (· + ·) (0 + r)
    rw [fold_from (a + r) rs, fold_from (0 + r) rs, Rat.zero_add, Rat.add_assoc]
theorem sumR_app (xs ys : List Rat) : sumR (xs ++ ys) = sumR xs + sumR ys := by
  unfold sumR
  rw [List.foldl_append]
  exact fold_from _ ys
theorem sumR_cons (r : Rat) (rs : List Rat) : sumR (r :: rs) = r + sumR rs := by
  have := sumR_app [r] rs
  rw [List.singleton_append] at this
  rw [this]
  show (0 + r) + _ = _
  rw [Rat.zero_add]
theorem sumR_rev : ∀ rs : List Rat, sumR rs.reverse = sumR rs
  | [] => rfl
  | r :: rs => by
    rw [List.reverse_cons, sumR_app, sumR_rev rs, sumR_cons r rs, Rat.add_comm]
    show (0 + r) + _ = _
    rw [Rat.zero_add]
theorem sz_sum {k : Nat} : ∀ {rs : List Rat}, (∀ r ∈ rs, Sz k r) → Sz (1 + (k + 1) * rs.length) (sumR rs) := by
  intro rs
  induction rs with
  | nil =>
    intro _
    refine ⟨Nat.two_pow_pos _, ?_⟩
    show 1 < 2 ^ (1 + (k + 1) * 0)
    simp
  | cons r rs ih =>
    intro h
    rw [sumR_cons]
    have h1 := h r (List.mem_cons_self ..)
    have h2 := ih fun x hx => h x (List.mem_cons_of_mem _ hx)
    refine (KM.sz_plus h1 h2).1.mono ?_
    rw [List.length_cons, Nat.mul_add]
    omega
/-- a list of Shares at l -/
def ShL (K : PySem.W.Frag) (C : Addr) (H : Hp) (l : Addr) (L : List (Addr × Rat)) : Prop := SqL K H l (L.map fun x => V.ref x.1) ∧ ∀ x ∈ L, Sh C H x.1 (pr x.2)
theorem ShL.keep {H H' : Hp} {l : Addr} {L : List (Addr × Rat)} (s : Same H H') (h : ShL K C H l L) : ShL K C H' l L := ⟨s.seq h.1, fun x hx => (h.2 x hx).keep s⟩
def ratsOf (L : List (Addr × Rat)) : List Rat := L.map (·.2)
def spTotal (K : PySem.W.Frag) (C : Addr) : Sp := fun vs H Q _ => ∃ (l : Addr) (L : List (Addr × Rat)) (n : Nat), vs = [.ref l, .int 0] ∧ ShL K C H l L ∧ (∀ x ∈ L, Sz n x.2) ∧ (n + 1) * L.length ≤ 3800 ∧ n ≤ 3800 ∧
  ∀ t H', Same H H' → H t = none → Sh C H' t (pr (sumR (ratsOf L))) → Q (.ref t) H'
theorem ok_total (F : Dn K d_total f fd) (M1 : MakS1 P w K mg base C) (mp : Met P w K mg base 4 C "plus" (sp2 C (· + ·)) []) : FnOk P w K mg base CX0 5 f fd ["shares", "start"] (spTotal K C) := by
  refine F.ok sc_total (fun vs H Q E h => ?_) (fun cdv A outer s H vs Q E hr h => ?_)
  · obtain ⟨l, L, n, rfl, _⟩ := h
    rfl
  · obtain ⟨l, L, n, rfl, hL, hS, hlen, hn9, hQ⟩ := h
    refine ⟨_, PSs.nox (pss_cons (ps_set (i := 2) sc_total.nd rfl (.inl rfl) (pe_mk M1 hr (by decide) rfl (pa_cons (pv 1) pa_nil)))
      (pss_cons (ps_for PassesOwn.never rfl (pi_list (pv 0)) (pg_name (i := 3) sc_total.nd rfl (.inl rfl))
        (pss_one (ps_set (i := 2) sc_total.nd rfl (.inl rfl) (pe_mt mp hr (by decide) (pv 2) (pa_cons (pv 3) pa_nil)))))
      (pss_one (ps_ret (pv 2))))), ?_⟩
    refine ⟨_, rfl, ?_⟩
    intro p pd np nd ne
    refine mk_in (n := 1) np nd (by decide) (by decide) (by decide) (by decide) fun H1 s1 hp => ⟨rfl, ?_⟩
    have z0 : Rat.divInt 0 1 = 0 := by rfl
    rw [z0] at hp
    refine ⟨_, rfl, l, rfl, ⟨_, s1.seq hL.1⟩, for_list (K := K) (xs := L.map fun x => V.ref x.1) (fun i σ H2 => ∃ (q : Addr) (v : Option V), σ = [some (.ref l), some (.int 0), some (.ref q), v] ∧ Same H H2 ∧ H q = none ∧ Sh C H2 q (pr (sumR (ratsOf (L.take i)))))
      ⟨p, none, rfl, s1, np, hp⟩ (fun i σ H2 _ z => by obtain ⟨q, v, _, s2, _⟩ := z; exact s2.seq hL.1) ?_ ?_⟩
    · rintro i y σ H2 hi ⟨q, v, rfl, s2, fq, hq⟩
      rw [List.getElem?_map] at hi
      cases hx : L[i]? with
      | none =>
        rw [hx] at hi
        cases hi
      | some x =>
        rw [hx] at hi
        cases (Option.some.inj hi : V.ref x.1 = y)
        have hm : x ∈ L := List.mem_of_getElem? hx
        have hil : i < L.length := (List.getElem?_eq_some_iff.mp hx).1
        have et : L.take (i + 1) = L.take i ++ [x] := by rw [List.take_add_one, hx]; rfl
        have szt : Sz 3900 (sumR (ratsOf (L.take i))) := by
          refine (sz_sum (k := n) fun r hr => ?_).mono ?_
          · obtain ⟨x', hx', rfl⟩ := List.mem_map.mp hr
            exact hS x' (List.mem_of_mem_take hx')
          · unfold ratsOf
            rw [List.length_map, List.length_take]
            have := Nat.mul_le_mul_left (n + 1) (Nat.min_le_right i L.length)
            omega
        obtain ⟨dq, hq1⟩ := id hq
        refine ⟨_, rfl, q, dq, _, rfl, hq1, shF_no _ (by decide +kernel) (by decide +kernel), _, rfl, q, x.1, _, x.2, 3900, rfl, hq, (hL.2 x hm).keep s2, szt, (hS x hm).mono (by omega), by decide, by decide, fun t H3 s3 ft ht => ?_⟩
        refine ⟨t, _, rfl, s2.trans s3, s2.free ft, ?_⟩
        have er : sumR (ratsOf (L.take i)) + x.2 = sumR (ratsOf (L.take (i + 1))) := by
          rw [et]
          unfold ratsOf
          rw [List.map_append, sumR_app]
          show _ = _ + (0 + x.2)
          rw [Rat.zero_add]
        rw [← er]
        exact ht
    · rintro σ H2 ⟨q, v, rfl, s2, fq, hq⟩
      rw [List.length_map, List.take_length] at hq
      exact ⟨_, rfl, hQ q H2 s2 fq hq⟩
end
end K52
set_option Elab.async false
set_option linter.all false
set_option maxRecDepth 100000
set_option maxHeartbeats 4000000
namespace K52
open PySem PySem.Spec PyProof.Rows L2
open KM (pr Sz)
/-! ### what is put, at one name -/
def at_ (x : Str) : List (Str × Rat) → Rat
  | [] => 0
  | m :: ms => (if m.1 = x then m.2 else 0) + at_ x ms
theorem mvL_val (x : Str) : ∀ (ms : List (Str × Rat)) (u : List Str × (Str → Rat)), get0 (mvL u ms).1 (mvL u ms).2 x = get0 u.1 u.2 x + at_ x ms
  | [], u => by show get0 u.1 u.2 x = get0 u.1 u.2 x + 0; rw [Rat.add_zero]
  | m :: ms, u => by
    have h := mvL_val x ms (mv u m)
    have e : get0 (mv u m).1 (mv u m).2 x = get0 u.1 u.2 x + (if m.1 = x then m.2 else 0) := by
      unfold mv
      dsimp only
      by_cases c : m.1 = x
      · rw [if_pos c, ← c]
        unfold setc
        conv => lhs; unfold get0
        rw [if_pos mem_addK]
        dsimp only
        rw [if_pos rfl]
        rfl
      · rw [if_neg c, Rat.add_zero]
        unfold get0 setc
        have ne : ¬ x = m.1 := fun z => c z.symm
        rw [if_neg ne]
        have : (x ∈ addK u.1 m.1) ↔ x ∈ u.1 := ⟨fun z => (addK_sub z).elim id fun z => absurd z ne, fun z => by
          unfold addK
          split
          · exact z
          · exact List.mem_append_left _ z⟩
        simp only [this]
    show get0 (mvL (mv u m) ms).1 (mvL (mv u m) ms).2 x = _ + ((if m.1 = x then m.2 else 0) + at_ x ms)
    rw [h, e, Rat.add_assoc]
theorem at_app (x : Str) : ∀ (xs ys : List (Str × Rat)), at_ x (xs ++ ys) = at_ x xs + at_ x ys
  | [], ys => by show at_ x ys = 0 + at_ x ys; rw [Rat.zero_add]
  | m :: xs, ys => by
    show (if m.1 = x then m.2 else 0) + at_ x (xs ++ ys) = ((if m.1 = x then m.2 else 0) + at_ x xs) + at_ x ys
    rw [at_app x xs ys, Rat.add_assoc]
theorem mem_mvL (x : Str) : ∀ (ms : List (Str × Rat)) (u : List Str × (Str → Rat)), x ∈ (mvL u ms).1 ↔ x ∈ u.1 ∨ x ∈ ms.map (·.1)
  | [], u => by show x ∈ u.1 ↔ x ∈ u.1 ∨ x ∈ []; simp
  | m :: ms, u => by
    have h := mem_mvL x ms (mv u m)
    have e : x ∈ (mv u m).1 ↔ x ∈ u.1 ∨ x = m.1 := ⟨addK_sub, fun z => by
      rcases z with z | z
      · show x ∈ addK u.1 m.1
        unfold addK
        split
        · exact z
        · exact List.mem_append_left _ z
      · rw [z]; exact mem_addK⟩
    show x ∈ (mvL (mv u m) ms).1 ↔ _
    rw [h, e, List.map_cons, List.mem_cons, or_assoc]
theorem get0_in {L : List Str} {c : Str → Rat} {x : Str} (h : x ∈ L) : get0 L c x = c x := if_pos h
theorem get0_out {L : List Str} {c : Str → Rat} {x : Str} (h : x ∉ L) : get0 L c x = 0 := if_neg h
theorem at_map {L : List Str} {c : Str → Rat} {x : Str} (nd : L.Nodup) : at_ x (L.map fun y => (y, c y)) = get0 L c x := by
  induction L with
  | nil => exact (get0_out (by simp)).symm
  | cons y L ih =>
    obtain ⟨h1, h2⟩ := List.nodup_cons.mp nd
    show (if y = x then c y else 0) + at_ x (L.map fun y => (y, c y)) = _
    rw [ih h2]
    by_cases e : y = x
    · subst e
      rw [if_pos rfl, get0_out h1, Rat.add_zero, get0_in List.mem_cons_self]
    · rw [if_neg e, Rat.zero_add]
      unfold get0
      have : (x ∈ y :: L) ↔ x ∈ L := ⟨fun z => (List.mem_cons.mp z).elim (fun q => absurd q.symm e) id, List.mem_cons_of_mem _⟩
      simp only [this]
end K52
set_option Elab.async false
set_option linter.all false
set_option maxRecDepth 100000
set_option maxHeartbeats 4000000
/-! VL: list(d.values()), whatever the values. -/
namespace VL
open PySem PySem.Spec PyProof.Rows L2
theorem vals_get : ∀ {xs : List V} {us : List Value}, xs.length = us.length → (∀ (j : Nat) (x : V) (u : Value), xs[j]? = some x → us[j]? = some u → RelV x u) → Vals xs us
  | [], [], _, _ => .nil
  | x :: xs, u :: us, l, h => .cons (h 0 x u rfl rfl) (vals_get (by simpa using l) fun j x' u' e1 e2 => h (j + 1) x' u' (by simpa using e1) (by simpa using e2))
def tListVals (td : TE) : TE := fun σ H Q => td σ H fun x H1 => ∃ a kvs, x = V.ref a ∧ H1 a = some (.dK kvs) ∧ ∀ p, H1 p = none → Q (.ref p) (upd H1 p (.lst (kvs.map (·.2))))
theorem pe_listVals {X : Cx} {o : Expr} {p pos apos mpos : Pos} {td : TE} (hc : X.calm = true) (hg : Gl X "list") (hm : X.mg "list" = none) (hd : PE X o td) (hbase : attributeBase o "values" X.env (eval o X.env) = eval o X.env := by rfl) (hline : (apos.endLine == mpos.line) = true := by rfl)
    (na : starEach [Expr.Call (.Attribute o "values" apos) [] [] mpos] X.env = (false, eval (Expr.Call (.Attribute o "values" apos) [] [] mpos) X.env) :: starEach [] X.env := by rfl) :
    PE X (.Call (.Name "list" p) [.Call (.Attribute o "values" apos) [] [] mpos] [] pos) (tListVals td) := by
  refine ⟨fun pins s σ H Q I h => ?_⟩
  refine Call_ (ld_blt I hg hm boot_list (PyProof.Rows.callWith_type1 (args_cons (wpAny_Call_method0_late hbase hline (thn (hd.run pins s σ H _ I h) fun v s1 ⟨x, H1, I1, r1, a, kvs, ex, ha, q⟩ => ?_)) na) na))
  subst ex
  obtain rfl : v = Value.ref a := r1
  obtain ⟨hlen, hsys, vs, rel, dof⟩ := dk_of I1.hok ha
  obtain ⟨ep, dat⟩ := dof.dictAt
  have dat' := dat
  obtain ⟨ob, es, ho, ex, hdat, hko, hpr, hnd⟩ := dat'
  refine ⟨"dict", "dict.values", F.plainAttrs_dict, F.slot_dict_values, F.type_dict_values, ⟨ob, ho, ex.1⟩, fun b e => ?_, Calls.callWith_builtin rfl (PySem.evalArgs_none ?_)⟩
  · cases e
    exact ⟨ob, ho, ex.2.1⟩
  refine call_meetsIn F.slot_dict_values ⟨ob, ho, ex.1⟩ F.entry_dict_values (F.args_dict_values_1 _) (meets_dict_values (mixKind X.prog X.w) a hsys) ⟨⟨vs, dof⟩, args_nil ?_⟩
  have k1 : ∀ b u, s1.heap.get? b = some u → (s1.heap.push { cls := .type "dict_values", data := .fields #[.ref a] }).get? b = some u := fun b u e => Heap.get?_push_of_some _ e
  have dat1 : (s1.heap.push { cls := .type "dict_values", data := .fields #[.ref a] }).DictAt (mixKind X.prog X.w) a vs ep := dat.keep k1
  have hl : kvs.length = vs.length := KV.length rel
  have I2 : Inv X pins σ H1 { s1 with heap := s1.heap.push { cls := .type "dict_values", data := .fields #[.ref a] } } := I1.kept (t' := s1.toks) k1
  refine PySem.W.kdl_call (s := { s1 with heap := s1.heap.push { cls := .type "dict_values", data := .fields #[.ref a] } }) (PySem.W.kdl_values (knd := mixKind X.prog X.w) (d := a) (r := s1.heap.objs.size) (kvs := vs) (ep := ep)) (I1.ok.hd hc) ⟨⟨_, Heap.get?_push_size _ rfl, rfl, rfl⟩, dat1⟩ (by rw [← hl]; exact hlen) fun h' tk acc c' hk hD hacc => ?_
  refine ⟨.ref _, upd H1 (s1.heap.push { cls := .type "dict_values", data := .fields #[.ref a] }).objs.size (.lst (kvs.map (·.2))), I2.laid (t' := tk) hk (Nat.le_refl _) (show ObjOk X.prog X.w _ _ _ (.lst (kvs.map (·.2))) from ⟨by rw [List.length_map]; exact hlen, acc.toList, c', vals_get ?_ fun j x u e1 e2 => ?_, ?_⟩), rfl, q _ (I2.hok.fresh (Nat.le_refl _))⟩
  · exact (List.length_map ..).trans (hl.trans (hacc.1.symm.trans (Array.length_toList (xs := acc)).symm))
  · obtain ⟨k, hk2⟩ := hacc.2 j u (by rw [← Array.getElem?_toList]; exact e2)
    obtain ⟨y, h1, h2⟩ := KV.at' rel hk2
    rw [List.getElem?_map, h1] at e1
    cases e1
    exact h2
  · rw [Array.toArray_toList]
    exact hD
end VL
set_option Elab.async false
set_option linter.all false
set_option maxRecDepth 100000
set_option maxHeartbeats 4000000
namespace K52
open PySem PySem.Spec PyProof.Rows L2
open C8 (Cal Mak Met pe_c pe_mk pe_mt pe_mt0)
open KM (pr Sz)
open SX (S)
theorem ne_same (v : V) : (!decide (v = v)) = false := by simp
theorem num0 {r : Rat} : (pr r).1 = 0 ↔ r = 0 := Rat.num_eq_zero
section
variable {P : Program} {w : World} {K : PySem.W.Frag} {mg : Str → Option Value} {base : Heap} {f C : Addr} {fd : FuncData}
def spCE (C : Addr) : Sp := fun vs H Q _ => ∃ (d : Addr) (L : List Str) (c : Str → Rat), vs = [.ref d] ∧ SDc C H d L c ∧ L.length ≤ 20 ∧ (∀ x ∈ L, Sz 150 (c x)) ∧ sumR (L.map c) = 0 ∧ ∀ H', Same H H' → Q .non H'
theorem ok_ce (F : Dn K d_check_even f fd) (bl : Bl mg) (T : Cl K mg C) (cT : Cal P w K mg base 5 "total" (spTotal K C) [.int 0]) : FnOk P w K mg base CX0 6 f fd ["standing"] (spCE C) := by
  refine F.ok sc_check_even (fun vs H Q E h => ?_) (fun cdv A outer s H vs Q E hr h => ?_)
  · obtain ⟨d, L, c, rfl, _⟩ := h
    rfl
  · obtain ⟨d, L, c, rfl, ⟨ad, hd, hv⟩, ll, hz, h0, hQ⟩ := h
    refine ⟨_, PSs.nox (pss_cons (ps_set (i := 1) sc_check_even.nd rfl (.inl rfl) (pe_c cT hr (by decide) rfl (pa_cons (VL.pe_listVals rfl rfl bl.list (pv 0)) pa_nil)))
      (pss_one (ps_if (pt_cmpR op_ne (pe_fld (pv 1) rfl) pe_int (nomark _)) pss_never pss_nil))), ?_⟩
    refine ⟨_, rfl, d, _, rfl, hd, fun l fl => ?_⟩
    have sl := same_new (o := .lst ((L.map fun x => ((Sum.inr x : Key), V.ref (ad x))).map (·.2))) fl
    have el : ((L.map fun x => ((Sum.inr x : Key), V.ref (ad x))).map (·.2)) = (L.map fun x => (ad x, c x)).map fun y => V.ref y.1 := by rw [List.map_map, List.map_map]; rfl
    refine ⟨l, L.map fun x => (ad x, c x), 150, rfl, ⟨by rw [← el]; exact SqL.of upd_same, fun y hy => ?_⟩, fun y hy => ?_, by rw [List.length_map]; omega, by decide, fun t H2 s2 ft ht => ?_⟩
    · obtain ⟨x, hx, rfl⟩ := List.mem_map.mp hy
      exact (hv x hx).keep sl
    · obtain ⟨x, hx, rfl⟩ := List.mem_map.mp hy
      exact hz x hx
    · have e : ratsOf (L.map fun x => (ad x, c x)) = L.map c := by unfold ratsOf; rw [List.map_map]; rfl
      rw [e, h0] at ht
      obtain ⟨dt, ht⟩ := ht
      refine ⟨_, rfl, t, C, dt, _, _, rfl, ht, T.cl, T.nt, shF_top _, rfl, _, rfl, ?_⟩
      have e0 : (!decide (V.int (pr 0).1 = V.int 0)) = false := ne_same (V.int 0)
      rw [e0]
      refine iteF ?_
      exact hQ H2 (sl.trans s2)
end
end K52
set_option Elab.async false
set_option linter.all false
set_option maxRecDepth 100000
set_option maxHeartbeats 4000000
namespace K52
open PySem PySem.Spec PyProof.Rows L2
open C8 (Cal Mak Met pe_c pe_mk pe_mt pe_mt0)
open KM (pr Sz)
/-- a day that comes: where it stands, who rides, who is able to drive -/
structure Dy where
  a : Addr
  ra : Addr
  ba : Addr
  R : List Str
  B : List Str
structure DyOk (H : Hp) (d : Dy) : Prop where
  t : H d.a = some (.tup [.ref d.ra, .ref d.ba])
  r : H d.ra = some (.tup (d.R.map V.str))
  b : H d.ba = some (.tup (d.B.map V.str))
  nd : d.R.Nodup
  ne : d.R ≠ []
  l12 : d.R.length ≤ 12
  lb : d.B.length ≤ 12
  bn : d.B.Nodup
  bs : ∀ y ∈ d.B, y ∈ d.R
  bne : d.B ≠ []
theorem DyOk.same {H H' : Hp} {d : Dy} (h : DyOk H d) (s : Same H H') : DyOk H' d := ⟨s _ _ h.t, s _ _ h.r, s _ _ h.b, h.nd, h.ne, h.l12, h.lb, h.bn, h.bs, h.bne⟩
def DyL (H : Hp) (l : Addr) (ds : List Dy) : Prop := H l = some (.lst (ds.map fun d => V.ref d.a)) ∧ ∀ d ∈ ds, DyOk H d
theorem DyL.same {H H' : Hp} {l : Addr} {ds : List Dy} (h : DyL H l ds) (s : Same H H') : DyL H' l ds := ⟨s _ _ h.1, fun d hd => (h.2 d hd).same s⟩
/-- a part of a day -/
def prt (R : List Str) : Rat := Rat.divInt 1 (R.length : Nat)
/-- the puts of the days -/
def fr (ds : List Dy) : List (Str × Rat) := ds.flatMap fun d => d.R.map fun x => (x, prt d.R)
theorem fr_len {ds : List Dy} (h : ∀ d ∈ ds, d.R.length ≤ 12) : (fr ds).length ≤ 12 * ds.length := by
  induction ds with
  | nil => exact Nat.le_refl _
  | cons d ds ih =>
    have h1 := h d List.mem_cons_self
    have h2 := ih fun e he => h e (List.mem_cons_of_mem _ he)
    unfold fr at h2 ⊢
    rw [List.flatMap_cons, List.length_append, List.length_map, List.length_cons]
    omega
theorem sz_prt {R : List Str} (ne : R ≠ []) (l : R.length ≤ 12) : Sz 4 (prt R) := by
  have p := List.length_pos_iff.mpr ne
  have e : (2 : Nat) ^ 4 = 16 := by decide
  exact KM.sz_of_low (by omega) (by rw [e]; decide) (by rw [e, Int.natAbs_natCast]; omega)
theorem fr_sz {ds : List Dy} (h : ∀ d ∈ ds, d.R ≠ [] ∧ d.R.length ≤ 12) : ∀ p ∈ fr ds, Sz 4 p.2 := fun p hp => by
  obtain ⟨d, hd, h2⟩ := List.mem_flatMap.mp hp
  obtain ⟨x, hx, rfl⟩ := List.mem_map.mp h2
  exact sz_prt (h d hd).1 (h d hd).2
/-! ### in parts of 27720 -/
def Q27 (b : Nat) (v : Rat) : Prop := ∃ m : Int, m.natAbs ≤ b ∧ v = Rat.divInt m 27720
theorem q27_mono {b c : Nat} {v : Rat} (h : Q27 b v) (l : b ≤ c) : Q27 c v := let ⟨m, a, e⟩ := h; ⟨m, Nat.le_trans a l, e⟩
theorem q27_zero : Q27 0 0 := ⟨0, Nat.le_refl _, by rw [Rat.zero_divInt]⟩
theorem q27_add {b c : Nat} {u v : Rat} (hu : Q27 b u) (hv : Q27 c v) : Q27 (b + c) (u + v) := by
  obtain ⟨m, a, rfl⟩ := hu
  obtain ⟨n, d, rfl⟩ := hv
  refine ⟨m + n, by omega, ?_⟩
  rw [Rat.divInt_add_divInt _ _ (by decide) (by decide)]
  rw [Rat.divInt_eq_divInt_iff (by decide) (by decide)]
  simp only [Int.add_mul, Int.mul_assoc]
theorem q27_neg {b : Nat} {u : Rat} (hu : Q27 b u) : Q27 b (-u) := by
  obtain ⟨m, a, rfl⟩ := hu
  exact ⟨-m, by omega, by rw [Rat.neg_divInt]⟩
theorem q27_int (k : Int) : Q27 (27720 * k.natAbs) (Rat.divInt k 1) := by
  refine ⟨27720 * k, by omega, ?_⟩
  rw [Rat.divInt_eq_divInt_iff (by decide) (by decide)]
  omega
theorem q27_sz {n b : Nat} {v : Rat} (h : Q27 b v) (l : b < 2 ^ n) (p : 15 ≤ n) : Sz n v := by
  obtain ⟨m, a, rfl⟩ := h
  have e : (2 : Nat) ^ 15 = 32768 := by decide
  have e2 : (2 : Nat) ^ 15 ≤ 2 ^ n := Nat.pow_le_pow_right (by decide) p
  exact KM.sz_of_low (by decide) (by omega) (by show 27720 < _; omega)
theorem q27_part {n : Nat} (p : 0 < n) (l : n ≤ 12) : Q27 27720 (Rat.divInt 1 (n : Nat)) := by
  have go : ∀ n : Fin 13, 0 < n.val → (27720 / n.val) * n.val = 27720 ∧ 27720 / n.val ≤ 27720 := by decide
  obtain ⟨g1, g2⟩ := go ⟨n, by omega⟩ p
  refine ⟨((27720 / n : Nat) : Int), by rw [Int.natAbs_natCast]; exact g2, ?_⟩
  rw [Rat.divInt_eq_divInt_iff (by omega) (by decide)]
  have g1 : 27720 / n * n = 27720 := g1
  rw [Int.one_mul, ← Int.natCast_mul, g1]
  rfl
theorem q27_at {b : Nat} (x : Str) : ∀ {ms : List (Str × Rat)}, (∀ p ∈ ms, Q27 b p.2) → Q27 (b * ms.length) (at_ x ms)
  | [], _ => q27_mono q27_zero (Nat.zero_le _)
  | m :: ms, h => by
    have ih := q27_at x (ms := ms) fun p hp => h p (List.mem_cons_of_mem _ hp)
    have h0 : Q27 b (if m.1 = x then m.2 else 0) := by
      split
      · exact h m List.mem_cons_self
      · exact q27_mono q27_zero (Nat.zero_le _)
    have := q27_add h0 ih
    refine q27_mono this ?_
    rw [List.length_cons, Nat.mul_add, Nat.mul_one]
    omega
theorem fr_q27 {ds : List Dy} (h : ∀ d ∈ ds, d.R ≠ [] ∧ d.R.length ≤ 12) : ∀ p ∈ fr ds, Q27 27720 p.2 := fun p hp => by
  obtain ⟨d, hd, h2⟩ := List.mem_flatMap.mp hp
  obtain ⟨x, hx, rfl⟩ := List.mem_map.mp h2
  exact q27_part (List.length_pos_iff.mpr (h d hd).1) (h d hd).2
/-- what is wanted, as data -/
def wnt (ds : List Dy) (L : List Str) (c : Str → Rat) : List Str × (Str → Rat) := mvL (mvL ([], fun _ => 0) (fr ds)) (L.map fun x => (x, -(c x)))
section
variable {P : Program} {w : World} {K : PySem.W.Frag} {mg : Str → Option Value} {base : Heap} {f C N fN : Addr} {fd fdN : FuncData}
def spWa (C : Addr) : Sp := fun vs H Q _ => ∃ (d l : Addr) (L : List Str) (c : Str → Rat) (ds : List Dy), vs = [.ref d, .ref l] ∧ SDc C H d L c ∧ L.Nodup ∧ L.length ≤ 20 ∧ (∀ x ∈ L, Sz 100 (c x)) ∧ sumR (L.map c) = 0 ∧ DyL H l ds ∧ ds.length ≤ 60 ∧
  ∀ D H', Same H H' → H D = none → SDc C H' D (wnt ds L c).1 (wnt ds L c).2 → Q (.ref D) H'
theorem ok_wa (F : Dn K d_wanted f fd) (b : Bl mg) (MS : MakS P w K mg base C) (cE : Cal P w K mg base 6 "check_even" (spCE C) []) (cJ : Cal P w K mg base 5 "joined" (spJo C) []) (cT : Cal P w K mg base 5 "turned" (spTu C) []) :
    FnOk P w K mg base CX0 7 f fd ["standing", "days"] (spWa C) := by
  refine F.ok sc_wanted (fun vs H Q E h => ?_) (fun cdv A outer s H vs Q E hr h => ?_)
  · obtain ⟨_, _, _, _, _, rfl, _⟩ := h
    rfl
  · obtain ⟨d, l, L, c, ds, rfl, hS, nd, ll, hz, h0, hD, dl, hQ⟩ := h
    refine ⟨_, PSs.nox (pss_cons (ps_expr (pe_c cE hr (by decide) rfl (pa_cons (pv 0) pa_nil)))
      (pss_cons (ps_set (i := 2) sc_wanted.nd rfl (.inl rfl) (pe_c cJ hr (by decide) rfl (pa_cons pe_dnewK (pa_cons
        (pe_lc (own := [("riders", 3), ("able", 4)]) (g := gTup K 2 (gCons (gName 3) (gCons (gName 4) gNil))) (tt := tYes)
          (te := tDc (iTup K (tVar 3)) (gName 5) tYes (tVar 5) (tMake C (spInit C) [] C8.E0 (tCons (tC (.int 1)) (tCons (tCB (TI.rLen K) (tCons (tVar 3) tNil)) tNil))) [5])
          rfl sc_wanted.nd (pi_list (pv 1)) (blkOk_by (N := N_wanted) (sc := defScope s_wanted) (by decide +kernel))
          (fun _ _ _ _ _ => pg_tup rfl (pgs_cons (pg_name (i := 3) sc_wanted.nd rfl (.inr rfl)) (pgs_cons (pg_name (i := 4) sc_wanted.nd rfl (.inl rfl)) pgs_nil))) (fun _ _ _ _ _ => pts_nil)
          (fun _ _ _ _ _ => pe_dc (own := [("name", 5)]) (g := gName 5) (tt := tYes) rfl sc_wanted.nd (pi_tup (pv 3)) (blkOk_by (N := N_wanted) (sc := { kind := .function, names := [((".0" : Str), .local), ("riders", .cell), ("able", .local)], isGenerator := false, isCoroutine := false }) (by decide +kernel))
            (fun _ _ _ _ _ => pg_name (i := 5) sc_wanted.nd rfl (.inl rfl)) (fun _ _ _ _ _ => pts_nil) (fun _ _ _ _ _ => pv 5)
            (fun _ _ _ _ _ => pe_mk MS hr (by decide) rfl (pa_cons pe_int (pa_cons (pe_callB TI.call_lenK rfl b.len boot_len (pa_cons (pv 3) pa_nil)) pa_nil)))))
        pa_nil))))
      (pss_one (ps_ret (pe_c cJ hr (by decide) rfl (pa_cons (pv 2) (pa_cons (pe_lst (pa_cons (pe_c cT hr (by decide) rfl (pa_cons (pv 0) pa_nil)) pa_nil)) pa_nil))))))), ?_⟩
    have Sz20 : ∀ x ∈ L, Sz 150 (c x) := fun x hx => (hz x hx).mono (by decide)
    refine ⟨_, rfl, d, L, c, rfl, hS, ll, Sz20, h0, fun H1 s1 => ?_⟩
    have hD1 := hD.same s1
    intro e0 he0
    have se0 := same_new (o := .dK []) he0
    have hD2 := hD1.same se0
    have s2 := s1.trans se0
    have S0 : SDc C (upd H1 e0 (.dK [])) e0 [] (fun _ => 0) := ⟨fun _ => 0, upd_same, fun x hx => nomatch hx⟩
    generalize upd H1 e0 (.dK []) = H2 at hD2 s2 S0
    refine ⟨_, rfl, l, rfl, ⟨_, SqL.of hD2.1⟩, fun O hO => lc_list (K := K) (xs := ds.map fun d => V.ref d.a) (fun i H' => ∃ ms : List (Addr × List Str × (Str → Rat)), H' O = some (.lst (ms.map fun m => V.ref m.1)) ∧ (∀ m ∈ ms, SDc C H' m.1 m.2.1 m.2.2) ∧ puts ms = fr (ds.take i) ∧ ms.length = i ∧ Same H2 H')
      ⟨[], upd_same, fun m h => (nomatch h), rfl, rfl, same_new hO⟩ (fun i H' _ z => by obtain ⟨_, _, _, _, _, z⟩ := z; exact SqL.of (z _ _ hD2.1)) ?_ ?_⟩
    · rintro i v H3 hi ⟨ms, hO3, hms, ep, el, s3⟩
      rw [List.getElem?_map] at hi
      obtain ⟨y, hy, rfl⟩ := Option.map_eq_some_iff.mp hi
      have hym := List.mem_of_getElem? hy
      have il := (List.getElem?_eq_some_iff.mp hy).1
      have oy := (hD2.2 y hym).same s3
      have yp := List.length_pos_iff.mpr oy.ne
      refine ⟨y.a, _, rfl, SqT.of oy.t, rfl, _, _, rfl, _, _, rfl, rfl, rfl, ?_⟩
      refine ⟨_, rfl, y.ra, rfl, ⟨_, SqT.of oy.r⟩, fun D hDn => dc_tup (K := K) (xs := y.R.map V.str) (fun j H' => SDc C H' D (y.R.take j) (fun _ => prt y.R) ∧ Same H3 H') ⟨⟨fun _ => 0, upd_same, fun x hx => by simp at hx⟩, same_new hDn⟩ (fun j H' _ z => SqT.of (z.2 _ _ oy.r)) ?_ ?_⟩
      · rintro j v H4 hj ⟨⟨a4, hD4, hv4⟩, s4⟩
        rw [List.getElem?_map] at hj
        obtain ⟨z, hz0, rfl⟩ := Option.map_eq_some_iff.mp hj
        refine ⟨rfl, _, rfl, ?_⟩
        refine ⟨_, rfl, y.ra, _, rfl, .inr (SqT.of (s4 _ _ oy.r)), ?_⟩
        intro t dt nt ndt ne
        have lm : ((y.R.map V.str).length) = y.R.length := List.length_map _
        have e16 : (2 : Nat) ^ 4 = 16 := by decide
        have l12 := oy.l12
        refine mk_in (n := 4) (t := 1) (b := (((y.R.map V.str).length : Nat) : Int)) nt ndt (by rw [lm]; omega) (by rw [e16, lm, Int.natAbs_natCast]; omega) (by decide) (by decide) fun H5 s5 ht => ⟨rfl, ?_⟩
        rw [lm] at ht
        have hD5 := s5 _ _ hD4
        refine ⟨_, Sum.inr z, rfl, hD5, by rw [List.length_map, List.length_take]; exact line_lt (by have := oy.l12; omega), SDc.more (c := fun _ => prt y.R) oy.nd hz0 hD5 (fun x hx => (hv4 x hx).keep s5) ht, fun b o e => ?_⟩
        rw [upd_ne (ne_of_none e hDn)]
        exact s5 _ _ (s4 _ _ e)
      rintro H4 ⟨S4, s4⟩
      rw [List.length_map, List.take_length] at S4
      have hO4 := s4 _ _ hO3
      refine ⟨_, hO4, by rw [List.length_map, el]; exact line_lt (by omega), ms ++ [(D, y.R, fun _ => prt y.R)], ?_, fun m hm => ?_, ?_, by rw [List.length_append, el]; rfl, fun b o e => ?_⟩
      · rw [upd_same, List.map_append]
        rfl
      · rcases List.mem_append.mp hm with hm | hm
        · exact ((hms m hm).same s4).un hO4
        · rw [List.mem_singleton.mp hm]
          exact S4.un hO4
      · rw [puts_app, ep, puts_one, take_one hy]
        unfold fr
        rw [List.flatMap_append]
        simp
      · rw [upd_ne (ne_of_none e hO)]
        exact s4 _ _ (s3 _ _ e)
    rintro H3 ⟨ms, hO3, hms, ep, el, s3⟩
    rw [List.length_map, List.take_length] at ep
    have fl := fr_len fun y hy => (hD.2 y hy).l12
    have fz := fr_sz fun y hy => ⟨(hD.2 y hy).ne, (hD.2 y hy).l12⟩
    refine ⟨e0, O, [], fun _ => 0, ms, 1, 4, rfl, S0.same s3, List.nodup_nil, ⟨hO3, hms⟩, fun x hx => (nomatch hx), by decide, by rw [ep]; exact fz, by rw [ep]; omega, by decide, by rw [ep]; show 0 + _ ≤ _; omega, fun D1 H4 s4 f4 S1 => ?_⟩
    rw [ep] at S1
    have g0 : ∀ x, Sz 1 (get0 [] (fun _ => (0 : Rat)) x) := fun x => sz0 (by decide)
    have gz : ∀ x, Sz 26 (get0 (mvL ([], fun _ => 0) (fr ds)).1 (mvL ([], fun _ => 0) (fr ds)).2 x) := fun x => by
      rw [mvL_val]
      have := q27_at x (fr_q27 (ds := ds) fun y hy => ⟨(hD.2 y hy).ne, (hD.2 y hy).l12⟩)
      show Sz 26 (0 + _)
      rw [Rat.zero_add]
      refine q27_sz this ?_ (by decide)
      have e : (2 : Nat) ^ 26 = 67108864 := by decide
      omega
    have nd1 : (mvL ([], fun _ => 0) (fr ds)).1.Nodup := mvL_nd _ _ List.nodup_nil
    have l1 : (mvL ([], fun _ => 0) (fr ds)).1.length ≤ 0 + (fr ds).length := mvL_len _ _
    have s24 := s3.trans s4
    have s04 := s2.trans s24
    refine ⟨_, rfl, _, rfl, d, L, c, rfl, hS.same s04, nd, by omega, fun x hx => (hz x hx).mono (by decide), fun D2 H5 s5 f5 S2 => ?_⟩
    refine ⟨by show 1 ≤ sizeLine; decide, fun M fM => ?_⟩
    have sM := same_new (o := .lst [V.ref D2]) fM
    have zn : ∀ x ∈ L, Sz 100 (-(c x)) := fun x hx => sz_neg (hz x hx)
    refine ⟨D1, M, _, _, [(D2, L, fun x => -(c x))], 26, 100, rfl, (S1.same s5).same sM, nd1, ⟨upd_same, fun m hm => ?_⟩, fun x hx => ?_, by decide, fun p hp => ?_, ?_, by decide, ?_, fun D3 H6 s6 f6 S3 => ?_⟩
    · rw [List.mem_singleton.mp hm]
      exact S2.same sM
    · have := gz x
      rw [get0_in hx] at this
      exact this.mono (by omega)
    · rw [puts_one] at hp
      obtain ⟨x, hx, rfl⟩ := List.mem_map.mp hp
      exact zn x hx
    · rw [puts_one, List.length_map]
      show 26 + (100 + 1) * L.length ≤ 3900
      omega
    · rw [puts_one, List.length_map]
      show _ + L.length ≤ 3000
      omega
    · rw [puts_one] at S3
      have s56 := (s5.trans sM).trans s6
      exact hQ D3 H6 (s04.trans s56) (s04.free ((s5.trans sM).free f6)) S3
end
end K52
set_option Elab.async false
set_option linter.all false
set_option maxRecDepth 100000
set_option maxHeartbeats 4000000
/-! FW: who drives which day, handed along a way (the mathematics of find_way, pass_along, fill_days, raise_to_leasts). -/
namespace FW
open PySem
/-! ### counting -/
theorem countP_cons_mem {x : Str} {S : List Str} (hx : x ∉ S) : ∀ l : List Str, l.countP (fun y => decide (y ∈ x :: S)) = l.count x + l.countP (fun y => decide (y ∈ S))
  | [] => rfl
  | y :: l => by
    have ih := countP_cons_mem hx l
    rw [List.countP_cons, List.countP_cons, List.count_cons, ih]
    by_cases e : y = x
    · subst e
      simp [hx]
      omega
    · by_cases m : y ∈ S <;> simp [e, m] <;> omega
theorem sum_count : ∀ {S : List Str} (nd : S.Nodup) (l : List Str), (S.map fun x => ((l.count x : Nat) : Int)).sum = ((l.countP fun y => decide (y ∈ S) : Nat) : Int)
  | [], _, l => by
    have : l.countP (fun y => decide (y ∈ ([] : List Str))) = 0 := by
      rw [List.countP_eq_zero]
      intro a _
      simp
    rw [this]
    rfl
  | x :: S, nd, l => by
    obtain ⟨hx, nd⟩ := List.nodup_cons.mp nd
    rw [List.map_cons, List.sum_cons, sum_count nd l, countP_cons_mem hx]
    omega
theorem sum_le {f g : Str → Int} : ∀ {S : List Str}, (∀ x ∈ S, f x ≤ g x) → (S.map f).sum ≤ (S.map g).sum
  | [], _ => Int.le_refl _
  | x :: S, h => by
    have h1 := h x List.mem_cons_self
    have h2 := sum_le (S := S) fun y hy => h y (List.mem_cons_of_mem _ hy)
    rw [List.map_cons, List.map_cons, List.sum_cons, List.sum_cons]
    omega
theorem sum_lt {f g : Str → Int} {n : Str} : ∀ {S : List Str}, (∀ x ∈ S, f x ≤ g x) → n ∈ S → f n < g n → (S.map f).sum < (S.map g).sum
  | x :: S, h, hm, hl => by
    have h1 := h x List.mem_cons_self
    have h2 := sum_le (S := S) fun y hy => h y (List.mem_cons_of_mem _ hy)
    rw [List.map_cons, List.map_cons, List.sum_cons, List.sum_cons]
    rcases List.mem_cons.mp hm with e | hm
    · subst e
      omega
    · have := sum_lt (S := S) (fun y hy => h y (List.mem_cons_of_mem _ hy)) hm hl
      omega
theorem countP_two {p : Str → Bool} : ∀ {l m : List Str}, l.length ≤ m.length → (∀ (k : Nat) (a b : Str), l[k]? = some a → m[k]? = some b → p a = true → p b = true) → l.countP p ≤ m.countP p
  | [], m, _, _ => by simp
  | a :: l, [], h, _ => by simp at h
  | a :: l, b :: m, hl, h => by
    have ih := countP_two (p := p) (l := l) (m := m) (by simpa using hl) fun k a b e1 e2 => h (k + 1) a b (by simpa using e1) (by simpa using e2)
    have h0 := h 0 a b rfl rfl
    rw [List.countP_cons, List.countP_cons]
    by_cases ha : p a = true
    · rw [if_pos ha, if_pos (h0 ha)]
      omega
    · rw [if_neg ha]
      omega
def one (b : Prop) [Decidable b] : Int := if b then 1 else 0
theorem count_one (x z : Str) (l : List Str) : (((x :: l).count z : Nat) : Int) = (l.count z : Nat) + one (z = x) := by
  rw [List.count_cons]
  unfold one
  by_cases e : z = x
  · have : (x == z) = true := by rw [e]; exact beq_self_eq_true x
    rw [if_pos this, if_pos e]
    omega
  · have : ¬ ((x == z) = true) := fun q => e (eq_of_beq q).symm
    rw [if_neg this, if_neg e]
    omega
theorem count_set' : ∀ {l : List Str} {i : Nat} {a o z : Str}, l[i]? = some o → (((l.set i a).count z : Nat) : Int) = (l.count z : Nat) - one (z = o) + one (z = a)
  | [], i, a, o, z, h => by cases h
  | x :: l, 0, a, o, z, h => by
    have e : x = o := Option.some.inj h
    subst e
    rw [List.set_cons_zero, count_one, count_one]
    omega
  | x :: l, i + 1, a, o, z, h => by
    have ih := count_set' (l := l) (i := i) (a := a) (o := o) (z := z) h
    rw [List.set_cons_succ, count_one, count_one, ih]
    omega
/-! ### drivers on days -/
/-- each driver is able on its day -/
def Fits (A : List (List Str)) (ds : List Str) : Prop := ds.length ≤ A.length ∧ ∀ (k : Nat) (d : Str) (a : List Str), ds[k]? = some d → A[k]? = some a → d ∈ a
/-- a step from x to o: day d changes to the driver t (g: x gives it to o; else x takes it from o) -/
def Stp (g : Bool) (A : List (List Str)) (ds : List Str) (x o : Str) (d : Nat) (t : Str) : Prop := ds[d]? = some (if g then x else o) ∧ t = (if g then o else x) ∧ ∃ a, A[d]? = some a ∧ t ∈ a
abbrev Par := Str → Option (Str × Nat × Str)
/-- what is found so far: W in its order, each with where it came from -/
structure Tr (g : Bool) (A : List (List Str)) (ds starts W : List Str) (par : Par) : Prop where
  nd : W.Nodup
  st : ∀ x ∈ starts, x ∈ W
  ro : ∀ x ∈ W, par x = none → x ∈ starts
  up : ∀ x ∈ W, ∀ p d t, par x = some (p, d, t) → Stp g A ds p x d t ∧ p ∈ W ∧ W.idxOf p < W.idxOf x
/-- on the way back from e: at x the drivers are cur -/
structure WI (g : Bool) (A : List (List Str)) (ds W : List Str) (e x : Str) (cur : List Str) : Prop where
  mem : x ∈ W
  fit : Fits A cur
  len : cur.length = ds.length
  cnt : ∀ z, ((cur.count z : Nat) : Int) = (ds.count z : Nat) + (if g then one (z = e) - one (z = x) else one (z = x) - one (z = e))
  old : ∀ k : Nat, cur[k]? ≠ ds[k]? → ∃ o, ds[k]? = some o ∧ W.idxOf x < W.idxOf o + (if g then 1 else 0)
theorem WI.start {g : Bool} {A : List (List Str)} {ds W : List Str} {e : Str} (h : e ∈ W) (f : Fits A ds) : WI g A ds W e e ds :=
  ⟨h, f, rfl, fun z => by cases g <;> simp, fun k n => absurd rfl n⟩
theorem WI.step {g : Bool} {A : List (List Str)} {ds starts W cur : List Str} {par : Par} {e x p t : Str} {d : Nat} (T : Tr g A ds starts W par) (h : WI g A ds W e x cur) (hp : par x = some (p, d, t)) : d < cur.length ∧ WI g A ds W e p (cur.set d t) := by
  obtain ⟨⟨s1, s2, a, s3, s4⟩, pm, lt⟩ := T.up x h.mem p d t hp
  have hd : d < ds.length := (List.getElem?_eq_some_iff.mp s1).1
  have same : cur[d]? = ds[d]? := by
    by_cases q : cur[d]? = ds[d]?
    · exact q
    · obtain ⟨o, e1, e2⟩ := h.old d q
      rw [s1] at e1
      have e1 := Option.some.inj e1
      cases g
      · simp only [Bool.false_eq_true, if_false] at e1 e2
        subst e1
        omega
      · simp only [if_true] at e1 e2
        subst e1
        omega
  refine ⟨by rw [h.len]; exact hd, pm, ⟨by rw [List.length_set]; exact h.fit.1, fun k y b e1 e2 => ?_⟩, by rw [List.length_set]; exact h.len, fun z => ?_, fun k n => ?_⟩
  · by_cases q : k = d
    · subst q
      rw [List.getElem?_set_self (by rw [h.len]; exact hd)] at e1
      rw [s3] at e2
      cases e1
      cases e2
      exact s4
    · rw [List.getElem?_set_ne (Ne.symm q)] at e1
      exact h.fit.2 k y b e1 e2
  · rw [count_set' (same.trans s1), h.cnt z, s2]
    cases g
    · simp only [Bool.false_eq_true, if_false, one]
      omega
    · simp only [if_true, one]
      omega
  · by_cases q : k = d
    · subst q
      refine ⟨_, s1, ?_⟩
      cases g
      · simpa using lt
      · simp
    · rw [List.getElem?_set_ne (Ne.symm q)] at n
      obtain ⟨o, e1, e2⟩ := h.old k n
      exact ⟨o, e1, by omega⟩
/-! ### where no way is found -/
/-- W is closed under steps -/
def Shut (g : Bool) (A : List (List Str)) (ds W : List Str) : Prop := ∀ x ∈ W, ∀ o d t, Stp g A ds x o d t → o ∈ W
theorem count_take (l : List Str) (n : Nat) (z : Str) : (l.take n).count z ≤ l.count z := (List.take_sublist n l).count_le z
theorem fill_stuck {A : List (List Str)} {ds W e : List Str} {a : List Str} {M : Str → Int} (nd : W.Nodup) (fd : Fits A ds) (ha : A[ds.length]? = some a) (st : ∀ x ∈ a, x ∈ W) (sh : Shut true A ds W) (full : ∀ x ∈ W, M x ≤ (ds.count x : Nat))
    (fe : Fits A e) (le : e.length = A.length) (ce : ∀ x ∈ W, ((e.count x : Nat) : Int) ≤ M x) : False := by
  have hn : ds.length < A.length := (List.getElem?_eq_some_iff.mp ha).1
  have h1 : ((W.map fun x => (((e.take (ds.length + 1)).count x : Nat) : Int)).sum) ≤ (W.map fun x => ((ds.count x : Nat) : Int)).sum := sum_le fun x hx => by
    have h1 := ce x hx
    have h2 := full x hx
    have h3 := count_take e (ds.length + 1) x
    omega
  rw [sum_count nd, sum_count nd] at h1
  have ex : ∃ b, e[ds.length]? = some b := ⟨_, List.getElem?_eq_getElem (by omega)⟩
  obtain ⟨b, hb⟩ := ex
  have bW : b ∈ W := st b (fe.2 _ b a hb ha)
  have e1 : e.take (ds.length + 1) = e.take ds.length ++ [b] := by
    rw [List.take_add_one, hb]
    rfl
  rw [e1, List.countP_append] at h1
  have h2 : ds.countP (fun y => decide (y ∈ W)) ≤ (e.take ds.length).countP (fun y => decide (y ∈ W)) := by
    refine countP_two (by rw [List.length_take]; omega) fun k x y ex ey px => ?_
    have px : x ∈ W := by simpa using px
    have hk : k < ds.length := (List.getElem?_eq_some_iff.mp ex).1
    rw [List.getElem?_take_of_lt hk] at ey
    have : ∃ c, A[k]? = some c := ⟨_, List.getElem?_eq_getElem (by omega)⟩
    obtain ⟨c, hc⟩ := this
    have : y ∈ W := sh x px y k y ⟨ex, rfl, c, hc, fe.2 k y c ey hc⟩
    simpa using this
  have h3 : ([b].countP fun y => decide (y ∈ W)) = 1 := by simp [bW]
  rw [h3] at h1
  omega
theorem raise_stuck {A : List (List Str)} {ds W e : List Str} {n : Str} {M : Str → Int} (nd : W.Nodup) (fd : Fits A ds) (ld : ds.length = A.length) (hn : n ∈ W) (sh : Shut false A ds W) (few : ∀ x ∈ W, ((ds.count x : Nat) : Int) ≤ M x) (less : ((ds.count n : Nat) : Int) < M n)
    (fe : Fits A e) (le : e.length = A.length) (ce : ∀ x ∈ W, M x ≤ ((e.count x : Nat) : Int)) : False := by
  have h1 : (W.map fun x => ((ds.count x : Nat) : Int)).sum < (W.map fun x => ((e.count x : Nat) : Int)).sum := sum_lt (n := n) (fun x hx => Int.le_trans (few x hx) (ce x hx)) hn (Int.lt_of_lt_of_le less (ce n hn))
  rw [sum_count nd, sum_count nd] at h1
  have h2 : e.countP (fun y => decide (y ∈ W)) ≤ ds.countP (fun y => decide (y ∈ W)) := by
    refine countP_two (by omega) fun k x y ex ey px => ?_
    have px : x ∈ W := by simpa using px
    have hk : k < ds.length := (List.getElem?_eq_some_iff.mp ey).1
    have : ∃ c, A[k]? = some c := ⟨_, List.getElem?_eq_getElem (by omega)⟩
    obtain ⟨c, hc⟩ := this
    have : y ∈ W := sh x px y k x ⟨ey, rfl, c, hc, fe.2 k x c ex hc⟩
    simpa using this
  omega
end FW
set_option Elab.async false
set_option linter.all false
set_option maxRecDepth 100000
set_option maxHeartbeats 4000000
/-! ITG: an iteration within a comprehension, of any body (both of [.. for .. for ..]). -/
namespace ITG
open PySem PySem.Spec PyProof.Rows L2
theorem it_gen {J : It} {n : Nat} {G : Hp → Prop} {Y : Nat → Hp → V → Hp → Prop} (w : Walk J n G Y) {H0 : Hp} {Qd : Hp → Prop} {Body : V → Hp → (Hp → Prop) → Prop} (Pv : Nat → Hp → Prop) (h0 : Pv 0 H0) (hG : ∀ i H, i ≤ n → Pv i H → G H)
    (hs : ∀ i x H H', i < n → Pv i H → Y i H x H' → Body x H' (Pv (i + 1))) (hd : ∀ H, Pv n H → Qd H) :
    ∃ W : Nat → Nat → Hp → Prop, (∃ m, W 0 m H0) ∧ ∀ i m H, W i m H → (J.stop i H ∧ Qd H) ∨ (J.go i H ∧ ∃ Nx : Hp → Prop, (∀ H', Nx H' → ∃ m', m' < m ∧ W (i + 1) m' H') ∧ ∀ x H', J.yld i H x H' → Body x H' Nx) := by
  refine ⟨fun i m H => m = n - i ∧ i ≤ n ∧ Pv i H, ⟨n, by simp, Nat.zero_le _, h0⟩, ?_⟩
  rintro i m H ⟨rfl, hi, p⟩
  have q := hG i H hi p
  by_cases hlt : i < n
  · exact .inr ⟨w.goes i H hlt q, Pv (i + 1), fun H' p' => ⟨n - (i + 1), by omega, rfl, hlt, p'⟩, fun x H' y => hs i x H H' hlt p (w.yields i H x H' hlt q y)⟩
  · have e : i = n := by omega
    subst e
    exact .inl ⟨w.stops H q, hd H p⟩
end ITG
set_option Elab.async false
set_option linter.all false
set_option maxRecDepth 100000
set_option maxHeartbeats 4000000
namespace K52
open PySem PySem.Spec PyProof.Rows L2
open C8 (Cal Mak Met pe_c pe_mk pe_mt pe_mt0)
open FW (Stp)
theorem sat_ {F : List Str} {i : Nat} {v : V} (hv : (F.map V.str)[i]? = some v) : ∃ x, F[i]? = some x ∧ v = .str x := by
  rw [List.getElem?_map] at hv
  obtain ⟨x, hx, e⟩ := Option.map_eq_some_iff.mp hv
  exact ⟨x, hx, e.symm⟩
/-! ### the steps of a name -/
abbrev Sg := Str × Nat × Str
def tG (z : Sg) : HO := .tup [.str z.1, .int (z.2.1 : Nat), .str z.2.2]
def gvk (A : List (List Str)) (ds : List Str) (x : Str) (k : Nat) : List Sg := if ds[k]? = some x then ((A[k]?).getD []).map fun o => (o, k, o) else []
def tkk (A : List (List Str)) (ds : List Str) (x : Str) (k : Nat) : List Sg := if x ∈ (A[k]?).getD [] then ((ds[k]?).map fun o => (o, k, x)).toList else []
def stk (g : Bool) (A : List (List Str)) (ds : List Str) (x : Str) (k : Nat) : List Sg := if g then gvk A ds x k else tkk A ds x k
def stps (g : Bool) (A : List (List Str)) (ds : List Str) (x : Str) (n : Nat) : List Sg := (List.range n).flatMap (stk g A ds x)
theorem stps_snoc (g : Bool) (A : List (List Str)) (ds : List Str) (x : Str) (n : Nat) : stps g A ds x (n + 1) = stps g A ds x n ++ stk g A ds x n := by
  unfold stps
  rw [List.range_succ, List.flatMap_append]
  simp
theorem mem_stk {g : Bool} {A : List (List Str)} {ds : List Str} {x o t : Str} {k d : Nat} : (o, d, t) ∈ stk g A ds x k ↔ d = k ∧ Stp g A ds x o k t := by
  unfold stk Stp
  cases g
  · simp only [Bool.false_eq_true, if_false]
    unfold tkk
    constructor
    · intro h
      split at h
      · rename_i hx
        cases e : ds[k]? with
        | none => rw [e] at h; cases h
        | some y =>
          rw [e] at h
          have h := List.mem_singleton.mp h
          cases h
          refine ⟨rfl, rfl, rfl, ?_⟩
          cases ea : A[k]? with
          | none => rw [ea] at hx; cases hx
          | some a => rw [ea] at hx; exact ⟨a, rfl, hx⟩
      · cases h
    · rintro ⟨rfl, h1, rfl, a, h2, h3⟩
      rw [h2, h1]
      rw [if_pos (show t ∈ (some a).getD [] from h3)]
      exact List.mem_singleton.mpr rfl
  · simp only [if_true]
    unfold gvk
    constructor
    · intro h
      split at h
      · rename_i hx
        obtain ⟨y, hy, e⟩ := List.mem_map.mp h
        cases e
        refine ⟨rfl, hx, rfl, ?_⟩
        cases ea : A[k]? with
        | none => rw [ea] at hy; cases hy
        | some a => rw [ea] at hy; exact ⟨a, rfl, hy⟩
      · cases h
    · rintro ⟨rfl, h1, rfl, a, h2, h3⟩
      rw [h2, if_pos h1]
      exact List.mem_map.mpr ⟨t, h3, rfl⟩
theorem mem_stps {g : Bool} {A : List (List Str)} {ds : List Str} {x o t : Str} {d : Nat} : (o, d, t) ∈ stps g A ds x ds.length ↔ Stp g A ds x o d t := by
  unfold stps
  rw [List.mem_flatMap]
  constructor
  · rintro ⟨k, hk, h⟩
    obtain ⟨rfl, h⟩ := mem_stk.mp h
    exact h
  · intro h
    refine ⟨d, List.mem_range.mpr (List.getElem?_eq_some_iff.mp h.1).1, mem_stk.mpr ⟨rfl, h⟩⟩
theorem stps_len {g : Bool} {A : List (List Str)} {ds : List Str} {x : Str} (h : ∀ a ∈ A, a.length ≤ 12) (n : Nat) : (stps g A ds x n).length ≤ 12 * n := by
  induction n with
  | zero => exact Nat.le_refl _
  | succ n ih =>
    rw [stps_snoc, List.length_append]
    have : (stk g A ds x n).length ≤ 12 := by
      unfold stk
      cases g
      · simp only [Bool.false_eq_true, if_false]
        unfold tkk
        split
        · cases ds[n]? <;> simp
        · simp
      · simp only [if_true]
        unfold gvk
        split
        · rw [List.length_map]
          cases e : A[n]? with
          | none => simp
          | some a => exact h a (List.mem_of_getElem? e)
        · simp
    omega
/-- a list of steps -/
def TsL (H : Hp) (o : Addr) (gs : List Sg) : Prop := ∃ zs : List (Addr × Sg), zs.map (·.2) = gs ∧ H o = some (.lst (zs.map fun z => V.ref z.1)) ∧ ∀ z ∈ zs, H z.1 = some (tG z.2)
theorem TsL.nil {H : Hp} {o : Addr} (h : H o = some (.lst [])) : TsL H o [] := ⟨[], rfl, h, fun _ h => (nomatch h)⟩
theorem TsL.keep {H H' : Hp} {o : Addr} {gs : List Sg} (h : TsL H o gs) (s : Same H H') : TsL H' o gs := let ⟨zs, a, b, c⟩ := h; ⟨zs, a, s _ _ b, fun z hz => s _ _ (c z hz)⟩
theorem TsL.add {H : Hp} {o t : Addr} {gs : List Sg} {z : Sg} (h : TsL H o gs) (ht : H t = some (tG z)) : ∃ xs : List V, H o = some (.lst xs) ∧ xs.length = gs.length ∧ TsL (upd H o (.lst (xs ++ [.ref t]))) o (gs ++ [z]) := by
  obtain ⟨zs, a, b, c⟩ := h
  refine ⟨_, b, by rw [List.length_map, ← a, List.length_map], zs ++ [(t, z)], by rw [List.map_append, a]; rfl, by rw [upd_same, List.map_append]; rfl, fun y hy => ?_⟩
  have n : ∀ y : Addr × Sg, H y.1 = some (tG y.2) → (upd H o (.lst (zs.map (fun z => V.ref z.1) ++ [.ref t]))) y.1 = some (tG y.2) := fun y e => by
    rw [upd_ne (ne_of e b (by intro q; cases q))]
    exact e
  rcases List.mem_append.mp hy with q | q
  · exact n y (c y q)
  · rw [List.mem_singleton.mp q]
    exact n (t, z) ht
/-- the able ones of the days -/
abbrev abl (ds : List Dy) : List (List Str) := ds.map (·.B)
section
variable {P : Program} {w : World} {K : PySem.W.Frag} {mg : Str → Option Value} {base : Heap} {f C : Addr} {fd : FuncData}
def spDg (g : Bool) : Sp := fun vs H Q _ => ∃ (l r : Addr) (x : Str) (ys : List Dy) (ds : List Str), vs = [.ref l, .ref r, .str x] ∧ DyL H l ys ∧ H r = some (.lst (ds.map V.str)) ∧ ds.length ≤ ys.length ∧ ys.length ≤ 60 ∧
  ∀ o H', Same H H' → H o = none → TsL H' o (stps g (abl ys) ds x ds.length) → Q (.ref o) H'
theorem ok_dg (F : Dn K d_drives_given f fd) (ben : mg "enumerate" = none) : FnOk P w K mg base CX0 1 f fd ["days", "drivers", "name"] (spDg true) := by
  refine F.ok sc_drives_given (fun vs H Q E h => ?_) (fun cdv A outer s H vs Q E hr h => ?_)
  · obtain ⟨_, _, _, _, _, rfl, _⟩ := h
    rfl
  · obtain ⟨l, r, x, ys, ds, rfl, hl, hd, ld, ly, hQ⟩ := h
    refine ⟨_, PSs.nox (pss_one (ps_ret (pe_lc2 (own := [("at", 3), ("driver", 4), ("other", 5)]) (g := gTup K 2 (gCons (gName 3) (gCons (gName 4) gNil))) (g1 := gName 5) (tt1 := tYes) (vs1 := [5]) rfl sc_drives_given.nd (pi_enum rfl ben (pa_cons (pv 1) pa_nil)) (blkOk_by (N := N_drives_given) (sc := defScope s_drives_given) (by decide +kernel)) (by decide)
        (fun _ _ _ _ _ => pg_tup rfl (pgs_cons (pg_name (i := 3) sc_drives_given.nd rfl (Or.inl rfl)) (pgs_cons (pg_name (i := 4) sc_drives_given.nd rfl (Or.inl rfl)) pgs_nil))) (fun _ _ _ _ _ => pts_one (pt_cmpR op_eq (pv 4) (pv 2) (nomark _)))
        (fun _ _ _ _ _ => (show PI _ _ _ (iTup K (tOp (rIxT K) (tOp (rIxL K) (tVar 0) (tVar 3)) (tC (.int 1)))) from pi_tup (pe_ix ix_tup (pe_ix ix_list (pv 0) (pv 3) (fun _ _ => rfl)) pe_int (fun _ _ => rfl)))) (fun _ _ _ _ _ => pg_name (i := 5) sc_drives_given.nd rfl (Or.inl rfl)) (fun _ _ _ _ _ => pts_nil) (fun _ _ _ _ _ => pe_tup (pa_cons (pv 5) (pa_cons (pv 3) (pa_cons (pv 5) pa_nil))))))), ?_⟩
    refine ⟨_, rfl, r, _, rfl, SqL.of hd, fun D fD => ?_⟩
    have l12 : ∀ a ∈ abl ys, a.length ≤ 12 := fun a ha => by
      obtain ⟨y, hy, rfl⟩ := List.mem_map.mp ha
      exact (hl.2 y hy).lb
    refine ITG.it_gen (walk_enum (K := K) (a := r) (xs := ds.map V.str)) (fun i G => TsL G D (stps true (abl ys) ds x i) ∧ Same H G) ⟨TsL.nil upd_same, same_new fD⟩ (fun i G _ z => SqL.of (z.2 _ _ hd)) ?_ ?_
    · rintro i v G G' hi ⟨hD, sG⟩ ⟨Tp, x1, x2, rfl, hT, rfl, e1, e2⟩
      cases e1
      obtain ⟨z, hz, rfl⟩ := sat_ e2
      have il := (List.getElem?_eq_some_iff.mp hz).1
      have sT := same_new (o := .tup [V.int (i : Nat), V.str z]) hT
      refine ⟨Tp, _, rfl, SqT.of upd_same, rfl, _, _, rfl, _, _, rfl, rfl, rfl, ?_⟩
      have hD1 := hD.keep sT
      have s1 := sG.trans sT
      generalize upd G Tp (.tup [V.int (i : Nat), V.str z]) = G1 at hD1 s1 ⊢
      refine ⟨_, rfl, _, rfl, rfl, _, rfl, ?_⟩
      obtain ⟨y, hy⟩ : ∃ y, ys[i]? = some y := ⟨_, List.getElem?_eq_getElem (by omega)⟩
      have hym := List.mem_of_getElem? hy
      have oy := (hl.2 y hym).same s1
      have hA : (abl ys)[i]? = some y.B := by rw [List.getElem?_map, hy]; rfl
      refine ite2 (fun c1 => ?_) (fun c1 => ?_)
      · have c2 : z = x := by simpa using c1
        have ek : stk true (abl ys) ds x i = y.B.map fun o => (o, i, o) := by
          unfold stk gvk
          rw [if_pos rfl, hz, if_pos (by rw [c2]), hA]
          rfl
        refine ⟨_, rfl, _, rfl, l, _, _, _, rfl, rfl, SqL.of (s1 _ _ hl.1), atI_nat (by rw [List.getElem?_map, hy]; rfl), y.a, _, _, _, rfl, rfl, SqT.of oy.t, rfl, y.ba, rfl, ⟨_, SqT.of oy.b⟩, ?_⟩
        have hD0 : TsL G1 D (stps true (abl ys) ds x i ++ (y.B.take 0).map fun o => (o, i, o)) := by
          rw [List.take_zero, List.map_nil, List.append_nil]
          exact hD1
        refine ITG.it_gen (walk_tup (K := K) (xs := y.B.map V.str)) (fun j G2 => TsL G2 D (stps true (abl ys) ds x i ++ (y.B.take j).map fun o => (o, i, o)) ∧ Same H G2 ∧ G2 y.ba = some (.tup (y.B.map V.str))) ⟨hD0, s1, oy.b⟩ (fun j G2 _ z => SqT.of z.2.2) ?_ ?_
        · rintro j v G2 G3 hj ⟨hD2, s2, hb2⟩ ⟨rfl, hv⟩
          obtain ⟨o, ho, rfl⟩ := sat_ hv
          have jl := (List.getElem?_eq_some_iff.mp ho).1
          refine ⟨rfl, _, rfl, _, rfl, _, rfl, by show 3 ≤ sizeLine; decide, fun t ft => ?_⟩
          have st := same_new (o := .tup [V.str o, V.int (i : Nat), V.str o]) ft
          have hD3 := hD2.keep st
          have ht : (upd G3 t (.tup [V.str o, V.int (i : Nat), V.str o])) t = some (tG (o, i, o)) := upd_same
          have hb3 := st _ _ hb2
          have s3 := s2.trans st
          generalize upd G3 t (.tup [V.str o, V.int (i : Nat), V.str o]) = G4 at hD3 ht hb3 s3 ⊢
          obtain ⟨xs, hx, lx, hn⟩ := hD3.add ht
          have sl := stps_len (g := true) (ds := ds) (x := x) l12 i
          refine ⟨xs, hx, ?_, ?_, fun b u e => ?_, ?_⟩
          · rw [lx, List.length_append, List.length_map, List.length_take]
            have := oy.lb
            exact Nat.lt_of_lt_of_le (by omega : _ < 800) (by decide)
          · rw [List.take_add_one, ho, List.map_append, ← List.append_assoc]
            rw [List.append_assoc] at hn
            rw [List.append_assoc]
            exact hn
          · rw [upd_ne (ne_of_none e fD)]
            exact s3 _ _ e
          · rw [upd_ne (ne_of hb3 hx (by intro q; cases q))]
            exact hb3
        · rintro G2 ⟨hD2, s2, _⟩
          rw [List.length_map, List.take_length] at hD2
          refine ⟨?_, s2⟩
          rw [stps_snoc, ek]
          exact hD2
      · have c2 : ¬ z = x := fun q => c1 (by rw [q]; simp)
        refine ⟨?_, s1⟩
        have ek : stk true (abl ys) ds x i = [] := by
          unfold stk gvk
          rw [if_pos rfl, hz, if_neg (fun q => c2 (Option.some.inj q))]
        rw [stps_snoc, ek, List.append_nil]
        exact hD1
    · rintro G ⟨hD, sG⟩
      rw [List.length_map] at hD
      exact hQ D G sG fD hD
theorem inV_strs (x : Str) : ∀ R : List Str, inV (.str x) (R.map V.str) = decide (x ∈ R)
  | [] => rfl
  | y :: R => by
    have ih := inV_strs x R
    unfold inV at ih ⊢
    rw [List.map_cons, List.any_cons, ih]
    by_cases e : y = x
    · subst e
      simp [eqV]
    · have e2 : ¬ x = y := fun q => e q.symm
      simp [eqV, e, e2]
theorem flat_strs (R : List Str) : (R.map V.str).all flatV = true := by
  rw [List.all_map, List.all_eq_true]
  intro x _
  rfl
theorem ok_dt (F : Dn K d_drives_taken f fd) (ben : mg "enumerate" = none) : FnOk P w K mg base CX0 1 f fd ["days", "drivers", "name"] (spDg false) := by
  refine F.ok sc_drives_taken (fun vs H Q E h => ?_) (fun cdv A outer s H vs Q E hr h => ?_)
  · obtain ⟨_, _, _, _, _, rfl, _⟩ := h
    rfl
  · obtain ⟨l, r, x, ys, ds, rfl, hl, hd, ld, ly, hQ⟩ := h
    refine ⟨_, PSs.nox (pss_one (ps_ret (pe_lc (own := [("at", 3), ("driver", 4)]) (g := gTup K 2 (gCons (gName 3) (gCons (gName 4) gNil))) rfl sc_drives_taken.nd (pi_enum rfl ben (pa_cons (pv 1) pa_nil)) (blkOk_by (N := N_drives_taken) (sc := defScope s_drives_taken) (by decide +kernel))
        (fun _ _ _ _ _ => pg_tup rfl (pgs_cons (pg_name (i := 3) sc_drives_taken.nd rfl (Or.inl rfl)) (pgs_cons (pg_name (i := 4) sc_drives_taken.nd rfl (Or.inl rfl)) pgs_nil))) (fun _ _ _ _ _ => pts_one (pt_cmpR (r := rIn K false) op_in_seq (pv 2) (pe_ix (r := rIxT K) ix_tup (pe_ix (r := rIxL K) ix_list (pv 0) (pv 3) (fun _ _ => rfl)) pe_int (fun _ _ => rfl)) (by rfl)))
        (fun _ _ _ _ _ => pe_tup (pa_cons (pv 4) (pa_cons (pv 3) (pa_cons (pv 2) pa_nil))))))), ?_⟩
    refine ⟨_, rfl, r, _, rfl, SqL.of hd, fun D fD => ?_⟩
    have l12 : ∀ a ∈ abl ys, a.length ≤ 12 := fun a ha => by
      obtain ⟨y, hy, rfl⟩ := List.mem_map.mp ha
      exact (hl.2 y hy).lb
    refine lc_it (walk_enum (K := K) (a := r) (xs := ds.map V.str)) (fun i G => TsL G D (stps false (abl ys) ds x i) ∧ Same H G) ⟨TsL.nil upd_same, same_new fD⟩ (fun i G _ z => SqL.of (z.2 _ _ hd)) ?_ ?_
    · rintro i v G G' hi ⟨hD, sG⟩ ⟨Tp, x1, x2, rfl, hT, rfl, e1, e2⟩
      cases e1
      obtain ⟨z, hz, rfl⟩ := sat_ e2
      have il := (List.getElem?_eq_some_iff.mp hz).1
      have sT := same_new (o := .tup [V.int (i : Nat), V.str z]) hT
      refine ⟨Tp, _, rfl, SqT.of upd_same, rfl, _, _, rfl, _, _, rfl, rfl, rfl, ?_⟩
      have hD1 := hD.keep sT
      have s1 := sG.trans sT
      generalize upd G Tp (.tup [V.int (i : Nat), V.str z]) = G1 at hD1 s1 ⊢
      obtain ⟨y, hy⟩ : ∃ y, ys[i]? = some y := ⟨_, List.getElem?_eq_getElem (by omega)⟩
      have hym := List.mem_of_getElem? hy
      have oy := (hl.2 y hym).same s1
      have hA : (abl ys)[i]? = some y.B := by rw [List.getElem?_map, hy]; rfl
      refine ⟨_, rfl, _, rfl, _, rfl, l, _, _, _, rfl, rfl, SqL.of (s1 _ _ hl.1), atI_nat (by rw [List.getElem?_map, hy]; rfl), y.a, _, _, _, rfl, rfl, SqT.of oy.t, rfl, y.ba, _, rfl, .inr (SqT.of oy.b), rfl, flat_strs _, _, rfl, ?_⟩
      rw [if_neg (by decide), inV_strs]
      refine ite2 (fun c1 => ?_) (fun c1 => ?_)
      · have c2 : x ∈ y.B := of_decide_eq_true c1
        have ek : stk false (abl ys) ds x i = [(z, i, x)] := by
          unfold stk tkk
          rw [if_neg (by decide), hz, hA, if_pos (show x ∈ (some y.B).getD [] from c2)]
          rfl
        refine ⟨_, rfl, _, rfl, _, rfl, by show 3 ≤ sizeLine; decide, fun t ft => ?_⟩
        have st := same_new (o := .tup [V.str z, V.int (i : Nat), V.str x]) ft
        have hD3 := hD1.keep st
        have ht : (upd G1 t (.tup [V.str z, V.int (i : Nat), V.str x])) t = some (tG (z, i, x)) := upd_same
        have s3 := s1.trans st
        generalize upd G1 t (.tup [V.str z, V.int (i : Nat), V.str x]) = G4 at hD3 ht s3 ⊢
        obtain ⟨xs, hx, lx, hn⟩ := hD3.add ht
        have sl := stps_len (g := false) (ds := ds) (x := x) l12 i
        refine ⟨xs, hx, ?_, ?_, fun b u e => ?_⟩
        · rw [lx]
          exact Nat.lt_of_lt_of_le (by omega : _ < 800) (by decide)
        · rw [stps_snoc, ek]
          exact hn
        · rw [upd_ne (ne_of_none e fD)]
          exact s3 _ _ e
      · have c2 : ¬ x ∈ y.B := fun q => c1 (decide_eq_true q)
        refine ⟨?_, s1⟩
        have ek : stk false (abl ys) ds x i = [] := by
          unfold stk tkk
          rw [if_neg (by decide), hA, if_neg (show ¬ x ∈ (some y.B).getD [] from c2)]
        rw [stps_snoc, ek, List.append_nil]
        exact hD1
    · rintro G ⟨hD, sG⟩
      rw [List.length_map] at hD
      exact hQ D G sG fD hD
end
end K52
set_option Elab.async false
set_option linter.all false
set_option maxRecDepth 100000
set_option maxHeartbeats 4000000
/-! LMS: a lambda without parameters handed to a def that calls it in a try of its own slots. -/
namespace LMS
open PySem PySem.Spec PyProof.Rows L2
open LamX (Tabs ExtN TabB CodeO LamS lamEnv lamCx lam_start2 lam_make2 run_ofS)
section
variable {X : Cx} {pins : List (Addr × Obj)} {σ : L2.St} {H : Hp} {s : Shared}
/-- x(), where x is the lambda, in the def that got it (its slots are σ2 then): what the lambda lets out is taken at these slots -/
theorem pe_run {Cg : CXT} {Eg : XK} {Nd : List Str} {qd : Str} {sd : Scope} {gd lf lc : Addr} {cdv pm ctv : Value} {ps : Arguments} {bd : Expr} {sl : Scope} {k i : Nat} {y : Str} {pn : List (Addr × Obj)} {xe : Value → Shared → Prop} {W : WX} {tl : XK → TE} {pa pb : Pos}
    (I : Inv X pins σ H s) (L : LamS X.env.scope sl) (at_ : s.heap.get? lf = some (PySem.W.kla_obj "<lambda>" (X.env.qual ++ "<lambda>") ps bd sl (cloFrom X.env.cells sl.names []) pm lc ctv)) (fn : H lf = none) (nf : lf ∉ frs X.stack)
    (bind : bindArgs (PySem.W.kla_fn "<lambda>" (X.env.qual ++ "<lambda>") ps bd sl (cloFrom X.env.cells sl.names []) pm (.ref lc) ctv) ⟨[], []⟩ = pure [])
    (takes : Takes ((cxOf Cg X.prog X.w X.K X.mg X.base Nd qd sd gd cdv X.A X.stack s H Eg).tr pn xe) W) (room : Room (k + 1) (X.A.deeper (envOfC qd sd s.heap.objs.size gd cdv)))
    (body : ∀ (A : Around) (outer : List Env) (s0 : Shared) (H0 : Hp) (E : XK), Room k (A.deeper (lamEnv X sl s0.heap.objs.size lf lc)) → PE (lamCx X A outer s0 H0 E sl lf lc) bd (tl E))
    (hN : Nd[i]? = some y) (hv : Vis sd y) (n1 : (y == ("__debug__" : Str)) = false := by decide) (n2 : (y == ("__classdict__" : Str)) = false := by decide) :
    PE ((cxOf Cg X.prog X.w X.K X.mg X.base Nd qd sd gd cdv X.A X.stack s H Eg).tr pn xe) (.Call (.Name y pa) [] [] pb)
      (fun σ2 H2 Q => σ2[i]? = some (some (.ref lf)) ∧ H2 lc = some (CodeO lc (X.env.qual ++ "<lambda>")) ∧ tl (fun cls d H' => W cls d σ2 H') σ H2 Q) := by
  refine ⟨fun pins2 s2 σ2 H2 Q I2 ⟨atS, atC, told⟩ => ?_⟩
  refine wpAny_Call_Name_kw (thn ((pe_var (pos := pa) (i := i) hN hv n1 n2).run pins2 s2 σ2 H2 (fun v H1 => v = .ref lf ∧ H1 = H2) I2 ⟨.ref lf, atS, rfl, rfl⟩) ?_)
  rintro u s3 ⟨v, H1, I3, rv, rfl, rfl⟩
  obtain rfl : u = Value.ref lf := rv
  have at3 := I3.base.keep lf _ at_ fn nf (fun z => nomatch (show lf ∈ ([] : List Addr) from z))
  refine PySem.W.callWith_F0 ⟨_, _, _, _, at3⟩ (wpAny_call ?_)
  have un : Un (frs X.stack) [] H H1 s.heap s3.heap := I3.base
  obtain ⟨⟨oc, ws, t, c1, c2, c3⟩, _, _⟩ := I3.hok lc _ atC
  have leave : PassesAt (L2.CX X.prog X.w) ((cxOf Cg X.prog X.w X.K X.mg X.base Nd qd sd gd cdv X.A X.stack s H Eg).tr pn xe) σ2 (WE W σ2) := passAt takes σ2
  refine codeAny_mono (R := CR (L2.CX X.prog X.w) (envOfC qd sd s.heap.objs.size gd cdv :: X.stack) X.prog X.w H1 s3 Q fun cls d H' => W cls d σ2 H') ?_ ?_
  · show codeAny (model X.prog X.w) (X.A.deeper (envOfC qd sd s.heap.objs.size gd cdv)) (.call (.ref lf) ⟨[], []⟩) _ _
    refine PySem.W.kla_callFunE room.depth at3 rfl L.co L.gen rfl ⟨lc, oc, ws, t, rfl, c1, c2, c3⟩ ?_
    rw [bind]
    refine wpAny_pure (wpAny_newFunctionEnv (fun y hy => (L.own y hy).2) (fun y hy => absurd hy (by simp)) ?_ L.kind)
    intro h₁ hns hsb
    refine ⟨I3.nolimit.fresh _ hsb, ?_⟩
    have more : ∀ b o, s3.heap.get? b = some o → h₁.get? b = some o := fun b o e => hsb.extBut b o (Nat.ne_of_lt (Heap.lt_size e)) (Heap.get?_push_of_some _ e)
    have J := lam_start2 (E := fun cls d H' => W cls d σ2 H') (f := lf) (c' := lc) (tk := s3.toks + ([] : List (Str × Value)).length) I L I3.env0 room.hd un hns more
    refine PySem.W.kla_codeExpr (wpAny_mono ((body _ _ s3 H1 _ (room.deeper _)).run [] _ _ H1 Q J told) ?_ fun e s' he => he)
    rintro v s' ⟨w', H', J', r', q'⟩
    exact ⟨w', H', J'.os, J'.bare, J'.base, J'.hok, r', q'⟩
  · intro r s' hr
    match r, hr with
    | .error e, hr => exact leave pins2 H1 s3 e s' I3 hr
    | .ok (.ret u), hr => exact I3.after hr
    | .ok .next, hr => exact False.elim hr
    | .ok .brk, hr => exact False.elim hr
    | .ok .cont, hr => exact False.elim hr
end
/-- what the def makes of the lambda that it got: y is its name for it -/
def GivesS (X : Cx) (Nd : List Str) (x : Str) (sd : Scope) (gd : Addr) (cdv : Value) (bg : List Stmt) (y q : Str) (TT : (XK → Hp → VK → Prop) → Hp → VK → Prop) : Prop :=
  ∀ (lf lc : Addr) (s : Shared) (H : Hp) (Q : VK) (told : XK → Hp → VK → Prop),
    (∀ (W : WX) (pn : List (Addr × Obj)) (xe : Value → Shared → Prop) (pa pb : Pos), Takes ((cxOf C8.CX0 X.prog X.w X.K X.mg X.base Nd x sd gd cdv X.A X.stack s H C8.E0).tr pn xe) W →
      PE ((cxOf C8.CX0 X.prog X.w X.K X.mg X.base Nd x sd gd cdv X.A X.stack s H C8.E0).tr pn xe) (.Call (.Name y pa) [] [] pb) (fun σ2 H2 Q => σ2[0]? = some (some (.ref lf)) ∧ H2 lc = some (CodeO lc q) ∧ told (fun cls d H' => W cls d σ2 H') H2 Q)) →
    H lc = some (CodeO lc q) → TT told H Q →
    ∃ t, PSs (cxOf C8.CX0 X.prog X.w X.K X.mg X.base Nd x sd gd cdv X.A X.stack s H C8.E0).nox bg t ∧ t { nx := fun _ H' => Q .non H', rt := Q } (L2.start Nd [.ref lf]) H
def tLamS (T : List (Addr × Str)) (TT : (XK → Hp → VK → Prop) → Hp → VK → Prop) (t : XK → TE) : TE := fun σ H Q => Tabs T H ∧ ∀ H1, ExtN H H1 → Tabs T H1 → TT (fun E H' Q' => t E σ H' Q') H1 Q
section
variable {X : Cx}
/-- x(lambda: bd) -/
theorem pe_lamS {T : List (Addr × Str)} {TT : (XK → Hp → VK → Prop) → Hp → VK → Prop} {x y : Str} {gd c P : Addr} {k : Nat} {pg : Arguments} {bg : List Stmt} {sd : Scope} {dV kV doc pm cdv ct oc : Value} {an od : Option Addr} {osl : Array (Option Value)} {Nd : List Str}
    {ps : Arguments} {bd : Expr} {sl : Scope} {tl : XK → TE} {p lp pos : Pos} (hg : Gl X x) (hm : X.mg x = some (.ref gd)) (hk : PySem.W.keepIn X.K (.ref gd) = true)
    (lk : X.K.lookup gd = some ⟨oc, od, .func (PySem.W.fnOf x x pg bg sd dV kV doc pm an cdv ct), osl⟩) (hcg : PySem.W.codeIn X.K cdv x = true) (hb : L2.Binds X.K (PySem.W.fnOf x x pg bg sd dV kV doc pm an cdv ct) [y] []) (Sd : FnScope Nd [y] sd) (hN : Nd[0]? = some y) (hv : Vis sd y)
    (gives : GivesS X Nd x sd gd cdv bg y (X.env.qual ++ "<lambda>") TT)
    (TB : TabB X.base X.mg c P) (code : X.env.code = .ref c) (mem : (P, X.env.qual ++ "<lambda>") ∈ T) (one : ∀ p ∈ T, p.1 = P → p.2 = X.env.qual ++ "<lambda>") (room : Room (k + 2) X.A) (L : LamS X.env.scope sl) (def0 : defaultsOf ps X.env = ([], []))
    (bind : ∀ (q : Str) (cl : List (Str × Addr)) (pm cv ctv : Value), bindArgs (PySem.W.kla_fn "<lambda>" q ps bd sl cl pm cv ctv) ⟨[], []⟩ = pure [])
    (body : ∀ (A : Around) (outer : List Env) (s0 : Shared) (H0 : Hp) (E : XK) (lf lc : Addr), Room k (A.deeper (lamEnv X sl s0.heap.objs.size lf lc)) → PE (lamCx X A outer s0 H0 E sl lf lc) bd (tl E))
    (n0 : (x == ("__debug__" : Str)) = false := by decide) (n1 : (y == ("__debug__" : Str)) = false := by decide) (n2 : (y == ("__classdict__" : Str)) = false := by decide) :
    PE X (.Call (.Name x p) [.Lambda ps bd sl lp] [] pos) (tLamS T TT tl) := by
  refine ⟨fun pins s σ H Q I ⟨hT, h⟩ => ?_⟩
  refine wpAny_Call_Name_kw (ld_glob I hg hm (PySem.W.callWith_K (h₀ := X.base) I.ok.mod.kin hk ?_ (by rfl) (by rfl)) n0)
  show wpAny _ _ (spliced ((false, eval (.Lambda ps bd sl lp) X.env) :: backTo pos (starEach [] X.env))) _ _ s
  refine Calls.spliced_cons (lam_make2 I TB code mem one hT def0 (L.has I.ok) ?_)
  intro lf lc pm' ctv H1 s' I1 eN T1 e1 fn nf co
  refine Calls.spliced_nil ⟨I1.kIn, wpAny_call (codeAny_mono (R := CR C8.CX0 X.stack X.prog X.w H1 s' Q C8.E0) ?_ ?_)⟩
  · refine run_ofS (N := Nd) (ps := [y]) (us := [.ref lf]) (vs := [.ref lf]) lk hcg Sd room I1.env0 (hb s' [.ref lf] I1.kIn rfl) (.cons rfl .nil) rfl fun room' => ?_
    obtain ⟨t', ps', q'⟩ := gives lf lc s' H1 Q (fun E H' Q' => tl E σ H' Q') (fun W pn xe pa pb tk => pe_run (i := 0) I1 L e1 fn nf (bind _ _ _ _ _) tk room' (fun A outer s0 H0 E r => body A outer s0 H0 E lf lc r) hN hv n1 n2) co (h H1 eN T1)
    exact ⟨t', ps'.nox, q'⟩
  · intro r s2 hr
    match r, hr with
    | .error e, hr => exact (show False from hr).elim
    | .ok (.ret u), hr => exact I1.after hr
    | .ok .next, hr => exact False.elim hr
    | .ok .brk, hr => exact False.elim hr
    | .ok .cont, hr => exact False.elim hr
end
end LMS
set_option Elab.async false
set_option linter.all false
set_option maxRecDepth 100000
set_option maxHeartbeats 4000000
/-! LMP: a lambda with parameters handed to a def (behind two arguments), which calls it by its own name for it; the lambda raises nothing. -/
namespace LMP
open PySem PySem.Spec PyProof.Rows L2
open LamX (Tabs ExtN TabB CodeO lam_make2 run_ofS)
open NdefX (NF NScope ncx startF inv_startN CellsAt envF Caps cells_of slotAt)
/-- the lambda as a function of its own -/
abbrev lamF (q : Str) (ps : Arguments) (sl : Scope) (cl : List (Str × Addr)) (lc : Addr) : NF := ⟨"<lambda>", q, ps, [], sl, cl, lc⟩
theorem cells_un {cl : List (Str × Addr)} {fr : List Str} {ws : List (Option V)} {h h' : Heap} {H H' : Hp} {fs : List Addr} (C : CellsAt cl fr ws h H) (un : Un fs [] H H' h h') : CellsAt cl fr ws h' H' := by
  have cellK : ∀ {c : Addr} {v : Option Value}, H c = none → h.IsCell c v → h'.IsCell c v := fun {c v} n ⟨o, ho, hd⟩ => by
    obtain ⟨sl, q⟩ := un.any ho n (by simp)
    exact ⟨_, q, hd⟩
  refine ⟨C.len, fun y c e => ?_, C.inj, fun i y e => ?_⟩
  · obtain ⟨n, v, o, ho, hd⟩ := C.all y c e
    exact ⟨un.free c o ho n (by simp), v, cellK n ⟨o, ho, hd⟩⟩
  · obtain ⟨c, e1, e2⟩ := C.has i y e
    refine ⟨c, e1, fun v hv => ?_⟩
    obtain ⟨u, ru, hc⟩ := e2 v hv
    exact ⟨u, ru, cellK (C.all y c e1).1 hc⟩
/-- the context of the def that got the lambda, entered at s -/
abbrev cxG (X : Cx) (Nd : List Str) (qd : Str) (sd : Scope) (gd : Addr) (cdv : Value) (s : Shared) (H : Hp) : Cx := (cxOf C8.CX0 X.prog X.w X.K X.mg X.base Nd qd sd gd cdv X.A X.stack s H C8.E0).nox
section
variable {X : Cx} {pins : List (Addr × Obj)} {σ : L2.St} {H : Hp} {s : Shared}
/-- what the def reads of y(e, ..) -/
def tRun (i : Nat) (lf lc : Addr) (q : Str) (m : Nat) (t : TA) (told : List V → Hp → VK → Prop) : TE := fun σ2 H2 Q => σ2[i]? = some (some (.ref lf)) ∧ t σ2 H2 fun vs H3 => vs.length = m ∧ H3 lc = some (CodeO lc q) ∧ told vs H3 Q
theorem pe_run {Nd Nl pps fr : List Str} {js : List Nat} {qd q : Str} {sd : Scope} {gd lf lc : Addr} {cdv pm ctv : Value} {ps : Arguments} {bd : Expr} {sl : Scope} {k i : Nat} {y : Str} {tl : TE} {t : TA} {pa pb : Pos} {e : Expr} {es : List Expr}
    (I : Inv X pins σ H s) (S : NScope Nl pps fr sl) (cp : Caps X (cloFrom X.env.cells sl.names []) fr js) (at_ : s.heap.get? lf = some (PySem.W.kla_obj "<lambda>" q ps bd sl (cloFrom X.env.cells sl.names []) pm lc ctv)) (fn : H lf = none) (nf : lf ∉ frs X.stack)
    (bind : ∀ us : List Value, us.length = pps.length → bindArgs (PySem.W.kla_fn "<lambda>" q ps bd sl (cloFrom X.env.cells sl.names []) pm (.ref lc) ctv) ⟨us, []⟩ = pure (pps.zip us))
    (room : Room (k + 1) (X.A.deeper (envOfC qd sd s.heap.objs.size gd cdv)))
    (body : ∀ (A : Around) (outer : List Env) (s0 : Shared) (H0 : Hp), Room k (A.deeper (envF (lamF q ps sl (cloFrom X.env.cells sl.names []) lc) lf s0.heap.objs.size)) → PE (ncx C8.CX0 X.prog X.w X.K X.mg X.base Nl (lamF q ps sl (cloFrom X.env.cells sl.names []) lc) lf A outer s0 H0 C8.E0) bd tl)
    (hN : Nd[i]? = some y) (hv : Vis sd y) (ha : PA (cxG X Nd qd sd gd cdv s H) (e :: es) t) (n1 : (y == ("__debug__" : Str)) = false) (n2 : (y == ("__classdict__" : Str)) = false)
    (he : starEach (e :: es) (cxG X Nd qd sd gd cdv s H).env = (false, eval e (cxG X Nd qd sd gd cdv s H).env) :: starEach es (cxG X Nd qd sd gd cdv s H).env) (hpl : (backTo pb (starEach es (cxG X Nd qd sd gd cdv s H).env)).any (·.1) = false) :
    PE (cxG X Nd qd sd gd cdv s H) (.Call (.Name y pa) (e :: es) [] pb) (tRun i lf lc q pps.length t fun vs H3 Q => tl (startF Nl vs (js.map (slotAt σ))) H3 Q) := by
  refine ⟨fun pins2 s2 σ2 H2 Q I2 ⟨atS, ht⟩ => ?_⟩
  refine wpAny_Call_Name_kw (thn ((pe_var (pos := pa) (i := i) hN hv n1 n2).run pins2 s2 σ2 H2 (fun v H1 => v = .ref lf ∧ H1 = H2) I2 ⟨.ref lf, atS, rfl, rfl⟩) ?_)
  rintro u s3 ⟨v, H1, I3, rv, rfl, rfl⟩
  obtain rfl : u = Value.ref lf := rv
  have at3 := I3.base.keep lf _ at_ fn nf (fun z => nomatch (show lf ∈ ([] : List Addr) from z))
  refine PySem.W.callWith_F (first := []) ⟨_, _, _, _, at3⟩ (thn (ha.run pb pins2 s3 σ2 H1 _ I3 ht) fun us s4 ⟨vs, H4, I4, rvs, lvs, atC, told⟩ => ?_) he hpl
  have at4 := I4.base.keep lf _ at_ fn nf (fun z => nomatch (show lf ∈ ([] : List Addr) from z))
  have un : Un (frs X.stack) [] H H4 s.heap s4.heap := I4.base
  obtain ⟨⟨oc, ws, tk, c1, c2, c3⟩, _, _⟩ := I4.hok lc _ atC
  have lus : us.length = pps.length := by rw [← rvs.length]; exact lvs
  refine ⟨⟨_, _, _, _, at4⟩, ?_⟩
  show wpAny _ _ (call (.ref lf) us) _ _ _
  refine wpAny_call (codeAny_mono (R := CR C8.CX0 (envOfC qd sd s.heap.objs.size gd cdv :: X.stack) X.prog X.w H4 s4 Q C8.E0) ?_ ?_)
  · show codeAny (model X.prog X.w) (X.A.deeper (envOfC qd sd s.heap.objs.size gd cdv)) (.call (.ref lf) ⟨us, []⟩) _ _
    refine PySem.W.kla_callFunE room.depth at4 rfl S.co S.gen rfl ⟨lc, oc, ws, tk, rfl, c1, c2, c3⟩ ?_
    rw [bind us lus]
    refine wpAny_pure (wpAny_newFunctionEnv S.nocell (fun ⟨n, _⟩ hy => S.par n (List.of_mem_zip hy).1) ?_ S.kind)
    intro h₁ hns hsb
    refine ⟨I4.nolimit.fresh _ hsb, ?_⟩
    have more : ∀ b o, s4.heap.get? b = some o → h₁.get? b = some o := fun b o e => hsb.extBut b o (Nat.ne_of_lt (Heap.lt_size e)) (Heap.get?_push_of_some _ e)
    have J : Inv (ncx C8.CX0 X.prog X.w X.K X.mg X.base Nl (lamF q ps sl (cloFrom X.env.cells sl.names []) lc) lf (X.A.deeper (envOfC qd sd s.heap.objs.size gd cdv)) (envOfC qd sd s.heap.objs.size gd cdv :: X.stack) s4 H4 C8.E0) [] (startF Nl vs (js.map (slotAt σ))) H4 { s4 with heap := h₁, toks := s4.toks + (pps.zip us).length } :=
      inv_startN (F := lamF q ps sl (cloFrom X.env.cells sl.names []) lc) S room.hd I4.env0 lvs rvs (cells_un (cells_of I cp) un) hns more
    refine PySem.W.kla_codeExpr (wpAny_mono ((body _ _ s4 H4 (room.deeper _)).run [] _ _ H4 Q J told) ?_ fun e s' he => he)
    rintro v s' ⟨w', H', J', r', q'⟩
    exact ⟨w', H', J'.os, J'.bare, J'.base, J'.hok, r', q'⟩
  · intro r s' hr
    match r, hr with
    | .error e, hr => exact (show False from hr).elim
    | .ok (.ret u), hr => exact I4.after hr
    | .ok .next, hr => exact False.elim hr
    | .ok .brk, hr => exact False.elim hr
    | .ok .cont, hr => exact False.elim hr
end
/-- what the def makes of what it got; y is its name for the lambda -/
def GivesP (X : Cx) (Nd : List Str) (x : Str) (sd : Scope) (gd : Addr) (cdv : Value) (bg : List Stmt) (y q : Str) (m : Nat) (TT : List V → (List V → Hp → VK → Prop) → Hp → VK → Prop) : Prop :=
  ∀ (lf lc : Addr) (s : Shared) (H : Hp) (vs : List V) (Q : VK) (told : List V → Hp → VK → Prop), vs.length = 2 →
    (∀ (e : Expr) (es : List Expr) (t : TA) (pa pb : Pos), PA (cxG X Nd x sd gd cdv s H) (e :: es) t →
      starEach (e :: es) (cxG X Nd x sd gd cdv s H).env = (false, eval e (cxG X Nd x sd gd cdv s H).env) :: starEach es (cxG X Nd x sd gd cdv s H).env → (backTo pb (starEach es (cxG X Nd x sd gd cdv s H).env)).any (·.1) = false →
      PE (cxG X Nd x sd gd cdv s H) (.Call (.Name y pa) (e :: es) [] pb) (tRun 2 lf lc q m t told)) →
    H lc = some (CodeO lc q) → TT vs told H Q →
    ∃ t, PSs (cxG X Nd x sd gd cdv s H) bg t ∧ t { nx := fun _ H' => Q .non H', rt := Q } (L2.start Nd (vs ++ [.ref lf])) H
/-- x(e1, e2, lambda ..: bd) -/
def tLamP (T : List (Addr × Str)) (TT : List V → (List V → Hp → VK → Prop) → Hp → VK → Prop) (Nl : List Str) (js : List Nat) (t1 t2 tl : TE) : TE := fun σ H Q => t1 σ H fun a H1 => t2 σ H1 fun b H2 => Tabs T H2 ∧ ∀ H3, ExtN H2 H3 → Tabs T H3 → TT [a, b] (fun vs H' Q' => tl (startF Nl vs (js.map (slotAt σ))) H' Q') H3 Q
section
variable {X : Cx}
theorem pe_lamP {T : List (Addr × Str)} {TT : List V → (List V → Hp → VK → Prop) → Hp → VK → Prop} {x y a1 a2 : Str} {gd c P : Addr} {k : Nat} {pg : Arguments} {bg : List Stmt} {sd : Scope} {dV kV doc pm cdv ct oc : Value} {an od : Option Addr} {osl : Array (Option Value)} {Nd Nl pps fr : List Str} {js : List Nat}
    {ps : Arguments} {bd e1 e2 : Expr} {sl : Scope} {t1 t2 tl : TE} {p lp pos : Pos} (hg : Gl X x) (hm : X.mg x = some (.ref gd)) (hk : PySem.W.keepIn X.K (.ref gd) = true)
    (lk : X.K.lookup gd = some ⟨oc, od, .func (PySem.W.fnOf x x pg bg sd dV kV doc pm an cdv ct), osl⟩) (hcg : PySem.W.codeIn X.K cdv x = true) (hb : L2.Binds X.K (PySem.W.fnOf x x pg bg sd dV kV doc pm an cdv ct) [a1, a2, y] []) (Sd : FnScope Nd [a1, a2, y] sd) (hN : Nd[2]? = some y) (hv : Vis sd y)
    (gives : GivesP X Nd x sd gd cdv bg y (X.env.qual ++ "<lambda>") pps.length TT)
    (TB : TabB X.base X.mg c P) (code : X.env.code = .ref c) (mem : (P, X.env.qual ++ "<lambda>") ∈ T) (one : ∀ p ∈ T, p.1 = P → p.2 = X.env.qual ++ "<lambda>") (room : Room (k + 2) X.A) (h1 : PE X e1 t1) (h2 : PE X e2 t2)
    (S : NScope Nl pps fr sl) (free : ∀ y ∈ sl.names, y.2 = .free → X.env.scope.names.lookup y.1 = some .cell ∨ X.env.scope.names.lookup y.1 = some .free) (frl : ∀ y ∈ fr, (y, NameKind.free) ∈ sl.names) (hjs : js.map (fun j => X.N[j]?) = fr.map some) (def0 : defaultsOf ps X.env = ([], []))
    (bind : ∀ (q : Str) (cl : List (Str × Addr)) (pm cv ctv : Value) (us : List Value), us.length = pps.length → bindArgs (PySem.W.kla_fn "<lambda>" q ps bd sl cl pm cv ctv) ⟨us, []⟩ = pure (pps.zip us))
    (body : ∀ (A : Around) (outer : List Env) (s0 : Shared) (H0 : Hp) (cl : List (Str × Addr)) (lf lc : Addr), Room k (A.deeper (envF (lamF (X.env.qual ++ "<lambda>") ps sl cl lc) lf s0.heap.objs.size)) → PE (ncx C8.CX0 X.prog X.w X.K X.mg X.base Nl (lamF (X.env.qual ++ "<lambda>") ps sl cl lc) lf A outer s0 H0 C8.E0) bd tl)
    (he1 : starEach [e1, e2, .Lambda ps bd sl lp] X.env = (false, eval e1 X.env) :: starEach [e2, .Lambda ps bd sl lp] X.env := by rfl) (hpl : (backTo pos (starEach [e2, .Lambda ps bd sl lp] X.env)).any (·.1) = false := by rfl)
    (he2 : starEach [e2, .Lambda ps bd sl lp] X.env = [(false, eval e2 X.env), (false, eval (.Lambda ps bd sl lp) X.env)] := by rfl)
    (n0 : (x == ("__debug__" : Str)) = false := by decide) (n1 : (y == ("__debug__" : Str)) = false := by decide) (n2 : (y == ("__classdict__" : Str)) = false := by decide) :
    PE X (.Call (.Name x p) [e1, e2, .Lambda ps bd sl lp] [] pos) (tLamP T TT Nl js t1 t2 tl) := by
  refine ⟨fun pins s σ H Q I h => ?_⟩
  refine wpAny_Call_Name_kw (ld_glob I hg hm (PySem.W.callWith_K (h₀ := X.base) I.ok.mod.kin hk ?_ he1 hpl) n0)
  · rw [he1, he2]
    show wpAny _ _ (spliced [(false, eval e1 X.env), (false, eval e2 X.env), (false, eval (.Lambda ps bd sl lp) X.env)]) _ _ s
    refine Calls.spliced_cons (thn (h1.run pins s σ H _ I h) fun u1 s1 ⟨v1, H1, I1, r1, q1⟩ => ?_)
    refine Calls.spliced_cons (thn (h2.run pins s1 σ H1 _ I1 q1) fun u2 s2 ⟨v2, H2, I2, r2, hT, q2⟩ => ?_)
    have cp2 := Caps.made (scope := sl) (fr := fr) (js := js) I2.ok free frl hjs
    refine Calls.spliced_cons (lam_make2 I2 TB code mem one hT def0 (fun z hz e => (free z hz e).elim (fun w => I2.ok.has _ (.inl w)) fun w => I2.ok.has _ (.inr w)) ?_)
    intro lf lc pm' ctv H3 s3 I3 eN T3 at3 fn nf co
    refine Calls.spliced_nil ⟨I3.kIn, wpAny_call (codeAny_mono (R := CR C8.CX0 X.stack X.prog X.w H3 s3 Q C8.E0) ?_ ?_)⟩
    · refine run_ofS (N := Nd) (ps := [a1, a2, y]) (us := [u1, u2, .ref lf]) (vs := [v1, v2, .ref lf]) lk hcg Sd room I3.env0 (hb s3 [u1, u2, .ref lf] I3.kIn rfl) (.cons r1 (.cons r2 (.cons rfl .nil))) rfl fun room' => ?_
      obtain ⟨t', ps', q'⟩ := gives lf lc s3 H3 [v1, v2] Q (fun vs H' Q' => tl (startF Nl vs (js.map (slotAt σ))) H' Q') rfl
        (fun e es t pa pb ha he hpl => pe_run (i := 2) I3 S (Caps.made I3.ok free frl hjs) at3 fn nf (bind _ _ _ _ _) room' (fun A outer s0 H0 r => body A outer s0 H0 _ lf lc r) hN hv ha n1 n2 he hpl) co (q2 H3 eN T3)
      exact ⟨t', ps'.nox, q'⟩
    · intro r s4 hr
      match r, hr with
      | .error e, hr => exact (show False from hr).elim
      | .ok (.ret u), hr => exact I3.after hr
      | .ok .next, hr => exact False.elim hr
      | .ok .brk, hr => exact False.elim hr
      | .ok .cont, hr => exact False.elim hr
end
end LMP
set_option linter.all false
set_option Elab.async false
/-! IO: names put in order by worths, one behind another. -/
namespace IO
open PySem
/-- x is ahead of y, as texts -/
def slt (x y : Str) : Prop := x.cps.toList < y.cps.toList
instance (x y : Str) : Decidable (slt x y) := inferInstanceAs (Decidable (x.cps.toList < y.cps.toList))
theorem slt_trans_not {x y z : Str} (h1 : ¬ slt y x) (h2 : ¬ slt z y) : ¬ slt z x := by
  have a : x.cps.toList ≤ y.cps.toList := h1
  have b : y.cps.toList ≤ z.cps.toList := h2
  exact List.le_trans a b
theorem slt_antisymm {x y : Str} (h1 : ¬ slt y x) (h2 : ¬ slt x y) : x = y := by
  have a : x.cps.toList ≤ y.cps.toList := h1
  have b : y.cps.toList ≤ x.cps.toList := h2
  exact TL.ext_tl (List.le_antisymm a b)
theorem rising : ∀ (l : List Str) (p : Str), PyProof.Rows.risingS p l = true → (p :: l).Pairwise fun a b => ¬ slt b a
  | [], p, _ => List.pairwise_singleton ..
  | x :: r, p, h => by
    have h' : (!PySem.Spec.ltCps x.cps.toList p.cps.toList && PyProof.Rows.risingS x r) = true := h
    rw [Bool.and_eq_true, PyProof.Rows.ltCps_eq] at h'
    have h1 : ¬ slt x p := by
      have := h'.1
      simpa [slt] using this
    have ih := rising r x h'.2
    refine List.pairwise_cons.mpr ⟨fun y hy => ?_, ih⟩
    rcases List.mem_cons.mp hy with e | hy
    · rw [e]; exact h1
    · exact slt_trans_not h1 ((List.pairwise_cons.mp ih).1 y hy)
theorem sorted_pw {l : List Str} (h : PyProof.Rows.sortedS l = true) : l.Pairwise fun a b => ¬ slt b a := by
  cases l with
  | nil => exact List.Pairwise.nil
  | cons x r => exact rising r x h
/-- two lists in order, of the same texts, are one -/
theorem sorted_same {l m : List Str} (h1 : l.Pairwise fun a b => ¬ slt b a) (h2 : m.Pairwise fun a b => ¬ slt b a) (p : l.Perm m) : l = m :=
  List.Perm.eq_of_pairwise (le := fun a b => ¬ slt b a) (fun a b _ _ x y => slt_antisymm x y) h1 h2 p
/-- by worths, alike ones by names -/
def le (ρ : Str → Rat) (x y : Str) : Prop := ρ x < ρ y ∨ (ρ x = ρ y ∧ ¬ slt y x)
theorem le_rat {ρ : Str → Rat} {x y : Str} (h : le ρ x y) : ρ x ≤ ρ y := by
  rcases h with h | h
  · exact Rat.le_of_lt h
  · rw [h.1]; exact Rat.le_refl
theorem put_in {ρ : Str → Rat} {zs : List Str} {x : Str} {j : Nat} (hz : zs.Pairwise (le ρ)) (hx : ∀ z ∈ zs, ¬ slt x z) (hj : j ≤ zs.length) (hi : ∀ z ∈ zs.drop j, ρ x < ρ z) (lo : ∀ z ∈ zs.take j, ρ z ≤ ρ x) :
    (zs.take j ++ [x] ++ zs.drop j).Pairwise (le ρ) := by
  have h0 := hz
  rw [← List.take_append_drop j zs] at h0
  obtain ⟨h1, h2, h3⟩ := List.pairwise_append.mp h0
  rw [List.append_assoc]
  refine List.pairwise_append.mpr ⟨h1, ?_, fun a ha b hb => ?_⟩
  · exact List.pairwise_cons.mpr ⟨fun b hb => .inl (hi b hb), h2⟩
  · rcases List.mem_cons.mp hb with e | hb
    · subst e
      rcases Rat.le_iff_lt_or_eq.mp (lo a ha) with h | h
      · exact .inl h
      · exact .inr ⟨h, hx a (List.mem_of_mem_take ha)⟩
    · exact h3 a ha b hb
theorem put_perm {zs : List Str} {x : Str} (j : Nat) : (zs.take j ++ [x] ++ zs.drop j).Perm (x :: zs) := by
  rw [List.append_assoc]
  have h : (zs.take j ++ ([x] ++ zs.drop j)).Perm (x :: (zs.take j ++ zs.drop j)) := List.perm_middle
  rw [List.take_append_drop] at h
  exact h
end IO
set_option Elab.async false
set_option linter.all false
set_option maxRecDepth 100000
set_option maxHeartbeats 4000000
namespace K52
open PySem PySem.Spec PyProof.Rows L2
open C8 (Cal Mak Met pe_c pe_mk pe_mt pe_mt0)
open KM (pr Sz)
theorem map_eraseIdx' {α β : Type} {g : α → β} : ∀ {xs : List α} {q : Nat}, (xs.map g).eraseIdx q = (xs.eraseIdx q).map g
  | [], _ => rfl
  | _ :: _, 0 => rfl
  | x :: xs, q + 1 => by simp [map_eraseIdx' (xs := xs) (q := q)]
theorem perm_eraseIdx {α : Type} : ∀ {xs : List α} {q : Nat} (h : q < xs.length), xs.Perm (xs[q] :: xs.eraseIdx q)
  | x :: xs, 0, _ => by simp
  | x :: xs, q + 1, h => by
    have hq : q < xs.length := by simpa using h
    simp only [List.getElem_cons_succ, List.eraseIdx_cons_succ]
    exact ((perm_eraseIdx hq).cons x).trans (List.Perm.swap _ _ _)
theorem Kp.free {h t : Addr} {H H' : Hp} {c : Nat} (k : Kp h H H') (pn : Held H' h c) (f : H' t = none) : H t = none := by
  cases e : H t with
  | none => rfl
  | some o =>
    by_cases z : t = h
    · rw [z] at f
      obtain ⟨l, ns, n, m, h1, _⟩ := pn
      rw [h1] at f
      cases f
    · rw [k.1 t o e z] at f
      cases f
theorem kp_tup {h : Addr} {H H' : Hp} {n : Nat} (k : Kp h H H') (x : Held H h n) : ∀ b vs, H b = some (.tup vs) → H' b = some (.tup vs) := fun b vs e => k.1 _ _ e fun z => by
  obtain ⟨l, ns, a, b, h1, _⟩ := x
  rw [z, h1] at e
  cases e
theorem kp_lst {h : Addr} {H H' : Hp} {n : Nat} (k : Kp h H H') (x : Held H h n) : ∀ b vs, H b = some (.lst vs) → H' b = some (.lst vs) := fun b vs e => k.1 _ _ e fun z => by
  obtain ⟨l, ns, a, b, h1, _⟩ := x
  rw [z, h1] at e
  cases e
theorem DyOk.tup {H H' : Hp} {d : Dy} (h : DyOk H d) (k : ∀ b vs, H b = some (.tup vs) → H' b = some (.tup vs)) : DyOk H' d := ⟨k _ _ h.t, k _ _ h.r, k _ _ h.b, h.nd, h.ne, h.l12, h.lb, h.bn, h.bs, h.bne⟩
theorem eqv_nil (ds : List PyData) : (!PyData.eqv (.list ds) (.list [])) = !ds.isEmpty := by cases ds <;> simp [PyData.eqv, PyData.eqvAll]
theorem dp_ss {K : PySem.W.Frag} {H : Hp} : ∀ xs : List Str, DpAll K H (xs.map V.str) (xs.map PyData.str)
  | [] => .nil
  | x :: xs => .cons (.str x) (dp_ss xs)
/-- what stands while the days are drawn -/
def CmI (h nl O : Addr) (m c : Nat) (xs : List Str) (H : Hp) (i : Nat) (σ : L2.St) (H5 : Hp) : Prop := ∃ (v4 v5 v6 v7 v8 : Option V) (ds : List Dy), σ = [some (.ref h), some (.ref nl), some (.int (m : Nat)), some (.ref O), v4, v5, v6, v7, v8, none] ∧ Held H5 h (c + 30 * (m - i)) ∧ Kp h H H5 ∧ Cel h O H5 ∧ DyL H5 O ds ∧ ds.length = i ∧ (∀ d ∈ ds, (∀ y ∈ d.R, y ∈ xs) ∧ (∀ y ∈ d.B, y ∈ xs))
theorem CmI.add {h nl O tp t2 ta : Addr} {m c i : Nat} {xs : List Str} {H Hz : Hp} {v4 v5 v6 v7 v8 : Option V} {ds : List Dy} {R B : List Str} (hd : Held Hz h (c + 30 * (m - (i + 1)))) (k : Kp h H Hz) (ce : Cel h O Hz) (D : DyL Hz O ds) (l : ds.length = i) (dm : ∀ d ∈ ds, (∀ y ∈ d.R, y ∈ xs) ∧ (∀ y ∈ d.B, y ∈ xs)) (fO : H O = none)
    (h1 : Hz tp = some (.tup (R.map V.str))) (h2 : Hz t2 = some (.tup (B.map V.str))) (h3 : Hz ta = some (.tup [.ref tp, .ref t2])) (nd : R.Nodup) (ne : R ≠ []) (l12 : R.length ≤ 12) (lb : B.length ≤ 12) (bn : B.Nodup) (bs : ∀ y ∈ B, y ∈ R) (bne : B ≠ []) (sR : ∀ y ∈ R, y ∈ xs) (sB : ∀ y ∈ B, y ∈ xs) :
    CmI h nl O m c xs H (i + 1) [some (.ref h), some (.ref nl), some (.int (m : Nat)), some (.ref O), v4, v5, v6, v7, v8, none] (upd Hz O (.lst ((ds.map fun d => V.ref d.a) ++ [.ref ta]))) := by
  have kt : ∀ b vs, Hz b = some (.tup vs) → (upd Hz O (.lst ((ds.map fun d => V.ref d.a) ++ [.ref ta]))) b = some (.tup vs) := fun b vs e => by rw [upd_ne (ne_of e D.1 (by intro z; cases z))]; exact e
  refine ⟨_, _, _, _, _, ds ++ [⟨ta, tp, t2, R, B⟩], rfl, hd.put ce, k.new fO, ce.put ce.ne.symm, ⟨by rw [upd_same, List.map_append]; rfl, fun d hd => ?_⟩, by rw [List.length_append, l]; rfl, fun d hd => ?_⟩
  · rcases List.mem_append.mp hd with q | q
    · exact (D.2 d q).tup kt
    · rw [List.mem_singleton.mp q]
      exact ⟨kt _ _ h3, kt _ _ h1, kt _ _ h2, nd, ne, l12, lb, bn, bs, bne⟩
  · rcases List.mem_append.mp hd with q | q
    · exact dm d q
    · rw [List.mem_singleton.mp q]
      exact ⟨sR, sB⟩
section
variable {P : Program} {w : World} {K : PySem.W.Frag} {mg : Str → Option Value} {base : Heap} {f C : Addr} {fd : FuncData}
def spCm : Sp := fun vs H Q _ => ∃ (h nl : Addr) (c m : Nat) (xs : List Str), vs = [.ref h, .ref nl, .int (m : Nat)] ∧ Held H h (c + 30 * m) ∧ H nl = some (.lst (xs.map V.str)) ∧ xs ≠ [] ∧ xs.Nodup ∧ xs.length ≤ 12 ∧ m ≤ 60 ∧ (∀ x ∈ xs, PyData.strOk x = true) ∧
  ∀ (o : Addr) (ds : List Dy) (H' : Hp), Held H' h c → Kp h H H' → H o = none → DyL H' o ds → ds.length = m → (∀ d ∈ ds, (∀ y ∈ d.R, y ∈ xs) ∧ (∀ y ∈ d.B, y ∈ xs)) → Q (.ref o) H'
theorem ok_cm (F : Dn K d_l_coming f fd) (bl : Bl mg) (bmin : mg "min" = none) (btup : mg "tuple" = none) (cD : CalD P w K mg base) : FnOk P w K mg base CX0 2 f fd ["_law_held_here", "_law_names_here", "_law_many"] spCm := by
  refine F.ok sc_l_coming (fun vs H Q E h => ?_) (fun cdv A outer s H vs Q E hr h => ?_)
  · obtain ⟨_, _, _, _, _, rfl, _⟩ := h
    rfl
  · obtain ⟨h, nl, c, m, xs, rfl, hld, hnl, xne, xnd, xl, ml, oks, hQ⟩ := h
    have hu64 : (A.deeper (envOfC d_l_coming.qual d_l_coming.scope s.heap.objs.size f cdv)).units + 64 < cLine := by have := hr.un; omega
    refine ⟨_, PSs.nox (pss_cons (ps_set (i := 3) sc_l_coming.nd rfl (.inl rfl) (pe_lst pa_nil))
      (pss_cons (ps_for PassesOwn.never rfl (pi_range1 rfl bl.range (pa_cons (pv 2) pa_nil)) (pg_name (i := 4) sc_l_coming.nd rfl (.inl rfl))
        (pss_cons (ps_par (i := 5) (j := 6) rfl sc_l_coming.nd rfl rfl (by decide) rfl rfl (pa_cons (pe_callTy call_list_of rfl bl.list boot_list (pa_cons (pv 1) pa_nil)) (pa_cons (pe_lst pa_nil) pa_nil)) rfl)
        (pss_cons (ps_for PassesOwn.never rfl (pi_range1 rfl bl.range (pa_cons (pe_op op_add pe_int (pe_c cD hr (by decide) rfl (pa_cons (pv 0) (pa_cons
              (pe_ix (r := rIxL K) ix_list (pe_lst (pa_cons (pe_callB (call_min2 rfl) rfl bmin boot_min (pa_cons (pe_callB call_len_seq rfl bl.len boot_len (pa_cons (pv 1) pa_nil)) (pa_cons pe_int pa_nil))) (pa_cons (pe_callB call_len_seq rfl bl.len boot_len (pa_cons (pv 1) pa_nil)) pa_nil)))
                (pe_c cD hr (by decide) rfl (pa_cons (pv 0) (pa_cons pe_int pa_nil))) (fun _ _ => rfl)) pa_nil)))) pa_nil)) (pg_name (i := 7) sc_l_coming.nd rfl (.inl rfl))
          (pss_one (ps_expr (pe_bm PySem.F.plainAttrs_list PySem.F.slot_list_append PySem.F.type_list_append mt_append (pv 6) (pa_cons (pe_bm PySem.F.plainAttrs_list PySem.F.slot_list_pop PySem.F.type_list_pop mt_popAt (pv 5) (pa_cons (pe_c cD hr (by decide) rfl (pa_cons (pv 0) (pa_cons (pe_callB call_len_seq rfl bl.len boot_len (pa_cons (pv 5) pa_nil)) pa_nil))) pa_nil)) pa_nil)))))
        (pss_cons (ps_setLc (i := 8) (own := [("_law_name", 9)]) (g := gName 9) rfl sc_l_coming.nd rfl rfl (sw_true rfl rfl rfl (by decide +kernel)) (pi_list (pv 6)) (blkOk_by (N := N_l_coming) (sc := defScope s_l_coming) (by decide +kernel))
            (fun _ _ _ _ _ => pg_name (i := 9) sc_l_coming.nd rfl (Or.inl rfl)) (fun _ _ _ _ _ => pts_one (pt_cmpR op_gt (pe_c cD hr (by decide) rfl (pa_cons (pv 0) (pa_cons pe_int pa_nil))) pe_int (nomark _))) (fun _ _ _ _ _ => pv 9))
        (pss_one (ps_expr (pe_bm PySem.F.plainAttrs_list PySem.F.slot_list_append PySem.F.type_list_append mt_append (pv 3) (pa_cons (pe_tup (pa_cons (pe_callTy call_tuple_of rfl btup boot_tuple (pa_cons (pv 6) pa_nil)) (pa_cons
            (pe_ifExp (pt_cmpR (op_neD hu64) (pv 8) (pe_lst pa_nil) (nomark _)) (pe_callTy call_tuple_of rfl btup boot_tuple (pa_cons (pv 8) pa_nil)) (pe_callTy call_tuple_of rfl btup boot_tuple (pa_cons (pe_slice sl_list (pv 6) po_none (po_some pe_int)) pa_nil))) pa_nil))) pa_nil))))))))
      (pss_one (ps_ret (pv 3))))), ?_⟩
    have xpos : 0 < xs.length := List.length_pos_iff.mpr xne
    refine ⟨by show 0 ≤ sizeLine; decide, fun O fO => ?_⟩
    have sO := same_new (o := .lst []) fO
    refine ⟨_, rfl, _, rfl, by omega, by omega, ?_⟩
    rw [Int.toNat_natCast]
    refine for_range (n := m) (CmI h nl O m c xs H)
      ⟨_, _, _, _, _, [], rfl, (hld.same sO).weak (by omega), Kp.same sO, (Cel.of hld fO).kp (Kp.same sO), ⟨upd_same, fun d hd => nomatch hd⟩, rfl, fun d hd => nomatch hd⟩ ?_ ?_
    · rintro i σ H5 hi ⟨v4, v5, v6, v7, v8, ds, rfl, held5, k5, cO5, D5, dl5, dm5⟩
      have hnl5 := kp_lst k5 hld _ _ hnl
      refine ⟨_, rfl, nl, _, rfl, .inl (SqL.of hnl5), fun ll fll => ⟨by show 0 ≤ sizeLine; decide, fun o fo => ⟨_, _, rfl, ?_⟩⟩⟩
      have sl := same_new (o := .lst (xs.map V.str)) fll
      have so := same_new (o := .lst []) fo
      have slo := sl.trans so
      have nlo : ll ≠ o := ne_of_none upd_same fo
      have fo5 : H5 o = none := sl.free fo
      have hll6 : (upd (upd H5 ll (.lst (xs.map V.str))) o (.lst [])) ll = some (.lst (xs.map V.str)) := by rw [upd_ne nlo]; exact upd_same
      have ho6 : (upd (upd H5 ll (.lst (xs.map V.str))) o (.lst [])) o = some (.lst []) := upd_same
      have k56 : Kp h H5 (upd (upd H5 ll (.lst (xs.map V.str))) o (.lst [])) := Kp.same slo
      have held6 := held5.same slo
      have cll6 := (Cel.of held5 fll).kp k56
      have co6 := (Cel.of held5 fo5).kp k56
      have D6 := D5.same slo
      have cO6 := cO5.kp k56
      have nOl : O ≠ ll := ne_of_none D5.1 fll
      have nOo : O ≠ o := ne_of_none D5.1 fo5
      have hnl6 := slo _ _ hnl5
      have nnl : nl ≠ ll := ne_of_none hnl5 fll
      have nno : nl ≠ o := ne_of_none hnl5 fo5
      generalize upd (upd H5 ll (.lst (xs.map V.str))) o (.lst []) = H6 at hll6 ho6 k56 held6 cll6 co6 D6 cO6 hnl6
      refine ⟨_, rfl, _, rfl, nl, _, rfl, .inl (SqL.of hnl6), _, _, rfl, ?_⟩
      rw [List.length_map]
      refine ⟨_, rfl, nl, _, rfl, .inl (SqL.of hnl6), by show 2 ≤ sizeLine; decide, fun pl fpl => ?_⟩
      rw [List.length_map]
      obtain ⟨m5, hm5, p5, q5⟩ : ∃ m5 : Nat, (if (5 : Int) < (xs.length : Nat) then (5 : Int) else (xs.length : Nat)) = (m5 : Nat) ∧ 1 ≤ m5 ∧ m5 ≤ xs.length := by
        by_cases z : 5 < xs.length
        · exact ⟨5, if_pos (by omega), by decide, by omega⟩
        · exact ⟨xs.length, if_neg (by omega), xpos, Nat.le_refl _⟩
      rw [hm5]
      have sp := same_new (o := .lst [V.int (m5 : Nat), V.int (xs.length : Nat)]) fpl
      have hpl : (upd H6 pl (.lst [V.int (m5 : Nat), V.int (xs.length : Nat)])) pl = some (.lst [V.int (m5 : Nat), V.int (xs.length : Nat)]) := upd_same
      have k6p : Kp h H6 (upd H6 pl (.lst [V.int (m5 : Nat), V.int (xs.length : Nat)])) := Kp.same sp
      have held6p := held6.same sp
      generalize upd H6 pl (.lst [V.int (m5 : Nat), V.int (xs.length : Nat)]) = H7 at hpl k6p held6p
      refine ⟨_, rfl, h, c + 30 * (m - i) - 1, 2, rfl, held6p.weak (by omega), by decide, by decide, fun r H8 r0 r2 held8 k8 => ?_⟩
      have hpl8 := kp_lst k8 held6p _ _ hpl
      obtain ⟨n0, hn0, n01, n0x⟩ : ∃ n0 : Nat, atI [V.int (m5 : Nat), V.int (xs.length : Nat)] r = some (V.int (n0 : Nat)) ∧ 1 ≤ n0 ∧ n0 ≤ xs.length := by
        have : r = 0 ∨ r = 1 := by omega
        rcases this with rfl | rfl
        · exact ⟨m5, rfl, p5, q5⟩
        · exact ⟨xs.length, rfl, xpos, Nat.le_refl _⟩
      refine ⟨pl, _, _, _, rfl, rfl, SqL.of hpl8, hn0, h, c + 30 * (m - i) - 2, _, rfl, held8.weak (by omega), by omega, by omega, fun r9 H9 r90 r9n held9 k9 => ?_⟩
      refine ⟨_, _, rfl, rfl, _, rfl, by omega, by omega, ?_⟩
      obtain ⟨rn, rfl⟩ := Int.eq_ofNat_of_zero_le r90
      obtain ⟨n, hn⟩ : ∃ n : Nat, n = 1 + rn := ⟨_, rfl⟩
      have en : (1 + (rn : Int)).toNat = n := by omega
      rw [en]
      have n1 : 1 ≤ n := by omega
      have nx : n ≤ xs.length := by omega
      have k69 := (k6p.trans k8).trans k9
      have hll9 := k69.1 _ _ hll6 cll6.ne
      have ho9 := k69.1 _ _ ho6 co6.ne
      refine for_range (n := n) (fun j σ Hj => ∃ (L R : List Str) (v7 : Option V), σ = [some (.ref h), some (.ref nl), some (.int (m : Nat)), some (.ref O), some (.int (0 + (i : Int))), some (.ref ll), some (.ref o), v7, v8, none] ∧ Hj ll = some (.lst (L.map V.str)) ∧ Hj o = some (.lst (R.map V.str)) ∧ (R ++ L).Perm xs ∧ R.length = j ∧ Held Hj h (c + 30 * (m - i) - 2 - j) ∧ Cel h ll Hj ∧ Cel h o Hj ∧ Cel h O Hj ∧ (∀ b x, H5 b = some x → b ≠ h → Hj b = some x) ∧ Kp h H5 Hj)
        ⟨xs, [], _, rfl, hll9, ho9, List.Perm.refl _, rfl, held9, cll6.kp k69, co6.kp k69, cO6.kp k69, fun b x e ne => k69.1 _ _ (k56.1 _ _ e ne) ne, k56.trans k69⟩ ?_ ?_
      · rintro j σ Hj hj ⟨L, R, v7, rfl, hL, hR, pm, rl, heldj, clj, coj, cOj, old, kj⟩
        have lenL : L.length = xs.length - j := by
          have := pm.length_eq
          rw [List.length_append] at this
          omega
        refine ⟨_, rfl, Or.inl ⟨rfl, _, SqL.of hR⟩, _, rfl, Or.inl ⟨rfl, _, SqL.of hL⟩, _, rfl, _, rfl, ll, _, rfl, .inl (SqL.of hL), h, c + 30 * (m - i) - 2 - (j + 1), _, rfl, heldj.weak (by omega), by rw [List.length_map]; omega, by rw [List.length_map]; omega, fun r Hk a6 b6 heldk kk => ?_⟩
        rw [List.length_map] at b6
        obtain ⟨q, rfl⟩ := Int.eq_ofNat_of_zero_le a6
        have hq : q < L.length := by omega
        have hLk := kk.1 _ _ hL clj.ne
        have hRk := kk.1 _ _ hR coj.ne
        have clk := clj.kp kk
        have cok := coj.kp kk
        have cOk := cOj.kp kk
        refine ⟨ll, _, _, q, .str L[q], rfl, rfl, hLk, by omega, by omega, ?_, ?_, ?_⟩
        · rw [List.length_map]
          unfold seqIndex?
          have z : ¬ ((q : Int) < 0) := by omega
          simp [hq, z]
        · rw [List.getElem?_map, List.getElem?_eq_getElem hq]
          rfl
        have hR7 : (upd Hk ll (.lst ((L.map V.str).eraseIdx q))) o = some (.lst (R.map V.str)) := by rw [upd_ne nlo.symm]; exact hRk
        have oldk : ∀ b x, H5 b = some x → b ≠ h → (upd (upd Hk ll (.lst ((L.map V.str).eraseIdx q))) o (.lst (R.map V.str ++ [V.str L[q]]))) b = some x := fun b x e ne => by
          rw [upd_ne (ne_of_none e fo5), upd_ne (ne_of_none e fll)]
          exact kk.1 _ _ (old b x e ne) ne
        refine ⟨o, _, _, rfl, rfl, hR7, ?_, L.eraseIdx q, R ++ [L[q]], _, rfl, ?_, ?_, ?_, by simp [rl], (heldk.put clk).put (cok.put clk.ne.symm), (clk.put clk.ne.symm).put cok.ne.symm, (cok.put clk.ne.symm).put cok.ne.symm, (cOk.put clk.ne.symm).put cok.ne.symm, oldk, ((kj.trans kk).new fll).new fo5⟩
        · rw [List.length_map, rl]
          exact Nat.lt_of_lt_of_le (by omega : j < 64) (by decide)
        · rw [upd_ne nlo, upd_same, map_eraseIdx']
        · rw [upd_same, List.map_append]
          rfl
        · have e1 : L.Perm (L[q] :: L.eraseIdx q) := perm_eraseIdx hq
          rw [List.append_assoc]
          exact (List.Perm.append_left R e1.symm).trans pm
      rintro σ Hj ⟨L, R, v7, rfl, hL, hR, pm, rl, heldj, clj, coj, cOj, old, kj⟩
      have ndRL := pm.nodup_iff.mpr xnd
      have ndR := (List.nodup_append.mp ndRL).1
      have subR : ∀ y ∈ R, y ∈ xs := fun y hy => pm.mem_iff.mp (List.mem_append_left _ hy)
      have neR : R ≠ [] := fun z => by rw [z] at rl; simp at rl; omega
      -- who is able
      refine ⟨_, rfl, o, rfl, ⟨_, SqL.of hR⟩, fun B0 hB0 => lc_list (K := K) (xs := R.map V.str) (fun j H' => ∃ B : List Str, H' B0 = some (.lst (B.map V.str)) ∧ B.length ≤ j ∧ B.Sublist (R.take j) ∧ Held H' h (c + 30 * (m - i) - 14 - j) ∧ Kp h Hj H' ∧ Cel h B0 H')
        ⟨[], upd_same, Nat.le_refl _, List.nil_sublist _, (heldj.same (same_new hB0)).weak (by omega), Kp.same (same_new hB0), (Cel.of heldj hB0).kp (Kp.same (same_new hB0))⟩ (fun j H' _ z => by obtain ⟨_, _, _, _, _, z, _⟩ := z; exact SqL.of (z.1 _ _ hR coj.ne)) ?_ ?_⟩
      · rintro j v Hk hj ⟨B, hB, bl, bs, heldk, kk, cBk⟩
        rw [List.getElem?_map] at hj
        obtain ⟨z, hz, rfl⟩ := Option.map_eq_some_iff.mp hj
        have hzR := List.mem_of_getElem? hz
        have jl := (List.getElem?_eq_some_iff.mp hz).1
        refine ⟨rfl, ?_⟩
        refine ⟨_, rfl, h, c + 30 * (m - i) - 14 - (j + 1), 3, rfl, heldk.weak (by omega), by decide, by decide, fun r Hm r0 r3 heldm km => ?_⟩
        have hBm := km.1 _ _ hB cBk.ne
        refine ⟨_, _, rfl, rfl, _, rfl, ?_⟩
        have tk : R.take (j + 1) = R.take j ++ [z] := by
          rw [List.take_add_one, hz]
          rfl
        refine ite2 (fun _ => ?_) (fun _ => ⟨B, hBm, by omega, bs.trans (by rw [tk]; exact List.sublist_append_left _ _), heldm, kk.trans km, cBk.kp km⟩)
        refine ⟨_, rfl, _, hBm, by rw [List.length_map]; exact line_lt (by omega), B ++ [z], by rw [upd_same, List.map_append]; rfl, by rw [List.length_append]; show B.length + 1 ≤ j + 1; omega, by rw [tk]; exact List.Sublist.append bs (List.Sublist.refl _), heldm.put (cBk.kp km), (kk.trans km).new hB0, (cBk.kp km).put cBk.ne.symm⟩
      rintro Hk ⟨B, hB, bl2, bs, heldk, kk, cBk⟩
      rw [List.length_map] at bl2 heldk
      have bnd : B.Nodup := (bs.trans (List.take_sublist _ _)).nodup ndR
      have bs : ∀ y ∈ B, y ∈ R := fun y hy => (bs.trans (List.take_sublist _ _)).mem hy
      have hRk := kk.1 _ _ hR coj.ne
      have kjk := kj.trans kk
      have cOk := cOj.kp kk
      have DOk : DyL Hk O ds := ⟨kk.1 _ _ (old _ _ D5.1 cO5.ne) cO5.ne, fun d hd => (D5.2 d hd).tup (kp_tup kjk held5)⟩
      have oksB : ∀ x ∈ B, PyData.strOk x = true := fun x hx => oks x (subR x (bs x hx))
      refine ⟨_, rfl, Or.inl ⟨rfl, _, SqL.of DOk.1⟩, _, rfl, o, _, rfl, .inl ⟨SqL.of hRk, fun tp ftp => ?_⟩⟩
      have st := same_new (o := .tup (R.map V.str)) ftp
      have htp : (upd Hk tp (.tup (R.map V.str))) tp = some (.tup (R.map V.str)) := upd_same
      generalize upd Hk tp (.tup (R.map V.str)) = Hl at st htp
      refine ⟨_, rfl, by show 0 ≤ sizeLine; decide, fun e fe => ?_⟩
      have se := same_new (o := .lst []) fe
      have sle := st.trans se
      have htp2 := se _ _ htp
      refine ⟨.list (B.map .str), .list [], Dp.lst (SqL.of (sle _ _ hB)) (dp_ss B), Dp.lst (SqL.of upd_same) .nil, DQ.sh_strs oksB, by decide, ?_⟩
      generalize upd Hl e (.lst []) = Hm at sle htp2
      rw [eqv_nil]
      refine ⟨_, rfl, ?_⟩
      refine ite2 (fun hne => ?_) (fun _ => ?_)
      · have bne : B ≠ [] := fun z => by rw [z] at hne; cases hne
        refine ⟨_, rfl, B0, _, rfl, .inl ⟨SqL.of (sle _ _ hB), fun t2 ft2 => ⟨by show 2 ≤ sizeLine; decide, fun ta fta => ?_⟩⟩⟩
        have s2 := same_new (o := .tup (B.map V.str)) ft2
        have sa := same_new (o := .tup [.ref tp, .ref t2]) fta
        have sz := (sle.trans s2).trans sa
        have DZ := DOk.same sz
        refine ⟨O, _, _, rfl, rfl, DZ.1, by rw [List.length_map, dl5]; exact line_lt (by omega), CmI.add ((heldk.same sz).weak (by omega)) ((k5.trans kjk).trans (Kp.same sz)) (cOk.kp (Kp.same sz)) DZ dl5 dm5 fO (sa _ _ (s2 _ _ htp2)) (sa _ _ upd_same) upd_same ndR neR (by omega) (by omega) bnd bs bne subR fun y hy => subR y (bs y hy)⟩
      · refine ⟨_, rfl, _, rfl, o, _, rfl, SqL.of (sle _ _ hRk), fun q0 fq0 => ?_⟩
        have ec : cutV (R.map V.str) none (some 1) = (R.take 1).map V.str := by
          unfold cutV HT.sIx
          cases R with
          | nil => rfl
          | cons y R => simp
        have sq0 := same_new (o := .lst (cutV (R.map V.str) none (some 1))) fq0
        have hq0 : (upd Hm q0 (.lst (cutV (R.map V.str) none (some 1)))) q0 = some (.lst (cutV (R.map V.str) none (some 1))) := upd_same
        generalize upd Hm q0 (.lst (cutV (R.map V.str) none (some 1))) = Hn at sq0 hq0
        rw [ec] at hq0
        have s0 := sle.trans sq0
        refine ⟨q0, _, rfl, .inl ⟨SqL.of hq0, fun t2 ft2 => ⟨by show 2 ≤ sizeLine; decide, fun ta fta => ?_⟩⟩⟩
        have s2 := same_new (o := .tup ((R.take 1).map V.str)) ft2
        have sa := same_new (o := .tup [.ref tp, .ref t2]) fta
        have sz := (s0.trans s2).trans sa
        have DZ := DOk.same sz
        refine ⟨O, _, _, rfl, rfl, DZ.1, by rw [List.length_map, dl5]; exact line_lt (by omega), CmI.add ((heldk.same sz).weak (by omega)) ((k5.trans kjk).trans (Kp.same sz)) (cOk.kp (Kp.same sz)) DZ dl5 dm5 fO (sa _ _ (s2 _ _ (sq0 _ _ htp2))) (sa _ _ upd_same) upd_same ndR neR (by omega) (by rw [List.length_take]; omega) ((List.take_sublist _ _).nodup ndR) (fun y hy => List.mem_of_mem_take hy) (by cases R with | nil => exact absurd rfl neR | cons y R => simp) subR fun y hy => subR y (List.mem_of_mem_take hy)⟩
    · rintro σ H5 ⟨v4, v5, v6, v7, v8, ds, rfl, held5, k5, cO5, D5, dl5, dm5⟩
      exact ⟨_, rfl, hQ O ds H5 (held5.weak (by omega)) k5 fO D5 dl5 dm5⟩
end
end K52
set_option Elab.async false
set_option linter.all false
set_option maxRecDepth 100000
set_option maxHeartbeats 4000000
namespace K52
open PySem PySem.Spec PyProof.Rows L2
open C8 (Cal Mak Met pe_c pe_mk pe_mt pe_mt0)
open KM (pr Sz)
theorem paired_map {α : Type} {R : Addr → Key × V → Prop} {g : α → Addr} {k : α → Key × V} : ∀ {l : List α}, (∀ x ∈ l, R (g x) (k x)) → Paired R (l.map g) (l.map k)
  | [], _ => .nil
  | x :: l, h => .cons (h x List.mem_cons_self) (paired_map fun y hy => h y (List.mem_cons_of_mem _ hy))
theorem pr_neg (v : Rat) : (0 - (pr v).1, (pr v).2) = pr (-v) := by
  show (0 - v.num, (v.den : Int)) = ((-v).num, ((-v).den : Int))
  rw [Rat.neg_num, Rat.neg_den, Int.zero_sub]
/-- hand-overs of fractions in a list -/
def TL (H : Hp) (l : Addr) (rows : List Ro) : Prop := H l = some (.lst (rows.map fun r => V.ref r.a)) ∧ ∀ r ∈ rows, H r.a = some (.tup [.str r.p, .str r.t, .ref r.s]) ∧ H r.s = some (tupP (pr r.v))
theorem TL.same {H H' : Hp} {l : Addr} {rows : List Ro} (h : TL H l rows) (s : Same H H') : TL H' l rows := ⟨s _ _ h.1, fun r hr => ⟨s _ _ (h.2 r hr).1, s _ _ (h.2 r hr).2⟩⟩
theorem mvs_pre {rows : List Ro} {i : Nat} {r : Ro} (h : rows[i]? = some r) : mvs (rows.take i) <+: mvs rows ∧ (mvs (rows.take i) ++ [(r.p, r.v)]) <+: mvs rows := by
  have e : rows = rows.take i ++ r :: rows.drop (i + 1) := by
    have h2 := List.getElem?_eq_some_iff.mp h
    obtain ⟨hl, e⟩ := h2
    rw [← e, List.getElem_cons_drop, List.take_append_drop]
  have e2 : mvs rows = mvs (rows.take i) ++ ([(r.p, r.v), (r.t, -r.v)] ++ mvs (rows.drop (i + 1))) := by
    conv => lhs; rw [e]
    unfold mvs
    rw [List.flatMap_append, List.flatMap_cons]
  refine ⟨⟨_, e2.symm⟩, ⟨(r.t, -r.v) :: mvs (rows.drop (i + 1)), ?_⟩⟩
  rw [e2]
  simp
section
variable {P : Program} {w : World} {K : PySem.W.Frag} {mg : Str → Option Value} {base : Heap} {f C CT : Addr} {fd : FuncData}
def spLS (C : Addr) : Sp := fun vs H Q _ => ∃ (d : Addr) (L : List Str) (c : Str → Rat), vs = [.ref d] ∧ TDc H d L c ∧ L.Nodup ∧ L.length ≤ 30 ∧ (∀ x ∈ L, Sz 150 (c x)) ∧ ∀ D H', Same H H' → H D = none → SDc C H' D L c → Q (.ref D) H'
theorem ok_ls (F : Dn K d_l_shares f fd) (bd : mg "dict" = none) (MS : MakS P w K mg base C) : FnOk P w K mg base CX0 4 f fd ["_law_standing"] (spLS C) := by
  refine F.ok sc_l_shares (fun vs H Q E h => ?_) (fun cdv A outer s H vs Q E hr h => ?_)
  · obtain ⟨d, L, c, rfl, _⟩ := h
    rfl
  · obtain ⟨d, L, c, rfl, ⟨ad, hd, hv⟩, nd, ll, hz, hQ⟩ := h
    have hu := hu_of hr
    refine ⟨_, PSs.nox (pss_one (ps_ret (pe_callTy (call_dictP rfl) rfl bd boot_dict (pa_cons (pe_lock (pe_lc (own := [("_law_name", 1)]) (g := gName 1) (tt := tYes) rfl sc_l_shares.nd (pi_keys (pv 0)) (blkOk_by (N := N_l_shares) (sc := defScope s_l_shares) (by decide +kernel))
        (fun _ _ _ _ _ => pg_name (i := 1) sc_l_shares.nd rfl (Or.inl rfl)) (fun _ _ _ _ _ => pts_nil)
        (fun _ _ _ _ _ => pe_tup (pa_cons (pv 1) (pa_cons (pe_mk MS hr (by decide) rfl (pa_cons (pe_ix (r := rIxT K) ix_tup (pe_dget hu (pv 0) (pv 1) (fun _ _ => rfl)) pe_int (fun _ _ => rfl)) (pa_cons (pe_ix (r := rIxT K) ix_tup (pe_dget hu (pv 0) (pv 1) (fun _ _ => rfl)) pe_int (fun _ _ => rfl)) pa_nil))) pa_nil))))) pa_nil)))), ?_⟩
    refine ⟨d, _, hd, trivial, fun od => ?_⟩
    obtain ⟨hd1, kp1, new1, back1⟩ := lockf (C := C) hd od
    have hv1 : ∀ x ∈ L, (upd H d (.frz od (dctO L fun x => .ref (ad x)))) (ad x) = some (tupP (pr (c x))) := fun x hx => kp1 _ _ (hv x hx) fun z => by have := hv x hx; rw [z, hd] at this; cases this
    generalize upd H d (.frz od (dctO L fun x => .ref (ad x))) = H1 at hd1 kp1 new1 back1 hv1
    refine ⟨_, rfl, d, od, rfl, .inl ⟨_, hd1, fun D hD => lc_it walk_keys (fun i H2 => ∃ (pa sa : Str → Addr), H2 D = some (.lst ((L.take i).map fun x => V.ref (pa x))) ∧ (∀ x ∈ L.take i, H2 (pa x) = some (.tup [.str x, .ref (sa x)]) ∧ Sh C H2 (sa x) (pr (c x))) ∧ Same H1 H2)
      ⟨fun _ => 0, fun _ => 0, upd_same, fun x hx => by simp at hx, same_new hD⟩ (fun i H2 _ z => by obtain ⟨_, _, _, _, sm⟩ := z; exact sm _ _ hd1) ?_ ?_⟩⟩
    · rintro i x H2 H3 hi ⟨pa, sa, hdd, hval, sm⟩ ⟨eH, kk, v, hkk, rfl⟩
      have eH := eH.symm
      subst eH
      rw [List.length_map] at hi
      rw [List.getElem?_map] at hkk
      obtain ⟨z, hz0, e0⟩ := Option.map_eq_some_iff.mp hkk
      cases e0
      have hzL := List.mem_of_getElem? hz0
      have nz := nin_take nd hz0
      refine ⟨rfl, ?_⟩
      have dg : DGet H2 d (.str z) (some (.ref (ad z))) := .inl ⟨_, Sum.inr z, .inr ⟨od, sm _ _ hd1⟩, rfl, by rw [val_dct, if_pos hzL]⟩
      have hvz := sm _ _ (hv1 z hzL)
      refine ⟨_, rfl, _, rfl, _, rfl, d, _, rfl, dg, ad z, _, _, _, rfl, rfl, SqT.of hvz, atI_nat (j := 0) rfl, _, rfl, _, rfl, d, _, rfl, dg, ad z, _, _, _, rfl, rfl, SqT.of hvz, atI_nat (j := 1) rfl, ?_⟩
      intro t dt nt ndt ne
      refine mk_in (n := 150) nt ndt (by have := KM.den_pos (c z); show ((c z).den : Int) ≠ 0; omega) (by have := (hz z hzL).2; show ((c z).den : Int).natAbs < 2 ^ 150; omega) (by decide) (by decide) fun H4 s4 ht => ⟨rfl, ?_⟩
      have ht : Sh C H4 t (pr (c z)) := by
        have e : Rat.divInt (c z).num ((c z).den : Int) = c z := Rat.num_divInt_den _
        have ht : Sh C H4 t (pr (Rat.divInt (c z).num ((c z).den : Int))) := ht
        rw [e] at ht
        exact ht
      refine ⟨by show 2 ≤ sizeLine; decide, fun q fq => ?_⟩
      have sq := same_new (o := .tup [.str z, .ref t]) fq
      have s24 := s4.trans sq
      have hD4 := s24 _ _ hdd
      refine ⟨_, hD4, by rw [List.length_map, List.length_take]; exact line_lt (by omega), fun x => if x = z then q else pa x, fun x => if x = z then t else sa x, ?_, fun x hx => ?_, fun b o e => ?_⟩
      · rw [upd_same, take_one hz0, List.map_append]
        have e1 : (L.take i).map (fun x => V.ref (pa x)) = (L.take i).map fun x => V.ref (if x = z then q else pa x) := List.map_congr_left fun x hx => by rw [if_neg (show ¬ x = z from fun e => nz (e ▸ hx))]
        rw [e1]
        simp
      · have nD : ∀ {p : Addr} {o : HO}, (upd H4 q (.tup [.str z, .ref t])) p = some o → (∀ ys, o ≠ .lst ys) → p ≠ D := fun {p o} e n zz => by
          rw [zz, hD4] at e
          exact n _ (Option.some.inj e).symm
        rw [take_one hz0] at hx
        by_cases e : x = z
        · subst e
          dsimp only
          rw [if_pos rfl, if_pos rfl]
          refine ⟨?_, ?_⟩
          · rw [upd_ne (nD upd_same (fun ys e => by cases e))]
            exact upd_same
          · obtain ⟨dx, e⟩ := ht
            have e2 := sq _ _ e
            exact ⟨dx, by rw [upd_ne (nD e2 (fun ys e => by cases e))]; exact e2⟩
        · have hx' : x ∈ L.take i := by
            rcases List.mem_append.mp hx with q' | q'
            · exact q'
            · exact absurd (List.mem_singleton.mp q') e
          obtain ⟨h1, dx, h2⟩ := hval x hx'
          dsimp only
          rw [if_neg e, if_neg e]
          have g1 := s24 _ _ h1
          have g2 := s24 _ _ h2
          exact ⟨by rw [upd_ne (nD g1 (fun ys e => by cases e))]; exact g1, dx, by rw [upd_ne (nD g2 (fun ys e => by cases e))]; exact g2⟩
      · rw [upd_ne (ne_of_none e hD)]
        exact s24 _ _ (sm _ _ e)
    rintro H2 ⟨pa, sa, hdd, hval, sm⟩
    rw [List.length_map, List.take_length] at hdd hval
    obtain ⟨nD, nDd⟩ := new1 D hD
    have hd2 := sm _ _ hd1
    have s02 := back1 H2 sm
    refine ⟨hd2, ?_⟩
    have g0 : (upd H2 d (dctO L fun x => .ref (ad x))) D = some (.lst (L.map fun x => V.ref (pa x))) := by rw [upd_ne nDd]; exact hdd
    have g1 : ∀ x ∈ L, (upd H2 d (dctO L fun x => .ref (ad x))) (pa x) = some (.tup [.str x, .ref (sa x)]) ∧ Sh C (upd H2 d (dctO L fun x => .ref (ad x))) (sa x) (pr (c x)) := fun x hx => by
      obtain ⟨h1, h2⟩ := hval x hx
      exact ⟨by rw [upd_ne fun z => by rw [z, hd2] at h1; cases h1]; exact h1, h2.un (h2.at_frz hd2)⟩
    generalize upd H2 d (dctO L fun x => .ref (ad x)) = H3 at s02 g0 g1
    refine ⟨D, L.map pa, L.map fun x => ((Sum.inr x : Key), V.ref (sa x)), rfl, by rw [List.map_map]; exact SqL.of g0, paired_map fun x hx => SqT.of (g1 x hx).1, fun q fq => ?_⟩
    have em : mergeK [] (L.map fun x => ((Sum.inr x : Key), V.ref (sa x))) = L.map fun x => ((Sum.inr x : Key), V.ref (sa x)) := DQ.merge_map (fun x => V.ref (sa x)) (l := L) (m := []) nd
    rw [em]
    have sq := same_new (o := .dK (L.map fun x => ((Sum.inr x : Key), V.ref (sa x)))) fq
    exact hQ q _ (s02.trans sq) (s02.free fq) ⟨sa, upd_same, fun x hx => (g1 x hx).2.keep sq⟩
end
end K52
set_option Elab.async false
set_option linter.all false
set_option maxRecDepth 100000
set_option maxHeartbeats 4000000
namespace K52
open PySem PySem.Spec PyProof.Rows L2
open C8 (Cal Mak Met pe_c pe_mk pe_mt pe_mt0)
open KM (pr Sz)
theorem pr_prt {R : List Str} (ne : R ≠ []) : pr (prt R) = (1, ((R.length : Nat) : Int)) := by
  have p := List.length_pos_iff.mpr ne
  unfold prt
  rw [← KM.low_eq (by omega)]
  unfold KM.low KM.sg
  have g : Int.gcd 1 ((R.length : Nat) : Int) = 1 := by simp
  rw [g, if_neg (by omega)]
  simp
theorem fr_snoc (ds : List Dy) (d : Dy) : fr (ds ++ [d]) = fr ds ++ d.R.map fun x => (x, prt d.R) := by
  unfold fr
  rw [List.flatMap_append]
  simp
section
variable {P : Program} {w : World} {K : PySem.W.Frag} {mg : Str → Option Value} {base : Heap} {f C : Addr} {fd : FuncData}
def spWn : Sp := fun vs H Q _ => ∃ (d l : Addr) (L : List Str) (c : Str → Rat) (ds : List Dy), vs = [.ref d, .ref l] ∧ TDc H d L c ∧ L.Nodup ∧ L.length ≤ 20 ∧ (∀ x ∈ L, Sz 100 (c x)) ∧ DyL H l ds ∧ ds.length ≤ 60 ∧
  ∀ D H', Same H H' → H D = none → TDc H' D (mvL (L, fun x => -(c x)) (fr ds)).1 (mvL (L, fun x => -(c x)) (fr ds)).2 → Q (.ref D) H'
theorem ok_wn (F : Dn K d_l_wants f fd) (bl : Bl mg) (bd : mg "dict" = none) (cA : Cal P w K mg base 2 "_law_add" spAdd []) : FnOk P w K mg base CX0 4 f fd ["_law_standing", "_law_days"] spWn := by
  refine F.ok sc_l_wants (fun vs H Q E h => ?_) (fun cdv A outer s H vs Q E hr h => ?_)
  · obtain ⟨_, _, _, _, _, rfl, _⟩ := h
    rfl
  · obtain ⟨d, l, L, c, ds, rfl, ⟨ad, hd, hv⟩, nd, ll, hz, hDL, dl, hQ⟩ := h
    have hu := hu_of hr
    refine ⟨_, PSs.nox (pss_cons (ps_set (i := 3) sc_l_wants.nd rfl (.inl rfl) (pe_callTy (call_dictP rfl) rfl bd boot_dict (pa_cons (pe_lock (pe_lc (own := [("_law_name", 2)]) (g := gName 2) (tt := tYes) rfl sc_l_wants.nd (pi_keys (pv 0)) (blkOk_by (N := N_l_wants) (sc := defScope s_l_wants) (by decide +kernel))
        (fun _ _ _ _ _ => pg_name (i := 2) sc_l_wants.nd rfl (Or.inl rfl)) (fun _ _ _ _ _ => pts_nil)
        (fun _ _ _ _ _ => pe_tup (pa_cons (pv 2) (pa_cons (pe_tup (pa_cons (pe_op op_sub pe_int (pe_ix (r := rIxT K) ix_tup (pe_dget hu (pv 0) (pv 2) (fun _ _ => rfl)) pe_int (fun _ _ => rfl))) (pa_cons (pe_ix (r := rIxT K) ix_tup (pe_dget hu (pv 0) (pv 2) (fun _ _ => rfl)) pe_int (fun _ _ => rfl)) pa_nil))) pa_nil))))) pa_nil)))
      (pss_cons (ps_for PassesOwn.never rfl (pi_list (pv 1)) (pg_tup rfl (pgs_cons (pg_name (i := 4) sc_l_wants.nd rfl (.inl rfl)) (pgs_cons (pg_name (i := 5) sc_l_wants.nd rfl (.inl rfl)) pgs_nil)))
        (pss_one (ps_for PassesOwn.never rfl (pi_tup (pv 4)) (pg_name (i := 2) sc_l_wants.nd rfl (.inl rfl))
          (pss_one (ps_dput hu (pv 3) (pv 2) (pe_c cA hr (by decide) rfl (pa_cons (pe_dget2 hu (pv 3) (pv 2) (pe_tup (pa_cons pe_int (pa_cons pe_int pa_nil))) ⟨rfl, rfl, rfl, rfl⟩) (pa_cons (pe_tup (pa_cons pe_int (pa_cons (pe_callB call_len_seq rfl bl.len boot_len (pa_cons (pv 4) pa_nil)) pa_nil))) pa_nil))) rfl)))))
      (pss_one (ps_ret (pv 3))))), ?_⟩
    refine ⟨d, _, hd, trivial, fun od => ?_⟩
    obtain ⟨hd1, kp1, new1, back1⟩ := lockf (C := 0) hd od
    have hv1 : ∀ x ∈ L, (upd H d (.frz od (dctO L fun x => .ref (ad x)))) (ad x) = some (tupP (pr (c x))) := fun x hx => kp1 _ _ (hv x hx) fun z => by have := hv x hx; rw [z, hd] at this; cases this
    generalize upd H d (.frz od (dctO L fun x => .ref (ad x))) = H1 at hd1 kp1 new1 back1 hv1
    refine ⟨_, rfl, d, od, rfl, .inl ⟨_, hd1, fun D hD => lc_it walk_keys (fun i H2 => ∃ (pa sa : Str → Addr), H2 D = some (.lst ((L.take i).map fun x => V.ref (pa x))) ∧ (∀ x ∈ L.take i, H2 (pa x) = some (.tup [.str x, .ref (sa x)]) ∧ H2 (sa x) = some (tupP (pr (-(c x))))) ∧ Same H1 H2)
      ⟨fun _ => 0, fun _ => 0, upd_same, fun x hx => by simp at hx, same_new hD⟩ (fun i H2 _ z => by obtain ⟨_, _, _, _, sm⟩ := z; exact sm _ _ hd1) ?_ ?_⟩⟩
    · rintro i x H2 H3 hi ⟨pa, sa, hdd, hval, sm⟩ ⟨eH, kk, v, hkk, rfl⟩
      have eH := eH.symm
      subst eH
      rw [List.length_map] at hi
      rw [List.getElem?_map] at hkk
      obtain ⟨z, hz0, e0⟩ := Option.map_eq_some_iff.mp hkk
      cases e0
      have hzL := List.mem_of_getElem? hz0
      have nz := nin_take nd hz0
      refine ⟨rfl, ?_⟩
      have dg : DGet H2 d (.str z) (some (.ref (ad z))) := .inl ⟨_, Sum.inr z, .inr ⟨od, sm _ _ hd1⟩, rfl, by rw [val_dct, if_pos hzL]⟩
      have hvz := sm _ _ (hv1 z hzL)
      refine ⟨_, rfl, _, rfl, _, rfl, d, _, rfl, dg, ad z, _, _, _, rfl, rfl, SqT.of hvz, atI_nat (j := 0) rfl, _, _, rfl, rfl, _, rfl, _, rfl, d, _, rfl, dg, ad z, _, _, _, rfl, rfl, SqT.of hvz, atI_nat (j := 1) rfl, by show 2 ≤ sizeLine; decide, fun t ft => ⟨by show 2 ≤ sizeLine; decide, fun q fq => ?_⟩⟩
      have et : (HO.tup [V.int (0 - (pr (c z)).1), V.int (pr (c z)).2]) = tupP (pr (-(c z))) := by rw [← pr_neg]; rfl
      rw [et] at fq ⊢
      have s4 := same_new (o := tupP (pr (-(c z)))) ft
      have ht : (upd H2 t (tupP (pr (-(c z))))) t = some (tupP (pr (-(c z)))) := upd_same
      generalize upd H2 t (tupP (pr (-(c z)))) = H4 at s4 ht fq ⊢
      have sq := same_new (o := .tup [.str z, .ref t]) fq
      have s24 := s4.trans sq
      have hD4 := s24 _ _ hdd
      refine ⟨_, hD4, by rw [List.length_map, List.length_take]; exact line_lt (by omega), fun x => if x = z then q else pa x, fun x => if x = z then t else sa x, ?_, fun x hx => ?_, fun b o e => ?_⟩
      · rw [upd_same, take_one hz0, List.map_append]
        have e1 : (L.take i).map (fun x => V.ref (pa x)) = (L.take i).map fun x => V.ref (if x = z then q else pa x) := List.map_congr_left fun x hx => by rw [if_neg (show ¬ x = z from fun e => nz (e ▸ hx))]
        rw [e1]
        simp
      · have nD : ∀ {p : Addr} {o : HO}, (upd H4 q (.tup [.str z, .ref t])) p = some o → (∀ ys, o ≠ .lst ys) → p ≠ D := fun {p o} e n zz => by
          rw [zz, hD4] at e
          exact n _ (Option.some.inj e).symm
        rw [take_one hz0] at hx
        by_cases e : x = z
        · subst e
          dsimp only
          rw [if_pos rfl, if_pos rfl]
          refine ⟨?_, ?_⟩
          · rw [upd_ne (nD upd_same (fun ys e => by cases e))]
            exact upd_same
          · have e2 := sq _ _ ht
            rw [upd_ne (nD e2 (fun ys e => by cases e))]
            exact e2
        · have hx' : x ∈ L.take i := by
            rcases List.mem_append.mp hx with q' | q'
            · exact q'
            · exact absurd (List.mem_singleton.mp q') e
          obtain ⟨h1, h2⟩ := hval x hx'
          dsimp only
          rw [if_neg e, if_neg e]
          have g1 := s24 _ _ h1
          have g2 := s24 _ _ h2
          exact ⟨by rw [upd_ne (nD g1 (fun ys e => by cases e))]; exact g1, by rw [upd_ne (nD g2 (fun ys e => by cases e))]; exact g2⟩
      · rw [upd_ne (ne_of_none e hD)]
        exact s24 _ _ (sm _ _ e)
    rintro H2 ⟨pa, sa, hdd, hval, sm⟩
    rw [List.length_map, List.take_length] at hdd hval
    obtain ⟨nD, nDd⟩ := new1 D hD
    have hd2 := sm _ _ hd1
    have s02 := back1 H2 sm
    refine ⟨hd2, ?_⟩
    have g0 : (upd H2 d (dctO L fun x => .ref (ad x))) D = some (.lst (L.map fun x => V.ref (pa x))) := by rw [upd_ne nDd]; exact hdd
    have g1 : ∀ x ∈ L, (upd H2 d (dctO L fun x => .ref (ad x))) (pa x) = some (.tup [.str x, .ref (sa x)]) ∧ (upd H2 d (dctO L fun x => .ref (ad x))) (sa x) = some (tupP (pr (-(c x)))) := fun x hx => by
      obtain ⟨h1, h2⟩ := hval x hx
      exact ⟨by rw [upd_ne fun z => by rw [z, hd2] at h1; cases h1]; exact h1, by rw [upd_ne fun z => by rw [z, hd2] at h2; cases h2]; exact h2⟩
    generalize upd H2 d (dctO L fun x => .ref (ad x)) = H3 at s02 g0 g1
    refine ⟨D, L.map pa, L.map fun x => ((Sum.inr x : Key), V.ref (sa x)), rfl, by rw [List.map_map]; exact SqL.of g0, paired_map fun x hx => SqT.of (g1 x hx).1, fun q fq => ?_⟩
    have em : mergeK [] (L.map fun x => ((Sum.inr x : Key), V.ref (sa x))) = L.map fun x => ((Sum.inr x : Key), V.ref (sa x)) := DQ.merge_map (fun x => V.ref (sa x)) (l := L) (m := []) nd
    rw [em]
    have sq := same_new (o := .dK (L.map fun x => ((Sum.inr x : Key), V.ref (sa x)))) fq
    have T0 : TDc (upd H3 q (.dK (L.map fun x => ((Sum.inr x : Key), V.ref (sa x))))) q L (fun x => -(c x)) := ⟨sa, upd_same, fun x hx => sq _ _ (g1 x hx).2⟩
    have s04 := s02.trans sq
    have fq0 : H q = none := s02.free fq
    generalize upd H3 q (.dK (L.map fun x => ((Sum.inr x : Key), V.ref (sa x)))) = H4 at T0 s04
    clear g0 g1 em sq s02 hdd hval sm hd1 kp1 new1 back1 hv1 fq hd2
    -- the days
    have gz0 : ∀ x, Sz 100 (get0 L (fun x => -(c x)) x) := fun x => by
      unfold get0
      split
      · rename_i hx
        exact sz_neg (hz x hx)
      · exact sz0 (by decide)
    have fz : ∀ p ∈ fr ds, Sz 4 p.2 := fr_sz fun y hy => ⟨(hDL.2 y hy).ne, (hDL.2 y hy).l12⟩
    refine ⟨_, rfl, l, rfl, ⟨_, SqL.of (s04 _ _ hDL.1)⟩, for_list (K := K) (xs := ds.map fun d => V.ref d.a) (fun i σ H' => ∃ (v2 v4 v5 : Option V), σ = [some (.ref d), some (.ref l), v2, some (.ref q), v4, v5] ∧ Same H H' ∧ TDc H' q (mvL (L, fun x => -(c x)) (fr (ds.take i))).1 (mvL (L, fun x => -(c x)) (fr (ds.take i))).2)
      ⟨_, _, _, rfl, s04, T0⟩ (fun i σ H' _ z => by obtain ⟨_, _, _, _, sm, _⟩ := z; exact SqL.of (sm _ _ hDL.1)) ?_ ?_⟩
    · rintro i v σ H5 hi ⟨v2, v4, v5, rfl, s5, T5⟩
      rw [List.getElem?_map] at hi
      obtain ⟨y, hy, rfl⟩ := Option.map_eq_some_iff.mp hi
      have hym := List.mem_of_getElem? hy
      have il := (List.getElem?_eq_some_iff.mp hy).1
      have oy := (hDL.2 y hym).same s5
      have fl := fr_len (ds := ds.take i) fun z hz => (hDL.2 z (List.mem_of_mem_take hz)).l12
      have tl : (ds.take i).length ≤ 59 := by rw [List.length_take]; omega
      refine ⟨y.a, _, rfl, SqT.of oy.t, rfl, _, _, rfl, _, _, rfl, rfl, ?_⟩
      refine ⟨_, rfl, y.ra, rfl, ⟨_, SqT.of oy.r⟩, for_tup (K := K) (xs := y.R.map V.str) (fun j σ H' => ∃ (v2 : Option V), σ = [some (.ref d), some (.ref l), v2, some (.ref q), some (.ref y.ra), some (.ref y.ba)] ∧ Same H H' ∧ (∀ b ys, H5 b = some (.tup ys) → H' b = some (.tup ys)) ∧ TDc H' q (mvL (L, fun x => -(c x)) (fr (ds.take i) ++ (y.R.take j).map fun x => (x, prt y.R))).1 (mvL (L, fun x => -(c x)) (fr (ds.take i) ++ (y.R.take j).map fun x => (x, prt y.R))).2)
        ⟨_, rfl, s5, fun _ _ e => e, by rw [List.take_zero, List.map_nil, List.append_nil]; exact T5⟩ (fun j σ H' _ z => by obtain ⟨_, _, _, z, _⟩ := z; exact SqT.of (z _ _ oy.r)) ?_ ?_⟩
      · rintro j v σ H6 hj ⟨v2, rfl, s6, k6, a6, hd6, hv6⟩
        rw [List.getElem?_map] at hj
        obtain ⟨z, hz0, rfl⟩ := Option.map_eq_some_iff.mp hj
        have jl := (List.getElem?_eq_some_iff.mp hz0).1
        obtain ⟨ms, hms⟩ : ∃ ms, ms = fr (ds.take i) ++ (y.R.take j).map fun x => (x, prt y.R) := ⟨_, rfl⟩
        have ml : ms.length ≤ 720 := by
          rw [hms, List.length_append, List.length_map, List.length_take]
          have := oy.l12
          omega
        have mz : ∀ p ∈ ms, Sz 4 p.2 := fun p hp => by
          rw [hms] at hp
          rcases List.mem_append.mp hp with hp | hp
          · exact fr_sz (ds := ds.take i) (fun w hw => ⟨(hDL.2 w (List.mem_of_mem_take hw)).ne, (hDL.2 w (List.mem_of_mem_take hw)).l12⟩) p hp
          · obtain ⟨x, _, rfl⟩ := List.mem_map.mp hp
            exact sz_prt oy.ne oy.l12
        have gz := mvL_sz ms (L, fun x => -(c x)) 100 gz0 mz
        have ul := mvL_len ms (L, fun x => -(c x))
        have en : mvL (L, fun x => -(c x)) (fr (ds.take i) ++ (y.R.take (j + 1)).map fun x => (x, prt y.R)) = mv (mvL (L, fun x => -(c x)) ms) (z, prt y.R) := by
          rw [take_one hz0, List.map_append, ← List.append_assoc, ← hms]
          exact mvL_snoc _ _ _
        rw [en]
        rw [← hms] at hd6 hv6
        generalize mvL (L, fun x => -(c x)) ms = u at hd6 hv6 gz ul en
        have ul : u.1.length ≤ L.length + ms.length := ul
        refine ⟨_, rfl, q, rfl, .inl ⟨_, .inl hd6⟩, _, rfl, by show 2 ≤ sizeLine; decide, fun t2 ft2 => ?_⟩
        have st := same_new (o := .tup [.int 0, .int 1]) ft2
        have dg : DGet (upd H6 t2 (.tup [.int 0, .int 1])) q (.str z) (valV (u.1.map fun y => ((Sum.inr y : Key), V.ref (a6 y))) (Sum.inr z)) := DGet.k (k := Sum.inr z) (st _ _ hd6)
        rw [val_dct] at dg
        obtain ⟨w0, hw0, hw1⟩ : ∃ w0, ((if z ∈ u.1 then some (V.ref (a6 z)) else none).getD (.ref t2)) = .ref w0 ∧ (upd H6 t2 (.tup [.int 0, .int 1])) w0 = some (tupP (pr (get0 u.1 u.2 z))) := by
          unfold get0
          by_cases hzu : z ∈ u.1
          · rw [if_pos hzu, if_pos hzu]
            exact ⟨_, rfl, st _ _ (hv6 z hzu)⟩
          · rw [if_neg hzu, if_neg hzu]
            exact ⟨_, rfl, upd_same⟩
        generalize upd H6 t2 (.tup [.int 0, .int 1]) = H7 at st dg hw1
        refine ⟨_, dg, _, rfl, y.ra, _, rfl, .inr (SqT.of (st _ _ (k6 _ _ oy.r))), by show 2 ≤ sizeLine; decide, fun t8 ft8 => ?_⟩
        have s8 := same_new (o := .tup [.int 1, .int (((y.R.map V.str).length : Nat) : Int)]) ft8
        have h8 : (upd H7 t8 (.tup [.int 1, .int (((y.R.map V.str).length : Nat) : Int)])) t8 = some (tupP (pr (prt y.R))) := by
          rw [upd_same, pr_prt oy.ne, List.length_map]
          rfl
        generalize upd H7 t8 (.tup [.int 1, .int (((y.R.map V.str).length : Nat) : Int)]) = H8 at s8 h8
        refine ⟨w0, t8, _, _, 3900, (by rw [hw0]; rfl), s8 _ _ hw1, h8, ⟨bd_of ((gz z).mono (by omega)), bd_of ((sz_prt oy.ne oy.l12).mono (by decide)), by decide, by decide⟩, fun r1 fr1 => ?_⟩
        rw [KM.pr_plus]
        have sr := same_new (o := tupP (pr (get0 u.1 u.2 z + prt y.R))) fr1
        have s69 := (st.trans s8).trans sr
        have hd9 := s69 _ _ hd6
        have P1 := TDc.put (x := z) (v := get0 u.1 u.2 z + prt y.R) hd9 (fun y hy => s69 _ _ (hv6 y hy)) upd_same
        refine ⟨_, rfl, _, rfl, q, _, rfl, DPut.k (k := Sum.inr z) hd9 (by rw [List.length_map]; exact line_lt (by omega)), _, rfl, fun b o e => ?_, fun b ys e => ?_, P1⟩
        · rw [upd_ne (ne_of_none e fq0)]
          exact s69 _ _ (s6 _ _ e)
        · rw [upd_ne (ne_of (s69 _ _ (k6 _ _ e)) hd9 (by intro z; cases z))]
          exact s69 _ _ (k6 _ _ e)
      · rintro σ H6 ⟨v2, rfl, s6, k6, T6⟩
        rw [List.length_map, List.take_length] at T6
        refine ⟨_, _, _, rfl, s6, ?_⟩
        rw [take_one hy, fr_snoc]
        exact T6
    · rintro σ H5 ⟨v2, v4, v5, rfl, s5, T5⟩
      rw [List.length_map, List.take_length] at T5
      exact ⟨_, rfl, hQ q H5 s5 fq0 T5⟩
end
end K52
set_option Elab.async false
set_option linter.all false
set_option maxRecDepth 100000
set_option maxHeartbeats 4000000
namespace K52
open PySem PySem.Spec PyProof.Rows L2
open KM (pr Sz)
/-! the mathematics of what is wanted -/
theorem few_of {α : Type} [DecidableEq α] {l m : List α} (nd : l.Nodup) (h : ∀ x ∈ l, x ∈ m) : l.length ≤ m.length := by
  induction l generalizing m with
  | nil => exact Nat.zero_le _
  | cons x l ih =>
    obtain ⟨n1, n2⟩ := List.nodup_cons.mp nd
    have hx := h x List.mem_cons_self
    have e := ih (m := m.erase x) n2 fun y hy => (List.mem_erase_of_ne (fun e => n1 (by rw [← e]; exact hy))).mpr (h y (List.mem_cons_of_mem _ hy))
    rw [List.length_erase_of_mem hx] at e
    have := List.length_pos_of_mem hx
    rw [List.length_cons]
    omega
theorem addK_new {L : List Str} {x : Str} (h : x ∉ L) : addK L x = L ++ [x] := if_neg h
theorem sum_put {L : List Str} {c : Str → Rat} {x : Str} {v : Rat} (h : x ∉ L) : sumR ((L ++ [x]).map (setc c x v)) = sumR (L.map c) + v := by
  rw [List.map_append, sumR_app]
  have e : L.map (setc c x v) = L.map c := List.map_congr_left fun y hy => by
    unfold setc
    rw [if_neg (show ¬ y = x from fun z => h (z ▸ hy))]
  rw [e]
  show _ + sumR [setc c x v x] = _
  unfold setc
  rw [if_pos rfl]
  show _ + (0 + v) = _
  rw [Rat.zero_add]
abbrev due (ds : List Dy) (L : List Str) (c : Str → Rat) : List Str × (Str → Rat) := mvL (L, fun x => -(c x)) (fr ds)
theorem wnt_nd {ds : List Dy} {L : List Str} {c : Str → Rat} : (wnt ds L c).1.Nodup := mvL_nd _ _ (mvL_nd _ _ List.nodup_nil)
theorem due_nd {ds : List Dy} {L : List Str} {c : Str → Rat} (nd : L.Nodup) : (due ds L c).1.Nodup := mvL_nd _ _ nd
theorem mem_both {ds : List Dy} {L : List Str} {c : Str → Rat} (x : Str) : x ∈ (wnt ds L c).1 ↔ x ∈ (due ds L c).1 := by
  unfold wnt due
  rw [mem_mvL, mem_mvL, mem_mvL]
  have e : (L.map fun x => (x, -(c x))).map (·.1) = L := by rw [List.map_map]; exact List.map_id _
  rw [e]
  simp only [List.not_mem_nil, false_or]
  exact or_comm
theorem mem_due {ds : List Dy} {L : List Str} {c : Str → Rat} {x : Str} (h : x ∈ (due ds L c).1) : x ∈ L ∨ ∃ d ∈ ds, x ∈ d.R := by
  unfold due at h
  rw [mem_mvL] at h
  rcases h with h | h
  · exact .inl h
  · obtain ⟨p, hp, rfl⟩ := List.mem_map.mp h
    obtain ⟨d, hd, h2⟩ := List.mem_flatMap.mp hp
    obtain ⟨y, hy, rfl⟩ := List.mem_map.mp h2
    exact .inr ⟨d, hd, hy⟩
theorem wnt_due {ds : List Dy} {L : List Str} {c : Str → Rat} (nd : L.Nodup) : (wnt ds L c).1.Perm (due ds L c).1 := (List.perm_ext_iff_of_nodup wnt_nd (due_nd nd)).mpr fun x => mem_both x
theorem wnt_val {ds : List Dy} {L : List Str} {c : Str → Rat} {x : Str} (nd : L.Nodup) (h : x ∈ (due ds L c).1) : (wnt ds L c).2 x = (due ds L c).2 x := by
  have h2 := (mem_both (ds := ds) (L := L) (c := c) x).mpr h
  have e1 := mvL_val x (L.map fun x => (x, -(c x))) (mvL ([], fun _ => 0) (fr ds))
  rw [mvL_val x (fr ds) ([], fun _ => 0), at_map nd] at e1
  have e2 := mvL_val x (fr ds) (L, fun x => -(c x))
  have e3 : get0 (wnt ds L c).1 (wnt ds L c).2 x = get0 [] (fun _ => (0 : Rat)) x + at_ x (fr ds) + get0 L (fun x => -(c x)) x := e1
  have e4 : get0 (due ds L c).1 (due ds L c).2 x = get0 L (fun x => -(c x)) x + at_ x (fr ds) := e2
  rw [get0_in h2, get0_out (by simp), Rat.zero_add] at e3
  rw [get0_in h] at e4
  rw [e3, e4, Rat.add_comm]
/-- one more put in: what all are together -/
theorem sum_mv {L : List Str} {c : Str → Rat} {x : Str} {v : Rat} (nd : L.Nodup) : sumR ((addK L x).map (setc c x (get0 L c x + v))) = sumR (L.map c) + v := by
  by_cases h : x ∈ L
  · have ea : addK L x = L := if_pos h
    rw [ea, get0_in h]
    clear ea
    induction L with
    | nil => exact absurd h (by simp)
    | cons y L ih =>
      obtain ⟨n1, n2⟩ := List.nodup_cons.mp nd
      rw [List.map_cons, List.map_cons, sumR_cons, sumR_cons]
      by_cases e : y = x
      · subst e
        have e1 : L.map (setc c y (c y + v)) = L.map c := List.map_congr_left fun z hz => by
          unfold setc
          rw [if_neg (show ¬ z = y from fun q => n1 (q ▸ hz))]
        rw [e1]
        have e2 : setc c y (c y + v) y = c y + v := if_pos rfl
        rw [e2, Rat.add_assoc, Rat.add_comm v, ← Rat.add_assoc]
      · have e2 : setc c x (c x + v) y = c y := if_neg e
        rw [e2, ih n2 ((List.mem_cons.mp h).resolve_left fun q => e q.symm), Rat.add_assoc]
  · rw [addK_new h, get0_out h, Rat.zero_add, sum_put h]
end K52
set_option Elab.async false
set_option linter.all false
set_option maxRecDepth 100000
set_option maxHeartbeats 4000000
namespace K52
open PySem PySem.Spec PyProof.Rows L2
open C8 (Cal Mak Met pe_c pe_mk pe_mt pe_mt0)
open LamX (CodeO)
theorem nin_tk {l : List Str} {i : Nat} {x : Str} (nd : l.Nodup) (h : l[i]? = some x) : x ∉ l.take i := fun z => by
  obtain ⟨j, hj, e⟩ := List.mem_iff_getElem.mp z
  rw [List.length_take] at hj
  rw [List.getElem_take] at e
  have il := (List.getElem?_eq_some_iff.mp h).1
  have e3 : l[j]? = l[i]? := by rw [h, List.getElem?_eq_getElem (by omega), e]
  have := (List.getElem?_inj (by omega) nd).mp e3
  omega
/-! ### a tree of ways, as data -/
/-- a name that is reached, where its row stands, from where it came -/
structure Cm where
  x : Str
  a : Addr
  p : Option Sg
def cmV (r : Cm) : V := match r.p with
  | none => .non
  | some _ => .ref r.a
def kvC (rows : List Cm) : List (Key × V) := rows.map fun r => (Sum.inr r.x, cmV r)
abbrev nm (rows : List Cm) : List Str := rows.map (·.x)
structure CmOk (H : Hp) (D W : Addr) (rows : List Cm) : Prop where
  d : H D = some (.dK (kvC rows))
  w : H W = some (.lst ((nm rows).map V.str))
  t : ∀ r ∈ rows, ∀ z, r.p = some z → H r.a = some (tG z)
theorem CmOk.same {H H' : Hp} {D W : Addr} {rows : List Cm} (h : CmOk H D W rows) (s : Same H H') : CmOk H' D W rows := ⟨s _ _ h.d, s _ _ h.w, fun r hr z e => s _ _ (h.t r hr z e)⟩
/-- .. and each came by a step -/
structure Cn (st : Str → List Sg) (S : List Str) (rows : List Cm) : Prop where
  nd : (nm rows).Nodup
  sr : ∀ x ∈ S, x ∈ nm rows
  ok : ∀ (j : Nat) (r : Cm), rows[j]? = some r → (r.p = none ∧ r.x ∈ S) ∨ ∃ (i : Nat) (q : Cm) (d : Nat) (t : Str), i < j ∧ rows[i]? = some q ∧ r.p = some (q.x, d, t) ∧ (r.x, d, t) ∈ st q.x
theorem Cn.start {st : Str → List Sg} {S : List Str} (nd : S.Nodup) : Cn st S (S.map fun x => ⟨x, 0, none⟩) := by
  have e : nm (S.map fun x => (⟨x, 0, none⟩ : Cm)) = S := by
    unfold nm
    rw [List.map_map]
    exact List.map_id' _
  refine ⟨by rw [e]; exact nd, fun x hx => by rw [e]; exact hx, fun j r h => ?_⟩
  rw [List.getElem?_map] at h
  obtain ⟨x, hx, rfl⟩ := Option.map_eq_some_iff.mp h
  exact .inl ⟨rfl, List.mem_of_getElem? hx⟩
theorem Cn.add {st : Str → List Sg} {S : List Str} {rows : List Cm} {i : Nat} {q : Cm} {o t : Str} {d : Nat} {a : Addr} (h : Cn st S rows) (hq : rows[i]? = some q) (hs : (o, d, t) ∈ st q.x) (no : o ∉ nm rows) : Cn st S (rows ++ [⟨o, a, some (q.x, d, t)⟩]) := by
  refine ⟨?_, fun x hx => ?_, fun j r hr => ?_⟩
  · unfold nm
    rw [List.map_append]
    refine List.nodup_append.mpr ⟨h.nd, by simp, fun x hx y hy e => ?_⟩
    have hy := List.mem_singleton.mp hy
    subst e
    rw [hy] at hx
    exact no hx
  · unfold nm
    rw [List.map_append]
    exact List.mem_append_left _ (h.sr x hx)
  · have il := (List.getElem?_eq_some_iff.mp hq).1
    by_cases hj : j < rows.length
    · rw [List.getElem?_append_left hj] at hr
      rcases h.ok j r hr with z | ⟨i', q', d', t', l, e, z⟩
      · exact .inl z
      · exact .inr ⟨i', q', d', t', l, by rw [List.getElem?_append_left (by omega)]; exact e, z⟩
    · rw [List.getElem?_append_right (by omega)] at hr
      have e0 : j - rows.length = 0 := by
        have := (List.getElem?_eq_some_iff.mp hr).1
        rw [List.length_singleton] at this
        omega
      rw [e0] at hr
      cases hr
      exact .inr ⟨i, q, d, t, by omega, by rw [List.getElem?_append_left il]; exact hq, rfl, hs⟩
theorem CmOk.add {H : Hp} {D W a : Addr} {rows : List Cm} {o : Str} {z : Sg} (h : CmOk H D W rows) (ha : H a = some (tG z)) (no : o ∉ nm rows) : CmOk (upd (upd H D (.dK (putK (kvC rows) (Sum.inr o) (.ref a)))) W (.lst ((nm rows).map V.str ++ [.str o]))) D W (rows ++ [⟨o, a, some z⟩]) := by
  have nDW : D ≠ W := ne_of h.d h.w (by intro q; cases q)
  have kt : ∀ b vs, H b = some (.tup vs) → (upd (upd H D (.dK (putK (kvC rows) (Sum.inr o) (.ref a)))) W (.lst ((nm rows).map V.str ++ [.str o]))) b = some (.tup vs) := fun b vs e => by
    rw [upd_ne (ne_of e h.w (by intro q; cases q)), upd_ne (ne_of e h.d (by intro q; cases q))]
    exact e
  refine ⟨?_, ?_, fun r hr y e => ?_⟩
  · rw [upd_ne nDW, upd_same]
    have en : valV (kvC rows) (Sum.inr o) = none := by
      unfold valV
      have : (kvC rows).find? (fun kv => decide (kv.1 = Sum.inr o)) = none := by
        rw [List.find?_eq_none]
        intro q hq hd
        obtain ⟨r, hr, rfl⟩ := List.mem_map.mp hq
        have e := of_decide_eq_true hd
        cases e
        exact no (List.mem_map.mpr ⟨r, hr, rfl⟩)
      rw [this]
      rfl
    rw [putK_new _ en]
    unfold kvC
    rw [List.map_append]
    rfl
  · rw [upd_same]
    unfold nm
    rw [List.map_append, List.map_append]
    rfl
  · rcases List.mem_append.mp hr with q | q
    · exact kt _ _ (h.t r q y e)
    · rw [List.mem_singleton.mp q] at e ⊢
      cases e
      exact kt _ _ ha
theorem kvC_val {rows : List Cm} {o : Str} : (valV (kvC rows) (Sum.inr o)).isSome = decide (o ∈ nm rows) := by
  rw [← valV_any]
  rw [Bool.eq_iff_iff, decide_eq_true_eq]
  unfold kvC
  rw [List.any_map, List.any_eq_true]
  constructor
  · rintro ⟨r, hr, e⟩
    have e := of_decide_eq_true e
    cases e
    exact List.mem_map.mpr ⟨r, hr, rfl⟩
  · intro h
    obtain ⟨r, hr, rfl⟩ := List.mem_map.mp h
    exact ⟨r, hr, by simp⟩
/-- at the end: the name found, or all that is reached -/
def EndOk (st : Str → List Sg) (G : List Str) (rows : List Cm) : Option Str → Prop
  | some x => x ∈ nm rows ∧ x ∈ G
  | none => ∀ r ∈ rows, r.x ∉ G ∧ ∀ z ∈ st r.x, z.1 ∈ nm rows
def endV : Option Str → V
  | some x => .str x
  | none => .non
/-- what find_way makes of starts, goals, steps -/
def TTf (vs : List V) (told : List V → Hp → VK → Prop) (H : Hp) (Q : VK) : Prop := ∃ (a ga : Addr) (S G U : List Str) (st : Str → List Sg), vs = [.ref a, .ref ga] ∧ (H a = some (.lst (S.map V.str)) ∨ H a = some (.tup (S.map V.str))) ∧ H ga = some (.lst (G.map V.str)) ∧ S.Nodup ∧ (∀ x ∈ S, x ∈ U) ∧ U.length ≤ 40 ∧ (∀ x ∈ U, ∀ z ∈ st x, z.1 ∈ U) ∧ (∀ x ∈ U, (st x).length ≤ 720) ∧
  (∀ x ∈ U, ∀ (H1 : Hp) (Q1 : VK), Same H H1 → (∀ o H2, Same H1 H2 → H1 o = none → TsL H2 o (st x) → Q1 (.ref o) H2) → told [.str x] H1 Q1) ∧
  ∀ (t D W : Addr) (rows : List Cm) (e : Option Str) (H' : Hp), Same H H' → H' t = some (.tup [.ref D, endV e]) → CmOk H' D W rows → H D = none → H W = none → Cn st S rows → (∀ r ∈ rows, r.x ∈ U) → EndOk st G rows e → Q (.ref t) H'
theorem pi_or {X : Cx} {tg e : Expr} {w1 w2 : TI} (h1 : PI X tg e w1) (h2 : PI X tg e w2) : PI X tg e (fun σ H R => w1 σ H R ∨ w2 σ H R) :=
  ⟨fun pins s σ H R I h => h.elim (h1.run pins s σ H R I) (h2.run pins s σ H R I)⟩
end K52
set_option Elab.async false
set_option linter.all false
set_option maxRecDepth 100000
set_option maxHeartbeats 4000000
namespace K52
open PySem PySem.Spec PyProof.Rows L2
open C8 (Cal Mak Met pe_c pe_mk pe_mt pe_mt0)
open LamX (CodeO)
section
variable {X : Cx} {gd : Addr} {cdv : Value} {q : Str}
theorem fw_gives (b : Bl X.mg) (hr : Room 3 X.A) : LMP.GivesP X N_find_way "find_way" (defScope s_find_way) gd cdv (defBody s_find_way) "steps" q 1 TTf := by
  intro lf lc s H vs Q told lv call code h
  have hr2 : Room 2 (X.A.deeper (envOfC "find_way" (defScope s_find_way) s.heap.objs.size gd cdv)) := hr.deeper _
  have hu : (LMP.cxG X N_find_way "find_way" (defScope s_find_way) gd cdv s H).A.units + 1 < cLine := hu_of hr2
  have b : Bl (LMP.cxG X N_find_way "find_way" (defScope s_find_way) gd cdv s H).mg := b
  obtain ⟨a, ga, S, G, U, st, rfl, ha, hg, nd, sU, lU, stU, stl, hst, hQ⟩ := h
  refine ⟨_, C8.pss_cut (SDC.ps_setDc (i := 4) (own := [("name", 3)]) (g := gName 3) (tt := tYes) rfl sc_find_way.nd rfl rfl (SDC.sw_true rfl rfl rfl (by decide +kernel)) (pi_or (pi_list (pv 0)) (pi_tup (pv 0))) (blkOk_by (N := N_find_way) (sc := defScope s_find_way) (by decide +kernel))
        (fun _ _ _ _ _ => pg_name (i := 3) sc_find_way.nd rfl (.inl rfl)) (fun _ _ _ _ _ => pts_nil) (fun _ _ _ _ _ => pv 3) (fun _ _ _ _ _ => pe_non))
      (pss_cons (ps_set (i := 5) sc_find_way.nd rfl (.inl rfl) (pe_callTy call_list_of rfl b.list boot_list (pa_cons (pv 0) pa_nil)))
      (pss_cons (ps_set (i := 6) sc_find_way.nd rfl (.inl rfl) pe_int)
      (pss_cons (ps_while PassesOwn.never (pt_cmpR op_lt (pv 6) (pe_callB call_len_seq rfl b.len boot_len (pa_cons (pv 5) pa_nil)) (nomark _))
        (pss_cons (ps_set (i := 3) sc_find_way.nd rfl (.inl rfl) (pe_ix ix_list (pv 5) (pv 6) (fun _ _ => rfl)))
        (pss_cons (ps_if (pt_cmpR op_in_seq (pv 3) (pv 1) (by rfl)) (pss_one (ps_ret (pe_tup (pa_cons (pv 4) (pa_cons (pv 3) pa_nil))))) pss_nil)
        (pss_cons (ps_for PassesOwn.never rfl (pi_list (call _ _ _ _ _ (pa_cons (pv 3) pa_nil) rfl rfl)) (pg_tup rfl (pgs_cons (pg_name (i := 7) sc_find_way.nd rfl (.inl rfl)) (pgs_cons (pg_name (i := 8) sc_find_way.nd rfl (.inl rfl)) (pgs_cons (pg_name (i := 9) sc_find_way.nd rfl (.inl rfl)) pgs_nil))))
          (pss_one (ps_if (pt_cmp (pc_dnotin hu (pv 7) (pv 4)))
            (pss_cons (ps_dput hu (pv 4) (pv 7) (pe_tup (pa_cons (pv 3) (pa_cons (pv 8) (pa_cons (pv 9) pa_nil)))) rfl)
            (pss_one (ps_expr (pe_bm PySem.F.plainAttrs_list PySem.F.slot_list_append PySem.F.type_list_append mt_append (pv 5) (pa_cons (pv 7) pa_nil))))) pss_nil)))
        (pss_one (ps_aug (i := 6) sc_find_way.nd rfl (.inl rfl) pe_int ip_add))))))
      (pss_one (ps_ret (pe_tup (pa_cons (pv 4) (pa_cons pe_non pa_nil)))))))), ?_⟩
  have l4 : ∀ {n : Nat}, n ≤ 41 → n < sizeLine := fun {n} h => Nat.lt_of_le_of_lt h (by decide)
  have lS : S.length ≤ 40 := Nat.le_trans (few_of nd sU) lU
  have eN : nm (S.map fun x => (⟨x, 0, none⟩ : Cm)) = S := by
    unfold nm
    rw [List.map_map]
    exact List.map_id' _
  have eK : kvC (S.map fun x => (⟨x, 0, none⟩ : Cm)) = S.map fun x => ((Sum.inr x : Key), V.non) := by
    unfold kvC
    rw [List.map_map]
    rfl
  -- came
  refine ⟨fun σ' H' => ∃ D, σ' = [some (.ref a), some (.ref ga), some (.ref lf), none, some (.ref D), none, none, none, none, none] ∧ Same H H' ∧ H D = none ∧ H' D = some (.dK (S.map fun x => ((Sum.inr x : Key), V.non))), ?_, ?_⟩
  · have step : ∀ (D : Addr) (i : Nat) (H2 : Hp) (z : Str), H D = none → Same H H2 → H2 D = some (.dK ((S.take i).map fun x => ((Sum.inr x : Key), V.non))) → S[i]? = some z →
        ∃ (kvs : List (Key × V)) (k : Key), V.str z = kV k ∧ H2 D = some (.dK kvs) ∧ kvs.length < sizeLine ∧ (upd H2 D (.dK (putK kvs k .non))) D = some (.dK ((S.take (i + 1)).map fun x => ((Sum.inr x : Key), V.non))) ∧ Same H (upd H2 D (.dK (putK kvs k .non))) := fun D i H2 z fD s2 hD hz => by
      refine ⟨_, Sum.inr z, rfl, hD, by rw [List.length_map, List.length_take]; exact l4 (by omega), ?_, fun b o e => ?_⟩
      · rw [upd_same, DQ.put_new (fun _ => V.non) (nin_tk nd hz), List.take_add_one, hz]
        rfl
      · rw [upd_ne (ne_of_none e fD)]
        exact s2 _ _ e
    rcases ha with ha | ha
    · refine .inl ⟨_, rfl, a, rfl, ⟨_, SqL.of ha⟩, fun D fD => dc_it (walk_list (K := X.K) (xs := S.map V.str)) (fun i H2 => H2 D = some (.dK ((S.take i).map fun x => ((Sum.inr x : Key), V.non))) ∧ Same H H2) ⟨upd_same, same_new fD⟩ (fun i H2 _ z => SqL.of (z.2 _ _ ha)) ?_ ?_⟩
      · rintro i v H2 H3 hi ⟨hD, s2⟩ ⟨rfl, hv⟩
        obtain ⟨z, hz, rfl⟩ := sat_ hv
        obtain ⟨kvs, k, e1, e2, e3, e4, e5⟩ := step D i H3 z fD s2 hD hz
        exact ⟨rfl, _, rfl, kvs, k, e1, e2, e3, e4, e5⟩
      · rintro H2 ⟨hD, s2⟩
        rw [List.length_map, List.take_length] at hD
        exact ⟨D, rfl, s2, fD, hD⟩
    · refine .inr ⟨_, rfl, a, rfl, ⟨_, SqT.of ha⟩, fun D fD => dc_it (walk_tup (K := X.K) (xs := S.map V.str)) (fun i H2 => H2 D = some (.dK ((S.take i).map fun x => ((Sum.inr x : Key), V.non))) ∧ Same H H2) ⟨upd_same, same_new fD⟩ (fun i H2 _ z => SqT.of (z.2 _ _ ha)) ?_ ?_⟩
      · rintro i v H2 H3 hi ⟨hD, s2⟩ ⟨rfl, hv⟩
        obtain ⟨z, hz, rfl⟩ := sat_ hv
        obtain ⟨kvs, k, e1, e2, e3, e4, e5⟩ := step D i H3 z fD s2 hD hz
        exact ⟨rfl, _, rfl, kvs, k, e1, e2, e3, e4, e5⟩
      · rintro H2 ⟨hD, s2⟩
        rw [List.length_map, List.take_length] at hD
        exact ⟨D, rfl, s2, fD, hD⟩
  rintro σ1 H1 ⟨D, rfl, s1, fD, hD⟩
  -- waiting
  refine ⟨_, rfl, a, S.map V.str, rfl, ?_, fun W fW => ?_⟩
  · exact ha.elim (fun h => .inl (SqL.of (s1 _ _ h))) fun h => .inr (SqT.of (s1 _ _ h))
  have fW0 : H W = none := s1.free fW
  have sW := same_new (o := .lst (S.map V.str)) fW
  have c0 : CmOk (upd H1 W (.lst (S.map V.str))) D W (S.map fun x => ⟨x, 0, none⟩) := ⟨by rw [eK]; exact sW _ _ hD, by rw [eN]; exact upd_same, fun r hr z e => by
    obtain ⟨x, _, rfl⟩ := List.mem_map.mp hr
    cases e⟩
  have s2 := s1.trans sW
  generalize upd H1 W (.lst (S.map V.str)) = H2 at c0 s2 ⊢
  have n0 : Cn st S (S.map fun x => ⟨x, 0, none⟩) := Cn.start nd
  have u0 : ∀ r ∈ S.map (fun x => (⟨x, 0, none⟩ : Cm)), r.x ∈ U := fun r hr => by
    obtain ⟨x, hx, rfl⟩ := List.mem_map.mp hr
    exact sU x hx
  have few : ∀ {rows : List Cm}, Cn st S rows → (∀ r ∈ rows, r.x ∈ U) → rows.length ≤ 40 := fun {rows} n u => by
    have := few_of n.nd (m := U) fun x hx => by
      obtain ⟨r, hr, rfl⟩ := List.mem_map.mp hx
      exact u r hr
    rw [List.length_map] at this
    omega
  refine while_by (fun σ' H' => ∃ (i : Nat) (v3 v7 v8 v9 : Option V) (rows : List Cm), σ' = [some (.ref a), some (.ref ga), some (.ref lf), v3, some (.ref D), some (.ref W), some (.int (i : Int)), v7, v8, v9] ∧ Same H H' ∧ CmOk H' D W rows ∧ Cn st S rows ∧ (∀ r ∈ rows, r.x ∈ U) ∧ i ≤ rows.length ∧
      ∀ (k : Nat) (r : Cm), k < i → rows[k]? = some r → r.x ∉ G ∧ ∀ z ∈ st r.x, z.1 ∈ nm rows)
    (fun σ _ => match σ with | [_, _, _, _, _, _, some (.int i), _, _, _] => (41 - i).toNat | _ => 0) ⟨0, _, _, _, _, _, rfl, s2, c0, n0, u0, Nat.zero_le _, fun k r hk => absurd hk (Nat.not_lt_zero _)⟩ ?_ ?_
  · rintro σ3 H3 ⟨i, v3, v7, v8, v9, rows, rfl, s3, c3, n3, u3, il, cl⟩
    have f3 := few n3 u3
    refine ⟨_, rfl, _, rfl, W, _, rfl, .inl (SqL.of c3.w), _, _, rfl, rfl, _, rfl, ?_⟩
    rw [List.length_map, List.length_map]
    refine ite2 (fun c1 => ?_) (fun c1 => ?_)
    · have ilt : i < rows.length := by have := of_decide_eq_true c1; omega
      obtain ⟨r0, hr0⟩ : ∃ r0, rows[i]? = some r0 := ⟨_, List.getElem?_eq_getElem ilt⟩
      have r0m := List.mem_of_getElem? hr0
      have x0U := u3 r0 r0m
      have hw0 : ((nm rows).map V.str)[i]? = some (V.str r0.x) := by rw [List.getElem?_map, List.getElem?_map, hr0]; rfl
      refine ⟨_, rfl, _, rfl, W, _, _, _, rfl, rfl, SqL.of c3.w, atI_nat hw0, ?_⟩
      refine ⟨_, rfl, _, rfl, ga, _, rfl, .inl (SqL.of (s3 _ _ hg)), rfl, flat_strs _, _, rfl, ?_⟩
      rw [if_neg (by decide), inV_strs]
      refine ite2 (fun c2 => ?_) (fun c2 => ?_)
      · have c2 := of_decide_eq_true c2
        refine ⟨_, rfl, _, rfl, by show 2 ≤ sizeLine; decide, fun t ft => ?_⟩
        have stt := same_new (o := .tup [.ref D, .str r0.x]) ft
        exact hQ t D W rows (some r0.x) _ (s3.trans stt) upd_same (c3.same stt) fD fW0 n3 u3 ⟨List.mem_map.mpr ⟨r0, r0m, rfl⟩, c2⟩
      · have c2 : r0.x ∉ G := fun z => c2 (decide_eq_true z)
        have cd3 := s3 _ _ code
        refine ⟨rfl, _, rfl, rfl, cd3, hst r0.x x0U H3 _ s3 fun o H4 s4 fo ht => ?_⟩
        obtain ⟨zs, ez, ho, hz⟩ := ht
        have oW : o ≠ W := (ne_of_none c3.w fo).symm
        have oD : o ≠ D := (ne_of_none c3.d fo).symm
        refine ⟨o, rfl, ⟨_, SqL.of ho⟩, for_list (K := X.K) (xs := zs.map fun z => V.ref z.1) (fun j σ' H' => ∃ (v7 v8 v9 : Option V) (rows' : List Cm), σ' = [some (.ref a), some (.ref ga), some (.ref lf), some (.str r0.x), some (.ref D), some (.ref W), some (.int (i : Int)), v7, v8, v9] ∧ Same H H' ∧ CmOk H' D W rows' ∧ Cn st S rows' ∧ (∀ r ∈ rows', r.x ∈ U) ∧ rows <+: rows' ∧
            (H' o = some (.lst (zs.map fun z => V.ref z.1)) ∧ ∀ z ∈ zs, H' z.1 = some (tG z.2)) ∧ ∀ z ∈ zs.take j, z.2.1 ∈ nm rows')
          ⟨_, _, _, rows, rfl, s3.trans s4, c3.same s4, n3, u3, List.prefix_refl _, ⟨ho, hz⟩, fun z hz => by simp at hz⟩ (fun j σ' H' _ z => by obtain ⟨_, _, _, _, _, _, _, _, _, _, z, _⟩ := z; exact SqL.of z.1) ?_ ?_⟩
        · rintro j v σ5 H5 hv ⟨w7, w8, w9, rows', rfl, s5, c5, n5, u5, pre, ⟨ho5, hz5⟩, got⟩
          rw [List.getElem?_map] at hv
          obtain ⟨z, hzj, rfl⟩ := Option.map_eq_some_iff.mp hv
          have hzm := List.mem_of_getElem? hzj
          have f5 := few n5 u5
          have zst : z.2 ∈ st r0.x := by rw [← ez]; exact List.mem_map.mpr ⟨z, hzm, rfl⟩
          have hr5 : rows'[i]? = some r0 := by
            obtain ⟨more, rfl⟩ := pre
            rw [List.getElem?_append_left ilt]
            exact hr0
          refine ⟨z.1, _, rfl, SqT.of (hz5 z hzm), rfl, _, _, rfl, _, _, rfl, _, _, rfl, rfl, ?_⟩
          refine ⟨_, rfl, _, rfl, D, _, rfl, DGet.k (k := Sum.inr z.2.1) c5.d, ?_⟩
          rw [kvC_val]
          refine ⟨_, rfl, ?_⟩
          refine ite2 (fun c7 => ?_) (fun c7 => ?_)
          · have no : z.2.1 ∉ nm rows' := by simpa using c7
            refine ⟨_, rfl, _, rfl, _, rfl, by show 3 ≤ sizeLine; decide, fun tp ftp => ?_⟩
            have stp := same_new (o := .tup [.str r0.x, .int (z.2.2.1 : Nat), .str z.2.2.2]) ftp
            have htp : (upd H5 tp (.tup [.str r0.x, .int (z.2.2.1 : Nat), .str z.2.2.2])) tp = some (tG (r0.x, z.2.2.1, z.2.2.2)) := upd_same
            have c6 := c5.same stp
            have s6 := s5.trans stp
            have ho6 := stp _ _ ho5
            have hz6 := fun y hy => stp _ _ (hz5 y hy)
            generalize upd H5 tp (.tup [.str r0.x, .int (z.2.2.1 : Nat), .str z.2.2.2]) = H6 at htp c6 s6 ho6 hz6 ⊢
            have nDW : D ≠ W := ne_of c6.d c6.w (by intro q; cases q)
            refine ⟨_, rfl, _, rfl, D, _, rfl, DPut.k (k := Sum.inr z.2.1) c6.d (by unfold kvC; rw [List.length_map]; exact l4 (by omega)), ?_⟩
            have hwW := (upd_ne nDW.symm (H := H6) (o := .dK (putK (kvC rows') (Sum.inr z.2.1) (.ref tp)))).trans c6.w
            refine ⟨_, rfl, .inl ⟨rfl, _, SqL.of hwW⟩, _, rfl, W, _, _, rfl, rfl, hwW, by rw [List.length_map, List.length_map]; exact l4 (by omega), ?_⟩
            refine ⟨_, _, _, rows' ++ [⟨z.2.1, tp, some (r0.x, z.2.2.1, z.2.2.2)⟩], rfl, fun b u e => ?_, c6.add htp no, n5.add hr5 zst no, fun r hr => ?_, pre.trans (List.prefix_append _ _), ⟨?_, fun y hy => ?_⟩, fun y hy => ?_⟩
            · rw [upd_ne (ne_of_none e fW0), upd_ne (ne_of_none e fD)]
              exact s6 _ _ e
            · rcases List.mem_append.mp hr with q | q
              · exact u5 r q
              · rw [List.mem_singleton.mp q]
                exact stU r0.x x0U z.2 zst
            · rw [upd_ne oW, upd_ne oD]
              exact ho6
            · rw [upd_ne (ne_of (hz6 y hy) c6.w (by intro q; cases q)), upd_ne (ne_of (hz6 y hy) c6.d (by intro q; cases q))]
              exact hz6 y hy
            · unfold nm
              rw [List.map_append]
              rw [List.take_add_one, hzj] at hy
              rcases List.mem_append.mp hy with q | q
              · exact List.mem_append_left _ (got y q)
              · have q : y = z := by simpa using q
                rw [q]
                exact List.mem_append_right _ (List.mem_singleton.mpr rfl)
          · have yes : z.2.1 ∈ nm rows' := by simpa using c7
            refine ⟨_, _, _, rows', rfl, s5, c5, n5, u5, pre, ⟨ho5, hz5⟩, fun y hy => ?_⟩
            rw [List.take_add_one, hzj] at hy
            rcases List.mem_append.mp hy with q | q
            · exact got y q
            · have q : y = z := by simpa using q
              rw [q]
              exact yes
        · rintro σ5 H5 ⟨w7, w8, w9, rows', rfl, s5, c5, n5, u5, pre, ⟨ho5, hz5⟩, got⟩
          rw [List.length_map, List.take_length] at got
          have pl := pre.length_le
          refine ⟨_, rfl, _, _, rfl, rfl, ⟨i + 1, some (.str r0.x), w7, w8, w9, rows', ?_, s5, c5, n5, u5, by omega, fun k r hk hr => ?_⟩, ?_⟩
          · rfl
          · by_cases e : k = i
            · subst e
              obtain ⟨more, rfl⟩ := pre
              rw [List.getElem?_append_left ilt, hr0] at hr
              cases hr
              refine ⟨c2, fun z hz => ?_⟩
              rw [← ez] at hz
              obtain ⟨y, hy, rfl⟩ := List.mem_map.mp hz
              exact got y hy
            · obtain ⟨more, rfl⟩ := pre
              rw [List.getElem?_append_left (by omega)] at hr
              obtain ⟨g1, g2⟩ := cl k r (by omega) hr
              refine ⟨g1, fun z hz => ?_⟩
              unfold nm
              rw [List.map_append]
              exact List.mem_append_left _ (g2 z hz)
          · show (41 - ((i : Int) + 1)).toNat < (41 - (i : Int)).toNat
            omega
    · have ige : i = rows.length := by
        have : ¬ ((i : Int) < (rows.length : Nat)) := fun z => c1 (decide_eq_true z)
        omega
      refine ⟨_, rfl, by show 2 ≤ sizeLine; decide, fun t ft => ?_⟩
      have stt := same_new (o := .tup [.ref D, .non]) ft
      refine hQ t D W rows none _ (s3.trans stt) upd_same (c3.same stt) fD fW0 n3 u3 fun r hr => ?_
      obtain ⟨k, hk⟩ := List.mem_iff_getElem?.mp hr
      have := (List.getElem?_eq_some_iff.mp hk).1
      exact cl k r (by omega) hk
  · intro σ' H' Q1 Q2 hq h
    obtain ⟨v, e1, w, e2, p, xs, e3, e4, i, j, e5, e6, b, e7, e8⟩ := h
    exact ⟨v, e1, w, e2, p, xs, e3, e4, i, j, e5, e6, b, e7, hq _ _ e8⟩
end
end K52
set_option Elab.async false
set_option linter.all false
set_option maxRecDepth 100000
set_option maxHeartbeats 4000000
namespace K52
open PySem PySem.Spec PyProof.Rows L2
open C8 (Cal Mak Met pe_c pe_mk pe_mt pe_mt0)
theorem idx_at : ∀ {l : List Str} {i : Nat} {x : Str}, l.Nodup → l[i]? = some x → l.idxOf x = i
  | [], i, x, _, h => by cases h
  | y :: l, 0, x, _, h => by
    have e : y = x := Option.some.inj h
    subst e
    exact List.idxOf_cons_self
  | y :: l, i + 1, x, nd, h => by
    obtain ⟨n1, n2⟩ := List.nodup_cons.mp nd
    have h' : l[i]? = some x := h
    have hm := List.mem_of_getElem? h'
    have ne : y ≠ x := fun z => n1 (by rw [z]; exact hm)
    rw [List.idxOf_cons, idx_at n2 h']
    have : (y == x) = false := by simpa using ne
    rw [this]
    rfl
def par (rows : List Cm) : FW.Par := fun x => (rows.find? fun r => decide (r.x = x)).bind (·.p)
theorem find_row : ∀ {rows : List Cm} {r : Cm}, (nm rows).Nodup → r ∈ rows → rows.find? (fun q => decide (q.x = r.x)) = some r
  | q :: rows, r, nd, h => by
    obtain ⟨n1, n2⟩ := List.nodup_cons.mp (show (q.x :: nm rows).Nodup from nd)
    rw [List.find?_cons]
    rcases List.mem_cons.mp h with e | h
    · subst e
      simp
    · have ne : ¬ q.x = r.x := fun z => n1 (by rw [z]; exact List.mem_map.mpr ⟨r, h, rfl⟩)
      simp only [ne, decide_false]
      exact find_row n2 h
theorem par_at {rows : List Cm} {r : Cm} (nd : (nm rows).Nodup) (h : r ∈ rows) : par rows r.x = r.p := by
  unfold par
  rw [find_row nd h]
  rfl
theorem kvC_at {rows : List Cm} {r : Cm} (nd : (nm rows).Nodup) (h : r ∈ rows) : valV (kvC rows) (Sum.inr r.x) = some (cmV r) := by
  unfold valV kvC
  rw [List.find?_map]
  have : (fun kv : Key × V => decide (kv.1 = Sum.inr r.x)) ∘ (fun q : Cm => ((Sum.inr q.x : Key), cmV q)) = fun q => decide (q.x = r.x) := by
    funext q
    show decide ((Sum.inr q.x : Key) = Sum.inr r.x) = decide (q.x = r.x)
    exact decide_eq_decide.mpr ⟨fun e => Sum.inr.inj e, fun e => by rw [e]⟩
  rw [this, find_row nd h]
  rfl
theorem Cn.tr {g : Bool} {A : List (List Str)} {ds S : List Str} {rows : List Cm} (h : Cn (fun x => stps g A ds x ds.length) S rows) : FW.Tr g A ds S (nm rows) (par rows) := by
  refine ⟨h.nd, h.sr, fun x hx hp => ?_, fun x hx p d t hp => ?_⟩
  · obtain ⟨r, hr, rfl⟩ := List.mem_map.mp hx
    rw [par_at h.nd hr] at hp
    obtain ⟨j, hj⟩ := List.mem_iff_getElem?.mp hr
    rcases h.ok j r hj with ⟨_, z⟩ | ⟨i, q, d, t, _, _, z, _⟩
    · exact z
    · rw [z] at hp
      cases hp
  · obtain ⟨r, hr, rfl⟩ := List.mem_map.mp hx
    rw [par_at h.nd hr] at hp
    obtain ⟨j, hj⟩ := List.mem_iff_getElem?.mp hr
    rcases h.ok j r hj with ⟨z, _⟩ | ⟨i, q, d', t', l, hi, z, hs⟩
    · rw [z] at hp
      cases hp
    · rw [z] at hp
      cases hp
      have e1 : (nm rows)[i]? = some q.x := by rw [List.getElem?_map, hi]; rfl
      have e2 : (nm rows)[j]? = some r.x := by rw [List.getElem?_map, hj]; rfl
      exact ⟨mem_stps.mp hs, List.mem_of_getElem? e1, by rw [idx_at h.nd e1, idx_at h.nd e2]; exact l⟩
section
variable {P : Program} {w : World} {K : PySem.W.Frag} {mg : Str → Option Value} {base : Heap} {f C : Addr} {fd : FuncData}
def spPa : Sp := fun vs H Q _ => ∃ (r D W : Addr) (e : Str) (rows : List Cm) (g : Bool) (A : List (List Str)) (ds S : List Str), vs = [.ref r, .ref D, .str e] ∧ H r = some (.lst (ds.map V.str)) ∧ CmOk H D W rows ∧ Cn (fun x => stps g A ds x ds.length) S rows ∧ rows.length ≤ 40 ∧ ds.length ≤ 60 ∧ FW.Fits A ds ∧ e ∈ nm rows ∧
  ∀ (x : Str) (ds' : List Str), x ∈ S → FW.WI g A ds (nm rows) e x ds' → Q (.str x) (upd H r (.lst (ds'.map V.str)))
theorem ok_pa (F : Dn K d_pass_along f fd) : FnOk P w K mg base CX0 1 f fd ["drivers", "came", "end"] spPa := by
  refine F.ok sc_pass_along (fun vs H Q E h => ?_) (fun cdv A outer s H vs Q E hr h => ?_)
  · obtain ⟨_, _, _, _, _, _, _, _, _, rfl, _⟩ := h
    rfl
  · obtain ⟨r, D, W, e, rows, g, A', ds, S, rfl, hrr, hc, cn, lr, ld, fit, he, hQ⟩ := h
    have hu := hu_of hr
    refine ⟨_, PSs.nox (pss_cons (ps_set (i := 3) sc_pass_along.nd rfl (.inl rfl) (pv 2))
      (pss_cons (ps_while PassesOwn.never (pt_cmpR op_notN1 (pe_dget hu (pv 1) (pv 3) (fun _ _ => rfl)) pe_non (nomark _))
        (pss_cons (ps_asg (pe_dget hu (pv 1) (pv 3) (fun _ _ => rfl)) (pg_tup rfl (pgs_cons (pg_name (i := 3) sc_pass_along.nd rfl (.inl rfl)) (pgs_cons (pg_name (i := 4) sc_pass_along.nd rfl (.inl rfl)) (pgs_cons (pg_name (i := 5) sc_pass_along.nd rfl (.inl rfl)) pgs_nil)))))
        (pss_one (ps_asg (pv 5) (pg_sub (pv 0) (pv 4) set_list)))))
      (pss_one (ps_ret (pv 3))))), ?_⟩
    have T := cn.tr
    have self : upd H r (.lst (ds.map V.str)) = H := by
      funext b
      by_cases z : b = r
      · rw [z, upd_same, hrr]
      · rw [upd_ne z]
    have rD : r ≠ D := ne_of hrr hc.d (by intro q; cases q)
    refine ⟨_, rfl, ?_⟩
    refine while_by (fun σ' H' => ∃ (x : Str) (cur : List Str) (v4 v5 : Option V), σ' = [some (.ref r), some (.ref D), some (.str e), some (.str x), v4, v5] ∧ H' = upd H r (.lst (cur.map V.str)) ∧ FW.WI g A' ds (nm rows) e x cur)
      (fun σ' _ => match σ' with | [_, _, _, some (.str x), _, _] => (nm rows).idxOf x | _ => 0) ⟨e, ds, _, _, rfl, self.symm, FW.WI.start he fit⟩ ?_ ?_
    · rintro σ' H' ⟨x, cur, v4, v5, rfl, rfl, wi⟩
      obtain ⟨rw0, hrw, ex⟩ := List.mem_map.mp wi.mem
      subst ex
      have hp : par rows rw0.x = rw0.p := par_at cn.nd hrw
      have hD' : (upd H r (.lst (cur.map V.str))) D = some (.dK (kvC rows)) := by rw [upd_ne rD.symm]; exact hc.d
      have dg := DGet.k (k := Sum.inr rw0.x) hD'
      rw [kvC_at cn.nd hrw] at dg
      cases ep : rw0.p with
      | none =>
        have ev : cmV rw0 = .non := by unfold cmV; rw [ep]
        rw [ev] at dg
        refine ⟨_, rfl, _, rfl, D, _, rfl, dg, rfl, _, rfl, ?_⟩
        refine iteF ?_
        exact ⟨_, rfl, hQ rw0.x cur (T.ro _ wi.mem (hp.trans ep)) wi⟩
      | some z =>
        obtain ⟨p, d, tk⟩ := z
        have ev : cmV rw0 = .ref rw0.a := by unfold cmV; rw [ep]
        rw [ev] at dg
        have ht := hc.t rw0 hrw _ ep
        have ht' : (upd H r (.lst (cur.map V.str))) rw0.a = some (tG (p, d, tk)) := by
          rw [upd_ne (ne_of ht hrr (by intro q; cases q))]
          exact ht
        obtain ⟨dl, wi2⟩ := wi.step T (hp.trans ep)
        refine ⟨_, rfl, _, rfl, D, _, rfl, dg, rfl, _, rfl, ?_⟩
        refine iteT ?_
        refine ⟨_, rfl, _, rfl, D, _, rfl, dg, rw0.a, _, rfl, SqT.of ht', rfl, _, _, rfl, _, _, rfl, _, _, rfl, rfl, ?_⟩
        refine ⟨_, rfl, _, rfl, _, rfl, r, _, _, d, rfl, rfl, upd_same, ?_, ⟨p, cur.set d tk, _, _, rfl, ?_, wi2⟩, ?_⟩
        · unfold ixN
          rw [List.length_map]
          have : (0 : Int) ≤ (d : Int) := by omega
          rw [if_pos this]
          have h2 : (d : Int).toNat < cur.length := by omega
          simp
          omega
        · rw [upd_upd]
          congr 2
          rw [List.map_set]
        · exact (T.up _ wi.mem _ _ _ (hp.trans ep)).2.2
    · intro σ' H' Q1 Q2 hq h
      obtain ⟨v, e1, y, e2, a, u, e3, e4, e5, b, e6, e7⟩ := h
      exact ⟨v, e1, y, e2, a, u, e3, e4, e5, b, e6, hq _ _ e7⟩
end
end K52
set_option Elab.async false
set_option linter.all false
set_option maxRecDepth 100000
set_option maxHeartbeats 4000000
/-! sorted(xs), xs a list of data at any depth -/
namespace SRT
open PySem PySem.Spec PyProof.Rows L2
/-- p stands not behind q -/
def leD (p q : V × PyData) : Bool := !PySem.W.dataLt q.2 p.2
/-- the sorted list -/
def srt (xs : List V) (ds : List PyData) : List V := ((xs.zip ds).mergeSort leD).map Prod.fst
theorem len_of {K : PySem.W.Frag} {H : Hp} : ∀ {xs : List V} {ds : List PyData}, DpAll K H xs ds → xs.length = ds.length
  | _, _, .nil => rfl
  | _, _, .cons _ t => congrArg (· + 1) (len_of t)
theorem srt_perm {xs : List V} {ds : List PyData} (h : xs.length = ds.length) : (srt xs ds).Perm xs := by
  unfold srt
  refine ((List.mergeSort_perm _ _).map Prod.fst).trans ?_
  rw [List.map_fst_zip (by omega)]
theorem vals_each : ∀ {xs : List V} {us : List Value} {ds : List PyData}, Vals xs us → xs.length = ds.length → PySem.W.EachIs (fun v (b : V × PyData) => RelV b.1 v) us (xs.zip ds)
  | [], _, [], .nil, _ => .nil
  | x :: xs, _, d :: ds, .cons r rs, h => .cons r (vals_each rs (by simpa using h))
theorem each_vals : ∀ {us : List Value} {bs : List (V × PyData)}, PySem.W.EachIs (fun v (b : V × PyData) => RelV b.1 v) us bs → Vals (bs.map Prod.fst) us
  | _, _, .nil => .nil
  | _, _, .cons r rs => .cons r (each_vals rs)
def rSortedD (K : PySem.W.Frag) : List V → Hp → VK → Prop := fun vs H Q => ∃ (a : Addr) (xs : List V) (ds : List PyData), vs = [V.ref a] ∧ (SqL K H a xs ∨ SqT K H a xs) ∧ DpAll K H xs ds ∧ PySem.W.AllAlike ds ∧ PySem.W.Sortable ds ∧ (∀ d ∈ ds, d.depth ≤ 60) ∧
  ∀ p : Addr, H p = none → Q (.ref p) (upd H p (.lst (srt xs ds)))
/-! sorted of a tuple -/
section
variable {prog : Program} {w : World} {A : Around} {E : Value → Shared → Prop} {s : Shared} {κ : KeyKind}
theorem gather_tup {b : Addr} {us : List Value} {R : List Value → Shared → Prop} (ht : s.heap.IsTuple b us.toArray) (hz : us.length ≤ sizeLine)
    (h : R us { s with heap := (s.heap.push (seqObj "list" #[] 0)).update s.heap.objs.size (Obj.mapSeq (· ++ us.toArray)) }) : wpAny (model prog w) A (collect (.ref b)) R E s := by
  obtain ⟨ob, e1, e2, k, e3⟩ := id ht
  have e4 : (s.heap.push (seqObj "list" #[] 0)).get? b = some ob := Heap.get?_push_of_some _ e1
  have em : (s.heap.push (seqObj "list" #[] 0)).get? s.heap.objs.size = some (seqObj "list" #[] 0) := Heap.get?_push_size _ rfl
  unfold collect
  refine wpAny_bind (wpAny_runValue (codeAny_builtin entry_proto_collect' ?_))
  show wpAny _ _ (do again (.builtin "list.__iadd__" ⟨[← newList [], .ref b], []⟩)) _ _ s
  refine wpAny_bind (wpAny_newList (wpAny_pure ⟨Code.quiet_builtin _ (by decide +kernel), codeAny_builtin entry_list_iadd' ?_⟩))
  show wpAny _ _ (Builtin.List.listExtendWith (.ref s.heap.objs.size) (.ref b) (.ref s.heap.objs.size)) _ _ { s with heap := s.heap.push (seqObj "list" #[] 0) }
  unfold Builtin.List.listExtendWith
  refine wpAny_bind (wpAny_typeOf (T := "tuple") ⟨ob, e4, e2⟩ ?_)
  have et : (Value.type "tuple" == Value.type "tuple") = true := by rfl
  rw [if_pos (by rw [et]; simp)]
  refine wpAny_bind (listItems_at e4 e3 (wpAny_bind (listItems_at em rfl ?_)))
  rw [if_neg (by simp)]
  refine wpAny_bind (listUpdate_at em rfl ?_ (Nat.zero_le _) (by simp only [Array.size_append, List.size_toArray, List.length_nil]; omega))
  refine wpAny_pure ?_
  show wpAny (model prog w) A (load s.heap.objs.size >>= fun o => match o.data with | .seq xs _ => pure xs.toList | _ => unsupported "internal:collect") R E _
  refine wpAny_bind (wpAny_load (get?_update_seq em _) ?_)
  show wpAny _ _ (pure ((#[] : Array Value) ++ us.toArray).toList) R E _
  have e5 : ((#[] : Array Value) ++ us.toArray).toList = us := by simp
  rw [e5]
  exact wpAny_pure h
theorem sorted_tupV {b : Addr} {us : List Value} {R : Value → Shared → Prop} (ht : s.heap.IsTuple b us.toArray) (hz : us.length ≤ sizeLine)
    (S : PySem.W.SortsAt prog w A.in1.in1 { s with heap := PySem.W.sortingHeap (PySem.W.copyHeap s.heap us) (s.heap.objs.size + 1) us } κ us)
    (h : R (.ref (s.heap.objs.size + 1)) { s with heap := sortedAll s.heap us (PySem.W.sortVals κ false us us).toArray }) : wpAny (model prog w) A (call (.builtin "sorted") [.ref b]) R E s := by
  refine Calls.call_function_entry kind_sorted plain_sorted entry_sorted (args_sorted1 _) ?_
  unfold Builtin.«sorted»
  refine wpAny_bind (m := checkCount "sorted" 1 1 _) (wpAny_pure (wpAny_bind (gather_tup ht hz (wpAny_bind (wpAny_newList ?_ hz)))))
  have e : ((s.heap.push (seqObj "list" #[] 0)).update s.heap.objs.size (Obj.mapSeq (· ++ us.toArray))).objs.size = s.heap.objs.size + 1 := (Heap.size_update ..).trans (size_push' ..)
  show wpAny _ _ _ _ _ { s with heap := PySem.W.copyHeap s.heap us }
  rw [e]
  refine wpAny_bind (wpAny_holding (wpAny_call_entry slot_list_sort ⟨_, PySem.W.copyHeap_at s.heap us, rfl⟩ entry_list_sort ?_ (args_list_sort _)))
  exact PySem.W.list_sort_vals (s := { s with heap := PySem.W.copyHeap s.heap us }) (PySem.W.copyHeap_at s.heap us) S hz ⟨_, rfl, wpAny_pure ⟨_, rfl, h⟩⟩
end
section
variable {X : Cx} {pins : List (Addr × Obj)} {σ : L2.St} {H : Hp} {s : Shared}
theorem reads_each (I : Inv X pins σ H s) : ∀ {ds : List PyData} {vs : List V} {us : List Value}, DpAll X.K H vs ds → Vals vs us → PySem.W.EachIs (fun v d => ∃ as, Reads s.heap v d as) us ds
  | [], _, _, h, r => by
    cases h
    cases r
    exact .nil
  | d :: ds, _, _, h, r => by
    cases h with
    | cons h1 h2 =>
      cases r with
      | cons r1 r2 => exact .cons (Dp.reads I d _ _ h1 r1) (reads_each I h2 r2)
theorem cr_sortedD (hu : X.A.units + 64 < cLine) : CallR X (.builtin "sorted") (rSortedD X.K) := by
  intro pins s σ H vs us Q I r h
  obtain ⟨a, xs, ds, rfl, hs, hd, al, so, dp, q⟩ := h
  rw [Vals.ref1 r]
  have ln := len_of hd
  have main : ∀ its : List Value, Vals xs its → xs.length ≤ sizeLine → ∃ κ : KeyKind, PySem.W.SortsAt X.prog X.w X.A.in1.in1 { s with heap := PySem.W.sortingHeap (PySem.W.copyHeap s.heap its) (s.heap.objs.size + 1) its } κ its ∧
      EP X pins σ Q (.ref (s.heap.objs.size + 1)) { s with heap := sortedAll s.heap its (PySem.W.sortVals κ false its its).toArray } := fun its rv hz => by
    have e := reads_each I hd rv
    have e2 : PySem.W.EachIs (fun v d => ∃ as, Reads (PySem.W.sortingHeap (PySem.W.copyHeap s.heap its) (s.heap.objs.size + 1) its) v d as) its ds := e.mono fun v d ⟨as, h⟩ => ⟨as, Reads.keeps (fun b o z => PySem.W.sorting_copy_old z) h⟩
    have S := PySem.W.SortsAt.data (prog := X.prog) (w := X.w) (A := X.A.in1.in1) (s := { s with heap := PySem.W.sortingHeap (PySem.W.copyHeap s.heap its) (s.heap.objs.size + 1) its }) e2 al so (fun d hd => by have := dp d hd; show X.A.units + 1 + 1 + d.depth < cLine; omega)
    refine ⟨_, S, ?_⟩
    have ek : PySem.W.EachIs (fun v (b : V × PyData) => (PySem.W.dataKind (PySem.W.sortingHeap (PySem.W.copyHeap s.heap its) (s.heap.objs.size + 1) its) ds).keyOf v = some (PySem.W.keyToks b.2)) its (xs.zip ds) := by
      have f := PySem.W.each_keys al e2
      have mz : (xs.zip ds).map Prod.snd = ds := List.map_snd_zip (by omega)
      rw [← mz] at f
      have f' := PySem.W.each_of_map (fun b : V × PyData => b.2) f
      rw [mz] at f'
      exact f'
    have eo := PySem.W.sortVals_each (κ := PySem.W.dataKind (PySem.W.sortingHeap (PySem.W.copyHeap s.heap its) (s.heap.objs.size + 1) its) ds) (rev := false) (fun b : V × PyData => PySem.W.keyToks b.2) (vals_each rv ln) ek
    have vo := each_vals eo
    generalize PySem.W.sortVals _ false its its = out at vo ⊢
    obtain ⟨ep, he'⟩ := PyProof.Rows.sortedAll_at s.heap its out.toArray
    have hlen : (srt xs ds).length ≤ sizeLine := by rw [(srt_perm ln).length_eq]; exact hz
    exact ⟨.ref _, upd H (s.heap.objs.size + 1) (.lst (srt xs ds)), I.laid (t' := s.toks) (fun _ _ => PyProof.Rows.sortedAll_old) (Nat.le_succ _) ⟨hlen, out, ep, vo, he'⟩, rfl, q _ (I.hok.fresh (Nat.le_succ _))⟩
  rcases hs with hs | hs
  · obtain ⟨its, rv, hl, hz⟩ := I.list hs
    obtain ⟨κ, S, k⟩ := main its rv hz
    exact PySem.W.sorted_vals hl.isList S (by rw [← rv.length]; exact hz) k
  · obtain ⟨its, rv, hl, hz⟩ := I.tuple hs
    obtain ⟨κ, S, k⟩ := main its rv hz
    exact sorted_tupV hl (by rw [← rv.length]; exact hz) S k
/-- texts -/
def leS (x y : Str) : Prop := ¬ y.cps.toList < x.cps.toList
theorem dpS {H : Hp} : ∀ xs : List Str, DpAll X.K H (xs.map V.str) (xs.map PyData.str)
  | [] => .nil
  | x :: xs => .cons (.str x) (dpS xs)
theorem srtS (xs : List Str) : ∃ ys : List Str, srt (xs.map V.str) (xs.map PyData.str) = ys.map V.str ∧ ys.Perm xs ∧ ys.Pairwise leS := by
  have tot := PySem.W.sortLe_total (listOrd itemOrd) false (fun p : V × PyData => PySem.W.keyToks p.2)
  have pw := PySem.W.sort_pairwise tot ((xs.map V.str).zip (xs.map PyData.str))
  have pm := List.mergeSort_perm ((xs.map V.str).zip (xs.map PyData.str)) leD
  have mem : ∀ p ∈ ((xs.map V.str).zip (xs.map PyData.str)).mergeSort leD, ∃ x, p = (V.str x, PyData.str x) := fun p hp => by
    have := pm.mem_iff.mp hp
    rw [List.zip_map'] at this
    obtain ⟨x, _, e⟩ := List.mem_map.mp this
    exact ⟨x, e.symm⟩
  have pw' : (((xs.map V.str).zip (xs.map PyData.str)).mergeSort leD).Pairwise fun a b => leD a b = true := pw
  unfold srt
  generalize ((xs.map V.str).zip (xs.map PyData.str)).mergeSort leD = L at pm mem pw'
  have : ∃ ys : List Str, L = ys.map fun x => (V.str x, PyData.str x) := by
    clear pm pw'
    induction L with
    | nil => exact ⟨[], rfl⟩
    | cons p L ih =>
      obtain ⟨x, e⟩ := mem p List.mem_cons_self
      obtain ⟨ys, e2⟩ := ih fun q hq => mem q (List.mem_cons_of_mem _ hq)
      exact ⟨x :: ys, by rw [e, e2]; rfl⟩
  obtain ⟨ys, rfl⟩ := this
  refine ⟨ys, ?_, ?_, ?_⟩
  · rw [List.map_map]
    rfl
  · have p2 := pm.map fun p : V × PyData => match p.1 with | .str x => x | _ => ""
    rw [List.map_map, List.zip_map', List.map_map] at p2
    simpa [Function.comp_def] using p2
  · refine (List.pairwise_map.mp pw').imp fun {a b} h => ?_
    have h' : (!PySem.W.dataLt (.str b) (.str a)) = true := h
    rw [PySem.W.dataLt_str] at h'
    simpa [leS] using h'
/-- sorted of texts, a list or a tuple -/
def rSortedTx (K : PySem.W.Frag) : List V → Hp → VK → Prop := fun vs H Q => ∃ (a : Addr) (xs : List Str), vs = [V.ref a] ∧ (SqL K H a (xs.map V.str) ∨ SqT K H a (xs.map V.str)) ∧
  ∀ (ys : List Str) (p : Addr), ys.Perm xs → ys.Pairwise leS → H p = none → Q (.ref p) (upd H p (.lst (ys.map V.str)))
theorem cr_sortedTx (hu : X.A.units + 64 < cLine) : CallR X (.builtin "sorted") (rSortedTx X.K) := by
  intro pins s σ H vs us Q I r h
  obtain ⟨a, xs, rfl, hs, q⟩ := h
  obtain ⟨ys, e, pm, pw⟩ := srtS xs
  refine cr_sortedD hu pins s σ H _ us Q I r ⟨a, _, xs.map PyData.str, rfl, hs, dpS xs, fun d h1 d' h2 => ?_, .inr fun d h1 => ?_, fun d h1 => ?_, fun p fp => ?_⟩
  · obtain ⟨x, _, rfl⟩ := List.mem_map.mp h1
    obtain ⟨y, _, rfl⟩ := List.mem_map.mp h2
    rfl
  · obtain ⟨x, _, rfl⟩ := List.mem_map.mp h1
    refine ⟨fun z => ?_, fun l z => ?_⟩ <;> cases z
  · obtain ⟨x, _, rfl⟩ := List.mem_map.mp h1
    show 0 ≤ 60
    decide
  · rw [e]
    exact q ys p pm pw fp
end
end SRT
set_option Elab.async false
set_option linter.all false
set_option maxRecDepth 100000
set_option maxHeartbeats 4000000
/-! xs.count(x), texts -/
namespace CS
open PySem PySem.Spec PyProof.Rows L2
def eqs (z : Str) : Value → Bool
  | .str c _ => c == z
  | _ => false
theorem vals_str {bs : List Str} : ∀ {us : List Value}, Vals (bs.map V.str) us → (∀ u ∈ us, ∃ c t, u = Value.str c t) ∧ ∀ z, us.countP (eqs z) = bs.count z := by
  induction bs with
  | nil =>
    intro us r
    cases r
    exact ⟨fun u h => by simp at h, fun z => rfl⟩
  | cons b bs ih =>
    intro us r
    rw [List.map_cons] at r
    cases r with
    | cons h t =>
      obtain ⟨i1, i2⟩ := ih t
      obtain ⟨tk, rfl⟩ := h
      refine ⟨fun u hu => ?_, fun z => ?_⟩
      · rcases List.mem_cons.mp hu with e | hu
        · exact ⟨b, tk, e⟩
        · exact i1 u hu
      · rw [List.countP_cons, List.count_cons, i2]
        rfl
def rCntS (K : PySem.W.Frag) : V → List V → Hp → VK → Prop := fun x xs H Q => ∃ (p : Addr) (bs : List Str) (z : Str), x = .ref p ∧ xs = [.str z] ∧ SqL K H p (bs.map V.str) ∧ Q (.int (bs.count z : Nat)) H
theorem mt_scount {X : Cx} : MtR X "list.count" (rCntS X.K) := by
  intro pins s σ H x xs v us Q I rx rxs h
  obtain ⟨p, bs, z, rfl, rfl, hs, q⟩ := h
  cases rx
  obtain ⟨u, rfl, ru⟩ := rxs.one
  obtain ⟨tz, rfl⟩ := ru
  obtain ⟨its, rv, ⟨⟨cls, dd, data, sl⟩, n, ho, hc, hdn, hd⟩, hlen⟩ := I.list hs
  simp only at hc hd
  subst hc hd
  obtain ⟨i1, i2⟩ := vals_str rv
  refine call_meets PySem.F.slot_list_count ⟨_, ho, rfl⟩ PySem.F.entry_list_count (PySem.F.args_list_count_2 _ _) (SeqAt.list_countAt p _ n dd sl (.str z tz) (eqs z)) ⟨ho, fun y hy => ?_, ?_⟩
  · obtain ⟨c, t, rfl⟩ := i1 y (by simpa using hy)
    exact SeqAt.EqAt.str_str c t z tz
  · refine ⟨.int (bs.count z : Nat), H, I.tok _, ⟨s.toks, ?_⟩, q⟩
    show Value.int ((its.toArray.toList.countP (eqs z) : Nat) : Int) s.toks = Value.int ((bs.count z : Nat) : Int) s.toks
    rw [show its.toArray.toList = its from rfl, i2]
end CS
set_option Elab.async false
set_option linter.all false
set_option maxRecDepth 100000
set_option maxHeartbeats 4000000
/-! GE: a law's end by a promise that is asked only where no repr is under way. -/
namespace GL
open PySem PySem.Spec PyProof.Rows L2
theorem lawG {P : Program} {w : World} {K : PySem.W.Frag} {mg mb : Str → Option Value} {k : Nat} {fa a : Addr} {fd : FuncData} {x : Str} {sp : Sp} {s₁ : Shared} {vs : List Value} {ns : List Int}
    (KX : K.In s₁.heap) (hns : s₁.heap.Ns mainGlobals mg) (hb : s₁.heap.Ns builtinsNs mb) (hbb : ∀ x : Str, x ≠ "__name__" → mb x = bootBuiltins x) (hlim : s₁.heap.NoLimit) (hg : s₁.gens = #[])
    (ha : s₁.heap.get? a = some { cls := .type "list", data := .seq vs.toArray }) (hi : IntsAre vs ns) (hl : ns.length ≤ sizeLine) (hr : Room k callerA)
    (F : ∀ base : Heap, K.In base → base.Ns mainGlobals mg → FnG P w K mg base k fa fd [x] sp) (hbind : ∀ (s : Shared) (u : Value), BindsTo s fd ⟨[u], []⟩ [(x, u)])
    (hsp : ∀ H : Hp, SqL K H a (ns.map V.int) → sp [.ref a] H (fun v _ => v = .bl true) fun _ _ _ => False) :
    codeAny (model P w) callerA (.call (.ref fa) ⟨[.ref a], []⟩) (fun r s' => r = .ok (.ret (.bool true)) ∧ OldK s₁.heap s'.heap ∧ s'.os = s₁.os ∧ AllBare s'.gens) s₁ := by
  -- the script alone is tracked, as it is, or nothing
  have from_ : ∀ H : Hp, SqL K H a (ns.map V.int) → HOk P w H s₁.heap → (∀ b u, H b = some u → b = a ∧ K.lookup a = none ∧ ∃ o xs, u = .frz o (.lst xs)) →
      codeAny (model P w) callerA (.call (.ref fa) ⟨[.ref a], []⟩) (fun r s' => r = .ok (.ret (.bool true)) ∧ OldK s₁.heap s'.heap ∧ s'.os = s₁.os ∧ AllBare s'.gens) s₁ := by
    intro H hS hok hA
    have off : ∀ b, (b = a → K.lookup a ≠ none) → H b = none := fun b n => by
      cases q : H b with
      | none => rfl
      | some u => exact absurd (hA b u q).2.1 (n (hA b u q).1)
    have nsK : ∀ {b : Addr} {m : Str → Option Value}, s₁.heap.Ns b m → (hidT s₁.heap H).Ns b m := by
      rintro b m ⟨o, es, ep, e, d, r⟩
      refine ⟨o, es, ep, hidT_get e (off b fun z => ?_), d, r⟩
      subst z
      rw [ha] at e
      cases e
      cases d
    have inK : K.In (hidT s₁.heap H) := fun b o e => hidT_get (KX b o e) (off b fun z => by rw [← z, e]; simp)
    have hM : Mod K mg (hidT s₁.heap H) := ⟨inK, nsK hns, ⟨mb, nsK hb, hbb⟩, by obtain ⟨mc, h1, h2⟩ := hlim; exact ⟨mc, nsK h1, h2⟩⟩
    have nofr : ∀ b : Addr, b ∉ frs ([] : List Env) := fun b z => nomatch z
    have e0 : Env0 P w K mg (hidT s₁.heap H) callerA [] s₁ H := ⟨rfl, hM, fun b o e => of_hidT e, Nat.le_of_eq (hidT_size _ _), trivial, fun b z => absurd z (nofr b), hok, .of_eq hg⟩
    refine codeAny_mono ((F _ inK (nsK hns)).run callerA [] s₁ H ⟨[.ref a], []⟩ [.ref a] [.ref a] _ _ rfl hr e0 (hbind s₁ (.ref a)) (.cons rfl .nil) (hsp H hS)) fun r s' h => ?_
    match r, h with
    | .error e, h => exact False.elim h
    | .ok .next, h => exact False.elim h
    | .ok .brk, h => exact False.elim h
    | .ok .cont, h => exact False.elim h
    | .ok (.ret u), ⟨v, H', os, bare, un, hok', r', q⟩ =>
      cases (show v = .bl true from q)
      cases (show u = Value.bool true from r')
      refine ⟨rfl, OldK.of_keep fun b o e => ?_, os, bare⟩
      cases q : H b with
      | none => exact un.keep b o e q (nofr b) (by simp)
      | some u =>
        obtain ⟨_, _, ob, xs, rfl⟩ := hA b u q
        have e1 := (hok b _ q).1
        have e2 := (hok' b _ (un.frzs b ob _ q)).1
        rw [e] at e1
        cases e1
        exact e2
  have rv := vals_ints hi
  cases hk : K.lookup a with
  | some o =>
    have e := KX a o hk
    rw [ha] at e
    cases e
    exact from_ (fun _ => none) (.inr ⟨_, vs.toArray, _, hk, rfl, rfl, rfl, by rw [List.size_toArray, hi.length]; exact hl, by simpa using rv⟩) (fun b u z => nomatch z) (fun b u z => nomatch z)
  | none =>
    have at_ : ∀ (b : Addr) (u : HO), (if b = a then some (HO.frz { cls := .type "list", data := .seq vs.toArray } (.lst (ns.map V.int))) else none) = some u → b = a ∧ u = HO.frz { cls := .type "list", data := .seq vs.toArray } (.lst (ns.map V.int)) := fun b u z => by
      by_cases h : b = a
      · rw [if_pos h] at z
        exact ⟨h, (Option.some.inj z).symm⟩
      · rw [if_neg h] at z
        cases z
    refine from_ (fun b => if b = a then some (.frz { cls := .type "list", data := .seq vs.toArray } (.lst (ns.map V.int))) else none) (.inl (.inr ⟨{ cls := .type "list", data := .seq vs.toArray }, if_pos rfl⟩)) (fun b u z => ?_) (fun b u z => ?_)
    · obtain ⟨rfl, rfl⟩ := at_ b u z
      exact ⟨ha, by rw [List.length_map]; exact hl, vs, _, rv, ha⟩
    · obtain ⟨rfl, rfl⟩ := at_ b u z
      exact ⟨rfl, hk, _, _, rfl⟩
/-- a law: F gives the written part, the function object, the promise over every base -/
theorem walkG {l : PySem.W.OpenLaw} {n k : Nat} {q : Program} {loose : List Str} {XP : (Str → Option Value) → Heap → Prop} {YP : World → Heap → Prop} {d : DefRec} {x : Str} (hn : l.most = some n) (hn2 : n ≤ sizeLine) (hdf : d.params.defaults = []) (hr : Room k callerA)
    (F : ∀ (w : World) (mg : Str → Option Value) (fa : Addr) (h : Heap), YP w h → h.Ns mainGlobals mg → mg d.name = some (.ref fa) →
      ∃ (K : PySem.W.Frag) (fd : FuncData) (sp : Sp), K.In h ∧ (∀ (s : Shared) (u : Value), BindsTo s fd ⟨[u], []⟩ [(x, u)]) ∧
        (∀ (H : Hp) (a : Addr) (ns : List Int), ns.length ≤ n → SqL K H a (ns.map V.int) → sp [.ref a] H (fun v _ => v = .bl true) fun _ _ _ => False) ∧
        ∀ base : Heap, K.In base → base.Ns mainGlobals mg → FnG l.prog w K mg base k fa fd [x] sp) : PySem.W.WalkO q loose XP YP l.row.toRowW d [] (fun f vs => PySem.call f vs) := by
  refine Att.attach_call hn hdf fun w s₀ s₁ mg mb fa o pm cd doc a vs ns G Y ho hd hcd hmg hobj hints hlen hg => ?_
  obtain ⟨K, fd, sp, KX, hb, hsp, hF⟩ := F w mg fa _ Y G.T.g hmg
  exact lawG KX G.T.g G.T.b G.T.builtins G.T.nolimit hg hobj hints (Nat.le_trans hlen hn2) hr hF hb fun H hS => hsp H a ns hlen hS
end GL
set_option Elab.async false
set_option linter.all false
set_option maxRecDepth 100000
set_option maxHeartbeats 4000000
/-! GET: a law's end by a promise that is asked only where no repr is under way, with tables of lambdas. -/
namespace GL
open PySem PySem.Spec PyProof.Rows L2
open LamX (TabB)
theorem lawTG {P : Program} {w : World} {K : PySem.W.Frag} {mg mb : Str → Option Value} {k : Nat} {fa a : Addr} {ts : List (Addr × Addr)} {fd : FuncData} {x : Str} {sp : Sp} {s₁ : Shared} {vs : List Value} {ns : List Int}
    (KX : K.In s₁.heap) (hns : s₁.heap.Ns mainGlobals mg) (hb : s₁.heap.Ns builtinsNs mb) (hbb : ∀ x : Str, x ≠ "__name__" → mb x = bootBuiltins x) (hlim : s₁.heap.NoLimit) (hg : s₁.gens = #[])
    (tabs : ∀ t ∈ ts, s₁.heap.get? t.2 = some { cls := .none, data := .fields #[] }) (outK : ∀ t ∈ ts, K.lookup t.2 = none) (codes : ∀ t ∈ ts, PySem.W.CodeHd s₁.heap t.1 t.2)
    (bmod : ∃ (bm : Addr) (ob : Obj), mg "__builtins__" = some (.ref bm) ∧ bm ≠ builtinsNs ∧ s₁.heap.get? bm = some ob ∧ ob.cls = .type "module" ∧ ob.dict = some builtinsNs ∧ ob.data = .plain)
    (ha : s₁.heap.get? a = some { cls := .type "list", data := .seq vs.toArray }) (hi : IntsAre vs ns) (hl : ns.length ≤ sizeLine) (hr : Room k callerA)
    (F : ∀ base : Heap, K.In base → base.Ns mainGlobals mg → (∀ t ∈ ts, TabB base mg t.1 t.2) → FnG P w K mg base k fa fd [x] sp) (hbind : ∀ (s : Shared) (u : Value), BindsTo s fd ⟨[u], []⟩ [(x, u)])
    (hsp : ∀ H : Hp, (∀ t ∈ ts, H t.2 = some (.tbl #[])) → SqL K H a (ns.map V.int) → sp [.ref a] H (fun v _ => v = .bl true) fun _ _ _ => False) :
    codeAny (model P w) callerA (.call (.ref fa) ⟨[.ref a], []⟩) (fun r s' => r = .ok (.ret (.bool true)) ∧ OldK s₁.heap s'.heap ∧ s'.os = s₁.os ∧ AllBare s'.gens) s₁ := by
  have noT : ∀ t ∈ ts, t.2 ≠ a := fun t ht z => by
    have e := tabs t ht
    rw [z, ha] at e
    have e2 := congrArg Obj.data (Option.some.inj e)
    cases e2
  have from_ : ∀ H : Hp, (∀ t ∈ ts, H t.2 = some (.tbl #[])) → SqL K H a (ns.map V.int) → HOk P w H s₁.heap → (∀ b u, H b = some u → (b = a ∧ K.lookup a = none ∧ ∃ o xs, u = .frz o (.lst xs)) ∨ ∃ t ∈ ts, t.2 = b ∧ u = .tbl #[]) →
      codeAny (model P w) callerA (.call (.ref fa) ⟨[.ref a], []⟩) (fun r s' => r = .ok (.ret (.bool true)) ∧ OldK s₁.heap s'.heap ∧ s'.os = s₁.os ∧ AllBare s'.gens) s₁ := by
    intro H hT hS hok hA
    have off : ∀ {b : Addr} {o : Obj}, s₁.heap.get? b = some o → (∀ ys n, o.data ≠ .seq ys n) → o.data ≠ .fields #[] → H b = none := fun {b o} e n1 n2 => by
      cases q : H b with
      | none => rfl
      | some u =>
        rcases hA b u q with ⟨rfl, _⟩ | ⟨t, ht, rfl, _⟩
        · rw [ha] at e
          cases e
          exact absurd rfl (n1 _ _)
        · rw [tabs t ht] at e
          cases e
          exact absurd rfl n2
    have nsK : ∀ {b : Addr} {m : Str → Option Value}, s₁.heap.Ns b m → (hidT s₁.heap H).Ns b m := by
      rintro b m ⟨o, es, ep, e, d, r⟩
      exact ⟨o, es, ep, hidT_get e (off e (fun ys n z => by rw [d] at z; cases z) (fun z => by rw [d] at z; cases z)), d, r⟩
    have inK : K.In (hidT s₁.heap H) := fun b o e => hidT_get (KX b o e) (by
      cases q : H b with
      | none => rfl
      | some u =>
        rcases hA b u q with ⟨rfl, n, _⟩ | ⟨t, ht, rfl, _⟩
        · rw [n] at e
          cases e
        · rw [outK t ht] at e
          cases e)
    have hM : Mod K mg (hidT s₁.heap H) := ⟨inK, nsK hns, ⟨mb, nsK hb, hbb⟩, by obtain ⟨mc, h1, h2⟩ := hlim; exact ⟨mc, nsK h1, h2⟩⟩
    have tb : ∀ t ∈ ts, TabB (hidT s₁.heap H) mg t.1 t.2 := fun t ht => by
      refine ⟨?_, ?_, fun z => ?_⟩
      · obtain ⟨o, us, c1, c2, c3, c4, c5, c6, c7, e, r1, r2, r3, r⟩ := codes t ht
        exact ⟨o, us, c1, c2, c3, c4, c5, c6, c7, hidT_get e (off e (fun ys n z => by rw [r2] at z; cases z) (fun z => by
          rw [r2] at z
          cases z
          simp at r3)), r1, r2, r3, r⟩
      · obtain ⟨bm, ob, b1, b2, b3, b4, b5, b6⟩ := bmod
        refine ⟨bm, ob, b1, b2, fun z => ?_, fun z => ?_, hidT_get b3 (off b3 (fun ys n z => by rw [b6] at z; cases z) (fun z => by rw [b6] at z; cases z)), b4, b5, b6⟩
        · obtain ⟨o, es, ep, e, d, _⟩ := hns
          rw [← z, b3] at e
          cases e
          rw [b6] at d
          cases d
        · rw [z, tabs t ht] at b3
          cases b3
          cases b6
      · obtain ⟨o, es, ep, e, d, _⟩ := hns
        rw [z, tabs t ht] at e
        cases e
        cases d
    have nofr : ∀ b : Addr, b ∉ frs ([] : List Env) := fun b z => nomatch z
    have e0 : Env0 P w K mg (hidT s₁.heap H) callerA [] s₁ H := ⟨rfl, hM, fun b o e => of_hidT e, Nat.le_of_eq (hidT_size _ _), trivial, fun b z => absurd z (nofr b), hok, .of_eq hg⟩
    refine codeAny_mono ((F _ inK (nsK hns) tb).run callerA [] s₁ H ⟨[.ref a], []⟩ [.ref a] [.ref a] _ _ rfl hr e0 (hbind s₁ (.ref a)) (.cons rfl .nil) (hsp H hT hS)) fun r s' h => ?_
    match r, h with
    | .error e, h => exact False.elim h
    | .ok .next, h => exact False.elim h
    | .ok .brk, h => exact False.elim h
    | .ok .cont, h => exact False.elim h
    | .ok (.ret u), ⟨v, H', os, bare, un, hok', r', q⟩ =>
      cases (show v = .bl true from q)
      cases (show u = Value.bool true from r')
      have more : ∀ t ∈ ts, ∃ ps : Array Value, s'.heap.get? t.2 = some { cls := .none, data := .fields ps } := fun t ht => by
        obtain ⟨ps, z⟩ := un.tbls t.2 #[] (hT t ht)
        exact ⟨_, hok' t.2 _ z⟩
      have stays : ∀ b o, (∀ t ∈ ts, t.2 ≠ b) → s₁.heap.get? b = some o → s'.heap.get? b = some o := fun b o nt e => by
        cases q : H b with
        | none => exact un.keep b o e q (nofr b) (by simp)
        | some u =>
          rcases hA b u q with ⟨_, _, ob, xs, rfl⟩ | ⟨t, ht, z, _⟩
          · have e1 := (hok b _ q).1
            have e2 := (hok' b _ (un.frzs b ob _ q)).1
            rw [e] at e1
            cases e1
            exact e2
          · exact absurd z (nt t ht)
      refine ⟨rfl, ⟨fun b o e => ?_, fun b o e => ?_⟩, os, bare⟩
      · by_cases q : ∃ t ∈ ts, t.2 = b
        · obtain ⟨t, ht, rfl⟩ := q
          obtain ⟨ps, hp⟩ := more t ht
          rw [tabs t ht] at e
          cases e
          exact .inr (.inl ⟨((codes t ht).tab (tabs t ht)).isCodeTable, rfl, #[], ps, rfl, by rw [Array.empty_append]; exact hp⟩)
        · exact .inl (stays b o (fun t ht z => q ⟨t, ht, z⟩) e)
      · by_cases q : ∃ t ∈ ts, t.2 = b
        · obtain ⟨t, ht, rfl⟩ := q
          obtain ⟨ps, hp⟩ := more t ht
          exact ⟨_, hp⟩
        · exact ⟨o, stays b o (fun t ht z => q ⟨t, ht, z⟩) e⟩
  have rv := vals_ints hi
  have dec : ∀ b : Addr, Decidable (∃ t ∈ ts, t.2 = b) := fun b => Classical.propDecidable _
  cases hk : K.lookup a with
  | some o =>
    have e := KX a o hk
    rw [ha] at e
    cases e
    refine from_ (fun b => @ite _ (∃ t ∈ ts, t.2 = b) (dec b) (some (.tbl #[])) none) (fun t ht => if_pos ⟨t, ht, rfl⟩) (.inr ⟨_, vs.toArray, _, hk, rfl, rfl, rfl, by rw [List.size_toArray, hi.length]; exact hl, by simpa using rv⟩) (fun b u z => ?_) (fun b u z => ?_)
    · by_cases q : ∃ t ∈ ts, t.2 = b
      · have z2 := (if_pos q).symm.trans z
        cases z2
        obtain ⟨t, ht, rfl⟩ := q
        exact tabs t ht
      · have z2 := (if_neg q).symm.trans z
        cases z2
    · by_cases q : ∃ t ∈ ts, t.2 = b
      · have z2 := (if_pos q).symm.trans z
        cases z2
        obtain ⟨t, ht, e⟩ := q
        exact .inr ⟨t, ht, e, rfl⟩
      · have z2 := (if_neg q).symm.trans z
        cases z2
  | none =>
    have pick : ∀ (b : Addr) (u : HO), (if b = a then some (HO.frz { cls := .type "list", data := .seq vs.toArray } (.lst (ns.map V.int))) else @ite _ (∃ t ∈ ts, t.2 = b) (dec b) (some (.tbl #[])) none) = some u → (b = a ∧ u = HO.frz { cls := .type "list", data := .seq vs.toArray } (.lst (ns.map V.int))) ∨ ∃ t ∈ ts, t.2 = b ∧ u = .tbl #[] := fun b u z => by
      by_cases h : b = a
      · rw [if_pos h] at z
        exact .inl ⟨h, (Option.some.inj z).symm⟩
      · rw [if_neg h] at z
        by_cases q : ∃ t ∈ ts, t.2 = b
        · rw [if_pos q] at z
          obtain ⟨t, ht, e⟩ := q
          exact .inr ⟨t, ht, e, (Option.some.inj z).symm⟩
        · rw [if_neg q] at z
          cases z
    refine from_ (fun b => if b = a then some (HO.frz { cls := .type "list", data := .seq vs.toArray } (.lst (ns.map V.int))) else @ite _ (∃ t ∈ ts, t.2 = b) (dec b) (some (.tbl #[])) none) (fun t ht => ?_) (.inl (.inr ⟨{ cls := .type "list", data := .seq vs.toArray }, if_pos rfl⟩)) (fun b u z => ?_) (fun b u z => ?_)
    · show (if t.2 = a then _ else _) = _
      rw [if_neg (noT t ht)]
      exact if_pos ⟨t, ht, rfl⟩
    · rcases pick b u z with ⟨rfl, rfl⟩ | ⟨t, ht, rfl, rfl⟩
      · exact ⟨ha, by rw [List.length_map]; exact hl, vs, _, rv, ha⟩
      · exact tabs t ht
    · rcases pick b u z with ⟨rfl, rfl⟩ | ⟨t, ht, e, rfl⟩
      · exact .inl ⟨rfl, hk, _, _, rfl⟩
      · exact .inr ⟨t, ht, e, rfl⟩
/-- a law: F gives the written part, the function object, the tables, the promise over every base -/
theorem walkTG {l : PySem.W.OpenLaw} {n k : Nat} {q : Program} {loose : List Str} {XP : (Str → Option Value) → Heap → Prop} {YP : World → Heap → Prop} {d : DefRec} {x : Str} (hn : l.most = some n) (hn2 : n ≤ sizeLine) (hdf : d.params.defaults = []) (hr : Room k callerA)
    (F : ∀ (w : World) (mg : Str → Option Value) (fa : Addr) (h : Heap), YP w h → h.Ns mainGlobals mg → mg d.name = some (.ref fa) →
      ∃ K : PySem.W.Frag, K.In h ∧ ∃ (fd : FuncData) (ts : List (Addr × Addr)) (sp : Sp), (∀ t ∈ ts, h.get? t.2 = some { cls := .none, data := .fields #[] }) ∧ (∀ t ∈ ts, K.lookup t.2 = none) ∧ (∀ t ∈ ts, PySem.W.CodeHd h t.1 t.2) ∧ (∀ (s : Shared) (u : Value), BindsTo s fd ⟨[u], []⟩ [(x, u)]) ∧
        (∀ (H : Hp) (a : Addr) (ns : List Int), ns.length ≤ n → (∀ t ∈ ts, H t.2 = some (.tbl #[])) → SqL K H a (ns.map V.int) → sp [.ref a] H (fun v _ => v = .bl true) fun _ _ _ => False) ∧
        ∀ base : Heap, K.In base → base.Ns mainGlobals mg → (∀ t ∈ ts, TabB base mg t.1 t.2) → FnG l.prog w K mg base k fa fd [x] sp) : PySem.W.WalkO q loose XP YP l.row.toRowW d [] (fun f vs => PySem.call f vs) := by
  refine Att.attach_call hn hdf fun w s₀ s₁ mg mb fa o pm cd doc a vs ns G Y ho hd hcd hmg hobj hints hlen hg => ?_
  obtain ⟨K, KX, fd, ts, sp, tabs, outK, codes, hb, hsp, hF⟩ := F w mg fa _ Y G.T.g hmg
  exact lawTG KX G.T.g G.T.b G.T.builtins G.T.nolimit hg tabs outK codes G.T.bmain hobj hints (Nat.le_trans hlen hn2) hr hF hb fun H hT hS => hsp H a ns hlen hT hS
end GL
set_option Elab.async false
set_option linter.all false
set_option maxRecDepth 100000
set_option maxHeartbeats 4000000
/-! OKT: a def that makes a lambda and asks repr (its code is known, no repr is under way); calls that may raise, by keywords; nothing comes. -/
namespace GL
open PySem PySem.Spec PyProof.Rows L2
/-- the def's code is known, nothing is being shown -/
theorem okGT {P : Program} {w : World} {K : PySem.W.Frag} {mg : Str → Option Value} {base : Heap} {x qual : Str} {params : Arguments} {body : List Stmt} {scope : Scope} {dvs : List V} {kws : List (Str × V)} {p : He.Defn} {fd : FuncData}
    {N ps : List Str} {k : Nat} {sp : Sp} (F : FunD K x qual params body scope dvs kws (He.fAd K p) fd) (S : FnScope N ps scope) (len : ∀ vs H Q E, sp vs H Q E → vs.length = ps.length)
    (hbody : ∀ (A : Around) (outer : List Env) (s : Shared) (H : Hp) (vs : List V) (Q : VK) (E : XK), A.guards = some [] → Room k (A.deeper (envOfC qual scope s.heap.objs.size (He.fAd K p) (.ref (He.cT K p).1))) → sp vs H Q E →
      ∃ t, PSs (cxOf CX0 P w K mg base N qual scope (He.fAd K p) (.ref (He.cT K p).1) A outer s H E) body t ∧ t { nx := fun _ H' => Q .non H', rt := Q } (start N vs) H) : GL.FnG P w K mg base (k + 1) (He.fAd K p) fd ps sp := by
  obtain ⟨oc, od, dV, kV, doc, pm, an, cdv, ct, osl, hfd, lk, hcd, _, _⟩ := F.ex
  obtain ⟨c, rfl⟩ := He.codeIn_ref hcd
  subst hfd
  have e : (He.cT K p).1 = c := He.codeOf_eq lk rfl
  rw [e] at hbody
  refine ⟨len, fun A outer s H args us vs Q E hg hr e0 hb r hsp => ?_⟩
  obtain ⟨t, ht, hq⟩ := hbody A outer s H vs Q E hg (hr.deeper _) hsp
  have keep : ∀ b o, base.get? b = some o → s.heap.get? b = some o := fun b o e => (e0.bs b o e).1
  have KX : K.In s.heap := e0.mod.kin.keeps keep
  refine codeAny_call_function hr.depth (KX _ _ lk) rfl S.co S.gen rfl (PySem.W.codeRec_of KX hcd) (hb _ _ _ _ (wpAny_newFunctionEnv_cells S.kind (fun y hy => ?_) fun env he s1 x => ?_))
  · exact (S.par y.1 (List.of_mem_zip hy).1).imp id fun q => ⟨q, PySem.W.cellsFrom_some _ _ _ (.inl q)⟩
  · subst he
    refine ⟨(e0.mod.nolimit.keeps keep).keeps x.toInCall.keep, codeAny_func (wpAny_mono (ht.run [] s1 (start N vs) H _ (inv_start S hr.hd e0 (len _ _ _ _ hsp) r x) hq) (fun fl s' hs => ?_) fun e s' hs => hs)⟩
    match fl, hs with
    | .ret u, ⟨v, σ', H', J, rv, q⟩ => exact ⟨v, H', J.os, J.bare, J.base, J.hok, rv, q⟩
    | .next, ⟨σ', H', J, q⟩ => exact ⟨.non, H', J.os, J.bare, J.base, J.hok, rfl, q⟩
    | .brk, ⟨_, _, _, q⟩ => exact q.elim
    | .cont, ⟨_, _, _, q⟩ => exact q.elim
/-- nothing comes -/
theorem passN {X : Cx} : Passes (L2.CX X.prog X.w) X C8.E0 := fun _ _ _ _ _ _ _ h => by
  obtain ⟨_, _, _, _, _, _, _, _, _, _, _, _, h⟩ := h
  exact False.elim h
section
variable {X : Cx} {CX : CXT} {E : XK} {k j : Nat} {C f : Addr} {fd : FuncData} {ps ks : List Str} {sp : Sp} {x m : Str} {p pos apos : Pos} {o : Expr} {kws : List Keyword} {ta : TE} {tk : TA} {g : List Value → List Value → List Value} {gV : List V → List V → List V}
/-- f(k = v, ..) that may raise -/
theorem pe_cKX (F : FnOk X.prog X.w X.K X.mg X.base CX k f fd ps sp) (hr : Room k X.A) (hg : Gl X x) (hm : X.mg x = some (.ref f)) (hk : PySem.W.keepIn X.K (.ref f) = true) (hb : KBn X.K fd ps 0 ks g gV) (hx : Passes CX X E) (hkw : PK X kws tk)
    (hall : (backToKw pos (keywordEach kws X.env)).all (·.1.isSome) = true := by rfl) (hks : (backToKw pos (keywordEach kws X.env)).filterMap (·.1) = ks := by rfl) (hdb : (x == ("__debug__" : Str)) = false := by decide)
    (hpl : ((backTo pos (starEach [] X.env)).any (·.1) || (backToKw pos (keywordEach kws X.env)).any (·.1.isNone)) = false := by rfl) :
    PE X (.Call (.Name x p) [] kws pos) (fun σ H Q => tk σ H fun zs H1 => zs.length = ks.length ∧ sp (gV [] zs) H1 Q E) := by
  refine ⟨fun pins s σ H Q I h => wpAny_Call_Name_kw (ld_glob I hg hm (PySem.W.callWith_KW0 (h₀ := X.base) I.ok.mod.kin hk hall ?_ hpl) hdb)⟩
  refine thn (hkw.run pos pins s σ H _ I h) fun ws s2 ⟨zs, H2, I2, rz, l2, q2⟩ => ⟨I2.kIn, ?_⟩
  rw [hks]
  exact run_fnN (us := []) (vs := []) F hr hb hx I2 .nil rz rfl l2 q2
end
end GL
set_option Elab.async false
set_option linter.all false
set_option maxRecDepth 100000
set_option maxHeartbeats 4000000
namespace FW
open PySem
theorem count_app (l : List Str) (x z : Str) : (((l ++ [x]).count z : Nat) : Int) = (l.count z : Nat) + one (z = x) := by
  rw [List.count_append]
  have := count_one x z []
  have e : ([] : List Str).count z = 0 := rfl
  rw [e] at this
  omega
theorem Fits.snoc {A : List (List Str)} {ds : List Str} {a : List Str} {x : Str} (h : Fits A ds) (ha : A[ds.length]? = some a) (hx : x ∈ a) : Fits A (ds ++ [x]) := by
  have hl := (List.getElem?_eq_some_iff.mp ha).1
  refine ⟨by rw [List.length_append]; exact hl, fun k d b h1 h2 => ?_⟩
  by_cases hk : k < ds.length
  · rw [List.getElem?_append_left hk] at h1
    exact h.2 k d b h1 h2
  · rw [List.getElem?_append_right (by omega)] at h1
    have e0 : k - ds.length = 0 := by
      have := (List.getElem?_eq_some_iff.mp h1).1
      rw [List.length_singleton] at this
      omega
    have ek : k = ds.length := by omega
    rw [e0] at h1
    cases h1
    rw [ek, ha] at h2
    cases h2
    exact hx
end FW
namespace K52
open PySem PySem.Spec PyProof.Rows L2
open C8 (Cal Mak Met pe_c pe_mk pe_mt pe_mt0)
open LamX (Tabs ExtN TabB CodeO)
theorem okT {P : Program} {w : World} {K : PySem.W.Frag} {mg : Str → Option Value} {base : Heap} {x qual : Str} {params : Arguments} {body : List Stmt} {scope : Scope} {dvs : List V} {kws : List (Str × V)} {p : He.Defn} {fd : FuncData}
    {CX : CXT} {N ps : List Str} {k : Nat} {sp : Sp} (F : FunD K x qual params body scope dvs kws (He.fAd K p) fd) (S : FnScope N ps scope) (len : ∀ vs H Q E, sp vs H Q E → vs.length = ps.length)
    (hbody : ∀ (A : Around) (outer : List Env) (s : Shared) (H : Hp) (vs : List V) (Q : VK) (E : XK), Room k (A.deeper (envOfC qual scope s.heap.objs.size (He.fAd K p) (.ref (He.cT K p).1))) → sp vs H Q E →
      ∃ t, PSs (cxOf CX P w K mg base N qual scope (He.fAd K p) (.ref (He.cT K p).1) A outer s H E) body t ∧ t { nx := fun _ H' => Q .non H', rt := Q } (start N vs) H) : FnOk P w K mg base CX (k + 1) (He.fAd K p) fd ps sp := by
  obtain ⟨oc, od, dV, kV, doc, pm, an, cdv, ct, osl, rfl, lk, hcd, _, _⟩ := F.ex
  obtain ⟨c, rfl⟩ := He.codeIn_ref hcd
  have e : (He.cT K p).1 = c := He.codeOf_eq lk rfl
  rw [e] at hbody
  exact fn_of lk hcd S len fun A outer s H vs Q E hr hsp => hbody A outer s H vs Q E hr hsp
/-- o.count(e) of texts -/
theorem pe_cntS {Y : Cx} {o e : Expr} {to te : TE} {apos cpos : Pos} (ho : PE Y o to) (he : PE Y e te) (hbase : attributeBase o "count" Y.env (eval o Y.env) = eval o Y.env := by rfl)
    (hfew : ((backTo cpos (starEach [e] Y.env)).all (fun x => !x.1) && (backToKw cpos (keywordEach [] Y.env)).all (fun x => x.1.isSome)
      && decide (([e] : List Expr).length + ([] : List Keyword).length + (if ([] : List Keyword).isEmpty then 0 else 1) < 30)) = true := by rfl)
    (hline : (apos.endLine == cpos.line) = true := by rfl) (hs : starEach [e] Y.env = (false, eval e Y.env) :: starEach [] Y.env := by rfl) : PE Y (.Call (.Attribute o "count" apos) [e] [] cpos) (tBM Y.K "list" (CS.rCntS Y.K) to (tCons te tNil)) :=
  pe_bm PySem.F.plainAttrs_list PySem.F.slot_list_count PySem.F.type_list_count CS.mt_scount ho (pa_cons he pa_nil hs) hbase hfew hline hs
/-- the tables of the two defs that make lambdas -/
def T0 (K : PySem.W.Frag) : List (Addr × Str) := [((He.cT K ("fill_days", none)).2, (envOfC d_fill_days.qual d_fill_days.scope 0 0 .none).qual ++ "<lambda>"), ((He.cT K ("raise_to_leasts", none)).2, (envOfC d_raise_to_leasts.qual d_raise_to_leasts.scope 0 0 .none).qual ++ "<lambda>")]
theorem oneF {K : PySem.W.Frag} (d : (He.cT K ("raise_to_leasts", none)).2 ≠ (He.cT K ("fill_days", none)).2) : ∀ p ∈ T0 K, p.1 = (He.cT K ("fill_days", none)).2 → p.2 = (envOfC d_fill_days.qual d_fill_days.scope 0 0 .none).qual ++ "<lambda>" := fun p hp e => by
  rcases List.mem_cons.mp hp with q | q
  · rw [q]
  · rw [List.mem_singleton.mp q] at e
    exact absurd e d
theorem oneR {K : PySem.W.Frag} (d : (He.cT K ("raise_to_leasts", none)).2 ≠ (He.cT K ("fill_days", none)).2) : ∀ p ∈ T0 K, p.1 = (He.cT K ("raise_to_leasts", none)).2 → p.2 = (envOfC d_raise_to_leasts.qual d_raise_to_leasts.scope 0 0 .none).qual ++ "<lambda>" := fun p hp e => by
  rcases List.mem_cons.mp hp with q | q
  · rw [q] at e
    exact absurd e.symm d
  · rw [List.mem_singleton.mp q]
/-- a dict is walked: it stands locked -/
theorem lockU {H : Hp} {d : Addr} {u : HO} (hd : H d = some u) (od : Obj) :
    (∀ b o, H b = some o → b ≠ d → (upd H d (.frz od u)) b = some o) ∧ (∀ b, (upd H d (.frz od u)) b = none → H b = none ∧ b ≠ d) ∧ (∀ H', Same (upd H d (.frz od u)) H' → Same H (upd H' d u)) := by
  refine ⟨fun b o e n => by rw [upd_ne n]; exact e, fun b e => ?_, fun H' s b o e => ?_⟩
  · by_cases z : b = d
    · subst z
      rw [upd_same] at e
      cases e
    · rw [upd_ne z] at e
      exact ⟨e, z⟩
  · by_cases z : b = d
    · subst z
      rw [hd] at e
      cases e
      exact upd_same
    · rw [upd_ne z]
      exact s b o (by rw [upd_ne z]; exact e)
theorem val_at {f : Str → V} : ∀ {L : List Str} {x : Str}, x ∈ L → valV (L.map fun y => ((Sum.inr y : Key), f y)) (Sum.inr x) = some (f x)
  | y :: L, x, h => by
    rw [List.map_cons]
    by_cases e : y = x
    · subst e
      exact valV_pos rfl
    · rw [valV_neg (fun z => e (Sum.inr.inj z))]
      exact val_at ((List.mem_cons.mp h).resolve_left fun z => e z.symm)
/-- all but the cells at r and the tables stay -/
def KN (r : Addr) (H H' : Hp) : Prop := ∀ b o, H b = some o → (∀ ps, o ≠ .tbl ps) → b ≠ r → H' b = some o
theorem KN.trans {r : Addr} {A B C : Hp} (h : KN r A B) (k : KN r B C) : KN r A C := fun b o e n ne => k b o (h b o e n ne) n ne
theorem KN.same {r : Addr} {A B : Hp} (s : Same A B) : KN r A B := fun b o e _ _ => s b o e
theorem KN.ext {r : Addr} {A B : Hp} (s : ExtN A B) : KN r A B := fun b o e n _ => s b o e n
theorem KN.upd {r : Addr} {A : Hp} {o : HO} : KN r A (upd A r o) := fun b u e _ ne => by rw [upd_ne ne]; exact e
theorem KN.tup {r b : Addr} {A B : Hp} {xs : List V} (k : KN r A B) {ys : List V} (hr : A r = some (.lst ys)) (e : A b = some (.tup xs)) : B b = some (.tup xs) := k b _ e (fun _ q => nomatch q) (ne_of e hr (by intro q; cases q))
theorem DyL.kn {r l : Addr} {A B : Hp} {ys : List Dy} {zs : List V} (h : DyL A l ys) (k : KN r A B) (hr : A r = some (.lst zs)) (n : l ≠ r) : DyL B l ys :=
  ⟨k _ _ h.1 (fun _ q => nomatch q) n, fun d hd => let o := h.2 d hd; ⟨k.tup hr o.t, k.tup hr o.r, k.tup hr o.b, o.nd, o.ne, o.l12, o.lb, o.bn, o.bs, o.bne⟩⟩
theorem tabs_l {T : List (Addr × Str)} {H : Hp} {l : Addr} {xs ys : List V} (t : Tabs T H) (hl : H l = some (.lst xs)) : Tabs T (upd H l (.lst ys)) := by
  intro p hp
  obtain ⟨q, hq, tq, cq⟩ := t p hp
  refine ⟨q, by rw [upd_ne (ne_of hq hl (by intro z; cases z))]; exact hq, tq, fun pos cv h => ?_⟩
  obtain ⟨c, e, hc⟩ := cq pos cv h
  exact ⟨c, e, by rw [upd_ne (ne_of hc hl (by unfold CodeO; intro z; cases z))]; exact hc⟩
section
variable {P : Program} {w : World} {K : PySem.W.Frag} {mg : Str → Option Value} {base : Heap} {f fG : Addr} {fd fdG : FuncData}
/-- the drivers told so far keep to the days and the bounds -/
structure Dr (ys : List Dy) (L : List Str) (M : Str → Int) (ds : List Str) : Prop where
  fit : FW.Fits (abl ys) ds
  le : ∀ x ∈ L, ((ds.count x : Nat) : Int) ≤ M x
/-- W in its order -/
def Srd (ws W : List Str) : Prop := ws.Perm W ∧ ws.Pairwise SRT.leS
/-- nobody is left who may take over -/
structure Crowd (ys : List Dy) (L : List Str) (M : Str → Int) (ds W : List Str) (y : Dy) : Prop where
  dr : Dr ys L M ds
  at_ : ys[ds.length]? = some y
  nd : W.Nodup
  sub : ∀ x ∈ W, x ∈ L
  st : ∀ x ∈ y.B, x ∈ W
  shut : FW.Shut true (abl ys) ds W
  full : ∀ x ∈ W, M x ≤ ((ds.count x : Nat) : Int)
def spFi (K : PySem.W.Frag) : Sp := fun vs H Q _ => ∃ (l r m : Addr) (ys : List Dy) (L : List Str) (M : Str → Int), vs = [.ref l, .ref r, .ref m] ∧ DyL H l ys ∧ ys.length ≤ 60 ∧ H r = some (.lst []) ∧ l ≠ r ∧ H m = some (.dK (L.map fun x => ((Sum.inr x : Key), V.int (M x)))) ∧ L.Nodup ∧ L.length ≤ 40 ∧
  (∀ y ∈ ys, ∀ x ∈ y.B, x ∈ L) ∧ (∀ x ∈ L, 0 ≤ M x) ∧ Tabs (T0 K) H ∧
  (∀ (ds : List Str) (H' : Hp), KN r H H' → Tabs (T0 K) H' → H' r = some (.lst (ds.map V.str)) → Dr ys L M ds → ds.length = ys.length → Q .non H') ∧
  ∀ (t : Addr) (ds W ws : List Str) (y : Dy) (H' : Hp), KN r H H' → Tabs (T0 K) H' → H' t = some (.tup (ws.map V.str)) → Srd ws W → Crowd ys L M ds W y → Q (.ref t) H'
theorem ok_fi (F : Dn K d_fill_days (He.fAd K ("fill_days", none)) fd) (b : Bl mg) (bs : mg "sorted" = none) (bt : mg "tuple" = none) (TB : TabB base mg (He.cT K ("fill_days", none)).1 (He.cT K ("fill_days", none)).2) (dT : (He.cT K ("raise_to_leasts", none)).2 ≠ (He.cT K ("fill_days", none)).2)
    (FG : Dn K d_find_way fG fdG) (gG : mg "find_way" = some (.ref fG)) (kG : PySem.W.keepIn K (.ref fG) = true) (bG : Binds K fdG ["starts", "goals", "steps"] []) (cDg : Cal P w K mg base 1 "drives_given" (spDg true) []) (cPa : Cal P w K mg base 1 "pass_along" spPa []) :
    FnOk P w K mg base CX0 6 (He.fAd K ("fill_days", none)) fd ["days", "drivers", "mosts"] (spFi K) := by
  refine okT F sc_fill_days (fun vs H Q E h => ?_) (fun A outer s H vs Q E hr h => ?_)
  · obtain ⟨_, _, _, _, _, _, rfl, _⟩ := h
    rfl
  · obtain ⟨l, r, m, ys, L, M, rfl, hl, ly, hrr, lr, hm, nd, lL, sub, m0, tabs, hQ1, hQ2⟩ := h
    obtain ⟨ocG, odG, dVG, kVG, docG, pmG, anG, cdvG, ctG, oslG, rfl, lkG, hcG, _, _⟩ := FG.ex
    have hu := hu_of hr
    refine ⟨_, PSs.nox (pss_cons (ps_for PassesOwn.never rfl (pi_list (pv 0)) (pg_tup rfl (pgs_cons (pg_name (i := 3) sc_fill_days.nd rfl (.inl rfl)) (pgs_cons (pg_name (i := 4) sc_fill_days.nd rfl (.inl rfl)) pgs_nil)))
        (C8.pss_cut (ps_lock (ps_setLc (i := 5) (own := [("name", 8)]) (g := gName 8) (tt := tTest (tOp (rI0 fun i j => .bl (decide (i < j))) (tBM K "list" (CS.rCntS K) (tVar 1) (tCons (tVar 8) tNil)) (tDGet (tVar 2) (tVar 8)))) rfl sc_fill_days.nd rfl rfl (sw_true rfl rfl rfl (by decide +kernel)) (pi_keys (pv 2)) (blkOk_by (N := N_fill_days) (sc := defScope s_fill_days) (by decide +kernel))
            (fun _ _ _ _ _ => pg_name (i := 8) sc_fill_days.nd rfl (.inl rfl)) (fun _ _ _ _ _ => pts_one (pt_cmpR op_lt (pe_cntS (pv 1) (pv 8)) (pe_dget hu (pv 2) (pv 8) (fun _ _ => rfl)) (nomark _))) (fun _ _ _ _ _ => pv 8)))
        (C8.pss_cut (ps_asg (LMP.pe_lamP (T := T0 K) (k := 2) (js := [0, 1]) (Nl := ["name", "days", "drivers"]) (pps := ["name"]) (fr := ["days", "drivers"]) rfl gG kG lkG hcG bG sc_find_way rfl (.inl rfl) (fw_gives b (hr.mono (by decide))) TB rfl List.mem_cons_self (oneF dT) (hr.mono (by decide)) (pv 4) (pv 5)
              (NdefX.nscope_by (by decide +kernel)) (NdefX.ndef_free (sc := d_fill_days.scope) (fr := ["days", "drivers"]) (by decide +kernel)) (NdefX.ndef_fr (sc := d_fill_days.scope) (fr := ["days", "drivers"]) (by decide +kernel)) rfl rfl (fun _ _ _ _ _ us h => match us, h with | [_], _ => rfl)
              (fun A' outer' s1 H1 cl lf lc r => pe_c cDg r (by decide) rfl (pa_cons (pv 1) (pa_cons (pv 2) (pa_cons (pv 0) pa_nil)))))
            (pg_tup rfl (pgs_cons (pg_name (i := 6) sc_fill_days.nd rfl (.inl rfl)) (pgs_cons (pg_name (i := 7) sc_fill_days.nd rfl (.inl rfl)) pgs_nil))))
        (pss_cons (ps_if (pt_cmpR op_isN1 (pv 7) pe_non (nomark _)) (pss_one (ps_ret (pe_callTy call_tuple_of rfl bt boot_tuple (pa_cons (pe_callB (call_sortedD rfl) rfl bs boot_sorted (pa_cons (pv 6) pa_nil)) pa_nil)))) pss_nil)
        (pss_one (ps_expr (pe_bm PySem.F.plainAttrs_list PySem.F.slot_list_append PySem.F.type_list_append mt_append (pv 1) (pa_cons (pe_c cPa hr (by decide) rfl (pa_cons (pv 1) (pa_cons (pv 6) (pa_cons (pv 7) pa_nil)))) pa_nil))))))))
      (pss_one (ps_ret pe_non))), ?_⟩
    have mr : m ≠ r := (ne_of hrr hm (by intro q; cases q)).symm
    have kn0 : KN r H H := fun b o e _ _ => e
    refine ⟨_, rfl, l, rfl, ⟨_, SqL.of hl.1⟩, for_list (K := K) (xs := ys.map fun d => V.ref d.a) (fun i σ H' => ∃ (v3 v4 v5 v6 v7 v8 : Option V) (ds : List Str), σ = [some (.ref l), some (.ref r), some (.ref m), v3, v4, v5, v6, v7, v8] ∧ KN r H H' ∧ Tabs (T0 K) H' ∧ H' r = some (.lst (ds.map V.str)) ∧ Dr ys L M ds ∧ ds.length = i)
      ⟨_, _, _, _, _, _, [], rfl, kn0, tabs, hrr, ⟨⟨Nat.zero_le _, fun k d a h => by cases h⟩, fun x hx => m0 x hx⟩, rfl⟩ (fun i σ H' _ z => by obtain ⟨_, _, _, _, _, _, _, _, k, _⟩ := z; exact SqL.of (k _ _ hl.1 (fun _ q => nomatch q) lr)) ?_ ?_⟩
    · rintro i v σ H3 hi ⟨v3, v4, v5, v6, v7, v8, ds, rfl, k3, t3, hr3, dr, dl⟩
      rw [List.getElem?_map] at hi
      obtain ⟨y, hy, rfl⟩ := Option.map_eq_some_iff.mp hi
      have hym := List.mem_of_getElem? hy
      have il := (List.getElem?_eq_some_iff.mp hy).1
      have oy := (hl.kn k3 hrr lr).2 y hym
      have hA : (abl ys)[ds.length]? = some y.B := by rw [dl, List.getElem?_map, hy]; rfl
      refine ⟨y.a, _, rfl, SqT.of oy.t, rfl, _, _, rfl, _, _, rfl, rfl, ?_⟩
      have hm3 := k3 _ _ hm (fun _ q => nomatch q) mr
      obtain ⟨p, hp⟩ : ∃ p : Str → Bool, p = fun x => decide (((ds.count x : Nat) : Int) < M x) := ⟨_, rfl⟩
      -- whom to look for
      refine ⟨fun σ' H' => ∃ (gl : Addr) (w8 : Option V), σ' = [some (.ref l), some (.ref r), some (.ref m), some (.ref y.ra), some (.ref y.ba), some (.ref gl), v6, v7, w8] ∧ Same H3 H' ∧ H' gl = some (.lst ((L.filter p).map V.str)), ?_, ?_⟩
      · refine ⟨m, _, hm3, trivial, fun od => ?_⟩
        obtain ⟨kp1, new1, back1⟩ := lockU hm3 od
        have hm1 : (upd H3 m (.frz od (.dK (L.map fun x => ((Sum.inr x : Key), V.int (M x)))))) m = some (.frz od (.dK (L.map fun x => ((Sum.inr x : Key), V.int (M x))))) := upd_same
        have hr1 := kp1 _ _ hr3 mr.symm
        generalize upd H3 m (.frz od (.dK (L.map fun x => ((Sum.inr x : Key), V.int (M x))))) = H4 at kp1 new1 back1 hm1 hr1 ⊢
        refine ⟨_, rfl, m, od, rfl, .inl ⟨_, hm1, fun D hD => lc_it walk_keys (fun j H2 => H2 D = some (.lst (((L.take j).filter p).map V.str)) ∧ Same H4 H2) ⟨upd_same, same_new hD⟩ (fun j H2 _ z => z.2 _ _ hm1) ?_ ?_⟩⟩
        · rintro j x H5 H6 hj ⟨hD5, s5⟩ ⟨eH, kk, v, hkk, rfl⟩
          have eH := eH.symm
          subst eH
          rw [List.getElem?_map] at hkk
          obtain ⟨z, hz0, e0⟩ := Option.map_eq_some_iff.mp hkk
          cases e0
          have hzL := List.mem_of_getElem? hz0
          have jl := (List.getElem?_eq_some_iff.mp hz0).1
          refine ⟨rfl, ?_⟩
          have dg : DGet H5 m (.str z) (some (.int (M z))) := .inl ⟨_, Sum.inr z, .inr ⟨od, s5 _ _ hm1⟩, rfl, (val_at (f := fun x => V.int (M x)) hzL).symm⟩
          refine ⟨_, rfl, .inl ⟨rfl, _, SqL.of (s5 _ _ hr1)⟩, _, rfl, r, ds, z, rfl, rfl, SqL.of (s5 _ _ hr1), _, rfl, _, rfl, m, _, rfl, dg, _, _, rfl, rfl, _, rfl, ?_⟩
          have et : (L.take (j + 1)).filter p = (L.take j).filter p ++ [z].filter p := by
            rw [List.take_add_one, hz0, ← List.filter_append]
            rfl
          refine ite2 (fun c => ?_) (fun c => ?_)
          · have c : p z = true := by rw [hp]; exact c
            refine ⟨_, rfl, _, hD5, ?_, ?_, fun b o e => ?_⟩
            · rw [List.length_map]
              have h1 := List.length_filter_le p (L.take j)
              rw [List.length_take] at h1
              exact Nat.lt_of_le_of_lt (by omega : _ ≤ 41) (by decide)
            · rw [upd_same, et, List.filter_cons, if_pos c, List.map_append]
              rfl
            · rw [upd_ne (ne_of_none e hD)]
              exact s5 _ _ e
          · have c : ¬ p z = true := by rw [hp]; exact c
            refine ⟨?_, s5⟩
            rw [et, List.filter_cons, if_neg c]
            rw [List.filter_nil, List.append_nil]
            exact hD5
        · rintro H5 ⟨hD5, s5⟩
          rw [List.length_map, List.take_length] at hD5
          refine ⟨s5 _ _ hm1, D, _, rfl, back1 H5 s5, ?_⟩
          rw [upd_ne (new1 D hD).2]
          exact hD5
      rintro σ' H4 ⟨gl, w8, rfl, s4, hG⟩
      -- the way
      refine ⟨fun σ' H' => ∃ (D W : Addr) (rows : List Cm) (e : Option Str), σ' = [some (.ref l), some (.ref r), some (.ref m), some (.ref y.ra), some (.ref y.ba), some (.ref gl), some (.ref D), some (endV e), w8] ∧ KN r H H' ∧ Tabs (T0 K) H' ∧ H' r = some (.lst (ds.map V.str)) ∧ CmOk H' D W rows ∧ Cn (fun x => stps true (abl ys) ds x ds.length) y.B rows ∧ (∀ q ∈ rows, q.x ∈ L) ∧ EndOk (fun x => stps true (abl ys) ds x ds.length) (L.filter p) rows e, ?_, ?_⟩
      · refine ⟨_, rfl, _, rfl, t3.ext s4, fun H5 e5 t5 => ?_⟩
        have k5 : KN r H H5 := (k3.trans (KN.same s4)).trans (KN.ext e5)
        have oy5 := (hl.kn k5 hrr lr).2 y hym
        have hG5 := e5 _ _ hG (fun _ q => nomatch q)
        have hr5 := e5 _ _ (s4 _ _ hr3) (fun _ q => nomatch q)
        refine ⟨y.ba, gl, y.B, L.filter p, L, fun x => stps true (abl ys) ds x ds.length, rfl, .inr oy5.b, hG5, oy.bn, sub y hym, lL, fun x hx z hz => ?_, fun x hx => ?_, fun x hx H6 Q1 s6 hq => ?_, fun t D W rows e H6 s6 ht c6 fD fW cn u6 en => ?_⟩
        · obtain ⟨o, d, tk⟩ := z
          obtain ⟨h1, h2, a, h3, h4⟩ := mem_stps.mp hz
          rw [if_pos rfl] at h2
          subst h2
          obtain ⟨q, hq, rfl⟩ := List.mem_map.mp (List.mem_of_getElem? h3)
          exact sub q hq _ h4
        · have := stps_len (g := true) (A := abl ys) (ds := ds) (x := x) (fun a ha => by
            obtain ⟨q, hq, rfl⟩ := List.mem_map.mp ha
            exact ((hl.kn k3 hrr lr).2 q hq).lb) ds.length
          show (stps true (abl ys) ds x ds.length).length ≤ 720
          omega
        · have k6 := k5.trans (KN.same s6)
          exact ⟨_, rfl, _, rfl, _, rfl, l, r, x, ys, ds, rfl, hl.kn k6 hrr lr, s6 _ _ hr5, by omega, ly, fun o H7 s7 fo ht => hq o H7 s7 fo ht⟩
        · refine ⟨t, _, rfl, SqT.of ht, rfl, _, _, rfl, _, _, rfl, rfl, ?_⟩
          exact ⟨D, W, rows, e, rfl, k5.trans (KN.same s6), t5.ext s6, s6 _ _ hr5, c6, cn, u6, en⟩
      rintro σ' H5 ⟨D, W, rows, e, rfl, k5, t5, hr5, c5, cn, u5, en⟩
      have few : rows.length ≤ 40 := by
        have := few_of cn.nd (m := L) fun x hx => by
          obtain ⟨q, hq, rfl⟩ := List.mem_map.mp hx
          exact u5 q hq
        rw [List.length_map] at this
        omega
      cases e with
      | none =>
        refine ⟨_, rfl, rfl, _, rfl, ?_⟩
        refine iteT ?_
        refine ⟨_, rfl, D, _, nm rows, rfl, .inl c5.d, by unfold kvC nm; rw [List.map_map, List.map_map]; rfl, by rw [List.length_map]; omega, fun ws q pm so fq => ?_⟩
        have sq := same_new (o := .lst (ws.map V.str)) fq
        refine ⟨q, _, rfl, .inl ⟨SqL.of upd_same, fun t ft => ?_⟩⟩
        have st := same_new (o := .tup (ws.map V.str)) ft
        refine hQ2 t ds (nm rows) ws y _ ((k5.trans (KN.same sq)).trans (KN.same st)) ((t5.ext sq).ext st) upd_same ⟨pm, IO.sorted_pw so⟩ ⟨dr, by rw [dl]; exact hy, cn.nd, fun x hx => ?_, cn.sr, fun x hx o d tk hs => ?_, fun x hx => ?_⟩
        · obtain ⟨q, hq, rfl⟩ := List.mem_map.mp hx
          exact u5 q hq
        · obtain ⟨q, hq, rfl⟩ := List.mem_map.mp hx
          exact (en q hq).2 (o, d, tk) (mem_stps.mpr hs)
        · obtain ⟨q, hq, rfl⟩ := List.mem_map.mp hx
          have := (en q hq).1
          rw [List.mem_filter, hp] at this
          have h2 : ¬ ((ds.count q.x : Nat) : Int) < M q.x := fun z => this ⟨u5 q hq, decide_eq_true z⟩
          omega
      | some x =>
        refine ⟨_, rfl, rfl, _, rfl, ?_⟩
        refine iteF ?_
        refine ⟨_, rfl, .inl ⟨rfl, _, SqL.of hr5⟩, _, rfl, _, rfl, _, rfl, r, D, W, x, rows, true, abl ys, ds, y.B, rfl, hr5, c5, cn, few, by omega, dr.fit, en.1, fun z ds' hz wi => ?_⟩
        have l' := wi.len
        refine ⟨r, _, _, rfl, rfl, upd_same, by rw [List.length_map]; exact Nat.lt_of_le_of_lt (by omega : _ ≤ 60) (by decide), ?_⟩
        refine ⟨_, _, _, _, _, _, ds' ++ [z], rfl, (k5.trans KN.upd).trans KN.upd, tabs_l (tabs_l t5 hr5) upd_same, by rw [upd_same, List.map_append]; rfl, ⟨wi.fit.snoc (by rw [l']; exact hA) hz, fun q hq => ?_⟩, by rw [List.length_append, l', dl]; rfl⟩
        have c1 := wi.cnt q
        rw [if_pos rfl] at c1
        rw [FW.count_app, c1]
        have c2 := dr.le q hq
        by_cases e : q = x
        · have xg := en.2
          rw [List.mem_filter, hp] at xg
          have xg := of_decide_eq_true xg.2
          unfold FW.one
          rw [if_pos e, e]
          omega
        · unfold FW.one
          rw [if_neg e]
          omega
    · rintro σ H3 ⟨v3, v4, v5, v6, v7, v8, ds, rfl, k3, t3, hr3, dr, dl⟩
      rw [List.length_map] at dl
      exact hQ1 ds H3 k3 t3 hr3 dr dl
end
end K52
set_option Elab.async false
set_option linter.all false
set_option maxRecDepth 100000
set_option maxHeartbeats 4000000
namespace K52
open PySem PySem.Spec PyProof.Rows L2
open C8 (Cal Mak Met pe_c pe_mk pe_mt pe_mt0)
open LamX (Tabs ExtN TabB CodeO)
section
variable {P : Program} {w : World} {K : PySem.W.Frag} {mg : Str → Option Value} {base : Heap} {f fG : Addr} {fd fdG : FuncData}
def cntV (vs : List V) (x : Str) : Nat := vs.countP fun v => decide (v = .str x)
theorem cntV_strs (x : Str) : ∀ ds : List Str, cntV (ds.map V.str) x = ds.count x
  | [] => rfl
  | y :: ds => by
    have ih := cntV_strs x ds
    unfold cntV at ih ⊢
    rw [List.map_cons, List.countP_cons, List.count_cons, ih]
    by_cases e : y = x
    · subst e
      simp
    · have e2 : ¬ V.str y = V.str x := fun z => e (by cases z; rfl)
      simp [e, e2]
/-- nobody is left who may give a drive -/
structure Few (ys : List Dy) (L : List Str) (M N : Str → Int) (ds W : List Str) (x : Str) : Prop where
  dr : Dr ys L M ds
  len : ds.length = ys.length
  nd : W.Nodup
  sub : ∀ z ∈ W, z ∈ L
  mem : x ∈ W
  shut : FW.Shut false (abl ys) ds W
  few : ∀ z ∈ W, ((ds.count z : Nat) : Int) ≤ N z
  less : ((ds.count x : Nat) : Int) < N x
def spRl (K : PySem.W.Frag) : Sp := fun vs H Q _ => ∃ (l r m : Addr) (ys : List Dy) (L : List Str) (M N : Str → Int) (ds0 : List Str), vs = [.ref l, .ref r, .ref m] ∧ DyL H l ys ∧ ys.length ≤ 60 ∧ H r = some (.lst (ds0.map V.str)) ∧ l ≠ r ∧ H m = some (.dK (L.map fun x => ((Sum.inr x : Key), V.int (N x)))) ∧ L.Nodup ∧ L.length ≤ 40 ∧
  (∀ y ∈ ys, ∀ x ∈ y.B, x ∈ L) ∧ (∀ x ∈ L, N x ≤ M x) ∧ Dr ys L M ds0 ∧ ds0.length = ys.length ∧ Tabs (T0 K) H ∧
  (∀ (ds : List Str) (H' : Hp), KN r H H' → Tabs (T0 K) H' → H' r = some (.lst (ds.map V.str)) → Dr ys L M ds → ds.length = ys.length → (∀ x ∈ L, N x ≤ ((ds.count x : Nat) : Int)) → Q .non H') ∧
  ∀ (t : Addr) (ds W ws : List Str) (x : Str) (H' : Hp), KN r H H' → Tabs (T0 K) H' → H' t = some (.tup (ws.map V.str)) → Srd ws W → Few ys L M N ds W x → Q (.ref t) H'
theorem ok_rl (F : Dn K d_raise_to_leasts (He.fAd K ("raise_to_leasts", none)) fd) (b : Bl mg) (bs : mg "sorted" = none) (bt : mg "tuple" = none) (TB : TabB base mg (He.cT K ("raise_to_leasts", none)).1 (He.cT K ("raise_to_leasts", none)).2) (dT : (He.cT K ("raise_to_leasts", none)).2 ≠ (He.cT K ("fill_days", none)).2)
    (FG : Dn K d_find_way fG fdG) (gG : mg "find_way" = some (.ref fG)) (kG : PySem.W.keepIn K (.ref fG) = true) (bG : Binds K fdG ["starts", "goals", "steps"] []) (cDt : Cal P w K mg base 1 "drives_taken" (spDg false) []) (cPa : Cal P w K mg base 1 "pass_along" spPa []) :
    FnOk P w K mg base CX0 6 (He.fAd K ("raise_to_leasts", none)) fd ["days", "drivers", "leasts"] (spRl K) := by
  refine okT F sc_raise_to_leasts (fun vs H Q E h => ?_) (fun A outer s H vs Q E hr h => ?_)
  · obtain ⟨_, _, _, _, _, _, _, _, rfl, _⟩ := h
    rfl
  · obtain ⟨l, r, m, ys, L, M, N, ds0, rfl, hl, ly, hrr, lr, hm, nd, lL, sub, NM, dr0, dl0, tabs, hQ1, hQ2⟩ := h
    obtain ⟨ocG, odG, dVG, kVG, docG, pmG, anG, cdvG, ctG, oslG, rfl, lkG, hcG, _, _⟩ := FG.ex
    have hu := hu_of hr
    refine ⟨_, PSs.nox (pss_cons (ps_for PassesOwn.never rfl (pi_list (pe_callB (call_sortedD rfl) rfl bs boot_sorted (pa_cons (pv 2) pa_nil))) (pg_name (i := 3) sc_raise_to_leasts.nd rfl (.inl rfl))
        (pss_one (ps_while PassesOwn.never (pt_cmpR op_lt (pe_cntS (pv 1) (pv 3)) (pe_dget hu (pv 2) (pv 3) (fun _ _ => rfl)) (nomark _))
        (C8.pss_cut (ps_lock (ps_setLc (i := 4) (own := [("one", 7)]) (g := gName 7) (tt := tTest (tOp (rI0 fun i j => .bl (decide (j < i))) (tBM K "list" (CS.rCntS K) (tVar 1) (tCons (tVar 7) tNil)) (tDGet (tVar 2) (tVar 7)))) rfl sc_raise_to_leasts.nd rfl rfl (sw_true rfl rfl rfl (by decide +kernel)) (pi_keys (pv 2)) (blkOk_by (N := N_raise_to_leasts) (sc := defScope s_raise_to_leasts) (by decide +kernel))
            (fun _ _ _ _ _ => pg_name (i := 7) sc_raise_to_leasts.nd rfl (.inl rfl)) (fun _ _ _ _ _ => pts_one (pt_cmpR op_gt (pe_cntS (pv 1) (pv 7)) (pe_dget hu (pv 2) (pv 7) (fun _ _ => rfl)) (nomark _))) (fun _ _ _ _ _ => pv 7)))
        (C8.pss_cut (ps_asg (LMP.pe_lamP (T := T0 K) (k := 2) (js := [0, 1]) (Nl := ["one", "days", "drivers"]) (pps := ["one"]) (fr := ["days", "drivers"]) rfl gG kG lkG hcG bG sc_find_way rfl (.inl rfl) (fw_gives b (hr.mono (by decide))) TB rfl (List.mem_cons_of_mem _ (List.mem_singleton.mpr rfl)) (oneR dT) (hr.mono (by decide)) (pe_lst (pa_cons (pv 3) pa_nil)) (pv 4)
              (NdefX.nscope_by (by decide +kernel)) (NdefX.ndef_free (sc := d_raise_to_leasts.scope) (fr := ["days", "drivers"]) (by decide +kernel)) (NdefX.ndef_fr (sc := d_raise_to_leasts.scope) (fr := ["days", "drivers"]) (by decide +kernel)) rfl rfl (fun _ _ _ _ _ us h => match us, h with | [_], _ => rfl)
              (fun A' outer' s1 H1 cl lf lc r => pe_c cDt r (by decide) rfl (pa_cons (pv 1) (pa_cons (pv 2) (pa_cons (pv 0) pa_nil)))))
            (pg_tup rfl (pgs_cons (pg_name (i := 5) sc_raise_to_leasts.nd rfl (.inl rfl)) (pgs_cons (pg_name (i := 6) sc_raise_to_leasts.nd rfl (.inl rfl)) pgs_nil))))
        (pss_cons (ps_if (pt_cmpR op_isN1 (pv 6) pe_non (nomark _)) (pss_one (ps_ret (pe_callTy call_tuple_of rfl bt boot_tuple (pa_cons (pe_callB (call_sortedD rfl) rfl bs boot_sorted (pa_cons (pv 5) pa_nil)) pa_nil)))) pss_nil)
        (pss_one (ps_expr (pe_c cPa hr (by decide) rfl (pa_cons (pv 1) (pa_cons (pv 5) (pa_cons (pv 6) pa_nil))))))))))))
      (pss_one (ps_ret pe_non))), ?_⟩
    have mr : m ≠ r := (ne_of hrr hm (by intro q; cases q)).symm
    refine ⟨_, rfl, m, _, L, rfl, .inl hm, by rw [List.map_map]; rfl, by omega, fun ns q pm so fq => ?_⟩
    have sq := same_new (o := .lst (ns.map V.str)) fq
    have qr : q ≠ r := (ne_of_none hrr fq).symm
    have hq1 : (upd H q (.lst (ns.map V.str))) q = some (.lst (ns.map V.str)) := upd_same
    have hr1 := sq _ _ hrr
    have t1 := tabs.ext sq
    have kn1 : KN r H (upd H q (.lst (ns.map V.str))) := KN.same sq
    generalize upd H q (.lst (ns.map V.str)) = H1 at hq1 hr1 t1 kn1 ⊢
    refine ⟨q, rfl, ⟨_, SqL.of hq1⟩, for_list (K := K) (xs := ns.map V.str) (fun i σ H' => ∃ (v3 v4 v5 v6 v7 : Option V) (ds : List Str), σ = [some (.ref l), some (.ref r), some (.ref m), v3, v4, v5, v6, v7] ∧ KN r H H' ∧ Tabs (T0 K) H' ∧ H' r = some (.lst (ds.map V.str)) ∧ Dr ys L M ds ∧ ds.length = ys.length ∧ H' q = some (.lst (ns.map V.str)) ∧ ∀ x ∈ ns.take i, N x ≤ ((ds.count x : Nat) : Int))
      ⟨_, _, _, _, _, ds0, rfl, kn1, t1, hr1, dr0, dl0, hq1, fun x hx => by simp at hx⟩ (fun i σ H' _ z => by obtain ⟨_, _, _, _, _, _, _, _, _, _, _, _, z, _⟩ := z; exact SqL.of z) ?_ ?_⟩
    · rintro i v σ H2 hi ⟨v3, v4, v5, v6, v7, ds, rfl, k2, t2, hr2, dr, dl, hq2, done⟩
      obtain ⟨x, hx, rfl⟩ := sat_ hi
      have hxL : x ∈ L := pm.mem_iff.mp (List.mem_of_getElem? hx)
      have dgT : ∀ {H' : Hp} {z : Str}, H' m = some (.dK (L.map fun x => ((Sum.inr x : Key), V.int (N x)))) → z ∈ L → DGet H' m (.str z) (some (.int (N z))) := fun {H' z} e hz => .inl ⟨_, Sum.inr z, .inl e, rfl, (val_at (f := fun x => V.int (N x)) hz).symm⟩
      refine while_by (fun σ' H' => ∃ (v4 v5 v6 v7 : Option V) (ds : List Str), σ' = [some (.ref l), some (.ref r), some (.ref m), some (.str x), v4, v5, v6, v7] ∧ KN r H H' ∧ Tabs (T0 K) H' ∧ H' r = some (.lst (ds.map V.str)) ∧ Dr ys L M ds ∧ ds.length = ys.length ∧ H' q = some (.lst (ns.map V.str)) ∧ ∀ x ∈ ns.take i, N x ≤ ((ds.count x : Nat) : Int))
        (fun _ H' => match H' r with | some (.lst vs) => (N x - (cntV vs x : Nat)).toNat | _ => 0) ⟨_, _, _, _, ds, rfl, k2, t2, hr2, dr, dl, hq2, done⟩ ?_ ?_
      · rintro σ' H3 ⟨v4, v5, v6, v7, ds, rfl, k3, t3, hr3, dr, dl, hq3, done⟩
        have hm3 := k3 _ _ hm (fun _ q => nomatch q) mr
        refine ⟨_, rfl, .inl ⟨rfl, _, SqL.of hr3⟩, _, rfl, r, ds, x, rfl, rfl, SqL.of hr3, _, rfl, _, rfl, m, _, rfl, dgT hm3 hxL, _, _, rfl, rfl, _, rfl, ?_⟩
        have mu3 : (match H3 r with | some (.lst vs) => (N x - (cntV vs x : Nat)).toNat | _ => 0) = (N x - (ds.count x : Nat)).toNat := by
          rw [hr3]
          show (N x - (cntV (ds.map V.str) x : Nat)).toNat = _
          rw [cntV_strs]
        refine ite2 (fun c1 => ?_) (fun c1 => ?_)
        · have c1 := of_decide_eq_true c1
          obtain ⟨p, hp⟩ : ∃ p : Str → Bool, p = fun x => decide (N x < ((ds.count x : Nat) : Int)) := ⟨_, rfl⟩
          -- whom to look for
          refine ⟨fun σ' H' => ∃ (gl : Addr) (w7 : Option V), σ' = [some (.ref l), some (.ref r), some (.ref m), some (.str x), some (.ref gl), v5, v6, w7] ∧ Same H3 H' ∧ H' gl = some (.lst ((L.filter p).map V.str)), ?_, ?_⟩
          · refine ⟨m, _, hm3, trivial, fun od => ?_⟩
            obtain ⟨kp1, new1, back1⟩ := lockU hm3 od
            have hm1 : (upd H3 m (.frz od (.dK (L.map fun x => ((Sum.inr x : Key), V.int (N x)))))) m = some (.frz od (.dK (L.map fun x => ((Sum.inr x : Key), V.int (N x))))) := upd_same
            have hr1 := kp1 _ _ hr3 mr.symm
            generalize upd H3 m (.frz od (.dK (L.map fun x => ((Sum.inr x : Key), V.int (N x))))) = H4 at kp1 new1 back1 hm1 hr1 ⊢
            refine ⟨_, rfl, m, od, rfl, .inl ⟨_, hm1, fun D hD => lc_it walk_keys (fun j H2 => H2 D = some (.lst (((L.take j).filter p).map V.str)) ∧ Same H4 H2) ⟨upd_same, same_new hD⟩ (fun j H2 _ z => z.2 _ _ hm1) ?_ ?_⟩⟩
            · rintro j y H5 H6 hj ⟨hD5, s5⟩ ⟨eH, kk, v, hkk, rfl⟩
              have eH := eH.symm
              subst eH
              rw [List.getElem?_map] at hkk
              obtain ⟨z, hz0, e0⟩ := Option.map_eq_some_iff.mp hkk
              cases e0
              have hzL := List.mem_of_getElem? hz0
              have jl := (List.getElem?_eq_some_iff.mp hz0).1
              refine ⟨rfl, ?_⟩
              have dg : DGet H5 m (.str z) (some (.int (N z))) := .inl ⟨_, Sum.inr z, .inr ⟨od, s5 _ _ hm1⟩, rfl, (val_at (f := fun x => V.int (N x)) hzL).symm⟩
              refine ⟨_, rfl, .inl ⟨rfl, _, SqL.of (s5 _ _ hr1)⟩, _, rfl, r, ds, z, rfl, rfl, SqL.of (s5 _ _ hr1), _, rfl, _, rfl, m, _, rfl, dg, _, _, rfl, rfl, _, rfl, ?_⟩
              have et : (L.take (j + 1)).filter p = (L.take j).filter p ++ [z].filter p := by
                rw [List.take_add_one, hz0, ← List.filter_append]
                rfl
              refine ite2 (fun c => ?_) (fun c => ?_)
              · have c : p z = true := by rw [hp]; exact c
                refine ⟨_, rfl, _, hD5, ?_, ?_, fun b o e => ?_⟩
                · rw [List.length_map]
                  have h1 := List.length_filter_le p (L.take j)
                  rw [List.length_take] at h1
                  exact Nat.lt_of_le_of_lt (by omega : _ ≤ 41) (by decide)
                · rw [upd_same, et, List.filter_cons, if_pos c, List.map_append]
                  rfl
                · rw [upd_ne (ne_of_none e hD)]
                  exact s5 _ _ e
              · have c : ¬ p z = true := by rw [hp]; exact c
                refine ⟨?_, s5⟩
                rw [et, List.filter_cons, if_neg c]
                rw [List.filter_nil, List.append_nil]
                exact hD5
            · rintro H5 ⟨hD5, s5⟩
              rw [List.length_map, List.take_length] at hD5
              refine ⟨s5 _ _ hm1, D, _, rfl, back1 H5 s5, ?_⟩
              rw [upd_ne (new1 D hD).2]
              exact hD5
          rintro σ' H4 ⟨gl, w7, rfl, s4, hG⟩
          -- the way
          refine ⟨fun σ' H' => ∃ (D W : Addr) (rows : List Cm) (e : Option Str), σ' = [some (.ref l), some (.ref r), some (.ref m), some (.str x), some (.ref gl), some (.ref D), some (endV e), w7] ∧ KN r H H' ∧ Tabs (T0 K) H' ∧ H' r = some (.lst (ds.map V.str)) ∧ H' q = some (.lst (ns.map V.str)) ∧ CmOk H' D W rows ∧ Cn (fun x => stps false (abl ys) ds x ds.length) [x] rows ∧ (∀ q ∈ rows, q.x ∈ L) ∧ EndOk (fun x => stps false (abl ys) ds x ds.length) (L.filter p) rows e, ?_, ?_⟩
          · refine ⟨_, rfl, by show 1 ≤ sizeLine; decide, fun sa fsa => ?_⟩
            have ssa := same_new (o := .lst [V.str x]) fsa
            refine ⟨_, rfl, (t3.ext s4).ext ssa, fun H5 e5 t5 => ?_⟩
            have k5 : KN r H H5 := ((k3.trans (KN.same s4)).trans (KN.same ssa)).trans (KN.ext e5)
            have hG5 := e5 _ _ (ssa _ _ hG) (fun _ q => nomatch q)
            have hr5 := e5 _ _ (ssa _ _ (s4 _ _ hr3)) (fun _ q => nomatch q)
            have hq5 := e5 _ _ (ssa _ _ (s4 _ _ hq3)) (fun _ q => nomatch q)
            have hsa5 : H5 sa = some (.lst ([x].map V.str)) := e5 _ _ upd_same (fun _ q => nomatch q)
            refine ⟨sa, gl, [x], L.filter p, L, fun x => stps false (abl ys) ds x ds.length, rfl, .inl hsa5, hG5, by simp, fun z hz => by rw [List.mem_singleton.mp hz]; exact hxL, lL, fun x hx z hz => ?_, fun x hx => ?_, fun x hx H6 Q1 s6 hq => ?_, fun t D W rows e H6 s6 ht c6 fD fW cn u6 en => ?_⟩
            · obtain ⟨o, d, tk⟩ := z
              obtain ⟨h1, h2, a, h3, h4⟩ := mem_stps.mp hz
              rw [if_neg (by decide)] at h1
              have hf := dr.fit.2 d o a h1 h3
              obtain ⟨q, hq, rfl⟩ := List.mem_map.mp (List.mem_of_getElem? h3)
              exact sub q hq _ hf
            · have := stps_len (g := false) (A := abl ys) (ds := ds) (x := x) (fun a ha => by
                obtain ⟨q, hq, rfl⟩ := List.mem_map.mp ha
                exact ((hl.kn k3 hrr lr).2 q hq).lb) ds.length
              show (stps false (abl ys) ds x ds.length).length ≤ 720
              omega
            · have k6 := k5.trans (KN.same s6)
              exact ⟨_, rfl, _, rfl, _, rfl, l, r, x, ys, ds, rfl, hl.kn k6 hrr lr, s6 _ _ hr5, by omega, ly, fun o H7 s7 fo ht => hq o H7 s7 fo ht⟩
            · refine ⟨t, _, rfl, SqT.of ht, rfl, _, _, rfl, _, _, rfl, rfl, ?_⟩
              exact ⟨D, W, rows, e, rfl, k5.trans (KN.same s6), t5.ext s6, s6 _ _ hr5, s6 _ _ hq5, c6, cn, u6, en⟩
          rintro σ' H5 ⟨D, W, rows, e, rfl, k5, t5, hr5, hq5, c5, cn, u5, en⟩
          have few : rows.length ≤ 40 := by
            have := few_of cn.nd (m := L) fun x hx => by
              obtain ⟨q, hq, rfl⟩ := List.mem_map.mp hx
              exact u5 q hq
            rw [List.length_map] at this
            omega
          cases e with
          | none =>
            refine ⟨_, rfl, rfl, _, rfl, ?_⟩
            refine iteT ?_
            refine ⟨_, rfl, D, _, nm rows, rfl, .inl c5.d, by unfold kvC nm; rw [List.map_map, List.map_map]; rfl, by rw [List.length_map]; omega, fun ws q pm so fq => ?_⟩
            have sq := same_new (o := .lst (ws.map V.str)) fq
            refine ⟨q, _, rfl, .inl ⟨SqL.of upd_same, fun t ft => ?_⟩⟩
            have st := same_new (o := .tup (ws.map V.str)) ft
            refine hQ2 t ds (nm rows) ws x _ ((k5.trans (KN.same sq)).trans (KN.same st)) ((t5.ext sq).ext st) upd_same ⟨pm, IO.sorted_pw so⟩ ⟨dr, dl, cn.nd, fun x hx => ?_, cn.sr x (List.mem_singleton.mpr rfl), fun x hx o d tk hs => ?_, fun x hx => ?_, c1⟩
            · obtain ⟨q, hq, rfl⟩ := List.mem_map.mp hx
              exact u5 q hq
            · obtain ⟨q, hq, rfl⟩ := List.mem_map.mp hx
              exact (en q hq).2 (o, d, tk) (mem_stps.mpr hs)
            · obtain ⟨q, hq, rfl⟩ := List.mem_map.mp hx
              have := (en q hq).1
              rw [List.mem_filter, hp] at this
              have h2 : ¬ N q.x < ((ds.count q.x : Nat) : Int) := fun z => this ⟨u5 q hq, decide_eq_true z⟩
              omega
          | some e =>
            refine ⟨_, rfl, rfl, _, rfl, ?_⟩
            refine iteF ?_
            have eg := en.2
            rw [List.mem_filter, hp] at eg
            have eg2 := of_decide_eq_true eg.2
            have xe : x ≠ e := fun z => by rw [z] at c1; omega
            refine ⟨_, rfl, _, rfl, _, rfl, r, D, W, e, rows, false, abl ys, ds, [x], rfl, hr5, c5, cn, few, by omega, dr.fit, en.1, fun z ds' hz wi => ?_⟩
            have hz := List.mem_singleton.mp hz
            subst hz
            have l' := wi.len
            have cq : ∀ y, ((ds'.count y : Nat) : Int) = (ds.count y : Nat) + (FW.one (y = z) - FW.one (y = e)) := fun y => by
              have := wi.cnt y
              rw [if_neg (by decide)] at this
              exact this
            refine ⟨⟨_, _, _, _, ds', rfl, k5.trans KN.upd, tabs_l t5 hr5, upd_same, ⟨wi.fit, fun y hy => ?_⟩, l'.trans dl, by rw [upd_ne qr]; exact hq5, fun y hy => ?_⟩, ?_⟩
            · rw [cq]
              have c2 := dr.le y hy
              have c3 := NM z hxL
              unfold FW.one
              by_cases e1 : y = z
              · rw [if_pos e1, if_neg (fun w => xe (e1.symm.trans w))]
                rw [e1]
                omega
              · rw [if_neg e1]
                split <;> omega
            · rw [cq]
              have c2 := done y hy
              unfold FW.one
              by_cases e1 : y = e
              · rw [if_neg (fun w => xe (w.symm.trans e1)), if_pos e1]
                rw [e1]
                omega
              · rw [if_neg e1]
                split <;> omega
            · rw [mu3]
              show (match (upd H5 r (.lst (ds'.map V.str))) r with | some (.lst vs) => (N z - (cntV vs z : Nat)).toNat | _ => 0) < _
              rw [upd_same]
              show (N z - (cntV (ds'.map V.str) z : Nat)).toNat < _
              rw [cntV_strs]
              have := cq z
              unfold FW.one at this
              rw [if_pos rfl, if_neg xe] at this
              omega
        · have c1 : ¬ ((ds.count x : Nat) : Int) < N x := fun z => c1 (decide_eq_true z)
          refine ⟨_, _, _, _, _, ds, rfl, k3, t3, hr3, dr, dl, hq3, fun y hy => ?_⟩
          rw [List.take_add_one, hx] at hy
          rcases List.mem_append.mp hy with h | h
          · exact done y h
          · have h : y = x := by simpa using h
            rw [h]
            omega
      · intro σ' H' Q1 Q2 hq h
        obtain ⟨v, e1, ty, y, e2, p, bs', z, e3, e4, e5, u, e6, w', e7, a, u2, e8, e9, i, j, e10, e11, b', e12, e13⟩ := h
        exact ⟨v, e1, ty, y, e2, p, bs', z, e3, e4, e5, u, e6, w', e7, a, u2, e8, e9, i, j, e10, e11, b', e12, hq _ _ e13⟩
    · rintro σ H3 ⟨v3, v4, v5, v6, v7, ds, rfl, k3, t3, hr3, dr, dl, hq3, done⟩
      rw [List.length_map, List.take_length] at done
      exact hQ1 ds H3 k3 t3 hr3 dr dl fun x hx => done x (pm.mem_iff.mpr hx)
end
end K52
set_option Elab.async false
set_option linter.all false
set_option maxRecDepth 100000
set_option maxHeartbeats 4000000
namespace K52
open PySem PySem.Spec PyProof.Rows L2
open C8 (Cal Mak Met pe_c pe_mk pe_mt pe_mt0)
open KM (pr Sz)
/-- the whole part -/
def wh (r : Rat) : Int := (pr r).1.fdiv (pr r).2
def lst (w s : Rat) : Int := if 0 < -(wh (s - w)) then -(wh (s - w)) else 0
def mst (w s : Rat) : Int := if 0 < wh (w + s) then wh (w + s) else 0
structure IsI (K : PySem.W.Frag) (C : Addr) : Prop extends IsC K C where
  int : PySem.W.kitOne K (.ref C) (.type "int") = some false
section
variable {P : Program} {w : World} {K : PySem.W.Frag} {mg : Str → Option Value} {base : Heap} {f C : Addr} {fd : FuncData}
def sp_whole (C : Addr) : Sp := fun vs H Q _ => ∃ (p : Addr) (r : Rat) (n : Nat), vs = [.ref p] ∧ Sh C H p (pr r) ∧ Sz n r ∧ 0 < n ∧ n ≤ 4000 ∧ Q (.int (wh r)) H
theorem ok_wholeM (F : Dn K d_Share_whole f fd) (T : Cl K mg C) : FnOk P w K mg base CX0 1 f fd ["self"] (sp_whole C) := by
  refine F.ok sc_Share_whole (fun vs H Q E h => ?_) (fun cdv A outer s H vs Q E hr h => ?_)
  · obtain ⟨p, a, n, rfl, _⟩ := h
    rfl
  · obtain ⟨p, r, n, rfl, ⟨dp, hp⟩, sr, hn0, hn9, hQ⟩ := h
    have ba := bd_of sr
    refine ⟨_, PSs.nox (pss_one (ps_ret (pe_op op_fdW (pe_fld (pv 0) rfl) (pe_fld (pv 0) rfl)))), ?_⟩
    refine ⟨_, rfl, p, C, dp, _, _, rfl, hp, T.cl, T.nt, shF_top _, _, rfl, p, C, dp, _, _, rfl, hp, T.cl, T.nb, shF_bot _, _, _, rfl, rfl, ⟨by have := ba.2.1; omega, log_lt ba.2.2 hn0 (by omega)⟩, hQ⟩
/-- is_whole of a whole number or a Share -/
def spWhS (C : Addr) : Sp := fun vs H Q _ => (∃ n : Int, vs = [.int n] ∧ Q (.bl true) H) ∨ ∃ (p : Addr) (q : Int × Int), vs = [.ref p] ∧ Sh C H p q ∧ Q (.bl false) H
theorem ok_whS (F : Dn K d_is_whole f fd) (b : Bl mg) (T : Cl K mg C) (S : IsI K C) : FnOk P w K mg base CX0 1 f fd ["thing"] (spWhS C) := by
  refine F.ok sc_is_whole (fun vs H Q E h => ?_) (fun cdv A outer s H vs Q E hr h => ?_)
  · rcases h with ⟨n, rfl, _⟩ | ⟨p, q, rfl, _⟩ <;> rfl
  · refine ⟨_, PSs.nox (pss_one (ps_ret (pe_and
      (pe_callB call_isi rfl b.isi boot_isinstance (pa_cons (pv 0) (pa_cons (pe_bltn (v := .ty "int") rfl b.int boot_int rfl) pa_nil)))
      (pe_one (pe_not (pe_callB call_isi rfl b.isi boot_isinstance (pa_cons (pv 0) (pa_cons (pe_bltn (v := .ty "bool") rfl b.bool boot_bool rfl) pa_nil)))))))), ?_⟩
    rcases h with ⟨n, rfl, hQ⟩ | ⟨p, q, rfl, ⟨dp, hp⟩, hQ⟩
    · refine ⟨_, rfl, _, _, _, _, true, rfl, ClsV.ty _, TyX.base (TyOf.int n), kit_ty (by decide +kernel), true, rfl, ?_⟩
      refine iteT ?_
      exact ⟨_, rfl, _, _, _, _, false, rfl, ClsV.ty _, TyX.base (TyOf.int n), kit_ty (by decide +kernel), false, rfl, hQ⟩
    · exact ⟨_, rfl, _, _, _, _, false, rfl, ClsV.ty _, TyX.base (TyOf.ins hp T.cl S.ha S.hn S.htk S.hm), S.int, false, rfl, iteF hQ⟩
/-- the slack, as it is told -/
def Slk (C : Addr) (H : Hp) (v : V) (s : Rat) : Prop := (∃ n : Int, v = .int n ∧ s = Rat.divInt n 1) ∨ ∃ p, v = .ref p ∧ Sh C H p (pr s)
def spSk (C : Addr) : Sp := fun vs H Q _ => ∃ (v : V) (s : Rat), vs = [v] ∧ Slk C H v s ∧ ∀ p H', Same H H' → Sh C H' p (pr s) → Q (.ref p) H'
theorem ok_sk (F : Dn K d_slack_share f fd) (M1 : MakS1 P w K mg base C) (cW : Cal P w K mg base 1 "is_whole" (spWhS C) []) : FnOk P w K mg base CX0 4 f fd ["slack"] (spSk C) := by
  refine F.ok sc_slack_share (fun vs H Q E h => ?_) (fun cdv A outer s H vs Q E hr h => ?_)
  · obtain ⟨v, s, rfl, _⟩ := h
    rfl
  · obtain ⟨v, sl, rfl, hv, hQ⟩ := h
    refine ⟨_, PSs.nox (pss_one (ps_ret (pe_ifExp (pt_val (pe_c cW hr (by decide) rfl (pa_cons (pv 0) pa_nil))) (pe_mk M1 hr (by decide) rfl (pa_cons (pv 0) pa_nil)) (pv 0)))), ?_⟩
    rcases hv with ⟨n, rfl, rfl⟩ | ⟨p, rfl, hp⟩
    · refine ⟨_, rfl, .inl ⟨n, rfl, _, rfl, ?_⟩⟩
      refine iteT ?_
      refine ⟨_, rfl, ?_⟩
      intro x dx nx nd ne
      exact mk_in (n := 1) nx nd (by decide) (by decide) (by decide) (by decide) fun H' k sh => ⟨rfl, hQ x H' k sh⟩
    · refine ⟨_, rfl, .inr ⟨p, _, rfl, hp, _, rfl, ?_⟩⟩
      exact iteF ⟨_, rfl, hQ p H (Same.refl H) hp⟩
def sp2i (C : Addr) (g : Rat → Rat → V) : Sp := fun vs H Q _ => ∃ (p q : Addr) (r s : Rat) (n : Nat), vs = [.ref p, .ref q] ∧ Sh C H p (pr r) ∧ Sh C H q (pr s) ∧ Sz n r ∧ Sz n s ∧ 0 < n ∧ n ≤ 1900 ∧ ∀ H', Same H H' → Q (g r s) H'
theorem sz2 {n : Nat} {r s : Rat} (hr : Sz n r) (hs : Sz n s) : Sz (n + n + 1) (r + s) ∧ Sz (n + n + 1) (r - s) := KM.sz_plus hr hs
theorem ok_lea (F : Dn K d_least_of f fd) (bmx : mg "max" = none) (mL : Met P w K mg base 4 C "less" (sp2 C (· - ·)) []) (mW : Met P w K mg base 1 C "whole" (sp_whole C) []) : FnOk P w K mg base CX0 5 f fd ["want", "slack"] (sp2i C fun r s => .int (lst r s)) := by
  refine F.ok sc_least_of (fun vs H Q E h => ?_) (fun cdv A outer s H vs Q E hr h => ?_)
  · obtain ⟨p, q, r, s, n, rfl, _⟩ := h
    rfl
  · obtain ⟨p, q, r, s, n, rfl, hp, hq, zr, zs, n0, n9, hQ⟩ := h
    refine ⟨_, PSs.nox (pss_one (ps_ret (pe_callB (call_max2 rfl) rfl bmx boot_max (pa_cons pe_int (pa_cons (pe_un un_neg (pe_mt0 mW hr (by decide) (pe_mt mL hr (by decide) (pv 1) (pa_cons (pv 0) pa_nil)))) pa_nil))))), ?_⟩
    obtain ⟨dq, hq1⟩ := id hq
    refine ⟨_, rfl, q, dq, _, rfl, hq1, shF_no _ (by decide +kernel) (by decide +kernel), _, rfl, q, p, s, r, n, rfl, hq, hp, zs, zr, n0, by omega, fun t H3 s3 ft ht => ?_⟩
    obtain ⟨dt, ht1⟩ := id ht
    refine ⟨t, dt, _, rfl, ht1, shF_no _ (by decide +kernel) (by decide +kernel), t, s - r, n + n + 1, rfl, ht, (sz2 zs zr).2, by omega, by omega, ?_⟩
    exact ⟨_, rfl, _, _, rfl, hQ H3 s3⟩
theorem ok_mos (F : Dn K d_most_of f fd) (bmx : mg "max" = none) (mP : Met P w K mg base 4 C "plus" (sp2 C (· + ·)) []) (mW : Met P w K mg base 1 C "whole" (sp_whole C) []) : FnOk P w K mg base CX0 5 f fd ["want", "slack"] (sp2i C fun r s => .int (mst r s)) := by
  refine F.ok sc_most_of (fun vs H Q E h => ?_) (fun cdv A outer s H vs Q E hr h => ?_)
  · obtain ⟨p, q, r, s, n, rfl, _⟩ := h
    rfl
  · obtain ⟨p, q, r, s, n, rfl, hp, hq, zr, zs, n0, n9, hQ⟩ := h
    refine ⟨_, PSs.nox (pss_one (ps_ret (pe_callB (call_max2 rfl) rfl bmx boot_max (pa_cons pe_int (pa_cons (pe_mt0 mW hr (by decide) (pe_mt mP hr (by decide) (pv 0) (pa_cons (pv 1) pa_nil))) pa_nil))))), ?_⟩
    obtain ⟨dp, hp1⟩ := id hp
    refine ⟨_, rfl, p, dp, _, rfl, hp1, shF_no _ (by decide +kernel) (by decide +kernel), _, rfl, p, q, r, s, n, rfl, hp, hq, zr, zs, n0, by omega, fun t H3 s3 ft ht => ?_⟩
    obtain ⟨dt, ht1⟩ := id ht
    refine ⟨t, dt, _, rfl, ht1, shF_no _ (by decide +kernel) (by decide +kernel), t, r + s, n + n + 1, rfl, ht, (sz2 zr zs).1, by omega, by omega, ?_⟩
    exact ⟨_, _, rfl, hQ H3 s3⟩
theorem ok_ip (F : Dn K d_is_parted f fd) (mP : Met P w K mg base 4 C "plus" (sp2 C (· + ·)) []) (mW : Met P w K mg base 1 C "whole" (sp_whole C) []) (cL : Cal P w K mg base 5 "least_of" (sp2i C fun r s => .int (lst r s)) []) : FnOk P w K mg base CX0 6 f fd ["want", "slack"] (sp2i C fun r s => .bl (decide (wh (r + s) < lst r s))) := by
  refine F.ok sc_is_parted (fun vs H Q E h => ?_) (fun cdv A outer s H vs Q E hr h => ?_)
  · obtain ⟨p, q, r, s, n, rfl, _⟩ := h
    rfl
  · obtain ⟨p, q, r, s, n, rfl, hp, hq, zr, zs, n0, n9, hQ⟩ := h
    refine ⟨_, PSs.nox (pss_one (ps_ret (pe_cmpR op_lt (pe_mt0 mW hr (by decide) (pe_mt mP hr (by decide) (pv 0) (pa_cons (pv 1) pa_nil))) (pe_c cL hr (by decide) rfl (pa_cons (pv 0) (pa_cons (pv 1) pa_nil))) (nomark _)))), ?_⟩
    obtain ⟨dp, hp1⟩ := id hp
    refine ⟨_, rfl, p, dp, _, rfl, hp1, shF_no _ (by decide +kernel) (by decide +kernel), _, rfl, p, q, r, s, n, rfl, hp, hq, zr, zs, n0, by omega, fun t H3 s3 ft ht => ?_⟩
    obtain ⟨dt, ht1⟩ := id ht
    refine ⟨t, dt, _, rfl, ht1, shF_no _ (by decide +kernel) (by decide +kernel), t, r + s, n + n + 1, rfl, ht, (sz2 zr zs).1, by omega, by omega, ?_⟩
    refine ⟨_, rfl, _, rfl, p, q, r, s, n, rfl, hp.keep s3, hq.keep s3, zr, zs, n0, n9, fun H4 s4 => ?_⟩
    exact ⟨_, _, rfl, rfl, hQ H4 (s3.trans s4)⟩
end
end K52
set_option Elab.async false
set_option linter.all false
set_option maxRecDepth 100000
set_option maxHeartbeats 4000000
namespace K52
open PySem PySem.Spec PyProof.Rows L2
open C8 (Cal Mak Met pe_c pe_mk pe_mt pe_mt0)
open LamX (Tabs ExtN TabB CodeO)
open KM (pr Sz)
section
variable {P : Program} {w : World} {K : PySem.W.Frag} {mg : Str → Option Value} {base : Heap} {f C : Addr} {fd : FuncData}
abbrev wN (ys : List Dy) (L : List Str) (c : Str → Rat) : List Str := (wnt ys L c).1
abbrev wV (ys : List Dy) (L : List Str) (c : Str → Rat) : Str → Rat := (wnt ys L c).2
abbrev wM (ys : List Dy) (L : List Str) (c : Str → Rat) (s : Rat) : Str → Int := fun x => mst (wV ys L c x) s
abbrev wL (ys : List Dy) (L : List Str) (c : Str → Rat) (s : Rat) : Str → Int := fun x => lst (wV ys L c x) s
theorem mst_nn {w s : Rat} : 0 ≤ mst w s := by
  unfold mst
  split <;> omega
theorem lst_mst {w s : Rat} (h : ¬ wh (w + s) < lst w s) : lst w s ≤ mst w s := by
  have h0 : 0 ≤ lst w s := by
    unfold lst
    split <;> omega
  unfold mst
  split <;> omega
theorem mem_wnt {ys : List Dy} {L : List Str} {c : Str → Rat} {y : Dy} {x : Str} (hy : y ∈ ys) (hx : x ∈ y.R) : x ∈ (wnt ys L c).1 := by
  unfold wnt
  rw [mem_mvL, mem_mvL]
  refine .inl (.inr ?_)
  refine List.mem_map.mpr ⟨(x, prt y.R), ?_, rfl⟩
  exact List.mem_flatMap.mpr ⟨y, hy, List.mem_map.mpr ⟨x, hx, rfl⟩⟩
theorem wnt_sz {H : Hp} {ys : List Dy} {L : List Str} {c : Str → Rat} {x : Str} (lL : L.length ≤ 16) (hz : ∀ x ∈ L, Sz 100 (c x)) (hD : ∀ y ∈ ys, DyOk H y) (ly : ys.length ≤ 60) (hx : x ∈ (wnt ys L c).1) : Sz 1700 ((wnt ys L c).2 x) := by
  have fl := fr_len fun y hy => (hD y hy).l12
  have gz : ∀ x, Sz 26 (get0 (mvL ([], fun _ => 0) (fr ys)).1 (mvL ([], fun _ => 0) (fr ys)).2 x) := fun x => by
    rw [mvL_val]
    have := q27_at x (fr_q27 (ds := ys) fun y hy => ⟨(hD y hy).ne, (hD y hy).l12⟩)
    show Sz 26 (0 + _)
    rw [Rat.zero_add]
    refine q27_sz this ?_ (by decide)
    have e : (2 : Nat) ^ 26 = 67108864 := by decide
    omega
  have zn : ∀ m ∈ L.map fun x => (x, -(c x)), Sz 100 m.2 := fun m hm => by
    obtain ⟨x, hx, rfl⟩ := List.mem_map.mp hm
    exact sz_neg (hz x hx)
  have := mvL_sz (L.map fun x => (x, -(c x))) (mvL ([], fun _ => 0) (fr ys)) 26 gz zn x
  have hx : x ∈ (mvL (mvL ([], fun _ => 0) (fr ys)) (L.map fun x => (x, -(c x)))).1 := hx
  rw [get0_in hx] at this
  rw [List.length_map] at this
  exact this.mono (by omega)
theorem Slk.same {C : Addr} {H H' : Hp} {v : V} {s : Rat} (h : Slk C H v s) (k : Same H H') : Slk C H' v s := h.imp id fun ⟨p, e, z⟩ => ⟨p, e, z.keep k⟩
/-- the drivers that are found -/
structure Ev (ys : List Dy) (L : List Str) (c : Str → Rat) (s : Rat) (ds : List Str) : Prop where
  dr : Dr ys (wN ys L c) (wM ys L c s) ds
  len : ds.length = ys.length
  le : ∀ x ∈ wN ys L c, wL ys L c s x ≤ ((ds.count x : Nat) : Int)
  np : ∀ x ∈ wN ys L c, ¬ wh (wV ys L c x + s) < lst (wV ys L c x) s
/-- what is asked of standing, days, slack -/
structure SeIn (K : PySem.W.Frag) (C : Addr) (H : Hp) (d l : Addr) (v : V) (L : List Str) (c : Str → Rat) (ys : List Dy) (s : Rat) : Prop where
  sd : SDc C H d L c
  nd : L.Nodup
  lL : L.length ≤ 16
  sz : ∀ x ∈ L, Sz 100 (c x)
  s0 : sumR (L.map c) = 0
  dy : DyL H l ys
  ly : ys.length ≤ 60
  lw : (wN ys L c).length ≤ 40
  sk : Slk C H v s
  ss : Sz 100 s
  tabs : Tabs (T0 K) H
def spSe (K : PySem.W.Frag) (C : Addr) : Sp := fun vs H Q _ => ∃ (d l : Addr) (v : V) (L : List Str) (c : Str → Rat) (ys : List Dy) (s : Rat), vs = [.ref d, .ref l, v] ∧ SeIn K C H d l v L c ys s ∧
  (∀ (t t2 : Addr) (x : Str) (H' : Hp), ExtN H H' → Tabs (T0 K) H' → H' t = some (.tup [.non, .ref t2]) → H' t2 = some (.tup [.str "part", .str x]) → x ∈ wN ys L c → wh (wV ys L c x + s) < lst (wV ys L c x) s → Q (.ref t) H') ∧
  (∀ (t t2 t3 : Addr) (ds W ws : List Str) (y : Dy) (H' : Hp), ExtN H H' → Tabs (T0 K) H' → H' t = some (.tup [.non, .ref t2]) → H' t2 = some (.tup [.str "crowd", .ref t3]) → H' t3 = some (.tup (ws.map V.str)) → Srd ws W → Crowd ys (wN ys L c) (wM ys L c s) ds W y → Q (.ref t) H') ∧
  (∀ (t t2 t3 : Addr) (ds W ws : List Str) (x : Str) (H' : Hp), ExtN H H' → Tabs (T0 K) H' → H' t = some (.tup [.non, .ref t2]) → H' t2 = some (.tup [.str "few", .ref t3]) → H' t3 = some (.tup (ws.map V.str)) → Srd ws W → Few ys (wN ys L c) (wM ys L c s) (wL ys L c s) ds W x → Q (.ref t) H') ∧
  ∀ (t r : Addr) (ds : List Str) (H' : Hp), ExtN H H' → Tabs (T0 K) H' → H' t = some (.tup [.ref r, .non]) → H' r = some (.lst (ds.map V.str)) → Ev ys L c s ds → Q (.ref t) H'
theorem ok_se (F : Dn K d_search f fd) (b : Bl mg) (bs : mg "sorted" = none) (cWa : Cal P w K mg base 7 "wanted" (spWa C) []) (cSk : Cal P w K mg base 4 "slack_share" (spSk C) []) (cIp : Cal P w K mg base 6 "is_parted" (sp2i C fun r s => .bl (decide (wh (r + s) < lst r s))) [])
    (cMs : Cal P w K mg base 5 "most_of" (sp2i C fun r s => .int (mst r s)) []) (cLs : Cal P w K mg base 5 "least_of" (sp2i C fun r s => .int (lst r s)) []) (cFi : Cal P w K mg base 6 "fill_days" (spFi K) []) (cRl : Cal P w K mg base 6 "raise_to_leasts" (spRl K) []) :
    FnOk P w K mg base CX0 8 f fd ["standing", "days", "slack"] (spSe K C) := by
  refine F.ok sc_search (fun vs H Q E h => ?_) (fun cdv A outer s H vs Q E hr h => ?_)
  · obtain ⟨_, _, _, _, _, _, _, rfl, _⟩ := h
    rfl
  · obtain ⟨d, l, v, L, c, ys, sl, rfl, I, hQ1, hQ2, hQ3, hQ4⟩ := h
    have hu := hu_of hr
    refine ⟨_, PSs.nox (pss_cons (ps_set (i := 3) sc_search.nd rfl (.inr rfl) (pe_c cWa hr (by decide) rfl (pa_cons (pv 0) (pa_cons (pv 1) pa_nil))))
      (pss_cons (ps_set (i := 4) sc_search.nd rfl (.inr rfl) (pe_c cSk hr (by decide) rfl (pa_cons (pv 2) pa_nil)))
      (C8.pss_cut (ps_for PassesOwn.never rfl (pi_list (pe_callB (call_sortedD rfl) rfl bs boot_sorted (pa_cons (pv 3) pa_nil))) (pg_name (i := 5) sc_search.nd rfl (.inl rfl))
        (pss_one (ps_if (pt_val (pe_c cIp hr (by decide) rfl (pa_cons (pe_dget hu (pv 3) (pv 5) (fun _ _ => rfl)) (pa_cons (pv 4) pa_nil)))) (pss_one (ps_ret (pe_tup (pa_cons pe_non (pa_cons (pe_tup (pa_cons pe_str (pa_cons (pv 5) pa_nil))) pa_nil))))) pss_nil)))
      (pss_cons (ps_set (i := 6) sc_search.nd rfl (.inl rfl) (pe_lst pa_nil))
      (C8.pss_cut (ps_set (i := 7) sc_search.nd rfl (.inl rfl) (pe_c cFi hr (by decide) rfl (pa_cons (pv 1) (pa_cons (pv 6) (pa_cons (pe_lock (pe_dc (own := [("name", 5)]) (g := gName 5) (tt := tYes) rfl sc_search.nd (pi_keys (pv 3)) (blkOk_by (N := N_search) (sc := defScope s_search) (by decide +kernel))
          (fun _ _ _ _ _ => pg_name (i := 5) sc_search.nd rfl (.inl rfl)) (fun _ _ _ _ _ => pts_nil) (fun _ _ _ _ _ => pv 5)
          (fun _ _ _ _ _ => pe_c cMs hr (by decide) rfl (pa_cons (pe_dget hu (pv 3) (pv 5) (fun _ _ => rfl)) (pa_cons (pv 4) pa_nil))))) pa_nil)))))
      (pss_cons (ps_if (pt_cmpR op_notN1 (pv 7) pe_non (nomark _)) (pss_one (ps_ret (pe_tup (pa_cons pe_non (pa_cons (pe_tup (pa_cons pe_str (pa_cons (pv 7) pa_nil))) pa_nil))))) pss_nil)
      (C8.pss_cut (ps_set (i := 8) sc_search.nd rfl (.inl rfl) (pe_c cRl hr (by decide) rfl (pa_cons (pv 1) (pa_cons (pv 6) (pa_cons (pe_lock (pe_dc (own := [("name", 5)]) (g := gName 5) (tt := tYes) rfl sc_search.nd (pi_keys (pv 3)) (blkOk_by (N := N_search) (sc := defScope s_search) (by decide +kernel))
          (fun _ _ _ _ _ => pg_name (i := 5) sc_search.nd rfl (.inl rfl)) (fun _ _ _ _ _ => pts_nil) (fun _ _ _ _ _ => pv 5)
          (fun _ _ _ _ _ => pe_c cLs hr (by decide) rfl (pa_cons (pe_dget hu (pv 3) (pv 5) (fun _ _ => rfl)) (pa_cons (pv 4) pa_nil))))) pa_nil)))))
      (pss_cons (ps_if (pt_cmpR op_notN1 (pv 8) pe_non (nomark _)) (pss_one (ps_ret (pe_tup (pa_cons pe_non (pa_cons (pe_tup (pa_cons pe_str (pa_cons (pv 8) pa_nil))) pa_nil))))) pss_nil)
      (pss_one (ps_ret (pe_tup (pa_cons (pv 6) (pa_cons pe_non pa_nil))))))))))))), ?_⟩
    have sd1 := I.sd
    have wnd : (wN ys L c).Nodup := wnt_nd
    have lw := I.lw
    have lL := I.lL
    have ly := I.ly
    refine ⟨_, rfl, _, rfl, d, l, L, c, ys, rfl, I.sd, I.nd, by omega, I.sz, I.s0, I.dy, ly, fun D H1 s1 fD S1 => ?_⟩
    refine ⟨_, rfl, v, sl, rfl, I.sk.same s1, fun p H2 s2 hp => ?_⟩
    have wz : ∀ x ∈ wN ys L c, Sz 1700 (wV ys L c x) := fun x hx => wnt_sz I.lL I.sz I.dy.2 ly hx
    have zs : Sz 1700 sl := I.ss.mono (by decide)
    obtain ⟨ad, hD2, hv2⟩ := S1.same s2
    have s02 := s1.trans s2
    have keys : ((wN ys L c).map fun x => ((Sum.inr x : Key), V.ref (ad x))).map (·.1) = (wN ys L c).map Sum.inr := by rw [List.map_map]; rfl
    -- who is parted
    refine ⟨fun σ' H' => ∃ v5, σ' = [some (.ref d), some (.ref l), some v, some (.ref D), some (.ref p), v5, none, none, none] ∧ Same H2 H' ∧ ∀ x ∈ wN ys L c, ¬ wh (wV ys L c x + sl) < lst (wV ys L c x) sl, ?_, ?_⟩
    · refine ⟨_, rfl, D, _, wN ys L c, rfl, .inl hD2, keys, by omega, fun ns q pm so fq => ?_⟩
      have sq := same_new (o := .lst (ns.map V.str)) fq
      have hq1 : (upd H2 q (.lst (ns.map V.str))) q = some (.lst (ns.map V.str)) := upd_same
      generalize upd H2 q (.lst (ns.map V.str)) = H3 at sq hq1 ⊢
      refine ⟨q, rfl, ⟨_, SqL.of hq1⟩, for_list (K := K) (xs := ns.map V.str) (fun i σ' H' => ∃ v5, σ' = [some (.ref d), some (.ref l), some v, some (.ref D), some (.ref p), v5, none, none, none] ∧ Same H3 H' ∧ ∀ x ∈ ns.take i, ¬ wh (wV ys L c x + sl) < lst (wV ys L c x) sl)
        ⟨_, rfl, Same.refl _, fun x hx => by simp at hx⟩ (fun i σ' H' _ z => by obtain ⟨_, _, z, _⟩ := z; exact SqL.of (z _ _ hq1)) ?_ ?_⟩
      · rintro i y σ' H4 hi ⟨v5, rfl, s4, np⟩
        obtain ⟨x, hx, rfl⟩ := sat_ hi
        have hxW : x ∈ wN ys L c := pm.mem_iff.mp (List.mem_of_getElem? hx)
        have s24 := sq.trans s4
        have dg : DGet H4 D (.str x) (some (.ref (ad x))) := .inl ⟨_, Sum.inr x, .inl (s24 _ _ hD2), rfl, (val_at (f := fun x => V.ref (ad x)) hxW).symm⟩
        refine ⟨_, rfl, _, rfl, D, _, rfl, dg, _, rfl, ad x, p, wV ys L c x, sl, 1700, rfl, (hv2 x hxW).keep s24, hp.keep s24, wz x hxW, zs, by decide, by decide, fun H5 s5 => ?_⟩
        refine ⟨_, rfl, ?_⟩
        refine ite2 (fun c1 => ?_) (fun c1 => ?_)
        · have c1 := of_decide_eq_true c1
          refine ⟨_, rfl, by show 2 ≤ sizeLine; decide, fun t2 f2 => ⟨by show 2 ≤ sizeLine; decide, fun t ft => ?_⟩⟩
          have a1 := same_new (o := .tup [.str "part", .str x]) f2
          have a2 := same_new (o := .tup [.non, .ref t2]) ft
          have s0 := (((s02.trans s24).trans s5).trans a1).trans a2
          exact hQ1 t t2 x _ (ExtN.of s0) (I.tabs.ext s0) upd_same (a2 _ _ upd_same) hxW c1
        · have c1 : ¬ wh (wV ys L c x + sl) < lst (wV ys L c x) sl := fun z => c1 (decide_eq_true z)
          refine ⟨_, rfl, s4.trans s5, fun z hz => ?_⟩
          rw [List.take_add_one, hx] at hz
          rcases List.mem_append.mp hz with h | h
          · exact np z h
          · have h : z = x := by simpa using h
            rw [h]
            exact c1
      · rintro σ' H4 ⟨v5, rfl, s4, np⟩
        rw [List.length_map, List.take_length] at np
        exact ⟨_, rfl, sq.trans s4, fun x hx => np x (pm.mem_iff.mpr hx)⟩
    rintro σ' H3 ⟨v5, rfl, s3, np⟩
    refine ⟨by show 0 ≤ sizeLine; decide, fun r fr => ?_⟩
    have s4 := same_new (o := .lst []) fr
    have hr4 : (upd H3 r (.lst [])) r = some (.lst []) := upd_same
    have s34 := s3.trans s4
    have s04 := s02.trans s34
    have fr0 : H r = none := (s02.trans s3).free fr
    have fr3 := fr
    generalize upd H3 r (.lst []) = H4 at s4 hr4 s34 s04 ⊢
    have hD4 := s34 _ _ hD2
    have hv4 : ∀ x ∈ wN ys L c, Sh C H4 (ad x) (pr (wV ys L c x)) := fun x hx => (hv2 x hx).keep s34
    have hp4 := hp.keep s34
    have dy4 := I.dy.same s04
    have lr : l ≠ r := fun z => by
      have := I.dy.1
      rw [z, fr0] at this
      cases this
    have Dr' : D ≠ r := fun z => by
      have := s3 _ _ hD2
      rw [z, fr3] at this
      cases this
    have sub : ∀ y ∈ ys, ∀ x ∈ y.B, x ∈ wN ys L c := fun y hy x hx => mem_wnt hy ((I.dy.2 y hy).bs x hx)
    have t4 := I.tabs.ext s04
    have out : ∀ {H' : Hp}, KN r H4 H' → ExtN H H' := fun {H'} k b o e n => k b o (s04 _ _ e) n (fun z => by rw [z, fr0] at e; cases e)
    -- the days are filled
    refine ⟨fun σ' H' => ∃ (v5 : Option V) (v7 : V), σ' = [some (.ref d), some (.ref l), some v, some (.ref D), some (.ref p), v5, some (.ref r), some v7, none] ∧ KN r H4 H' ∧ Tabs (T0 K) H' ∧
      ((v7 = .non ∧ ∃ ds : List Str, H' r = some (.lst (ds.map V.str)) ∧ Dr ys (wN ys L c) (wM ys L c sl) ds ∧ ds.length = ys.length) ∨ ∃ (t3 : Addr) (ds W ws : List Str) (y : Dy), v7 = .ref t3 ∧ H' t3 = some (.tup (ws.map V.str)) ∧ Srd ws W ∧ Crowd ys (wN ys L c) (wM ys L c sl) ds W y), ?_, ?_⟩
    · refine ⟨_, rfl, _, rfl, D, _, hD4, trivial, fun od => ?_⟩
      obtain ⟨kp1, new1, back1⟩ := lockU hD4 od
      have hm1 : (upd H4 D (.frz od (dctO (wN ys L c) fun x => .ref (ad x)))) D = some (.frz od (.dK ((wN ys L c).map fun x => ((Sum.inr x : Key), V.ref (ad x))))) := upd_same
      have hv1 : ∀ x ∈ wN ys L c, Sh C (upd H4 D (.frz od (dctO (wN ys L c) fun x => .ref (ad x)))) (ad x) (pr (wV ys L c x)) := fun x hx => by
        obtain ⟨dx, e⟩ := hv4 x hx
        exact ⟨dx, kp1 _ _ e (fun z => by rw [z, hD4] at e; cases e)⟩
      have hp1 : Sh C (upd H4 D (.frz od (dctO (wN ys L c) fun x => .ref (ad x)))) p (pr sl) := by
        obtain ⟨dx, e⟩ := hp4
        exact ⟨dx, kp1 _ _ e (fun z => by rw [z, hD4] at e; cases e)⟩
      generalize upd H4 D (.frz od (dctO (wN ys L c) fun x => .ref (ad x))) = H5 at kp1 new1 back1 hm1 hv1 hp1 ⊢
      refine ⟨_, rfl, D, od, rfl, .inl ⟨_, hm1, fun M fM => dc_it walk_keys (fun j H2 => H2 M = some (.dK (((wN ys L c).take j).map fun x => ((Sum.inr x : Key), V.int (wM ys L c sl x)))) ∧ Same H5 H2) ⟨upd_same, same_new fM⟩ (fun j H2 _ z => z.2 _ _ hm1) ?_ ?_⟩⟩
      · rintro j x H6 H7 hj ⟨hM6, s6⟩ ⟨eH, kk, v, hkk, rfl⟩
        have eH := eH.symm
        subst eH
        rw [List.getElem?_map] at hkk
        obtain ⟨z, hz0, e0⟩ := Option.map_eq_some_iff.mp hkk
        cases e0
        have hzL := List.mem_of_getElem? hz0
        have jl := (List.getElem?_eq_some_iff.mp hz0).1
        refine ⟨rfl, ?_⟩
        have dg : DGet H6 D (.str z) (some (.ref (ad z))) := .inl ⟨_, Sum.inr z, .inr ⟨od, s6 _ _ hm1⟩, rfl, (val_at (f := fun x => V.ref (ad x)) hzL).symm⟩
        refine ⟨_, rfl, _, rfl, _, rfl, D, _, rfl, dg, _, rfl, ad z, p, wV ys L c z, sl, 1700, rfl, (hv1 z hzL).keep s6, hp1.keep s6, wz z hzL, zs, by decide, by decide, fun H7 s7 => ?_⟩
        have hM7 := s7 _ _ hM6
        refine ⟨_, Sum.inr z, rfl, hM7, by rw [List.length_map, List.length_take]; exact Nat.lt_of_le_of_lt (by omega : _ ≤ 40) (by decide), ?_, fun b o e => ?_⟩
        · rw [upd_same, DQ.put_new (fun x => V.int (wM ys L c sl x)) (nin_tk wnd hz0), List.take_add_one, hz0]
          rfl
        · rw [upd_ne (ne_of_none e fM)]
          exact s7 _ _ (s6 _ _ e)
      · rintro H6 ⟨hM6, s6⟩
        rw [List.length_map, List.take_length] at hM6
        have b6 := back1 H6 s6
        have nMD := (new1 M fM).2
        have hM7 : (upd H6 D (dctO (wN ys L c) fun x => .ref (ad x))) M = some (.dK ((wN ys L c).map fun x => ((Sum.inr x : Key), V.int (wM ys L c sl x)))) := by rw [upd_ne nMD]; exact hM6
        refine ⟨s6 _ _ hm1, ?_⟩
        generalize upd H6 D (dctO (wN ys L c) fun x => .ref (ad x)) = H7 at b6 hM7 ⊢
        refine ⟨l, r, M, ys, wN ys L c, wM ys L c sl, rfl, dy4.same b6, ly, b6 _ _ hr4, lr, hM7, wnd, lw, sub, fun x _ => mst_nn, t4.ext b6, fun ds H8 k8 t8 h8 dr8 l8 => ?_, fun t3 ds W ws y H8 k8 t8 h8 pm8 cr8 => ?_⟩
        · exact ⟨_, .non, rfl, (KN.same b6).trans k8, t8, .inl ⟨rfl, ds, h8, dr8, l8⟩⟩
        · exact ⟨_, .ref t3, rfl, (KN.same b6).trans k8, t8, .inr ⟨t3, ds, W, ws, y, rfl, h8, pm8, cr8⟩⟩
    rintro σ' H8 ⟨w5, v7, rfl, k8, t8, alt⟩
    rcases alt with ⟨rfl, ds, h8, dr8, l8⟩ | ⟨t3, ds, W, ws, y, rfl, h8, pm8, cr8⟩
    · refine ⟨_, rfl, rfl, _, rfl, ?_⟩
      refine iteF ?_
      have kD : ∀ {H' : Hp}, KN r H4 H' → H' D = some (dctO (wN ys L c) fun x => .ref (ad x)) := fun {H'} k => k _ _ hD4 (fun _ q => nomatch q) Dr'
      have hD8 := kD k8
      have hv8 : ∀ x ∈ wN ys L c, Sh C H8 (ad x) (pr (wV ys L c x)) := fun x hx => by
        obtain ⟨dx, e⟩ := hv4 x hx
        exact ⟨dx, k8 _ _ e (fun _ q => nomatch q) (ne_of e hr4 (by intro q; cases q))⟩
      have hp8 : Sh C H8 p (pr sl) := by
        obtain ⟨dx, e⟩ := hp4
        exact ⟨dx, k8 _ _ e (fun _ q => nomatch q) (ne_of e hr4 (by intro q; cases q))⟩
      have dy8 := dy4.kn k8 hr4 lr
      have out8 : ∀ {H' : Hp}, KN r H8 H' → ExtN H H' := fun {H'} k => out (k8.trans k)
      refine ⟨fun σ' H' => ∃ (v5 : Option V) (v8 : V), σ' = [some (.ref d), some (.ref l), some v, some (.ref D), some (.ref p), v5, some (.ref r), some .non, some v8] ∧ KN r H8 H' ∧ Tabs (T0 K) H' ∧
        ((v8 = .non ∧ ∃ ds : List Str, H' r = some (.lst (ds.map V.str)) ∧ Ev ys L c sl ds) ∨ ∃ (t3 : Addr) (ds W ws : List Str) (x : Str), v8 = .ref t3 ∧ H' t3 = some (.tup (ws.map V.str)) ∧ Srd ws W ∧ Few ys (wN ys L c) (wM ys L c sl) (wL ys L c sl) ds W x), ?_, ?_⟩
      · refine ⟨_, rfl, _, rfl, D, _, hD8, trivial, fun od => ?_⟩
        obtain ⟨kp1, new1, back1⟩ := lockU hD8 od
        have hm1 : (upd H8 D (.frz od (dctO (wN ys L c) fun x => .ref (ad x)))) D = some (.frz od (.dK ((wN ys L c).map fun x => ((Sum.inr x : Key), V.ref (ad x))))) := upd_same
        have hv1 : ∀ x ∈ wN ys L c, Sh C (upd H8 D (.frz od (dctO (wN ys L c) fun x => .ref (ad x)))) (ad x) (pr (wV ys L c x)) := fun x hx => by
          obtain ⟨dx, e⟩ := hv8 x hx
          exact ⟨dx, kp1 _ _ e (fun z => by rw [z, hD8] at e; cases e)⟩
        have hp1 : Sh C (upd H8 D (.frz od (dctO (wN ys L c) fun x => .ref (ad x)))) p (pr sl) := by
          obtain ⟨dx, e⟩ := hp8
          exact ⟨dx, kp1 _ _ e (fun z => by rw [z, hD8] at e; cases e)⟩
        generalize upd H8 D (.frz od (dctO (wN ys L c) fun x => .ref (ad x))) = H5 at kp1 new1 back1 hm1 hv1 hp1 ⊢
        refine ⟨_, rfl, D, od, rfl, .inl ⟨_, hm1, fun M fM => dc_it walk_keys (fun j H2 => H2 M = some (.dK (((wN ys L c).take j).map fun x => ((Sum.inr x : Key), V.int (wL ys L c sl x)))) ∧ Same H5 H2) ⟨upd_same, same_new fM⟩ (fun j H2 _ z => z.2 _ _ hm1) ?_ ?_⟩⟩
        · rintro j x H6 H7 hj ⟨hM6, s6⟩ ⟨eH, kk, v, hkk, rfl⟩
          have eH := eH.symm
          subst eH
          rw [List.getElem?_map] at hkk
          obtain ⟨z, hz0, e0⟩ := Option.map_eq_some_iff.mp hkk
          cases e0
          have hzL := List.mem_of_getElem? hz0
          have jl := (List.getElem?_eq_some_iff.mp hz0).1
          refine ⟨rfl, ?_⟩
          have dg : DGet H6 D (.str z) (some (.ref (ad z))) := .inl ⟨_, Sum.inr z, .inr ⟨od, s6 _ _ hm1⟩, rfl, (val_at (f := fun x => V.ref (ad x)) hzL).symm⟩
          refine ⟨_, rfl, _, rfl, _, rfl, D, _, rfl, dg, _, rfl, ad z, p, wV ys L c z, sl, 1700, rfl, (hv1 z hzL).keep s6, hp1.keep s6, wz z hzL, zs, by decide, by decide, fun H7 s7 => ?_⟩
          have hM7 := s7 _ _ hM6
          refine ⟨_, Sum.inr z, rfl, hM7, by rw [List.length_map, List.length_take]; exact Nat.lt_of_le_of_lt (by omega : _ ≤ 40) (by decide), ?_, fun b o e => ?_⟩
          · rw [upd_same, DQ.put_new (fun x => V.int (wL ys L c sl x)) (nin_tk wnd hz0), List.take_add_one, hz0]
            rfl
          · rw [upd_ne (ne_of_none e fM)]
            exact s7 _ _ (s6 _ _ e)
        · rintro H6 ⟨hM6, s6⟩
          rw [List.length_map, List.take_length] at hM6
          have b6 := back1 H6 s6
          have nMD := (new1 M fM).2
          have hM7 : (upd H6 D (dctO (wN ys L c) fun x => .ref (ad x))) M = some (.dK ((wN ys L c).map fun x => ((Sum.inr x : Key), V.int (wL ys L c sl x)))) := by rw [upd_ne nMD]; exact hM6
          refine ⟨s6 _ _ hm1, ?_⟩
          generalize upd H6 D (dctO (wN ys L c) fun x => .ref (ad x)) = H7 at b6 hM7 ⊢
          refine ⟨l, r, M, ys, wN ys L c, wM ys L c sl, wL ys L c sl, ds, rfl, dy8.same b6, ly, b6 _ _ h8, lr, hM7, wnd, lw, sub, fun x hx => lst_mst (np x hx), dr8, l8, t8.ext b6, fun ds H9 k9 t9 h9 dr9 l9 le9 => ?_, fun t3 ds W ws y H9 k9 t9 h9 pm9 cr9 => ?_⟩
          · exact ⟨_, .non, rfl, (KN.same b6).trans k9, t9, .inl ⟨rfl, ds, h9, ⟨dr9, l9, le9, np⟩⟩⟩
          · exact ⟨_, .ref t3, rfl, (KN.same b6).trans k9, t9, .inr ⟨t3, ds, W, ws, y, rfl, h9, pm9, cr9⟩⟩
      rintro σ' H8 ⟨w5, v8, rfl, k8, t8, alt⟩
      rcases alt with ⟨rfl, ds, h8, ev⟩ | ⟨t3, ds, W, ws, x, rfl, h8, pm8, cr8⟩
      · refine ⟨_, rfl, rfl, _, rfl, ?_⟩
        refine iteF ?_
        refine ⟨_, rfl, by show 2 ≤ sizeLine; decide, fun t ft => ?_⟩
        have a2 := same_new (o := .tup [.ref r, .non]) ft
        exact hQ4 t r ds _ (out8 (k8.trans (KN.same a2))) (t8.ext a2) upd_same (a2 _ _ h8) ev
      · refine ⟨_, rfl, rfl, _, rfl, ?_⟩
        refine iteT ?_
        refine ⟨_, rfl, by show 2 ≤ sizeLine; decide, fun t2 f2 => ⟨by show 2 ≤ sizeLine; decide, fun t ft => ?_⟩⟩
        have a1 := same_new (o := .tup [.str "few", .ref t3]) f2
        have a2 := same_new (o := .tup [.non, .ref t2]) ft
        exact hQ3 t t2 t3 ds W ws x _ (out8 ((k8.trans (KN.same a1)).trans (KN.same a2))) ((t8.ext a1).ext a2) upd_same (a2 _ _ upd_same) (a2 _ _ (a1 _ _ h8)) pm8 cr8
    · refine ⟨_, rfl, rfl, _, rfl, ?_⟩
      refine iteT ?_
      refine ⟨_, rfl, by show 2 ≤ sizeLine; decide, fun t2 f2 => ⟨by show 2 ≤ sizeLine; decide, fun t ft => ?_⟩⟩
      have a1 := same_new (o := .tup [.str "crowd", .ref t3]) f2
      have a2 := same_new (o := .tup [.non, .ref t2]) ft
      exact hQ2 t t2 t3 ds W ws y _ (out ((k8.trans (KN.same a1)).trans (KN.same a2))) ((t8.ext a1).ext a2) upd_same (a2 _ _ upd_same) (a2 _ _ (a1 _ _ h8)) pm8 cr8
end
end K52
set_option Elab.async false
set_option linter.all false
set_option maxRecDepth 100000
set_option maxHeartbeats 4000000
namespace K52
open PySem PySem.Spec PyProof.Rows L2
open C8 (Cal Mak Met pe_c pe_mk pe_mt pe_mt0)
open LamX (Tabs ExtN TabB CodeO)
open KM (pr Sz)
/-! ### whole parts -/
theorem wh_floor (r : Rat) : wh r = r.floor := by
  unfold wh KM.pr
  rw [Rat.floor_def]
  exact Int.fdiv_eq_ediv_of_nonneg _ (by omega)
theorem wh_rat {r : Rat} {k : Int} : k ≤ wh r ↔ (k : Rat) ≤ r := by
  rw [wh_floor]
  exact Rat.le_floor_iff
/-- k drives even a want within s -/
def EvK (w s : Rat) (k : Int) : Prop := w - k ≤ s ∧ (k : Rat) - w ≤ s
theorem lst_le {w s : Rat} {k : Int} (h0 : 0 ≤ k) : lst w s ≤ k ↔ w - k ≤ s := by
  have e : lst w s ≤ k ↔ -k ≤ wh (s - w) := by
    unfold lst
    split <;> omega
  rw [e, wh_rat]
  have : ((-k : Int) : Rat) = -(k : Rat) := by simp
  rw [this]
  grind
theorem wh_ge {w s : Rat} {k : Int} : k ≤ wh (w + s) ↔ (k : Rat) - w ≤ s := by
  rw [wh_rat]
  grind
theorem lst_nn {w s : Rat} : 0 ≤ lst w s := by
  unfold lst
  split <;> omega
theorem np_of {w s : Rat} {k : Int} (h0 : 0 ≤ k) (h : EvK w s k) : ¬ wh (w + s) < lst w s := by
  have h1 := (lst_le h0).mpr h.1
  have h2 := wh_ge.mpr h.2
  omega
theorem le_mst {w s : Rat} {k : Int} (h : EvK w s k) : k ≤ mst w s := by
  have h2 := wh_ge.mpr h.2
  unfold mst
  split <;> omega
theorem evK_of {w s : Rat} {k : Int} (h0 : 0 ≤ k) (np : ¬ wh (w + s) < lst w s) (h1 : k ≤ mst w s) (h2 : lst w s ≤ k) : EvK w s k := by
  refine ⟨(lst_le h0).mp h2, wh_ge.mp ?_⟩
  have := lst_nn (w := w) (s := s)
  unfold mst at h1
  split at h1 <;> omega
/-- why nobody is told -/
def NoEv (ys : List Dy) (L : List Str) (c : Str → Rat) (s : Rat) : Prop :=
  (∃ x ∈ wN ys L c, wh (wV ys L c x + s) < lst (wV ys L c x) s) ∨ (∃ ds W y, Crowd ys (wN ys L c) (wM ys L c s) ds W y) ∨ ∃ ds W x, Few ys (wN ys L c) (wM ys L c s) (wL ys L c s) ds W x
/-- drivers that even all -/
structure Wit (ys : List Dy) (L : List Str) (c : Str → Rat) (s : Rat) (e : List Str) : Prop where
  fit : FW.Fits (abl ys) e
  len : e.length = ys.length
  ev : ∀ x ∈ wN ys L c, EvK (wV ys L c x) s (e.count x : Nat)
theorem Ev.wit {ys : List Dy} {L : List Str} {c : Str → Rat} {s : Rat} {ds : List Str} (h : Ev ys L c s ds) : Wit ys L c s ds :=
  ⟨h.dr.fit, h.len, fun x hx => evK_of (by omega) (h.np x hx) (h.dr.le x hx) (h.le x hx)⟩
theorem no_wit {ys : List Dy} {L : List Str} {c : Str → Rat} {s : Rat} {e : List Str} (h : NoEv ys L c s) (w : Wit ys L c s e) : False := by
  have la : (abl ys).length = ys.length := List.length_map _
  rcases h with ⟨x, hx, p⟩ | ⟨ds, W, y, cr⟩ | ⟨ds, W, x, fw⟩
  · exact np_of (by omega) (w.ev x hx) p
  · have ha : (abl ys)[ds.length]? = some y.B := by rw [List.getElem?_map, cr.at_]; rfl
    exact FW.fill_stuck cr.nd cr.dr.fit ha cr.st cr.shut cr.full w.fit (w.len.trans la.symm) fun x hx => le_mst (w.ev x (cr.sub x hx))
  · exact FW.raise_stuck fw.nd fw.dr.fit (fw.len.trans la.symm) fw.mem fw.shut fw.few fw.less w.fit (w.len.trans la.symm) fun x hx => (lst_le (by omega)).mpr (w.ev x (fw.sub x hx)).1
end K52
set_option Elab.async false
set_option linter.all false
set_option maxRecDepth 100000
set_option maxHeartbeats 4000000
/-! ### papers that bar (the mathematics) -/
namespace FW
open PySem
theorem count_fit {p : Str → Bool} {q : List Str → Bool} : ∀ {e : List Str} {A : List (List Str)}, e.length ≤ A.length → (∀ (k : Nat) (d : Str) (a : List Str), e[k]? = some d → A[k]? = some a → p d = true → q a = true) → e.countP p ≤ (A.filter q).length
  | [], A, _, _ => Nat.zero_le _
  | d :: e, [], h, _ => by simp at h
  | d :: e, a :: A, h, hp => by
    have ih := count_fit (p := p) (q := q) (e := e) (A := A) (by simpa using h) fun k d a e1 e2 => hp (k + 1) d a (by simpa using e1) (by simpa using e2)
    have h0 := hp 0 d a rfl rfl
    rw [List.countP_cons, List.filter_cons]
    by_cases c : p d = true
    · rw [if_pos c, if_pos (h0 c), List.length_cons]
      omega
    · rw [if_neg c]
      split
      · rw [List.length_cons]; omega
      · omega
theorem fit_count {p : Str → Bool} {q : List Str → Bool} : ∀ {e : List Str} {A : List (List Str)}, A.length ≤ e.length → (∀ (k : Nat) (d : Str) (a : List Str), e[k]? = some d → A[k]? = some a → q a = true → p d = true) → (A.filter q).length ≤ e.countP p
  | e, [], _, _ => Nat.zero_le _
  | [], a :: A, h, _ => by simp at h
  | d :: e, a :: A, h, hp => by
    have ih := fit_count (p := p) (q := q) (e := e) (A := A) (by simpa using h) fun k d a e1 e2 => hp (k + 1) d a (by simpa using e1) (by simpa using e2)
    have h0 := hp 0 d a rfl rfl
    rw [List.countP_cons, List.filter_cons]
    by_cases c : q a = true
    · rw [if_pos c, if_pos (h0 c), List.length_cons]
      omega
    · rw [if_neg c]
      omega
/-- days on which somebody of W is able, on which nobody else is -/
def opn (A : List (List Str)) (W : List Str) : Nat := (A.filter fun a => a.any fun n => decide (n ∈ W)).length
def own (A : List (List Str)) (W : List Str) : Nat := (A.filter fun a => a.all fun n => decide (n ∈ W)).length
theorem few_bar {A : List (List Str)} {W e : List Str} {M : Str → Int} (nd : W.Nodup) (fe : Fits A e) (le : e.length = A.length) (ce : ∀ x ∈ W, M x ≤ ((e.count x : Nat) : Int)) : (W.map M).sum ≤ (opn A W : Nat) := by
  have h1 := sum_le (S := W) (f := M) (g := fun x => ((e.count x : Nat) : Int)) ce
  rw [sum_count nd] at h1
  have h2 : e.countP (fun y => decide (y ∈ W)) ≤ opn A W := count_fit (by omega) fun k d a e1 e2 pd => List.any_eq_true.mpr ⟨d, fe.2 k d a e1 e2, pd⟩
  omega
theorem crowd_bar {A : List (List Str)} {W e : List Str} {M : Str → Int} (nd : W.Nodup) (fe : Fits A e) (le : e.length = A.length) (ce : ∀ x ∈ W, ((e.count x : Nat) : Int) ≤ M x) : (own A W : Nat) ≤ (W.map M).sum := by
  have h1 := sum_le (S := W) (g := M) (f := fun x => ((e.count x : Nat) : Int)) ce
  rw [sum_count nd] at h1
  have h2 : own A W ≤ e.countP (fun y => decide (y ∈ W)) := fit_count (by omega) fun k d a e1 e2 qa => List.all_eq_true.mp qa d (fe.2 k d a e1 e2)
  omega
theorem few_ok {A : List (List Str)} {ds W : List Str} {n : Str} {M : Str → Int} (nd : W.Nodup) (fd : Fits A ds) (ld : ds.length = A.length) (hn : n ∈ W) (sh : Shut false A ds W) (few : ∀ x ∈ W, ((ds.count x : Nat) : Int) ≤ M x) (less : ((ds.count n : Nat) : Int) < M n) : ((opn A W : Nat) : Int) < (W.map M).sum := by
  have h1 := sum_lt (n := n) (S := W) (f := fun x => ((ds.count x : Nat) : Int)) (g := M) few hn less
  rw [sum_count nd] at h1
  have h2 : opn A W ≤ ds.countP (fun y => decide (y ∈ W)) := fit_count (by omega) fun k d a e1 e2 qa => by
    obtain ⟨x, hx, xW⟩ := List.any_eq_true.mp qa
    have xW := of_decide_eq_true xW
    exact decide_eq_true (sh x xW d k x ⟨e1, rfl, a, e2, hx⟩)
  omega
theorem crowd_ok {A : List (List Str)} {ds W : List Str} {a : List Str} {M : Str → Int} (nd : W.Nodup) (fd : Fits A ds) (ha : A[ds.length]? = some a) (st : ∀ x ∈ a, x ∈ W) (sh : Shut true A ds W) (full : ∀ x ∈ W, M x ≤ (ds.count x : Nat)) : (W.map M).sum < ((own A W : Nat) : Int) := by
  have h1 := sum_le (S := W) (f := M) (g := fun x => ((ds.count x : Nat) : Int)) full
  rw [sum_count nd] at h1
  have hn : ds.length < A.length := (List.getElem?_eq_some_iff.mp ha).1
  have tk : A.take (ds.length + 1) = A.take ds.length ++ [a] := by
    rw [List.take_add_one, ha]
    rfl
  have h2 : ds.countP (fun y => decide (y ∈ W)) ≤ own (A.take ds.length) W := count_fit (by rw [List.length_take]; omega) fun k d b e1 e2 pd => by
    have kl := (List.getElem?_eq_some_iff.mp e1).1
    rw [List.getElem?_take_of_lt kl] at e2
    have dW := of_decide_eq_true pd
    exact List.all_eq_true.mpr fun o ho => decide_eq_true (sh d dW o k o ⟨e1, rfl, b, e2, ho⟩)
  have h3 : own (A.take (ds.length + 1)) W = own (A.take ds.length) W + 1 := by
    unfold own
    rw [tk, List.filter_append, List.length_append]
    have : (a.all fun n => decide (n ∈ W)) = true := List.all_eq_true.mpr fun o ho => decide_eq_true (st o ho)
    rw [List.filter_cons, if_pos this]
    rfl
  have h4 : own (A.take (ds.length + 1)) W ≤ own A W := ((List.take_sublist _ A).filter _).length_le
  omega
end FW
namespace K52
open PySem PySem.Spec PyProof.Rows L2
open KM (pr Sz)
/-- a paper -/
inductive Pap
  | part (x : Str)
  | few (ws : List Str)
  | crowd (ws : List Str)
/-- it bars -/
def Bars (ys : List Dy) (L : List Str) (c : Str → Rat) (s : Rat) : Pap → Prop
  | .part x => x ∈ wN ys L c ∧ wh (wV ys L c x + s) < lst (wV ys L c x) s
  | .few ws => ws ≠ [] ∧ (∀ x ∈ ws, x ∈ wN ys L c) ∧ (ws.Pairwise SRT.leS ∧ ws.Nodup) ∧ ((FW.opn (abl ys) ws : Nat) : Int) < (ws.map (wL ys L c s)).sum
  | .crowd ws => ws ≠ [] ∧ (∀ x ∈ ws, x ∈ wN ys L c) ∧ (ws.Pairwise SRT.leS ∧ ws.Nodup) ∧ (ws.map (wM ys L c s)).sum < ((FW.own (abl ys) ws : Nat) : Int)
theorem bars_wit {ys : List Dy} {L : List Str} {c : Str → Rat} {s : Rat} {p : Pap} {e : List Str} (b : Bars ys L c s p) (w : Wit ys L c s e) : False := by
  have la : (abl ys).length = ys.length := List.length_map _
  cases p with
  | part x => exact np_of (by omega) (w.ev x b.1) b.2
  | few ws =>
    obtain ⟨_, sub, ⟨_, nd⟩, lt⟩ := b
    have := FW.few_bar (M := wL ys L c s) nd w.fit (w.len.trans la.symm) fun x hx => (lst_le (by omega)).mpr (w.ev x (sub x hx)).1
    omega
  | crowd ws =>
    obtain ⟨_, sub, ⟨_, nd⟩, lt⟩ := b
    have := FW.crowd_bar (M := wM ys L c s) nd w.fit (w.len.trans la.symm) fun x hx => le_mst (w.ev x (sub x hx))
    omega
theorem sum_perm' {l m : List Int} (p : l.Perm m) : l.sum = m.sum := by
  induction p with
  | nil => rfl
  | cons x _ ih => rw [List.sum_cons, List.sum_cons, ih]
  | swap x y l => simp only [List.sum_cons]; omega
  | trans _ _ h1 h2 => rw [h1, h2]
theorem opn_perm {A : List (List Str)} {V W : List Str} (p : V.Perm W) : FW.opn A V = FW.opn A W ∧ FW.own A V = FW.own A W := by
  have e : (fun n => decide (n ∈ V)) = fun n => decide (n ∈ W) := funext fun n => by simp only [p.mem_iff]
  unfold FW.opn FW.own
  rw [e]
  exact ⟨rfl, rfl⟩
/-- what search tells bars -/
theorem few_bars {ys : List Dy} {L : List Str} {c : Str → Rat} {s : Rat} {ds W ws : List Str} {x : Str} (o : Srd ws W) (f : Few ys (wN ys L c) (wM ys L c s) (wL ys L c s) ds W x) : Bars ys L c s (.few ws) := by
  have la : (abl ys).length = ys.length := List.length_map _
  have h := FW.few_ok f.nd f.dr.fit (f.len.trans la.symm) f.mem f.shut f.few f.less
  refine ⟨fun z => ?_, fun z hz => f.sub z (o.1.mem_iff.mp hz), ⟨o.2, o.1.nodup_iff.mpr f.nd⟩, ?_⟩
  · have := o.1.mem_iff.mpr f.mem
    rw [z] at this
    cases this
  · rw [(opn_perm o.1).1, sum_perm' (o.1.map _)]
    exact h
theorem crowd_bars {ys : List Dy} {L : List Str} {c : Str → Rat} {s : Rat} {ds W ws : List Str} {y : Dy} (o : Srd ws W) (f : Crowd ys (wN ys L c) (wM ys L c s) ds W y) (bne : y.B ≠ []) : Bars ys L c s (.crowd ws) := by
  have ha : (abl ys)[ds.length]? = some y.B := by rw [List.getElem?_map, f.at_]; rfl
  have h := FW.crowd_ok f.nd f.dr.fit ha f.st f.shut f.full
  refine ⟨fun z => ?_, fun z hz => f.sub z (o.1.mem_iff.mp hz), ⟨o.2, o.1.nodup_iff.mpr f.nd⟩, ?_⟩
  · obtain ⟨b, hb⟩ := List.exists_mem_of_ne_nil _ bne
    have := o.1.mem_iff.mpr (f.st b hb)
    rw [z] at this
    cases this
  · rw [(opn_perm o.1).2, sum_perm' (o.1.map _)]
    exact h
end K52
set_option Elab.async false
set_option linter.all false
set_option maxRecDepth 100000
set_option maxHeartbeats 4000000
/-! ST: len(set(xs)) of unlike texts, xs a list or a tuple. -/
namespace ST
open PySem PySem.Spec PyProof.Rows
theorem not_yet {xs : List Str} (hn : xs.Nodup) {i : Nat} (h : i < xs.length) : ((xs.take i).any (· == xs.getD i Str.empty)) = false := by
  have e : xs.getD i Str.empty = xs[i] := by rw [List.getD_eq_getElem?_getD, List.getElem?_eq_getElem h]; rfl
  rw [e, List.any_eq_false]
  intro x hx z
  obtain ⟨j, hj, ej⟩ := List.getElem_of_mem hx
  have hji : j < i := by rw [List.length_take] at hj; omega
  rw [List.getElem_take] at ej
  exact List.pairwise_iff_getElem.mp hn j i (by omega) h hji (ej.trans (beq_iff_eq.mp z))
theorem one_more (xs : List Str) {i : Nat} (h : i < xs.length) (k : Str) : ((xs.take i).any (· == k) || decide (k = xs.getD i Str.empty)) = (xs.take (i + 1)).any (· == k) := by
  have e : xs.getD i Str.empty = xs[i] := by rw [List.getD_eq_getElem?_getD, List.getElem?_eq_getElem h]; rfl
  rw [e, List.take_add_one, List.getElem?_eq_getElem h, List.any_append]
  congr 1
  show decide (k = xs[i]) = [xs[i]].any (· == k)
  rw [List.any_cons, List.any_nil, Bool.or_false, Bool.eq_iff_iff, decide_eq_true_eq, beq_iff_eq]
  exact ⟨Eq.symm, Eq.symm⟩
section
variable {prog : Program} {w : World} {A : Around} {R : Result → Shared → Prop} {I S : Addr} {fp wr : List Addr} {G : Array GenState → Array GenState → Prop} {n : Nat} {P : Nat → Value → Prop} {St : Nat → Shared → Prop}
/-- the set of the first i of them stands at S -/
abbrev Has (prog : Program) (w : World) (S : Addr) (xs : List Str) (i : Nat) (h : Heap) : Prop := h.SetOf (PySem.strKind prog w) S (fun k => (xs.take i).any (· == k)) i
theorem Has.to {xs : List Str} {i : Nat} {h h' : Heap} (x : Has prog w S xs i h) (k : ∀ o, h.get? S = some o → h'.get? S = some o) : Has prog w S xs i h' := by
  obtain ⟨o, es, ep, t, ho, r⟩ := x
  exact ⟨o, es, ep, t, k o ho, r⟩
theorem walk (W : WalksS prog w A.in1 I fp wr G n P St) (hf : S ∉ fp) {xs : List Str} (hn : xs.Nodup) (hl : xs.length = n) (hb : n + 1 < scanBound) (hv : ∀ i v, P i v → ∃ t, v = .str (xs.getD i Str.empty) t) :
    ∀ (r i : Nat) (s : Shared), i + r = n → St i s → Has prog w S xs i s.heap → (∀ s', Moved (S :: wr) G s s' → Has prog w S xs n s'.heap → R (.ok (.ret .none)) s') →
      codeAny (model prog w) A (.builtin "set.update.loop" ⟨[.ref S, .ref I], []⟩) R s := by
  have nw : S ∉ wr := fun z => hf (W.sub _ z)
  have up : ∀ b ∈ wr, b ∈ S :: wr := fun b z => List.mem_cons_of_mem _ z
  intro r
  induction r with
  | zero =>
    intro i s e st hs fin
    cases (show i = n from e)
    refine codeAny_builtin PyProof.Rows.F.entry_set_update_loop ?_; rw [Around.under_plainId PyProof.Rows.F.plain_set_update_loop _]
    show wpAny _ A.in1 (pyNext (.ref I) >>= _) _ _ s; refine wpAny_bind (W.done s _ _ st fun s' m => ?_)
    exact wpAny_pure (fin s' (m.mono up) (hs.to fun o => m.heap S o nw))
  | succ r ih =>
    intro i s e st hs fin
    have li : i < n := by omega
    refine codeAny_builtin PyProof.Rows.F.entry_set_update_loop ?_; rw [Around.under_plainId PyProof.Rows.F.plain_set_update_loop _]
    show wpAny _ A.in1 (pyNext (.ref I) >>= _) _ _ s; refine wpAny_bind (W.item i s _ _ li st fun v s' pv st' m => ?_)
    obtain ⟨t, rfl⟩ := hv i v pv
    have hs' := hs.to fun o => m.heap S o nw
    show wpAny _ A.in1 (holding [Value.str (xs.getD i Str.empty) t] (setAdd S (.str (xs.getD i Str.empty) t)) >>= _) _ _ s'; refine wpAny_bind (wpAny_holding ?_)
    unfold setAdd
    refine wpAny_holding (wpAny_bind ((PySem.strKind prog w).pyHash (k := xs.getD i Str.empty) (strKind_is _ _ _ _) ?_))
    refine wpAny_setAddHashed_of (knd := PySem.strKind prog w) (s := { s' with toks := s'.toks + 1 }) (strKind_is _ _ _ _) rfl hs' (by omega) fun h' but h2 => ?_
    have hs2 : Has prog w S xs (i + 1) h' := SetOf_congr h2 (fun k => one_more xs (by omega) k) (by
      have z : (xs.take i).any (· == xs.getD i Str.empty) = false := not_yet hn (by omega)
      show (if (xs.take i).any (· == xs.getD i Str.empty) = true then i else i + 1) = i + 1
      rw [z]; rfl)
    refine wpAny_pure ⟨plainId_quiet PyProof.Rows.F.plain_set_update_loop _, ih (i + 1) _ (by omega) (W.frame _ s' _ _ st' (Nat.le_succ _) fun b hb o eo => ?_) hs2 fun s2 m2 h3 => ?_⟩
    · rw [but.2 b (fun z : b = S => hf (z ▸ hb))]
      exact eo
    · refine fin s2 (Moved.trans W.gtrans ((m.mono up).then_heap (Nat.le_succ _) fun b o hb eo => ?_) m2) h3
      rw [but.2 b (fun z : b = S => hb (z ▸ List.mem_cons_self))]
      exact eo
end
/-- a new set -/
abbrev fresh (led : Bool) : Obj := { cls := .type "set", dict := none, data := .set #[] 0 (.fresh 0 0 led) }
section
variable {prog : Program} {w : World} {A : Around} {E : Value → Shared → Prop} {s : Shared}
/-- how the call of set ends -/
abbrev EndOf (prog : Program) (w : World) (xs : List Str) (s : Shared) (s2 : Shared) : Prop := ∃ h' tk, s2 = { s with heap := h', toks := tk } ∧ Has prog w s.heap.objs.size xs xs.length h' ∧ ∀ b o, s.heap.get? b = some o → h'.get? b = some o
set_option maxHeartbeats 8000000 in
/-- set(xs), given what __init__ does with the new set -/
theorem call_by {l : Addr} {xs : List Str} {Q : Value → Shared → Prop}
    (hi : ∀ led : Bool, wpAny (model prog w) A.in1.in1 (Builtin.«set.__init__» ⟨[.ref s.heap.objs.size, .ref l], []⟩)
      (fun fin s' => match fin with | .done f => wants (fun r s₂ => r = .none ∧ EndOf prog w xs s s₂) E (.ok f) s' | .again c' => c'.quiet = true ∧ codeAny (model prog w) A.in1 c' (wants (fun r s₂ => r = .none ∧ EndOf prog w xs s s₂) E) s')
      (fun e s' => wants (fun r s₂ => r = .none ∧ EndOf prog w xs s s₂) E (.error e) s') { s with heap := s.heap.push (fresh led) })
    (h : ∀ s2, EndOf prog w xs s s2 → Q (.ref s.heap.objs.size) s2) : wpAny (model prog w) A (call (.type "set") [.ref l]) Q E s := by
  obtain ⟨c0, t0, mro0⟩ := PySem.F.called_set.mro
  have made0 := PySem.F.called_set.made; have sub0 := PySem.F.called_set.sub
  refine wpAny_call (codeAny_of_tree ?_); show wpAny _ _ (callAny (.type "set") _) _ _ _
  refine wpAny_pure ⟨Code.quiet_builtin _ (by decide +kernel), codeAny_builtin PySem.F.entry_type_call ?_⟩; rw [Around.under_plain (weight_type_call_type "set" [.ref l] []) rfl]
  have nt0 := PySem.F.called_set.notType; have cc0 := PySem.F.called_set.canCreate; have ct0 := PySem.F.typeCall_set_1 (.ref l)
  (repeat (any_goals (first | assumption | wp_step)))
  refine codeAny_mono (code_set_new_1 (.ref l) (E := E) (Q₁ := fun ob s1 => ∃ led : Bool, ob = .ref s.heap.objs.size ∧ s1 = { s with heap := s.heap.push (fresh led) }) fun led => ⟨led, rfl, rfl⟩) fun r s1 hr => ?_
  match r, hr with
  | .error e, hr => exact hr
  | .ok .next, hr => exact hr.elim
  | .ok .brk, hr => exact hr.elim
  | .ok .cont, hr => exact hr.elim
  | .ok (.ret ob), hr =>
    obtain ⟨led, rfl, rfl⟩ := hr
    have at0 : (s.heap.push (fresh led)).get? s.heap.objs.size = some (fresh led) := Heap.get?_push_size _ rfl
    have ty0 : Shared.TypeIs { s with heap := s.heap.push (fresh led) } (.ref s.heap.objs.size) "set" := ⟨_, at0, rfl⟩
    have lo0 := PySem.F.called_set.init.lookup; have bi0 := PySem.F.called_set.init.bind (.ref s.heap.objs.size)
    (repeat (any_goals (first | assumption | wp_step)))
    refine codeAny_mono (codeAny_call_builtin (R := wants (fun r s₂ => r = .none ∧ EndOf prog w xs s s₂) E) PySem.F.called_set.init.plain PySem.F.entry_set_init (check_set_init_1 ty0 (hi led))) fun r2 s2 hr2 => ?_
    match r2, hr2 with
    | .error e, hr2 => exact hr2
    | .ok .next, hr2 => exact hr2.elim
    | .ok .brk, hr2 => exact hr2.elim
    | .ok .cont, hr2 => exact hr2.elim
    | .ok (.ret v), hr2 =>
      obtain ⟨rfl, en⟩ := hr2
      have q := h s2 en
      obtain ⟨h', tk, rfl, h1, h2⟩ := en
      (repeat (any_goals (first | assumption | wp_step)))
set_option maxHeartbeats 8000000 in
theorem call_tup {l : Addr} {items : Array Value} {xs : List Str} {Q : Value → Shared → Prop} (hh : A.handled = none) (hl : s.heap.IsTuple l items) (hi : PyProof.Rows.StrsAre items.toList xs) (hn : xs.Nodup) (hb : xs.length + 1 < scanBound)
    (h : ∀ s2, EndOf prog w xs s s2 → Q (.ref s.heap.objs.size) s2) : wpAny (model prog w) A (call (.type "set") [.ref l]) Q E s := by
  refine call_by (xs := xs) (fun led => ?_) h
  obtain ⟨ol, ho, hc, nl, hd⟩ := hl
  obtain ⟨cl, dc, dt, sl⟩ := ol
  simp only at hc hd
  subst hc; subst hd
  have o1 : (s.heap.push (fresh led)).get? l = some { cls := .type "tuple", dict := dc, data := .seq items nl, slots := sl } := Heap.get?_push_of_some _ ho
  have l1 : (s.heap.push (fresh led)).IsTuple l items := ⟨_, o1, rfl, nl, rfl⟩
  have at0 : (s.heap.push (fresh led)).get? s.heap.objs.size = some (fresh led) := Heap.get?_push_size _ rfl
  have u1 := PySem.F.sub_tuple_set; have u2 := PySem.F.sub_tuple_frozenset; have u3 : (Value.type "tuple" == Value.type "dict") = false := by decide
  unfold Builtin.«set.__init__» noKeywords Builtin.Frozenset.updateFrom; generalize hp : pyIter = pit
  wp_walk
  subst hp
  refine wpAny_pyIter_tuple l1 (wpAny_bind (wpAny_runValue ?_))
  have ls : l < s.heap.objs.size := Heap.lt_size ho
  have h3 : A.in1.in1.in1.handled = none := by simp [hh]
  have ne1 : l ≠ (s.heap.push (fresh led)).objs.size := by rw [Heap.size_push]; exact Nat.ne_of_lt (Nat.lt_succ_of_lt ls)
  have nf : s.heap.objs.size ∉ [(s.heap.push (fresh led)).objs.size, l] := by
    rw [Heap.size_push]
    intro z
    simp only [List.mem_cons, List.not_mem_nil, or_false] at z
    rcases z with z | z
    · exact Nat.ne_of_lt (Nat.lt_succ_self _) z
    · exact Nat.ne_of_gt ls z
  have sz : xs.length = items.size := by rw [← StrsAre.len_eq hi, Array.length_toList]
  refine walk ((Walks.tuple h3 _ l ne1 items).toS) nf hn sz (by omega) (fun i v hv => SS.strs_at hi i v (by rw [Array.getElem?_toList]; exact hv)) items.size 0 _ (by omega) ⟨⟨_, Heap.get?_push_size _ rfl, rfl, rfl⟩, l1.push _⟩ ?_ ?_
  · exact PyProof.Rows.SetOf_congr ((PyProof.Rows.setObjOf_fresh (knd := PySem.strKind prog w) led).setOf (Heap.get?_push_of_some _ at0) (by unfold scanBound; omega)) (fun _ => rfl) rfl
  · intro s' hm hs'
    obtain ⟨h', g', d', tk', os'⟩ := s'
    cases (show g' = s.gens from hm.gens); cases (show d' = s.drawn from hm.drawn); cases (show os' = s.os from hm.os)
    show wpAny _ _ _ _ _ _
    refine wpAny_pure ?_
    show wpAny _ _ (ret Value.none) _ _ _
    refine wpAny_pure ⟨rfl, h', tk', rfl, by rw [sz]; exact hs', fun b o e => ?_⟩
    have lb : b < s.heap.objs.size := Heap.lt_size e
    refine hm.heap b o (fun z => ?_) (Heap.get?_push_of_some _ (Heap.get?_push_of_some _ e))
    rw [Heap.size_push] at z
    simp only [List.mem_cons, List.not_mem_nil, or_false] at z
    rcases z with z | z
    · exact Nat.ne_of_lt lb z
    · exact Nat.ne_of_lt (Nat.lt_succ_of_lt lb) z
set_option maxHeartbeats 8000000 in
theorem call_lst {l : Addr} {items : Array Value} {xs : List Str} {Q : Value → Shared → Prop} (hh : A.handled = none) (hl : s.heap.IsList l items) (hi : PyProof.Rows.StrsAre items.toList xs) (hn : xs.Nodup) (hb : xs.length + 1 < scanBound)
    (h : ∀ s2, EndOf prog w xs s s2 → Q (.ref s.heap.objs.size) s2) : wpAny (model prog w) A (call (.type "set") [.ref l]) Q E s := by
  refine call_by (xs := xs) (fun led => ?_) h
  obtain ⟨ol, ho, hc, nl, hd⟩ := hl
  obtain ⟨cl, dc, dt, sl⟩ := ol
  simp only at hc hd
  subst hc; subst hd
  have o1 : (s.heap.push (fresh led)).get? l = some { cls := .type "list", dict := dc, data := .seq items nl, slots := sl } := Heap.get?_push_of_some _ ho
  have l1 : (s.heap.push (fresh led)).IsList l items := ⟨_, o1, rfl, nl, rfl⟩
  have at0 : (s.heap.push (fresh led)).get? s.heap.objs.size = some (fresh led) := Heap.get?_push_size _ rfl
  have u1 := PySem.F.sub_list_set; have u2 := PySem.F.sub_list_frozenset; have u3 : (Value.type "list" == Value.type "dict") = false := by decide
  unfold Builtin.«set.__init__» noKeywords Builtin.Frozenset.updateFrom; generalize hp : pyIter = pit
  wp_walk
  subst hp
  refine wpAny_pyIter_list l1 (wpAny_bind (wpAny_runValue ?_))
  have ls : l < s.heap.objs.size := Heap.lt_size ho
  have h3 : A.in1.in1.in1.handled = none := by simp [hh]
  have ne1 : l ≠ (s.heap.push (fresh led)).objs.size := by rw [Heap.size_push]; exact Nat.ne_of_lt (Nat.lt_succ_of_lt ls)
  have nf : s.heap.objs.size ∉ [(s.heap.push (fresh led)).objs.size, l] := by
    rw [Heap.size_push]
    intro z
    simp only [List.mem_cons, List.not_mem_nil, or_false] at z
    rcases z with z | z
    · exact Nat.ne_of_lt (Nat.lt_succ_self _) z
    · exact Nat.ne_of_gt ls z
  have sz : xs.length = items.size := by rw [← StrsAre.len_eq hi, Array.length_toList]
  refine walk ((Walks.list h3 _ l ne1 items).toS) nf hn sz (by omega) (fun i v hv => SS.strs_at hi i v (by rw [Array.getElem?_toList]; exact hv)) items.size 0 _ (by omega) ⟨⟨_, Heap.get?_push_size _ rfl, rfl, rfl⟩, l1.push _⟩ ?_ ?_
  · exact PyProof.Rows.SetOf_congr ((PyProof.Rows.setObjOf_fresh (knd := PySem.strKind prog w) led).setOf (Heap.get?_push_of_some _ at0) (by unfold scanBound; omega)) (fun _ => rfl) rfl
  · intro s' hm hs'
    obtain ⟨h', g', d', tk', os'⟩ := s'
    cases (show g' = s.gens from hm.gens); cases (show d' = s.drawn from hm.drawn); cases (show os' = s.os from hm.os)
    show wpAny _ _ _ _ _ _
    refine wpAny_pure ?_
    show wpAny _ _ (ret Value.none) _ _ _
    refine wpAny_pure ⟨rfl, h', tk', rfl, by rw [sz]; exact hs', fun b o e => ?_⟩
    have lb : b < s.heap.objs.size := Heap.lt_size e
    refine hm.heap b o (fun z => ?_) (Heap.get?_push_of_some _ (Heap.get?_push_of_some _ e))
    rw [Heap.size_push] at z
    simp only [List.mem_cons, List.not_mem_nil, or_false] at z
    rcases z with z | z
    · exact Nat.ne_of_lt lb z
    · exact Nat.ne_of_lt (Nat.lt_succ_of_lt lb) z
end
end ST
namespace ST
open PySem PySem.Spec PyProof.Rows L2
section
variable {X : Cx}
/-- len(set(xs)): unlike texts -/
def tLenSet (K : PySem.W.Frag) (ta : TE) : TE := fun σ H Q => ta σ H fun x H1 => ∃ (l : Addr) (xs : List Str), x = .ref l ∧ (SqL K H1 l (xs.map V.str) ∨ SqT K H1 l (xs.map V.str)) ∧ xs.Nodup ∧ xs.length < 64 ∧ Q (.int xs.length) H1
theorem pe_lenSet {a : Expr} {ta : TE} {p p2 q pos : Pos} (hc : X.calm = true) (hg : Gl X "len") (hm : X.mg "len" = none) (hg2 : Gl X "set") (hm2 : X.mg "set" = none) (ha : PE X a ta)
    (na : starEach [a] X.env = (false, eval a X.env) :: starEach [] X.env := by rfl) : PE X (.Call (.Name "len" p) [.Call (.Name "set" p2) [a] [] q] [] pos) (tLenSet X.K ta) := by
  refine ⟨fun pins s σ H Q I h => Call_ (ld_blt I hg hm boot_len (PyProof.Rows.callWith_builtin1 (PyProof.Rows.args_cons (Call_ (ld_blt I hg2 hm2 boot_set ?_)) rfl) rfl rfl))⟩
  refine PyProof.Rows.callWith_type1 (PyProof.Rows.args_cons (thn (ha.run pins s σ H _ I h) fun v s1 ⟨x, H1, I1, r1, z1⟩ => PyProof.Rows.args_nil ?_) na) na rfl
  obtain ⟨l, xs, rfl, hs, hn, h6, q1⟩ := z1
  cases r1
  have sb : xs.length + 1 < scanBound := by unfold scanBound; omega
  have fin : ∀ s2, EndOf X.prog X.w xs s1 s2 → wpAny (model X.prog X.w) X.A (spliced (backTo pos (starEach [] X.env))) (fun vs s₂ => wpAny (model X.prog X.w) X.A (call (.builtin "len") (Value.ref s1.heap.objs.size :: vs)) (EP X pins σ Q) X.xe s₂) X.xe s2 := by
    rintro _ ⟨h', tk, rfl, hS, hk⟩
    refine PyProof.Rows.args_nil ?_
    obtain ⟨o, es, ep, t, ho, ex, hd, _, _, _, hf, hn⟩ := hS
    have I2 : Inv X pins σ H1 { s1 with heap := h', toks := tk } := I1.kept hk
    exact call_len_set ho ex hd hf (by rw [hn]; omega) ⟨.int xs.length, H1, I2.tok _, ⟨_, by rw [hn]⟩, q1⟩
  rcases hs with hs | hs
  · obtain ⟨its, r, pl, hz⟩ := I1.list hs
    exact call_lst (I1.ok.hd hc) pl.isList (by simpa using strsAre_of r) hn sb fin
  · obtain ⟨its, r, pl, hz⟩ := I1.tuple hs
    exact call_tup (I1.ok.hd hc) pl (by simpa using strsAre_of r) hn sb fin
end
end ST
set_option Elab.async false
set_option linter.all false
set_option maxRecDepth 100000
set_option maxHeartbeats 4000000
/-! SST: sorted(set(xs)), xs a list or a tuple of texts. -/
namespace SST
open PySem PySem.Spec PyProof.Rows L2
def txt (e : Int × Value) : Str := match e.2 with | .str x _ => x | _ => Str.empty
def Tx (w : World) (e : Int × Value) : Prop := ∃ x tk, e.2 = Value.str x tk ∧ e.1 = hashStr w x
/-- the set of texts at a: ks have been put in -/
def SetT (w : World) (h : Heap) (a : Addr) (ks : List Str) : Prop := ∃ o es ep t, h.get? a = some o ∧ o.ExactSet ∧ o.data = .set es ep t ∧ (∀ e ∈ es.toList, Tx w e) ∧ (es.toList.map txt).Nodup ∧ (∀ k, k ∈ ks ↔ k ∈ es.toList.map txt) ∧ es.size ≤ ks.length ∧
  t.fits es.size = true ∧ Ris t.place.toList ∧ (w.params.followText "set-order" = true ∨ t.led = true)
theorem SetT.to {w : World} {h h' : Heap} {a : Addr} {ks : List Str} (x : SetT w h a ks) (k : ∀ o, h.get? a = some o → h'.get? a = some o) : SetT w h' a ks := by
  obtain ⟨o, es, ep, t, q, r⟩ := x
  exact ⟨o, es, ep, t, k o q, r⟩
section
variable {P : Program} {w : World}
theorem elems {l : List (Int × Value)} (g : ∀ e ∈ l, Tx w e) : ElemsOf (PySem.strKind P w) l := fun e m => by
  obtain ⟨x, tk, e1, e2⟩ := g e m
  exact ⟨⟨x, by rw [e1]; exact strKind_is P w x tk, e2⟩, by rw [e1] <;> rfl⟩
theorem tx_is {e : Int × Value} (g : Tx w e) (k : Str) : (PySem.strKind P w).is k e.2 = true ↔ txt e = k := by
  obtain ⟨x, tk, e1, _⟩ := g
  unfold txt
  rw [e1]
  show Value.isStrOf k (Value.str x tk) = true ↔ x = k
  simp [Value.isStrOf]
theorem tx_mem {l : List (Int × Value)} (g : ∀ e ∈ l, Tx w e) (k : Str) : k ∈ l.map txt ↔ ∃ e ∈ l, (PySem.strKind P w).is k e.2 = true :=
  List.mem_map.trans ⟨fun ⟨e, m, q⟩ => ⟨e, m, (tx_is (g e m) k).mpr q⟩, fun ⟨e, m, q⟩ => ⟨e, m, (tx_is (P := P) (g e m) k).mp q⟩⟩
end
section
variable {P : Program} {w : World} {A : Around} {E : Value → Shared → Prop} {s : Shared} {a : Addr} {ks : List Str}
/-- what follows once the elements are known -/
theorem add_end {g : Bool → Sem Unit} (hg : ∀ (b : Bool) (z : Shared) (Q' : Unit → Shared → Prop), Q' () z → wpAny (model P w) A (g b) Q' E z) {o : Obj} {es : Array (Int × Value)} {ep : Nat} {t : SetTable} (q1 : s.heap.get? a = some o) (q2 : o.ExactSet) (q3 : o.data = .set es ep t)
    {fs : Array (Int × Value)} {u : SetTable} {ms : List Str} (g1 : ∀ e ∈ fs.toList, Tx w e) (n1 : (fs.toList.map txt).Nodup) (m1 : ∀ k, k ∈ ms ↔ k ∈ fs.toList.map txt) (b1 : fs.size ≤ ms.length) (b2 : ms.length < scanBound) (f1 : u.fits fs.size = true) (r1 : Ris u.place.toList)
    (l1 : w.params.followText "set-order" = true ∨ u.led = true) {dm : Bool} {R : Option Bool → Shared → Prop} (hR : ∀ h', Heap.SameBut a s.heap h' → SetT w h' a ms → R (some true) { s with heap := h' }) :
    wpAny (model P w) A (do storeSet a fs u; if (!dm && u.tooFull) = true then do g (relayAll u fs (SetTable.grown fs.size)).2.2; storeSet a (relayAll u fs (SetTable.grown fs.size)).1 (relayAll u fs (SetTable.grown fs.size)).2.1; pure (some true) else pure (some true)) R E s := by
  have bz : fs.size < scanBound := Nat.lt_of_le_of_lt b1 b2
  refine wpAny_bind (wpAny_storeSet_of q1 q3 ?_ (fits_of_scanBound bz))
  have at1 := store_at (es' := fs) (t' := u) q1 q3
  have sb := Heap.SameBut.update s.heap a (Obj.putSet fs u)
  split
  · have pm := relayAll_perm u fs (SetTable.grown fs.size)
    have c1 := relayAll_fits u fs (SetTable.grown fs.size)
    have c2 := relayAll_ris u fs (SetTable.grown fs.size)
    have c3 := relayAll_led u fs (SetTable.grown fs.size)
    generalize relayAll u fs (SetTable.grown fs.size) = Z at pm c1 c2 c3 ⊢
    obtain ⟨gs, v, gave⟩ := Z
    dsimp only at pm c1 c2 c3 ⊢
    have sz : gs.size = fs.size := by rw [← Array.length_toList, pm.length_eq, Array.length_toList]
    refine wpAny_bind (hg _ _ _ (wpAny_bind (wpAny_storeSet_of at1 rfl ?_ (fits_of_scanBound (by rw [sz]; exact bz)))))
    have at2 := store_at (es' := gs) (t' := v) at1 rfl
    exact wpAny_pure (hR _ (sb.trans (Heap.SameBut.update _ a _)) ⟨_, gs, _, v, at2, q2, rfl, fun e m => g1 e (pm.mem_iff.mp m), (pm.map txt).nodup_iff.mpr n1, fun k => (m1 k).trans (pm.map txt).mem_iff.symm, by rw [sz]; exact b1, c1, c2, l1.imp id fun z => by rw [c3]; exact z⟩)
  · exact wpAny_pure (hR _ sb ⟨_, fs, _, u, at1, q2, rfl, g1, n1, m1, b1, f1, r1, l1⟩)
theorem add {x : Str} {tk : Tok} {Q : Bool → Shared → Prop} (R : SetT w s.heap a ks) (room : ks.length + 1 < scanBound) (hQ : ∀ (b : Bool) h', Heap.SameBut a s.heap h' → SetT w h' a (ks ++ [x]) → Q b { s with heap := h' }) :
    wpAny (model P w) A (setAddHashed a (.str x tk) ((PySem.strKind P w).hash x)) Q E s := by
  obtain ⟨o, es, ep, t, ho, hex, hd, g, nd, hm, hb, hf, hr, hl⟩ := R
  have hkey : (PySem.strKind P w).is x (.str x tk) = true := strKind_is P w x tk
  have hel : ElemsOf (PySem.strKind P w) es.toList := elems g
  have eb : es.size < scanBound := by omega
  unfold setAddHashed setAddHashedIn
  refine wpAny_holding (wpAny_bind (wpAny_setState_of ho hd hf ?_))
  dsimp only
  rw [byScan_of (show (Value.str x tk).scannable = true from rfl) eb hel]
  simp only [↓reduceIte]
  unfold setAddByScan
  refine wpAny_bind (wpAny_bind (wpAny_rule (wpAny_bind (wpAny_setScan_of hkey ho hd hf hel ?_))))
  cases hfi : List.findIdx? (fun e => (PySem.strKind P w).is x e.2) es.toList with
  | some j =>
    dsimp only
    obtain ⟨hj, pj, _⟩ := List.findIdx?_eq_some_iff_getElem.mp hfi
    have hx : x ∈ ks := (hm x).2 ((tx_mem (P := P) g x).2 ⟨es.toList[j], List.getElem_mem hj, pj⟩)
    refine wpAny_pure (wpAny_pure (hQ _ s.heap (Heap.SameBut.refl a s.heap) ⟨o, es, ep, t, ho, hex, hd, g, nd, fun i => ?_, by rw [List.length_append]; omega, hf, hr, hl⟩))
    rw [List.mem_append, List.mem_singleton, ← hm i]
    exact ⟨fun z => z.elim id (fun e => e ▸ hx), .inl⟩
  | none =>
    dsimp only
    have hn : x ∉ es.toList.map txt := fun z => by
      obtain ⟨e, m, q⟩ := (tx_mem (P := P) g x).1 z
      have c := List.findIdx?_eq_none_iff.mp hfi e m
      rw [q] at c
      cases c
    have hgw : ∀ (b : Bool) {z : Shared} {Q' : Unit → Shared → Prop}, Q' () z → wpAny (model P w) A (match b with | true => rule "set.scan.the-table-gave-way" | false => pure ()) Q' E z :=
      fun b z Q' q => by cases b <;> first | exact wpAny_pure q | exact wpAny_rule q
    have pm := layNew_perm t es ((PySem.strKind P w).hash x) (.str x tk)
    have c1 := layNew_fits t es ((PySem.strKind P w).hash x) (.str x tk)
    have c2 := layNew_ris t es ((PySem.strKind P w).hash x) (.str x tk) hr
    have c3 := layNew_led t es ((PySem.strKind P w).hash x) (.str x tk)
    generalize layNew t es ((PySem.strKind P w).hash x) (.str x tk) = Z at pm c1 c2 c3 ⊢
    obtain ⟨fs, u, dm, gave⟩ := Z
    dsimp only at pm c1 c2 c3 ⊢
    rw [Array.toList_push] at pm
    have pc : fs.toList.Perm (((PySem.strKind P w).hash x, Value.str x tk) :: es.toList) := pm.trans (List.perm_append_singleton _ _)
    have pk : (fs.toList.map txt).Perm (x :: es.toList.map txt) := pc.map txt
    have g1 : ∀ e ∈ fs.toList, Tx w e := fun e m => by
      rcases List.mem_cons.mp (pc.mem_iff.mp m) with z | z
      · rw [z]; exact ⟨x, tk, rfl, rfl⟩
      · exact g e z
    have n1 : (fs.toList.map txt).Nodup := pk.nodup_iff.mpr (List.nodup_cons.mpr ⟨hn, nd⟩)
    have m1 : ∀ k, k ∈ ks ++ [x] ↔ k ∈ fs.toList.map txt := fun k => by
      rw [List.mem_append, List.mem_singleton, pk.mem_iff, List.mem_cons, hm k]
      exact Or.comm
    have sz : fs.size = es.size + 1 := by rw [← Array.length_toList, pc.length_eq, List.length_cons, Array.length_toList]
    have kl : (ks ++ [x]).length = ks.length + 1 := by rw [List.length_append]; rfl
    have l1 : w.params.followText "set-order" = true ∨ u.led = true := hl.imp id fun z => by rw [c3]; exact z
    refine wpAny_bind (hgw _ ?_)
    split
    · refine wpAny_bind ?_
      rw [hashByValue_scannable 8 (show (Value.str x tk).scannable = true from rfl)]
      refine wpAny_pure (add_end (ms := ks ++ [x]) ?_ ho hex hd g1 n1 m1 (by omega) (by omega) ?_ ?_ ?_ ?_)
      · intro b z Q' q; cases b <;> first | exact wpAny_pure q | exact wpAny_rule q
      · first | (split <;> first | exact c1 | exact SetTable.fits_plain_off c1) | exact c1
      · first | (split <;> exact c2) | exact c2
      · first | (split <;> exact l1) | exact l1
      · intro h' sb r; dsimp only; exact wpAny_pure (hQ _ h' sb r)
    · refine wpAny_bind (wpAny_pure ?_)
      simp only [↓reduceIte]
      refine add_end (ms := ks ++ [x]) ?_ ho hex hd g1 n1 m1 (by omega) (by omega) c1 c2 l1 ?_
      · intro b z Q' q; cases b <;> first | exact wpAny_pure q | exact wpAny_rule q
      · intro h' sb r; dsimp only; exact wpAny_pure (hQ _ h' sb r)
end
section
variable {prog : Program} {w : World} {A : Around} {R : Result → Shared → Prop} {I S : Addr} {fp wr : List Addr} {G : Array GenState → Array GenState → Prop} {n : Nat} {P : Nat → Value → Prop} {St : Nat → Shared → Prop}
theorem walk (W : WalksS prog w A.in1 I fp wr G n P St) (hf : S ∉ fp) {xs : List Str} (hl : xs.length = n) (hb : n + 1 < scanBound) (hv : ∀ i v, P i v → ∃ t, v = .str (xs.getD i Str.empty) t) :
    ∀ (r i : Nat) (s : Shared), i + r = n → St i s → SetT w s.heap S (xs.take i) → (∀ s', Moved (S :: wr) G s s' → SetT w s'.heap S xs → R (.ok (.ret .none)) s') →
      codeAny (model prog w) A (.builtin "set.update.loop" ⟨[.ref S, .ref I], []⟩) R s := by
  have nw : S ∉ wr := fun z => hf (W.sub _ z)
  have up : ∀ b ∈ wr, b ∈ S :: wr := fun b z => List.mem_cons_of_mem _ z
  intro r
  induction r with
  | zero =>
    intro i s e st hs fin
    cases (show i = n from e)
    refine codeAny_builtin PyProof.Rows.F.entry_set_update_loop ?_; rw [Around.under_plainId PyProof.Rows.F.plain_set_update_loop _]
    show wpAny _ A.in1 (pyNext (.ref I) >>= _) _ _ s; refine wpAny_bind (W.done s _ _ st fun s' m => ?_)
    rw [← hl, List.take_length] at hs
    exact wpAny_pure (fin s' (m.mono up) (hs.to fun o => m.heap S o nw))
  | succ r ih =>
    intro i s e st hs fin
    have li : i < n := by omega
    refine codeAny_builtin PyProof.Rows.F.entry_set_update_loop ?_; rw [Around.under_plainId PyProof.Rows.F.plain_set_update_loop _]
    show wpAny _ A.in1 (pyNext (.ref I) >>= _) _ _ s; refine wpAny_bind (W.item i s _ _ li st fun v s' pv st' m => ?_)
    obtain ⟨t, rfl⟩ := hv i v pv
    have hs' := hs.to fun o => m.heap S o nw
    show wpAny _ A.in1 (holding [Value.str (xs.getD i Str.empty) t] (setAdd S (.str (xs.getD i Str.empty) t)) >>= _) _ _ s'; refine wpAny_bind (wpAny_holding ?_)
    unfold setAdd
    refine wpAny_holding (wpAny_bind ((PySem.strKind prog w).pyHash (k := xs.getD i Str.empty) (strKind_is _ _ _ _) ?_))
    have tl : (xs.take i).length = i := by rw [List.length_take]; omega
    refine add (s := { s' with toks := s'.toks + 1 }) hs' (by rw [tl]; omega) fun b h' but h2 => ?_
    have hs2 : SetT w h' S (xs.take (i + 1)) := by
      have e1 : xs.take (i + 1) = xs.take i ++ [xs.getD i Str.empty] := by
        rw [List.take_add_one, List.getElem?_eq_getElem (by omega), List.getD_eq_getElem?_getD, List.getElem?_eq_getElem (by omega)]
        rfl
      rw [e1]
      exact h2
    refine wpAny_pure ⟨plainId_quiet PyProof.Rows.F.plain_set_update_loop _, ih (i + 1) _ (by omega) (W.frame _ s' _ _ st' (Nat.le_succ _) fun b hb o eo => ?_) hs2 fun s2 m2 h3 => ?_⟩
    · rw [but.2 b (fun z : b = S => hf (z ▸ hb))]
      exact eo
    · refine fin s2 (Moved.trans W.gtrans ((m.mono up).then_heap (Nat.le_succ _) fun b o hb eo => ?_) m2) h3
      rw [but.2 b (fun z : b = S => hb (z ▸ List.mem_cons_self))]
      exact eo
end
/-- a new set -/
abbrev new (w : World) : Obj := { cls := .type "set", dict := none, data := .set #[] 0 (.fresh 0 0 (!w.params.followText "set-order")) }
theorem new_at {w : World} {h : Heap} {a : Addr} (ho : h.get? a = some (new w)) : SetT w h a [] :=
  ⟨_, #[], 0, _, ho, ⟨rfl, rfl, rfl⟩, rfl, fun e m => by simp at m, by simp, fun k => by simp, Nat.le_refl _, by rfl, List.Pairwise.nil, by
    show _ ∨ (!w.params.followText "set-order") = true
    cases w.params.followText "set-order"
    · exact .inr rfl
    · exact .inl rfl⟩
section
variable {prog : Program} {w : World} {A : Around} {E : Value → Shared → Prop} {s : Shared}
/-- how the call of set ends -/
abbrev EndOf (w : World) (xs : List Str) (s : Shared) (s2 : Shared) : Prop := ∃ h' tk, s2 = { s with heap := h', toks := tk } ∧ SetT w h' s.heap.objs.size xs ∧ ∀ b o, s.heap.get? b = some o → h'.get? b = some o
set_option maxHeartbeats 8000000 in
/-- set(xs), given what __init__ does with the new set -/
theorem call_by {l : Addr} {xs : List Str} {Q : Value → Shared → Prop}
    (hi : wpAny (model prog w) A.in1.in1 (Builtin.«set.__init__» ⟨[.ref s.heap.objs.size, .ref l], []⟩)
      (fun fin s' => match fin with | .done f => wants (fun r s₂ => r = .none ∧ EndOf w xs s s₂) E (.ok f) s' | .again c' => c'.quiet = true ∧ codeAny (model prog w) A.in1 c' (wants (fun r s₂ => r = .none ∧ EndOf w xs s s₂) E) s')
      (fun e s' => wants (fun r s₂ => r = .none ∧ EndOf w xs s s₂) E (.error e) s') { s with heap := s.heap.push (new w) })
    (h : ∀ s2, EndOf w xs s s2 → Q (.ref s.heap.objs.size) s2) : wpAny (model prog w) A (call (.type "set") [.ref l]) Q E s := by
  obtain ⟨c0, t0, mro0⟩ := PySem.F.called_set.mro
  have made0 := PySem.F.called_set.made; have sub0 := PySem.F.called_set.sub
  refine wpAny_call (codeAny_of_tree ?_); show wpAny _ _ (callAny (.type "set") _) _ _ _
  refine wpAny_pure ⟨Code.quiet_builtin _ (by decide +kernel), codeAny_builtin PySem.F.entry_type_call ?_⟩; rw [Around.under_plain (weight_type_call_type "set" [.ref l] []) rfl]
  have nt0 := PySem.F.called_set.notType; have cc0 := PySem.F.called_set.canCreate; have ct0 := PySem.F.typeCall_set_1 (.ref l)
  (repeat (any_goals (first | assumption | wp_step)))
  refine codeAny_mono (code_set_led1 (.ref l) (E := E) (Q₁ := fun ob s1 => ob = .ref s.heap.objs.size ∧ s1 = { s with heap := s.heap.push (new w) }) ⟨rfl, rfl⟩) fun r s1 hr => ?_
  match r, hr with
  | .error e, hr => exact hr
  | .ok .next, hr => exact hr.elim
  | .ok .brk, hr => exact hr.elim
  | .ok .cont, hr => exact hr.elim
  | .ok (.ret ob), hr =>
    obtain ⟨rfl, rfl⟩ := hr
    have at0 : (s.heap.push (new w)).get? s.heap.objs.size = some (new w) := Heap.get?_push_size _ rfl
    have ty0 : Shared.TypeIs { s with heap := s.heap.push (new w) } (.ref s.heap.objs.size) "set" := ⟨_, at0, rfl⟩
    have lo0 := PySem.F.called_set.init.lookup; have bi0 := PySem.F.called_set.init.bind (.ref s.heap.objs.size)
    (repeat (any_goals (first | assumption | wp_step)))
    refine codeAny_mono (codeAny_call_builtin (R := wants (fun r s₂ => r = .none ∧ EndOf w xs s s₂) E) PySem.F.called_set.init.plain PySem.F.entry_set_init (check_set_init_1 ty0 hi)) fun r2 s2 hr2 => ?_
    match r2, hr2 with
    | .error e, hr2 => exact hr2
    | .ok .next, hr2 => exact hr2.elim
    | .ok .brk, hr2 => exact hr2.elim
    | .ok .cont, hr2 => exact hr2.elim
    | .ok (.ret v), hr2 =>
      obtain ⟨rfl, en⟩ := hr2
      have q := h s2 en
      obtain ⟨h', tk, rfl, h1, h2⟩ := en
      (repeat (any_goals (first | assumption | wp_step)))
set_option maxHeartbeats 8000000 in
theorem call_tup {l : Addr} {items : Array Value} {xs : List Str} {Q : Value → Shared → Prop} (hh : A.handled = none) (hl : s.heap.IsTuple l items) (hi : PyProof.Rows.StrsAre items.toList xs) (hb : xs.length + 1 < scanBound)
    (h : ∀ s2, EndOf w xs s s2 → Q (.ref s.heap.objs.size) s2) : wpAny (model prog w) A (call (.type "set") [.ref l]) Q E s := by
  refine call_by (xs := xs) ?_ h
  obtain ⟨ol, ho, hc, nl, hd⟩ := hl
  obtain ⟨cl, dc, dt, sl⟩ := ol
  simp only at hc hd
  subst hc; subst hd
  have o1 : (s.heap.push (new w)).get? l = some { cls := .type "tuple", dict := dc, data := .seq items nl, slots := sl } := Heap.get?_push_of_some _ ho
  have l1 : (s.heap.push (new w)).IsTuple l items := ⟨_, o1, rfl, nl, rfl⟩
  have at0 : (s.heap.push (new w)).get? s.heap.objs.size = some (new w) := Heap.get?_push_size _ rfl
  have u1 := PySem.F.sub_tuple_set; have u2 := PySem.F.sub_tuple_frozenset; have u3 : (Value.type "tuple" == Value.type "dict") = false := by decide
  unfold Builtin.«set.__init__» noKeywords Builtin.Frozenset.updateFrom; generalize hp : pyIter = pit
  wp_walk
  subst hp
  refine wpAny_pyIter_tuple l1 (wpAny_bind (wpAny_runValue ?_))
  have ls : l < s.heap.objs.size := Heap.lt_size ho
  have h3 : A.in1.in1.in1.handled = none := by simp [hh]
  have ne1 : l ≠ (s.heap.push (new w)).objs.size := by rw [Heap.size_push]; exact Nat.ne_of_lt (Nat.lt_succ_of_lt ls)
  have nf : s.heap.objs.size ∉ [(s.heap.push (new w)).objs.size, l] := by
    rw [Heap.size_push]
    intro z
    simp only [List.mem_cons, List.not_mem_nil, or_false] at z
    rcases z with z | z
    · exact Nat.ne_of_lt (Nat.lt_succ_self _) z
    · exact Nat.ne_of_gt ls z
  have sz : xs.length = items.size := by rw [← StrsAre.len_eq hi, Array.length_toList]
  refine walk ((Walks.tuple h3 _ l ne1 items).toS) nf sz (by omega) (fun i v hv => SS.strs_at hi i v (by rw [Array.getElem?_toList]; exact hv)) items.size 0 _ (by omega) ⟨⟨_, Heap.get?_push_size _ rfl, rfl, rfl⟩, l1.push _⟩ ?_ ?_
  · rw [List.take_zero]
    exact new_at (Heap.get?_push_of_some _ at0)
  · intro s' hm hs'
    obtain ⟨h', g', d', tk', os'⟩ := s'
    cases (show g' = s.gens from hm.gens); cases (show d' = s.drawn from hm.drawn); cases (show os' = s.os from hm.os)
    show wpAny _ _ _ _ _ _
    refine wpAny_pure ?_
    show wpAny _ _ (ret Value.none) _ _ _
    refine wpAny_pure ⟨rfl, h', tk', rfl, hs', fun b o e => ?_⟩
    have lb : b < s.heap.objs.size := Heap.lt_size e
    refine hm.heap b o (fun z => ?_) (Heap.get?_push_of_some _ (Heap.get?_push_of_some _ e))
    rw [Heap.size_push] at z
    simp only [List.mem_cons, List.not_mem_nil, or_false] at z
    rcases z with z | z
    · exact Nat.ne_of_lt lb z
    · exact Nat.ne_of_lt (Nat.lt_succ_of_lt lb) z
set_option maxHeartbeats 8000000 in
theorem call_lst {l : Addr} {items : Array Value} {xs : List Str} {Q : Value → Shared → Prop} (hh : A.handled = none) (hl : s.heap.IsList l items) (hi : PyProof.Rows.StrsAre items.toList xs) (hb : xs.length + 1 < scanBound)
    (h : ∀ s2, EndOf w xs s s2 → Q (.ref s.heap.objs.size) s2) : wpAny (model prog w) A (call (.type "set") [.ref l]) Q E s := by
  refine call_by (xs := xs) ?_ h
  obtain ⟨ol, ho, hc, nl, hd⟩ := hl
  obtain ⟨cl, dc, dt, sl⟩ := ol
  simp only at hc hd
  subst hc; subst hd
  have o1 : (s.heap.push (new w)).get? l = some { cls := .type "list", dict := dc, data := .seq items nl, slots := sl } := Heap.get?_push_of_some _ ho
  have l1 : (s.heap.push (new w)).IsList l items := ⟨_, o1, rfl, nl, rfl⟩
  have at0 : (s.heap.push (new w)).get? s.heap.objs.size = some (new w) := Heap.get?_push_size _ rfl
  have u1 := PySem.F.sub_list_set; have u2 := PySem.F.sub_list_frozenset; have u3 : (Value.type "list" == Value.type "dict") = false := by decide
  unfold Builtin.«set.__init__» noKeywords Builtin.Frozenset.updateFrom; generalize hp : pyIter = pit
  wp_walk
  subst hp
  refine wpAny_pyIter_list l1 (wpAny_bind (wpAny_runValue ?_))
  have ls : l < s.heap.objs.size := Heap.lt_size ho
  have h3 : A.in1.in1.in1.handled = none := by simp [hh]
  have ne1 : l ≠ (s.heap.push (new w)).objs.size := by rw [Heap.size_push]; exact Nat.ne_of_lt (Nat.lt_succ_of_lt ls)
  have nf : s.heap.objs.size ∉ [(s.heap.push (new w)).objs.size, l] := by
    rw [Heap.size_push]
    intro z
    simp only [List.mem_cons, List.not_mem_nil, or_false] at z
    rcases z with z | z
    · exact Nat.ne_of_lt (Nat.lt_succ_self _) z
    · exact Nat.ne_of_gt ls z
  have sz : xs.length = items.size := by rw [← StrsAre.len_eq hi, Array.length_toList]
  refine walk ((Walks.list h3 _ l ne1 items).toS) nf sz (by omega) (fun i v hv => SS.strs_at hi i v (by rw [Array.getElem?_toList]; exact hv)) items.size 0 _ (by omega) ⟨⟨_, Heap.get?_push_size _ rfl, rfl, rfl⟩, l1.push _⟩ ?_ ?_
  · rw [List.take_zero]
    exact new_at (Heap.get?_push_of_some _ at0)
  · intro s' hm hs'
    obtain ⟨h', g', d', tk', os'⟩ := s'
    cases (show g' = s.gens from hm.gens); cases (show d' = s.drawn from hm.drawn); cases (show os' = s.os from hm.os)
    show wpAny _ _ _ _ _ _
    refine wpAny_pure ?_
    show wpAny _ _ (ret Value.none) _ _ _
    refine wpAny_pure ⟨rfl, h', tk', rfl, hs', fun b o e => ?_⟩
    have lb : b < s.heap.objs.size := Heap.lt_size e
    refine hm.heap b o (fun z => ?_) (Heap.get?_push_of_some _ (Heap.get?_push_of_some _ e))
    rw [Heap.size_push] at z
    simp only [List.mem_cons, List.not_mem_nil, or_false] at z
    rcases z with z | z
    · exact Nat.ne_of_lt lb z
    · exact Nat.ne_of_lt (Nat.lt_succ_of_lt lb) z
end
/-! ### as data -/
def txV : Value → Str | .str x _ => x | _ => Str.empty
theorem txt_is (e : Int × Value) : txt e = txV e.2 := by
  obtain ⟨i, v⟩ := e
  cases v <;> rfl
theorem vals_txt : ∀ {us : List Value}, (∀ v ∈ us, ∃ x tk, v = Value.str x tk) → Vals ((us.map txV).map V.str) us
  | [], _ => .nil
  | v :: us, h => by
    obtain ⟨x, tk, rfl⟩ := h v List.mem_cons_self
    exact .cons ⟨tk, rfl⟩ (vals_txt fun u m => h u (List.mem_cons_of_mem _ m))
theorem each_txt {h : Heap} : ∀ {us : List Value}, (∀ v ∈ us, ∃ x tk, v = Value.str x tk) → PySem.W.EachIs (fun v d => ∃ as, Reads h v d as) us ((us.map txV).map PyData.str)
  | [], _ => .nil
  | v :: us, h => by
    obtain ⟨x, tk, rfl⟩ := h v List.mem_cons_self
    exact .cons ⟨[], .str x tk⟩ (each_txt fun u m => h u (List.mem_cons_of_mem _ m))
theorem alike (xs : List Str) : PySem.W.AllAlike (xs.map PyData.str) := fun d h1 d' h2 => by
  obtain ⟨x, _, rfl⟩ := List.mem_map.mp h1
  obtain ⟨y, _, rfl⟩ := List.mem_map.mp h2
  rfl
theorem sortable (xs : List Str) : PySem.W.Sortable (xs.map PyData.str) := .inr fun d h1 => by
  obtain ⟨x, _, rfl⟩ := List.mem_map.mp h1
  refine ⟨fun z => ?_, fun l z => ?_⟩ <;> cases z
section
variable {P : Program} {w : World} {A : Around} {E : Value → Shared → Prop} {s : Shared}
theorem sorted_at {a : Addr} {ks : List Str} {Q : Value → Shared → Prop} (R : SetT w s.heap a ks) (hh : A.handled = none) (hu : A.units + 64 < cLine) (hk : ks.length < scanBound)
    (hQ : ∀ s' p (out : List Value) (c : Nat) (ys : List Str), (∀ b o, s.heap.get? b = some o → s'.heap.get? b = some o) → s'.gens = s.gens → s'.os = s.os → s.heap.objs.size ≤ p → s'.heap.get? p = some (seqObj "list" out.toArray c) →
      Vals (ys.map V.str) out → ys.Pairwise SRT.leS → ys.Nodup → (∀ k, k ∈ ys ↔ k ∈ ks) → ys.length ≤ ks.length → Q (.ref p) s') :
    wpAny (model P w) A (call (.builtin "sorted") [.ref a]) Q E s := by
  obtain ⟨o, es, ep, t, ho, hex, hd, g, nd, hm, hb, hf, hr, hl⟩ := R
  refine Calls.call_function_entry kind_sorted plain_sorted entry_sorted (args_sorted1 _) ?_
  unfold Builtin.«sorted»
  refine wpAny_bind (m := checkCount "sorted" 1 1 _) (wpAny_pure (wpAny_bind (collect_set (A := A.in1) hh ⟨o, ho, hex.1, hd⟩ hf (by omega) hr hl fun s1 vs k1 hz g1 o1 pm => ?_)))
  have lv : vs.length = es.size := by rw [pm.length_eq, List.length_map, Array.length_toList]
  have tv : ∀ v ∈ vs, ∃ x tk, v = Value.str x tk := fun v m => by
    obtain ⟨e, me, q⟩ := List.mem_map.mp (pm.mem_iff.mp m)
    obtain ⟨x, tk, h1, _⟩ := g e me
    exact ⟨x, tk, by rw [← q]; exact h1⟩
  have pt : (vs.map txV).Perm (es.toList.map txt) := by
    have q := pm.map txV
    rw [List.map_map] at q
    have e : (txV ∘ fun e : Int × Value => e.2) = txt := funext fun e => (txt_is e).symm
    rw [e] at q
    exact q
  have hsz : vs.length ≤ sizeLine := by rw [lv]; exact fits_of_scanBound (by omega)
  refine wpAny_bind (wpAny_newList ?_ hsz)
  have at1 : (s1.heap.push (seqObj "list" vs.toArray 0)).get? s1.heap.objs.size = some (seqObj "list" vs.toArray 0) := Heap.get?_push_size _ rfl
  have e2 : PySem.W.EachIs (fun v d => ∃ as, Reads (PySem.W.sortingHeap (s1.heap.push (seqObj "list" vs.toArray 0)) s1.heap.objs.size vs) v d as) vs ((vs.map txV).map PyData.str) := each_txt tv
  have S := PySem.W.SortsAt.data (prog := P) (w := w) (A := A.in1.in1) (s := { s1 with heap := PySem.W.sortingHeap (s1.heap.push (seqObj "list" vs.toArray 0)) s1.heap.objs.size vs }) e2 (alike _) (sortable _) (fun d hd => by
    obtain ⟨x, _, rfl⟩ := List.mem_map.mp hd
    show A.units + 1 + 1 + 0 < cLine
    omega)
  have rv := vals_txt tv
  have ek : PySem.W.EachIs (fun v (b : V × PyData) => (PySem.W.dataKind (PySem.W.sortingHeap (s1.heap.push (seqObj "list" vs.toArray 0)) s1.heap.objs.size vs) ((vs.map txV).map PyData.str)).keyOf v = some (PySem.W.keyToks b.2)) vs (((vs.map txV).map V.str).zip ((vs.map txV).map PyData.str)) := by
    have f := PySem.W.each_keys (alike _) e2
    have mz : (((vs.map txV).map V.str).zip ((vs.map txV).map PyData.str)).map Prod.snd = (vs.map txV).map PyData.str := List.map_snd_zip (by simp)
    rw [← mz] at f
    have f' := PySem.W.each_of_map (fun b : V × PyData => b.2) f
    rw [mz] at f'
    exact f'
  have eo := PySem.W.sortVals_each (κ := PySem.W.dataKind (PySem.W.sortingHeap (s1.heap.push (seqObj "list" vs.toArray 0)) s1.heap.objs.size vs) ((vs.map txV).map PyData.str)) (rev := false) (fun b : V × PyData => PySem.W.keyToks b.2) (SRT.vals_each rv (by simp)) ek
  have vo := SRT.each_vals eo
  refine wpAny_bind (wpAny_holding (wpAny_call_entry slot_list_sort ⟨_, at1, rfl⟩ entry_list_sort (PySem.W.list_sort_vals (s := { s1 with heap := s1.heap.push (seqObj "list" vs.toArray 0) }) at1 S hsz ?_) (args_list_sort _)))
  obtain ⟨c, hc⟩ := sortedHeap_at (vs := vs) (out := (PySem.W.sortVals _ false vs vs).toArray) at1
  refine ⟨_, rfl, wpAny_pure ⟨_, rfl, ?_⟩⟩
  obtain ⟨ys, ey, py, wy⟩ := SRT.srtS (vs.map txV)
  have pt2 := py.trans pt
  refine hQ _ s1.heap.objs.size _ c ys (fun b u e => ?_) g1 o1 hz hc (by rw [← ey]; exact vo) wy (pt2.nodup_iff.mpr nd) (fun k => by rw [pt2.mem_iff, ← hm k]) (by rw [pt2.length_eq, List.length_map, Array.length_toList]; exact hb)
  have q := k1 b u e
  have lt := Heap.lt_size q
  show (sortedHeap (s1.heap.push (seqObj "list" vs.toArray 0)) s1.heap.objs.size vs _).get? b = some u
  rw [sortedHeap_old (Nat.ne_of_lt lt) (by rw [size_push']; exact Nat.lt_succ_of_lt lt)]
  exact Heap.get?_push_of_some _ q
end
section
variable {X : Cx}
/-- sorted(set(xs)) of texts -/
def tSortedSet (K : PySem.W.Frag) (ta : TE) : TE := fun σ H Q => ta σ H fun x H1 => ∃ (l : Addr) (xs : List Str), x = .ref l ∧ (SqL K H1 l (xs.map V.str) ∨ SqT K H1 l (xs.map V.str)) ∧ xs.length < 64 ∧
  ∀ (ys : List Str) (p : Addr), ys.Pairwise SRT.leS → ys.Nodup → (∀ k, k ∈ ys ↔ k ∈ xs) → H1 p = none → Q (.ref p) (upd H1 p (.lst (ys.map V.str)))
theorem pe_sortedSet {a : Expr} {ta : TE} {p p2 q pos : Pos} (hc : X.calm = true) (hu : X.A.units + 64 < cLine) (hg : Gl X "sorted") (hm : X.mg "sorted" = none) (hg2 : Gl X "set") (hm2 : X.mg "set" = none) (ha : PE X a ta)
    (na : starEach [a] X.env = (false, eval a X.env) :: starEach [] X.env := by rfl) : PE X (.Call (.Name "sorted" p) [.Call (.Name "set" p2) [a] [] q] [] pos) (tSortedSet X.K ta) := by
  refine ⟨fun pins s σ H Q I h => Call_ (ld_blt I hg hm boot_sorted (PyProof.Rows.callWith_builtin1 (PyProof.Rows.args_cons (Call_ (ld_blt I hg2 hm2 boot_set ?_)) rfl) rfl rfl))⟩
  refine PyProof.Rows.callWith_type1 (PyProof.Rows.args_cons (thn (ha.run pins s σ H _ I h) fun v s1 ⟨x, H1, I1, r1, z1⟩ => PyProof.Rows.args_nil ?_) na) na rfl
  obtain ⟨l, xs, rfl, hs, h6, q1⟩ := z1
  cases r1
  have sb : xs.length + 1 < scanBound := by unfold scanBound; omega
  have fin : ∀ s2, EndOf X.w xs s1 s2 → wpAny (model X.prog X.w) X.A (spliced (backTo pos (starEach [] X.env))) (fun vs s₂ => wpAny (model X.prog X.w) X.A (call (.builtin "sorted") (Value.ref s1.heap.objs.size :: vs)) (EP X pins σ Q) X.xe s₂) X.xe s2 := by
    rintro s2 ⟨h', tk, e2, hS0, hk⟩
    have I2 : Inv X pins σ H1 s2 := by rw [e2]; exact I1.kept hk
    have hS : SetT X.w s2.heap s1.heap.objs.size xs := by rw [e2]; exact hS0
    clear e2 hS0 hk
    refine PyProof.Rows.args_nil ?_
    refine sorted_at (s := s2) hS (I1.ok.hd hc) hu (by omega) fun s' p out c ys k g o hp hg' vo wy nd mm ly => ?_
    have hlen : (ys.map V.str).length ≤ sizeLine := by
      rw [List.length_map]
      exact Nat.le_trans (Nat.le_trans ly (Nat.le_of_lt h6)) (by decide)
    have hn : H1 p = none := I2.hok.fresh hp
    have J : Inv X pins σ (upd H1 p (.lst (ys.map V.str))) { s2 with heap := s'.heap, gens := s'.gens, drawn := s'.drawn, toks := s'.toks } :=
      I2.call (ch := []) (Un.laid k hp hn) (I2.hok.laid k hp ⟨hlen, out, c, vo, hg'⟩) (by rw [g]; exact I2.bare) (fun _ z => nomatch z)
    have e : s' = { s2 with heap := s'.heap, gens := s'.gens, drawn := s'.drawn, toks := s'.toks } := by
      cases s'
      cases s2
      cases o
      rfl
    rw [e]
    exact ⟨.ref p, _, J, rfl, q1 ys p wy nd mm hn⟩
  rcases hs with hs | hs
  · obtain ⟨its, r, pl, hz⟩ := I1.list hs
    exact call_lst (I1.ok.hd hc) pl.isList (by simpa using strsAre_of r) sb fin
  · obtain ⟨its, r, pl, hz⟩ := I1.tuple hs
    exact call_tup (I1.ok.hd hc) pl (by simpa using strsAre_of r) sb fin
end
end SST
set_option Elab.async false
set_option linter.all false
set_option maxRecDepth 100000
set_option maxHeartbeats 4000000
/-! EQD: a dict beside things of other kinds: never equal; x in a list or tuple of any things, == and != of lists of any things. -/
namespace EQD
open PySem PySem.Spec PyProof.Rows L2
open PySem.SeqAt
abbrev dO (es : Array DictEntry) (ep : Nat) (dd : Option Addr) (sl : Array (Option Value)) : Obj := { cls := .type "dict", dict := dd, data := .dict es ep, slots := sl }

theorem dict_declines_none (l : Addr) (es : Array DictEntry) (ep : Nat) (dd : Option Addr) (sl : Array (Option Value))  :
    Meets (Builtin.«dict.__eq__» ⟨[.ref l, .none], []⟩) (fun _ R s => s.heap.get? l = some (dO es ep dd sl) ∧ R (.ok (.ret .notImplemented)) s) :=
  .of_wp fun prog w A R s h => by obtain ⟨hp, g, d, tk, os⟩ := s; obtain ⟨hl, h⟩ := h; have f1 := F.sub_NoneType_dict; wp_walk using wpAny_loadPart' hl; exact ⟨_, rfl, h⟩
theorem dict_declines_bool (l : Addr) (es : Array DictEntry) (ep : Nat) (dd : Option Addr) (sl : Array (Option Value)) (b : Bool) :
    Meets (Builtin.«dict.__eq__» ⟨[.ref l, .bool b], []⟩) (fun _ R s => s.heap.get? l = some (dO es ep dd sl) ∧ R (.ok (.ret .notImplemented)) s) :=
  .of_wp fun prog w A R s h => by obtain ⟨hp, g, d, tk, os⟩ := s; obtain ⟨hl, h⟩ := h; have f1 := F.sub_bool_dict; wp_walk using wpAny_loadPart' hl; exact ⟨_, rfl, h⟩
theorem dict_declines_int (l : Addr) (es : Array DictEntry) (ep : Nat) (dd : Option Addr) (sl : Array (Option Value)) (b : Int) (u : Tok) :
    Meets (Builtin.«dict.__eq__» ⟨[.ref l, .int b u], []⟩) (fun _ R s => s.heap.get? l = some (dO es ep dd sl) ∧ R (.ok (.ret .notImplemented)) s) :=
  .of_wp fun prog w A R s h => by obtain ⟨hp, g, d, tk, os⟩ := s; obtain ⟨hl, h⟩ := h; have f1 := F.sub_int_dict; wp_walk using wpAny_loadPart' hl; exact ⟨_, rfl, h⟩
theorem dict_declines_str (l : Addr) (es : Array DictEntry) (ep : Nat) (dd : Option Addr) (sl : Array (Option Value)) (b : Str) (u : Tok) :
    Meets (Builtin.«dict.__eq__» ⟨[.ref l, .str b u], []⟩) (fun _ R s => s.heap.get? l = some (dO es ep dd sl) ∧ R (.ok (.ret .notImplemented)) s) :=
  .of_wp fun prog w A R s h => by obtain ⟨hp, g, d, tk, os⟩ := s; obtain ⟨hl, h⟩ := h; have f1 := F.sub_str_dict; wp_walk using wpAny_loadPart' hl; exact ⟨_, rfl, h⟩
theorem bool_declines_dict (l : Addr) (es : Array DictEntry) (ep : Nat) (dd : Option Addr) (sl : Array (Option Value)) (b : Bool) :
    Meets (Builtin.«int.__eq__» ⟨[.bool b, .ref l], []⟩) (fun _ R s => s.heap.get? l = some (dO es ep dd sl) ∧ R (.ok (.ret .notImplemented)) s) :=
  .of_wp fun prog w A R s h => by obtain ⟨hp, g, d, tk, os⟩ := s; obtain ⟨hl, h⟩ := h; wp_walk using wpAny_loadPart' hl, wpAny_load hl; exact ⟨_, rfl, h⟩
theorem int_declines_dict (l : Addr) (es : Array DictEntry) (ep : Nat) (dd : Option Addr) (sl : Array (Option Value)) (b : Int) (u : Tok) :
    Meets (Builtin.«int.__eq__» ⟨[.int b u, .ref l], []⟩) (fun _ R s => s.heap.get? l = some (dO es ep dd sl) ∧ R (.ok (.ret .notImplemented)) s) :=
  .of_wp fun prog w A R s h => by obtain ⟨hp, g, d, tk, os⟩ := s; obtain ⟨hl, h⟩ := h; wp_walk using wpAny_loadPart' hl, wpAny_load hl; exact ⟨_, rfl, h⟩
theorem str_declines_dict (l : Addr) (es : Array DictEntry) (ep : Nat) (dd : Option Addr) (sl : Array (Option Value)) (b : Str) (u : Tok) :
    Meets (Builtin.«str.__eq__» ⟨[.str b u, .ref l], []⟩) (fun _ R s => s.heap.get? l = some (dO es ep dd sl) ∧ R (.ok (.ret .notImplemented)) s) :=
  .of_wp fun prog w A R s h => by obtain ⟨hp, g, d, tk, os⟩ := s; obtain ⟨hl, h⟩ := h; wp_walk using wpAny_loadPart' hl, wpAny_load hl; exact ⟨_, rfl, h⟩
theorem dict_declines_list (l b : Addr) (es : Array DictEntry) (ep : Nat) (dd dd2 : Option Addr) (sl sl2 : Array (Option Value)) (items : Array Value) (n : Nat) :
    Meets (Builtin.«dict.__eq__» ⟨[.ref l, .ref b], []⟩) (fun _ R s => s.heap.get? l = some (dO es ep dd sl) ∧ s.heap.get? b = some { cls := .type "list", dict := dd2, data := .seq items n, slots := sl2 } ∧ R (.ok (.ret .notImplemented)) s) :=
  .of_wp fun prog w A R s h => by obtain ⟨hp, g, d, tk, os⟩ := s; obtain ⟨hl, hb, h⟩ := h; have f1 := F.sub_list_dict; wp_walk using wpAny_loadPart' hl, wpAny_loadPart' hb; exact ⟨_, rfl, h⟩
theorem list_declines_dict (l b : Addr) (es : Array DictEntry) (ep : Nat) (dd dd2 : Option Addr) (sl sl2 : Array (Option Value)) (items : Array Value) (n : Nat) :
    Meets (Builtin.«list.__eq__» ⟨[.ref b, .ref l], []⟩) (fun _ R s => s.heap.get? l = some (dO es ep dd sl) ∧ s.heap.get? b = some { cls := .type "list", dict := dd2, data := .seq items n, slots := sl2 } ∧ R (.ok (.ret .notImplemented)) s) :=
  .of_wp fun prog w A R s h => by obtain ⟨hp, g, d, tk, os⟩ := s; obtain ⟨hl, hb, h⟩ := h; have f1 := F.sub_dict_list; wp_walk using wpAny_loadPart' hl, wpAny_loadPart' hb; exact ⟨_, rfl, h⟩
theorem dict_declines_tuple (l b : Addr) (es : Array DictEntry) (ep : Nat) (dd dd2 : Option Addr) (sl sl2 : Array (Option Value)) (items : Array Value) (n : Nat) :
    Meets (Builtin.«dict.__eq__» ⟨[.ref l, .ref b], []⟩) (fun _ R s => s.heap.get? l = some (dO es ep dd sl) ∧ s.heap.get? b = some { cls := .type "tuple", dict := dd2, data := .seq items n, slots := sl2 } ∧ R (.ok (.ret .notImplemented)) s) :=
  .of_wp fun prog w A R s h => by obtain ⟨hp, g, d, tk, os⟩ := s; obtain ⟨hl, hb, h⟩ := h; have f1 := F.sub_tuple_dict; wp_walk using wpAny_loadPart' hl, wpAny_loadPart' hb; exact ⟨_, rfl, h⟩
theorem tuple_declines_dict (l b : Addr) (es : Array DictEntry) (ep : Nat) (dd dd2 : Option Addr) (sl sl2 : Array (Option Value)) (items : Array Value) (n : Nat) :
    Meets (Builtin.«tuple.__eq__» ⟨[.ref b, .ref l], []⟩) (fun _ R s => s.heap.get? l = some (dO es ep dd sl) ∧ s.heap.get? b = some { cls := .type "tuple", dict := dd2, data := .seq items n, slots := sl2 } ∧ R (.ok (.ret .notImplemented)) s) :=
  .of_wp fun prog w A R s h => by obtain ⟨hp, g, d, tk, os⟩ := s; obtain ⟨hl, hb, h⟩ := h; have f1 := F.sub_dict_tuple; wp_walk using wpAny_loadPart' hl, wpAny_loadPart' hb; exact ⟨_, rfl, h⟩
/-- a dict stands at l -/
def IsDct (h : Heap) (l : Addr) : Prop := ∃ (o : Obj) (es : Array DictEntry) (ep : Nat), h.get? l = some o ∧ o.cls = .type "dict" ∧ o.data = .dict es ep
section
variable {A : Around} {s : Shared}
theorem RcAt_dict_none {l : Addr}  (hl : IsDct s.heap l) (hu : A.units < cLine) : RcAt A s (.ref l) .none false := fun prog w E Q h => by
  obtain ⟨⟨cls, dd, data, sl⟩, es, ep, ho, hc, hd⟩ := id hl
  simp only at hc hd
  subst hc hd
  exact rc_eq_decline_or (k := false) ⟨_, ho, rfl⟩ rfl (by decide) F.sub_NoneType_dict F.slot_dict_eq F.slot_NoneType_eq_refl
    (fun _ hq => call_meets F.slot_dict_eq ⟨_, ho, rfl⟩ F.entry_dict_eq (F.args_dict_eq_2 _ _) (dict_declines_none l es ep dd sl ) ⟨ho, hq⟩)
    (fun _ hq => call_gives F.slot_NoneType_eq_refl rfl F.entry_NoneType_eq (F.args_NoneType_eq_2 _ _) (NoneType___eq___none_ref_0 l) hq)
    (fun _ hq => wpAny_of_eq (rfl : isSame (.ref l) .none = pure false) hq) (.inr hu) h
theorem RcAt_none_dict {l : Addr}  (hl : IsDct s.heap l) (hu : A.units < cLine) : RcAt A s .none (.ref l) false := fun prog w E Q h => by
  obtain ⟨⟨cls, dd, data, sl⟩, es, ep, ho, hc, hd⟩ := id hl
  simp only at hc hd
  subst hc hd
  exact rc_eq_decline_or (k := false) rfl ⟨_, ho, rfl⟩ (by decide) F.sub_dict_NoneType F.slot_NoneType_eq F.slot_dict_eq_refl
    (fun _ hq => call_gives F.slot_NoneType_eq rfl F.entry_NoneType_eq (F.args_NoneType_eq_2 _ _) (NoneType___eq___none_ref_0 l) hq)
    (fun _ hq => call_meets F.slot_dict_eq_refl ⟨_, ho, rfl⟩ F.entry_dict_eq (F.args_dict_eq_2 _ _) (dict_declines_none l es ep dd sl ) ⟨ho, hq⟩)
    (fun _ hq => wpAny_of_eq (rfl : isSame .none (.ref l) = pure false) hq) (.inr hu) h
theorem EqAt_dict_none {l : Addr}  (hl : IsDct s.heap l) (hu : A.units < cLine) : EqAt A s (.ref l) .none false := fun prog w E Q h => by
  unfold eqBool
  refine wpAny_holding ?_
  refine wpAny_ite_split (fun hab => absurd (eq_of_beq hab) nofun) (fun _ => ?_)
  exact wpAny_bind (RcAt_dict_none  hl hu prog w E _ (wpAny_truthy_bool h))
theorem EqAt_none_dict {l : Addr}  (hl : IsDct s.heap l) (hu : A.units < cLine) : EqAt A s .none (.ref l) false := fun prog w E Q h => by
  unfold eqBool
  refine wpAny_holding ?_
  refine wpAny_ite_split (fun hab => absurd (eq_of_beq hab) nofun) (fun _ => ?_)
  exact wpAny_bind (RcAt_none_dict  hl hu prog w E _ (wpAny_truthy_bool h))
theorem RcAt_dict_bool {l : Addr} (b : Bool) (hl : IsDct s.heap l) (hu : A.units < cLine) : RcAt A s (.ref l) (.bool b) false := fun prog w E Q h => by
  obtain ⟨⟨cls, dd, data, sl⟩, es, ep, ho, hc, hd⟩ := id hl
  simp only at hc hd
  subst hc hd
  exact rc_eq_decline_or (k := false) ⟨_, ho, rfl⟩ rfl (by decide) F.sub_bool_dict F.slot_dict_eq F.slot_bool_eq_refl
    (fun _ hq => call_meets F.slot_dict_eq ⟨_, ho, rfl⟩ F.entry_dict_eq (F.args_dict_eq_2 _ _) (dict_declines_bool l es ep dd sl b) ⟨ho, hq⟩)
    (fun _ hq => call_meets F.slot_bool_eq_refl rfl F.entry_int_eq (F.args_int_eq_2 _ _) (bool_declines_dict l es ep dd sl b) ⟨ho, hq⟩)
    (fun _ hq => wpAny_of_eq (rfl : isSame (.ref l) (.bool b) = pure false) hq) (.inr hu) h
theorem RcAt_bool_dict {l : Addr} (b : Bool) (hl : IsDct s.heap l) (hu : A.units < cLine) : RcAt A s (.bool b) (.ref l) false := fun prog w E Q h => by
  obtain ⟨⟨cls, dd, data, sl⟩, es, ep, ho, hc, hd⟩ := id hl
  simp only at hc hd
  subst hc hd
  exact rc_eq_decline_or (k := false) rfl ⟨_, ho, rfl⟩ (by decide) F.sub_dict_bool F.slot_bool_eq F.slot_dict_eq_refl
    (fun _ hq => call_meets F.slot_bool_eq rfl F.entry_int_eq (F.args_int_eq_2 _ _) (bool_declines_dict l es ep dd sl b) ⟨ho, hq⟩)
    (fun _ hq => call_meets F.slot_dict_eq_refl ⟨_, ho, rfl⟩ F.entry_dict_eq (F.args_dict_eq_2 _ _) (dict_declines_bool l es ep dd sl b) ⟨ho, hq⟩)
    (fun _ hq => wpAny_of_eq (rfl : isSame (.bool b) (.ref l) = pure false) hq) (.inr hu) h
theorem EqAt_dict_bool {l : Addr} (b : Bool) (hl : IsDct s.heap l) (hu : A.units < cLine) : EqAt A s (.ref l) (.bool b) false := fun prog w E Q h => by
  unfold eqBool
  refine wpAny_holding ?_
  refine wpAny_ite_split (fun hab => absurd (eq_of_beq hab) nofun) (fun _ => ?_)
  exact wpAny_bind (RcAt_dict_bool b hl hu prog w E _ (wpAny_truthy_bool h))
theorem EqAt_bool_dict {l : Addr} (b : Bool) (hl : IsDct s.heap l) (hu : A.units < cLine) : EqAt A s (.bool b) (.ref l) false := fun prog w E Q h => by
  unfold eqBool
  refine wpAny_holding ?_
  refine wpAny_ite_split (fun hab => absurd (eq_of_beq hab) nofun) (fun _ => ?_)
  exact wpAny_bind (RcAt_bool_dict b hl hu prog w E _ (wpAny_truthy_bool h))
theorem RcAt_dict_int {l : Addr} (b : Int) (u : Tok) (hl : IsDct s.heap l) (hu : A.units < cLine) : RcAt A s (.ref l) (.int b u) false := fun prog w E Q h => by
  obtain ⟨⟨cls, dd, data, sl⟩, es, ep, ho, hc, hd⟩ := id hl
  simp only at hc hd
  subst hc hd
  exact rc_eq_decline_or (k := false) ⟨_, ho, rfl⟩ (typeIs_int s b u) (by decide) F.sub_int_dict F.slot_dict_eq F.slot_int_eq_refl
    (fun _ hq => call_meets F.slot_dict_eq ⟨_, ho, rfl⟩ F.entry_dict_eq (F.args_dict_eq_2 _ _) (dict_declines_int l es ep dd sl b u) ⟨ho, hq⟩)
    (fun _ hq => call_meets F.slot_int_eq_refl (typeIs_int s b u) F.entry_int_eq (F.args_int_eq_2 _ _) (int_declines_dict l es ep dd sl b u) ⟨ho, hq⟩)
    (fun _ hq => wpAny_of_eq (rfl : isSame (.ref l) (.int b u) = pure false) hq) (.inr hu) h
theorem RcAt_int_dict {l : Addr} (b : Int) (u : Tok) (hl : IsDct s.heap l) (hu : A.units < cLine) : RcAt A s (.int b u) (.ref l) false := fun prog w E Q h => by
  obtain ⟨⟨cls, dd, data, sl⟩, es, ep, ho, hc, hd⟩ := id hl
  simp only at hc hd
  subst hc hd
  exact rc_eq_decline_or (k := false) (typeIs_int s b u) ⟨_, ho, rfl⟩ (by decide) F.sub_dict_int F.slot_int_eq F.slot_dict_eq_refl
    (fun _ hq => call_meets F.slot_int_eq (typeIs_int s b u) F.entry_int_eq (F.args_int_eq_2 _ _) (int_declines_dict l es ep dd sl b u) ⟨ho, hq⟩)
    (fun _ hq => call_meets F.slot_dict_eq_refl ⟨_, ho, rfl⟩ F.entry_dict_eq (F.args_dict_eq_2 _ _) (dict_declines_int l es ep dd sl b u) ⟨ho, hq⟩)
    (fun _ hq => wpAny_of_eq (rfl : isSame (.int b u) (.ref l) = pure false) hq) (.inr hu) h
theorem EqAt_dict_int {l : Addr} (b : Int) (u : Tok) (hl : IsDct s.heap l) (hu : A.units < cLine) : EqAt A s (.ref l) (.int b u) false := fun prog w E Q h => by
  unfold eqBool
  refine wpAny_holding ?_
  refine wpAny_ite_split (fun hab => absurd (eq_of_beq hab) nofun) (fun _ => ?_)
  exact wpAny_bind (RcAt_dict_int b u hl hu prog w E _ (wpAny_truthy_bool h))
theorem EqAt_int_dict {l : Addr} (b : Int) (u : Tok) (hl : IsDct s.heap l) (hu : A.units < cLine) : EqAt A s (.int b u) (.ref l) false := fun prog w E Q h => by
  unfold eqBool
  refine wpAny_holding ?_
  refine wpAny_ite_split (fun hab => absurd (eq_of_beq hab) nofun) (fun _ => ?_)
  exact wpAny_bind (RcAt_int_dict b u hl hu prog w E _ (wpAny_truthy_bool h))
theorem RcAt_dict_str {l : Addr} (b : Str) (u : Tok) (hl : IsDct s.heap l) (hu : A.units < cLine) : RcAt A s (.ref l) (.str b u) false := fun prog w E Q h => by
  obtain ⟨⟨cls, dd, data, sl⟩, es, ep, ho, hc, hd⟩ := id hl
  simp only at hc hd
  subst hc hd
  exact rc_eq_decline_or (k := false) ⟨_, ho, rfl⟩ (typeIs_str s b u) (by decide) F.sub_str_dict F.slot_dict_eq F.slot_str_eq_refl
    (fun _ hq => call_meets F.slot_dict_eq ⟨_, ho, rfl⟩ F.entry_dict_eq (F.args_dict_eq_2 _ _) (dict_declines_str l es ep dd sl b u) ⟨ho, hq⟩)
    (fun _ hq => call_meets F.slot_str_eq_refl (typeIs_str s b u) F.entry_str_eq (F.args_str_eq_2 _ _) (str_declines_dict l es ep dd sl b u) ⟨ho, hq⟩)
    (fun _ hq => wpAny_of_eq (rfl : isSame (.ref l) (.str b u) = pure false) hq) (.inr hu) h
theorem RcAt_str_dict {l : Addr} (b : Str) (u : Tok) (hl : IsDct s.heap l) (hu : A.units < cLine) : RcAt A s (.str b u) (.ref l) false := fun prog w E Q h => by
  obtain ⟨⟨cls, dd, data, sl⟩, es, ep, ho, hc, hd⟩ := id hl
  simp only at hc hd
  subst hc hd
  exact rc_eq_decline_or (k := false) (typeIs_str s b u) ⟨_, ho, rfl⟩ (by decide) F.sub_dict_str F.slot_str_eq F.slot_dict_eq_refl
    (fun _ hq => call_meets F.slot_str_eq (typeIs_str s b u) F.entry_str_eq (F.args_str_eq_2 _ _) (str_declines_dict l es ep dd sl b u) ⟨ho, hq⟩)
    (fun _ hq => call_meets F.slot_dict_eq_refl ⟨_, ho, rfl⟩ F.entry_dict_eq (F.args_dict_eq_2 _ _) (dict_declines_str l es ep dd sl b u) ⟨ho, hq⟩)
    (fun _ hq => wpAny_of_eq (rfl : isSame (.str b u) (.ref l) = pure false) hq) (.inr hu) h
theorem EqAt_dict_str {l : Addr} (b : Str) (u : Tok) (hl : IsDct s.heap l) (hu : A.units < cLine) : EqAt A s (.ref l) (.str b u) false := fun prog w E Q h => by
  unfold eqBool
  refine wpAny_holding ?_
  refine wpAny_ite_split (fun hab => absurd (eq_of_beq hab) nofun) (fun _ => ?_)
  exact wpAny_bind (RcAt_dict_str b u hl hu prog w E _ (wpAny_truthy_bool h))
theorem EqAt_str_dict {l : Addr} (b : Str) (u : Tok) (hl : IsDct s.heap l) (hu : A.units < cLine) : EqAt A s (.str b u) (.ref l) false := fun prog w E Q h => by
  unfold eqBool
  refine wpAny_holding ?_
  refine wpAny_ite_split (fun hab => absurd (eq_of_beq hab) nofun) (fun _ => ?_)
  exact wpAny_bind (RcAt_str_dict b u hl hu prog w E _ (wpAny_truthy_bool h))
theorem ne_dict_list {l b : Addr} {items : Array Value} (hl : IsDct s.heap l) (hb : s.heap.IsList b items) : l ≠ b := fun e => by
  subst e
  obtain ⟨o, _, _, ho, hc, _⟩ := hl
  obtain ⟨o2, ho2, hc2, _⟩ := hb
  rw [ho] at ho2
  cases ho2
  rw [hc] at hc2
  exact absurd hc2 (by simp)
theorem RcAt_dict_list {l b : Addr} {items : Array Value} (hl : IsDct s.heap l) (hb : s.heap.IsList b items) (hu : A.units < cLine) : RcAt A s (.ref l) (.ref b) false := fun prog w E Q h => by
  have hne := ne_dict_list hl hb
  obtain ⟨⟨cls, dd, data, sl⟩, es, ep, ho, hc, hd⟩ := id hl
  obtain ⟨⟨cls2, dd2, data2, sl2⟩, ho2, hc2, n2, hd2⟩ := id hb
  simp only at hc hd hc2 hd2
  subst hc hd hc2 hd2
  exact (rc_eq_decline_or (k := false) ⟨_, ho, rfl⟩ ⟨_, ho2, rfl⟩ (by decide) F.sub_list_dict F.slot_dict_eq F.slot_list_eq_refl
    (fun _ hq => call_meets F.slot_dict_eq ⟨_, ho, rfl⟩ F.entry_dict_eq (F.args_dict_eq_2 _ _) (dict_declines_list l b es ep dd dd2 sl sl2 items n2) ⟨ho, ho2, hq⟩)
    (fun _ hq => call_meets F.slot_list_eq_refl ⟨_, ho2, rfl⟩ F.entry_list_eq (F.args_list_eq_2 _ _) (list_declines_dict l b es ep dd dd2 sl sl2 items n2) ⟨ho, ho2, hq⟩)
    (fun _ hq => wpAny_isSame_ref_other hne ho ho2 (by simp) hq) (.inr hu) h)
theorem RcAt_list_dict {l b : Addr} {items : Array Value} (hl : IsDct s.heap l) (hb : s.heap.IsList b items) (hu : A.units < cLine) : RcAt A s (.ref b) (.ref l) false := fun prog w E Q h => by
  have hne := (ne_dict_list hl hb).symm
  obtain ⟨⟨cls, dd, data, sl⟩, es, ep, ho, hc, hd⟩ := id hl
  obtain ⟨⟨cls2, dd2, data2, sl2⟩, ho2, hc2, n2, hd2⟩ := id hb
  simp only at hc hd hc2 hd2
  subst hc hd hc2 hd2
  exact (rc_eq_decline_or (k := false) ⟨_, ho2, rfl⟩ ⟨_, ho, rfl⟩ (by decide) F.sub_dict_list F.slot_list_eq F.slot_dict_eq_refl
    (fun _ hq => call_meets F.slot_list_eq ⟨_, ho2, rfl⟩ F.entry_list_eq (F.args_list_eq_2 _ _) (list_declines_dict l b es ep dd dd2 sl sl2 items n2) ⟨ho, ho2, hq⟩)
    (fun _ hq => call_meets F.slot_dict_eq_refl ⟨_, ho, rfl⟩ F.entry_dict_eq (F.args_dict_eq_2 _ _) (dict_declines_list l b es ep dd dd2 sl sl2 items n2) ⟨ho, ho2, hq⟩)
    (fun _ hq => wpAny_isSame_ref_other' hne ho2 ho (by simp) hq) (.inr hu) h)
theorem EqAt_dict_list {l b : Addr} {items : Array Value} (hl : IsDct s.heap l) (hb : s.heap.IsList b items) (hu : A.units < cLine) : EqAt A s (.ref l) (.ref b) false := .of_refs (ne_dict_list hl hb) (RcAt_dict_list hl hb hu)
theorem EqAt_list_dict {l b : Addr} {items : Array Value} (hl : IsDct s.heap l) (hb : s.heap.IsList b items) (hu : A.units < cLine) : EqAt A s (.ref b) (.ref l) false := .of_refs (ne_dict_list hl hb).symm (RcAt_list_dict hl hb hu)
theorem ne_dict_tuple {l b : Addr} {items : Array Value} (hl : IsDct s.heap l) (hb : s.heap.IsTuple b items) : l ≠ b := fun e => by
  subst e
  obtain ⟨o, _, _, ho, hc, _⟩ := hl
  obtain ⟨o2, ho2, hc2, _⟩ := hb
  rw [ho] at ho2
  cases ho2
  rw [hc] at hc2
  exact absurd hc2 (by simp)
theorem RcAt_dict_tuple {l b : Addr} {items : Array Value} (hl : IsDct s.heap l) (hb : s.heap.IsTuple b items) (hu : A.units < cLine) : RcAt A s (.ref l) (.ref b) false := fun prog w E Q h => by
  have hne := ne_dict_tuple hl hb
  obtain ⟨⟨cls, dd, data, sl⟩, es, ep, ho, hc, hd⟩ := id hl
  obtain ⟨⟨cls2, dd2, data2, sl2⟩, ho2, hc2, n2, hd2⟩ := id hb
  simp only at hc hd hc2 hd2
  subst hc hd hc2 hd2
  exact (rc_eq_decline_or (k := false) ⟨_, ho, rfl⟩ ⟨_, ho2, rfl⟩ (by decide) F.sub_tuple_dict F.slot_dict_eq F.slot_tuple_eq_refl
    (fun _ hq => call_meets F.slot_dict_eq ⟨_, ho, rfl⟩ F.entry_dict_eq (F.args_dict_eq_2 _ _) (dict_declines_tuple l b es ep dd dd2 sl sl2 items n2) ⟨ho, ho2, hq⟩)
    (fun _ hq => call_meets F.slot_tuple_eq_refl ⟨_, ho2, rfl⟩ F.entry_tuple_eq (F.args_tuple_eq_2 _ _) (tuple_declines_dict l b es ep dd dd2 sl sl2 items n2) ⟨ho, ho2, hq⟩)
    (fun _ hq => wpAny_isSame_ref_other hne ho ho2 (by simp) hq) (.inr hu) h)
theorem RcAt_tuple_dict {l b : Addr} {items : Array Value} (hl : IsDct s.heap l) (hb : s.heap.IsTuple b items) (hu : A.units < cLine) : RcAt A s (.ref b) (.ref l) false := fun prog w E Q h => by
  have hne := (ne_dict_tuple hl hb).symm
  obtain ⟨⟨cls, dd, data, sl⟩, es, ep, ho, hc, hd⟩ := id hl
  obtain ⟨⟨cls2, dd2, data2, sl2⟩, ho2, hc2, n2, hd2⟩ := id hb
  simp only at hc hd hc2 hd2
  subst hc hd hc2 hd2
  exact (rc_eq_decline_or (k := false) ⟨_, ho2, rfl⟩ ⟨_, ho, rfl⟩ (by decide) F.sub_dict_tuple F.slot_tuple_eq F.slot_dict_eq_refl
    (fun _ hq => call_meets F.slot_tuple_eq ⟨_, ho2, rfl⟩ F.entry_tuple_eq (F.args_tuple_eq_2 _ _) (tuple_declines_dict l b es ep dd dd2 sl sl2 items n2) ⟨ho, ho2, hq⟩)
    (fun _ hq => call_meets F.slot_dict_eq_refl ⟨_, ho, rfl⟩ F.entry_dict_eq (F.args_dict_eq_2 _ _) (dict_declines_tuple l b es ep dd dd2 sl sl2 items n2) ⟨ho, ho2, hq⟩)
    (fun _ hq => wpAny_isSame_ref_other' hne ho2 ho (by simp) hq) (.inr hu) h)
theorem EqAt_dict_tuple {l b : Addr} {items : Array Value} (hl : IsDct s.heap l) (hb : s.heap.IsTuple b items) (hu : A.units < cLine) : EqAt A s (.ref l) (.ref b) false := .of_refs (ne_dict_tuple hl hb) (RcAt_dict_tuple hl hb hu)
theorem EqAt_tuple_dict {l b : Addr} {items : Array Value} (hl : IsDct s.heap l) (hb : s.heap.IsTuple b items) (hu : A.units < cLine) : EqAt A s (.ref b) (.ref l) false := .of_refs (ne_dict_tuple hl hb).symm (RcAt_tuple_dict hl hb hu)
end
end EQD
set_option Elab.async false
set_option linter.all false
set_option maxRecDepth 100000
set_option maxHeartbeats 4000000
/-! EQB: things of any kind compared one by one: x in a list or tuple, == and != of lists. -/
namespace EQB
open PySem PySem.Spec PyProof.Rows L2
open EQD
theorem relV_inj {x y : V} {u : Value} (h : RelV x u) (h' : RelV y u) : x = y := by
  cases x <;> cases y <;> simp only [L2.RelV] at h h' <;> grind
section
variable {X : Cx}
/-- y == x tells b, and changes nothing -/
def EqB (X : Cx) (y x : V) (H : Hp) (b : Bool) : Prop := ∀ (pins : List (Addr × Obj)) (σ : L2.St) (s : Shared) (v u : Value) (A : Around), Inv X pins σ H s → RelV y v → RelV x u → A.units + 64 < cLine → SeqAt.EqAt A s v u b
theorem EqB.dp {y x : V} {H : Hp} {d e : PyData} (hy : Dp X.K H y d) (hx : Dp X.K H x e) (sd : SeqAt.shaped d = true) (se : SeqAt.shaped e = true) : EqB X y x H (PyData.eqv d e) := fun pins σ s v u A I ry rx hu => by
  obtain ⟨as, r1⟩ := Dp.reads I d y v hy ry
  obtain ⟨bs, r2⟩ := Dp.reads I e x u hx rx
  exact SeqAt.eqAt_reads d e A s v u as bs r1 r2 (SeqAt.canLay_of_shaped sd) (SeqAt.canLay_of_shaped se) (SeqAt.room_of_shaped sd hu)
theorem isDct {pins : List (Addr × Obj)} {σ : L2.St} {s : Shared} {H : Hp} {a : Addr} {kvs : List (Key × V)} (I : Inv X pins σ H s) (h : H a = some (.dK kvs)) : IsDct s.heap a := by
  obtain ⟨_, _, _, _, o, es, ep, e, x, d, _⟩ := I.hok a _ h
  exact ⟨o, es, ep, e, x.1, d⟩
/-- a dict is no data else -/
theorem EqB.dctR {y : V} {a : Addr} {H : Hp} {d : PyData} {kvs : List (Key × V)} (hy : Dp X.K H y d) (h : H a = some (.dK kvs)) : EqB X y (.ref a) H false := fun pins σ s v u A I ry rx hu => by
  have D := isDct I h
  have hu0 : A.units < cLine := by omega
  cases (show u = Value.ref a from rx)
  cases hy with
  | non => cases ry; exact EqAt_none_dict D hu0
  | bl b => cases ry; exact EqAt_bool_dict b D hu0
  | int i => obtain ⟨t, rfl⟩ := ry; exact EqAt_int_dict i t D hu0
  | str z => obtain ⟨t, rfl⟩ := ry; exact EqAt_str_dict z t D hu0
  | lst hs _ =>
    cases ry
    obtain ⟨its, _, ⟨o, n, ho, hc, _, hd⟩, _⟩ := I.list hs
    exact EqAt_list_dict D ⟨o, ho, hc, n, hd⟩ hu0
  | tup hs _ =>
    cases ry
    obtain ⟨its, _, ⟨o, ho, hc, n, hd⟩, _⟩ := I.tuple hs
    exact EqAt_tuple_dict D ⟨o, ho, hc, n, hd⟩ hu0
theorem EqB.dctL {x : V} {a : Addr} {H : Hp} {d : PyData} {kvs : List (Key × V)} (hx : Dp X.K H x d) (h : H a = some (.dK kvs)) : EqB X (.ref a) x H false := fun pins σ s v u A I ry rx hu => by
  have D := isDct I h
  have hu0 : A.units < cLine := by omega
  cases (show v = Value.ref a from ry)
  cases hx with
  | non => cases rx; exact EqAt_dict_none D hu0
  | bl b => cases rx; exact EqAt_dict_bool b D hu0
  | int i => obtain ⟨t, rfl⟩ := rx; exact EqAt_dict_int i t D hu0
  | str z => obtain ⟨t, rfl⟩ := rx; exact EqAt_dict_str z t D hu0
  | lst hs _ =>
    cases rx
    obtain ⟨its, _, ⟨o, n, ho, hc, _, hd⟩, _⟩ := I.list hs
    exact EqAt_dict_list D ⟨o, ho, hc, n, hd⟩ hu0
  | tup hs _ =>
    cases rx
    obtain ⟨its, _, ⟨o, ho, hc, n, hd⟩, _⟩ := I.tuple hs
    exact EqAt_dict_tuple D ⟨o, ho, hc, n, hd⟩ hu0
/-- x in a list or a tuple -/
def rInB (X : Cx) (neg : Bool) : R2 := fun x y H Q => ∃ (p : Addr) (ys : List V) (e : V → Bool), y = .ref p ∧ (SqL X.K H p ys ∨ SqT X.K H p ys) ∧ (∀ z ∈ ys, EqB X z x H (e z)) ∧ Q (.bl (if neg = true then !ys.any e else ys.any e)) H
open Classical in
noncomputable def eOf (ys : List V) (e : V → Bool) (u : Value) : Bool := if h : ∃ z, z ∈ ys ∧ RelV z u then e h.choose else false
theorem eOf_eq {ys : List V} {e : V → Bool} {z : V} {u : Value} (hz : z ∈ ys) (r : RelV z u) : eOf ys e u = e z := by
  have h : ∃ z, z ∈ ys ∧ RelV z u := ⟨z, hz, r⟩
  unfold eOf
  rw [dif_pos h, relV_inj h.choose_spec.2 r]
theorem any_eOf {ws : List V} {e : V → Bool} : ∀ {ys : List V} {its : List Value}, (∀ z ∈ ys, z ∈ ws) → Vals ys its → its.any (eOf ws e) = ys.any e
  | [], _, _, .nil => rfl
  | z :: ys, _, hs, .cons r t => by
    rw [List.any_cons, List.any_cons, eOf_eq (hs z List.mem_cons_self) r, any_eOf (fun x hx => hs x (List.mem_cons_of_mem _ hx)) t]
theorem vals_mem {ys : List V} {its : List Value} (r : Vals ys its) {u : Value} (hu : u ∈ its) : ∃ z, z ∈ ys ∧ RelV z u := by
  induction r with
  | nil => cases hu
  | cons r t ih =>
    rcases List.mem_cons.mp hu with rfl | hu
    · exact ⟨_, List.mem_cons_self, r⟩
    · obtain ⟨z, hz, q⟩ := ih hu
      exact ⟨z, List.mem_cons_of_mem _ hz, q⟩
theorem op_inB (hu : X.A.units + 65 < cLine) : OpR X (compareOp .In) (rInB X false) := by
  intro pins s σ H x y v u Q I rx ry h
  obtain ⟨p, ys, e, rfl, hs, he, q⟩ := h
  cases (show u = Value.ref p from ry)
  have go : ∀ {its : List Value}, Vals ys its → (∀ w, w ∈ its.toArray → SeqAt.EqAt X.A.in1 s w v (eOf ys e w)) := fun {its} r w hw => by
    obtain ⟨z, hz, rz⟩ := vals_mem r (by simpa using hw)
    rw [eOf_eq hz rz]
    exact he z hz pins σ s w v X.A.in1 I rz rx (by show X.A.units + 1 + 64 < cLine; omega)
  rcases hs with hs | hs
  · obtain ⟨its, r, ⟨o, n, ho, hc, _, hd⟩, _⟩ := I.list hs
    refine SeqAt.in_listAt (eOf ys e) ⟨o, ho, hc, n, hd⟩ (go r) ⟨.bl _, H, I, rfl, ?_⟩
    rw [List.any_toArray, any_eOf (fun _ h => h) r]
    exact q
  · obtain ⟨its, r, ⟨o, ho, hc, n, hd⟩, _⟩ := I.tuple hs
    refine SeqAt.in_tupleAt (eOf ys e) ⟨o, ho, hc, n, hd⟩ (go r) ⟨.bl _, H, I, rfl, ?_⟩
    rw [List.any_toArray, any_eOf (fun _ h => h) r]
    exact q
theorem op_notInB (hu : X.A.units + 65 < cLine) : OpR X (compareOp .NotIn) (rInB X true) := by
  intro pins s σ H x y v u Q I rx ry h
  obtain ⟨p, ys, e, rfl, hs, he, q⟩ := h
  cases (show u = Value.ref p from ry)
  have go : ∀ {its : List Value}, Vals ys its → (∀ w, w ∈ its.toArray → SeqAt.EqAt X.A.in1 s w v (eOf ys e w)) := fun {its} r w hw => by
    obtain ⟨z, hz, rz⟩ := vals_mem r (by simpa using hw)
    rw [eOf_eq hz rz]
    exact he z hz pins σ s w v X.A.in1 I rz rx (by show X.A.units + 1 + 64 < cLine; omega)
  rcases hs with hs | hs
  · obtain ⟨its, r, ⟨o, n, ho, hc, _, hd⟩, _⟩ := I.list hs
    refine SeqAt.notIn_listAt (eOf ys e) ⟨o, ho, hc, n, hd⟩ (go r) ⟨.bl _, H, I, rfl, ?_⟩
    rw [List.any_toArray, any_eOf (fun _ h => h) r]
    exact q
  · obtain ⟨its, r, ⟨o, ho, hc, n, hd⟩, _⟩ := I.tuple hs
    refine SeqAt.notIn_tupleAt (eOf ys e) ⟨o, ho, hc, n, hd⟩ (go r) ⟨.bl _, H, I, rfl, ?_⟩
    rw [List.any_toArray, any_eOf (fun _ h => h) r]
    exact q
/-- two lists: of unlike lengths, or compared item by item -/
inductive EqL (X : Cx) (H : Hp) : List V → List V → Bool → Prop
  | len {xs ys : List V} : xs.length ≠ ys.length → EqL X H xs ys false
  | all {xs ys : List V} {e : Nat → Bool} : xs.length = ys.length → (∀ i x y, xs[i]? = some x → ys[i]? = some y → EqB X x y H (e i)) → EqL X H xs ys ((List.range xs.length).all e)
/-- == and != of two lists -/
def rLsB (X : Cx) (neg : Bool) : R2 := fun x y H Q => ∃ (p q : Addr) (xs ys : List V) (b : Bool), x = .ref p ∧ y = .ref q ∧ p ≠ q ∧ SqL X.K H p xs ∧ SqL X.K H q ys ∧ EqL X H xs ys b ∧ Q (.bl (if neg = true then !b else b)) H
theorem items {pins : List (Addr × Obj)} {σ : L2.St} {s : Shared} {H : Hp} {xs ys : List V} {e : Nat → Bool} {its js : List Value} {A : Around} (I : Inv X pins σ H s) (r1 : Vals xs its) (r2 : Vals ys js) (hu : A.units + 64 < cLine) (he : ∀ i x y, xs[i]? = some x → ys[i]? = some y → EqB X x y H (e i)) :
    ∀ j (h1 : j < its.toArray.size) (h2 : j < js.toArray.size), SeqAt.EqAt A s its.toArray[j] js.toArray[j] (e j) := fun j h1 h2 => by
  have l1 := r1.length
  have l2 := r2.length
  have h1' : j < xs.length := by rw [l1]; simpa using h1
  have h2' : j < ys.length := by rw [l2]; simpa using h2
  obtain ⟨u1, e1, q1⟩ := r1.get (List.getElem?_eq_getElem h1')
  obtain ⟨u2, e2, q2⟩ := r2.get (List.getElem?_eq_getElem h2')
  have f1 : its.toArray[j] = u1 := by
    have := (List.getElem?_eq_some_iff.mp e1).2
    simpa using this
  have f2 : js.toArray[j] = u2 := by
    have := (List.getElem?_eq_some_iff.mp e2).2
    simpa using this
  rw [f1, f2]
  exact he j _ _ (List.getElem?_eq_getElem h1') (List.getElem?_eq_getElem h2') pins σ s u1 u2 A I q1 q2 hu
theorem op_eqL (hu : X.A.units + 65 < cLine) : OpR X (compareOp .Eq) (rLsB X false) := by
  intro pins s σ H x y v u Q I rx ry h
  obtain ⟨p, q, xs, ys, b, rfl, rfl, pq, hp, hq, eb, k⟩ := h
  cases (show v = Value.ref p from rx)
  cases (show u = Value.ref q from ry)
  obtain ⟨its, r1, ⟨o, n, ho, hc, _, hd⟩, _⟩ := I.list hp
  obtain ⟨js, r2, ⟨o2, n2, ho2, hc2, _, hd2⟩, _⟩ := I.list hq
  have L1 : s.heap.IsList p its.toArray := ⟨o, ho, hc, n, hd⟩
  have L2' : s.heap.IsList q js.toArray := ⟨o2, ho2, hc2, n2, hd2⟩
  have l1 := r1.length
  have l2 := r2.length
  show wpAny _ _ (richCompare .Eq (.ref p) (.ref q)) _ _ _
  cases eb with
  | len hne => exact SeqAt.RcAt.lists_lengths L1 L2' (by simp; omega) (by omega) _ _ _ _ ⟨.bl _, H, I, rfl, k⟩
  | @all e hl he =>
    have hz : its.toArray.size = js.toArray.size := by simp; omega
    refine SeqAt.RcAt.lists L1 L2' hz (by omega) (items (A := X.A.in1) I r1 r2 (by show X.A.units + 1 + 64 < cLine; omega) he) _ _ _ _ ⟨.bl _, H, I, rfl, ?_⟩
    have : its.toArray.size = xs.length := by simp; omega
    rw [this]
    exact k
theorem op_neL (hu : X.A.units + 65 < cLine) : OpR X (compareOp .NotEq) (rLsB X true) := by
  intro pins s σ H x y v u Q I rx ry h
  obtain ⟨p, q, xs, ys, b, rfl, rfl, pq, hp, hq, eb, k⟩ := h
  cases (show v = Value.ref p from rx)
  cases (show u = Value.ref q from ry)
  obtain ⟨its, r1, ⟨o, n, ho, hc, _, hd⟩, _⟩ := I.list hp
  obtain ⟨js, r2, ⟨o2, n2, ho2, hc2, _, hd2⟩, _⟩ := I.list hq
  have L1 : s.heap.IsList p its.toArray := ⟨o, ho, hc, n, hd⟩
  have L2' : s.heap.IsList q js.toArray := ⟨o2, ho2, hc2, n2, hd2⟩
  have l1 := r1.length
  have l2 := r2.length
  show wpAny _ _ (richCompare .NotEq (.ref p) (.ref q)) _ _ _
  cases eb with
  | len hne => exact SeqAt.RcNeAt.lists_lengths L1 L2' (by simp; omega) (by omega) _ _ _ _ ⟨.bl _, H, I, rfl, k⟩
  | @all e hl he =>
    have hz : its.toArray.size = js.toArray.size := by simp; omega
    refine SeqAt.RcNeAt.lists L1 L2' hz (by omega) (items (A := X.A.in1) I r1 r2 (by show X.A.units + 1 + 64 < cLine; omega) he) _ _ _ _ ⟨.bl _, H, I, rfl, ?_⟩
    have : its.toArray.size = xs.length := by simp; omega
    rw [this]
    exact k
end
end EQB
set_option Elab.async false
set_option linter.all false
set_option maxRecDepth 100000
set_option maxHeartbeats 4000000
/-! TV: things of any kind, nested (None, bools, numbers, texts, lists, tuples, the empty dict), each with its repr's text and its depth. -/
namespace TV
open PySem PySem.Spec PyProof.Rows L2
mutual
inductive Tv (H : Hp) : V → PyData → Str → Nat → Prop
  | non {n : Nat} : Tv H .non .none "None" n
  | bl {n : Nat} (b : Bool) : Tv H (.bl b) (.bool b) (if b then "True" else "False") n
  | int {n : Nat} {i : Int} : i.natAbs.log2 < 1920 → Tv H (.int i) (.int i) (toString i) n
  | str {n : Nat} {z : Str} : PyData.strOk z = true → Tv H (.str z) (.str z) (reprText z) n
  | tup {n : Nat} {a : Addr} {xs : List V} {ds : List PyData} {ts : List Str} : H a = some (.tup xs) → TvL H xs ds ts n → Tv H (.ref a) (.tuple ds) (tupleText ts) (n + 1)
  | lst0 {n : Nat} {a : Addr} : H a = some (.lst []) → Tv H (.ref a) (.list []) "[]" n
  | lst {n : Nat} {a : Addr} {xs : List V} {ds : List PyData} {ts : List Str} : H a = some (.lst xs) → xs ≠ [] → TvL H xs ds ts n → Tv H (.ref a) (.list ds) (listText ts) (n + 1)
  | dct {n : Nat} {a : Addr} : H a = some (.dK []) → Tv H (.ref a) (.dict []) (dictText []) (n + 1)
inductive TvL (H : Hp) : List V → List PyData → List Str → Nat → Prop
  | nil {n : Nat} : TvL H [] [] [] n
  | cons {n : Nat} {x : V} {d : PyData} {t : Str} {xs : List V} {ds : List PyData} {ts : List Str} : Tv H x d t n → TvL H xs ds ts n → TvL H (x :: xs) (d :: ds) (t :: ts) n
end
section
variable {H H' : Hp}
mutual
/-- told again where its cells stay -/
theorem Tv.kt (e : ∀ b o, H b = some o → (∀ ps, o ≠ .tbl ps) → (∀ C dx fs, o ≠ .ins C dx fs) → H' b = some o) : ∀ {v : V} {d : PyData} {t : Str} {n : Nat}, Tv H v d t n → Tv H' v d t n
  | _, _, _, _, .non => .non
  | _, _, _, _, .bl b => .bl b
  | _, _, _, _, .int h => .int h
  | _, _, _, _, .str h => .str h
  | _, _, _, _, .tup h hs => .tup (e _ _ h (fun _ z => nomatch z) (fun _ _ _ z => nomatch z)) (TvL.kt e hs)
  | _, _, _, _, .lst0 h => .lst0 (e _ _ h (fun _ z => nomatch z) (fun _ _ _ z => nomatch z))
  | _, _, _, _, .lst h ne hs => .lst (e _ _ h (fun _ z => nomatch z) (fun _ _ _ z => nomatch z)) ne (TvL.kt e hs)
  | _, _, _, _, .dct h => .dct (e _ _ h (fun _ z => nomatch z) (fun _ _ _ z => nomatch z))
theorem TvL.kt (e : ∀ b o, H b = some o → (∀ ps, o ≠ .tbl ps) → (∀ C dx fs, o ≠ .ins C dx fs) → H' b = some o) : ∀ {xs : List V} {ds : List PyData} {ts : List Str} {n : Nat}, TvL H xs ds ts n → TvL H' xs ds ts n
  | _, _, _, _, .nil => .nil
  | _, _, _, _, .cons h hs => .cons (Tv.kt e h) (TvL.kt e hs)
end
theorem Tv.same {v : V} {d : PyData} {t : Str} {n : Nat} (h : Tv H v d t n) (s : Same H H') : Tv H' v d t n := h.kt fun b o e _ _ => s b o e
theorem TvL.same {xs : List V} {ds : List PyData} {ts : List Str} {n : Nat} (h : TvL H xs ds ts n) (s : Same H H') : TvL H' xs ds ts n := h.kt fun b o e _ _ => s b o e
mutual
theorem Tv.mono : ∀ {v : V} {d : PyData} {t : Str} {n m : Nat}, Tv H v d t n → n ≤ m → Tv H v d t m
  | _, _, _, _, _, .non, _ => .non
  | _, _, _, _, _, .bl b, _ => .bl b
  | _, _, _, _, _, .int h, _ => .int h
  | _, _, _, _, _, .str h, _ => .str h
  | _, _, _, _, 0, .tup _ _, l => absurd l (by omega)
  | _, _, _, _, m + 1, .tup h hs, l => .tup h (TvL.mono hs (by omega))
  | _, _, _, _, _, .lst0 h, _ => .lst0 h
  | _, _, _, _, 0, .lst _ _ _, l => absurd l (by omega)
  | _, _, _, _, m + 1, .lst h ne hs, l => .lst h ne (TvL.mono hs (by omega))
  | _, _, _, _, 0, .dct _, l => absurd l (by omega)
  | _, _, _, _, m + 1, .dct h, _ => .dct h
theorem TvL.mono : ∀ {xs : List V} {ds : List PyData} {ts : List Str} {n m : Nat}, TvL H xs ds ts n → n ≤ m → TvL H xs ds ts m
  | _, _, _, _, _, .nil, _ => .nil
  | _, _, _, _, _, .cons h hs, l => .cons (Tv.mono h l) (TvL.mono hs l)
end
mutual
/-- one value shows as one thing -/
theorem Tv.det : ∀ {v : V} {d d' : PyData} {t t' : Str} {n m : Nat}, Tv H v d t n → Tv H v d' t' m → d = d'
  | _, _, _, _, _, _, _, .non, g => by cases g; rfl
  | _, _, _, _, _, _, _, .bl b, g => by cases g; rfl
  | _, _, _, _, _, _, _, .int h, g => by cases g; rfl
  | _, _, _, _, _, _, _, .str h, g => by cases g; rfl
  | _, _, _, _, _, _, _, .tup h hs, g => by
    cases g with
    | tup h' hs' => rw [h] at h'; cases h'; rw [TvL.det hs hs']
    | lst0 h' => rw [h] at h'; cases h'
    | lst h' _ _ => rw [h] at h'; cases h'
    | dct h' => rw [h] at h'; cases h'
  | _, _, _, _, _, _, _, .lst0 h, g => by
    cases g with
    | tup h' hs' => rw [h] at h'; cases h'
    | lst0 h' => rfl
    | lst h' ne _ => rw [h] at h'; cases h'; exact absurd rfl ne
    | dct h' => rw [h] at h'; cases h'
  | _, _, _, _, _, _, _, .lst h ne hs, g => by
    cases g with
    | tup h' hs' => rw [h] at h'; cases h'
    | lst0 h' => rw [h] at h'; cases h'; exact absurd rfl ne
    | lst h' _ hs' => rw [h] at h'; cases h'; rw [TvL.det hs hs']
    | dct h' => rw [h] at h'; cases h'
  | _, _, _, _, _, _, _, .dct h, g => by
    cases g with
    | tup h' hs' => rw [h] at h'; cases h'
    | lst0 h' => rw [h] at h'; cases h'
    | lst h' _ hs' => rw [h] at h'; cases h'
    | dct h' => rfl
theorem TvL.det : ∀ {xs : List V} {ds ds' : List PyData} {ts ts' : List Str} {n m : Nat}, TvL H xs ds ts n → TvL H xs ds' ts' m → ds = ds'
  | _, _, _, _, _, _, _, .nil, g => by cases g; rfl
  | _, _, _, _, _, _, _, .cons h hs, g => by
    cases g with
    | cons h' hs' => rw [Tv.det h h', TvL.det hs hs']
end
/-! ### what it shows as -/
mutual
theorem Tv.rp {X : Cx} : ∀ {v : V} {d : PyData} {t : Str} {n : Nat} {outs : List Addr}, Tv H v d t n → (∀ a ∈ outs, ∃ d' t' n', Tv H (.ref a) d' t' n' ∧ sizeOf d < sizeOf d') → RPO.RpU X n outs H v t
  | _, _, _, _, _, .non, _ => .non
  | _, _, _, _, _, .bl b, _ => .bl
  | _, _, _, _, _, .int h, _ => .int h
  | _, _, _, _, _, .str h, _ => .str
  | _, _, _, _, outs, .tup (a := a) (ds := ds) (n := n) (ts := ts) h hs, ho => by
    have me : Tv H (.ref a) (.tuple ds) (tupleText ts) (n + 1) := .tup h hs
    refine .tup h (fun z => ?_) (TvL.rp hs fun b hb => ?_)
    · obtain ⟨d', _, _, g, l⟩ := ho a z
      rw [Tv.det me g] at l
      omega
    · rcases List.mem_cons.mp hb with rfl | hb
      · exact ⟨_, _, _, me, by simp⟩
      · obtain ⟨d', t', n', g, l⟩ := ho b hb
        exact ⟨d', t', n', g, by simp at l; omega⟩
  | _, _, _, _, outs, .lst0 (a := a) (n := n) h, ho => .list0 h fun z => by
    obtain ⟨d', _, _, g, l⟩ := ho a z
    rw [Tv.det (Tv.lst0 (n := 0) h) g] at l
    omega
  | _, _, _, _, outs, .lst (a := a) (ds := ds) (n := n) (ts := ts) h ne hs, ho => by
    have me : Tv H (.ref a) (.list ds) (listText ts) (n + 1) := .lst h ne hs
    refine .list h (fun z => ?_) ne (TvL.rp hs fun b hb => ?_)
    · obtain ⟨d', _, _, g, l⟩ := ho a z
      rw [Tv.det me g] at l
      omega
    · rcases List.mem_cons.mp hb with rfl | hb
      · exact ⟨_, _, _, me, by simp⟩
      · obtain ⟨d', t', n', g, l⟩ := ho b hb
        exact ⟨d', t', n', g, by simp at l; omega⟩
  | _, _, _, _, outs, .dct (a := a) (n := n) h, ho => .dct h (fun z => by
    obtain ⟨d', _, _, g, l⟩ := ho a z
    rw [Tv.det (Tv.dct (n := 0) h) g] at l
    omega) .nil
theorem TvL.rp {X : Cx} : ∀ {xs : List V} {ds : List PyData} {ts : List Str} {n : Nat} {outs : List Addr}, TvL H xs ds ts n → (∀ a ∈ outs, ∃ d' t' n', Tv H (.ref a) d' t' n' ∧ sizeOf ds < sizeOf d') → RPO.RpAll X n outs H xs ts
  | _, _, _, _, _, .nil, _ => .nil
  | _, _, _, _, _, .cons h hs, ho => .cons (Tv.rp h fun a ha => by
      obtain ⟨d', t', n', g, l⟩ := ho a ha
      exact ⟨d', t', n', g, by simp at l; omega⟩) (TvL.rp hs fun a ha => by
      obtain ⟨d', t', n', g, l⟩ := ho a ha
      exact ⟨d', t', n', g, by simp at l; omega⟩)
end
end
end TV
set_option Elab.async false
set_option linter.all false
set_option maxRecDepth 100000
set_option maxHeartbeats 4000000
/-! TV2: rules for things of any kind: isinstance of a tuple, a text or a list, == and != with a text, == with (), repr. -/
namespace TV
open PySem PySem.Spec PyProof.Rows L2
def isT : PyData → Bool
  | .tuple _ => true
  | _ => false
def isL : PyData → Bool
  | .list _ => true
  | _ => false
def isS : PyData → Bool
  | .str _ => true
  | _ => false
def eqS : PyData → Str → Bool
  | .str x, z => decide (x = z)
  | _, _ => false
section
variable {K : PySem.W.Frag} {H : Hp} {v : V} {d : PyData} {t : Str} {n : Nat} {Q : VK}
theorem Tv.tyT (h : Tv H v d t n) : ∃ T, TyX K H v T ∧ PySem.W.kitOne K T (.type "tuple") = some (isT d) := by
  cases h with
  | non => exact ⟨_, TyX.base .non, kit_ty (show kitB "NoneType" "tuple" = some false by decide +kernel)⟩
  | bl b => exact ⟨_, TyX.base (.bl b), kit_ty (show kitB "bool" "tuple" = some false by decide +kernel)⟩
  | int h => exact ⟨_, TyX.base (.int _), kit_ty (show kitB "int" "tuple" = some false by decide +kernel)⟩
  | str h => exact ⟨_, TyX.base (.str _), kit_ty (show kitB "str" "tuple" = some false by decide +kernel)⟩
  | tup h hs => exact ⟨_, TyX.base (.tup h), kit_ty (show kitB "tuple" "tuple" = some true by decide +kernel)⟩
  | lst0 h => exact ⟨_, TyX.base (.lst h), kit_ty (show kitB "list" "tuple" = some false by decide +kernel)⟩
  | lst h ne hs => exact ⟨_, TyX.base (.lst h), kit_ty (show kitB "list" "tuple" = some false by decide +kernel)⟩
  | dct h => exact ⟨_, TyX.base (.dK h), kit_ty (show kitB "dict" "tuple" = some false by decide +kernel)⟩
theorem Tv.tyS (h : Tv H v d t n) : ∃ T, TyX K H v T ∧ PySem.W.kitOne K T (.type "str") = some (isS d) := by
  cases h with
  | non => exact ⟨_, TyX.base .non, kit_ty (show kitB "NoneType" "str" = some false by decide +kernel)⟩
  | bl b => exact ⟨_, TyX.base (.bl b), kit_ty (show kitB "bool" "str" = some false by decide +kernel)⟩
  | int h => exact ⟨_, TyX.base (.int _), kit_ty (show kitB "int" "str" = some false by decide +kernel)⟩
  | str h => exact ⟨_, TyX.base (.str _), kit_ty (show kitB "str" "str" = some true by decide +kernel)⟩
  | tup h hs => exact ⟨_, TyX.base (.tup h), kit_ty (show kitB "tuple" "str" = some false by decide +kernel)⟩
  | lst0 h => exact ⟨_, TyX.base (.lst h), kit_ty (show kitB "list" "str" = some false by decide +kernel)⟩
  | lst h ne hs => exact ⟨_, TyX.base (.lst h), kit_ty (show kitB "list" "str" = some false by decide +kernel)⟩
  | dct h => exact ⟨_, TyX.base (.dK h), kit_ty (show kitB "dict" "str" = some false by decide +kernel)⟩
theorem eqS_iff {z : Str} : eqS d z = true ↔ d = .str z := by
  cases d <;> simp [eqS]
theorem isT_iff : isT d = true ↔ ∃ ds, d = .tuple ds := by
  cases d <;> simp [isT]
theorem isS_iff : isS d = true ↔ ∃ z, d = .str z := by
  cases d <;> simp [isS]
theorem Tv.str_of {z : Str} (h : Tv H v (.str z) t n) : v = .str z ∧ PyData.strOk z = true := by
  cases h with
  | str ok => exact ⟨rfl, ok⟩
theorem Tv.tup_of {ds : List PyData} (h : Tv H v (.tuple ds) t n) : ∃ (a : Addr) (xs : List V) (ts : List Str) (m : Nat), v = .ref a ∧ H a = some (.tup xs) ∧ TvL H xs ds ts m ∧ n = m + 1 ∧ t = tupleText ts := by
  cases h with
  | tup h hs => exact ⟨_, _, _, _, rfl, h, hs, rfl, rfl⟩
theorem TvL.len {xs : List V} {ds : List PyData} {ts : List Str} (h : TvL H xs ds ts n) : xs.length = ds.length ∧ ts.length = ds.length := by
  induction ds generalizing xs ts with
  | nil => cases h; exact ⟨rfl, rfl⟩
  | cons d ds ih =>
    cases h with
    | cons a b =>
      obtain ⟨h1, h2⟩ := ih b
      exact ⟨by rw [List.length_cons, List.length_cons, h1], by rw [List.length_cons, List.length_cons, h2]⟩
theorem TvL.get {i : Nat} : ∀ {xs : List V} {ds : List PyData} {ts : List Str} {x : V}, TvL H xs ds ts n → xs[i]? = some x → ∃ d t, ds[i]? = some d ∧ ts[i]? = some t ∧ Tv H x d t n := by
  induction i with
  | zero =>
    intro xs ds ts x h hx
    cases h with
    | nil => cases hx
    | cons a b => cases hx; exact ⟨_, _, rfl, rfl, a⟩
  | succ i ih =>
    intro xs ds ts x h hx
    cases h with
    | nil => cases hx
    | cons a b =>
      obtain ⟨d, t, e1, e2, g⟩ := ih b hx
      exact ⟨d, t, e1, e2, g⟩
theorem TvL.app {xs xs' : List V} {ds ds' : List PyData} {ts ts' : List Str} (h : TvL H xs ds ts n) (h' : TvL H xs' ds' ts' n) : TvL H (xs ++ xs') (ds ++ ds') (ts ++ ts') n := by
  induction ds generalizing xs ts with
  | nil => cases h; exact h'
  | cons d ds ih =>
    cases h with
    | cons a b => exact .cons a (ih b)
theorem TvL.take {i : Nat} : ∀ {xs : List V} {ds : List PyData} {ts : List Str}, TvL H xs ds ts n → TvL H (xs.take i) (ds.take i) (ts.take i) n := by
  induction i with
  | zero => intro xs ds ts h; exact .nil
  | succ i ih =>
    intro xs ds ts h
    cases h with
    | nil => exact .nil
    | cons a b => exact .cons a (ih b)
theorem TvL.drop {i : Nat} : ∀ {xs : List V} {ds : List PyData} {ts : List Str}, TvL H xs ds ts n → TvL H (xs.drop i) (ds.drop i) (ts.drop i) n := by
  induction i with
  | zero => intro xs ds ts h; exact h
  | succ i ih =>
    intro xs ds ts h
    cases h with
    | nil => exact .nil
    | cons a b => exact ih b
theorem TvL.rev {xs : List V} {ds : List PyData} {ts : List Str} (h : TvL H xs ds ts n) : TvL H xs.reverse ds.reverse ts.reverse n := by
  induction ds generalizing xs ts with
  | nil => cases h; exact .nil
  | cons d ds ih =>
    cases h with
    | cons a b =>
      rw [List.reverse_cons, List.reverse_cons, List.reverse_cons]
      exact (ih b).app (.cons a .nil)
theorem TvL.strs {ws : List Str} {m : Nat} {ts : List Str} {xs : List V} : TvL H xs (ws.map .str) ts m → xs = ws.map .str ∧ ∀ x ∈ ws, PyData.strOk x = true := by
  induction ws generalizing xs ts with
  | nil => intro h; cases h; exact ⟨rfl, fun _ h => nomatch h⟩
  | cons w ws ih =>
    intro h
    cases h with
    | cons a b =>
      obtain ⟨rfl, ok⟩ := a.str_of
      obtain ⟨rfl, oks⟩ := ih b
      exact ⟨rfl, fun x hx => by
        rcases List.mem_cons.mp hx with rfl | hx
        · exact ok
        · exact oks x hx⟩
theorem TvL.of_strs {ws : List Str} (oks : ∀ x ∈ ws, PyData.strOk x = true) : TvL H (ws.map V.str) (ws.map PyData.str) (ws.map reprText) n := by
  induction ws with
  | nil => exact .nil
  | cons w ws ih => exact .cons (.str (oks w List.mem_cons_self)) (ih fun x hx => oks x (List.mem_cons_of_mem _ hx))
end
section
variable {X : Cx}
/-- a thing of any kind == a text -/
def rEqS : R2 := fun x y H Q => ∃ (d : PyData) (t z : Str) (n : Nat), y = .str z ∧ Tv H x d t n ∧ Q (.bl (eqS d z)) H
theorem op_eqS (hu : X.A.units + 65 < cLine) : OpR X (compareOp .Eq) rEqS := by
  intro pins s σ H x y v u Q I rx ry h
  obtain ⟨d, t, z, n, rfl, hx, q⟩ := h
  obtain ⟨tz, rfl⟩ := (show ∃ tk, u = Value.str z tk from ry)
  have hu0 : X.A.units < cLine := by omega
  show wpAny _ _ (richCompare .Eq v (.str z tz)) _ _ _
  cases hx with
  | non => cases rx; exact SeqAt.RcAt.none_str z tz _ _ _ _ ⟨.bl _, H, I, rfl, q⟩
  | bl b => cases rx; exact SeqAt.RcAt.bool_str b z tz _ _ _ _ ⟨.bl _, H, I, rfl, q⟩
  | int h => obtain ⟨tk, rfl⟩ := rx; exact SeqAt.RcAt.int_str _ tk z tz _ _ _ _ ⟨.bl _, H, I, rfl, q⟩
  | @str _ z0 h =>
    obtain ⟨tk, rfl⟩ := rx
    refine SeqAt.RcAt.str_str _ tk z tz _ _ _ _ ⟨.bl _, H, I, rfl, ?_⟩
    have e : eqS (.str z0) z = (z0 == z) := by
      show decide (z0 = z) = (z0 == z)
      rw [Bool.eq_iff_iff]
      simp
    rw [← e]
    exact q
  | tup h hs =>
    cases rx
    obtain ⟨its, _, ⟨o, ho, hc, m, hd⟩, _⟩ := I.tuple (SqT.of (K := X.K) h)
    exact SeqAt.RcAt.tuple_str z tz ⟨o, ho, hc, m, hd⟩ hu0 _ _ _ _ ⟨.bl _, H, I, rfl, q⟩
  | lst0 h =>
    cases rx
    obtain ⟨its, _, ⟨o, m, ho, hc, _, hd⟩, _⟩ := I.list (SqL.of (K := X.K) h)
    exact SeqAt.RcAt.list_str z tz ⟨o, ho, hc, m, hd⟩ hu0 _ _ _ _ ⟨.bl _, H, I, rfl, q⟩
  | lst h ne hs =>
    cases rx
    obtain ⟨its, _, ⟨o, m, ho, hc, _, hd⟩, _⟩ := I.list (SqL.of (K := X.K) h)
    exact SeqAt.RcAt.list_str z tz ⟨o, ho, hc, m, hd⟩ hu0 _ _ _ _ ⟨.bl _, H, I, rfl, q⟩
  | dct h =>
    cases rx
    exact EQD.RcAt_dict_str z tz (EQB.isDct I h) hu0 _ _ _ _ ⟨.bl _, H, I, rfl, q⟩
/-- a tuple of anything == () -/
def rEqT0 : R2 := fun x y H Q => ∃ (p q : Addr) (xs : List V), x = .ref p ∧ y = .ref q ∧ p ≠ q ∧ H p = some (.tup xs) ∧ H q = some (.tup []) ∧ Q (.bl xs.isEmpty) H
theorem op_eqT0 (hu : X.A.units + 65 < cLine) : OpR X (compareOp .Eq) rEqT0 := by
  intro pins s σ H x y v u Q I rx ry h
  obtain ⟨p, q, xs, rfl, rfl, pq, hp, hq, k⟩ := h
  cases (show v = Value.ref p from rx)
  cases (show u = Value.ref q from ry)
  obtain ⟨its, r1, ⟨o, ho, hc, n, hd⟩, _⟩ := I.tuple (SqT.of (K := X.K) hp)
  obtain ⟨js, r2, ⟨o2, ho2, hc2, n2, hd2⟩, _⟩ := I.tuple (SqT.of (K := X.K) hq)
  have L1 : s.heap.IsTuple p its.toArray := ⟨o, ho, hc, n, hd⟩
  have L2' : s.heap.IsTuple q js.toArray := ⟨o2, ho2, hc2, n2, hd2⟩
  have l1 := r1.length
  have l2 := r2.length
  rw [List.length_nil] at l2
  show wpAny _ _ (richCompare .Eq (.ref p) (.ref q)) _ _ _
  have j0 : js.toArray.size = 0 := by simp; exact List.eq_nil_of_length_eq_zero l2.symm
  refine SeqAt.RcAt.tuples (e := fun _ => true) L1 L2' (by omega) (fun j _ h2 => absurd h2 (by omega)) _ _ _ _ ⟨.bl _, H, I, rfl, ?_⟩
  have eq : ((List.range (min its.toArray.size js.toArray.size)).all (fun _ => true) && its.toArray.size == js.toArray.size) = xs.isEmpty := by
    rw [j0]
    have i1 : its.toArray.size = xs.length := by simp; omega
    rw [i1]
    cases xs <;> simp
  rw [eq]
  exact k
/-- repr of a thing of any kind, where no repr is under way -/
def rReprV (X : Cx) (m : Nat) : List V → Hp → VK → Prop := fun ys H Q => ∃ (v : V) (d : PyData) (t : Str) (n : Nat), ys = [v] ∧ Tv H v d t n ∧ n ≤ m ∧ t.length ≤ sizeLine ∧ ∀ H', Ext H H' → Q (.str t) H'
theorem call_reprV {m : Nat} (hgd : X.A.guards = some []) (hr : Room (m + 2) X.A) (hu : X.A.units + 64 < cLine) : CallR X (.builtin "repr") (rReprV X m) := by
  intro pins s σ H ys us Q I r h
  obtain ⟨v, d, t, n, rfl, hv, hn, hl, q⟩ := h
  have no : ∀ a ∈ ([] : List Addr), ∃ d' t' n', Tv H (.ref a) d' t' n' ∧ sizeOf d < sizeOf d' := fun a h => nomatch h
  cases hv with
  | non => exact GL.call_reprD hgd hu pins s σ H [.non] us Q I r ⟨_, .none, rfl, .non, rfl, rfl, by decide, by decide, q H Ext.rfl'⟩
  | bl b =>
    cases b
    · exact GL.call_reprD hgd hu pins s σ H [.bl false] us Q I r ⟨_, .bool false, rfl, .bl _, rfl, rfl, by decide, by decide, q H Ext.rfl'⟩
    · exact GL.call_reprD hgd hu pins s σ H [.bl true] us Q I r ⟨_, .bool true, rfl, .bl _, rfl, rfl, by decide, by decide, q H Ext.rfl'⟩
  | int h => exact GL.call_reprD hgd hu pins s σ H [.int _] us Q I r ⟨_, .int _, rfl, .int _, by simpa [PyData.showable] using h, rfl, by simp [PyData.depth], hl, q H Ext.rfl'⟩
  | @str _ z h => exact GL.call_reprD hgd hu pins s σ H [.str z] us Q I r ⟨_, .str z, rfl, .str z, by simpa [PyData.showable, PyData.strOk] using h, rfl, by simp [PyData.depth], by simpa only [PyData.shown] using hl, by simpa only [PyData.shown] using q H Ext.rfl'⟩
  | @tup n' a xs ds ts h hs =>
    have me : Tv H (.ref a) (.tuple ds) (tupleText ts) (n' + 1) := .tup h hs
    exact RPO.call_reprT (n := n') hgd (hr.mono (by omega)) pins s σ H [.ref a] us Q I r ⟨a, xs, ts, rfl, h, hs.rp (fun b hb => by cases List.mem_singleton.mp hb; exact ⟨_, _, _, me, by simp⟩), hl, q⟩
  | @lst0 _ a h => exact GL.call_reprD hgd hu pins s σ H [.ref a] us Q I r ⟨_, .list [], rfl, .lst (SqL.of h) .nil, rfl, rfl, by decide, by decide +kernel, q H Ext.rfl'⟩
  | @lst n' a xs ds ts h ne hs =>
    have me : Tv H (.ref a) (.list ds) (listText ts) (n' + 1) := .lst h ne hs
    exact RPO.call_reprL (n := n') hgd (hr.mono (by omega)) pins s σ H [.ref a] us Q I r ⟨a, xs, ts, rfl, h, ne, hs.rp (fun b hb => by cases List.mem_singleton.mp hb; exact ⟨_, _, _, me, by simp⟩), hl, q⟩
  | @dct n' a h => exact RPO.call_reprDc (n := n') hgd (hr.mono (by omega)) pins s σ H [.ref a] us Q I r ⟨a, [], [], rfl, h, .nil, hl, q⟩
end
end TV
set_option Elab.async false
set_option linter.all false
set_option maxRecDepth 100000
set_option maxHeartbeats 4000000
namespace K52
open PySem PySem.Spec PyProof.Rows L2
open C8 (Cal Mak Met pe_c pe_mk pe_mt pe_mt0)
open KM (pr Sz)
theorem sh_ss : ∀ I : List Str, (∀ x ∈ I, PyData.strOk x = true) → PyData.canLayAll0 (I.map PyData.str) = true ∧ PyData.depthAll (I.map PyData.str) = 0
  | [], _ => ⟨rfl, by simp [PyData.depthAll]⟩
  | x :: I, h => by
    obtain ⟨a, b⟩ := sh_ss I fun y hy => h y (List.mem_cons_of_mem _ hy)
    exact ⟨by simp [PyData.canLayAll0, PyData.canLay0, a, h x List.mem_cons_self], by simp [PyData.depthAll, PyData.depth, b]⟩
theorem shp_ss {I : List Str} (h : ∀ x ∈ I, PyData.strOk x = true) : SeqAt.shaped (.list (I.map PyData.str)) = true := by
  obtain ⟨a, b⟩ := sh_ss I h
  refine Bool.and_eq_true_iff.mpr ⟨by simp only [PyData.canLay0]; exact a, decide_eq_true ?_⟩
  simp only [PyData.depth]
  omega
theorem eqv_ss (a b : List Str) : PyData.eqv (.list (a.map .str)) (.list (b.map .str)) = decide (a = b) := by
  have key : ∀ a b : List Str, PyData.eqvAll (a.map .str) (b.map .str) = decide (a = b) := by
    intro a
    induction a with
    | nil => intro b; cases b <;> simp [PyData.eqvAll]
    | cons x a ih =>
      intro b
      cases b with
      | nil => simp [PyData.eqvAll]
      | cons y b =>
        rw [List.map_cons, List.map_cons, PyData.eqvAll, ih, PyData.eqv, Bool.eq_iff_iff]
        simp
  rw [PyData.eqv]
  exact key a b
section
variable {P : Program} {w : World} {K : PySem.W.Frag} {mg : Str → Option Value} {base : Heap} {f C : Addr} {fd : FuncData}
theorem strs_inj : ∀ {ws ws' : List Str}, ws.map PyData.str = ws'.map PyData.str → ws = ws'
  | [], [], _ => rfl
  | [], _ :: _, e => nomatch e
  | _ :: _, [], e => nomatch e
  | w :: ws, w' :: ws', e => by
    rw [List.map_cons, List.map_cons] at e
    injection e with e1 e2
    injection e1 with e1
    rw [e1, strs_inj e2]
/-- a text of these -/
def okI (W : List Str) : PyData → Bool
  | .str z => decide (z ∈ W)
  | _ => false
theorem okI_all {W : List Str} : ∀ {ds : List PyData}, ds.all (okI W) = true ↔ ∃ ws : List Str, ds = ws.map .str ∧ ∀ x ∈ ws, x ∈ W
  | [] => ⟨fun _ => ⟨[], rfl, fun _ h => nomatch h⟩, fun _ => rfl⟩
  | d :: ds => by
    rw [List.all_cons, Bool.and_eq_true, okI_all]
    constructor
    · rintro ⟨h1, ws, rfl, h2⟩
      cases d with
      | str z => exact ⟨z :: ws, rfl, fun x hx => by
          rcases List.mem_cons.mp hx with rfl | hx
          · exact of_decide_eq_true h1
          · exact h2 x hx⟩
      | none => cases h1
      | bool b => cases h1
      | int i => cases h1
      | list xs => cases h1
      | tuple xs => cases h1
      | dict kvs => cases h1
    · rintro ⟨ws, e, h⟩
      cases ws with
      | nil => cases e
      | cons w ws =>
        cases e
        exact ⟨decide_eq_true (h w List.mem_cons_self), ws, rfl, fun x hx => h x (List.mem_cons_of_mem _ hx)⟩
/-- texts that rise, of these -/
def Ris (W : List Str) (d : PyData) : Prop := ∃ ws : List Str, d = .tuple (ws.map .str) ∧ ws ≠ [] ∧ (∀ x ∈ ws, x ∈ W) ∧ ws.Pairwise SRT.leS ∧ ws.Nodup
def spAr : Sp := fun vs H Q _ => ∃ (v : V) (d : Addr) (y : PyData) (tx : Str) (n : Nat) (W : List Str) (g : Str → V), vs = [v, .ref d] ∧ TV.Tv H v y tx n ∧ (∀ ds, y = .tuple ds → ds.length < 60) ∧ H d = some (.dK (W.map fun x => ((Sum.inr x : Key), g x))) ∧
  ∀ (H' : Hp) (z : Bool), Same H H' → (z = true ↔ Ris W y) → Q (.bl z) H'
theorem ok_ar (F : Dn K d_are_rising f fd) (b : Bl mg) (bt : mg "tuple" = none) (bs : mg "str" = none) (ba : mg "all" = none) (bso : mg "sorted" = none) (bset : mg "set" = none) : FnOk P w K mg base CX0 1 f fd ["thing", "names"] spAr := by
  refine F.ok sc_are_rising (fun vs H Q E h => ?_) (fun cdv A outer s H vs Q E hr h => ?_)
  · obtain ⟨_, _, _, _, _, _, _, rfl, _⟩ := h
    rfl
  · obtain ⟨v, d, y, tx, n, W, g, rfl, hv, l60, hd, hQ⟩ := h
    have hu := hu_of hr
    have hu64 : (A.deeper (envOfC d_are_rising.qual d_are_rising.scope s.heap.objs.size f cdv)).units + 64 < cLine := by have := hr.un; omega
    refine ⟨_, PSs.nox (pss_cons (ps_if (PW.pt (pw_or (pt_not (pt_val (pe_callB call_isi rfl b.isi boot_isinstance (pa_cons (pv 0) (pa_cons (pe_bltn (v := .ty "tuple") rfl bt boot_tuple rfl) pa_nil)))))
          (pw_or1 (pt_cmpR op_eq (pe_callB TI.call_lenK rfl b.len boot_len (pa_cons (pv 0) pa_nil)) pe_int (nomark _))))) (pss_one (ps_ret pe_bl)) pss_nil)
      (pss_cons (ps_if (pt_not (pt_val (pe_callB (cr_all rfl) rfl ba boot_all (pa_cons (pe_lc (own := [("one", 2)]) (g := gName 2) (tt := tYes) rfl sc_are_rising.nd (pi_tup (pv 0)) (blkOk_by (N := N_are_rising) (sc := defScope s_are_rising) (by decide +kernel))
            (fun _ _ _ _ _ => pg_name (i := 2) sc_are_rising.nd rfl (Or.inl rfl)) (fun _ _ _ _ _ => pts_nil) (fun _ _ _ _ _ => pe_and (pe_callB (r := rIsi K) call_isi rfl b.isi boot_isinstance (pa_cons (pv 2) (pa_cons (pe_bltn (v := .ty "str") rfl bs boot_str rfl) pa_nil))) (pe_one (pe_cmp (pc_din hu (pv 2) (pv 1)) rfl)))) pa_nil)))) (pss_one (ps_ret pe_bl)) pss_nil)
      (pss_one (ps_ret (pe_cmpR (op_eqD hu64) (pe_callTy call_list_of rfl b.list boot_list (pa_cons (pv 0) pa_nil)) (SST.pe_sortedSet rfl hu64 rfl bso rfl bset (pv 0)) (nomark _)))))), ?_⟩
    obtain ⟨T0, ty0, kt0⟩ := hv.tyT (K := K)
    refine ⟨_, rfl, _, _, _, _, _, rfl, ClsV.ty _, ty0, kt0, _, rfl, ?_⟩
    refine ite2 (fun c0 => ?_) (fun c0 => ?_)
    · refine hQ H false (Same.refl _) ⟨fun z => (by cases z), ?_⟩
      rintro ⟨ws, rfl, _⟩
      cases c0
    obtain ⟨ds, rfl⟩ : ∃ ds, y = .tuple ds := TV.isT_iff.mp (by
      cases q : TV.isT y with
      | true => rfl
      | false => rw [q] at c0; exact absurd rfl c0)
    obtain ⟨t, xs, ts, m, rfl, ht, hs, rfl, rfl⟩ := hv.tup_of
    have l60 := l60 ds rfl
    obtain ⟨lx, _⟩ := hs.len
    refine ⟨_, rfl, t, _, rfl, .inr (SqT.of ht), rfl, _, rfl, ?_⟩
    refine ite2 (fun c => ?_) (fun c => ?_)
    · have l0 : ds = [] := by
        have : xs.length = 0 := by simpa using c
        exact List.eq_nil_of_length_eq_zero (by omega)
      refine hQ H false (Same.refl _) ⟨fun z => (by cases z), ?_⟩
      rintro ⟨ws, e, wne, _⟩
      rw [l0] at e
      cases ws with
      | nil => exact absurd rfl wne
      | cons w ws => cases e
    have dne : ds ≠ [] := fun z => c (by rw [List.eq_nil_of_length_eq_zero (show xs.length = 0 by rw [lx, z]; rfl)]; rfl)
    have line : ∀ {n : Nat}, n ≤ 60 → n < sizeLine := fun {n} h => Nat.lt_of_le_of_lt h (by decide)
    refine ⟨_, rfl, t, rfl, ⟨_, SqT.of ht⟩, fun O hO => lc_tup (K := K) (xs := xs) (fun i H' => H' O = some (.lst (((ds.take i).map (okI W)).map V.bl)) ∧ Same H H') ⟨upd_same, same_new hO⟩ (fun i H' _ z => SqT.of (z.2 _ _ ht)) ?_ ?_⟩
    · rintro i x H2 hx ⟨hO2, s2⟩
      have il := (List.getElem?_eq_some_iff.mp hx).1
      obtain ⟨d1, t1, hd1, _, h1⟩ := hs.get hx
      refine ⟨rfl, ?_⟩
      have fin : (fun v H' => ∃ b, v = V.bl b ∧ b = okI W d1 ∧ Same H2 H') (V.bl (okI W d1)) H2 := ⟨_, rfl, rfl, Same.refl _⟩
      obtain ⟨T1, ty1, kt1⟩ := (h1.same s2).tyS (K := K)
      refine ⟨_, rfl, _, _, _, _, _, rfl, ClsV.ty _, ty1, kt1, _, rfl, ?_⟩
      have put : ∃ xs', H2 O = some (.lst xs') ∧ xs'.length < sizeLine ∧ (upd H2 O (.lst (xs' ++ [V.bl (okI W d1)]))) O = some (.lst (((ds.take (i + 1)).map (okI W)).map V.bl)) ∧ Same H (upd H2 O (.lst (xs' ++ [V.bl (okI W d1)]))) := by
        refine ⟨_, hO2, by rw [List.length_map, List.length_map, List.length_take]; exact line (by omega), ?_, fun b o e => ?_⟩
        · rw [upd_same, List.take_add_one, hd1, List.map_append, List.map_append]
          rfl
        · rw [upd_ne (ne_of_none e hO)]
          exact s2 _ _ e
      refine ite2 (fun c1 => ?_) (fun c1 => ?_)
      · obtain ⟨z, rfl⟩ := TV.isS_iff.mp c1
        obtain ⟨rfl, ok1⟩ := h1.str_of
        have hd2 := s2 _ _ hd
        have dg : DGet H2 d (.str z) (valV (W.map fun y => ((Sum.inr y : Key), g y)) (Sum.inr z)) := DGet.k (k := Sum.inr z) hd2
        have eS : (valV (W.map fun y => ((Sum.inr y : Key), g y)) (Sum.inr z)).isSome = decide (z ∈ W) := by
          by_cases h : z ∈ W
          · rw [DQ.val_map g h, decide_eq_true h]; rfl
          · rw [DQ.val_none g h, decide_eq_false h]; rfl
        refine ⟨_, rfl, _, rfl, d, _, rfl, dg, ?_⟩
        rw [eS]
        exact put
      · have e0 : okI W d1 = false := by
          cases d1 with
          | str z => exact absurd rfl c1
          | _ => rfl
        rw [e0] at put
        exact put
    rintro H2 ⟨hO2, s2⟩
    rw [lx, List.take_length] at hO2
    refine ⟨O, _, rfl, SqL.of hO2, _, rfl, ?_⟩
    have eA : ((ds.map (okI W)).all id) = ds.all (okI W) := by
      rw [List.all_map]
      rfl
    refine ite2 (fun c => ?_) (fun c => ?_)
    · refine hQ H2 false s2 ⟨fun z => (by cases z), ?_⟩
      rintro ⟨ws, e, _, hW, _⟩
      cases e
      rw [eA, okI_all.mpr ⟨ws, rfl, hW⟩] at c
      cases c
    obtain ⟨ws, rfl, all⟩ : ∃ ws : List Str, ds = ws.map .str ∧ ∀ x ∈ ws, x ∈ W := okI_all.mp (by
      rw [← eA]
      cases q : (ds.map (okI W)).all id with
      | true => rfl
      | false => rw [q] at c; exact absurd rfl c)
    obtain ⟨rfl, oks⟩ := hs.strs
    have wne : ws ≠ [] := fun z => dne (by rw [z]; rfl)
    rw [List.length_map] at l60
    refine ⟨_, rfl, t, _, rfl, .inr (SqT.of (s2 _ _ ht)), fun l fl => ?_⟩
    have sl := same_new (o := .lst (ws.map V.str)) fl
    have hl : (upd H2 l (.lst (ws.map V.str))) l = some (.lst (ws.map V.str)) := upd_same
    have s3 := s2.trans sl
    generalize upd H2 l (.lst (ws.map V.str)) = H3 at hl s3 ⊢
    refine ⟨_, rfl, t, ws, rfl, .inr (SqT.of (s3 _ _ ht)), by omega, fun ys p wy ny my fp => ?_⟩
    have sp := same_new (o := .lst (ys.map V.str)) fp
    have oky : ∀ x ∈ ys, PyData.strOk x = true := fun x hx => oks x ((my x).mp hx)
    refine ⟨.list (ws.map .str), .list (ys.map .str), Dp.lst (SqL.of (sp _ _ hl)) (dp_ss ws), Dp.lst (SqL.of upd_same) (dp_ss ys), shp_ss oks, shp_ss oky, ?_⟩
    rw [eqv_ss]
    refine hQ _ _ (s3.trans sp) ?_
    rw [decide_eq_true_eq]
    constructor
    · intro e
      refine ⟨ws, rfl, wne, all, ?_⟩
      rw [e]
      exact ⟨wy, ny⟩
    · rintro ⟨ws', e, _, _, pw, nd⟩
      have e' : ws = ws' := by
        exact strs_inj (PyData.tuple.inj e)
      subst e'
      exact IO.sorted_same pw wy ((List.perm_ext_iff_of_nodup nd ny).mpr fun x => (my x).symm)
end
end K52
set_option Elab.async false
set_option linter.all false
set_option maxRecDepth 100000
set_option maxHeartbeats 4000000
namespace K52
open PySem PySem.Spec PyProof.Rows L2
open KM (pr Sz)
/-! ### sums over the names -/
theorem sumR_add (f g : Str → Rat) : ∀ xs : List Str, sumR (xs.map fun x => f x + g x) = sumR (xs.map f) + sumR (xs.map g)
  | [] => by show (0 : Rat) = 0 + 0; grind
  | x :: xs => by
    have ih := sumR_add f g xs
    rw [List.map_cons, List.map_cons, List.map_cons, sumR_cons, sumR_cons, sumR_cons, ih]
    grind
theorem sumR_zero (f : Str → Rat) : ∀ xs : List Str, (∀ x ∈ xs, f x = 0) → sumR (xs.map f) = 0
  | [], _ => rfl
  | x :: xs, h => by
    rw [List.map_cons, sumR_cons, h x List.mem_cons_self, sumR_zero f xs fun y hy => h y (List.mem_cons_of_mem _ hy)]
    grind
theorem sum_ind {a : Str} {v : Rat} : ∀ {xs : List Str}, xs.Nodup → a ∈ xs → sumR (xs.map fun x => if a = x then v else 0) = v
  | x :: xs, nd, h => by
    obtain ⟨n1, n2⟩ := List.nodup_cons.mp nd
    rw [List.map_cons, sumR_cons]
    by_cases e : a = x
    · rw [if_pos e, sumR_zero _ xs fun y hy => if_neg fun z => n1 (by rw [← e, z]; exact hy)]
      grind
    · rw [if_neg e, sum_ind n2 ((List.mem_cons.mp h).resolve_left e)]
      grind
theorem at_sum {xs : List Str} (nd : xs.Nodup) : ∀ {ms : List (Str × Rat)}, (∀ m ∈ ms, m.1 ∈ xs) → sumR (xs.map fun x => at_ x ms) = sumR (ms.map (·.2))
  | [], _ => sumR_zero _ xs fun x _ => rfl
  | m :: ms, h => by
    have ih := at_sum nd (ms := ms) fun p hp => h p (List.mem_cons_of_mem _ hp)
    rw [List.map_cons, sumR_cons]
    show sumR (xs.map fun x => (if m.1 = x then m.2 else 0) + at_ x ms) = m.2 + sumR (ms.map (·.2))
    rw [sumR_add, ih, sum_ind nd (h m List.mem_cons_self)]
theorem sumR_const {α : Type} (v : Rat) : ∀ xs : List α, sumR (xs.map fun _ => v) = ((xs.length : Nat) : Rat) * v
  | [] => by show (0 : Rat) = ((0 : Nat) : Rat) * v; grind
  | x :: xs => by
    have ih := sumR_const v xs
    rw [List.map_cons, sumR_cons, ih, List.length_cons]
    have : ((xs.length + 1 : Nat) : Rat) = ((xs.length : Nat) : Rat) + 1 := by simp
    rw [this]
    grind
theorem prt_one {R : List Str} (ne : R ≠ []) : ((R.length : Nat) : Rat) * prt R = 1 := by
  have p := List.length_pos_iff.mpr ne
  unfold prt
  rw [Rat.divInt_eq_div]
  have h : ((R.length : Nat) : Rat) ≠ 0 := by
    intro z
    have : (R.length : Nat) = 0 := by exact_mod_cast z
    omega
  have e : ((((R.length : Nat) : Int)) : Rat) = ((R.length : Nat) : Rat) := rfl
  rw [e]
  grind
theorem fr_sum : ∀ {ys : List Dy}, (∀ y ∈ ys, y.R ≠ []) → sumR ((fr ys).map (·.2)) = ((ys.length : Nat) : Rat)
  | [], _ => rfl
  | y :: ys, h => by
    have ih := fr_sum (ys := ys) fun z hz => h z (List.mem_cons_of_mem _ hz)
    have e : fr (y :: ys) = (y.R.map fun x => (x, prt y.R)) ++ fr ys := by
      unfold fr
      rw [List.flatMap_cons]
    rw [e, List.map_append, sumR_app, ih, List.map_map]
    have : ((fun p : Str × Rat => p.2) ∘ fun x => (x, prt y.R)) = fun _ => prt y.R := rfl
    rw [this, sumR_const, prt_one (h y List.mem_cons_self), List.length_cons]
    have : ((ys.length + 1 : Nat) : Rat) = ((ys.length : Nat) : Rat) + 1 := by simp
    rw [this]
    grind
theorem at_cnt (x : Str) : ∀ ds : List Str, at_ x (ds.map fun y => (y, (1 : Rat))) = ((ds.count x : Nat) : Rat)
  | [] => rfl
  | y :: ds => by
    have ih := at_cnt x ds
    show (if y = x then (1 : Rat) else 0) + at_ x (ds.map fun y => (y, (1 : Rat))) = _
    rw [ih, List.count_cons]
    by_cases e : y = x
    · rw [if_pos e, if_pos (by rw [e]; exact beq_self_eq_true x)]
      have : ((ds.count x + 1 : Nat) : Rat) = ((ds.count x : Nat) : Rat) + 1 := by simp
      rw [this]
      grind
    · rw [if_neg e, if_neg (fun q => e (eq_of_beq q))]
      show (0 : Rat) + _ = ((ds.count x + 0 : Nat) : Rat)
      rw [Nat.add_zero]
      grind
/-- what the days put comes to as many as there are drivers -/
theorem even_sum {xs ds : List Str} {ys : List Dy} (nd : xs.Nodup) (hR : ∀ y ∈ ys, ∀ x ∈ y.R, x ∈ xs) (ne : ∀ y ∈ ys, y.R ≠ []) (hd : ∀ x ∈ ds, x ∈ xs) (le : ds.length = ys.length) :
    sumR (xs.map fun x => at_ x (fr ys) + -((ds.count x : Nat) : Rat)) = 0 := by
  have h1 := at_sum nd (ms := fr ys) fun m hm => by
    obtain ⟨y, hy, h2⟩ := List.mem_flatMap.mp hm
    obtain ⟨x, hx, rfl⟩ := List.mem_map.mp h2
    exact hR y hy x hx
  have h2 := at_sum nd (ms := ds.map fun y => (y, (1 : Rat))) fun m hm => by
    obtain ⟨x, hx, rfl⟩ := List.mem_map.mp hm
    exact hd x hx
  have e2 : (ds.map fun y => (y, (1 : Rat))).map (·.2) = ds.map fun _ => (1 : Rat) := by rw [List.map_map]; rfl
  rw [e2, sumR_const] at h2
  rw [fr_sum ne] at h1
  rw [sumR_add, h1]
  have e3 : sumR (xs.map fun x => -((ds.count x : Nat) : Rat)) = -(sumR (xs.map fun x => at_ x (ds.map fun y => (y, (1 : Rat))))) := by
    have : ∀ zs : List Str, sumR (zs.map fun x => -((ds.count x : Nat) : Rat)) = -(sumR (zs.map fun x => at_ x (ds.map fun y => (y, (1 : Rat))))) := fun zs => by
      induction zs with
      | nil => show (0 : Rat) = -0; grind
      | cons z zs ih =>
        rw [List.map_cons, List.map_cons, sumR_cons, sumR_cons, ih, at_cnt]
        grind
    exact this xs
  rw [e3, h2, le]
  grind
end K52
set_option Elab.async false
set_option linter.all false
set_option maxRecDepth 100000
set_option maxHeartbeats 4000000
namespace K52
open KM (Sz) in
theorem sz_k {k : Int} (h : k.natAbs ≤ 100) : Sz 7 (k : Rat) := ⟨by show k.natAbs < 128; omega, by show 1 < 128; decide⟩
open PySem PySem.Spec PyProof.Rows L2
open C8 (Cal Mak Met pe_c pe_mk pe_mt pe_mt0)
open KM (pr Sz)
theorem TDc.kp {h D : Addr} {H H' : Hp} {n : Nat} {L : List Str} {c : Str → Rat} (t : TDc H D L c) (k : Kp h H H') (x : Held H h n) (ne : D ≠ h) : TDc H' D L c := by
  obtain ⟨ad, h1, h2⟩ := t
  exact ⟨ad, k.1 _ _ h1 ne, fun x hx => kp_tup k ‹_› _ _ (h2 x hx)⟩
theorem TDc.add {H : Hp} {D r : Addr} {L : List Str} {c : Str → Rat} {x : Str} {v : Rat} (t : TDc H D L c) (hr : H r = some (tupP (pr v))) : ∃ kvs : List (Key × V), H D = some (.dK kvs) ∧ kvs.length = L.length ∧ TDc (upd H D (.dK (putK kvs (Sum.inr x) (.ref r)))) D (addK L x) (setc c x v) := by
  obtain ⟨ad, h1, h2⟩ := t
  exact ⟨_, h1, by rw [List.length_map], TDc.put h1 h2 hr⟩
section
variable {P : Program} {w : World} {K : PySem.W.Frag} {mg : Str → Option Value} {base : Heap} {f C : Addr} {fd : FuncData}
/-- credits that the drivers even -/
structure EcOk (xs : List Str) (ys : List Dy) (ds L : List Str) (cc : Str → Rat) : Prop where
  nd : L.Nodup
  sub : ∀ x ∈ L, x ∈ xs
  fit : FW.Fits (abl ys) ds
  len : ds.length = ys.length
  val : ∀ x ∈ xs, get0 L cc x = at_ x (fr ys) + ((0 - ((ds.count x : Nat) : Int) : Int) : Rat)
def spEc : Sp := fun vs H Q _ => ∃ (h nl : Addr) (c m : Nat) (xs : List Str), vs = [.ref h, .ref nl, .int (m : Nat)] ∧ Held H h (c + 12 + m + 30 * m) ∧ H nl = some (.lst (xs.map V.str)) ∧ xs ≠ [] ∧ xs.Nodup ∧ xs.length ≤ 12 ∧ m ≤ 60 ∧ (∀ x ∈ xs, PyData.strOk x = true) ∧
  ∀ (t D o r : Addr) (ys : List Dy) (ds L : List Str) (cc : Str → Rat) (H' : Hp), Held H' h c → Kp h H H' → H' t = some (.tup [.ref D, .ref o, .ref r]) → Cel h D H' → H D = none → TDc H' D L cc → DyL H' o ys → ys.length = m → (∀ y ∈ ys, (∀ x ∈ y.R, x ∈ xs) ∧ (∀ x ∈ y.B, x ∈ xs)) → H' r = some (.lst (ds.map V.str)) → EcOk xs ys ds L cc → Q (.ref t) H'
theorem ok_ec (F : Dn K d_l_even_case f fd) (b : Bl mg) (cD : CalD P w K mg base) (cCm : Cal P w K mg base 2 "_law_coming" spCm []) (cWn : Cal P w K mg base 4 "_law_wants" spWn []) (cA : Cal P w K mg base 2 "_law_add" spAdd []) : FnOk P w K mg base CX0 5 f fd ["_law_held_here", "_law_names_here", "_law_many"] spEc := by
  refine F.ok sc_l_even_case (fun vs H Q E h => ?_) (fun cdv A outer s H vs Q E hr h => ?_)
  · obtain ⟨_, _, _, _, _, rfl, _⟩ := h
    rfl
  · obtain ⟨h, nl, c, m, xs, rfl, hld, hnl, xne, xnd, xl, m60, oks, hQ⟩ := h
    have hu := hu_of hr
    refine ⟨_, PSs.nox (pss_cons (ps_set (i := 3) sc_l_even_case.nd rfl (.inl rfl) (pe_c cCm hr (by decide) rfl (pa_cons (pv 0) (pa_cons (pv 1) (pa_cons (pv 2) pa_nil)))))
      (C8.pss_cut (ps_setLc (i := 4) (own := [("_law_riders", 9), ("_law_able", 10)]) (g := gTup K 2 (gCons (gName 9) (gCons (gName 10) gNil))) (tt := tYes) rfl sc_l_even_case.nd rfl rfl (sw_true rfl rfl rfl (by decide +kernel)) (pi_list (pv 3)) (blkOk_by (N := N_l_even_case) (sc := defScope s_l_even_case) (by decide +kernel))
          (fun _ _ _ _ _ => pg_tup rfl (pgs_cons (pg_name (i := 9) sc_l_even_case.nd rfl (Or.inl rfl)) (pgs_cons (pg_name (i := 10) sc_l_even_case.nd rfl (Or.inl rfl)) pgs_nil))) (fun _ _ _ _ _ => pts_nil)
          (fun _ _ _ _ _ => pe_ix (r := rIxT K) ix_tup (pv 10) (pe_c cD hr (by decide) rfl (pa_cons (pv 0) (pa_cons (pe_callB (r := TI.rLen K) TI.call_lenK rfl b.len boot_len (pa_cons (pv 10) pa_nil)) pa_nil))) (fun _ _ => rfl)))
      (pss_cons (ps_set (i := 5) sc_l_even_case.nd rfl (.inl rfl) (pe_c cWn hr (by decide) rfl (pa_cons pe_dnewK (pa_cons (pv 3) pa_nil))))
      (pss_cons (ps_set (i := 6) sc_l_even_case.nd rfl (.inl rfl) pe_dnewK)
      (pss_cons (ps_for PassesOwn.never rfl (pi_list (pv 1)) (pg_name (i := 7) sc_l_even_case.nd rfl (.inl rfl))
        (pss_cons (ps_set (i := 8) sc_l_even_case.nd rfl (.inl rfl) (pe_c cA hr (by decide) rfl (pa_cons (pe_dget2 hu (pv 5) (pv 7) (pe_tup (pa_cons pe_int (pa_cons pe_int pa_nil))) ⟨rfl, rfl, rfl, rfl⟩) (pa_cons (pe_tup (pa_cons (pe_op op_sub pe_int (pe_cntS (pv 4) (pv 7))) (pa_cons pe_int pa_nil))) pa_nil))))
        (pss_one (ps_if (PW.pt (pw_or (pt_cmpR op_ne (pe_ix ix_tup (pv 8) pe_int (fun _ _ => rfl)) pe_int (nomark _)) (pw_or1 (pt_cmpR op_eq (pe_c cD hr (by decide) rfl (pa_cons (pv 0) (pa_cons pe_int pa_nil))) pe_int (nomark _)))))
          (pss_one (ps_dput hu (pv 6) (pv 7) (pv 8) rfl)) pss_nil))))
      (pss_one (ps_ret (pe_tup (pa_cons (pv 6) (pa_cons (pv 3) (pa_cons (pv 4) pa_nil))))))))))), ?_⟩
    have l12 : ∀ {n : Nat}, n ≤ 61 → n < sizeLine := fun {n} h => Nat.lt_of_le_of_lt h (by decide)
    refine ⟨_, rfl, _, rfl, _, rfl, h, nl, c + 12 + m, m, xs, rfl, hld, hnl, xne, xnd, xl, m60, oks, fun o ys H1 held1 k1 fo D1 ly dm => ?_⟩
    have one : ∀ y ∈ ys, y.R ≠ [] := fun y hy => (D1.2 y hy).ne
    have hdx : ∀ {ds : List Str}, FW.Fits (abl ys) ds → ds.length ≤ ys.length → ∀ x ∈ ds, x ∈ xs := fun {ds} f hl x hx => by
      obtain ⟨k, hk⟩ := List.mem_iff_getElem?.mp hx
      have kl := (List.getElem?_eq_some_iff.mp hk).1
      obtain ⟨y, hy⟩ : ∃ y, ys[k]? = some y := ⟨_, List.getElem?_eq_getElem (by omega)⟩
      exact (dm y (List.mem_of_getElem? hy)).2 x (f.2 k x y.B hk (by rw [List.getElem?_map, hy]; rfl))
    -- who drives
    refine ⟨fun σ' H' => ∃ (r : Addr) (ds : List Str) (v9 v10 : Option V), σ' = [some (.ref h), some (.ref nl), some (.int (m : Nat)), some (.ref o), some (.ref r), none, none, none, none, v9, v10] ∧ Held H' h (c + 12) ∧ Kp h H H' ∧ DyL H' o ys ∧ H' r = some (.lst (ds.map V.str)) ∧ FW.Fits (abl ys) ds ∧ ds.length = ys.length, ?_, ?_⟩
    · refine ⟨_, rfl, o, rfl, ⟨_, SqL.of D1.1⟩, fun r hr0 => lc_list (K := K) (xs := ys.map fun d => V.ref d.a) (fun j H' => ∃ ds : List Str, H' r = some (.lst (ds.map V.str)) ∧ ds.length = j ∧ FW.Fits (abl ys) ds ∧ Held H' h (c + 12 + (m - j)) ∧ Kp h H1 H' ∧ Cel h r H')
        ⟨[], upd_same, rfl, ⟨Nat.zero_le _, fun k d a h => by cases h⟩, (held1.same (same_new hr0)).weak (by omega), Kp.same (same_new hr0), (Cel.of held1 hr0).kp (Kp.same (same_new hr0))⟩ (fun j H' _ z => by obtain ⟨_, _, _, _, _, k, _⟩ := z; exact SqL.of (kp_lst k held1 _ _ D1.1)) ?_ ?_⟩
      · rintro j v H2 hj ⟨ds, hD, dl, fit, held2, k2, ce2⟩
        rw [List.getElem?_map] at hj
        obtain ⟨y, hy, rfl⟩ := Option.map_eq_some_iff.mp hj
        have jl := (List.getElem?_eq_some_iff.mp hy).1
        have oy := (D1.2 y (List.mem_of_getElem? hy)).tup (kp_tup k2 held1)
        have bl : 0 < y.B.length := List.length_pos_iff.mpr oy.bne
        have b12 := oy.lb
        refine ⟨y.a, _, rfl, SqT.of oy.t, rfl, _, _, rfl, _, _, rfl, rfl, rfl, ?_⟩
        refine ⟨_, rfl, _, rfl, _, rfl, y.ba, _, rfl, .inr (SqT.of oy.b), h, c + 12 + (m - (j + 1)), _, rfl, held2.weak (by omega), by rw [List.length_map]; omega, by rw [List.length_map]; omega, fun q H3 q0 q1 held3 k3 => ?_⟩
        rw [List.length_map] at q1
        obtain ⟨q, rfl⟩ := Int.eq_ofNat_of_zero_le q0
        obtain ⟨x, hx⟩ : ∃ x, y.B[q]? = some x := ⟨_, List.getElem?_eq_getElem (by omega)⟩
        have hD3 := k3.1 _ _ hD ce2.ne
        refine ⟨y.ba, _, _, _, rfl, rfl, SqT.of (kp_tup k3 held2 _ _ oy.b), atI_nat (by rw [List.getElem?_map, hx]; rfl), ?_⟩
        refine ⟨_, hD3, by rw [List.length_map]; exact l12 (by omega), ds ++ [x], by rw [upd_same, List.map_append]; rfl, by rw [List.length_append, dl]; rfl, fit.snoc (by rw [dl, List.getElem?_map, hy]; rfl) (List.mem_of_getElem? hx), held3.put (ce2.kp k3), (k2.trans k3).new hr0, (ce2.kp k3).put ce2.ne.symm⟩
      · rintro H2 ⟨ds, hD, dl, fit, held2, k2, ce2⟩
        rw [List.length_map] at dl held2
        exact ⟨r, ds, _, _, rfl, held2.weak (by omega), k1.trans k2, ⟨kp_lst k2 held1 _ _ D1.1, fun d hd => (D1.2 d hd).tup (kp_tup k2 held1)⟩, hD, fit, dl⟩
    rintro σ' H2 ⟨r, ds, v9, v10, rfl, held2, k2, D2, hr2, fit, dl⟩
    intro e fe
    have se := same_new (o := .dK []) fe
    have Te : TDc (upd H2 e (.dK [])) e [] (fun _ => 0) := ⟨fun _ => 0, upd_same, fun x hx => nomatch hx⟩
    generalize upd H2 e (.dK []) = H3 at se Te
    refine ⟨_, rfl, e, o, [], fun _ => 0, ys, rfl, Te, List.nodup_nil, by decide, fun x hx => (nomatch hx), D2.same se, by omega, fun wd H4 s4 fwd Tw => ?_⟩
    have wne : wd ≠ h := fun z => by
      obtain ⟨l', ns, n, m', e1, _⟩ := held2.same se
      rw [← z, fwd] at e1
      cases e1
    have s24 := se.trans s4
    have held4 := held2.same s24
    have k4 := k2.trans (Kp.same s24)
    have D4 := D2.same s24
    have hr4 := s24 _ _ hr2
    generalize hu0 : mvL (([] : List Str), fun x => -((fun _ => (0 : Rat)) x)) (fr ys) = u at Tw
    have uval : ∀ x, get0 u.1 u.2 x = at_ x (fr ys) := fun x => by
      rw [← hu0, mvL_val]
      show (0 : Rat) + _ = _
      rw [Rat.zero_add]
    have uz : ∀ x, Sz 26 (get0 u.1 u.2 x) := fun x => by
      rw [uval]
      have fl := fr_len fun y hy => (D2.2 y hy).l12
      have := q27_at x (fr_q27 (ds := ys) fun y hy => ⟨(D2.2 y hy).ne, (D2.2 y hy).l12⟩)
      refine q27_sz this ?_ (by decide)
      have e : (2 : Nat) ^ 26 = 67108864 := by decide
      omega
    clear hu0
    intro D fD
    have sD := same_new (o := .dK []) fD
    have TD : TDc (upd H4 D (.dK [])) D [] (fun _ => 0) := ⟨fun _ => 0, upd_same, fun x hx => nomatch hx⟩
    have held5 := held4.same sD
    have ce5 := (Cel.of held4 fD).kp (Kp.same sD)
    have fD0 : H D = none := k4.free held4 fD
    have k45 : Kp h H4 (upd H4 D (.dK [])) := Kp.same sD
    generalize upd H4 D (.dK []) = H5 at TD held5 ce5 k45 ⊢
    have hnl4 : H4 nl = some (.lst (xs.map V.str)) := kp_lst k4 hld _ _ hnl
    refine ⟨_, rfl, nl, rfl, ⟨_, SqL.of (kp_lst k45 held4 _ _ hnl4)⟩, for_list (K := K) (xs := xs.map V.str) (fun i σ' H' => ∃ (L : List Str) (cc : Str → Rat) (v7 v8 v9 v10 : Option V), σ' = [some (.ref h), some (.ref nl), some (.int (m : Nat)), some (.ref o), some (.ref r), some (.ref wd), some (.ref D), v7, v8, v9, v10] ∧ Held H' h (c + (12 - i)) ∧ Kp h H4 H' ∧ Cel h D H' ∧ TDc H' D L cc ∧ L.Nodup ∧ (∀ x ∈ L, x ∈ xs.take i) ∧
          ∀ x ∈ xs.take i, get0 L cc x = at_ x (fr ys) + ((0 - ((ds.count x : Nat) : Int) : Int) : Rat))
      ⟨[], fun _ => 0, _, _, _, _, rfl, held5.weak (by omega), k45, ce5, TD, List.nodup_nil, fun x hx => (nomatch hx), fun x hx => by simp at hx⟩ (fun i σ' H' _ z => by obtain ⟨_, _, _, _, _, _, _, _, k, _⟩ := z; exact SqL.of (kp_lst k held4 _ _ hnl4)) ?_ ?_⟩
    · rintro i v σ' H6 hi ⟨L, cc, v7, v8, v9, v10, rfl, held6, k6, ce6, T6, nd, subL, val⟩
      obtain ⟨x, hx, rfl⟩ := sat_ hi
      have il := (List.getElem?_eq_some_iff.mp hx).1
      have xT := nin_tk xnd hx
      have xL : x ∉ L := fun z => xT (subL x z)
      obtain ⟨aw, hw, hwv⟩ := Tw
      have hw6 := k6.1 _ _ hw wne
      refine ⟨_, rfl, wd, rfl, .inl ⟨_, .inl hw6⟩, _, rfl, by show 2 ≤ sizeLine; decide, fun t2 ft2 => ?_⟩
      have s2 := same_new (o := .tup [.int 0, .int 1]) ft2
      have dg : DGet (upd H6 t2 (.tup [.int 0, .int 1])) wd (.str x) (valV (u.1.map fun y => ((Sum.inr y : Key), V.ref (aw y))) (Sum.inr x)) := DGet.k (k := Sum.inr x) (s2 _ _ hw6)
      rw [val_dct] at dg
      obtain ⟨w0, hw0, hw1⟩ : ∃ w0, ((if x ∈ u.1 then some (V.ref (aw x)) else none).getD (.ref t2)) = .ref w0 ∧ (upd H6 t2 (.tup [.int 0, .int 1])) w0 = some (tupP (pr (get0 u.1 u.2 x))) := by
        unfold get0
        by_cases hzu : x ∈ u.1
        · rw [if_pos hzu, if_pos hzu]
          exact ⟨_, rfl, s2 _ _ (kp_tup k6 held4 _ _ (hwv x hzu))⟩
        · rw [if_neg hzu, if_neg hzu]
          exact ⟨_, rfl, upd_same⟩
      have hr6 := s2 _ _ (kp_lst k6 held4 _ _ hr4)
      have held7 := held6.same s2
      have k7 := k6.trans (Kp.same s2)
      have ce7 := ce6.kp (Kp.same s2)
      have T7 := T6.same s2
      generalize upd H6 t2 (.tup [.int 0, .int 1]) = H7 at s2 dg hw1 hr6 held7 k7 ce7 T7 ⊢
      obtain ⟨k, hk⟩ : ∃ k : Int, k = (ds.count x : Nat) := ⟨_, rfl⟩
      have k60 : (ds.count x : Nat) ≤ 60 := Nat.le_trans List.count_le_length (by omega)
      refine ⟨_, dg, _, rfl, .inl ⟨rfl, _, SqL.of hr6⟩, _, rfl, r, ds, x, rfl, rfl, SqL.of hr6, _, _, rfl, rfl, by show 2 ≤ sizeLine; decide, fun g fg => ?_⟩
      rw [← hk]
      have sg := same_new (o := .tup [.int (0 - k), .int 1]) fg
      have hg : (upd H7 g (.tup [.int (0 - k), .int 1])) g = some (tupP (pr ((0 - k : Int) : Rat))) := upd_same
      have zk : Sz 100 ((0 - k : Int) : Rat) := (sz_k (by omega)).mono (by decide)
      have zu := (uz x).mono (show 26 ≤ 100 by decide)
      have hw2 := sg _ _ hw1
      have held8 := held7.same sg
      have k8 := k7.trans (Kp.same sg)
      have ce8 := ce7.kp (Kp.same sg)
      have T8 := T7.same sg
      generalize upd H7 g (.tup [.int (0 - k), .int 1]) = H8 at sg hg hw2 held8 k8 ce8 T8 ⊢
      refine ⟨w0, g, _, _, 100, (by rw [hw0]; rfl), hw2, hg, ⟨bd_of zu, bd_of zk, by decide, by decide⟩, fun q fq => ?_⟩
      rw [KM.pr_plus]
      obtain ⟨v, hv⟩ : ∃ v, v = get0 u.1 u.2 x + ((0 - k : Int) : Rat) := ⟨_, rfl⟩
      rw [← hv]
      have sq := same_new (o := tupP (pr v)) fq
      have hq : (upd H8 q (tupP (pr v))) q = some (tupP (pr v)) := upd_same
      have held9 := held8.same sq
      have k9 := k8.trans (Kp.same sq)
      have ce9 := ce8.kp (Kp.same sq)
      have T9 := T8.same sq
      generalize upd H8 q (tupP (pr v)) = H9 at sq hq held9 k9 ce9 T9 ⊢
      have tk : xs.take (i + 1) = xs.take i ++ [x] := by
        rw [List.take_add_one, hx]
        rfl
      have vx : v = at_ x (fr ys) + ((0 - ((ds.count x : Nat) : Int) : Int) : Rat) := by rw [hv, uval, hk]
      have Llen : L.length ≤ 12 := by
        have := few_of nd (m := xs) fun y hy => List.mem_of_mem_take (subL y hy)
        omega
      have put : ∀ (Hz : Hp) (n : Nat), Held Hz h (c + (12 - (i + 1))) → Kp h H4 Hz → Cel h D Hz → TDc Hz D L cc → Hz q = some (tupP (pr v)) → ∃ (kvs : List (Key × V)), Hz D = some (.dK kvs) ∧ kvs.length < sizeLine ∧
          ∃ (L' : List Str) (cc' : Str → Rat) (v7 v8 v9' v10' : Option V), [some (.ref h), some (.ref nl), some (.int (m : Nat)), some (.ref o), some (.ref r), some (.ref wd), some (.ref D), some (.str x), some (.ref q), v9, v10] = [some (.ref h), some (.ref nl), some (.int (m : Nat)), some (.ref o), some (.ref r), some (.ref wd), some (.ref D), v7, v8, v9', v10'] ∧
            Held (upd Hz D (.dK (putK kvs (Sum.inr x) (.ref q)))) h (c + (12 - (i + 1))) ∧ Kp h H4 (upd Hz D (.dK (putK kvs (Sum.inr x) (.ref q)))) ∧ Cel h D (upd Hz D (.dK (putK kvs (Sum.inr x) (.ref q)))) ∧ TDc (upd Hz D (.dK (putK kvs (Sum.inr x) (.ref q)))) D L' cc' ∧ L'.Nodup ∧ (∀ y ∈ L', y ∈ xs.take (i + 1)) ∧
              ∀ y ∈ xs.take (i + 1), get0 L' cc' y = at_ y (fr ys) + ((0 - ((ds.count y : Nat) : Int) : Int) : Rat) := fun Hz n hz kz cz Tz hqz => by
        obtain ⟨kvs, e1, e2, e3⟩ := Tz.add (x := x) hqz
        have eL : addK L x = L ++ [x] := if_neg xL
        refine ⟨kvs, e1, by rw [e2]; exact l12 (by omega), addK L x, setc cc x v, _, _, _, _, rfl, hz.put cz, kz.new fD, cz.put cz.ne.symm, e3, ?_, fun y hy => ?_, fun y hy => ?_⟩
        · rw [eL]
          refine List.nodup_append.mpr ⟨nd, by simp, fun a ha b hb e => ?_⟩
          have hb := List.mem_singleton.mp hb
          rw [← e] at hb
          rw [hb] at ha
          exact xL ha
        · rw [eL] at hy
          rw [tk]
          exact (List.mem_append.mp hy).elim (fun h => List.mem_append_left _ (subL y h)) (fun h => List.mem_append_right _ h)
        · rw [tk] at hy
          rcases List.mem_append.mp hy with h | h
          · have ne : ¬ y = x := fun z => xT (by rw [← z]; exact h)
            have := val y h
            unfold get0 at this ⊢
            unfold setc
            rw [if_neg ne, eL]
            by_cases yL : y ∈ L
            · rw [if_pos (List.mem_append_left _ yL)]
              rw [if_pos yL] at this
              exact this
            · rw [if_neg (fun z => (List.mem_append.mp z).elim yL fun z => ne (List.mem_singleton.mp z))]
              rw [if_neg yL] at this
              exact this
          · have h := List.mem_singleton.mp h
            subst h
            unfold get0 setc
            rw [if_pos (by rw [eL]; exact List.mem_append_right _ (List.mem_singleton.mpr rfl)), if_pos rfl]
            exact vx
      refine ⟨_, rfl, q, _, _, _, rfl, rfl, SqT.of hq, at0, rfl, _, rfl, ?_⟩
      refine ite2 (fun c1 => ?_) (fun c1 => ?_)
      · refine iteT ?_
        obtain ⟨kvs, e1, e2, e3⟩ := put H9 0 (held9.weak (by omega)) k9 ce9 T9 hq
        exact ⟨_, rfl, _, rfl, _, rfl, D, _, rfl, DPut.k (k := Sum.inr x) e1 e2, e3⟩
      · have v0 : v = 0 := by
          have : (pr v).1 = 0 := by simpa using c1
          exact Rat.num_eq_zero.mp this
        refine ⟨_, rfl, h, c + (12 - (i + 1)), 2, rfl, held9.weak (by omega), by decide, by decide, fun a Ha a0 a2 helda ka => ⟨rfl, _, rfl, ?_⟩⟩
        refine ite2 (fun c2 => ?_) (fun c2 => ?_)
        · obtain ⟨kvs, e1, e2, e3⟩ := put Ha 0 helda (k9.trans ka) (ce9.kp ka) (T9.kp ka held9 ce9.ne) (kp_tup ka held9 _ _ hq)
          exact ⟨_, rfl, _, rfl, _, rfl, D, _, rfl, DPut.k (k := Sum.inr x) e1 e2, e3⟩
        · refine ⟨L, cc, _, _, _, _, rfl, helda, k9.trans ka, ce9.kp ka, T9.kp ka held9 ce9.ne, nd, fun y hy => by rw [tk]; exact List.mem_append_left _ (subL y hy), fun y hy => ?_⟩
          rw [tk] at hy
          rcases List.mem_append.mp hy with h | h
          · exact val y h
          · have h := List.mem_singleton.mp h
            subst h
            rw [← vx, v0]
            unfold get0
            rw [if_neg xL]
    · rintro σ' H6 ⟨L, cc, v7, v8, v9, v10, rfl, held6, k6, ce6, T6, nd, subL, val⟩
      rw [List.length_map, List.take_length] at subL val
      refine ⟨_, rfl, _, rfl, _, rfl, by show 3 ≤ sizeLine; decide, fun t ft => ?_⟩
      have st := same_new (o := .tup [.ref D, .ref o, .ref r]) ft
      have k7 := k6.trans (Kp.same st)
      exact hQ t D o r ys ds L cc _ ((held6.same st).weak (by omega)) (k4.trans k7) upd_same (ce6.kp (Kp.same st)) fD0 (T6.same st) ⟨kp_lst k7 held4 _ _ D4.1, fun d hd => (D4.2 d hd).tup (kp_tup k7 held4)⟩ ly dm (kp_lst k7 held4 _ _ hr4) ⟨nd, subL, fit, dl, val⟩
end
end K52
set_option Elab.async false
set_option linter.all false
set_option maxRecDepth 100000
set_option maxHeartbeats 4000000
namespace K52
open PySem PySem.Spec PyProof.Rows L2
open KM (pr Sz)
/-! ### the credits and what is wanted -/
theorem at_get {c : Str → Rat} {x : Str} : ∀ {L : List Str}, L.Nodup → at_ x (L.map fun y => (y, c y)) = get0 L c x
  | [], _ => rfl
  | y :: L, nd => by
    obtain ⟨n1, n2⟩ := List.nodup_cons.mp nd
    have ih := at_get (c := c) (x := x) n2
    show (if y = x then c y else 0) + at_ x (L.map fun y => (y, c y)) = _
    rw [ih]
    unfold get0
    by_cases e : y = x
    · subst e
      rw [if_pos rfl, if_neg n1, if_pos List.mem_cons_self]
      grind
    · have e2 : ¬ x = y := fun z => e z.symm
      rw [if_neg e]
      by_cases h : x ∈ L
      · rw [if_pos h, if_pos (List.mem_cons_of_mem _ h)]
        grind
      · rw [if_neg h, if_neg (fun z => (List.mem_cons.mp z).elim e2 h)]
        grind
theorem sum_get {L xs : List Str} {c : Str → Rat} (nd : L.Nodup) (nx : xs.Nodup) (sub : ∀ x ∈ L, x ∈ xs) : sumR (L.map c) = sumR (xs.map fun x => get0 L c x) := by
  have h := at_sum nx (ms := L.map fun y => (y, c y)) fun m hm => by
    obtain ⟨y, hy, rfl⟩ := List.mem_map.mp hm
    exact sub y hy
  rw [List.map_map] at h
  have e : ((fun p : Str × Rat => p.2) ∘ fun y => (y, c y)) = c := rfl
  rw [e] at h
  rw [← h]
  congr 1
  exact List.map_congr_left fun x _ => at_get nd
theorem wv_val {ys : List Dy} {L : List Str} {c : Str → Rat} (nd : L.Nodup) (x : Str) : get0 (wN ys L c) (wV ys L c) x = at_ x (fr ys) + -(get0 L c x) := by
  show get0 (mvL (mvL ([], fun _ => 0) (fr ys)) (L.map fun x => (x, -(c x)))).1 (mvL (mvL ([], fun _ => 0) (fr ys)) (L.map fun x => (x, -(c x)))).2 x = _
  rw [mvL_val, mvL_val]
  have h := at_get (c := fun x => -(c x)) (x := x) nd
  rw [h]
  have e : get0 ([] : List Str) (fun _ => (0 : Rat)) x = 0 := rfl
  rw [e]
  unfold get0
  split <;> grind
theorem mem_wN {ys : List Dy} {L xs : List Str} {c : Str → Rat} (sub : ∀ x ∈ L, x ∈ xs) (hR : ∀ y ∈ ys, ∀ x ∈ y.R, x ∈ xs) {x : Str} (h : x ∈ wN ys L c) : x ∈ xs := by
  rcases mem_due ((mem_both x).mp h) with z | ⟨y, hy, z⟩
  · exact sub x z
  · exact hR y hy x z
/-- drivers that keep to the days, and the credits but for e -/
structure Ecx (xs : List Str) (ys : List Dy) (ds L : List Str) (cc e : Str → Rat) : Prop where
  nd : L.Nodup
  sub : ∀ x ∈ L, x ∈ xs
  fit : FW.Fits (abl ys) ds
  len : ds.length = ys.length
  val : ∀ x ∈ xs, get0 L cc x = at_ x (fr ys) + -((ds.count x : Nat) : Rat) + e x
theorem EcOk.x {xs : List Str} {ys : List Dy} {ds L : List Str} {cc : Str → Rat} (h : EcOk xs ys ds L cc) : Ecx xs ys ds L cc fun _ => 0 :=
  ⟨h.nd, h.sub, h.fit, h.len, fun x hx => by
    rw [h.val x hx]
    have : ((0 - ((ds.count x : Nat) : Int) : Int) : Rat) = -((ds.count x : Nat) : Rat) := by
      have e : (((ds.count x : Nat) : Int) : Rat) = ((ds.count x : Nat) : Rat) := rfl
      rw [← e]
      simp
    rw [this]
    grind⟩
theorem Ecx.wit {xs : List Str} {ys : List Dy} {ds L : List Str} {cc e : Str → Rat} {s : Rat} (h : Ecx xs ys ds L cc e) (hR : ∀ y ∈ ys, ∀ x ∈ y.R, x ∈ xs) (he : ∀ x, e x ≤ s ∧ -(e x) ≤ s) : Wit ys L cc s ds := by
  refine ⟨h.fit, h.len, fun x hx => ?_⟩
  have hxs := mem_wN h.sub hR hx
  have v := wv_val (ys := ys) (c := cc) h.nd x
  rw [get0_in hx, h.val x hxs] at v
  obtain ⟨e1, e2⟩ := he x
  have ek : ((((ds.count x : Nat) : Int)) : Rat) = ((ds.count x : Nat) : Rat) := rfl
  unfold EvK
  rw [v, ek]
  constructor <;> grind
/-- the same days and drivers in another order -/
structure Ord (ys : List Dy) (ds : List Str) (ys' : List Dy) (ds' : List Str) : Prop where
  mem : ∀ y ∈ ys', y ∈ ys
  len : ys'.length = ys.length
  fit : FW.Fits (abl ys') ds'
  dl : ds'.length = ys'.length
  atE : ∀ x, K52.at_ x (fr ys') = K52.at_ x (fr ys)
  cnt : ∀ x, ds'.count x = ds.count x
theorem Ord.ecx {xs : List Str} {ys ys' : List Dy} {ds ds' L : List Str} {cc e : Str → Rat} (o : Ord ys ds ys' ds') (h : Ecx xs ys ds L cc e) : Ecx xs ys' ds' L cc e :=
  ⟨h.nd, h.sub, o.fit, o.dl, fun x hx => by rw [h.val x hx, o.atE, o.cnt]⟩
theorem Ord.self {ys : List Dy} {ds : List Str} (f : FW.Fits (abl ys) ds) (l : ds.length = ys.length) : Ord ys ds ys ds := ⟨fun _ h => h, rfl, f, l, fun _ => rfl, fun _ => rfl⟩
theorem fr_app (a b : List Dy) : fr (a ++ b) = fr a ++ fr b := by
  unfold fr
  rw [List.flatMap_append]
theorem at_rev (x : Str) : ∀ ys : List Dy, at_ x (fr ys.reverse) = at_ x (fr ys)
  | [] => rfl
  | y :: ys => by
    have ih := at_rev x ys
    rw [List.reverse_cons, fr_app, at_app, ih]
    have e : fr (y :: ys) = fr [y] ++ fr ys := fr_app [y] ys
    rw [e, at_app]
    grind
theorem Ord.cut {ys : List Dy} {ds : List Str} (k : Nat) (f : FW.Fits (abl ys) ds) (l : ds.length = ys.length) : Ord ys ds (ys.drop k ++ ys.take k) (ds.drop k ++ ds.take k) := by
  refine ⟨fun y h => (List.mem_append.mp h).elim List.mem_of_mem_drop List.mem_of_mem_take, ?_, ⟨?_, fun j d a h1 h2 => ?_⟩, ?_, fun x => ?_, fun x => ?_⟩
  · rw [List.length_append, List.length_drop, List.length_take]
    omega
  · rw [List.length_map, List.length_append, List.length_append, List.length_drop, List.length_take, List.length_drop, List.length_take]
    omega
  · have e : abl (ys.drop k ++ ys.take k) = (abl ys).drop k ++ (abl ys).take k := by
      show (ys.drop k ++ ys.take k).map (·.B) = _
      rw [List.map_append, List.map_drop, List.map_take]
    rw [e] at h2
    have la : (abl ys).length = ys.length := List.length_map _
    by_cases hj : j < ds.length - k
    · rw [List.getElem?_append_left (by rw [List.length_drop]; exact hj), List.getElem?_drop] at h1
      rw [List.getElem?_append_left (by rw [List.length_drop]; omega), List.getElem?_drop] at h2
      exact f.2 _ d a h1 h2
    · rw [List.getElem?_append_right (by rw [List.length_drop]; omega), List.length_drop] at h1
      rw [List.getElem?_append_right (by rw [List.length_drop]; omega), List.length_drop, la] at h2
      rw [← l] at h2
      have hk : j - (ds.length - k) < k := by
        have := (List.getElem?_eq_some_iff.mp h1).1
        rw [List.length_take] at this
        omega
      rw [List.getElem?_take_of_lt hk] at h1 h2
      exact f.2 _ d a h1 h2
  · rw [List.length_append, List.length_append, List.length_drop, List.length_take, List.length_drop, List.length_take]
    omega
  · have e : at_ x (fr ys) = at_ x (fr (ys.take k)) + at_ x (fr (ys.drop k)) := by
      rw [← at_app, ← fr_app, List.take_append_drop]
    rw [fr_app, at_app, e]
    grind
  · rw [List.count_append, Nat.add_comm, ← List.count_append, List.take_append_drop]
theorem Ord.rev {ys : List Dy} {ds : List Str} (f : FW.Fits (abl ys) ds) (l : ds.length = ys.length) : Ord ys ds ys.reverse ds.reverse := by
  refine ⟨fun y h => List.mem_reverse.mp h, List.length_reverse, ⟨?_, fun j d a h1 h2 => ?_⟩, ?_, fun x => at_rev x ys, fun x => List.count_reverse⟩
  · rw [List.length_map, List.length_reverse, List.length_reverse, l]
    exact Nat.le_refl _
  · have e : abl ys.reverse = (abl ys).reverse := List.map_reverse
    rw [e] at h2
    have la : (abl ys).length = ys.length := List.length_map _
    have jl : j < ds.length := by
      have := (List.getElem?_eq_some_iff.mp h1).1
      rw [List.length_reverse] at this
      exact this
    rw [List.getElem?_reverse jl] at h1
    rw [List.getElem?_reverse (by omega), la, ← l] at h2
    exact f.2 _ d a h1 h2
  · rw [List.length_reverse, List.length_reverse, l]
end K52
set_option Elab.async false
set_option linter.all false
set_option maxRecDepth 100000
set_option maxHeartbeats 4000000
namespace K52
open PySem PySem.Spec PyProof.Rows L2
open LamX (Tabs ExtN TabB CodeO)
open KM (pr Sz)
theorem tabs_kp {T : List (Addr × Str)} {h : Addr} {H H' : Hp} {c : Nat} (t : Tabs T H) (k : Kp h H H') (x : Held H h c) : Tabs T H' := by
  obtain ⟨l, ns, n, m, h1, _⟩ := x
  intro p hp
  obtain ⟨q, hq, tq, cq⟩ := t p hp
  refine ⟨q, k.1 _ _ hq (fun z => by rw [z, h1] at hq; cases hq), tq, fun pos cv e => ?_⟩
  obtain ⟨c0, e1, e2⟩ := cq pos cv e
  exact ⟨c0, e1, k.1 _ _ e2 (fun z => by rw [z, h1] at e2; cases e2)⟩
theorem tabs_d {T : List (Addr × Str)} {H : Hp} {l : Addr} {xs ys : List (Key × V)} (t : Tabs T H) (hl : H l = some (.dK xs)) : Tabs T (upd H l (.dK ys)) := by
  intro p hp
  obtain ⟨q, hq, tq, cq⟩ := t p hp
  refine ⟨q, by rw [upd_ne (fun z => by rw [z, hl] at hq; cases hq)]; exact hq, tq, fun pos cv e => ?_⟩
  obtain ⟨c0, e1, e2⟩ := cq pos cv e
  exact ⟨c0, e1, by rw [upd_ne (fun z => by rw [z, hl] at e2; cases e2)]; exact e2⟩
theorem Held.ext {H H' : Hp} {h : Addr} {c : Nat} (x : Held H h c) (e : ExtN H H') : Held H' h c := let ⟨l, ns, n, m, a, b, r⟩ := x; ⟨l, ns, n, m, e _ _ a (fun _ q => nomatch q), e _ _ b (fun _ q => nomatch q), r⟩
theorem Cel.ext {H H' : Hp} {h D : Addr} (x : Cel h D H) (e : ExtN H H') : Cel h D H' := let ⟨l, n, m, a, r⟩ := x; ⟨l, n, m, e _ _ a (fun _ q => nomatch q), r⟩
theorem TDc.ext {H H' : Hp} {D : Addr} {L : List Str} {c : Str → Rat} (x : TDc H D L c) (e : ExtN H H') : TDc H' D L c := let ⟨ad, a, b⟩ := x; ⟨ad, e _ _ a (fun _ q => nomatch q), fun x hx => e _ _ (b x hx) (fun _ q => nomatch q)⟩
theorem DyL.ext {H H' : Hp} {l : Addr} {ys : List Dy} (x : DyL H l ys) (e : ExtN H H') : DyL H' l ys := ⟨e _ _ x.1 (fun _ q => nomatch q), fun d hd => let o := x.2 d hd; ⟨e _ _ o.t (fun _ q => nomatch q), e _ _ o.r (fun _ q => nomatch q), e _ _ o.b (fun _ q => nomatch q), o.nd, o.ne, o.l12, o.lb, o.bn, o.bs, o.bne⟩⟩
/-- what stands: the pen, the names, the credits, the days -/
structure Sd (K : PySem.W.Frag) (H : Hp) (h nl D o : Addr) (n : Nat) (xs : List Str) (ys : List Dy) (L : List Str) (cc : Str → Rat) : Prop where
  held : Held H h n
  tabs : Tabs (T0 K) H
  hn : H nl = some (.lst (xs.map V.str))
  ce : Cel h D H
  t : TDc H D L cc
  dy : DyL H o ys
section
variable {K : PySem.W.Frag} {H H' : Hp} {h nl D o : Addr} {n n' : Nat} {xs : List Str} {ys : List Dy} {L : List Str} {cc : Str → Rat}
theorem Sd.kp (x : Sd K H h nl D o n xs ys L cc) (k : Kp h H H') (hh : Held H' h n') : Sd K H' h nl D o n' xs ys L cc :=
  ⟨hh, tabs_kp x.tabs k x.held, kp_lst k x.held _ _ x.hn, x.ce.kp k, x.t.kp k x.held x.ce.ne, ⟨kp_lst k x.held _ _ x.dy.1, fun d hd => (x.dy.2 d hd).tup (kp_tup k x.held)⟩⟩
theorem Sd.same (x : Sd K H h nl D o n xs ys L cc) (s : Same H H') : Sd K H' h nl D o n xs ys L cc := x.kp (Kp.same s) (x.held.same s)
theorem Sd.weak (x : Sd K H h nl D o n xs ys L cc) (l : n' ≤ n) : Sd K H h nl D o n' xs ys L cc := ⟨x.held.weak l, x.tabs, x.hn, x.ce, x.t, x.dy⟩
theorem Sd.ext (x : Sd K H h nl D o n xs ys L cc) (e : ExtN H H') (t : Tabs (T0 K) H') : Sd K H' h nl D o n xs ys L cc :=
  ⟨x.held.ext e, t, e _ _ x.hn (fun _ q => nomatch q), x.ce.ext e, x.t.ext e, x.dy.ext e⟩
theorem Sd.put {q : Addr} {x : Str} {v : Rat} (s : Sd K H h nl D o n xs ys L cc) (hq : H q = some (tupP (pr v))) : ∃ kvs : List (Key × V), H D = some (.dK kvs) ∧ kvs.length = L.length ∧ Sd K (upd H D (.dK (putK kvs (Sum.inr x) (.ref q)))) h nl D o n xs ys (addK L x) (setc cc x v) ∧
    ∀ b ts, H b = some (.tup ts) → (upd H D (.dK (putK kvs (Sum.inr x) (.ref q)))) b = some (.tup ts) := by
  obtain ⟨kvs, e1, e2, e3⟩ := s.t.add (x := x) hq
  have kl : ∀ b ts, H b = some (.lst ts) → (upd H D (.dK (putK kvs (Sum.inr x) (.ref q)))) b = some (.lst ts) := fun b ts e => by rw [upd_ne (ne_of e e1 (by intro z; cases z))]; exact e
  have kt : ∀ b ts, H b = some (.tup ts) → (upd H D (.dK (putK kvs (Sum.inr x) (.ref q)))) b = some (.tup ts) := fun b ts e => by rw [upd_ne (ne_of e e1 (by intro z; cases z))]; exact e
  exact ⟨kvs, e1, e2, ⟨s.held.put s.ce, tabs_d s.tabs e1, kl _ _ s.hn, s.ce.put s.ce.ne.symm, e3, ⟨kl _ _ s.dy.1, fun d hd => (s.dy.2 d hd).tup kt⟩⟩, kt⟩
end
/-- the credits' sizes -/
theorem ecx_sz {xs : List Str} {ys : List Dy} {ds L : List Str} {cc e : Str → Rat} {H : Hp} (h : Ecx xs ys ds L cc e) (hD : ∀ y ∈ ys, DyOk H y) (ly : ys.length ≤ 60) (ze : ∀ x, Sz 40 (e x)) : ∀ x ∈ L, Sz 100 (cc x) := fun x hx => by
  have v := h.val x (h.sub x hx)
  rw [get0_in hx] at v
  rw [v]
  have fl := fr_len fun y hy => (hD y hy).l12
  have q1 := q27_at x (fr_q27 (ds := ys) fun y hy => ⟨(hD y hy).ne, (hD y hy).l12⟩)
  have z1 : Sz 26 (at_ x (fr ys)) := by
    refine q27_sz q1 ?_ (by decide)
    have e : (2 : Nat) ^ 26 = 67108864 := by decide
    omega
  have k60 : ds.count x ≤ 60 := Nat.le_trans List.count_le_length (by have := h.len; omega)
  have z2 : Sz 7 (-((ds.count x : Nat) : Rat)) := sz_neg (sz_k (k := ((ds.count x : Nat) : Int)) (by omega))
  have z3 := (KM.sz_plus z1 z2).1
  exact ((KM.sz_plus z3 (ze x)).1).mono (by decide)
theorem ecx_sum {xs : List Str} {ys : List Dy} {ds L : List Str} {cc : Str → Rat} {ms : List (Str × Rat)} (h : Ecx xs ys ds L cc fun x => at_ x ms) (nx : xs.Nodup) (hR : ∀ y ∈ ys, (∀ x ∈ y.R, x ∈ xs) ∧ ∀ x ∈ y.B, x ∈ xs) (ne : ∀ y ∈ ys, y.R ≠ []) (hm : ∀ m ∈ ms, m.1 ∈ xs) (s0 : sumR (ms.map (·.2)) = 0) : sumR (L.map cc) = 0 := by
  rw [sum_get h.nd nx h.sub]
  have hd : ∀ x ∈ ds, x ∈ xs := fun x hx => by
    obtain ⟨k, hk⟩ := List.mem_iff_getElem?.mp hx
    have kl := (List.getElem?_eq_some_iff.mp hk).1
    obtain ⟨y, hy⟩ : ∃ y, ys[k]? = some y := ⟨_, List.getElem?_eq_getElem (by have := h.len; omega)⟩
    exact (hR y (List.mem_of_getElem? hy)).2 x (h.fit.2 k x y.B hk (by rw [List.getElem?_map, hy]; rfl))
  have e1 := even_sum nx (fun y hy => (hR y hy).1) ne hd h.len
  have e2 := at_sum nx hm
  have e3 : (xs.map fun x => get0 L cc x) = xs.map fun x => (at_ x (fr ys) + -((ds.count x : Nat) : Rat)) + at_ x ms := List.map_congr_left fun x hx => h.val x hx
  rw [e3, sumR_add, e1, e2, s0]
  grind
theorem wN_len {xs : List Str} {ys : List Dy} {L : List Str} {cc : Str → Rat} (sub : ∀ x ∈ L, x ∈ xs) (hR : ∀ y ∈ ys, ∀ x ∈ y.R, x ∈ xs) (xl : xs.length ≤ 13) : (wN ys L cc).length ≤ 40 := by
  have := few_of (m := xs) (wnt_nd (ds := ys) (L := L) (c := cc)) fun x hx => mem_wN sub hR hx
  show (wnt ys L cc).1.length ≤ 40
  omega
/-- what are_even is asked -/
theorem due_ev {ys : List Dy} {L : List Str} {cc : Str → Rat} {s : Rat} {fs : List Str} (nd : L.Nodup) (w : Wit ys L cc s fs) : ∀ x ∈ (due ys L cc).1, EvK ((due ys L cc).2 x) s (fs.count x : Nat) := fun x hx => by
  rw [← wnt_val nd hx]
  exact w.ev x ((mem_both x).mpr hx)
theorem due_sz {H : Hp} {ys : List Dy} {L : List Str} {cc : Str → Rat} (nd : L.Nodup) (lL : L.length ≤ 16) (hz : ∀ x ∈ L, Sz 100 (cc x)) (hD : ∀ y ∈ ys, DyOk H y) (ly : ys.length ≤ 60) : ∀ x ∈ (due ys L cc).1, Sz 1900 ((due ys L cc).2 x) := fun x hx => by
  rw [← wnt_val nd hx]
  exact (wnt_sz lL hz hD ly ((mem_both x).mpr hx)).mono (by decide)
end K52
set_option Elab.async false
set_option linter.all false
set_option maxRecDepth 100000
set_option maxHeartbeats 4000000
namespace K52
open PySem PySem.Spec PyProof.Rows L2
open C8 (Cal Mak Met pe_c pe_mk pe_mt pe_mt0)
open KM (pr Sz)
/-- credits of one's own that change -/
structure Mo (H0 H : Hp) (h D : Addr) (n : Nat) (L : List Str) (cc : Str → Rat) : Prop where
  held : Held H h n
  kp : Kp h H0 H
  ce : Cel h D H
  fr : H0 D = none
  t : TDc H D L cc
section
variable {H0 H H' : Hp} {h D : Addr} {n n' : Nat} {L : List Str} {cc : Str → Rat}
theorem Mo.go (x : Mo H0 H h D n L cc) (k : Kp h H H') (hh : Held H' h n') : Mo H0 H' h D n' L cc := ⟨hh, x.kp.trans k, x.ce.kp k, x.fr, x.t.kp k x.held x.ce.ne⟩
theorem Mo.same (x : Mo H0 H h D n L cc) (s : Same H H') : Mo H0 H' h D n L cc := x.go (Kp.same s) (x.held.same s)
theorem Mo.put {q : Addr} {x : Str} {v : Rat} (s : Mo H0 H h D n L cc) (hq : H q = some (tupP (pr v))) : ∃ kvs : List (Key × V), H D = some (.dK kvs) ∧ kvs.length = L.length ∧ Mo H0 (upd H D (.dK (putK kvs (Sum.inr x) (.ref q)))) h D n (addK L x) (setc cc x v) ∧
    ∀ b ts, H b = some (.tup ts) → (upd H D (.dK (putK kvs (Sum.inr x) (.ref q)))) b = some (.tup ts) := by
  obtain ⟨kvs, e1, e2, e3⟩ := s.t.add (x := x) hq
  have kt : ∀ b ts, H b = some (.tup ts) → (upd H D (.dK (putK kvs (Sum.inr x) (.ref q)))) b = some (.tup ts) := fun b ts e => by rw [upd_ne (ne_of e e1 (by intro z; cases z))]; exact e
  exact ⟨kvs, e1, e2, ⟨s.held.put s.ce, s.kp.new s.fr, s.ce.put s.ce.ne.symm, s.fr, e3⟩, kt⟩
end
theorem sz_get0 {L : List Str} {cc : Str → Rat} {n : Nat} (n0 : 0 < n) (hz : ∀ x ∈ L, Sz n (cc x)) (x : Str) : Sz n (get0 L cc x) := by
  unfold get0
  split
  · rename_i hx
    exact hz x hx
  · exact sz0 n0
theorem pr_one {b : Int} (hb : 0 < b) : pr (Rat.divInt 1 b) = (1, b) := by
  rw [← KM.low_eq (by omega)]
  unfold KM.low KM.sg
  have g : Int.gcd 1 b = 1 := by simp
  rw [g, if_neg (by omega)]
  simp
theorem addK_len1 (L : List Str) (x : Str) : (addK L x).length ≤ L.length + 1 := by
  unfold addK
  split
  · omega
  · rw [List.length_append]
    exact Nat.le_refl _
section
variable {P : Program} {w : World} {K : PySem.W.Frag} {mg : Str → Option Value} {base : Heap} {f C : Addr} {fd : FuncData}
def spMo : Sp := fun vs H Q _ => ∃ (h D nl : Addr) (c : Nat) (xs L : List Str) (cc : Str → Rat), vs = [.ref h, .ref D, .ref nl] ∧ Held H h (c + 4) ∧ TDc H D L cc ∧ H nl = some (.lst (xs.map V.str)) ∧ xs ≠ [] ∧ xs.length ≤ 13 ∧ L.length ≤ 13 ∧ (∀ x ∈ L, Sz 100 (cc x)) ∧
  ∀ (D' : Addr) (x1 x2 : Str) (p : Rat) (H' : Hp), x1 ∈ xs → x2 ∈ xs → Sz 4 p → Mo H H' h D' c (mvL (L, cc) [(x1, p), (x2, -p)]).1 (mvL (L, cc) [(x1, p), (x2, -p)]).2 → Q (.ref D') H'
theorem ok_mo (F : Dn K d_l_moved f fd) (b : Bl mg) (bd : mg "dict" = none) (cD : CalD P w K mg base) (cA : Cal P w K mg base 2 "_law_add" spAdd []) : FnOk P w K mg base CX0 3 f fd ["_law_held_here", "_law_standing", "_law_names_here"] spMo := by
  refine F.ok sc_l_moved (fun vs H Q E h => ?_) (fun cdv A outer s H vs Q E hr h => ?_)
  · obtain ⟨_, _, _, _, _, _, _, rfl, _⟩ := h
    rfl
  · obtain ⟨h, D0, nl, c, xs, L, cc, rfl, hld, ⟨a0, hD0, hv0⟩, hn, xne, xl, ll, sz, hQ⟩ := h
    have hu := hu_of hr
    refine ⟨_, PSs.nox (C8.pss_cut (ps_set (i := 3) sc_l_moved.nd rfl (.inl rfl) (pe_callTy call_dictD rfl bd boot_dict (pa_cons (pv 1) pa_nil)))
      (C8.pss_cut (ps_par (i := 4) (j := 5) rfl sc_l_moved.nd rfl rfl (by decide) rfl rfl (pa_cons (pe_ix (r := rIxL K) ix_list (pv 2) (pe_c cD hr (by decide) rfl (pa_cons (pv 0) (pa_cons (pe_callB call_len_seq rfl b.len boot_len (pa_cons (pv 2) pa_nil)) pa_nil))) (fun _ _ => rfl))
          (pa_cons (pe_ix (r := rIxL K) ix_list (pv 2) (pe_c cD hr (by decide) rfl (pa_cons (pv 0) (pa_cons (pe_callB call_len_seq rfl b.len boot_len (pa_cons (pv 2) pa_nil)) pa_nil))) (fun _ _ => rfl)) pa_nil)) rfl)
      (C8.pss_cut (ps_set (i := 6) sc_l_moved.nd rfl (.inl rfl) (pe_ix (r := rIxL K) ix_list (pe_lst (pa_cons (pe_tup (pa_cons pe_int (pa_cons pe_int pa_nil))) (pa_cons (pe_tup (pa_cons pe_int (pa_cons pe_int pa_nil))) (pa_cons (pe_tup (pa_cons pe_int (pa_cons pe_int pa_nil)))
          (pa_cons (pe_tup (pa_cons pe_int (pa_cons (pe_op op_add pe_int (pe_c cD hr (by decide) rfl (pa_cons (pv 0) (pa_cons pe_int pa_nil)))) pa_nil))) pa_nil))))) (pe_c cD hr (by decide) rfl (pa_cons (pv 0) (pa_cons pe_int pa_nil))) (fun _ _ => rfl)))
      (C8.pss_cut (ps_dput hu (pv 3) (pv 4) (pe_c cA hr (by decide) rfl (pa_cons (pe_dget2 hu (pv 3) (pv 4) (pe_tup (pa_cons pe_int (pa_cons pe_int pa_nil))) ⟨rfl, rfl, rfl, rfl⟩) (pa_cons (pv 6) pa_nil))) rfl)
      (C8.pss_cut (ps_dput hu (pv 3) (pv 5) (pe_c cA hr (by decide) rfl (pa_cons (pe_dget2 hu (pv 3) (pv 5) (pe_tup (pa_cons pe_int (pa_cons pe_int pa_nil))) ⟨rfl, rfl, rfl, rfl⟩) (pa_cons (pe_tup (pa_cons (pe_op op_sub pe_int (pe_ix ix_tup (pv 6) pe_int (fun _ _ => rfl))) (pa_cons (pe_ix ix_tup (pv 6) pe_int (fun _ _ => rfl)) pa_nil))) pa_nil))) rfl)
      (pss_one (ps_ret (pv 3)))))))), ?_⟩
    refine ⟨fun σ' H' => ∃ D : Addr, σ' = [some (.ref h), some (.ref D0), some (.ref nl), some (.ref D), none, none, none] ∧ Mo H H' h D (c + 4) L cc ∧ H' nl = some (.lst (xs.map V.str)), ?_, ?_⟩
    · refine ⟨_, rfl, D0, _, rfl, .inl hD0, fun D fD => ?_⟩
      have sD := same_new (o := dctO L fun x => .ref (a0 x)) fD
      exact ⟨D, rfl, ⟨hld.same sD, Kp.same sD, (Cel.of hld fD).kp (Kp.same sD), fD, a0, upd_same, fun x hx => sD _ _ (hv0 x hx)⟩, sD _ _ hn⟩
    rintro σ' H1 ⟨D, rfl, mo1, hn1⟩
    have xl0 : (0 : Int) < (((xs.map V.str).length : Nat) : Int) := by
      have := List.length_pos_iff.mpr xne
      rw [List.length_map]
      omega
    have xl1 : (((xs.map V.str).length : Nat) : Int) < 1073741824 := by rw [List.length_map]; omega
    -- whose credits change
    refine ⟨fun σ' H' => ∃ (x1 x2 : Str), σ' = [some (.ref h), some (.ref D0), some (.ref nl), some (.ref D), some (.str x1), some (.str x2), none] ∧ Mo H H' h D (c + 2) L cc ∧ x1 ∈ xs ∧ x2 ∈ xs, ?_, ?_⟩
    · refine ⟨_, rfl, _, rfl, _, rfl, nl, _, rfl, .inl (SqL.of hn1), h, c + 3, _, rfl, mo1.held, xl0, xl1, fun i1 HC i10 i11 heldC kC => ?_⟩
      have moC := mo1.go kC heldC
      have hnC := kp_lst kC mo1.held _ _ hn1
      rw [List.length_map] at i11
      obtain ⟨i1, rfl⟩ := Int.eq_ofNat_of_zero_le i10
      obtain ⟨x1, hx1⟩ : ∃ x, xs[i1]? = some x := ⟨_, List.getElem?_eq_getElem (by omega)⟩
      refine ⟨nl, _, _, _, rfl, rfl, SqL.of hnC, atI_nat (by rw [List.getElem?_map, hx1]; rfl), ?_⟩
      refine ⟨_, rfl, _, rfl, _, rfl, nl, _, rfl, .inl (SqL.of hnC), h, c + 2, _, rfl, heldC, xl0, xl1, fun i2 HE i20 i21 heldE kE' => ?_⟩
      have moE := moC.go kE' heldE
      have hnE := kp_lst kE' heldC _ _ hnC
      rw [List.length_map] at i21
      obtain ⟨i2, rfl⟩ := Int.eq_ofNat_of_zero_le i20
      obtain ⟨x2, hx2⟩ : ∃ x, xs[i2]? = some x := ⟨_, List.getElem?_eq_getElem (by omega)⟩
      refine ⟨nl, _, _, _, rfl, rfl, SqL.of hnE, atI_nat (by rw [List.getElem?_map, hx2]; rfl), ?_⟩
      exact ⟨_, _, rfl, x1, x2, rfl, moE, List.mem_of_getElem? hx1, List.mem_of_getElem? hx2⟩
    rintro σ' HC ⟨x1, x2, rfl, moC, hx1, hx2⟩
    -- the part
    refine ⟨fun σ' H' => ∃ (pt : Addr) (p : Rat), σ' = [some (.ref h), some (.ref D0), some (.ref nl), some (.ref D), some (.str x1), some (.str x2), some (.ref pt)] ∧ Mo H H' h D c L cc ∧ H' pt = some (tupP (pr p)) ∧ Sz 4 p, ?_, ?_⟩
    · have l2 : 2 ≤ sizeLine := by decide
      refine ⟨l2, fun t1 f1 => ?_⟩
      have s1 := same_new (o := .tup [.int 1, .int 1]) f1
      have h1 : (upd HC t1 (.tup [.int 1, .int 1])) t1 = some (tupP (pr 1)) := upd_same
      have mo2 := moC.same s1
      generalize upd HC t1 (.tup [.int 1, .int 1]) = H2 at s1 h1 mo2 ⊢
      refine ⟨l2, fun t2 f2 => ?_⟩
      have s2 := same_new (o := .tup [.int 2, .int 1]) f2
      have h2 : (upd H2 t2 (.tup [.int 2, .int 1])) t2 = some (tupP (pr 2)) := upd_same
      have mo3 := mo2.same s2
      have h1 := s2 _ _ h1
      generalize upd H2 t2 (.tup [.int 2, .int 1]) = H3 at s2 h1 h2 mo3 ⊢
      refine ⟨l2, fun t3 f3 => ?_⟩
      have s3 := same_new (o := .tup [.int 1, .int 2]) f3
      have h3 : (upd H3 t3 (.tup [.int 1, .int 2])) t3 = some (tupP (pr (Rat.divInt 1 2))) := upd_same
      have mo4 := mo3.same s3
      have h1 := s3 _ _ h1
      have h2 := s3 _ _ h2
      generalize upd H3 t3 (.tup [.int 1, .int 2]) = H4 at s3 h1 h2 h3 mo4 ⊢
      refine ⟨_, rfl, h, c + 1, 12, rfl, mo4.held, by decide, by decide, fun b1 H5 b10 b11 held5 k5 => ⟨_, _, rfl, rfl, l2, fun t4 f4 => ?_⟩⟩
      have mo5 := mo4.go k5 held5
      have h1 := kp_tup k5 mo4.held _ _ h1
      have h2 := kp_tup k5 mo4.held _ _ h2
      have h3 := kp_tup k5 mo4.held _ _ h3
      obtain ⟨q, hq⟩ : ∃ q, q = Rat.divInt 1 (1 + b1) := ⟨_, rfl⟩
      have eq1 : pr q = (1, 1 + b1) := by
        rw [hq]
        exact pr_one (by omega)
      have zq : Sz 4 q := by
        have e4 : (2 : Nat) ^ 4 = 16 := by decide
        rw [hq]
        exact KM.sz_of_low (by omega) (by decide) (by rw [e4]; omega)
      have s4 := same_new (o := .tup [.int 1, .int (1 + b1)]) f4
      have h4 : (upd H5 t4 (.tup [.int 1, .int (1 + b1)])) t4 = some (tupP (pr q)) := by rw [upd_same, eq1]; rfl
      have mo6 := mo5.same s4
      have h1 := s4 _ _ h1
      have h2 := s4 _ _ h2
      have h3 := s4 _ _ h3
      generalize upd H5 t4 (.tup [.int 1, .int (1 + b1)]) = H6 at s4 h1 h2 h3 h4 mo6 ⊢
      refine ⟨by show 4 ≤ sizeLine; decide, fun pl fpl => ?_⟩
      have s5 := same_new (o := .lst [.ref t1, .ref t2, .ref t3, .ref t4]) fpl
      have h5 : (upd H6 pl (.lst [.ref t1, .ref t2, .ref t3, .ref t4])) pl = some (.lst [.ref t1, .ref t2, .ref t3, .ref t4]) := upd_same
      have mo7 := mo6.same s5
      have h1 := s5 _ _ h1
      have h2 := s5 _ _ h2
      have h3 := s5 _ _ h3
      have h4 := s5 _ _ h4
      generalize upd H6 pl (.lst [.ref t1, .ref t2, .ref t3, .ref t4]) = H7 at s5 h1 h2 h3 h4 h5 mo7 ⊢
      refine ⟨_, rfl, h, c, 4, rfl, mo7.held, by decide, by decide, fun i H8 i0 i4 held8 k8 => ?_⟩
      have mo8 := mo7.go k8 held8
      have kt := fun {b ts} (e : H7 b = some (.tup ts)) => kp_tup k8 mo7.held b ts e
      have h5 := kp_lst k8 mo7.held _ _ h5
      obtain ⟨pt, p, hat, hp, zp⟩ : ∃ (pt : Addr) (p : Rat), atI [.ref t1, .ref t2, .ref t3, .ref t4] i = some (V.ref pt) ∧ H8 pt = some (tupP (pr p)) ∧ Sz 4 p := by
        have : i = 0 ∨ i = 1 ∨ i = 2 ∨ i = 3 := by omega
        rcases this with rfl | rfl | rfl | rfl
        · exact ⟨t1, _, rfl, kt h1, by decide, by decide⟩
        · exact ⟨t2, _, rfl, kt h2, by decide, by decide⟩
        · exact ⟨t3, _, rfl, kt h3, by decide, by decide⟩
        · exact ⟨t4, _, rfl, kt h4, zq⟩
      exact ⟨pl, _, _, _, rfl, rfl, SqL.of h5, hat, pt, p, rfl, mo8, hp, zp⟩
    rintro σ' HB ⟨pt, p, rfl, moB, hpt, zp⟩
    have l64 : ∀ {n : Nat}, n ≤ 63 → n < sizeLine := fun {n} h => Nat.lt_of_le_of_lt h (by decide)
    have zu1 := sz_get0 (by decide) sz x1
    have sz1 : ∀ y ∈ addK L x1, Sz 300 (setc cc x1 (get0 L cc x1 + p) y) := fun y hy => by
      unfold setc
      split
      · exact ((KM.sz_plus zu1 zp).1).mono (by decide)
      · rename_i ne
        exact (sz y ((addK_sub hy).resolve_right ne)).mono (by decide)
    -- the first
    refine ⟨fun σ' H' => σ' = [some (.ref h), some (.ref D0), some (.ref nl), some (.ref D), some (.str x1), some (.str x2), some (.ref pt)] ∧ Mo H H' h D c (addK L x1) (setc cc x1 (get0 L cc x1 + p)) ∧ H' pt = some (tupP (pr p)), ?_, ?_⟩
    · obtain ⟨ad, hD, hv⟩ := moB.t
      refine ⟨_, rfl, D, rfl, .inl ⟨_, .inl hD⟩, _, rfl, by show 2 ≤ sizeLine; decide, fun t2 ft2 => ?_⟩
      have s2 := same_new (o := .tup [.int 0, .int 1]) ft2
      have dg : DGet (upd HB t2 (.tup [.int 0, .int 1])) D (.str x1) (valV (L.map fun y => ((Sum.inr y : Key), V.ref (ad y))) (Sum.inr x1)) := DGet.k (k := Sum.inr x1) (s2 _ _ hD)
      rw [val_dct] at dg
      obtain ⟨w0, hw0, hw1⟩ : ∃ w0, ((if x1 ∈ L then some (V.ref (ad x1)) else none).getD (.ref t2)) = .ref w0 ∧ (upd HB t2 (.tup [.int 0, .int 1])) w0 = some (tupP (pr (get0 L cc x1))) := by
        unfold get0
        by_cases hzu : x1 ∈ L
        · rw [if_pos hzu, if_pos hzu]
          exact ⟨_, rfl, s2 _ _ (hv x1 hzu)⟩
        · rw [if_neg hzu, if_neg hzu]
          exact ⟨_, rfl, upd_same⟩
      have moE := moB.same s2
      have hpt2 := s2 _ _ hpt
      generalize upd HB t2 (.tup [.int 0, .int 1]) = HE at s2 dg hw1 moE hpt2 ⊢
      have zu := zu1.mono (show 100 ≤ 300 by decide)
      refine ⟨_, dg, _, rfl, w0, pt, _, _, 300, (by rw [hw0]; rfl), hw1, hpt2, ⟨bd_of zu, bd_of (zp.mono (by decide)), by decide, by decide⟩, fun q fq => ?_⟩
      rw [KM.pr_plus]
      have sq := same_new (o := tupP (pr (get0 L cc x1 + p))) fq
      have hq : (upd HE q (tupP (pr (get0 L cc x1 + p)))) q = some (tupP (pr (get0 L cc x1 + p))) := upd_same
      have moF := moE.same sq
      have hpt3 := sq _ _ hpt2
      generalize upd HE q (tupP (pr (get0 L cc x1 + p))) = HF at sq hq moF hpt3 ⊢
      obtain ⟨kvs, f1, f2, f3, f4⟩ := moF.put (x := x1) hq
      exact ⟨_, rfl, _, rfl, D, _, rfl, DPut.k (k := Sum.inr x1) f1 (by rw [f2]; exact l64 (by omega)), rfl, f3, f4 _ _ hpt3⟩
    rintro σ' HE ⟨rfl, moE, hpt⟩
    -- the second
    refine ⟨fun σ' H' => σ' = [some (.ref h), some (.ref D0), some (.ref nl), some (.ref D), some (.str x1), some (.str x2), some (.ref pt)] ∧ Mo H H' h D c (mvL (L, cc) [(x1, p), (x2, -p)]).1 (mvL (L, cc) [(x1, p), (x2, -p)]).2, ?_, ?_⟩
    · obtain ⟨L1, hL1⟩ : ∃ L1, L1 = addK L x1 := ⟨_, rfl⟩
      obtain ⟨c1, hc1⟩ : ∃ c1, c1 = setc cc x1 (get0 L cc x1 + p) := ⟨_, rfl⟩
      have em : mvL (L, cc) [(x1, p), (x2, -p)] = mv (L1, c1) (x2, -p) := by rw [hL1, hc1]; rfl
      have lL1 := addK_len1 L x1
      rw [← hL1] at sz1 moE lL1
      rw [← hc1] at sz1 moE
      obtain ⟨ad, hD, hv⟩ := moE.t
      refine ⟨_, rfl, D, rfl, .inl ⟨_, .inl hD⟩, _, rfl, by show 2 ≤ sizeLine; decide, fun t2 ft2 => ?_⟩
      have s2 := same_new (o := .tup [.int 0, .int 1]) ft2
      have dg : DGet (upd HE t2 (.tup [.int 0, .int 1])) D (.str x2) (valV (L1.map fun y => ((Sum.inr y : Key), V.ref (ad y))) (Sum.inr x2)) := DGet.k (k := Sum.inr x2) (s2 _ _ hD)
      rw [val_dct] at dg
      obtain ⟨w0, hw0, hw1⟩ : ∃ w0, ((if x2 ∈ L1 then some (V.ref (ad x2)) else none).getD (.ref t2)) = .ref w0 ∧ (upd HE t2 (.tup [.int 0, .int 1])) w0 = some (tupP (pr (get0 L1 c1 x2))) := by
        unfold get0
        by_cases hzu : x2 ∈ L1
        · rw [if_pos hzu, if_pos hzu]
          exact ⟨_, rfl, s2 _ _ (hv x2 hzu)⟩
        · rw [if_neg hzu, if_neg hzu]
          exact ⟨_, rfl, upd_same⟩
      have moF := moE.same s2
      have hpt2 := s2 _ _ hpt
      generalize upd HE t2 (.tup [.int 0, .int 1]) = HF at s2 dg hw1 moF hpt2 ⊢
      have zu := sz_get0 (by decide) sz1 x2
      refine ⟨_, dg, _, rfl, pt, _, _, _, rfl, rfl, SqT.of hpt2, at0, _, _, rfl, rfl, _, rfl, pt, _, _, _, rfl, rfl, SqT.of hpt2, at1, by show 2 ≤ sizeLine; decide, fun g fg => ?_⟩
      have sg := same_new (o := .tup [.int (0 - (pr p).1), .int (pr p).2]) fg
      have hg : (upd HF g (.tup [.int (0 - (pr p).1), .int (pr p).2])) g = some (tupP (pr (-p))) := by
        rw [upd_same, ← pr_neg]
        rfl
      have hw2 := sg _ _ hw1
      have moG := moF.same sg
      generalize upd HF g (.tup [.int (0 - (pr p).1), .int (pr p).2]) = HG at sg hg hw2 moG ⊢
      refine ⟨w0, g, _, _, 300, (by rw [hw0]; rfl), hw2, hg, ⟨bd_of zu, bd_of ((sz_neg zp).mono (by decide)), by decide, by decide⟩, fun q fq => ?_⟩
      rw [KM.pr_plus]
      have sq := same_new (o := tupP (pr (get0 L1 c1 x2 + -p))) fq
      have hq : (upd HG q (tupP (pr (get0 L1 c1 x2 + -p)))) q = some (tupP (pr (get0 L1 c1 x2 + -p))) := upd_same
      have moI := moG.same sq
      generalize upd HG q (tupP (pr (get0 L1 c1 x2 + -p))) = HI at sq hq moI ⊢
      obtain ⟨kvs, f1, f2, f3, f4⟩ := moI.put (x := x2) hq
      rw [em]
      exact ⟨_, rfl, _, rfl, D, _, rfl, DPut.k (k := Sum.inr x2) f1 (by rw [f2]; exact l64 (by omega)), rfl, f3⟩
    rintro σ' HF ⟨rfl, moF⟩
    exact ⟨_, rfl, hQ D x1 x2 p HF hx1 hx2 zp moF⟩
end
end K52
set_option Elab.async false
set_option linter.all false
set_option maxRecDepth 100000
set_option maxHeartbeats 4000000
namespace K52
open PySem PySem.Spec PyProof.Rows L2
open C8 (Cal Mak Met pe_c pe_mk pe_mt pe_mt0)
open LamX (Tabs ExtN TabB CodeO)
open KM (pr Sz)
open SX (S)
theorem S_inj {a b : List Nat} (h : S a = S b) : a = b := by
  have := congrArg (fun s : Str => s.cps.toList) h
  simpa [SX.S] using this
theorem strOk_nm {l : List Nat} (ok : NM.ok l) : PyData.strOk (S l) = true ∧ (S l).length ≤ 8 := by
  refine ⟨?_, by rw [SX.S_len]; exact ok.2.1⟩
  unfold PyData.strOk
  rw [← Array.all_toList, List.all_eq_true]
  intro c hc
  have := ok.2.2 c hc
  exact decide_eq_true (by omega)
/-! ### days as data -/
def dyD (d : Dy) : PyData := .tuple [.tuple (d.R.map .str), .tuple (d.B.map .str)]
theorem dp_dys {K : PySem.W.Frag} {H : Hp} : ∀ {ds : List Dy}, (∀ d ∈ ds, DyOk H d) → DpAll K H (ds.map fun d => V.ref d.a) (ds.map dyD)
  | [], _ => .nil
  | d :: ds, h => by
    have o := h d List.mem_cons_self
    exact .cons (Dp.tup (SqT.of o.t) (.cons (Dp.tup (SqT.of o.r) (dp_ss d.R)) (.cons (Dp.tup (SqT.of o.b) (dp_ss d.B)) .nil))) (dp_dys fun e he => h e (List.mem_cons_of_mem _ he))
theorem sh_dy : ∀ ds : List Dy, (∀ d ∈ ds, (∀ x ∈ d.R, PyData.strOk x = true) ∧ ∀ x ∈ d.B, PyData.strOk x = true) → PyData.canLayAll0 (ds.map dyD) = true ∧ PyData.depthAll (ds.map dyD) ≤ 2
  | [], _ => ⟨rfl, by simp [PyData.depthAll]⟩
  | d :: ds, h => by
    obtain ⟨a, b⟩ := sh_dy ds fun y hy => h y (List.mem_cons_of_mem _ hy)
    obtain ⟨h1, h2⟩ := h d List.mem_cons_self
    obtain ⟨c1, d1⟩ := sh_ss d.R h1
    obtain ⟨c2, d2⟩ := sh_ss d.B h2
    refine ⟨by simp [PyData.canLayAll0, PyData.canLay0, dyD, a, c1, c2], ?_⟩
    simp only [List.map_cons, PyData.depthAll, PyData.depth, dyD, d1, d2]
    omega
theorem shp_dy {ds : List Dy} (h : ∀ d ∈ ds, (∀ x ∈ d.R, PyData.strOk x = true) ∧ ∀ x ∈ d.B, PyData.strOk x = true) : SeqAt.shaped (.list (ds.map dyD)) = true := by
  obtain ⟨a, b⟩ := sh_dy ds h
  refine Bool.and_eq_true_iff.mpr ⟨by simp only [PyData.canLay0]; exact a, decide_eq_true ?_⟩
  simp only [PyData.depth]
  omega
theorem fr_R {ds es : List Dy} (h : ds.map (·.R) = es.map (·.R)) : fr ds = fr es := by
  have e : ∀ l : List Dy, fr l = (l.map (·.R)).flatMap fun R => R.map fun x => (x, prt R) := fun l => by
    unfold fr
    rw [List.flatMap_map]
  rw [e, e, h]
theorem drop_one {zs : List V} (h : zs ≠ []) : cutV zs (some (-1)) none = zs.drop (zs.length - 1) := by
  have p := List.length_pos_iff.mpr h
  unfold cutV
  rw [HT.sIx_none]
  have e : HT.sIx zs.length 0 (some (-1)) = zs.length - 1 := by
    show (if (-1 : Int) < 0 then ((-1 : Int) + (zs.length : Int)).toNat else min (-1 : Int).toNat zs.length) = _
    rw [if_pos (by decide)]
    omega
  rw [e]
  exact List.take_of_length_le (by rw [List.length_drop]; exact Nat.le_refl _)
theorem take_one' {zs : List V} (h : zs ≠ []) : cutV zs none (some 1) = zs.take 1 := by
  have p := List.length_pos_iff.mpr h
  unfold cutV
  have e : HT.sIx zs.length zs.length (some 1) = 1 := by
    show (if (1 : Int) < 0 then ((1 : Int) + (zs.length : Int)).toNat else min (1 : Int).toNat zs.length) = _
    rw [if_neg (by decide)]
    show min 1 zs.length = 1
    omega
  rw [e]
  rfl
/-- a day on which others are able -/
structure Oth (ys ys' : List Dy) : Prop where
  len : ys'.length = ys.length
  R : ys'.map (·.R) = ys.map (·.R)
  B : ∀ y' ∈ ys', ∃ y ∈ ys, (y'.R = y.R) ∧ ∀ x ∈ y'.B, x ∈ y.R
/-- what is so of a case -/
structure Cf (xs : List Str) (ys : List Dy) (L : List Str) (cc : Str → Rat) : Prop where
  nd : L.Nodup
  sub : ∀ x ∈ L, x ∈ xs
  sz : ∀ x ∈ L, Sz 100 (cc x)
  s0 : sumR (L.map cc) = 0
  yl : ys.length ≤ 40
  dm : ∀ y ∈ ys, (∀ x ∈ y.R, x ∈ xs) ∧ ∀ x ∈ y.B, x ∈ xs
theorem cf_one {xs : List Str} {ys : List Dy} {ds L : List Str} {cc : Str → Rat} {H : Hp} (ec : EcOk xs ys ds L cc) (nx : xs.Nodup) (hD : ∀ y ∈ ys, DyOk H y) (yl : ys.length ≤ 40) (dm : ∀ y ∈ ys, (∀ x ∈ y.R, x ∈ xs) ∧ ∀ x ∈ y.B, x ∈ xs) : Cf xs ys L cc :=
  ⟨ec.nd, ec.sub, ecx_sz ec.x hD (by omega) (fun x => sz0 (by decide)), ecx_sum (ms := []) ec.x nx dm (fun y hy => (hD y hy).ne) (fun m hm => nomatch hm) rfl, yl, dm⟩
theorem cf_two {xs : List Str} {ys : List Dy} {ds L : List Str} {cc : Str → Rat} {H : Hp} {x1 x2 : Str} {p : Rat} (ec : EcOk xs ys ds L cc) (nx : xs.Nodup) (hD : ∀ y ∈ ys, DyOk H y) (yl : ys.length ≤ 40) (dm : ∀ y ∈ ys, (∀ x ∈ y.R, x ∈ xs) ∧ ∀ x ∈ y.B, x ∈ xs)
    (hx1 : x1 ∈ xs) (hx2 : x2 ∈ xs) (zp : Sz 4 p) : Cf xs ys (mvL (L, cc) [(x1, p), (x2, -p)]).1 (mvL (L, cc) [(x1, p), (x2, -p)]).2 := by
  obtain ⟨u, hu0⟩ : ∃ u, u = mvL (L, cc) [(x1, p), (x2, -p)] := ⟨_, rfl⟩
  have uval : ∀ y, get0 u.1 u.2 y = get0 L cc y + at_ y [(x1, p), (x2, -p)] := fun y => by rw [hu0, mvL_val]
  have und : u.1.Nodup := by rw [hu0]; exact mvL_nd _ _ ec.nd
  have usub : ∀ y ∈ u.1, y ∈ xs := fun y hy => by
    rw [hu0, mem_mvL] at hy
    rcases hy with h | h
    · exact ec.sub y h
    · rcases List.mem_cons.mp h with h | h
      · rw [h]; exact hx1
      · rw [List.mem_singleton.mp h]; exact hx2
  have ea : ∀ y, at_ y [(x1, p), (x2, -p)] = 0 ∨ at_ y [(x1, p), (x2, -p)] = p ∨ at_ y [(x1, p), (x2, -p)] = -p := fun y => by
    show (if x1 = y then p else 0) + ((if x2 = y then -p else 0) + 0) = 0 ∨ (if x1 = y then p else 0) + ((if x2 = y then -p else 0) + 0) = p ∨ (if x1 = y then p else 0) + ((if x2 = y then -p else 0) + 0) = -p
    split <;> split <;> grind
  have ux : Ecx xs ys ds u.1 u.2 fun y => at_ y [(x1, p), (x2, -p)] := ⟨und, usub, ec.fit, ec.len, fun y hy => by
    rw [uval, ec.x.val y hy]
    grind⟩
  have uz := ecx_sz ux hD (by omega) fun y => by
    rcases ea y with h | h | h <;> rw [h]
    · exact sz0 (by decide)
    · exact zp.mono (by decide)
    · exact (sz_neg zp).mono (by decide)
  have us : sumR (u.1.map u.2) = 0 := ecx_sum ux nx dm (fun y hy => (hD y hy).ne) (fun m hm => by
    rcases List.mem_cons.mp hm with h | h
    · rw [h]; exact hx1
    · rw [List.mem_singleton.mp h]; exact hx2) (by
    show sumR [p, -p] = 0
    rw [sumR_cons, sumR_cons]
    have : sumR [] = 0 := rfl
    rw [this]
    grind)
  rw [← hu0]
  exact ⟨und, usub, uz, us, yl, dm⟩
theorem cf_oth {xs : List Str} {ys ys' : List Dy} {L : List Str} {cc : Str → Rat} (c : Cf xs ys L cc) (o : Oth ys ys') : Cf xs ys' L cc :=
  ⟨c.nd, c.sub, c.sz, c.s0, by rw [o.len]; exact c.yl, fun y' hy => by
    obtain ⟨y, hy, e, b⟩ := o.B y' hy
    exact ⟨fun x hx => (c.dm y hy).1 x (by rw [← e]; exact hx), fun x hx => (c.dm y hy).1 x (b x hx)⟩⟩
theorem can_iff {ys : List Dy} {L : List Str} {cc : Str → Rat} {s : Rat} (nd : L.Nodup) (e : List Str) : (FW.Fits (abl ys) e ∧ e.length = ys.length ∧ ∀ x ∈ (due ys L cc).1, EvK ((due ys L cc).2 x) s (e.count x : Nat)) ↔ Wit ys L cc s e := by
  constructor
  · rintro ⟨a, b, c⟩
    refine ⟨a, b, fun x hx => ?_⟩
    have hx2 := (mem_both x).mp hx
    have := c x hx2
    rw [← wnt_val nd hx2] at this
    exact this
  · intro w
    exact ⟨w.fit, w.len, due_ev nd w⟩
theorem Slk.ext {C : Addr} {H H' : Hp} {v : V} {s : Rat} (x : Slk C H v s) (e : ExtN H H') : Slk C H' v s :=
  x.imp id fun ⟨p, a, d, b⟩ => ⟨p, a, d, e _ _ b (fun _ q => nomatch q)⟩
theorem SDc.ext {C : Addr} {H H' : Hp} {D : Addr} {L : List Str} {cc : Str → Rat} (x : SDc C H D L cc) (e : ExtN H H') : SDc C H' D L cc :=
  let ⟨ad, a, b⟩ := x; ⟨ad, e _ _ a (fun _ q => nomatch q), fun y hy => let ⟨d, q⟩ := b y hy; ⟨d, e _ _ q (fun _ z => nomatch z)⟩⟩
end K52
set_option Elab.async false
set_option linter.all false
set_option maxRecDepth 100000
set_option maxHeartbeats 4000000
namespace K52
open PySem PySem.Spec PyProof.Rows L2
open C8 (Cal Mak Met pe_c pe_mk pe_mt pe_mt0)
open LamX (Tabs ExtN TabB CodeO)
open KM (pr Sz)
/-- credits and days told together -/
structure Two (H : Hp) (h t D o : Addr) (xs : List Str) (ys : List Dy) (L : List Str) (cc : Str → Rat) : Prop where
  t : H t = some (.tup [.ref D, .ref o])
  ce : Cel h D H
  d : TDc H D L cc
  dy : DyL H o ys
  cf : Cf xs ys L cc
theorem cutk {xs : List Str} {k : Nat} (h : k ≤ xs.length) : cutV (xs.map V.str) none (some (k : Int)) = (xs.take k).map V.str := by
  unfold cutV HT.sIx
  rw [List.length_map]
  have e1 : ((k : Int) < 0) = False := by simp
  have e2 : min ((k : Int).toNat) xs.length = k := by rw [Int.toNat_natCast]; omega
  simp only [e1, if_false, e2, List.drop_zero, Nat.sub_zero]
  rw [List.map_take]
section
variable {P : Program} {w : World} {K : PySem.W.Frag} {mg : Str → Option Value} {base : Heap} {f C : Addr} {fd : FuncData}
def spLc : Sp := fun vs H Q _ => ∃ (h nl : Addr) (c : Nat) (xs : List Str), vs = [.ref h, .ref nl] ∧ Held H h (c + 1500) ∧ H nl = some (.lst (xs.map V.str)) ∧ xs ≠ [] ∧ xs.Nodup ∧ xs.length ≤ 12 ∧ (∀ x ∈ xs, PyData.strOk x = true) ∧
  ∀ (t D o : Addr) (ys : List Dy) (L : List Str) (cc : Str → Rat) (H' : Hp), Held H' h c → Kp h H H' → Two H' h t D o xs ys L cc → Q (.ref t) H'
theorem ok_lc (F : Dn K d_l_long_case f fd) (b : Bl mg) (btup : mg "tuple" = none) (cD : CalD P w K mg base) (cEc : Cal P w K mg base 5 "_law_even_case" spEc []) (cMo : Cal P w K mg base 3 "_law_moved" spMo []) : FnOk P w K mg base CX0 6 f fd ["_law_held_here", "_law_names_here"] spLc := by
  refine F.ok sc_l_long_case (fun vs H Q E h => ?_) (fun cdv A outer s H vs Q E hr h => ?_)
  · obtain ⟨_, _, _, _, rfl, _⟩ := h
    rfl
  · obtain ⟨h, nl, c, xs, rfl, hld, hnl, xne, xnd, xl, oks, hQ⟩ := h
    have hu64 : (A.deeper (envOfC d_l_long_case.qual d_l_long_case.scope s.heap.objs.size f cdv)).units + 64 < cLine := by have := hr.un; omega
    have l2 : 2 ≤ sizeLine := by decide
    refine ⟨_, PSs.nox (C8.pss_cut (ps_set (i := 2) sc_l_long_case.nd rfl (.inl rfl) (pe_ix (r := rIxL K) ix_list (pe_lst (pa_cons (pe_c cD hr (by decide) rfl (pa_cons (pv 0) (pa_cons pe_int pa_nil))) (pa_cons (pe_c cD hr (by decide) rfl (pa_cons (pv 0) (pa_cons pe_int pa_nil))) pa_nil))) (pe_c cD hr (by decide) rfl (pa_cons (pv 0) (pa_cons pe_int pa_nil))) (fun _ _ => rfl)))
      (C8.pss_cut (ps_asg (pe_c cEc hr (by decide) rfl (pa_cons (pv 0) (pa_cons (pv 1) (pa_cons (pv 2) pa_nil)))) (pg_tup rfl (pgs_cons (pg_name (i := 3) sc_l_long_case.nd rfl (.inl rfl)) (pgs_cons (pg_name (i := 4) sc_l_long_case.nd rfl (.inl rfl)) (pgs_cons (pg_name (i := 5) sc_l_long_case.nd rfl (.inl rfl)) pgs_nil)))))
      (C8.pss_cut (ps_set (i := 6) sc_l_long_case.nd rfl (.inl rfl) (pe_c cD hr (by decide) rfl (pa_cons (pv 0) (pa_cons pe_int pa_nil))))
      (pss_cons (ps_if (pt_cmpR op_eq (pv 6) pe_int (nomark _)) (pss_one (ps_ret (pe_tup (pa_cons (pe_c cMo hr (by decide) rfl (pa_cons (pv 0) (pa_cons (pv 3) (pa_cons (pv 1) pa_nil)))) (pa_cons (pv 4) pa_nil))))) pss_nil)
      (pss_cons (ps_if (pt_cmpR op_eq (pv 6) pe_int (nomark _))
        (C8.pss_cut (ps_set (i := 7) sc_l_long_case.nd rfl (.inr rfl) (pe_slice sl_list (pv 1) po_none (po_some (pe_op op_add pe_int (pe_c cD hr (by decide) rfl (pa_cons (pv 0) (pa_cons (pe_callB call_len_seq rfl b.len boot_len (pa_cons (pv 1) pa_nil)) pa_nil)))))))
        (pss_cons (ps_set (i := 8) sc_l_long_case.nd rfl (.inl rfl) (pe_lst pa_nil))
        (pss_cons (ps_for PassesOwn.never rfl (pi_list (pv 4)) (pg_tup rfl (pgs_cons (pg_name (i := 9) sc_l_long_case.nd rfl (.inl rfl)) (pgs_cons (pg_name (i := 10) sc_l_long_case.nd rfl (.inl rfl)) pgs_nil)))
          (C8.pss_cut (ps_setLc (i := 11) (own := [("_law_name", 12)]) (g := gName 12) rfl sc_l_long_case.nd rfl rfl (sw_true rfl rfl rfl (by decide +kernel)) (pi_tup (pv 10)) (blkOk_by (N := N_l_long_case) (sc := defScope s_l_long_case) (by decide +kernel))
            (fun _ _ _ _ _ => pg_name (i := 12) sc_l_long_case.nd rfl (Or.inl rfl)) (fun _ _ _ _ _ => pts_one (PW.pt (pw_or (pt_cmpR (r := rIn K false) op_in_seq (pv 12) (pv 7) (by rfl)) (pw_or1 (pt_cmpR op_eq (pe_c cD hr (by decide) rfl (pa_cons (pv 0) (pa_cons pe_int pa_nil))) pe_int (nomark _)))))) (fun _ _ _ _ _ => pv 12))
          (pss_one (ps_expr (pe_bm PySem.F.plainAttrs_list PySem.F.slot_list_append PySem.F.type_list_append mt_append (pv 8) (pa_cons (pe_tup (pa_cons (pv 9) (pa_cons
            (pe_ifExp (pt_cmpR (op_neD hu64) (pv 11) (pe_lst pa_nil) (nomark _)) (pe_callTy call_tuple_of rfl btup boot_tuple (pa_cons (pv 11) pa_nil)) (pv 10)) pa_nil))) pa_nil))))))
        (pss_one (ps_ret (pe_tup (pa_cons (pv 3) (pa_cons (pv 8) pa_nil)))))))) pss_nil)
      (pss_cons (ps_if (PW.pt (pw_and (pt_cmpR op_eq (pv 6) pe_int (nomark _)) (pw_and1 (pt_cmpR (op_neD hu64) (pv 4) (pe_lst pa_nil) (nomark _))))) (pss_one (ps_ret (pe_tup (pa_cons (pv 3) (pa_cons (pe_op op_cat (pv 4) (pe_lst (pa_cons (pe_ix (r := rIxL K) ix_list (pv 4) (pe_c cD hr (by decide) rfl (pa_cons (pv 0) (pa_cons (pe_callB call_len_seq rfl b.len boot_len (pa_cons (pv 4) pa_nil)) pa_nil))) (fun _ _ => rfl)) pa_nil))) pa_nil))))) pss_nil)
      (pss_one (ps_ret (pe_tup (pa_cons (pv 3) (pa_cons (pv 4) pa_nil))))))))))), ?_⟩
    -- how many
    refine ⟨fun σ' H' => ∃ m : Nat, σ' = [some (.ref h), some (.ref nl), some (.int (m : Nat)), none, none, none, none, none, none, none, none, none, none] ∧ Held H' h (c + 1490) ∧ Kp h H H' ∧ m ≤ 30, ?_, ?_⟩
    · refine ⟨_, rfl, h, c + 1499, 6, rfl, hld, by decide, by decide, fun m1 H1 m10 m16 held1 k1 => ?_⟩
      refine ⟨_, rfl, h, c + 1498, 31, rfl, held1, by decide, by decide, fun m2 H2 m20 m231 held2 k2 => ⟨by show 2 ≤ sizeLine; decide, fun pl fpl => ?_⟩⟩
      have spl := same_new (o := .lst [V.int m1, V.int m2]) fpl
      have hpl : (upd H2 pl (.lst [V.int m1, V.int m2])) pl = some (.lst [V.int m1, V.int m2]) := upd_same
      have held3 := held2.same spl
      have k3 := (k1.trans k2).trans (Kp.same spl)
      generalize upd H2 pl (.lst [V.int m1, V.int m2]) = H3 at hpl held3 k3 ⊢
      refine ⟨_, rfl, h, c + 1497, 2, rfl, held3, by decide, by decide, fun e1 H4 e10 e11 held4 k4 => ?_⟩
      have hpl4 := kp_lst k4 held3 _ _ hpl
      obtain ⟨m, hm, m30⟩ : ∃ m : Nat, atI [V.int m1, V.int m2] e1 = some (V.int (m : Nat)) ∧ m ≤ 30 := by
        have : e1 = 0 ∨ e1 = 1 := by omega
        rcases this with rfl | rfl
        · exact ⟨m1.toNat, by rw [Int.toNat_of_nonneg m10]; rfl, by omega⟩
        · exact ⟨m2.toNat, by rw [Int.toNat_of_nonneg m20]; rfl, by omega⟩
      exact ⟨pl, _, _, _, rfl, rfl, SqL.of hpl4, hm, m, rfl, held4.weak (by omega), k3.trans k4, m30⟩
    rintro σ' H1 ⟨m, rfl, held1, k1, m30⟩
    have hnl1 := kp_lst k1 hld _ _ hnl
    -- the case
    refine ⟨fun σ' H' => ∃ (D o r : Addr) (ys : List Dy) (ds L : List Str) (cc : Str → Rat), σ' = [some (.ref h), some (.ref nl), some (.int (m : Nat)), some (.ref D), some (.ref o), some (.ref r), none, none, none, none, none, none, none] ∧ Held H' h (c + 500) ∧ Kp h H H' ∧ H' nl = some (.lst (xs.map V.str)) ∧ Cel h D H' ∧ TDc H' D L cc ∧ DyL H' o ys ∧ ys.length = m ∧ (∀ y ∈ ys, (∀ x ∈ y.R, x ∈ xs) ∧ (∀ x ∈ y.B, x ∈ xs)) ∧ EcOk xs ys ds L cc, ?_, ?_⟩
    · refine ⟨_, rfl, _, rfl, _, rfl, h, nl, c + 500, m, xs, rfl, held1.weak (by omega), hnl1, xne, xnd, by omega, by omega, oks, fun t D o r ys ds L cc H8 held8 k8 ht ce fD T D8 yl dm hr8 ec => ?_⟩
      refine ⟨t, _, rfl, SqT.of ht, rfl, _, _, rfl, _, _, rfl, _, _, rfl, rfl, ?_⟩
      exact ⟨D, o, r, ys, ds, L, cc, rfl, held8, k1.trans k8, kp_lst k8 held1 _ _ hnl1, ce, T, D8, yl, dm, ec⟩
    rintro σ' H2 ⟨D, o, r, ys, ds, L, cc, rfl, held2, k2, hnl2, ceD, TD, dyo, yl, dm, ec⟩
    have y40 : ys.length ≤ 40 := by omega
    have cf1 := cf_one ec xnd dyo.2 y40 dm
    have oksy : ∀ d ∈ ys, (∀ x ∈ d.R, PyData.strOk x = true) ∧ ∀ x ∈ d.B, PyData.strOk x = true := fun d hd => ⟨fun x hx => oks x ((dm d hd).1 x hx), fun x hx => oks x ((dm d hd).2 x hx)⟩
    have Lx : L.length ≤ 12 := by
      have := few_of ec.nd ec.sub
      omega
    -- which way
    refine ⟨fun σ' H' => ∃ i : Int, σ' = [some (.ref h), some (.ref nl), some (.int (m : Nat)), some (.ref D), some (.ref o), some (.ref r), some (.int i), none, none, none, none, none, none] ∧ Held H' h (c + 499) ∧ Kp h H2 H', ?_, ?_⟩
    · exact ⟨_, rfl, h, c + 499, 4, rfl, held2, by decide, by decide, fun i H3 _ _ held3 k3 => ⟨i, rfl, held3, k3⟩⟩
    rintro σ' H3 ⟨i, rfl, held3, k3⟩
    have hnl3 := kp_lst k3 held2 _ _ hnl2
    have ce3 := ceD.kp k3
    have T3 := TD.kp k3 held2 ceD.ne
    have dy3 : DyL H3 o ys := ⟨kp_lst k3 held2 _ _ dyo.1, fun d hd => (dyo.2 d hd).tup (kp_tup k3 held2)⟩
    have k13 := k2.trans k3
    refine ⟨_, rfl, rfl, _, rfl, ?_⟩
    refine ite2 (fun _ => ?_) (fun _ => ?_)
    · refine ⟨_, rfl, _, rfl, _, rfl, h, D, nl, c + 495, xs, L, cc, rfl, held3, T3, hnl3, xne, by omega, by omega, cf1.sz, fun D2 x1 x2 p H4 hx1 hx2 zp mo => ?_⟩
      have cf2 := cf_two ec xnd dyo.2 y40 dm hx1 hx2 zp
      have dy4 : DyL H4 o ys := ⟨kp_lst mo.kp held3 _ _ dy3.1, fun d hd => (dy3.2 d hd).tup (kp_tup mo.kp held3)⟩
      refine ⟨_, rfl, l2, fun t ft => ?_⟩
      have st := same_new (o := .tup [.ref D2, .ref o]) ft
      exact hQ t D2 o ys _ _ _ ((mo.held.same st).weak (by omega)) ((k13.trans mo.kp).trans (Kp.same st)) ⟨upd_same, mo.ce.kp (Kp.same st), mo.t.same st, dy4.same st, cf2⟩
    refine ⟨_, rfl, rfl, _, rfl, ?_⟩
    refine ite2 (fun _ => ?_) (fun _ => ?_)
    · -- fewer are able
      refine ⟨fun σ' H' => ∃ (sp : Addr) (S : List Str), σ' = [some (.ref h), some (.ref nl), some (.int (m : Nat)), some (.ref D), some (.ref o), some (.ref r), some (.int i), some (.ref sp), none, none, none, none, none] ∧ Held H' h (c + 498) ∧ Kp h H3 H' ∧ H' sp = some (.lst (S.map V.str)), ?_, ?_⟩
      · have xp : 0 < xs.length := List.length_pos_iff.mpr xne
        refine ⟨_, rfl, _, rfl, _, rfl, nl, _, rfl, .inl (SqL.of hnl3), h, c + 498, _, rfl, held3, by rw [List.length_map]; omega, by rw [List.length_map]; omega, fun n H4 n0 n1 held4 k4 => ⟨_, _, rfl, rfl, _, rfl, nl, _, rfl, SqL.of (kp_lst k4 held3 _ _ hnl3), fun p fp => ?_⟩⟩
        rw [List.length_map] at n1
        obtain ⟨n, rfl⟩ := Int.eq_ofNat_of_zero_le n0
        have en : (1 : Int) + (n : Nat) = ((1 + n : Nat) : Int) := by omega
        rw [en, cutk (by omega)]
        have sp := same_new (o := .lst ((xs.take (1 + n)).map V.str)) fp
        exact ⟨p, _, rfl, held4.same sp, k4.trans (Kp.same sp), upd_same⟩
      rintro σ' H4 ⟨sp, S, rfl, held4, k4, hsp4⟩
      refine ⟨by show 0 ≤ sizeLine; decide, fun fl ffl => ?_⟩
      have sfl := same_new (o := .lst []) ffl
      have hfl5 : (upd H4 fl (.lst [])) fl = some (.lst []) := upd_same
      have held5 := held4.same sfl
      have k5 := k4.trans (Kp.same sfl)
      have ce5 := (Cel.of held4 ffl).kp (Kp.same sfl)
      have ffl3 : H3 fl = none := k4.free held4 ffl
      have hsp5 := sfl _ _ hsp4
      generalize upd H4 fl (.lst []) = H5 at hfl5 held5 k5 ce5 hsp5 ⊢
      have dy5 : DyL H5 o ys := ⟨kp_lst k5 held3 _ _ dy3.1, fun d hd => (dy3.2 d hd).tup (kp_tup k5 held3)⟩
      have nofl : o ≠ fl := fun z => by rw [z] at dy3; rw [dy3.1] at ffl3; cases ffl3
      have nspfl : sp ≠ fl := ne_of_none hsp4 ffl
      refine ⟨_, rfl, o, rfl, ⟨_, SqL.of dy5.1⟩, for_list (K := K) (xs := ys.map fun d => V.ref d.a) (fun k σ' H' => ∃ (v9 v10 v11 : Option V) (fs : List Dy), σ' = [some (.ref h), some (.ref nl), some (.int (m : Nat)), some (.ref D), some (.ref o), some (.ref r), some (.int i), some (.ref sp), some (.ref fl), v9, v10, v11, none] ∧
          Held H' h (c + 490 - 13 * k) ∧ Kp h H3 H' ∧ Cel h fl H' ∧ H' o = some (.lst (ys.map fun d => V.ref d.a)) ∧ H' sp = some (.lst (S.map V.str)) ∧ DyL H' fl fs ∧ fs.length = k ∧ fs.map (·.R) = (ys.take k).map (·.R) ∧ ∀ d ∈ fs, ∃ y ∈ ys, d.R = y.R ∧ ∀ x ∈ d.B, x ∈ y.R)
        ⟨_, _, _, [], rfl, held5.weak (by omega), k5, ce5, dy5.1, hsp5, ⟨hfl5, fun d hd => nomatch hd⟩, rfl, rfl, fun d hd => nomatch hd⟩ (fun k σ' H' _ z => by obtain ⟨_, _, _, _, _, _, _, _, z, _⟩ := z; exact SqL.of z) ?_ ?_⟩
      · rintro k v σ' H6 hv ⟨v9, v10, v11, fs, rfl, held6, k6, ce6, ho6, hsp6, D6, fl6, fR, fB⟩
        rw [List.getElem?_map] at hv
        obtain ⟨y, hy, rfl⟩ := Option.map_eq_some_iff.mp hv
        have hym := List.mem_of_getElem? hy
        have kl := (List.getElem?_eq_some_iff.mp hy).1
        have oy := (dy3.2 y hym).tup (kp_tup k6 held3)
        have b12 := oy.lb
        refine ⟨y.a, _, rfl, SqT.of oy.t, rfl, _, _, rfl, _, _, rfl, rfl, ?_⟩
        -- who is left
        refine ⟨fun σ' H' => ∃ (O : Addr) (Z : List Str), σ' = [some (.ref h), some (.ref nl), some (.int (m : Nat)), some (.ref D), some (.ref o), some (.ref r), some (.int i), some (.ref sp), some (.ref fl), some (.ref y.ra), some (.ref y.ba), some (.ref O), none] ∧ Held H' h (c + 490 - 13 * (k + 1)) ∧ Kp h H6 H' ∧ H' O = some (.lst (Z.map V.str)) ∧ Z.Sublist y.B, ?_, ?_⟩
        · refine ⟨_, rfl, y.ba, rfl, ⟨_, SqT.of oy.b⟩, fun O hO => lc_tup (K := K) (xs := y.B.map V.str) (fun j H' => ∃ Z : List Str, H' O = some (.lst (Z.map V.str)) ∧ Z.Sublist (y.B.take j) ∧ Held H' h (c + 490 - 13 * k - j) ∧ Kp h H6 H' ∧ Cel h O H')
            ⟨[], upd_same, List.nil_sublist _, (held6.same (same_new hO)).weak (by omega), Kp.same (same_new hO), (Cel.of held6 hO).kp (Kp.same (same_new hO))⟩ (fun j H' _ z => by obtain ⟨_, _, _, _, z, _⟩ := z; exact SqT.of (kp_tup z held6 _ _ oy.b)) ?_ ?_⟩
          · rintro j v H7 hj ⟨Z, hZ, sZ, held7, k7, cO⟩
            rw [List.getElem?_map] at hj
            obtain ⟨z, hz, rfl⟩ := Option.map_eq_some_iff.mp hj
            have jl := (List.getElem?_eq_some_iff.mp hz).1
            have tk : y.B.take (j + 1) = y.B.take j ++ [z] := by
              rw [List.take_add_one, hz]
              rfl
            have zl : Z.length ≤ 12 := by
              have := sZ.length_le
              rw [List.length_take] at this
              omega
            have hsp7 := kp_lst k7 held6 _ _ hsp6
            refine ⟨rfl, ?_⟩
            refine ⟨_, rfl, _, rfl, sp, _, rfl, .inl (SqL.of hsp7), rfl, flat_strs _, _, rfl, ?_⟩
            refine ite2 (fun _ => ?_) (fun _ => ?_)
            · refine iteT ?_
              refine ⟨_, rfl, _, hZ, by rw [List.length_map]; exact line_lt (by omega), Z ++ [z], by rw [upd_same, List.map_append]; rfl, by rw [tk]; exact List.Sublist.append sZ (List.Sublist.refl _), (held7.put cO).weak (by omega), k7.new hO, cO.put cO.ne.symm⟩
            · refine ⟨_, rfl, h, c + 490 - 13 * k - (j + 1), 3, rfl, held7.weak (by omega), by decide, by decide, fun a H8 a0 a3 held8 k8 => ?_⟩
              have hZ8 := k8.1 _ _ hZ cO.ne
              refine ⟨rfl, _, rfl, ?_⟩
              refine ite2 (fun _ => ?_) (fun _ => ?_)
              · refine ⟨_, rfl, _, hZ8, by rw [List.length_map]; exact line_lt (by omega), Z ++ [z], by rw [upd_same, List.map_append]; rfl, by rw [tk]; exact List.Sublist.append sZ (List.Sublist.refl _), held8.put (cO.kp k8), (k7.trans k8).new hO, (cO.kp k8).put cO.ne.symm⟩
              · exact ⟨Z, hZ8, sZ.trans (by rw [tk]; exact List.sublist_append_left _ _), held8, k7.trans k8, cO.kp k8⟩
          · rintro H7 ⟨Z, hZ, sZ, held7, k7, cO⟩
            rw [List.length_map] at sZ held7
            exact ⟨O, Z, rfl, held7.weak (by omega), k7, hZ, sZ.trans (List.take_sublist _ _)⟩
        rintro σ' H7 ⟨O, Z, rfl, held7, k7, hZ, sZ⟩
        have ce7 := ce6.kp k7
        have D7 : DyL H7 fl fs := ⟨k7.1 _ _ D6.1 ce6.ne, fun d hd => (D6.2 d hd).tup (kp_tup k7 held6)⟩
        have k37 := k6.trans k7
        have okZ : ∀ x ∈ Z, PyData.strOk x = true := fun x hx => oks x ((dm y hym).2 x (sZ.subset hx))
        have ho7 := kp_lst k7 held6 _ _ ho6
        have hsp7 := kp_lst k7 held6 _ _ hsp6
        have oy7 := oy.tup (kp_tup k7 held6)
        -- a day more
        have fin : ∀ (H8 : Hp) (q ta : Addr) (B : List Str), Same H7 H8 → H8 q = some (.tup (B.map V.str)) → H8 ta = some (.tup [.ref y.ra, .ref q]) → B.Sublist y.B → B ≠ [] → ∃ (v9 v10 v11 : Option V) (fs' : List Dy), [some (.ref h), some (.ref nl), some (.int (m : Nat)), some (.ref D), some (.ref o), some (.ref r), some (.int i), some (.ref sp), some (.ref fl), some (.ref y.ra), some (.ref y.ba), some (.ref O), none] = [some (.ref h), some (.ref nl), some (.int (m : Nat)), some (.ref D), some (.ref o), some (.ref r), some (.int i), some (.ref sp), some (.ref fl), v9, v10, v11, none] ∧
            Held (upd H8 fl (.lst ((fs.map fun d => V.ref d.a) ++ [.ref ta]))) h (c + 490 - 13 * (k + 1)) ∧ Kp h H3 (upd H8 fl (.lst ((fs.map fun d => V.ref d.a) ++ [.ref ta]))) ∧ Cel h fl (upd H8 fl (.lst ((fs.map fun d => V.ref d.a) ++ [.ref ta]))) ∧
            (upd H8 fl (.lst ((fs.map fun d => V.ref d.a) ++ [.ref ta]))) o = some (.lst (ys.map fun d => V.ref d.a)) ∧ (upd H8 fl (.lst ((fs.map fun d => V.ref d.a) ++ [.ref ta]))) sp = some (.lst (S.map V.str)) ∧ DyL (upd H8 fl (.lst ((fs.map fun d => V.ref d.a) ++ [.ref ta]))) fl fs' ∧ fs'.length = k + 1 ∧ fs'.map (·.R) = (ys.take (k + 1)).map (·.R) ∧ ∀ d ∈ fs', ∃ y ∈ ys, d.R = y.R ∧ ∀ x ∈ d.B, x ∈ y.R := fun H8 q ta B s8 hq hta sB bne => by
          have D8 := D7.same s8
          have oy8 := oy7.same s8
          have kt : ∀ b ts, H8 b = some (.tup ts) → (upd H8 fl (.lst ((fs.map fun d => V.ref d.a) ++ [.ref ta]))) b = some (.tup ts) := fun b ts e => by rw [upd_ne (ne_of e D8.1 (by intro z; cases z))]; exact e
          refine ⟨_, _, _, fs ++ [⟨ta, y.ra, q, y.R, B⟩], rfl, (held7.same s8).put (ce7.kp (Kp.same s8)), (k37.trans (Kp.same s8)).new ffl3, (ce7.kp (Kp.same s8)).put ce7.ne.symm, by rw [upd_ne nofl]; exact s8 _ _ ho7, by rw [upd_ne nspfl]; exact s8 _ _ hsp7, ⟨by rw [upd_same, List.map_append]; rfl, fun d hd => ?_⟩, by rw [List.length_append, fl6]; rfl, ?_, fun d hd => ?_⟩
          · rcases List.mem_append.mp hd with hd | hd
            · exact (D8.2 d hd).tup kt
            · rw [List.mem_singleton.mp hd]
              exact ⟨kt _ _ hta, kt _ _ oy8.r, kt _ _ hq, oy.nd, oy.ne, oy.l12, Nat.le_trans sB.length_le oy.lb, oy.bn.sublist sB, fun x hx => oy.bs x (sB.subset hx), bne⟩
          · rw [List.map_append, fR, List.take_add_one, hy, List.map_append]
            rfl
          · rcases List.mem_append.mp hd with hd | hd
            · exact fB d hd
            · rw [List.mem_singleton.mp hd]
              exact ⟨y, hym, rfl, fun x hx => oy.bs x (sB.subset hx)⟩
        have lf : (fs.map fun d => V.ref d.a).length < sizeLine := by
          rw [List.length_map, fl6]
          exact line_lt (by omega)
        refine ⟨_, rfl, Or.inl ⟨rfl, _, SqL.of D7.1⟩, _, rfl, _, rfl, by show 0 ≤ sizeLine; decide, fun e fe => ?_⟩
        have se := same_new (o := .lst []) fe
        refine ⟨.list (Z.map .str), .list [], Dp.lst (SqL.of (se _ _ hZ)) (dp_ss Z), Dp.lst (SqL.of upd_same) .nil, DQ.sh_strs okZ, by decide, ?_⟩
        generalize upd H7 e (.lst []) = H8 at se
        rw [eqv_nil]
        refine ⟨_, rfl, ?_⟩
        refine ite2 (fun hne => ?_) (fun _ => ?_)
        · have bne : Z ≠ [] := fun z => by rw [z] at hne; cases hne
          refine ⟨_, rfl, O, _, rfl, .inl ⟨SqL.of (se _ _ hZ), fun t2 ft2 => ⟨by show 2 ≤ sizeLine; decide, fun ta fta => ?_⟩⟩⟩
          have s2 := same_new (o := .tup (Z.map V.str)) ft2
          have sa := same_new (o := .tup [.ref y.ra, .ref t2]) fta
          have s8 := (se.trans s2).trans sa
          have D8 := D7.same s8
          exact ⟨fl, _, _, rfl, rfl, D8.1, lf, fin _ t2 ta Z s8 (sa _ _ upd_same) upd_same sZ bne⟩
        · refine ⟨_, rfl, by show 2 ≤ sizeLine; decide, fun ta fta => ?_⟩
          have sa := same_new (o := .tup [.ref y.ra, .ref y.ba]) fta
          have s8 := se.trans sa
          have D8 := D7.same s8
          exact ⟨fl, _, _, rfl, rfl, D8.1, lf, fin _ y.ba ta y.B s8 (s8 _ _ oy7.b) upd_same (List.Sublist.refl _) oy.bne⟩
      · rintro σ' H6 ⟨v9, v10, v11, fs, rfl, held6, k6, ce6, ho6, hsp6, D6, fl6, fR, fB⟩
        rw [List.length_map] at held6 fl6 fR
        rw [List.take_length] at fR
        refine ⟨_, rfl, _, rfl, l2, fun t ft => ?_⟩
        have st := same_new (o := .tup [.ref D, .ref fl]) ft
        have k36 : Kp h H3 (upd H6 t (.tup [.ref D, .ref fl])) := k6.trans (Kp.same st)
        exact hQ t D fl fs L cc _ ((held6.same st).weak (by omega)) (k13.trans k36) ⟨upd_same, ce3.kp k36, T3.kp k36 held3 ce3.ne, D6.same st, cf_oth cf1 ⟨fl6, fR, fB⟩⟩
    refine ⟨_, rfl, rfl, _, rfl, ?_⟩
    have rest : ∀ H4 : Hp, Held H4 h (c + 490) → Kp h H3 H4 → ∀ t, H4 t = none → Q (.ref t) (upd H4 t (.tup [.ref D, .ref o])) := fun H4 held4 k4 t ft => by
      have st := same_new (o := .tup [.ref D, .ref o]) ft
      have dy4 : DyL H4 o ys := ⟨kp_lst k4 held3 _ _ dy3.1, fun d hd => (dy3.2 d hd).tup (kp_tup k4 held3)⟩
      exact hQ t D o ys L cc _ ((held4.same st).weak (by omega)) ((k13.trans k4).trans (Kp.same st)) ⟨upd_same, (ce3.kp k4).kp (Kp.same st), (T3.kp k4 held3 ce3.ne).same st, dy4.same st, cf1⟩
    refine ite2 (fun _ => ?_) (fun _ => ?_)
    · refine ⟨_, rfl, by show 0 ≤ sizeLine; decide, fun e fe => ?_⟩
      have se := same_new (o := .lst []) fe
      refine ⟨.list (ys.map dyD), .list [], Dp.lst (SqL.of (se _ _ dy3.1)) (dp_dys (dy3.same se).2), Dp.lst (SqL.of upd_same) .nil, shp_dy oksy, by decide, ?_⟩
      have k4 : Kp h H3 (upd H3 e (.lst [])) := Kp.same se
      have held4 := held3.same se
      have dy4 := dy3.same se
      generalize upd H3 e (.lst []) = H4 at k4 held4 dy4
      rw [eqv_nil]
      refine ⟨_, rfl, ?_⟩
      refine ite2 (fun cn => ?_) (fun _ => ?_)
      · have yl0 : 0 < ys.length := by
          cases ys with
          | nil => exact absurd cn (by decide)
          | cons a b => exact Nat.succ_pos _
        refine ⟨_, rfl, _, rfl, _, rfl, _, rfl, _, rfl, o, _, rfl, .inl (SqL.of dy4.1), h, c + 498, _, rfl, held4, by rw [List.length_map]; omega, by rw [List.length_map]; omega, fun q H5 q0 q1 held5 k5 => ?_⟩
        rw [List.length_map] at q1
        obtain ⟨q, rfl⟩ := Int.eq_ofNat_of_zero_le q0
        obtain ⟨y, hy⟩ : ∃ y, ys[q]? = some y := ⟨_, List.getElem?_eq_getElem (by omega)⟩
        have hym := List.mem_of_getElem? hy
        have dy5 : DyL H5 o ys := ⟨kp_lst k5 held4 _ _ dy4.1, fun d hd => (dy4.2 d hd).tup (kp_tup k5 held4)⟩
        refine ⟨o, _, _, _, rfl, rfl, SqL.of dy5.1, atI_nat (by rw [List.getElem?_map, hy]; rfl), by show 1 ≤ sizeLine; decide, fun u fu => ?_⟩
        have su := same_new (o := .lst [V.ref y.a]) fu
        refine ⟨o, u, _, _, rfl, rfl, su _ _ dy5.1, upd_same, by rw [List.length_map]; exact Nat.le_trans (show ys.length + 1 ≤ 100 by omega) (by decide), fun o2 fo2 => ?_⟩
        have e2 : (ys.map fun d => V.ref d.a) ++ [V.ref y.a] = (ys ++ [y]).map fun d => V.ref d.a := by rw [List.map_append]; rfl
        rw [e2]
        have so := same_new (o := .lst ((ys ++ [y]).map fun d => V.ref d.a)) fo2
        have ho2 : (upd (upd H5 u (.lst [V.ref y.a])) o2 (.lst ((ys ++ [y]).map fun d => V.ref d.a))) o2 = some (.lst ((ys ++ [y]).map fun d => V.ref d.a)) := upd_same
        have suo := su.trans so
        generalize upd (upd H5 u (.lst [V.ref y.a])) o2 (.lst ((ys ++ [y]).map fun d => V.ref d.a)) = H6 at suo ho2
        refine ⟨l2, fun t ft => ?_⟩
        have st := same_new (o := .tup [.ref D, .ref o2]) ft
        have s56 := suo.trans st
        have k36 : Kp h H3 (upd H6 t (.tup [.ref D, .ref o2])) := (k4.trans k5).trans (Kp.same s56)
        have my : ∀ d ∈ ys ++ [y], d ∈ ys := fun d hd => (List.mem_append.mp hd).elim id fun z => by rw [List.mem_singleton.mp z]; exact hym
        refine hQ t D o2 (ys ++ [y]) L cc _ ((held5.same s56).weak (by omega)) (k13.trans k36) ⟨upd_same, ce3.kp k36, T3.kp k36 held3 ce3.ne, ⟨st _ _ ho2, fun d hd => ((dy5.2 d (my d hd)).same s56)⟩, ⟨cf1.nd, cf1.sub, cf1.sz, cf1.s0, by rw [List.length_append]; show ys.length + 1 ≤ 40; omega, fun d hd => dm d (my d hd)⟩⟩
      · exact ⟨_, rfl, _, rfl, l2, fun t ft => rest H4 (held4.weak (by omega)) k4 t ft⟩
    · refine iteF ?_
      exact ⟨_, rfl, _, rfl, l2, fun t ft => rest H3 (held3.weak (by omega)) (Kp.refl _ _) t ft⟩
end
end K52
set_option Elab.async false
set_option linter.all false
set_option maxRecDepth 100000
set_option maxHeartbeats 4000000
namespace K52
open PySem PySem.Spec PyProof.Rows L2
open C8 (Cal Mak Met pe_c pe_mk pe_mt pe_mt0)
open KM (pr Sz)
section
variable {P : Program} {w : World} {K : PySem.W.Frag} {mg : Str → Option Value} {base : Heap} {f C : Addr} {fd : FuncData}
/-- what are_few and are_crowded are asked -/
structure AfIn (C : Addr) (H : Hp) (d l t q : Addr) (W ws : List Str) (v : Str → Rat) (ys : List Dy) (s : Rat) : Prop where
  sd : SDc C H d W v
  dy : DyL H l ys
  tu : H t = some (.tup (ws.map V.str))
  sq : Sh C H q (pr s)
  sz : ∀ x ∈ W, Sz 1800 (v x)
  ss : Sz 1800 s
  sub : ∀ x ∈ ws, x ∈ W
  l60 : ws.length ≤ 60
  y60 : ys.length ≤ 60
def spAf (C : Addr) (g : List Dy → List Str → (Str → Rat) → Rat → Bool) : Sp := fun vs H Q _ => ∃ (d l t q : Addr) (W ws : List Str) (v : Str → Rat) (ys : List Dy) (s : Rat), vs = [.ref d, .ref l, .ref t, .ref q] ∧ AfIn C H d l t q W ws v ys s ∧ ∀ H', Same H H' → Q (.bl (g ys ws v s)) H'
theorem ok_af (F : Dn K d_are_few f fd) (b : Bl mg) (bany : mg "any" = none) (bsum : mg "sum" = none) (cLs : Cal P w K mg base 5 "least_of" (sp2i C fun r s => .int (lst r s)) []) :
    FnOk P w K mg base CX0 6 f fd ["wants", "days", "names", "slack"] (spAf C fun ys ws v s => decide (((FW.opn (abl ys) ws : Nat) : Int) < (ws.map fun x => lst (v x) s).sum)) := by
  refine F.ok sc_are_few (fun vs H Q E h => ?_) (fun cdv A outer s H vs Q E hr h => ?_)
  · obtain ⟨_, _, _, _, _, _, _, _, _, rfl, _⟩ := h
    rfl
  · obtain ⟨d, l, t, q, W, ws, v, ys, sl, rfl, I, hQ⟩ := h
    have hu := hu_of hr
    refine ⟨_, PSs.nox (C8.pss_cut (ps_setLc (i := 4) (own := [("riders", 5), ("able", 6)]) (g := gTup K 2 (gCons (gName 5) (gCons (gName 6) gNil))) (tt := tB (tCB (rAny K) (tCons (tLc (iTup K (tVar 6)) (gName 7) tYes (tOp (rIn K false) (tVar 7) (tVar 2)) [7]) tNil))) rfl sc_are_few.nd rfl rfl (sw_true rfl rfl rfl (by decide +kernel)) (pi_list (pv 1)) (blkOk_by (N := N_are_few) (sc := defScope s_are_few) (by decide +kernel))
        (fun _ _ _ _ _ => pg_tup rfl (pgs_cons (pg_name (i := 5) sc_are_few.nd rfl (.inl rfl)) (pgs_cons (pg_name (i := 6) sc_are_few.nd rfl (.inl rfl)) pgs_nil)))
        (fun _ _ _ _ _ => pts_one (pt_val (pe_callB (cr_any rfl) rfl bany boot_any (pa_cons (pe_lc (own := [("name", 7)]) (g := gName 7) (tt := tYes) rfl sc_are_few.nd (pi_tup (pv 6)) (blkOk_by (N := N_are_few) (sc := { kind := .function, names := [((".0" : Str), .local), ("riders", .local), ("able", .local), ("any", .globalImplicit), ("names", .cell)], isGenerator := false, isCoroutine := false }) (by decide +kernel))
            (fun _ _ _ _ _ => pg_name (i := 7) sc_are_few.nd rfl (.inl rfl)) (fun _ _ _ _ _ => pts_nil) (fun _ _ _ _ _ => pe_cmpR op_in_seq (pv 7) (pv 2) (by rfl))) pa_nil))))
        (fun _ _ _ _ _ => pv 6))
      (pss_one (ps_ret (pe_cmpR op_gt (pe_callB (cr_sum rfl) rfl bsum boot_sum (pa_cons (pe_lc (own := [("name", 7)]) (g := gName 7) (tt := tYes) rfl sc_are_few.nd (pi_tup (pv 2)) (blkOk_by (N := N_are_few) (sc := defScope s_are_few) (by decide +kernel))
          (fun _ _ _ _ _ => pg_name (i := 7) sc_are_few.nd rfl (.inl rfl)) (fun _ _ _ _ _ => pts_nil) (fun _ _ _ _ _ => pe_c cLs hr (by decide) rfl (pa_cons (pe_dget hu (pv 0) (pv 7) (fun _ _ => rfl)) (pa_cons (pv 3) pa_nil)))) pa_nil)) (pe_callB call_len_seq rfl b.len boot_len (pa_cons (pv 4) pa_nil)) (nomark _))))), ?_⟩
    have line : ∀ {n : Nat}, n ≤ 60 → n < sizeLine := fun {n} h => Nat.lt_of_le_of_lt h (by decide)
    have la : (abl ys).length = ys.length := List.length_map _
    refine ⟨fun σ' H' => ∃ (O : Addr) (zs : List V) (v5 v6 v7 : Option V), σ' = [some (.ref d), some (.ref l), some (.ref t), some (.ref q), some (.ref O), v5, v6, v7] ∧ H' O = some (.lst zs) ∧ zs.length = FW.opn (abl ys) ws ∧ Same H H', ?_, ?_⟩
    · refine ⟨_, rfl, l, rfl, ⟨_, SqL.of I.dy.1⟩, fun O hO => lc_list (K := K) (xs := ys.map fun d => V.ref d.a) (fun i H' => ∃ zs : List V, H' O = some (.lst zs) ∧ zs.length = FW.opn ((abl ys).take i) ws ∧ Same H H') ⟨[], upd_same, rfl, same_new hO⟩ (fun i H' _ z => by obtain ⟨_, _, _, z⟩ := z; exact SqL.of (z _ _ I.dy.1)) ?_ ?_⟩
      · rintro i v1 H2 hv ⟨zs, hO2, zl, s2⟩
        rw [List.getElem?_map] at hv
        obtain ⟨y, hy, rfl⟩ := Option.map_eq_some_iff.mp hv
        have hym := List.mem_of_getElem? hy
        have il := (List.getElem?_eq_some_iff.mp hy).1
        have oy := (I.dy.2 y hym).same s2
        have b12 := oy.lb
        have tk : (abl ys).take (i + 1) = (abl ys).take i ++ [y.B] := by
          rw [List.take_add_one, List.getElem?_map, hy]
          rfl
        have z60 : zs.length ≤ 60 := by
          rw [zl]
          refine Nat.le_trans (List.length_filter_le _ _) ?_
          rw [List.length_take]
          have := I.y60
          omega
        refine ⟨y.a, _, rfl, SqT.of oy.t, rfl, _, _, rfl, _, _, rfl, rfl, rfl, ?_⟩
        refine ⟨_, rfl, y.ba, rfl, ⟨_, SqT.of oy.b⟩, fun D fD => lc_tup (K := K) (xs := y.B.map V.str) (fun j H' => H' D = some (.lst (((y.B.take j).map fun n => decide (n ∈ ws)).map V.bl)) ∧ Same H2 H') ⟨upd_same, same_new fD⟩ (fun j H' _ z => SqT.of (z.2 _ _ oy.b)) ?_ ?_⟩
        · rintro j v2 H3 hn0 ⟨hD3, s3⟩
          rw [List.getElem?_map] at hn0
          obtain ⟨n, hn, rfl⟩ := Option.map_eq_some_iff.mp hn0
          have jl := (List.getElem?_eq_some_iff.mp hn).1
          refine ⟨rfl, ?_⟩
          refine ⟨_, rfl, _, rfl, t, _, rfl, .inr (SqT.of (s3 _ _ (s2 _ _ I.tu))), rfl, flat_strs _, ?_⟩
          simp only [Bool.false_eq_true, if_false, inV_strs]
          refine ⟨_, hD3, by rw [List.length_map, List.length_map, List.length_take]; exact line (by omega), ?_, fun b o e => ?_⟩
          · rw [upd_same, List.take_add_one, hn, List.map_append, List.map_append]
            rfl
          · rw [upd_ne (ne_of_none e fD)]
            exact s3 _ _ e
        rintro H3 ⟨hD3, s3⟩
        rw [List.length_map, List.take_length] at hD3
        refine ⟨D, _, rfl, SqL.of hD3, _, rfl, ?_⟩
        have eA : ((y.B.map fun n => decide (n ∈ ws)).any id) = (y.B.any fun n => decide (n ∈ ws)) := by
          rw [List.any_map]
          rfl
        rw [eA]
        have s23 := s2.trans s3
        have hO3 := s3 _ _ hO2
        refine ite2 (fun c => ?_) (fun c => ?_)
        · refine ⟨_, rfl, _, hO3, line z60, _, upd_same, ?_, fun b o e => ?_⟩
          · rw [List.length_append, zl, tk]
            unfold FW.opn
            rw [List.filter_append, List.length_append, List.filter_cons, if_pos c]
            rfl
          · rw [upd_ne (ne_of_none e hO)]
            exact s23 _ _ e
        · refine ⟨zs, hO3, ?_, s23⟩
          rw [zl, tk]
          unfold FW.opn
          rw [List.filter_append, List.length_append, List.filter_cons, if_neg c]
          rfl
      · rintro H2 ⟨zs, hO2, zl, s2⟩
        rw [List.length_map, ← la, List.take_length] at zl
        exact ⟨O, zs, _, _, _, rfl, hO2, zl, s2⟩
    rintro σ' H1 ⟨O, zs, v5, v6, v7, rfl, hO1, zl, s1⟩
    obtain ⟨ad, hd, hv⟩ := I.sd.same s1
    have ht1 := s1 _ _ I.tu
    have sq1 := I.sq.keep s1
    refine ⟨_, rfl, t, rfl, ⟨_, SqT.of ht1⟩, fun D fD => lc_tup (K := K) (xs := ws.map V.str) (fun j H' => H' D = some (.lst (((ws.take j).map fun x => lst (v x) sl).map V.int)) ∧ Same H1 H') ⟨upd_same, same_new fD⟩ (fun j H' _ z => SqT.of (z.2 _ _ ht1)) ?_ ?_⟩
    · rintro j v2 H3 hn ⟨hD3, s3⟩
      rw [List.getElem?_map] at hn
      obtain ⟨x, hx, rfl⟩ := Option.map_eq_some_iff.mp hn
      have jl := (List.getElem?_eq_some_iff.mp hx).1
      have hxW := I.sub x (List.mem_of_getElem? hx)
      refine ⟨rfl, ?_⟩
      have dg : DGet H3 d (.str x) (some (.ref (ad x))) := by
        have := DGet.k (k := Sum.inr x) (s3 _ _ hd)
        rw [val_dct, if_pos hxW] at this
        exact this
      have l60 := I.l60
      refine ⟨_, rfl, _, rfl, d, _, rfl, dg, _, rfl, ad x, q, v x, sl, 1800, rfl, (hv x hxW).keep s3, sq1.keep s3, I.sz x hxW, I.ss, by decide, by decide, fun H4 s4 => ?_⟩
      refine ⟨_, s4 _ _ hD3, by rw [List.length_map, List.length_map, List.length_take]; exact line (by omega), ?_, fun b o e => ?_⟩
      · rw [upd_same, List.take_add_one, hx, List.map_append, List.map_append]
        rfl
      · rw [upd_ne (ne_of_none e fD)]
        exact s4 _ _ (s3 _ _ e)
    rintro H3 ⟨hD3, s3⟩
    rw [List.length_map, List.take_length] at hD3
    refine ⟨D, _, rfl, SqL.of hD3, _, rfl, O, _, rfl, .inl (SqL.of (s3 _ _ hO1)), ?_⟩
    rw [zl]
    exact ⟨_, _, rfl, rfl, hQ H3 (s1.trans s3)⟩
theorem ok_ac (F : Dn K d_are_crowded f fd) (b : Bl mg) (bany : mg "all" = none) (bsum : mg "sum" = none) (cLs : Cal P w K mg base 5 "most_of" (sp2i C fun r s => .int (mst r s)) []) :
    FnOk P w K mg base CX0 6 f fd ["wants", "days", "names", "slack"] (spAf C fun ys ws v s => decide ((ws.map fun x => mst (v x) s).sum < ((FW.own (abl ys) ws : Nat) : Int))) := by
  refine F.ok sc_are_crowded (fun vs H Q E h => ?_) (fun cdv A outer s H vs Q E hr h => ?_)
  · obtain ⟨_, _, _, _, _, _, _, _, _, rfl, _⟩ := h
    rfl
  · obtain ⟨d, l, t, q, W, ws, v, ys, sl, rfl, I, hQ⟩ := h
    have hu := hu_of hr
    refine ⟨_, PSs.nox (C8.pss_cut (ps_setLc (i := 4) (own := [("riders", 5), ("able", 6)]) (g := gTup K 2 (gCons (gName 5) (gCons (gName 6) gNil))) (tt := tB (tCB (rAll K) (tCons (tLc (iTup K (tVar 6)) (gName 7) tYes (tOp (rIn K false) (tVar 7) (tVar 2)) [7]) tNil))) rfl sc_are_crowded.nd rfl rfl (sw_true rfl rfl rfl (by decide +kernel)) (pi_list (pv 1)) (blkOk_by (N := N_are_crowded) (sc := defScope s_are_crowded) (by decide +kernel))
        (fun _ _ _ _ _ => pg_tup rfl (pgs_cons (pg_name (i := 5) sc_are_crowded.nd rfl (.inl rfl)) (pgs_cons (pg_name (i := 6) sc_are_crowded.nd rfl (.inl rfl)) pgs_nil)))
        (fun _ _ _ _ _ => pts_one (pt_val (pe_callB (cr_all rfl) rfl bany boot_all (pa_cons (pe_lc (own := [("name", 7)]) (g := gName 7) (tt := tYes) rfl sc_are_crowded.nd (pi_tup (pv 6)) (blkOk_by (N := N_are_crowded) (sc := { kind := .function, names := [((".0" : Str), .local), ("riders", .local), ("able", .local), ("all", .globalImplicit), ("names", .cell)], isGenerator := false, isCoroutine := false }) (by decide +kernel))
            (fun _ _ _ _ _ => pg_name (i := 7) sc_are_crowded.nd rfl (.inl rfl)) (fun _ _ _ _ _ => pts_nil) (fun _ _ _ _ _ => pe_cmpR op_in_seq (pv 7) (pv 2) (by rfl))) pa_nil))))
        (fun _ _ _ _ _ => pv 6))
      (pss_one (ps_ret (pe_cmpR op_lt (pe_callB (cr_sum rfl) rfl bsum boot_sum (pa_cons (pe_lc (own := [("name", 7)]) (g := gName 7) (tt := tYes) rfl sc_are_crowded.nd (pi_tup (pv 2)) (blkOk_by (N := N_are_crowded) (sc := defScope s_are_crowded) (by decide +kernel))
          (fun _ _ _ _ _ => pg_name (i := 7) sc_are_crowded.nd rfl (.inl rfl)) (fun _ _ _ _ _ => pts_nil) (fun _ _ _ _ _ => pe_c cLs hr (by decide) rfl (pa_cons (pe_dget hu (pv 0) (pv 7) (fun _ _ => rfl)) (pa_cons (pv 3) pa_nil)))) pa_nil)) (pe_callB call_len_seq rfl b.len boot_len (pa_cons (pv 4) pa_nil)) (nomark _))))), ?_⟩
    have line : ∀ {n : Nat}, n ≤ 60 → n < sizeLine := fun {n} h => Nat.lt_of_le_of_lt h (by decide)
    have la : (abl ys).length = ys.length := List.length_map _
    refine ⟨fun σ' H' => ∃ (O : Addr) (zs : List V) (v5 v6 v7 : Option V), σ' = [some (.ref d), some (.ref l), some (.ref t), some (.ref q), some (.ref O), v5, v6, v7] ∧ H' O = some (.lst zs) ∧ zs.length = FW.own (abl ys) ws ∧ Same H H', ?_, ?_⟩
    · refine ⟨_, rfl, l, rfl, ⟨_, SqL.of I.dy.1⟩, fun O hO => lc_list (K := K) (xs := ys.map fun d => V.ref d.a) (fun i H' => ∃ zs : List V, H' O = some (.lst zs) ∧ zs.length = FW.own ((abl ys).take i) ws ∧ Same H H') ⟨[], upd_same, rfl, same_new hO⟩ (fun i H' _ z => by obtain ⟨_, _, _, z⟩ := z; exact SqL.of (z _ _ I.dy.1)) ?_ ?_⟩
      · rintro i v1 H2 hv ⟨zs, hO2, zl, s2⟩
        rw [List.getElem?_map] at hv
        obtain ⟨y, hy, rfl⟩ := Option.map_eq_some_iff.mp hv
        have hym := List.mem_of_getElem? hy
        have il := (List.getElem?_eq_some_iff.mp hy).1
        have oy := (I.dy.2 y hym).same s2
        have b12 := oy.lb
        have tk : (abl ys).take (i + 1) = (abl ys).take i ++ [y.B] := by
          rw [List.take_add_one, List.getElem?_map, hy]
          rfl
        have z60 : zs.length ≤ 60 := by
          rw [zl]
          refine Nat.le_trans (List.length_filter_le _ _) ?_
          rw [List.length_take]
          have := I.y60
          omega
        refine ⟨y.a, _, rfl, SqT.of oy.t, rfl, _, _, rfl, _, _, rfl, rfl, rfl, ?_⟩
        refine ⟨_, rfl, y.ba, rfl, ⟨_, SqT.of oy.b⟩, fun D fD => lc_tup (K := K) (xs := y.B.map V.str) (fun j H' => H' D = some (.lst (((y.B.take j).map fun n => decide (n ∈ ws)).map V.bl)) ∧ Same H2 H') ⟨upd_same, same_new fD⟩ (fun j H' _ z => SqT.of (z.2 _ _ oy.b)) ?_ ?_⟩
        · rintro j v2 H3 hn0 ⟨hD3, s3⟩
          rw [List.getElem?_map] at hn0
          obtain ⟨n, hn, rfl⟩ := Option.map_eq_some_iff.mp hn0
          have jl := (List.getElem?_eq_some_iff.mp hn).1
          refine ⟨rfl, ?_⟩
          refine ⟨_, rfl, _, rfl, t, _, rfl, .inr (SqT.of (s3 _ _ (s2 _ _ I.tu))), rfl, flat_strs _, ?_⟩
          simp only [Bool.false_eq_true, if_false, inV_strs]
          refine ⟨_, hD3, by rw [List.length_map, List.length_map, List.length_take]; exact line (by omega), ?_, fun b o e => ?_⟩
          · rw [upd_same, List.take_add_one, hn, List.map_append, List.map_append]
            rfl
          · rw [upd_ne (ne_of_none e fD)]
            exact s3 _ _ e
        rintro H3 ⟨hD3, s3⟩
        rw [List.length_map, List.take_length] at hD3
        refine ⟨D, _, rfl, SqL.of hD3, _, rfl, ?_⟩
        have eA : ((y.B.map fun n => decide (n ∈ ws)).all id) = (y.B.all fun n => decide (n ∈ ws)) := by
          rw [List.all_map]
          rfl
        rw [eA]
        have s23 := s2.trans s3
        have hO3 := s3 _ _ hO2
        refine ite2 (fun c => ?_) (fun c => ?_)
        · refine ⟨_, rfl, _, hO3, line z60, _, upd_same, ?_, fun b o e => ?_⟩
          · rw [List.length_append, zl, tk]
            unfold FW.own
            rw [List.filter_append, List.length_append, List.filter_cons, if_pos c]
            rfl
          · rw [upd_ne (ne_of_none e hO)]
            exact s23 _ _ e
        · refine ⟨zs, hO3, ?_, s23⟩
          rw [zl, tk]
          unfold FW.own
          rw [List.filter_append, List.length_append, List.filter_cons, if_neg c]
          rfl
      · rintro H2 ⟨zs, hO2, zl, s2⟩
        rw [List.length_map, ← la, List.take_length] at zl
        exact ⟨O, zs, _, _, _, rfl, hO2, zl, s2⟩
    rintro σ' H1 ⟨O, zs, v5, v6, v7, rfl, hO1, zl, s1⟩
    obtain ⟨ad, hd, hv⟩ := I.sd.same s1
    have ht1 := s1 _ _ I.tu
    have sq1 := I.sq.keep s1
    refine ⟨_, rfl, t, rfl, ⟨_, SqT.of ht1⟩, fun D fD => lc_tup (K := K) (xs := ws.map V.str) (fun j H' => H' D = some (.lst (((ws.take j).map fun x => mst (v x) sl).map V.int)) ∧ Same H1 H') ⟨upd_same, same_new fD⟩ (fun j H' _ z => SqT.of (z.2 _ _ ht1)) ?_ ?_⟩
    · rintro j v2 H3 hn ⟨hD3, s3⟩
      rw [List.getElem?_map] at hn
      obtain ⟨x, hx, rfl⟩ := Option.map_eq_some_iff.mp hn
      have jl := (List.getElem?_eq_some_iff.mp hx).1
      have hxW := I.sub x (List.mem_of_getElem? hx)
      refine ⟨rfl, ?_⟩
      have dg : DGet H3 d (.str x) (some (.ref (ad x))) := by
        have := DGet.k (k := Sum.inr x) (s3 _ _ hd)
        rw [val_dct, if_pos hxW] at this
        exact this
      have l60 := I.l60
      refine ⟨_, rfl, _, rfl, d, _, rfl, dg, _, rfl, ad x, q, v x, sl, 1800, rfl, (hv x hxW).keep s3, sq1.keep s3, I.sz x hxW, I.ss, by decide, by decide, fun H4 s4 => ?_⟩
      refine ⟨_, s4 _ _ hD3, by rw [List.length_map, List.length_map, List.length_take]; exact line (by omega), ?_, fun b o e => ?_⟩
      · rw [upd_same, List.take_add_one, hx, List.map_append, List.map_append]
        rfl
      · rw [upd_ne (ne_of_none e fD)]
        exact s4 _ _ (s3 _ _ e)
    rintro H3 ⟨hD3, s3⟩
    rw [List.length_map, List.take_length] at hD3
    refine ⟨D, _, rfl, SqL.of hD3, _, rfl, O, _, rfl, .inl (SqL.of (s3 _ _ hO1)), ?_⟩
    rw [zl]
    exact ⟨_, _, rfl, rfl, hQ H3 (s1.trans s3)⟩
end
end K52
set_option Elab.async false
set_option linter.all false
set_option maxRecDepth 100000
set_option maxHeartbeats 4000000
namespace K52
open PySem PySem.Spec PyProof.Rows L2
open C8 (Cal Mak Met pe_c pe_mk pe_mt pe_mt0)
open LamX (Tabs ExtN TabB CodeO)
open KM (pr Sz)
/-- the paper stands at t -/
def PapAt (H : Hp) (t : Addr) : Pap → Prop
  | .part x => H t = some (.tup [.str "part", .str x])
  | .few ws => ∃ t3, H t = some (.tup [.str "few", .ref t3]) ∧ H t3 = some (.tup (ws.map V.str))
  | .crowd ws => ∃ t3, H t = some (.tup [.str "crowd", .ref t3]) ∧ H t3 = some (.tup (ws.map V.str))
theorem PapAt.ext {H H' : Hp} {t : Addr} {p : Pap} (h : PapAt H t p) (e : ExtN H H') : PapAt H' t p := by
  cases p with
  | part x => exact e _ _ h (fun _ q => nomatch q)
  | few ws => obtain ⟨t3, a, b⟩ := h; exact ⟨t3, e _ _ a (fun _ q => nomatch q), e _ _ b (fun _ q => nomatch q)⟩
  | crowd ws => obtain ⟨t3, a, b⟩ := h; exact ⟨t3, e _ _ a (fun _ q => nomatch q), e _ _ b (fun _ q => nomatch q)⟩
theorem PapAt.kt {H H' : Hp} {t : Addr} {p : Pap} (h : PapAt H t p) (e : ∀ b xs, H b = some (.tup xs) → H' b = some (.tup xs)) : PapAt H' t p := by
  cases p with
  | part x => exact e _ _ h
  | few ws => obtain ⟨t3, a, b⟩ := h; exact ⟨t3, e _ _ a, e _ _ b⟩
  | crowd ws => obtain ⟨t3, a, b⟩ := h; exact ⟨t3, e _ _ a, e _ _ b⟩
theorem PapAt.same {H H' : Hp} {t : Addr} {p : Pap} (h : PapAt H t p) (e : Same H H') : PapAt H' t p := h.ext (ExtN.of e)
/-- its names are texts, not too many -/
def PapOk : Pap → Prop
  | .part x => PyData.strOk x = true
  | .few ws => ws.length < 60 ∧ ∀ x ∈ ws, PyData.strOk x = true
  | .crowd ws => ws.length < 60 ∧ ∀ x ∈ ws, PyData.strOk x = true
theorem SeIn.sdz {K : PySem.W.Frag} {C : Addr} {H : Hp} {d l : Addr} {v : V} {L : List Str} {c : Str → Rat} {ys : List Dy} {s : Rat} (I : SeIn K C H d l v L c ys s) : ∀ x ∈ wN ys L c, Sz 1700 (wV ys L c x) := fun x hx => wnt_sz I.lL I.sz I.dy.2 I.ly hx
section
variable {P : Program} {w : World} {K : PySem.W.Frag} {mg : Str → Option Value} {base : Heap} {f C : Addr} {fd : FuncData}
def spWu (K : PySem.W.Frag) (C : Addr) : Sp := fun vs H Q _ => ∃ (d l : Addr) (v : V) (L : List Str) (c : Str → Rat) (ys : List Dy) (s : Rat), vs = [.ref d, .ref l, v] ∧ SeIn K C H d l v L c ys s ∧
  (∀ (ds : List Str) (H' : Hp), ExtN H H' → Tabs (T0 K) H' → Ev ys L c s ds → Q .non H') ∧
  ∀ (t : Addr) (p : Pap) (H' : Hp), ExtN H H' → Tabs (T0 K) H' → PapAt H' t p → Bars ys L c s p → Q (.ref t) H'
theorem ok_wu (F : Dn K d_why_uneven f fd) (cSe : Cal P w K mg base 8 "search" (spSe K C) []) : FnOk P w K mg base CX0 9 f fd ["standing", "days", "slack"] (spWu K C) := by
  refine F.ok sc_why_uneven (fun vs H Q E h => ?_) (fun cdv A outer s H vs Q E hr h => ?_)
  · obtain ⟨_, _, _, _, _, _, _, rfl, _⟩ := h
    rfl
  · obtain ⟨d, l, v, L, c, ys, sl, rfl, I, hQ1, hQ2⟩ := h
    refine ⟨_, PSs.nox (pss_cons (ps_asg (pe_c cSe hr (by decide) rfl (pa_cons (pv 0) (pa_cons (pv 1) (pa_cons (pv 2) pa_nil)))) (pg_tup rfl (pgs_cons (pg_name (i := 3) sc_why_uneven.nd rfl (.inl rfl)) (pgs_cons (pg_name (i := 4) sc_why_uneven.nd rfl (.inl rfl)) pgs_nil))))
      (pss_one (ps_ret (pv 4)))), ?_⟩
    refine ⟨_, rfl, _, rfl, _, rfl, d, l, v, L, c, ys, sl, rfl, I, fun t t2 x H' e t0 ht h2 hx p => ?_, fun t t2 t3 ds W ws y H' e t0 ht h2 h3 pm cr => ?_, fun t t2 t3 ds W ws x H' e t0 ht h2 h3 pm fw => ?_, fun t r ds H' e t0 ht hr' ev => ?_⟩
    · exact ⟨t, _, rfl, SqT.of ht, rfl, _, _, rfl, _, _, rfl, rfl, _, rfl, hQ2 t2 (.part x) H' e t0 h2 ⟨hx, p⟩⟩
    · exact ⟨t, _, rfl, SqT.of ht, rfl, _, _, rfl, _, _, rfl, rfl, _, rfl, hQ2 t2 (.crowd ws) H' e t0 ⟨t3, h2, h3⟩ (crowd_bars pm cr (I.dy.2 y (List.mem_of_getElem? cr.at_)).bne)⟩
    · exact ⟨t, _, rfl, SqT.of ht, rfl, _, _, rfl, _, _, rfl, rfl, _, rfl, hQ2 t2 (.few ws) H' e t0 ⟨t3, h2, h3⟩ (few_bars pm fw)⟩
    · exact ⟨t, _, rfl, SqT.of ht, rfl, _, _, rfl, _, _, rfl, rfl, _, rfl, hQ1 ds H' e t0 ev⟩
/-- a paper, as data -/
inductive IsPap : PyData → Pap → Prop
  | part (x : Str) : IsPap (.tuple [.str "part", .str x]) (.part x)
  | few (ws : List Str) : IsPap (.tuple [.str "few", .tuple (ws.map .str)]) (.few ws)
  | crowd (ws : List Str) : IsPap (.tuple [.str "crowd", .tuple (ws.map .str)]) (.crowd ws)
/-- a thing that bars -/
def BarsE (ys : List Dy) (L : List Str) (c : Str → Rat) (s : Rat) (y : PyData) : Prop := ∃ p, IsPap y p ∧ Bars ys L c s p
def Lk (y : PyData) : Prop := ∀ k ds, y = .tuple [k, .tuple ds] → ds.length < 60
theorem BarsE.inv {ys : List Dy} {L : List Str} {c : Str → Rat} {s : Rat} {y : PyData} (h : BarsE ys L c s y) : (∃ x, y = .tuple [.str "part", .str x] ∧ x ∈ wN ys L c ∧ wh (wV ys L c x + s) < lst (wV ys L c x) s) ∨
    ∃ (k : Str) (ws : List Str), (k = "few" ∨ k = "crowd") ∧ y = .tuple [.str k, .tuple (ws.map .str)] ∧ Ris (wN ys L c) (.tuple (ws.map .str)) := by
  obtain ⟨p, i, b⟩ := h
  cases i with
  | part x => exact .inl ⟨x, rfl, b⟩
  | few ws => exact .inr ⟨_, ws, .inl rfl, rfl, ws, rfl, b.1, b.2.1, b.2.2.1⟩
  | crowd ws => exact .inr ⟨_, ws, .inr rfl, rfl, ws, rfl, b.1, b.2.1, b.2.2.1⟩
def spSu (K : PySem.W.Frag) (C : Addr) : Sp := fun vs H Q _ => ∃ (d l : Addr) (u v : V) (L : List Str) (c : Str → Rat) (ys : List Dy) (s : Rat) (y : PyData) (tx : Str) (n : Nat), vs = [.ref d, .ref l, u, v] ∧ SeIn K C H d l v L c ys s ∧ TV.Tv H u y tx n ∧ Lk y ∧
  ∀ (H' : Hp) (z : Bool), Same H H' → (z = true ↔ BarsE ys L c s y) → Q (.bl z) H'
theorem ok_su (F : Dn K d_shows_uneven f fd) (b : Bl mg) (bt : mg "tuple" = none) (bs : mg "str" = none) (cWa : Cal P w K mg base 7 "wanted" (spWa C) []) (cSk : Cal P w K mg base 4 "slack_share" (spSk C) []) (cIp : Cal P w K mg base 6 "is_parted" (sp2i C fun r s => .bl (decide (wh (r + s) < lst r s))) [])
    (cAr : Cal P w K mg base 1 "are_rising" spAr []) (cAf : Cal P w K mg base 6 "are_few" (spAf C fun ys ws v s => decide (((FW.opn (abl ys) ws : Nat) : Int) < (ws.map fun x => lst (v x) s).sum)) []) (cAc : Cal P w K mg base 6 "are_crowded" (spAf C fun ys ws v s => decide ((ws.map fun x => mst (v x) s).sum < ((FW.own (abl ys) ws : Nat) : Int))) []) :
    FnOk P w K mg base CX0 8 f fd ["standing", "days", "thing", "slack"] (spSu K C) := by
  refine F.ok sc_shows_uneven (fun vs H Q E h => ?_) (fun cdv A outer s H vs Q E hr h => ?_)
  · obtain ⟨_, _, _, _, _, _, _, _, _, _, _, rfl, _⟩ := h
    rfl
  · obtain ⟨d, l, u, v, L, c, ys, sl, y, tx, n, rfl, I, hp, ok, hQ⟩ := h
    have hu := hu_of hr
    have hu65 : (A.deeper (envOfC d_shows_uneven.qual d_shows_uneven.scope s.heap.objs.size f cdv)).units + 65 < cLine := by have := hr.un; omega
    refine ⟨_, PSs.nox (pss_cons (ps_set (i := 4) sc_shows_uneven.nd rfl (.inl rfl) (pe_c cWa hr (by decide) rfl (pa_cons (pv 0) (pa_cons (pv 1) pa_nil))))
      (pss_cons (ps_set (i := 5) sc_shows_uneven.nd rfl (.inl rfl) (pe_c cSk hr (by decide) rfl (pa_cons (pv 3) pa_nil)))
      (pss_cons (ps_if (PW.pt (pw_or (pt_not (pt_val (pe_callB call_isi rfl b.isi boot_isinstance (pa_cons (pv 2) (pa_cons (pe_bltn (v := .ty "tuple") rfl bt boot_tuple rfl) pa_nil)))))
          (pw_or1 (pt_cmpR op_ne (pe_callB TI.call_lenK rfl b.len boot_len (pa_cons (pv 2) pa_nil)) pe_int (nomark _))))) (pss_one (ps_ret pe_bl)) pss_nil)
      (pss_cons (ps_asg (pv 2) (pg_tup rfl (pgs_cons (pg_name (i := 6) sc_shows_uneven.nd rfl (.inl rfl)) (pgs_cons (pg_name (i := 7) sc_shows_uneven.nd rfl (.inl rfl)) pgs_nil))))
      (pss_cons (ps_if (pt_cmpR (TV.op_eqS hu65) (pv 6) pe_str (nomark _)) (pss_one (ps_ret (pe_and (pe_callB call_isi rfl b.isi boot_isinstance (pa_cons (pv 7) (pa_cons (pe_bltn (v := .ty "str") rfl bs boot_str rfl) pa_nil)))
          (pe_and (pe_cmp (pc_din hu (pv 7) (pv 4)) rfl) (pe_one (pe_c cIp hr (by decide) rfl (pa_cons (pe_dget hu (pv 4) (pv 7) (fun _ _ => rfl)) (pa_cons (pv 5) pa_nil)))))))) pss_nil)
      (pss_cons (ps_if (pt_not (pt_val (pe_c cAr hr (by decide) rfl (pa_cons (pv 7) (pa_cons (pv 4) pa_nil))))) (pss_one (ps_ret pe_bl)) pss_nil)
      (pss_cons (ps_if (pt_cmpR (TV.op_eqS hu65) (pv 6) pe_str (nomark _)) (pss_one (ps_ret (pe_c cAf hr (by decide) rfl (pa_cons (pv 4) (pa_cons (pv 1) (pa_cons (pv 7) (pa_cons (pv 5) pa_nil))))))) pss_nil)
      (pss_one (ps_ret (pe_and (pe_cmpR (TV.op_eqS hu65) (pv 6) pe_str (nomark _)) (pe_one (pe_c cAc hr (by decide) rfl (pa_cons (pv 4) (pa_cons (pv 1) (pa_cons (pv 7) (pa_cons (pv 5) pa_nil)))))))))))))))), ?_⟩
    have lL := I.lL
    refine ⟨_, rfl, _, rfl, d, l, L, c, ys, rfl, I.sd, I.nd, by omega, I.sz, I.s0, I.dy, I.ly, fun D H1 s1 fD SD => ?_⟩
    refine ⟨_, rfl, v, sl, rfl, I.sk.same s1, fun q H2 s2 hq => ?_⟩
    have s12 := s1.trans s2
    have SD2 := SD.same s2
    have hp2 := hp.same s12
    have dy2 := I.dy.same s12
    have zw := I.sdz
    have zs := I.ss.mono (show 100 ≤ 1800 by decide)
    obtain ⟨T0, ty0, kt0⟩ := hp2.tyT (K := K)
    refine ⟨_, rfl, _, _, _, _, _, rfl, ClsV.ty _, ty0, kt0, _, rfl, ?_⟩
    refine ite2 (fun c0 => ?_) (fun c0 => ?_)
    · refine hQ H2 false s12 ⟨fun z => (by cases z), fun z => ?_⟩
      rcases z.inv with ⟨x, rfl, _⟩ | ⟨k, ws, _, rfl, _⟩ <;> cases c0
    obtain ⟨ds, rfl⟩ : ∃ ds, y = .tuple ds := TV.isT_iff.mp (by
      cases q : TV.isT y with
      | true => rfl
      | false => rw [q] at c0; exact absurd rfl c0)
    obtain ⟨t, xs, ts, m, rfl, ht, hs, rfl, rfl⟩ := hp2.tup_of
    obtain ⟨lx, _⟩ := hs.len
    refine ⟨_, rfl, t, _, rfl, .inr (SqT.of ht), rfl, _, rfl, ?_⟩
    refine ite2 (fun c1 => ?_) (fun c1 => ?_)
    · have n2 : ¬ ds.length = 2 := fun z => by
        rw [lx, z] at c1
        exact absurd c1 (by decide)
      refine hQ H2 false s12 ⟨fun z => (by cases z), fun z => ?_⟩
      rcases z.inv with ⟨x, e, _⟩ | ⟨k, ws, _, e, _⟩ <;> cases e <;> exact absurd rfl n2
    have l2 : ds.length = 2 := by
      refine Classical.byContradiction fun z => c1 ?_
      rw [lx]
      simp
      omega
    obtain ⟨d1, d2, rfl⟩ : ∃ d1 d2, ds = [d1, d2] := by
      match ds, l2 with
      | [d1, d2], _ => exact ⟨d1, d2, rfl⟩
    obtain ⟨u1, t1, u2, t2, rfl, h1, h2⟩ : ∃ u1 t1 u2 t2, xs = [u1, u2] ∧ TV.Tv H2 u1 d1 t1 m ∧ TV.Tv H2 u2 d2 t2 m := by
      cases hs with
      | cons a b =>
        cases b with
        | cons b c => cases c; exact ⟨_, _, _, _, rfl, a, b⟩
    obtain ⟨ad, hd, hv⟩ := id SD2
    refine ⟨_, rfl, t, _, rfl, SqT.of ht, rfl, _, _, rfl, _, _, rfl, rfl, ?_⟩
    refine ⟨_, rfl, d1, t1, "part", m, rfl, h1, _, rfl, ?_⟩
    refine ite2 (fun cp => ?_) (fun cp => ?_)
    · have e1 := TV.eqS_iff.mp cp
      subst e1
      obtain ⟨T2, ty2, kt2⟩ := h2.tyS (K := K)
      refine ⟨_, rfl, _, _, _, _, _, rfl, ClsV.ty _, ty2, kt2, _, rfl, ?_⟩
      refine ite2 (fun cs => ?_) (fun cs => ?_)
      · obtain ⟨x, rfl⟩ := TV.isS_iff.mp cs
        obtain ⟨rfl, okx⟩ := h2.str_of
        have dg : DGet H2 D (.str x) (valV ((wN ys L c).map fun y => ((Sum.inr y : Key), V.ref (ad y))) (Sum.inr x)) := DGet.k (k := Sum.inr x) hd
        rw [val_dct] at dg
        by_cases hx : x ∈ wN ys L c
        · rw [if_pos hx] at dg
          refine ⟨_, rfl, _, rfl, D, _, rfl, dg, true, rfl, ?_⟩
          refine iteT ?_
          refine ⟨_, rfl, _, rfl, D, _, rfl, dg, _, rfl, ad x, q, wV ys L c x, sl, 1800, rfl, hv x hx, hq, (zw x hx).mono (by decide), zs, by decide, by decide, fun H3 s3 => ?_⟩
          refine hQ H3 _ (s12.trans s3) ?_
          rw [decide_eq_true_eq]
          refine ⟨fun h => ⟨_, .part x, hx, h⟩, fun h => ?_⟩
          rcases h.inv with ⟨x', e, _, h⟩ | ⟨k, ws, _, e, _⟩
          · cases e; exact h
          · cases e
        · rw [if_neg hx] at dg
          refine ⟨_, rfl, _, rfl, D, _, rfl, dg, false, rfl, ?_⟩
          refine iteF ?_
          refine hQ H2 _ s12 ⟨fun h => (by cases h), fun h => ?_⟩
          rcases h.inv with ⟨x', e, h, _⟩ | ⟨k, ws, _, e, _⟩
          · cases e; exact absurd h hx
          · cases e
      · refine hQ H2 _ s12 ⟨fun h => (by cases h), fun h => ?_⟩
        rcases h.inv with ⟨x', e, h, _⟩ | ⟨k, ws, hk, e, _⟩
        · cases e; exact absurd rfl cs
        · cases e
          rcases hk with z | z <;> exact absurd z (by decide +kernel)
    have np : d1 ≠ .str "part" := fun z => cp (by rw [z]; rfl)
    refine ⟨_, rfl, _, rfl, u2, D, d2, t2, m, wN ys L c, _, rfl, h2, fun ds e => ok d1 ds (by rw [e]), hd, fun H3 z s3 hz => ⟨_, rfl, ?_⟩⟩
    refine ite2 (fun cz => ?_) (fun cz => ?_)
    · have zf : z = false := by
        cases z with
        | false => rfl
        | true => cases cz
      refine hQ H3 _ (s12.trans s3) ⟨fun h => (by cases h), fun h => ?_⟩
      rcases h.inv with ⟨x', e, _⟩ | ⟨k, ws, _, e, hris⟩
      · cases e; exact absurd rfl np
      · cases e
        have := hz.mpr hris
        rw [zf] at this
        cases this
    have zt : z = true := by
      cases z with
      | true => rfl
      | false => exact absurd rfl cz
    obtain ⟨ws, rfl, k1, k2, k3⟩ := hz.mp zt
    obtain ⟨t3, xs3, ts3, m3, rfl, ht3, hs3, rfl, rfl⟩ := h2.tup_of
    obtain ⟨rfl, oks⟩ := hs3.strs
    have l60 : ws.length < 60 := by
      have := ok d1 _ rfl
      rwa [List.length_map] at this
    have s13 := s12.trans s3
    have ain : AfIn C H3 D l t3 q (wN ys L c) ws (wV ys L c) ys sl := ⟨SD2.same s3, dy2.same s3, s3 _ _ ht3, hq.keep s3, fun x hx => (zw x hx).mono (by decide), zs, k2, by omega, I.ly⟩
    refine ⟨_, rfl, d1, t1, "few", m3 + 1, rfl, h1.same s3, _, rfl, ?_⟩
    refine ite2 (fun cf => ?_) (fun cf => ?_)
    · have e1 := TV.eqS_iff.mp cf
      subst e1
      refine ⟨_, rfl, _, rfl, _, rfl, _, rfl, D, l, t3, q, wN ys L c, ws, wV ys L c, ys, sl, rfl, ain, fun H4 s4 => ?_⟩
      refine hQ H4 _ (s13.trans s4) ?_
      rw [decide_eq_true_eq]
      refine ⟨fun h => ⟨_, .few ws, k1, k2, k3, h⟩, ?_⟩
      rintro ⟨p, i, b⟩
      generalize ey : PyData.tuple [.str "few", .tuple (ws.map .str)] = y0 at i
      cases i with
      | part x => cases ey
      | few ws' =>
        have : ws = ws' := strs_inj (by injection ey with ey; injection ey with _ ey; injection ey with ey _; injection ey)
        subst this
        exact b.2.2.2
      | crowd ws' =>
        injection ey with ey
        injection ey with ey _
        injection ey with ey
        exact absurd ey (by decide +kernel)
    refine ⟨_, rfl, d1, t1, "crowd", m3 + 1, rfl, h1.same s3, _, rfl, ?_⟩
    refine ite2 (fun cc => ?_) (fun cc => ?_)
    · have e1 := TV.eqS_iff.mp cc
      subst e1
      refine ⟨_, rfl, _, rfl, _, rfl, _, rfl, D, l, t3, q, wN ys L c, ws, wV ys L c, ys, sl, rfl, ain, fun H4 s4 => ?_⟩
      refine hQ H4 _ (s13.trans s4) ?_
      rw [decide_eq_true_eq]
      refine ⟨fun h => ⟨_, .crowd ws, k1, k2, k3, h⟩, ?_⟩
      rintro ⟨p, i, b⟩
      generalize ey : PyData.tuple [.str "crowd", .tuple (ws.map .str)] = y0 at i
      cases i with
      | part x => cases ey
      | crowd ws' =>
        have : ws = ws' := strs_inj (by injection ey with ey; injection ey with _ ey; injection ey with ey _; injection ey)
        subst this
        exact b.2.2.2
      | few ws' =>
        injection ey with ey
        injection ey with ey _
        injection ey with ey
        exact absurd ey (by decide +kernel)
    · refine hQ H3 _ s13 ⟨fun h => (by cases h), fun h => ?_⟩
      rcases h.inv with ⟨x', e, _⟩ | ⟨k, ws', hk, e, _⟩
      · cases e
      · have e1 : d1 = .str k := by injection e with e; injection e
        rcases hk with rfl | rfl
        · exact absurd (TV.eqS_iff.mpr e1) cf
        · exact absurd (TV.eqS_iff.mpr e1) cc
end
end K52
set_option Elab.async false
set_option linter.all false
set_option maxRecDepth 100000
set_option maxHeartbeats 4000000
namespace K52
open PySem PySem.Spec PyProof.Rows L2
open LamX (Tabs ExtN TabB CodeO)
open KM (pr Sz)
open SX (S)
/-! ### papers and rows as data -/
def papD : Pap → PyData
  | .part x => .tuple [.str "part", .str x]
  | .few ws => .tuple [.str "few", .tuple (ws.map .str)]
  | .crowd ws => .tuple [.str "crowd", .tuple (ws.map .str)]
theorem dp_pap {K : PySem.W.Frag} {H : Hp} {t : Addr} {p : Pap} (h : PapAt H t p) : Dp K H (.ref t) (papD p) := by
  cases p with
  | part x => exact Dp.tup (SqT.of h) (.cons (.str _) (.cons (.str _) .nil))
  | few ws => obtain ⟨t3, a, b⟩ := h; exact Dp.tup (SqT.of a) (.cons (.str _) (.cons (Dp.tup (SqT.of b) (dp_ss ws)) .nil))
  | crowd ws => obtain ⟨t3, a, b⟩ := h; exact Dp.tup (SqT.of a) (.cons (.str _) (.cons (Dp.tup (SqT.of b) (dp_ss ws)) .nil))
theorem dp_paps {K : PySem.W.Frag} {H : Hp} : ∀ {ps : List (Addr × Pap)}, (∀ p ∈ ps, PapAt H p.1 p.2 ∧ PapOk p.2) → DpAll K H (ps.map fun p => V.ref p.1) (ps.map fun p => papD p.2)
  | [], _ => .nil
  | p :: ps, h => .cons (dp_pap (h p List.mem_cons_self).1) (dp_paps fun q hq => h q (List.mem_cons_of_mem _ hq))
theorem sh_pap {p : Pap} (h : PapOk p) : PyData.canLay0 (papD p) = true ∧ (papD p).depth ≤ 2 := by
  have two : ∀ (k : Str) (ws : List Str), PyData.strOk k = true → (∀ x ∈ ws, PyData.strOk x = true) → PyData.canLay0 (.tuple [.str k, .tuple (ws.map .str)]) = true ∧ (PyData.tuple [.str k, .tuple (ws.map .str)]).depth ≤ 2 := fun k ws hk hw => by
    obtain ⟨a, b⟩ := sh_ss ws hw
    refine ⟨by simp [PyData.canLay0, PyData.canLayAll0, a, hk], ?_⟩
    simp only [PyData.depth, PyData.depthAll, b]
    omega
  cases p with
  | part x =>
    have hx : PyData.strOk x = true := h
    refine ⟨by simp [papD, PyData.canLay0, PyData.canLayAll0, hx, (by decide +kernel : PyData.strOk "part" = true)], ?_⟩
    simp only [papD, PyData.depth, PyData.depthAll]
    omega
  | few ws => exact two "few" ws (by decide +kernel) h.2
  | crowd ws => exact two "crowd" ws (by decide +kernel) h.2
theorem sh_paps : ∀ ps : List (Addr × Pap), (∀ p ∈ ps, PapOk p.2) → PyData.canLayAll0 (ps.map fun p => papD p.2) = true ∧ PyData.depthAll (ps.map fun p => papD p.2) ≤ 2
  | [], _ => ⟨rfl, by simp [PyData.depthAll]⟩
  | p :: ps, h => by
    obtain ⟨a, b⟩ := sh_paps ps fun y hy => h y (List.mem_cons_of_mem _ hy)
    obtain ⟨c, d⟩ := sh_pap (h p List.mem_cons_self)
    refine ⟨by simp [PyData.canLayAll0, a, c], ?_⟩
    simp only [List.map_cons, PyData.depthAll]
    omega
theorem shp_paps {ps : List (Addr × Pap)} (h : ∀ p ∈ ps, PapOk p.2) : SeqAt.shaped (.list (ps.map fun p => papD p.2)) = true := by
  obtain ⟨a, b⟩ := sh_paps ps h
  refine Bool.and_eq_true_iff.mpr ⟨by simp only [PyData.canLay0]; exact a, decide_eq_true ?_⟩
  simp only [PyData.depth]
  omega
/-- rows of names, in a list -/
def RwL (H : Hp) (o : Addr) (ps : List (Addr × List Str)) : Prop := H o = some (.lst (ps.map fun p => V.ref p.1)) ∧ ∀ p ∈ ps, H p.1 = some (.lst (p.2.map V.str))
theorem RwL.same {H H' : Hp} {o : Addr} {ps : List (Addr × List Str)} (h : RwL H o ps) (s : Same H H') : RwL H' o ps := ⟨s _ _ h.1, fun p hp => s _ _ (h.2 p hp)⟩
theorem dp_rw {K : PySem.W.Frag} {H : Hp} : ∀ {ps : List (Addr × List Str)}, (∀ p ∈ ps, H p.1 = some (.lst (p.2.map V.str))) → DpAll K H (ps.map fun p => V.ref p.1) (ps.map fun p => PyData.list (p.2.map .str))
  | [], _ => .nil
  | p :: ps, h => .cons (Dp.lst (SqL.of (h p List.mem_cons_self)) (dp_ss p.2)) (dp_rw fun q hq => h q (List.mem_cons_of_mem _ hq))
theorem sh_rw : ∀ qs : List (Addr × List Str), (∀ q ∈ qs, ∀ x ∈ q.2, PyData.strOk x = true) → PyData.canLayAll0 (qs.map fun q => PyData.list (q.2.map .str)) = true ∧ PyData.depthAll (qs.map fun q => PyData.list (q.2.map .str)) ≤ 1
  | [], _ => ⟨rfl, by simp [PyData.depthAll]⟩
  | q :: qs, h => by
    obtain ⟨a, b⟩ := sh_rw qs fun y hy => h y (List.mem_cons_of_mem _ hy)
    obtain ⟨c, d⟩ := sh_ss q.2 (h q List.mem_cons_self)
    refine ⟨by simp [PyData.canLayAll0, PyData.canLay0, a, c], ?_⟩
    simp only [List.map_cons, PyData.depthAll, PyData.depth, d]
    omega
theorem shp_rw {qs : List (Addr × List Str)} (h : ∀ q ∈ qs, ∀ x ∈ q.2, PyData.strOk x = true) : SeqAt.shaped (.list (qs.map fun q => PyData.list (q.2.map .str))) = true := by
  obtain ⟨a, b⟩ := sh_rw qs h
  refine Bool.and_eq_true_iff.mpr ⟨by simp only [PyData.canLay0]; exact a, decide_eq_true ?_⟩
  simp only [PyData.depth]
  omega
/-! ### what stands -/
theorem SDc.kp {C h D : Addr} {H H' : Hp} {n : Nat} {L : List Str} {c : Str → Rat} (t : SDc C H D L c) (k : Kp h H H') (x : Held H h n) (ne : D ≠ h) : SDc C H' D L c := by
  obtain ⟨ad, h1, h2⟩ := t
  refine ⟨ad, k.1 _ _ h1 ne, fun y hy => ?_⟩
  obtain ⟨dx, e⟩ := h2 y hy
  refine ⟨dx, k.1 _ _ e fun z => ?_⟩
  obtain ⟨l', ns, n', m', e1, _⟩ := x
  rw [z, e1] at e
  cases e
theorem Slk.kp {C h : Addr} {H H' : Hp} {n : Nat} {v : V} {s : Rat} (t : Slk C H v s) (k : Kp h H H') (x : Held H h n) : Slk C H' v s :=
  t.imp id fun ⟨p, a, dx, e⟩ => ⟨p, a, dx, k.1 _ _ e fun z => by
    obtain ⟨l', ns, n', m', e1, _⟩ := x
    rw [z, e1] at e
    cases e⟩
/-- the pen, the names, the days, what is due, the shares, the slack -/
structure Sw (K : PySem.W.Frag) (C : Addr) (H : Hp) (h nl o wd sd pt : Addr) (n : Nat) (xs : List Str) (ys : List Dy) (L : List Str) (cc : Str → Rat) (v : V) (s : Rat) : Prop where
  held : Held H h n
  tabs : Tabs (T0 K) H
  hn : H nl = some (.lst (xs.map V.str))
  dy : DyL H o ys
  cw : Cel h wd H
  w : TDc H wd (due ys L cc).1 (due ys L cc).2
  cs : Cel h sd H
  sh : SDc C H sd L cc
  p : H pt = some (tupP (pr s))
  sk : Slk C H v s
section
variable {K : PySem.W.Frag} {C : Addr} {H H' : Hp} {h nl o wd sd pt : Addr} {n n' : Nat} {xs : List Str} {ys : List Dy} {L : List Str} {cc : Str → Rat} {v : V} {s : Rat}
theorem Sw.kp (x : Sw K C H h nl o wd sd pt n xs ys L cc v s) (k : Kp h H H') (hh : Held H' h n') : Sw K C H' h nl o wd sd pt n' xs ys L cc v s :=
  ⟨hh, tabs_kp x.tabs k x.held, kp_lst k x.held _ _ x.hn, ⟨kp_lst k x.held _ _ x.dy.1, fun d hd => (x.dy.2 d hd).tup (kp_tup k x.held)⟩, x.cw.kp k, x.w.kp k x.held x.cw.ne, x.cs.kp k, x.sh.kp k x.held x.cs.ne, kp_tup k x.held _ _ x.p, x.sk.kp k x.held⟩
theorem Sw.same (x : Sw K C H h nl o wd sd pt n xs ys L cc v s) (e : Same H H') : Sw K C H' h nl o wd sd pt n xs ys L cc v s := x.kp (Kp.same e) (x.held.same e)
theorem Sw.ext (x : Sw K C H h nl o wd sd pt n xs ys L cc v s) (e : ExtN H H') (t : Tabs (T0 K) H') : Sw K C H' h nl o wd sd pt n xs ys L cc v s :=
  ⟨x.held.ext e, t, e _ _ x.hn (fun _ q => nomatch q), x.dy.ext e, x.cw.ext e, x.w.ext e, x.cs.ext e, x.sh.ext e, e _ _ x.p (fun _ q => nomatch q), x.sk.ext e⟩
theorem Sw.weak (x : Sw K C H h nl o wd sd pt n xs ys L cc v s) (l : n' ≤ n) : Sw K C H h nl o wd sd pt n' xs ys L cc v s := ⟨x.held.weak l, x.tabs, x.hn, x.dy, x.cw, x.w, x.cs, x.sh, x.p, x.sk⟩
theorem Sw.se (x : Sw K C H h nl o wd sd pt n xs ys L cc v s) (f : Cf xs ys L cc) (xl : xs.length ≤ 12) (zs : Sz 4 s) : SeIn K C H sd o v L cc ys s :=
  ⟨x.sh, f.nd, by have := few_of f.nd f.sub; omega, f.sz, f.s0, x.dy, by have := f.yl; omega, wN_len f.sub (fun y hy => (f.dm y hy).1) (by omega), x.sk, zs.mono (by decide), x.tabs⟩
theorem Sw.due_sz (x : Sw K C H h nl o wd sd pt n xs ys L cc v s) (f : Cf xs ys L cc) (xl : xs.length ≤ 12) : ∀ x ∈ (due ys L cc).1, Sz 1900 ((due ys L cc).2 x) :=
  K52.due_sz f.nd (by have := few_of f.nd f.sub; omega) f.sz x.dy.2 (by have := f.yl; omega)
end
theorem pap_ok {xs : List Str} {ys : List Dy} {L : List Str} {cc : Str → Rat} {s : Rat} {p : Pap} (b : Bars ys L cc s p) (f : Cf xs ys L cc) (xl : xs.length ≤ 12) (oks : ∀ x ∈ xs, PyData.strOk x = true) : PapOk p := by
  have sub : ∀ x ∈ wN ys L cc, x ∈ xs := fun x hx => mem_wN f.sub (fun y hy => (f.dm y hy).1) hx
  cases p with
  | part x => exact oks x (sub x b.1)
  | few ws =>
    have := few_of b.2.2.1.2 fun x hx => sub x (b.2.1 x hx)
    exact ⟨by omega, fun x hx => oks x (sub x (b.2.1 x hx))⟩
  | crowd ws =>
    have := few_of b.2.2.1.2 fun x hx => sub x (b.2.1 x hx)
    exact ⟨by omega, fun x hx => oks x (sub x (b.2.1 x hx))⟩
/-- what evened tells, what why_uneven tells -/
def Fo (H : Hp) (v : V) (ys : List Dy) (L : List Str) (cc : Str → Rat) (s : Rat) : Prop :=
  (v = .non ∧ NoEv ys L cc s) ∨ ∃ (rr : Addr) (fs : List Str), v = .ref rr ∧ H rr = some (.lst (fs.map V.str)) ∧ Ev ys L cc s fs
def Po (H : Hp) (v : V) (ys : List Dy) (L : List Str) (cc : Str → Rat) (s : Rat) : Prop :=
  (v = .non ∧ ∃ ds, Ev ys L cc s ds) ∨ ∃ (t : Addr) (p : Pap), v = .ref t ∧ PapAt H t p ∧ Bars ys L cc s p
theorem Fo.ext {H H' : Hp} {v : V} {ys : List Dy} {L : List Str} {cc : Str → Rat} {s : Rat} (x : Fo H v ys L cc s) (e : ExtN H H') : Fo H' v ys L cc s :=
  x.imp id fun ⟨rr, fs, a, b, c⟩ => ⟨rr, fs, a, e _ _ b (fun _ q => nomatch q), c⟩
section
variable {P : Program} {w : World} {K : PySem.W.Frag} {mg : Str → Option Value} {base : Heap} {f C : Addr} {fd : FuncData}
def spWuU (K : PySem.W.Frag) (C : Addr) : Sp := fun vs H Q _ => ∃ (d l : Addr) (v : V) (L : List Str) (c : Str → Rat) (ys : List Dy) (s : Rat), vs = [.ref d, .ref l, v] ∧ SeIn K C H d l v L c ys s ∧
  ∀ (u : V) (H' : Hp), ExtN H H' → Tabs (T0 K) H' → Po H' u ys L c s → Q u H'
theorem wuU (F : FnOk P w K mg base CX0 9 f fd ["standing", "days", "slack"] (spWu K C)) : FnOk P w K mg base CX0 9 f fd ["standing", "days", "slack"] (spWuU K C) :=
  F.imp fun vs H Q E ⟨d, l, v, L, c, ys, s, e, I, h⟩ => ⟨d, l, v, L, c, ys, s, e, I, fun ds H' e t n => h _ H' e t (.inl ⟨rfl, ds, n⟩), fun r p H' e t hr b => h _ H' e t (.inr ⟨r, p, rfl, hr, b⟩)⟩
end
end K52
set_option Elab.async false
set_option linter.all false
set_option maxRecDepth 100000
set_option maxHeartbeats 4000000
namespace K52
open PySem PySem.Spec PyProof.Rows L2
open C8 (Cal Mak Met pe_c pe_mk pe_mt pe_mt0)
open KM (pr Sz)
/-- a paper bars, of any wants -/
def BarsG (ys : List Dy) (W : List Str) (v : Str → Rat) (s : Rat) : Pap → Prop
  | .part x => x ∈ W ∧ wh (v x + s) < lst (v x) s
  | .few ws => ws ≠ [] ∧ (∀ x ∈ ws, x ∈ W) ∧ (ws.Pairwise SRT.leS ∧ ws.Nodup) ∧ ((FW.opn (abl ys) ws : Nat) : Int) < (ws.map fun x => lst (v x) s).sum
  | .crowd ws => ws ≠ [] ∧ (∀ x ∈ ws, x ∈ W) ∧ (ws.Pairwise SRT.leS ∧ ws.Nodup) ∧ (ws.map fun x => mst (v x) s).sum < ((FW.own (abl ys) ws : Nat) : Int)
theorem bars_due {ys : List Dy} {L : List Str} {c : Str → Rat} {s : Rat} {p : Pap} (nd : L.Nodup) : BarsG ys (due ys L c).1 (due ys L c).2 s p ↔ Bars ys L c s p := by
  have ev : ∀ x ∈ (due ys L c).1, wV ys L c x = (due ys L c).2 x := fun x hx => wnt_val nd hx
  have em : ∀ x, x ∈ wN ys L c ↔ x ∈ (due ys L c).1 := fun x => mem_both x
  have es : ∀ (ws : List Str) (g : Rat → Int), (∀ x ∈ ws, x ∈ (due ys L c).1) → (ws.map fun x => g ((due ys L c).2 x)) = ws.map fun x => g (wV ys L c x) := fun ws g h => List.map_congr_left fun x hx => by rw [ev x (h x hx)]
  cases p with
  | part x =>
    show x ∈ (due ys L c).1 ∧ _ ↔ x ∈ wN ys L c ∧ _
    constructor
    · rintro ⟨h1, h2⟩
      exact ⟨(em x).mpr h1, by rw [ev x h1]; exact h2⟩
    · rintro ⟨h1, h2⟩
      have h1 := (em x).mp h1
      exact ⟨h1, by rw [← ev x h1]; exact h2⟩
  | few ws =>
    constructor
    · rintro ⟨h0, h1, h2, h3⟩
      refine ⟨h0, fun x hx => (em x).mpr (h1 x hx), h2, ?_⟩
      rw [es ws (fun w => lst w s) h1] at h3
      exact h3
    · rintro ⟨h0, h1, h2, h3⟩
      have h1 := fun x hx => (em x).mp (h1 x hx)
      refine ⟨h0, h1, h2, ?_⟩
      rw [es ws (fun w => lst w s) h1]
      exact h3
  | crowd ws =>
    constructor
    · rintro ⟨h0, h1, h2, h3⟩
      refine ⟨h0, fun x hx => (em x).mpr (h1 x hx), h2, ?_⟩
      rw [es ws (fun w => mst w s) h1] at h3
      exact h3
    · rintro ⟨h0, h1, h2, h3⟩
      have h1 := fun x hx => (em x).mp (h1 x hx)
      refine ⟨h0, h1, h2, ?_⟩
      rw [es ws (fun w => mst w s) h1]
      exact h3
theorem eqv_tnil (ds : List PyData) : PyData.eqv (.tuple ds) (.tuple []) = ds.isEmpty := by cases ds <;> simp [PyData.eqv, PyData.eqvAll]
theorem eqv_nilE (ds : List PyData) : PyData.eqv (.list ds) (.list []) = ds.isEmpty := by cases ds <;> simp [PyData.eqv, PyData.eqvAll]
theorem shp_st {I : List Str} (h : ∀ x ∈ I, PyData.strOk x = true) : SeqAt.shaped (.tuple (I.map PyData.str)) = true := by
  obtain ⟨a, b⟩ := sh_ss I h
  refine Bool.and_eq_true_iff.mpr ⟨by simp only [PyData.canLay0]; exact a, decide_eq_true ?_⟩
  simp only [PyData.depth]
  omega
theorem ise_any {B ws : List Str} : (!((B.filter fun n => decide (n ∈ ws)).map PyData.str).isEmpty) = (B.any fun n => decide (n ∈ ws)) := by
  rw [Bool.eq_iff_iff, List.any_eq_true]
  constructor
  · intro h
    cases q : B.filter fun n => decide (n ∈ ws) with
    | nil => rw [q] at h; cases h
    | cons a b =>
      have : a ∈ B.filter fun n => decide (n ∈ ws) := by rw [q]; exact List.mem_cons_self
      exact ⟨a, List.mem_filter.mp this⟩
  · rintro ⟨x, h1, h2⟩
    have : x ∈ B.filter fun n => decide (n ∈ ws) := List.mem_filter.mpr ⟨h1, h2⟩
    cases q : B.filter fun n => decide (n ∈ ws) with
    | nil => rw [q] at this; cases this
    | cons a b => rfl
theorem ise_all {B ws : List Str} : ((B.filter fun n => decide (n ∉ ws)).map PyData.str).isEmpty = (B.all fun n => decide (n ∈ ws)) := by
  rw [Bool.eq_iff_iff, List.all_eq_true, List.isEmpty_iff, List.map_eq_nil_iff, List.filter_eq_nil_iff]
  constructor
  · intro h x hx
    have := h x hx
    simpa using this
  · intro h x hx
    have := h x hx
    simpa using this
theorem mst_eq (w s : Rat) : (if 0 < wh (w + s) then wh (w + s) else 0) = mst w s := rfl
section
variable {P : Program} {w : World} {K : PySem.W.Frag} {mg : Str → Option Value} {base : Heap} {f C : Addr} {fd : FuncData}
def spEn : Sp := fun vs H Q _ => ∃ (a b : Addr) (u s : Rat), vs = [.ref a, .ref b] ∧ H a = some (tupP (pr u)) ∧ H b = some (tupP (pr s)) ∧ Sz 1900 u ∧ Sz 100 s ∧
  ∀ (t : Addr) (H' : Hp), Same H H' → H' t = some (.tup [.int (lst u s), .int (wh (u + s))]) → Q (.ref t) H'
theorem ok_en (F : Dn K d_l_ends f fd) (bmx : mg "max" = none) (cA : Cal P w K mg base 2 "_law_add" spAdd []) : FnOk P w K mg base CX0 3 f fd ["_law_want", "_law_width"] spEn := by
  refine F.ok sc_l_ends (fun vs H Q E h => ?_) (fun cdv A outer s H vs Q E hr h => ?_)
  · obtain ⟨_, _, _, _, rfl, _⟩ := h
    rfl
  · obtain ⟨a, b, u, sl, rfl, ha, hb, zu, zs, hQ⟩ := h
    have l2 : 2 ≤ sizeLine := by decide
    refine ⟨_, PSs.nox (C8.pss_cut (ps_set (i := 2) sc_l_ends.nd rfl (.inl rfl) (pe_c cA hr (by decide) rfl (pa_cons (pv 0) (pa_cons (pe_tup (pa_cons (pe_op op_sub pe_int (pe_ix ix_tup (pv 1) pe_int (fun _ _ => rfl))) (pa_cons (pe_ix ix_tup (pv 1) pe_int (fun _ _ => rfl)) pa_nil))) pa_nil))))
      (C8.pss_cut (ps_set (i := 3) sc_l_ends.nd rfl (.inl rfl) (pe_c cA hr (by decide) rfl (pa_cons (pv 0) (pa_cons (pv 1) pa_nil))))
      (pss_one (ps_ret (pe_tup (pa_cons (pe_callB (call_max2 rfl) rfl bmx boot_max (pa_cons pe_int (pa_cons (pe_op op_sub pe_int (pe_op op_fdW (pe_op op_sub pe_int (pe_ix ix_tup (pv 2) pe_int (fun _ _ => rfl))) (pe_ix ix_tup (pv 2) pe_int (fun _ _ => rfl)))) pa_nil)))
        (pa_cons (pe_op op_fdW (pe_ix ix_tup (pv 3) pe_int (fun _ _ => rfl)) (pe_ix ix_tup (pv 3) pe_int (fun _ _ => rfl))) pa_nil))))))), ?_⟩
    have zs' := zs.mono (show 100 ≤ 1900 by decide)
    refine ⟨fun σ' H' => ∃ q : Addr, σ' = [some (.ref a), some (.ref b), some (.ref q), none] ∧ Same H H' ∧ H' q = some (tupP (pr (u + -sl))), ?_, ?_⟩
    · refine ⟨_, rfl, _, rfl, b, _, _, _, rfl, rfl, SqT.of hb, at0, _, _, rfl, rfl, _, rfl, b, _, _, _, rfl, rfl, SqT.of hb, at1, l2, fun g fg => ?_⟩
      have sg := same_new (o := .tup [.int (0 - (pr sl).1), .int (pr sl).2]) fg
      have hg : (upd H g (.tup [.int (0 - (pr sl).1), .int (pr sl).2])) g = some (tupP (pr (-sl))) := by
        rw [upd_same, ← pr_neg]
        rfl
      have ha1 := sg _ _ ha
      generalize upd H g (.tup [.int (0 - (pr sl).1), .int (pr sl).2]) = H1 at sg hg ha1 ⊢
      refine ⟨a, g, _, _, 1900, rfl, ha1, hg, ⟨bd_of zu, bd_of (sz_neg zs'), by decide, by decide⟩, fun q fq => ?_⟩
      rw [KM.pr_plus]
      exact ⟨q, rfl, sg.trans (same_new (o := tupP (pr (u + -sl))) fq), upd_same⟩
    rintro σ' H1 ⟨q, rfl, s1, hq⟩
    refine ⟨fun σ' H' => ∃ q2 : Addr, σ' = [some (.ref a), some (.ref b), some (.ref q), some (.ref q2)] ∧ Same H1 H' ∧ H' q2 = some (tupP (pr (u + sl))), ?_, ?_⟩
    · refine ⟨_, rfl, _, rfl, a, b, _, _, 1900, rfl, s1 _ _ ha, s1 _ _ hb, ⟨bd_of zu, bd_of zs', by decide, by decide⟩, fun q2 fq => ?_⟩
      rw [KM.pr_plus]
      exact ⟨q2, rfl, same_new (o := tupP (pr (u + sl))) fq, upd_same⟩
    rintro σ' H2 ⟨q2, rfl, s2, hq2⟩
    have zl := (sz2 zu (sz_neg zs')).1
    have zh := (sz2 zu zs').1
    have bl := bd_of zl
    have bh := bd_of zh
    have hq' := s2 _ _ hq
    refine ⟨_, rfl, q, _, _, _, rfl, rfl, SqT.of hq', at0, _, _, rfl, rfl, _, rfl, q, _, _, _, rfl, rfl, SqT.of hq', at1, _, _, rfl, rfl, ⟨by have := bl.2.1; omega, log_lt bl.2.2 (by decide) (by decide)⟩, _, _, rfl, rfl, _, _, rfl, ?_⟩
    refine ⟨_, rfl, q2, _, _, _, rfl, rfl, SqT.of hq2, at0, _, rfl, q2, _, _, _, rfl, rfl, SqT.of hq2, at1, _, _, rfl, rfl, ⟨by have := bh.2.1; omega, log_lt bh.2.2 (by decide) (by decide)⟩, l2, fun t ft => ?_⟩
    have e1 : (0 - (pr (u + -sl)).1).fdiv (pr (u + -sl)).2 = wh (sl - u) := by
      have e := pr_neg (u + -sl)
      have e3 : -(u + -sl) = sl - u := by grind
      rw [e3] at e
      unfold wh
      rw [← e]
    have e2 : (if (0 : Int) < 0 - (0 - (pr (u + -sl)).1).fdiv (pr (u + -sl)).2 then 0 - (0 - (pr (u + -sl)).1).fdiv (pr (u + -sl)).2 else 0) = lst u sl := by
      rw [e1]
      unfold lst
      rw [Int.zero_sub]
    refine hQ t _ ((s1.trans s2).trans (same_new ft)) ?_
    rw [upd_same, ← e2]
    rfl
/-- the law's own look at a paper -/
def BarsF (ys : List Dy) (W : List Str) (v : Str → Rat) (s : Rat) (y : PyData) : Prop := ∃ p, IsPap y p ∧ BarsG ys W v s p
theorem BarsF.inv {ys : List Dy} {W : List Str} {v : Str → Rat} {s : Rat} {y : PyData} (h : BarsF ys W v s y) : (∃ x, y = .tuple [.str "part", .str x] ∧ x ∈ W ∧ wh (v x + s) < lst (v x) s) ∨
    ∃ (k : Str) (ws : List Str), (k = "few" ∨ k = "crowd") ∧ y = .tuple [.str k, .tuple (ws.map .str)] ∧ ws ≠ [] ∧ (∀ x ∈ ws, x ∈ W) ∧ ws.Pairwise SRT.leS ∧ ws.Nodup := by
  obtain ⟨p, i, b⟩ := h
  cases i with
  | part x => exact .inl ⟨x, rfl, b⟩
  | few ws => exact .inr ⟨_, ws, .inl rfl, rfl, b.1, b.2.1, b.2.2.1⟩
  | crowd ws => exact .inr ⟨_, ws, .inr rfl, rfl, b.1, b.2.1, b.2.2.1⟩
theorem barsF_due {ys : List Dy} {L : List Str} {c : Str → Rat} {s : Rat} {y : PyData} (nd : L.Nodup) : BarsF ys (due ys L c).1 (due ys L c).2 s y ↔ BarsE ys L c s y :=
  ⟨fun ⟨p, i, b⟩ => ⟨p, i, (bars_due nd).mp b⟩, fun ⟨p, i, b⟩ => ⟨p, i, (bars_due nd).mpr b⟩⟩
theorem barsF_few {ys : List Dy} {W : List Str} {v : Str → Rat} {s : Rat} {ws : List Str} (h : BarsF ys W v s (.tuple [.str "few", .tuple (ws.map .str)])) : BarsG ys W v s (.few ws) := by
  obtain ⟨p, i, b⟩ := h
  generalize ey : PyData.tuple [.str "few", .tuple (ws.map .str)] = y0 at i
  cases i with
  | part x => cases ey
  | few ws' =>
    have : ws = ws' := strs_inj (by injection ey with ey; injection ey with _ ey; injection ey with ey _; injection ey)
    subst this
    exact b
  | crowd ws' =>
    injection ey with ey
    injection ey with ey _
    injection ey with ey
    exact absurd ey (by decide +kernel)
theorem barsF_crowd {ys : List Dy} {W : List Str} {v : Str → Rat} {s : Rat} {ws : List Str} (h : BarsF ys W v s (.tuple [.str "crowd", .tuple (ws.map .str)])) : BarsG ys W v s (.crowd ws) := by
  obtain ⟨p, i, b⟩ := h
  generalize ey : PyData.tuple [.str "crowd", .tuple (ws.map .str)] = y0 at i
  cases i with
  | part x => cases ey
  | crowd ws' =>
    have : ws = ws' := strs_inj (by injection ey with ey; injection ey with _ ey; injection ey with ey _; injection ey)
    subst this
    exact b
  | few ws' =>
    injection ey with ey
    injection ey with ey _
    injection ey with ey
    exact absurd ey (by decide +kernel)
theorem eqL_nil {X : Cx} {H : Hp} {zs : List V} : EQB.EqL X H zs [] zs.isEmpty := by
  cases zs with
  | nil => exact EQB.EqL.all (e := fun _ => true) rfl fun i x y h _ => by cases h
  | cons z zs => exact EQB.EqL.len (by simp)
def spBa : Sp := fun vs H Q _ => ∃ (wd l pt : Addr) (u : V) (W : List Str) (v : Str → Rat) (ys : List Dy) (s : Rat) (y : PyData) (tx : Str) (n : Nat), vs = [.ref wd, .ref l, .ref pt, u] ∧ TDc H wd W v ∧ DyL H l ys ∧ H pt = some (tupP (pr s)) ∧ TV.Tv H u y tx n ∧ Lk y ∧ (∀ x ∈ W, Sz 1900 (v x)) ∧ Sz 100 s ∧ ys.length ≤ 60 ∧ (∀ y ∈ ys, ∀ x ∈ y.B, PyData.strOk x = true) ∧
  ∀ (H' : Hp) (z : Bool), Same H H' → (z = true ↔ BarsF ys W v s y) → Q (.bl z) H'
theorem ok_ba (F : Dn K d_l_bars f fd) (b : Bl mg) (bt : mg "tuple" = none) (bs : mg "str" = none) (bso : mg "sorted" = none) (bset : mg "set" = none) (bsum : mg "sum" = none) (bmx : mg "max" = none) (cEn : Cal P w K mg base 3 "_law_ends" spEn []) :
    FnOk P w K mg base CX0 4 f fd ["_law_wants_here", "_law_days", "_law_width", "_law_thing"] spBa := by
  refine F.ok sc_l_bars (fun vs H Q E h => ?_) (fun cdv A outer s H vs Q E hr h => ?_)
  · obtain ⟨_, _, _, _, _, _, _, _, _, _, _, rfl, _⟩ := h
    rfl
  · obtain ⟨wd, l, pt, u, W, v, ys, sl, y, tx, n, rfl, Tw, hD, hpt, hp, ok, zv, zs, y60, okB, hQ⟩ := h
    have hu := hu_of hr
    have hu64 : (A.deeper (envOfC d_l_bars.qual d_l_bars.scope s.heap.objs.size f cdv)).units + 64 < cLine := by have := hr.un; omega
    have hu65 : (A.deeper (envOfC d_l_bars.qual d_l_bars.scope s.heap.objs.size f cdv)).units + 65 < cLine := by have := hr.un; omega
    have l2 : 2 ≤ sizeLine := by decide
    refine ⟨_, PSs.nox (pss_cons (ps_if (PW.pt (pw_or (pt_not (pt_val (pe_callB call_isi rfl b.isi boot_isinstance (pa_cons (pv 3) (pa_cons (pe_bltn (v := .ty "tuple") rfl bt boot_tuple rfl) pa_nil)))))
          (pw_or (pt_cmpR op_ne (pe_callB TI.call_lenK rfl b.len boot_len (pa_cons (pv 3) pa_nil)) pe_int (nomark _)) (pw_or1 (pt_not (pt_val (pe_callB call_isi rfl b.isi boot_isinstance (pa_cons (pe_ix ix_tup (pv 3) pe_int (fun _ _ => rfl)) (pa_cons (pe_bltn (v := .ty "str") rfl bs boot_str rfl) pa_nil))))))))) (pss_one (ps_ret pe_bl)) pss_nil)
      (pss_cons (ps_if (pt_cmpR (TV.op_eqS hu65) (pe_ix ix_tup (pv 3) pe_int (fun _ _ => rfl)) pe_str (nomark _))
        (pss_cons (ps_if (PW.pt (pw_or (pt_not (pt_val (pe_callB call_isi rfl b.isi boot_isinstance (pa_cons (pe_ix ix_tup (pv 3) pe_int (fun _ _ => rfl)) (pa_cons (pe_bltn (v := .ty "str") rfl bs boot_str rfl) pa_nil))))) (pw_or1 (pt_cmp (pc_dnotin hu (pe_ix ix_tup (pv 3) pe_int (fun _ _ => rfl)) (pv 0)))))) (pss_one (ps_ret pe_bl)) pss_nil)
        (pss_cons (ps_asg (pe_c cEn hr (by decide) rfl (pa_cons (pe_dget hu (pv 0) (pe_ix ix_tup (pv 3) pe_int (fun _ _ => rfl)) (fun _ _ => rfl)) (pa_cons (pv 2) pa_nil))) (pg_tup rfl (pgs_cons (pg_name (i := 4) sc_l_bars.nd rfl (.inl rfl)) (pgs_cons (pg_name (i := 5) sc_l_bars.nd rfl (.inl rfl)) pgs_nil))))
        (pss_one (ps_ret (pe_cmpR op_gt (pv 4) (pv 5) (nomark _)))))) pss_nil)
      (pss_cons (ps_set (i := 6) sc_l_bars.nd rfl (.inr rfl) (pe_ix ix_tup (pv 3) pe_int (fun _ _ => rfl)))
      (pss_cons (ps_if (PW.pt (pw_or (pt_cmpR op_notIn_seq (pe_ix ix_tup (pv 3) pe_int (fun _ _ => rfl)) (pe_tup (pa_cons pe_str (pa_cons pe_str pa_nil))) (by rfl)) (pw_or (pt_not (pt_val (pe_callB call_isi rfl b.isi boot_isinstance (pa_cons (pv 6) (pa_cons (pe_bltn (v := .ty "tuple") rfl bt boot_tuple rfl) pa_nil)))))
          (pw_or1 (pt_cmpR (TV.op_eqT0 hu65) (pv 6) (pe_tup pa_nil) (nomark _)))))) (pss_one (ps_ret pe_bl)) pss_nil)
      (pss_cons (ps_if (pt_cmpR (EQB.op_neL hu65) (pe_lc (own := [("_law_name", 10)]) (g := gName 10) rfl sc_l_bars.nd (pi_tup (pv 6)) (blkOk_by (N := N_l_bars) (sc := defScope s_l_bars) (by decide +kernel))
          (fun _ _ _ _ _ => pg_name (i := 10) sc_l_bars.nd rfl (Or.inl rfl)) (fun _ _ _ _ _ => pts_one (PW.pt (pw_or (pt_not (pt_val (pe_callB (r := rIsi K) call_isi rfl b.isi boot_isinstance (pa_cons (pv 10) (pa_cons (pe_bltn (v := .ty "str") rfl bs boot_str rfl) pa_nil))))) (pw_or1 (pt_cmp (pc_dnotin hu (pv 10) (pv 0))))))) (fun _ _ _ _ _ => pv 10)) (pe_lst pa_nil) (nomark _)) (pss_one (ps_ret pe_bl)) pss_nil)
      (pss_cons (ps_if (pt_cmpR (op_neD hu64) (pe_callTy call_list_of rfl b.list boot_list (pa_cons (pv 6) pa_nil)) (SST.pe_sortedSet rfl hu64 rfl bso rfl bset (pv 6)) (nomark _)) (pss_one (ps_ret pe_bl)) pss_nil)
      (C8.pss_cut (ps_setLc (i := 7) (own := [("_law_name", 10)]) (g := gName 10) (tt := tYes) rfl sc_l_bars.nd rfl rfl (sw_true rfl rfl rfl (by decide +kernel)) (pi_tup (pv 6)) (blkOk_by (N := N_l_bars) (sc := defScope s_l_bars) (by decide +kernel))
          (fun _ _ _ _ _ => pg_name (i := 10) sc_l_bars.nd rfl (Or.inl rfl)) (fun _ _ _ _ _ => pts_nil) (fun _ _ _ _ _ => pe_c cEn hr (by decide) rfl (pa_cons (pe_dget hu (pv 0) (pv 10) (fun _ _ => rfl)) (pa_cons (pv 2) pa_nil))))
      (pss_cons (ps_if (pt_cmpR op_eq (pe_ix ix_tup (pv 3) pe_int (fun _ _ => rfl)) pe_str (nomark _))
        (C8.pss_cut (ps_setLc (i := 8) (own := [("_law_riders", 11), ("_law_able", 12)]) (g := gTup K 2 (gCons (gName 11) (gCons (gName 12) gNil))) (tt := tTest (tOp (rNeD K) (tLc (iTup K (tVar 12)) (gName 10) (tTest (tOp (rIn K false) (tVar 10) (tVar 6))) (tVar 10) [10]) (tLst tNil))) rfl sc_l_bars.nd rfl rfl (sw_true rfl rfl rfl (by decide +kernel)) (pi_list (pv 1)) (blkOk_by (N := N_l_bars) (sc := defScope s_l_bars) (by decide +kernel))
            (fun _ _ _ _ _ => pg_tup rfl (pgs_cons (pg_name (i := 11) sc_l_bars.nd rfl (.inl rfl)) (pgs_cons (pg_name (i := 12) sc_l_bars.nd rfl (.inl rfl)) pgs_nil)))
            (fun _ _ _ _ _ => pts_one (pt_cmpR (op_neD hu64) (pe_lc (own := [("_law_name", 10)]) (g := gName 10) (tt := tTest (tOp (rIn K false) (tVar 10) (tVar 6))) rfl sc_l_bars.nd (pi_tup (pv 12)) (blkOk_by (N := N_l_bars) (sc := { kind := .function, names := [((".0" : Str), .local), ("_law_riders", .local), ("_law_able", .local), ("_law_names_here", .cell)], isGenerator := false, isCoroutine := false }) (by decide +kernel))
                (fun _ _ _ _ _ => pg_name (i := 10) sc_l_bars.nd rfl (.inl rfl)) (fun _ _ _ _ _ => pts_one (pt_cmpR op_in_seq (pv 10) (pv 6) (by rfl))) (fun _ _ _ _ _ => pv 10)) (pe_lst pa_nil) (nomark _)))
            (fun _ _ _ _ _ => pv 12))
        (pss_one (ps_ret (pe_cmpR op_gt (pe_callB (cr_sum rfl) rfl bsum boot_sum (pa_cons (pe_lc (own := [("_law_least", 4), ("_law_most", 5)]) (g := gTup K 2 (gCons (gName 4) (gCons (gName 5) gNil))) (tt := tYes) rfl sc_l_bars.nd (pi_list (pv 7)) (blkOk_by (N := N_l_bars) (sc := defScope s_l_bars) (by decide +kernel))
            (fun _ _ _ _ _ => pg_tup rfl (pgs_cons (pg_name (i := 4) sc_l_bars.nd rfl (.inl rfl)) (pgs_cons (pg_name (i := 5) sc_l_bars.nd rfl (.inl rfl)) pgs_nil))) (fun _ _ _ _ _ => pts_nil) (fun _ _ _ _ _ => pv 4)) pa_nil)) (pe_callB call_len_seq rfl b.len boot_len (pa_cons (pv 8) pa_nil)) (nomark _))))) pss_nil)
      (C8.pss_cut (ps_setLc (i := 9) (own := [("_law_riders", 11), ("_law_able", 12)]) (g := gTup K 2 (gCons (gName 11) (gCons (gName 12) gNil))) (tt := tTest (tOp (rEqD K) (tLc (iTup K (tVar 12)) (gName 10) (tTest (tOp (rIn K true) (tVar 10) (tVar 6))) (tVar 10) [10]) (tLst tNil))) rfl sc_l_bars.nd rfl rfl (sw_true rfl rfl rfl (by decide +kernel)) (pi_list (pv 1)) (blkOk_by (N := N_l_bars) (sc := defScope s_l_bars) (by decide +kernel))
            (fun _ _ _ _ _ => pg_tup rfl (pgs_cons (pg_name (i := 11) sc_l_bars.nd rfl (.inl rfl)) (pgs_cons (pg_name (i := 12) sc_l_bars.nd rfl (.inl rfl)) pgs_nil)))
            (fun _ _ _ _ _ => pts_one (pt_cmpR (op_eqD hu64) (pe_lc (own := [("_law_name", 10)]) (g := gName 10) (tt := tTest (tOp (rIn K true) (tVar 10) (tVar 6))) rfl sc_l_bars.nd (pi_tup (pv 12)) (blkOk_by (N := N_l_bars) (sc := { kind := .function, names := [((".0" : Str), .local), ("_law_riders", .local), ("_law_able", .local), ("_law_names_here", .cell)], isGenerator := false, isCoroutine := false }) (by decide +kernel))
                (fun _ _ _ _ _ => pg_name (i := 10) sc_l_bars.nd rfl (.inl rfl)) (fun _ _ _ _ _ => pts_one (pt_cmpR op_notIn_seq (pv 10) (pv 6) (by rfl))) (fun _ _ _ _ _ => pv 10)) (pe_lst pa_nil) (nomark _)))
            (fun _ _ _ _ _ => pv 12))
      (pss_one (ps_ret (pe_cmpR op_lt (pe_callB (cr_sum rfl) rfl bsum boot_sum (pa_cons (pe_lc (own := [("_law_least", 4), ("_law_most", 5)]) (g := gTup K 2 (gCons (gName 4) (gCons (gName 5) gNil))) (tt := tYes) rfl sc_l_bars.nd (pi_list (pv 7)) (blkOk_by (N := N_l_bars) (sc := defScope s_l_bars) (by decide +kernel))
            (fun _ _ _ _ _ => pg_tup rfl (pgs_cons (pg_name (i := 4) sc_l_bars.nd rfl (.inl rfl)) (pgs_cons (pg_name (i := 5) sc_l_bars.nd rfl (.inl rfl)) pgs_nil))) (fun _ _ _ _ _ => pts_nil) (fun _ _ _ _ _ => pe_callB (call_max2 rfl) rfl bmx boot_max (pa_cons pe_int (pa_cons (pv 5) pa_nil)))) pa_nil)) (pe_callB call_len_seq rfl b.len boot_len (pa_cons (pv 9) pa_nil)) (nomark _))))))))))))), ?_⟩
    have line : ∀ {n : Nat}, n ≤ 60 → n < sizeLine := fun {n} h => Nat.lt_of_le_of_lt h (by decide)
    have la : (abl ys).length = ys.length := List.length_map _
    obtain ⟨aw, hw, hwv⟩ := id Tw
    have dgW : ∀ (H' : Hp) (x : Str), Same H H' → DGet H' wd (.str x) (if x ∈ W then some (.ref (aw x)) else none) := fun H' x sm => by
      have := DGet.k (k := Sum.inr x) (sm _ _ hw)
      rw [val_dct] at this
      exact this
    obtain ⟨T0, ty0, kt0⟩ := hp.tyT (K := K)
    refine ⟨_, rfl, _, _, _, _, _, rfl, ClsV.ty _, ty0, kt0, _, rfl, ?_⟩
    refine ite2 (fun c0 => ?_) (fun c0 => ?_)
    · refine hQ H false (Same.refl _) ⟨fun z => (by cases z), fun z => ?_⟩
      rcases z.inv with ⟨x, rfl, _⟩ | ⟨k, ws, _, rfl, _⟩ <;> cases c0
    obtain ⟨ds, rfl⟩ : ∃ ds, y = .tuple ds := TV.isT_iff.mp (by
      cases q : TV.isT y with
      | true => rfl
      | false => rw [q] at c0; exact absurd rfl c0)
    obtain ⟨t, xs, ts, m, rfl, ht, hs, rfl, rfl⟩ := hp.tup_of
    obtain ⟨lx, _⟩ := hs.len
    refine ⟨_, rfl, t, _, rfl, .inr (SqT.of ht), rfl, _, rfl, ?_⟩
    refine ite2 (fun c1 => ?_) (fun c1 => ?_)
    · have n2 : ¬ ds.length = 2 := fun z => by
        rw [lx, z] at c1
        exact absurd c1 (by decide)
      refine hQ H false (Same.refl _) ⟨fun z => (by cases z), fun z => ?_⟩
      rcases z.inv with ⟨x, e, _⟩ | ⟨k, ws, _, e, _⟩ <;> cases e <;> exact absurd rfl n2
    have l2' : ds.length = 2 := by
      refine Classical.byContradiction fun z => c1 ?_
      rw [lx]
      simp
      omega
    obtain ⟨d1, d2, rfl⟩ : ∃ d1 d2, ds = [d1, d2] := by
      match ds, l2' with
      | [d1, d2], _ => exact ⟨d1, d2, rfl⟩
    obtain ⟨u1, t1, u2, t2, rfl, h1, h2⟩ : ∃ u1 t1 u2 t2, xs = [u1, u2] ∧ TV.Tv H u1 d1 t1 m ∧ TV.Tv H u2 d2 t2 m := by
      cases hs with
      | cons a b =>
        cases b with
        | cons b c => cases c; exact ⟨_, _, _, _, rfl, a, b⟩
    obtain ⟨T1, ty1, kt1⟩ := h1.tyS (K := K)
    refine ⟨_, rfl, t, _, _, _, rfl, rfl, SqT.of ht, rfl, _, _, _, _, _, rfl, ClsV.ty _, ty1, kt1, _, rfl, ?_⟩
    refine ite2 (fun c2 => ?_) (fun c2 => ?_)
    · refine hQ H false (Same.refl _) ⟨fun z => (by cases z), fun z => ?_⟩
      rcases z.inv with ⟨x, e, _⟩ | ⟨k, ws, _, e, _⟩ <;> cases e <;> cases c2
    obtain ⟨k, rfl⟩ : ∃ k, d1 = .str k := TV.isS_iff.mp (by
      cases q : TV.isS d1 with
      | true => rfl
      | false => rw [q] at c2; exact absurd rfl c2)
    obtain ⟨rfl, okk⟩ := h1.str_of
    have zs0 := zs
    refine ⟨_, rfl, t, _, _, _, rfl, rfl, SqT.of ht, rfl, _, t1, "part", m, rfl, h1, _, rfl, ?_⟩
    refine ite2 (fun cp => ?_) (fun cp => ?_)
    · have e1 := TV.eqS_iff.mp cp
      cases e1
      obtain ⟨T2, ty2, kt2⟩ := h2.tyS (K := K)
      refine ⟨_, rfl, t, _, _, _, rfl, rfl, SqT.of ht, rfl, _, _, _, _, _, rfl, ClsV.ty _, ty2, kt2, _, rfl, ?_⟩
      refine ite2 (fun c3 => ?_) (fun c3 => ?_)
      · refine hQ H false (Same.refl _) ⟨fun z => (by cases z), fun z => ?_⟩
        rcases z.inv with ⟨x, e, _⟩ | ⟨k, ws, hk, e, _⟩
        · cases e; cases c3
        · cases e
          rcases hk with z | z <;> exact absurd z (by decide +kernel)
      obtain ⟨x, rfl⟩ : ∃ x, d2 = .str x := TV.isS_iff.mp (by
        cases q : TV.isS d2 with
        | true => rfl
        | false => rw [q] at c3; exact absurd rfl c3)
      obtain ⟨rfl, okx⟩ := h2.str_of
      have dg := dgW H x (Same.refl _)
      have only : BarsF ys W v sl (.tuple [.str "part", .str x]) → x ∈ W ∧ wh (v x + sl) < lst (v x) sl := fun z => by
        rcases z.inv with ⟨x', e, h⟩ | ⟨k, ws, hk, e, _⟩
        · cases e; exact h
        · cases e
      by_cases hx : x ∈ W
      · rw [if_pos hx] at dg
        refine ⟨_, rfl, t, _, _, _, rfl, rfl, SqT.of ht, rfl, _, rfl, wd, _, rfl, dg, _, rfl, ?_⟩
        refine iteF ?_
        refine ⟨_, rfl, _, rfl, t, _, _, _, rfl, rfl, SqT.of ht, rfl, wd, _, rfl, dg, _, rfl, aw x, pt, v x, sl, rfl, hwv x hx, hpt, zv x hx, zs, fun u H1 s1 hu1 => ?_⟩
        refine ⟨u, _, rfl, SqT.of hu1, rfl, _, _, rfl, _, _, rfl, rfl, ?_⟩
        refine ⟨_, rfl, _, rfl, _, _, rfl, rfl, hQ H1 _ s1 ?_⟩
        rw [decide_eq_true_eq]
        exact ⟨fun h => ⟨_, .part x, hx, h⟩, fun h => (only h).2⟩
      · rw [if_neg hx] at dg
        refine ⟨_, rfl, t, _, _, _, rfl, rfl, SqT.of ht, rfl, _, rfl, wd, _, rfl, dg, _, rfl, ?_⟩
        refine iteT ?_
        exact hQ H false (Same.refl _) ⟨fun h => (by cases h), fun h => absurd (only h).1 hx⟩
    have np : k ≠ "part" := fun z => cp (by rw [z]; rfl)
    refine ⟨_, rfl, t, _, _, _, rfl, rfl, SqT.of ht, rfl, ?_⟩
    refine ⟨_, rfl, t, _, _, _, rfl, rfl, SqT.of ht, rfl, l2, fun tt ftt => ?_⟩
    have stt := same_new (o := .tup [.str "few", .str "crowd"]) ftt
    have htt : (upd H tt (.tup [.str "few", .str "crowd"])) tt = some (.tup [.str "few", .str "crowd"]) := upd_same
    generalize upd H tt (.tup [.str "few", .str "crowd"]) = H1 at stt htt ⊢
    refine ⟨tt, _, rfl, .inr (SqT.of htt), rfl, rfl, _, rfl, ?_⟩
    refine ite2 (fun c4 => ?_) (fun c4 => ?_)
    · refine hQ H1 false stt ⟨fun z => (by cases z), fun z => ?_⟩
      rcases z.inv with ⟨x, e, _⟩ | ⟨k', ws, hk, e, _⟩
      · cases e; exact absurd rfl np
      · cases e
        rcases hk with rfl | rfl
        · exact absurd (show false = true from c4) Bool.false_ne_true
        · exact absurd (show false = true from c4) Bool.false_ne_true
    have hk : k = "few" ∨ k = "crowd" := by
      refine Classical.byContradiction fun nk => c4 ?_
      have hn : k ∉ (["few", "crowd"] : List Str) := by simpa using nk
      have e := inV_strs k (["few", "crowd"] : List Str)
      rw [decide_eq_false hn] at e
      have e' : inV (V.str k) [V.str "few", V.str "crowd"] = false := e
      rw [e']
      rfl
    have h21 := h2.same stt
    obtain ⟨T2, ty2, kt2⟩ := h21.tyT (K := K)
    refine ⟨_, rfl, _, _, _, _, _, rfl, ClsV.ty _, ty2, kt2, _, rfl, ?_⟩
    refine ite2 (fun c5 => ?_) (fun c5 => ?_)
    · refine hQ H1 false stt ⟨fun z => (by cases z), fun z => ?_⟩
      rcases z.inv with ⟨x, e, _⟩ | ⟨k', ws, _, e, _⟩
      · cases e; exact absurd rfl np
      · cases e; cases c5
    obtain ⟨es, rfl⟩ : ∃ es, d2 = .tuple es := TV.isT_iff.mp (by
      cases q : TV.isT d2 with
      | true => rfl
      | false => rw [q] at c5; exact absurd rfl c5)
    have l60 := ok (.str k) es rfl
    obtain ⟨t3, xs, ts3, m3, rfl, ht30, hs3, rfl, rfl⟩ := h2.tup_of
    obtain ⟨lx3, _⟩ := hs3.len
    have hat := ht
    have ht31 := stt _ _ ht30
    refine ⟨_, rfl, by show 0 ≤ sizeLine; decide, fun e fe => ?_⟩
    have se := same_new (o := .tup []) fe
    have he : (upd H1 e (.tup [])) e = some (.tup []) := upd_same
    have s2 := stt.trans se
    have ht32 := se _ _ ht31
    have ne3 : t3 ≠ e := fun z => by rw [z, fe] at ht31; cases ht31
    generalize upd H1 e (.tup []) = H2 at s2 he ht32 ⊢
    refine ⟨t3, e, xs, rfl, rfl, ne3, ht32, he, _, rfl, ?_⟩
    refine ite2 (fun c0 => ?_) (fun c0 => ?_)
    · refine hQ H2 false s2 ⟨fun h => (by cases h), fun h => ?_⟩
      have x0 := List.isEmpty_iff.mp c0
      have e0 : es = [] := List.eq_nil_of_length_eq_zero (by rw [← lx3, x0]; rfl)
      rcases h.inv with ⟨x, e, _⟩ | ⟨k', ws, _, e, wne, _⟩
      · cases e
      · rw [e0] at e
        cases ws with
        | nil => exact absurd rfl wne
        | cons w ws => cases e
    have ene : es ≠ [] := fun z => c0 (by rw [List.eq_nil_of_length_eq_zero (show xs.length = 0 by rw [lx3, z]; rfl)]; rfl)
    -- whether all are there
    refine ⟨_, rfl, t3, rfl, ⟨_, SqT.of ht32⟩, fun O hO => lc_tup (K := K) (xs := xs) (fun i H' => ∃ zs : List V, H' O = some (.lst zs) ∧ zs.length ≤ i ∧ (zs = [] ↔ (es.take i).all (okI W) = true) ∧ Same H2 H') ⟨[], upd_same, Nat.le_refl _, ⟨fun _ => rfl, fun _ => rfl⟩, same_new hO⟩ (fun i H' _ z => by obtain ⟨_, _, _, _, z⟩ := z; exact SqT.of (z _ _ ht32)) ?_ ?_⟩
    · rintro i x H3 hx ⟨zs, hO3, zl, z0, s3⟩
      have il := (List.getElem?_eq_some_iff.mp hx).1
      obtain ⟨d3, t4, hd3, _, h3⟩ := hs3.get hx
      have s03 := s2.trans s3
      have tk : (es.take (i + 1)).all (okI W) = ((es.take i).all (okI W) && okI W d3) := by
        rw [List.take_add_one, hd3, List.all_append]
        simp
      have keep : okI W d3 = true → ∃ zs : List V, H3 O = some (.lst zs) ∧ zs.length ≤ i + 1 ∧ (zs = [] ↔ (es.take (i + 1)).all (okI W) = true) ∧ Same H2 H3 := fun q => ⟨zs, hO3, by omega, by rw [tk, q, Bool.and_true]; exact z0, s3⟩
      have put : okI W d3 = false → ∃ acc : List V, H3 O = some (.lst acc) ∧ acc.length < sizeLine ∧ ∃ zs : List V, (upd H3 O (.lst (acc ++ [x]))) O = some (.lst zs) ∧ zs.length ≤ i + 1 ∧ (zs = [] ↔ (es.take (i + 1)).all (okI W) = true) ∧ Same H2 (upd H3 O (.lst (acc ++ [x]))) := fun q => by
        refine ⟨zs, hO3, line (by omega), zs ++ [x], upd_same, by rw [List.length_append]; simpa using zl, ?_, fun bb o eb => ?_⟩
        · rw [tk, q, Bool.and_false]
          exact ⟨fun z => by simp at z, fun z => by cases z⟩
        · rw [upd_ne (ne_of_none eb hO)]
          exact s3 _ _ eb
      refine ⟨rfl, ?_⟩
      obtain ⟨T3, ty3, kt3⟩ := (h3.same s03).tyS (K := K)
      refine ⟨_, rfl, _, _, _, _, _, rfl, ClsV.ty _, ty3, kt3, _, rfl, ?_⟩
      refine ite2 (fun c6 => ?_) (fun c6 => ?_)
      · have e0 : okI W d3 = false := by
          cases d3 with
          | str z => cases c6
          | _ => rfl
        exact ⟨_, rfl, put e0⟩
      obtain ⟨z, rfl⟩ : ∃ z, d3 = .str z := TV.isS_iff.mp (by
        cases q : TV.isS d3 with
        | true => rfl
        | false => rw [q] at c6; exact absurd rfl c6)
      obtain ⟨rfl, _⟩ := h3.str_of
      have dg := dgW H3 z s03
      by_cases hzW : z ∈ W
      · rw [if_pos hzW] at dg
        refine ⟨_, rfl, _, rfl, wd, _, rfl, dg, _, rfl, ?_⟩
        refine iteF ?_
        exact keep (decide_eq_true hzW)
      · rw [if_neg hzW] at dg
        refine ⟨_, rfl, _, rfl, wd, _, rfl, dg, _, rfl, ?_⟩
        refine iteT ?_
        exact ⟨_, rfl, put (decide_eq_false hzW)⟩
    rintro H3 ⟨bad, hO3, _, z0, s3⟩
    rw [lx3, List.take_length] at z0
    refine ⟨by show 0 ≤ sizeLine; decide, fun e2 fe2 => ?_⟩
    have se2 := same_new (o := .lst []) fe2
    have neO : O ≠ e2 := fun z => by rw [z, fe2] at hO3; cases hO3
    refine ⟨O, e2, bad, [], _, rfl, rfl, neO, SqL.of (se2 _ _ hO3), SqL.of upd_same, eqL_nil, ?_⟩
    have s4 := s3.trans se2
    generalize upd H3 e2 (.lst []) = H4 at s4
    refine ⟨_, rfl, ?_⟩
    refine ite2 (fun c1 => ?_) (fun c1 => ?_)
    · refine hQ H4 false (s2.trans s4) ⟨fun h => (by cases h), fun h => ?_⟩
      have bne : bad ≠ [] := fun z => by
        rw [z] at c1
        exact absurd c1 (by decide)
      rcases h.inv with ⟨x, e, _⟩ | ⟨k', ws, _, e, _, sub, _⟩
      · cases e
      · cases e
        exact (bne (z0.mpr (okI_all.mpr ⟨ws, rfl, sub⟩))).elim
    obtain ⟨ws, rfl, sub⟩ : ∃ ws : List Str, es = ws.map .str ∧ ∀ x ∈ ws, x ∈ W := okI_all.mp (z0.mp (by
      cases bad with
      | nil => rfl
      | cons a b => exact absurd rfl c1))
    obtain ⟨rfl, oksw⟩ := hs3.strs
    rw [List.length_map] at l60
    have wne : ws ≠ [] := fun z => ene (by rw [z]; rfl)
    have ht34 := s4 _ _ ht32
    rcases hk with rfl | rfl
      -- in their order
    · refine ⟨_, rfl, t3, _, rfl, .inr (SqT.of ht34), fun l1 fl1 => ?_⟩
      have sl1 := same_new (o := .lst (ws.map V.str)) fl1
      have hl1 : (upd H4 l1 (.lst (ws.map V.str))) l1 = some (.lst (ws.map V.str)) := upd_same
      have s5 := s4.trans sl1
      have ht35 := sl1 _ _ ht34
      generalize upd H4 l1 (.lst (ws.map V.str)) = H5 at hl1 s5 ht35 ⊢
      refine ⟨_, rfl, t3, ws, rfl, .inr (SqT.of ht35), by omega, fun zs pz wz nz mz fz => ?_⟩
      have sp := same_new (o := .lst (zs.map V.str)) fz
      have okz : ∀ x ∈ zs, PyData.strOk x = true := fun x hx => oksw x ((mz x).mp hx)
      refine ⟨.list (ws.map .str), .list (zs.map .str), Dp.lst (SqL.of (sp _ _ hl1)) (dp_ss ws), Dp.lst (SqL.of upd_same) (dp_ss zs), shp_ss oksw, shp_ss okz, ?_⟩
      have s6 := s5.trans sp
      have ht36 := sp _ _ ht35
      generalize upd H5 pz (.lst (zs.map V.str)) = H6 at s6 ht36
      rw [eqv_ss]
      have ord : ws = zs ↔ ws.Pairwise SRT.leS ∧ ws.Nodup := ⟨fun q => by rw [q]; exact ⟨wz, nz⟩, fun q => IO.sorted_same q.1 wz ((List.perm_ext_iff_of_nodup q.2 nz).mpr fun x => (mz x).symm)⟩
      refine ⟨_, rfl, ?_⟩
      refine ite2 (fun c2 => ?_) (fun c2 => ?_)
      · refine hQ H6 false (s2.trans s6) ⟨fun h => (by cases h), fun h => ?_⟩
        rw [decide_eq_true (ord.mpr (barsF_few h).2.2.1)] at c2
        cases c2
      have srtd := ord.mp (by
        refine Classical.byContradiction fun nq => c2 ?_
        rw [decide_eq_false nq]
        rfl)
      have s26 := s2.trans s6
      -- the ends
      refine ⟨fun σ' H' => ∃ (O : Addr) (ps : List (Addr × Str)) (v10 v11 v12 : Option V), σ' = [some (.ref wd), some (.ref l), some (.ref pt), some (.ref t), none, none, some (.ref t3), some (.ref O), none, none, v10, v11, v12] ∧ Same H6 H' ∧ H' O = some (.lst (ps.map fun p => V.ref p.1)) ∧ (∀ p ∈ ps, H' p.1 = some (.tup [.int (lst (v p.2) sl), .int (wh (v p.2 + sl))])) ∧ ps.map (·.2) = ws, ?_, ?_⟩
      · refine ⟨_, rfl, t3, rfl, ⟨_, SqT.of ht36⟩, fun O hO => lc_tup (K := K) (xs := ws.map V.str) (fun i H' => ∃ ps : List (Addr × Str), Same H6 H' ∧ H' O = some (.lst (ps.map fun p => V.ref p.1)) ∧ (∀ p ∈ ps, H' p.1 = some (.tup [.int (lst (v p.2) sl), .int (wh (v p.2 + sl))])) ∧ ps.map (·.2) = ws.take i)
          ⟨[], same_new hO, upd_same, fun p hp => absurd hp List.not_mem_nil, rfl⟩ (fun i H' _ z => by obtain ⟨_, z, _⟩ := z; exact SqT.of (z _ _ ht36)) ?_ ?_⟩
        · rintro i u H7 hu0 ⟨ps, s7, hO7, hps, epp⟩
          rw [List.getElem?_map] at hu0
          obtain ⟨x, hx, rfl⟩ := Option.map_eq_some_iff.mp hu0
          have il := (List.getElem?_eq_some_iff.mp hx).1
          have hxW := sub x (List.mem_of_getElem? hx)
          have s07 := s26.trans s7
          have dg := dgW H7 x s07
          rw [if_pos hxW] at dg
          have pl : ps.length ≤ 60 := by
            have := congrArg List.length epp
            rw [List.length_map, List.length_take] at this
            omega
          refine ⟨rfl, ?_⟩
          refine ⟨_, rfl, _, rfl, wd, _, rfl, dg, _, rfl, aw x, pt, v x, sl, rfl, s07 _ _ (hwv x hxW), s07 _ _ hpt, zv x hxW, zs0, fun u2 H8 s8 hu2 => ?_⟩
          have hO8 := s8 _ _ hO7
          have kt : ∀ bb ts, H8 bb = some (.tup ts) → (upd H8 O (.lst ((ps.map fun p => V.ref p.1) ++ [.ref u2]))) bb = some (.tup ts) := fun bb ts eb => by rw [upd_ne (ne_of eb hO8 (by intro z; cases z))]; exact eb
          refine ⟨_, hO8, by rw [List.length_map]; exact line pl, ps ++ [(u2, x)], fun bb o eb => ?_, by rw [upd_same, List.map_append]; rfl, fun p hp => ?_, ?_⟩
          · rw [upd_ne (ne_of_none eb hO)]
            exact s8 _ _ (s7 _ _ eb)
          · rcases List.mem_append.mp hp with hp | hp
            · exact kt _ _ (s8 _ _ (hps p hp))
            · rw [List.mem_singleton.mp hp]
              exact kt _ _ hu2
          · rw [List.map_append, epp, List.take_add_one, hx]
            rfl
        · rintro H7 ⟨ps, s7, hO7, hps, epp⟩
          rw [List.length_map, List.take_length] at epp
          exact ⟨O, ps, _, _, _, rfl, s7, hO7, hps, epp⟩
      rintro σ' H7 ⟨eo, ps, v10, v11, v12, rfl, s7, hO7, hps, epp⟩
      have s07 := s26.trans s7
      have pl : ps.length ≤ 60 := by
        have := congrArg List.length epp
        rw [List.length_map] at this
        omega
      refine ⟨_, rfl, t, _, _, _, rfl, rfl, SqT.of (s07 _ _ hat), rfl, rfl, _, rfl, ?_⟩
      refine iteT ?_
      -- the days
      refine ⟨fun σ' H' => ∃ (O : Addr) (zs : List V) (v10 v11 v12 : Option V), σ' = [some (.ref wd), some (.ref l), some (.ref pt), some (.ref t), none, none, some (.ref t3), some (.ref eo), some (.ref O), none, v10, v11, v12] ∧ Same H7 H' ∧ H' O = some (.lst zs) ∧ zs.length = FW.opn (abl ys) ws, ?_, ?_⟩
      · have dy7 := hD.same s07
        have ht37 := s7 _ _ ht36
        refine ⟨_, rfl, l, rfl, ⟨_, SqL.of dy7.1⟩, fun O hO => lc_list (K := K) (xs := ys.map fun d => V.ref d.a) (fun i H' => ∃ zs : List V, H' O = some (.lst zs) ∧ zs.length = FW.opn ((abl ys).take i) ws ∧ Same H7 H') ⟨[], upd_same, rfl, same_new hO⟩ (fun i H' _ z => by obtain ⟨_, _, _, z⟩ := z; exact SqL.of (z _ _ dy7.1)) ?_ ?_⟩
        · rintro i v1 H8 hv1 ⟨zs, hO8, zl, s8⟩
          rw [List.getElem?_map] at hv1
          obtain ⟨y, hy, rfl⟩ := Option.map_eq_some_iff.mp hv1
          have hym := List.mem_of_getElem? hy
          have il := (List.getElem?_eq_some_iff.mp hy).1
          have oy := (dy7.2 y hym).same s8
          have b12 := oy.lb
          have tk : (abl ys).take (i + 1) = (abl ys).take i ++ [y.B] := by
            rw [List.take_add_one, List.getElem?_map, hy]
            rfl
          have z60 : zs.length ≤ 60 := by
            rw [zl]
            refine Nat.le_trans (List.length_filter_le _ _) ?_
            rw [List.length_take]
            omega
          refine ⟨y.a, _, rfl, SqT.of oy.t, rfl, _, _, rfl, _, _, rfl, rfl, rfl, ?_⟩
          refine ⟨_, rfl, y.ba, rfl, ⟨_, SqT.of oy.b⟩, fun D fD => lc_tup (K := K) (xs := y.B.map V.str) (fun j H' => H' D = some (.lst (((y.B.take j).filter fun n => decide (n ∈ ws)).map V.str)) ∧ Same H8 H') ⟨upd_same, same_new fD⟩ (fun j H' _ z => SqT.of (z.2 _ _ oy.b)) ?_ ?_⟩
          · rintro j v2 H9 hn0 ⟨hD9, s9⟩
            rw [List.getElem?_map] at hn0
            obtain ⟨n, hn, rfl⟩ := Option.map_eq_some_iff.mp hn0
            have jl := (List.getElem?_eq_some_iff.mp hn).1
            have fl60 : (((y.B.take j).filter fun n => decide (n ∈ ws)).map V.str).length ≤ 60 := by
              rw [List.length_map]
              refine Nat.le_trans (List.length_filter_le _ _) ?_
              rw [List.length_take]
              omega
            refine ⟨rfl, ?_⟩
            refine ⟨_, rfl, _, rfl, t3, _, rfl, .inr (SqT.of (s9 _ _ (s8 _ _ ht37))), rfl, flat_strs _, _, rfl, ?_⟩
            simp only [Bool.false_eq_true, if_false, if_true, inV_strs]
            by_cases hnw : n ∈ ws
            · rw [decide_eq_true hnw]
              refine iteT ?_
              refine ⟨_, rfl, _, hD9, line fl60, ?_, fun bb o eb => ?_⟩
              · rw [upd_same, List.take_add_one, hn, List.filter_append, Option.toList_some, List.filter_cons, if_pos (by simp [hnw]), List.filter_nil, List.map_append]
                rfl
              · rw [upd_ne (ne_of_none eb fD)]
                exact s9 _ _ eb
            · rw [decide_eq_false hnw]
              refine iteF ?_
              refine ⟨?_, s9⟩
              rw [hD9, List.take_add_one, hn, List.filter_append, Option.toList_some, List.filter_cons, if_neg (by simp [hnw]), List.filter_nil, List.append_nil]
          rintro H9 ⟨hD9, s9⟩
          rw [List.length_map, List.take_length] at hD9
          refine ⟨by show 0 ≤ sizeLine; decide, fun e3 fe3 => ?_⟩
          have se3 := same_new (o := .lst []) fe3
          refine ⟨.list ((y.B.filter fun n => decide (n ∈ ws)).map .str), .list [], Dp.lst (SqL.of (se3 _ _ hD9)) (dp_ss _), Dp.lst (SqL.of upd_same) .nil, shp_ss (fun x hx => okB y hym x (List.mem_filter.mp hx).1), by decide, ?_⟩
          have hOa := se3 _ _ (s9 _ _ hO8)
          have s8a := (s8.trans s9).trans se3
          generalize upd H9 e3 (.lst []) = Ha at hOa s8a
          rw [eqv_nil]
          have eA : (!((y.B.filter fun n => decide (n ∈ ws)).map PyData.str).isEmpty) = (y.B.any fun n => decide (n ∈ ws)) := ise_any
          rw [eA]
          refine ⟨_, rfl, ?_⟩
          refine ite2 (fun c => ?_) (fun c => ?_)
          · refine ⟨_, rfl, _, hOa, line z60, _, upd_same, ?_, fun bb o eb => ?_⟩
            · rw [List.length_append, zl, tk]
              unfold FW.opn
              rw [List.filter_append, List.length_append, List.filter_cons, if_pos c]
              rfl
            · rw [upd_ne (ne_of_none eb hO)]
              exact s8a _ _ eb
          · refine ⟨zs, hOa, ?_, s8a⟩
            rw [zl, tk]
            unfold FW.opn
            rw [List.filter_append, List.length_append, List.filter_cons, if_neg c]
            rfl
        · rintro H8 ⟨zs, hO8, zl, s8⟩
          rw [List.length_map, ← la, List.take_length] at zl
          exact ⟨O, zs, _, _, _, rfl, s8, hO8, zl⟩
      rintro σ' H8 ⟨O, zs1, v10', v11', v12', rfl, s8, hO8, zl⟩
      have hO78 := s8 _ _ hO7
      -- all together
      refine ⟨_, rfl, eo, rfl, ⟨_, SqL.of hO78⟩, fun D fD => lc_list (K := K) (xs := ps.map fun p => V.ref p.1) (fun j H' => H' D = some (.lst (((ps.take j).map fun p => lst (v p.2) sl).map V.int)) ∧ Same H8 H') ⟨upd_same, same_new fD⟩ (fun j H' _ z => SqL.of (z.2 _ _ hO78)) ?_ ?_⟩
      · rintro j v2 H9 hn0 ⟨hD9, s9⟩
        rw [List.getElem?_map] at hn0
        obtain ⟨p, hp, rfl⟩ := Option.map_eq_some_iff.mp hn0
        have jl := (List.getElem?_eq_some_iff.mp hp).1
        have hp9 := s9 _ _ (s8 _ _ (hps p (List.mem_of_getElem? hp)))
        refine ⟨p.1, _, rfl, SqT.of hp9, rfl, _, _, rfl, _, _, rfl, rfl, rfl, ?_⟩
        refine ⟨_, rfl, _, hD9, by rw [List.length_map, List.length_map, List.length_take]; exact line (by omega), ?_, fun bb o eb => ?_⟩
        · rw [upd_same, List.take_add_one, hp, List.map_append, List.map_append]
          rfl
        · rw [upd_ne (ne_of_none eb fD)]
          exact s9 _ _ eb
      rintro H9 ⟨hD9, s9⟩
      rw [List.length_map, List.take_length] at hD9
      refine ⟨D, _, rfl, SqL.of hD9, _, rfl, O, _, rfl, .inl (SqL.of (s9 _ _ hO8)), ?_⟩
      rw [zl]
      refine ⟨_, _, rfl, rfl, hQ H9 _ ((s07.trans s8).trans s9) ?_⟩
      have es : (ps.map fun p => lst (v p.2) sl) = ws.map fun x => lst (v x) sl := by
        rw [← epp, List.map_map]
        rfl
      rw [es, decide_eq_true_eq]
      exact ⟨fun h => ⟨_, .few ws, wne, sub, srtd, h⟩, fun h => (barsF_few h).2.2.2⟩
      -- in their order
    · refine ⟨_, rfl, t3, _, rfl, .inr (SqT.of ht34), fun l1 fl1 => ?_⟩
      have sl1 := same_new (o := .lst (ws.map V.str)) fl1
      have hl1 : (upd H4 l1 (.lst (ws.map V.str))) l1 = some (.lst (ws.map V.str)) := upd_same
      have s5 := s4.trans sl1
      have ht35 := sl1 _ _ ht34
      generalize upd H4 l1 (.lst (ws.map V.str)) = H5 at hl1 s5 ht35 ⊢
      refine ⟨_, rfl, t3, ws, rfl, .inr (SqT.of ht35), by omega, fun zs pz wz nz mz fz => ?_⟩
      have sp := same_new (o := .lst (zs.map V.str)) fz
      have okz : ∀ x ∈ zs, PyData.strOk x = true := fun x hx => oksw x ((mz x).mp hx)
      refine ⟨.list (ws.map .str), .list (zs.map .str), Dp.lst (SqL.of (sp _ _ hl1)) (dp_ss ws), Dp.lst (SqL.of upd_same) (dp_ss zs), shp_ss oksw, shp_ss okz, ?_⟩
      have s6 := s5.trans sp
      have ht36 := sp _ _ ht35
      generalize upd H5 pz (.lst (zs.map V.str)) = H6 at s6 ht36
      rw [eqv_ss]
      have ord : ws = zs ↔ ws.Pairwise SRT.leS ∧ ws.Nodup := ⟨fun q => by rw [q]; exact ⟨wz, nz⟩, fun q => IO.sorted_same q.1 wz ((List.perm_ext_iff_of_nodup q.2 nz).mpr fun x => (mz x).symm)⟩
      refine ⟨_, rfl, ?_⟩
      refine ite2 (fun c2 => ?_) (fun c2 => ?_)
      · refine hQ H6 false (s2.trans s6) ⟨fun h => (by cases h), fun h => ?_⟩
        rw [decide_eq_true (ord.mpr (barsF_crowd h).2.2.1)] at c2
        cases c2
      have srtd := ord.mp (by
        refine Classical.byContradiction fun nq => c2 ?_
        rw [decide_eq_false nq]
        rfl)
      have s26 := s2.trans s6
      -- the ends
      refine ⟨fun σ' H' => ∃ (O : Addr) (ps : List (Addr × Str)) (v10 v11 v12 : Option V), σ' = [some (.ref wd), some (.ref l), some (.ref pt), some (.ref t), none, none, some (.ref t3), some (.ref O), none, none, v10, v11, v12] ∧ Same H6 H' ∧ H' O = some (.lst (ps.map fun p => V.ref p.1)) ∧ (∀ p ∈ ps, H' p.1 = some (.tup [.int (lst (v p.2) sl), .int (wh (v p.2 + sl))])) ∧ ps.map (·.2) = ws, ?_, ?_⟩
      · refine ⟨_, rfl, t3, rfl, ⟨_, SqT.of ht36⟩, fun O hO => lc_tup (K := K) (xs := ws.map V.str) (fun i H' => ∃ ps : List (Addr × Str), Same H6 H' ∧ H' O = some (.lst (ps.map fun p => V.ref p.1)) ∧ (∀ p ∈ ps, H' p.1 = some (.tup [.int (lst (v p.2) sl), .int (wh (v p.2 + sl))])) ∧ ps.map (·.2) = ws.take i)
          ⟨[], same_new hO, upd_same, fun p hp => absurd hp List.not_mem_nil, rfl⟩ (fun i H' _ z => by obtain ⟨_, z, _⟩ := z; exact SqT.of (z _ _ ht36)) ?_ ?_⟩
        · rintro i u H7 hu0 ⟨ps, s7, hO7, hps, epp⟩
          rw [List.getElem?_map] at hu0
          obtain ⟨x, hx, rfl⟩ := Option.map_eq_some_iff.mp hu0
          have il := (List.getElem?_eq_some_iff.mp hx).1
          have hxW := sub x (List.mem_of_getElem? hx)
          have s07 := s26.trans s7
          have dg := dgW H7 x s07
          rw [if_pos hxW] at dg
          have pl : ps.length ≤ 60 := by
            have := congrArg List.length epp
            rw [List.length_map, List.length_take] at this
            omega
          refine ⟨rfl, ?_⟩
          refine ⟨_, rfl, _, rfl, wd, _, rfl, dg, _, rfl, aw x, pt, v x, sl, rfl, s07 _ _ (hwv x hxW), s07 _ _ hpt, zv x hxW, zs0, fun u2 H8 s8 hu2 => ?_⟩
          have hO8 := s8 _ _ hO7
          have kt : ∀ bb ts, H8 bb = some (.tup ts) → (upd H8 O (.lst ((ps.map fun p => V.ref p.1) ++ [.ref u2]))) bb = some (.tup ts) := fun bb ts eb => by rw [upd_ne (ne_of eb hO8 (by intro z; cases z))]; exact eb
          refine ⟨_, hO8, by rw [List.length_map]; exact line pl, ps ++ [(u2, x)], fun bb o eb => ?_, by rw [upd_same, List.map_append]; rfl, fun p hp => ?_, ?_⟩
          · rw [upd_ne (ne_of_none eb hO)]
            exact s8 _ _ (s7 _ _ eb)
          · rcases List.mem_append.mp hp with hp | hp
            · exact kt _ _ (s8 _ _ (hps p hp))
            · rw [List.mem_singleton.mp hp]
              exact kt _ _ hu2
          · rw [List.map_append, epp, List.take_add_one, hx]
            rfl
        · rintro H7 ⟨ps, s7, hO7, hps, epp⟩
          rw [List.length_map, List.take_length] at epp
          exact ⟨O, ps, _, _, _, rfl, s7, hO7, hps, epp⟩
      rintro σ' H7 ⟨eo, ps, v10, v11, v12, rfl, s7, hO7, hps, epp⟩
      have s07 := s26.trans s7
      have pl : ps.length ≤ 60 := by
        have := congrArg List.length epp
        rw [List.length_map] at this
        omega
      refine ⟨_, rfl, t, _, _, _, rfl, rfl, SqT.of (s07 _ _ hat), rfl, rfl, _, rfl, ?_⟩
      refine iteF ?_
      -- the days
      refine ⟨fun σ' H' => ∃ (O : Addr) (zs : List V) (v10 v11 v12 : Option V), σ' = [some (.ref wd), some (.ref l), some (.ref pt), some (.ref t), none, none, some (.ref t3), some (.ref eo), none, some (.ref O), v10, v11, v12] ∧ Same H7 H' ∧ H' O = some (.lst zs) ∧ zs.length = FW.own (abl ys) ws, ?_, ?_⟩
      · have dy7 := hD.same s07
        have ht37 := s7 _ _ ht36
        refine ⟨_, rfl, l, rfl, ⟨_, SqL.of dy7.1⟩, fun O hO => lc_list (K := K) (xs := ys.map fun d => V.ref d.a) (fun i H' => ∃ zs : List V, H' O = some (.lst zs) ∧ zs.length = FW.own ((abl ys).take i) ws ∧ Same H7 H') ⟨[], upd_same, rfl, same_new hO⟩ (fun i H' _ z => by obtain ⟨_, _, _, z⟩ := z; exact SqL.of (z _ _ dy7.1)) ?_ ?_⟩
        · rintro i v1 H8 hv1 ⟨zs, hO8, zl, s8⟩
          rw [List.getElem?_map] at hv1
          obtain ⟨y, hy, rfl⟩ := Option.map_eq_some_iff.mp hv1
          have hym := List.mem_of_getElem? hy
          have il := (List.getElem?_eq_some_iff.mp hy).1
          have oy := (dy7.2 y hym).same s8
          have b12 := oy.lb
          have tk : (abl ys).take (i + 1) = (abl ys).take i ++ [y.B] := by
            rw [List.take_add_one, List.getElem?_map, hy]
            rfl
          have z60 : zs.length ≤ 60 := by
            rw [zl]
            refine Nat.le_trans (List.length_filter_le _ _) ?_
            rw [List.length_take]
            omega
          refine ⟨y.a, _, rfl, SqT.of oy.t, rfl, _, _, rfl, _, _, rfl, rfl, rfl, ?_⟩
          refine ⟨_, rfl, y.ba, rfl, ⟨_, SqT.of oy.b⟩, fun D fD => lc_tup (K := K) (xs := y.B.map V.str) (fun j H' => H' D = some (.lst (((y.B.take j).filter fun n => decide (n ∉ ws)).map V.str)) ∧ Same H8 H') ⟨upd_same, same_new fD⟩ (fun j H' _ z => SqT.of (z.2 _ _ oy.b)) ?_ ?_⟩
          · rintro j v2 H9 hn0 ⟨hD9, s9⟩
            rw [List.getElem?_map] at hn0
            obtain ⟨n, hn, rfl⟩ := Option.map_eq_some_iff.mp hn0
            have jl := (List.getElem?_eq_some_iff.mp hn).1
            have fl60 : (((y.B.take j).filter fun n => decide (n ∉ ws)).map V.str).length ≤ 60 := by
              rw [List.length_map]
              refine Nat.le_trans (List.length_filter_le _ _) ?_
              rw [List.length_take]
              omega
            refine ⟨rfl, ?_⟩
            refine ⟨_, rfl, _, rfl, t3, _, rfl, .inr (SqT.of (s9 _ _ (s8 _ _ ht37))), rfl, flat_strs _, _, rfl, ?_⟩
            simp only [Bool.false_eq_true, if_false, if_true, inV_strs]
            by_cases hnw : n ∈ ws
            · rw [decide_eq_true hnw]
              refine iteF ?_
              refine ⟨?_, s9⟩
              rw [hD9, List.take_add_one, hn, List.filter_append, Option.toList_some, List.filter_cons, if_neg (by simp [hnw]), List.filter_nil, List.append_nil]
            · rw [decide_eq_false hnw]
              refine iteT ?_
              refine ⟨_, rfl, _, hD9, line fl60, ?_, fun bb o eb => ?_⟩
              · rw [upd_same, List.take_add_one, hn, List.filter_append, Option.toList_some, List.filter_cons, if_pos (by simp [hnw]), List.filter_nil, List.map_append]
                rfl
              · rw [upd_ne (ne_of_none eb fD)]
                exact s9 _ _ eb
          rintro H9 ⟨hD9, s9⟩
          rw [List.length_map, List.take_length] at hD9
          refine ⟨by show 0 ≤ sizeLine; decide, fun e3 fe3 => ?_⟩
          have se3 := same_new (o := .lst []) fe3
          refine ⟨.list ((y.B.filter fun n => decide (n ∉ ws)).map .str), .list [], Dp.lst (SqL.of (se3 _ _ hD9)) (dp_ss _), Dp.lst (SqL.of upd_same) .nil, shp_ss (fun x hx => okB y hym x (List.mem_filter.mp hx).1), by decide, ?_⟩
          have hOa := se3 _ _ (s9 _ _ hO8)
          have s8a := (s8.trans s9).trans se3
          generalize upd H9 e3 (.lst []) = Ha at hOa s8a
          rw [eqv_nilE]
          have eA : ((y.B.filter fun n => decide (n ∉ ws)).map PyData.str).isEmpty = (y.B.all fun n => decide (n ∈ ws)) := ise_all
          rw [eA]
          refine ⟨_, rfl, ?_⟩
          refine ite2 (fun c => ?_) (fun c => ?_)
          · refine ⟨_, rfl, _, hOa, line z60, _, upd_same, ?_, fun bb o eb => ?_⟩
            · rw [List.length_append, zl, tk]
              unfold FW.own
              rw [List.filter_append, List.length_append, List.filter_cons, if_pos c]
              rfl
            · rw [upd_ne (ne_of_none eb hO)]
              exact s8a _ _ eb
          · refine ⟨zs, hOa, ?_, s8a⟩
            rw [zl, tk]
            unfold FW.own
            rw [List.filter_append, List.length_append, List.filter_cons, if_neg c]
            rfl
        · rintro H8 ⟨zs, hO8, zl, s8⟩
          rw [List.length_map, ← la, List.take_length] at zl
          exact ⟨O, zs, _, _, _, rfl, s8, hO8, zl⟩
      rintro σ' H8 ⟨O, zs1, v10', v11', v12', rfl, s8, hO8, zl⟩
      have hO78 := s8 _ _ hO7
      -- all together
      refine ⟨_, rfl, eo, rfl, ⟨_, SqL.of hO78⟩, fun D fD => lc_list (K := K) (xs := ps.map fun p => V.ref p.1) (fun j H' => H' D = some (.lst (((ps.take j).map fun p => mst (v p.2) sl).map V.int)) ∧ Same H8 H') ⟨upd_same, same_new fD⟩ (fun j H' _ z => SqL.of (z.2 _ _ hO78)) ?_ ?_⟩
      · rintro j v2 H9 hn0 ⟨hD9, s9⟩
        rw [List.getElem?_map] at hn0
        obtain ⟨p, hp, rfl⟩ := Option.map_eq_some_iff.mp hn0
        have jl := (List.getElem?_eq_some_iff.mp hp).1
        have hp9 := s9 _ _ (s8 _ _ (hps p (List.mem_of_getElem? hp)))
        refine ⟨p.1, _, rfl, SqT.of hp9, rfl, _, _, rfl, _, _, rfl, rfl, rfl, ?_⟩
        refine ⟨_, rfl, _, _, rfl, _, hD9, by rw [List.length_map, List.length_map, List.length_take]; exact line (by omega), ?_, fun bb o eb => ?_⟩
        · rw [upd_same, List.take_add_one, hp, List.map_append, List.map_append]
          rfl
        · rw [upd_ne (ne_of_none eb fD)]
          exact s9 _ _ eb
      rintro H9 ⟨hD9, s9⟩
      rw [List.length_map, List.take_length] at hD9
      refine ⟨D, _, rfl, SqL.of hD9, _, rfl, O, _, rfl, .inl (SqL.of (s9 _ _ hO8)), ?_⟩
      rw [zl]
      refine ⟨_, _, rfl, rfl, hQ H9 _ ((s07.trans s8).trans s9) ?_⟩
      have es : (ps.map fun p => mst (v p.2) sl) = ws.map fun x => mst (v x) sl := by
        rw [← epp, List.map_map]
        rfl
      rw [es, decide_eq_true_eq]
      exact ⟨fun h => ⟨_, .crowd ws, wne, sub, srtd, h⟩, fun h => (barsF_crowd h).2.2.2⟩
end
end K52
set_option Elab.async false
set_option linter.all false
set_option maxRecDepth 100000
set_option maxHeartbeats 4000000
namespace K52
open PySem PySem.Spec PyProof.Rows L2
open C8 (Cal Mak Met pe_c pe_mk pe_mt pe_mt0)
open KM (pr Sz)
open SX (S)
open RPO
/-! ### how long the texts are -/
theorem rpS_len {r : Rat} {n : Nat} (sr : Sz n r) (n0 : 0 < n) (n9 : n ≤ 1900) : (rpS r).length ≤ 2 * n + 10 := by
  have k1 : (TX.intL r.num).length ≤ n + 1 := TX.intL_pow sr.1 n0
  have k2 := TX.numL_pow sr.2 n0
  have t1 : Str.ofString (toString (pr r).1) = SX.S (TX.intL r.num) := TX.tl_int r.num
  have t2 : Str.ofString (toString (pr r).2) = SX.S (TL.numL r.den) := SX.num_S r.den
  have c1 : Str.empty ++ Str.ofString "Share(" = SX.S [83, 104, 97, 114, 101, 40] := by decide +kernel
  have c2 : Str.ofString ", " = SX.S [44, 32] := by decide +kernel
  have c3 : Str.ofString ")" = SX.S [41] := by decide +kernel
  unfold rpS
  rw [c1, t1, c2, t2, c3, SX.S_cat, SX.S_cat, SX.S_cat, SX.S_cat, SX.S_len]
  simp
  omega
theorem rt_len {x : Str} (ok : PyData.strOk x = true) (l : x.length ≤ 8) : (reprText x).length ≤ 133 := by
  have hc : x.cps.toList.all (fun c => decide (c < 16 ^ 8)) = true := by
    unfold PyData.strOk at ok
    rw [← Array.all_toList, List.all_eq_true] at ok
    rw [List.all_eq_true]
    intro c hc
    have := of_decide_eq_true (ok c hc)
    exact decide_eq_true (by omega)
  have h1 := PyData.shown_le 13 (by decide) (.str x) (by simp only [PyData.leavesShort]; exact hc)
  have e : (PyData.str x).shown = reprText x := by simp only [PyData.shown]
  have w1 : (PyData.str x).weight = x.length := by simp only [PyData.weight]; rfl
  rw [e] at h1
  omega
theorem piled_le {ts : List Str} {n : Nat} (h : ∀ t ∈ ts, t.length ≤ n) : piled ts ≤ (n + 2) * ts.length := by
  induction ts with
  | nil => exact Nat.zero_le _
  | cons t ts ih =>
    rw [piled_cons, List.length_cons, Nat.mul_add]
    have := h t List.mem_cons_self
    have := ih fun x hx => h x (List.mem_cons_of_mem _ hx)
    omega
theorem join_le (ts : List Str) : (Str.join ", " ts).length ≤ piled ts := by
  by_cases h : ts = []
  · subst h
    decide
  · have := join_length_add ts h
    omega
theorem tt_le (ts : List Str) : (tupleText ts).length ≤ piled ts + 3 := by
  unfold tupleText
  rw [PySem.strLen_append, PySem.strLen_append]
  have e1 : ((("(" : String) : Str)).length = 1 := rfl
  have e3 : (((if ts.length == 1 then ",)" else ")" : String) : Str)).length ≤ 2 := by split <;> decide
  rw [e1]
  have := join_le ts
  omega
theorem dt_le (ps : List Str) : (dictText ps).length ≤ piled ps + 2 := by
  unfold dictText
  rw [PySem.strLen_append, PySem.strLen_append]
  have e1 : ((("{" : String) : Str)).length = 1 := rfl
  have e2 : ((("}" : String) : Str)).length = 1 := rfl
  rw [e1, e2]
  have := join_le ps
  omega
theorem lt_le (ts : List Str) : (listText ts).length ≤ piled ts + 2 := by
  unfold listText
  rw [PySem.strLen_append]
  have e2 : ((("]" : String) : Str)).length = 1 := rfl
  have e1 : ((("[" : String) : Str)).length = 1 := rfl
  have h := textFrom_len_le ts 0 "["
  have hp : piled ts = (ts.map (·.length)).sum + 2 * ts.length := by
    clear h
    induction ts with
    | nil => rfl
    | cons t ts ih => rw [piled_cons, ih, List.map_cons, List.sum_cons, List.length_cons]; omega
  rw [e1] at h
  rw [e2]
  omega
/-! ### the text of the dict -/
def entT (c : Str → Rat) (x : Str) : Str := reprText x ++ ": " ++ rpS (c x)
def Nmd (x : Str) : Prop := PyData.strOk x = true ∧ x.length ≤ 8
theorem dict_len {L : List Str} {c : Str → Rat} (ll : L.length ≤ 30) (nL : ∀ x ∈ L, Nmd x) (hz : ∀ x ∈ L, Sz 100 (c x)) : (dictText (L.map (entT c))).length ≤ sizeLine := by
  have h1 := dt_le (L.map (entT c))
  have h2 := piled_le (ts := L.map (entT c)) (n := 345) fun t ht => by
    obtain ⟨x, hx, rfl⟩ := List.mem_map.mp ht
    obtain ⟨ok, ok2⟩ := nL x hx
    unfold entT
    rw [PySem.strLen_append, PySem.strLen_append]
    have a := rt_len ok ok2
    have b := rpS_len (hz _ hx) (by decide) (by decide)
    have e : (((": " : String) : Str)).length = 2 := rfl
    omega
  rw [List.length_map] at h2
  have := Nat.mul_le_mul_left (345 + 2) ll
  have := sizeLine_eq
  omega
section
variable {X : Cx} {C : Addr} {k n : Nat}
theorem rp_share {outs : List Addr} {H : Hp} {p : Addr} {r : Rat} (Sp : OW.Spc X.prog X.w X.K X.mg X.base k C "__repr__" (spStr C rpS)) (kn : k ≤ n) (h : Sh C H p (pr r)) (z : Sz 100 r) (no : p ∉ outs) : RpU X n outs H (.ref p) (rpS r) := by
  obtain ⟨dx, hp⟩ := h
  exact RpU.own Sp hp no (fun H' hp' => ⟨p, r, 100, rfl, ⟨dx, hp'⟩, z, by decide, by decide, rfl, fun a o e => e⟩) kn
theorem rp_ent {outs : List Addr} {H : Hp} {g : Str → V} {t : Str → Str} : ∀ {l : List Str}, (∀ x ∈ l, RpU X n outs H (g x) (t x)) → RpEnt X n outs H (l.map fun x => ((Sum.inr x : Key), g x)) (l.map fun x => reprText x ++ ": " ++ t x)
  | [], _ => .nil
  | x :: l, h => .cons .str (h x List.mem_cons_self) (rp_ent fun y hy => h y (List.mem_cons_of_mem _ hy))
theorem rp_dict {H : Hp} {d : Addr} {L : List Str} {c : Str → Rat} {ad : Str → Addr} (Sp : OW.Spc X.prog X.w X.K X.mg X.base k C "__repr__" (spStr C rpS)) (kn : k ≤ n) (hd1 : H d = some (dctO L fun x => .ref (ad x))) (hd2 : ∀ x ∈ L, Sh C H (ad x) (pr (c x))) (hz : ∀ x ∈ L, Sz 100 (c x)) :
    RpEnt X n [d] H (L.map fun x => ((Sum.inr x : Key), V.ref (ad x))) (L.map (entT c)) := rp_ent (t := fun x => rpS (c x)) fun x hx => rp_share Sp kn (hd2 x hx) (hz x hx) fun m => by
  have e := List.mem_singleton.mp m
  obtain ⟨dx, e2⟩ := hd2 x hx
  rw [e, hd1] at e2
  cases e2
end
end K52
set_option Elab.async false
set_option linter.all false
set_option maxRecDepth 100000
set_option maxHeartbeats 4000000
/-! BT52: how deep and how long bent things are -/
namespace K52
open PySem PySem.Spec PyProof.Rows L2
/-- tuples within tuples, at most j deep, the innermost without items -/
def Dd : Nat → PyData → Prop
  | 0, y => ∀ ds, y = .tuple ds → ds = []
  | j + 1, y => ∀ ds, y = .tuple ds → ∀ d ∈ ds, Dd j d
/-- no tuple of more than l items, k deep -/
def Lv : Nat → Nat → PyData → Prop
  | 0, _, _ => True
  | k + 1, l, y => ∀ ds, y = .tuple ds → ds.length ≤ l ∧ ∀ d ∈ ds, Lv k l d
theorem Lv.mono {l l' : Nat} (hl : l ≤ l') : ∀ {k : Nat} {y : PyData}, Lv k l y → Lv k l' y
  | 0, _, _ => trivial
  | k + 1, _, h => fun ds e => ⟨Nat.le_trans (h ds e).1 hl, fun d hd => Lv.mono hl ((h ds e).2 d hd)⟩
theorem Lv.flat {k l : Nat} {y : PyData} (h : ∀ ds, y ≠ .tuple ds) : Lv k l y := by
  cases k with
  | zero => trivial
  | succ k => exact fun ds e => absurd e (h ds)
theorem Dd.flat {j : Nat} {y : PyData} (h : ∀ ds, y ≠ .tuple ds) : Dd j y := by
  cases j with
  | zero => exact fun ds e => absurd e (h ds)
  | succ j => exact fun ds e => absurd e (h ds)
theorem lk_of {l : Nat} {y : PyData} (h : Lv 2 l y) (hl : l < 60) : Lk y := fun k ds e => by
  have := ((h _ e).2 (.tuple ds) (by simp)) ds rfl
  omega
theorem dd_strs {j : Nat} {ws : List Str} : ∀ d ∈ ws.map PyData.str, Dd j d := fun d hd => by
  obtain ⟨x, _, rfl⟩ := List.mem_map.mp hd
  exact Dd.flat fun _ e => nomatch e
theorem lv_strs {k l : Nat} {ws : List Str} : ∀ d ∈ ws.map PyData.str, Lv k l d := fun d hd => by
  obtain ⟨x, _, rfl⟩ := List.mem_map.mp hd
  exact Lv.flat fun _ e => nomatch e
theorem dd_tup {j : Nat} {ds : List PyData} (h : ∀ d ∈ ds, Dd j d) : Dd (j + 1) (.tuple ds) := fun es e => by
  cases e
  exact h
theorem lv_tup {l : Nat} {ds : List PyData} (hl : ds.length ≤ l) (h : ∀ k, ∀ d ∈ ds, Lv k l d) : ∀ k, Lv k l (.tuple ds)
  | 0 => trivial
  | k + 1 => fun es e => by
    cases e
    exact ⟨hl, h k⟩
mutual
/-- no list in it begins with None -/
def NN : PyData → Prop
  | .list ds => ds.head? ≠ some .none ∧ NNs ds
  | .tuple ds => NNs ds
  | _ => True
def NNs : List PyData → Prop
  | [] => True
  | d :: ds => NN d ∧ NNs ds
end
theorem nns_iff : ∀ {ds : List PyData}, NNs ds ↔ ∀ d ∈ ds, NN d
  | [] => ⟨fun _ d h => absurd h List.not_mem_nil, fun _ => by unfold NNs; trivial⟩
  | d :: ds => by
    unfold NNs
    rw [nns_iff]
    exact ⟨fun h x hx => by
      rcases List.mem_cons.mp hx with rfl | hx
      · exact h.1
      · exact h.2 x hx, fun h => ⟨h d List.mem_cons_self, fun x hx => h x (List.mem_cons_of_mem _ hx)⟩⟩
theorem nn_tup {ds : List PyData} (h : ∀ d ∈ ds, NN d) : NN (.tuple ds) := by
  unfold NN
  exact nns_iff.mpr h
theorem nn_lst {ds : List PyData} (h0 : ds.head? ≠ some .none) (h : ∀ d ∈ ds, NN d) : NN (.list ds) := by
  unfold NN
  exact ⟨h0, nns_iff.mpr h⟩
theorem nn_of_tup {ds : List PyData} (h : NN (.tuple ds)) : ∀ d ∈ ds, NN d := by
  unfold NN at h
  exact nns_iff.mp h
theorem nn_str {z : Str} : NN (.str z) := by unfold NN; trivial
theorem nn_strs {ws : List Str} : ∀ d ∈ ws.map PyData.str, NN d := fun d hd => by
  obtain ⟨x, _, rfl⟩ := List.mem_map.mp hd
  exact nn_str
mutual
/-- a thing stands, whatever is put on the end of a list that begins with None -/
theorem tv_nn {H H' : Hp} {T : Addr} {rest : List V} (hT : H T = some (.lst (.non :: rest))) (e : ∀ b o, H b = some o → b ≠ T → H' b = some o) : ∀ {v : V} {d : PyData} {t : Str} {n : Nat}, TV.Tv H v d t n → NN d → TV.Tv H' v d t n
  | _, _, _, _, .non, _ => .non
  | _, _, _, _, .bl b, _ => .bl b
  | _, _, _, _, .int h, _ => .int h
  | _, _, _, _, .str h, _ => .str h
  | _, _, _, _, .tup h hs, q => .tup (e _ _ h fun z => by rw [z, hT] at h; cases h) (tvl_nn hT e hs (by unfold NN at q; exact q))
  | _, _, _, _, .lst0 h, _ => .lst0 (e _ _ h fun z => by rw [z, hT] at h; cases h)
  | _, _, _, _, .lst h ne hs, q => .lst (e _ _ h fun z => by
      rw [z, hT] at h
      cases h
      unfold NN at q
      cases hs with
      | cons a b =>
        cases a
        exact q.1 rfl) ne (tvl_nn hT e hs (by unfold NN at q; exact q.2))
  | _, _, _, _, .dct h, _ => .dct (e _ _ h fun z => by rw [z, hT] at h; cases h)
theorem tvl_nn {H H' : Hp} {T : Addr} {rest : List V} (hT : H T = some (.lst (.non :: rest))) (e : ∀ b o, H b = some o → b ≠ T → H' b = some o) : ∀ {xs : List V} {ds : List PyData} {ts : List Str} {n : Nat}, TV.TvL H xs ds ts n → NNs ds → TV.TvL H' xs ds ts n
  | _, _, _, _, .nil, _ => .nil
  | _, _, _, _, .cons a b, q => .cons (tv_nn hT e a (by unfold NNs at q; exact q.1)) (tvl_nn hT e b (by unfold NNs at q; exact q.2))
end
/-- no tuple in it begins with None, k deep -/
def Hh : Nat → PyData → Prop
  | 0, _ => True
  | k + 1, y => ∀ ds, y = .tuple ds → ds.head? ≠ some .none ∧ ∀ d ∈ ds, Hh k d
theorem Hh.flat {k : Nat} {y : PyData} (h : ∀ ds, y ≠ .tuple ds) : Hh k y := by
  cases k with
  | zero => trivial
  | succ k => exact fun ds e => absurd e (h ds)
theorem hh_strs {k : Nat} {ws : List Str} : ∀ d ∈ ws.map PyData.str, Hh k d := fun d hd => by
  obtain ⟨x, _, rfl⟩ := List.mem_map.mp hd
  exact Hh.flat fun _ e => nomatch e
theorem hh_tup {ds : List PyData} (h0 : ds.head? ≠ some .none) (h : ∀ k, ∀ d ∈ ds, Hh k d) : ∀ k, Hh k (.tuple ds)
  | 0 => trivial
  | k + 1 => fun es e => by
    cases e
    exact ⟨h0, h k⟩
theorem hd_strs {ws : List Str} : (ws.map PyData.str).head? ≠ some .none := by
  cases ws <;> simp
/-- what is handed to be looked at, and to be bent -/
structure Pb (H : Hp) (v : V) (y : PyData) (tx : Str) : Prop where
  tv : TV.Tv H v y tx 2
  dd : Dd 2 y
  lv : ∀ k, Lv k 12 y
  tl : tx.length ≤ 2500
  nn : NN y
  hh : ∀ k, Hh k y
theorem Pb.kt {H H' : Hp} {v : V} {y : PyData} {tx : Str} (h : Pb H v y tx) (e : ∀ b o, H b = some o → (∀ ps, o ≠ .tbl ps) → (∀ C dx fs, o ≠ .ins C dx fs) → H' b = some o) : Pb H' v y tx := ⟨h.tv.kt e, h.dd, h.lv, h.tl, h.nn, h.hh⟩
theorem Pb.pap {H : Hp} {t : Addr} {p : Pap} (h : PapAt H t p) (n12 : ∀ ws, p = .few ws ∨ p = .crowd ws → ws.length ≤ 12) (nm : (∀ x, p = .part x → PyData.strOk x = true ∧ x.length ≤ 8) ∧ ∀ ws, p = .few ws ∨ p = .crowd ws → ∀ x ∈ ws, PyData.strOk x = true ∧ x.length ≤ 8) : ∃ y tx, Pb H (.ref t) y tx ∧ IsPap y p := by
  have two : ∀ (k : Str) (ws : List Str) (t3 : Addr), PyData.strOk k = true → k.length ≤ 8 → ws.length ≤ 12 → (∀ x ∈ ws, PyData.strOk x = true ∧ x.length ≤ 8) → H t = some (.tup [.str k, .ref t3]) → H t3 = some (.tup (ws.map V.str)) →
      ∃ tx, Pb H (.ref t) (.tuple [.str k, .tuple (ws.map .str)]) tx := fun k ws t3 ok kl l12 hw h1 h2 => by
    have a := rt_len ok kl
    have b : piled (ws.map reprText) ≤ 135 * 12 := by
      have := piled_le (ts := ws.map reprText) (n := 133) (fun t ht => by
        obtain ⟨x, hx, rfl⟩ := List.mem_map.mp ht
        exact rt_len (hw x hx).1 (hw x hx).2)
      rw [List.length_map] at this
      exact Nat.le_trans this (Nat.mul_le_mul_left _ l12)
    have c := tt_le (ws.map reprText)
    refine ⟨_, .tup h1 (.cons (.str ok) (.cons (.tup h2 (TV.TvL.of_strs fun x hx => (hw x hx).1)) .nil)), ?_, ?_, ?_, ?_, ?_⟩
    · refine dd_tup fun d hd => ?_
      rcases List.mem_cons.mp hd with rfl | hd
      · exact Dd.flat fun _ e => nomatch e
      · rw [List.mem_singleton.mp hd]
        exact dd_tup dd_strs
    · refine lv_tup (by simp) fun k d hd => ?_
      rcases List.mem_cons.mp hd with rfl | hd
      · exact Lv.flat fun _ e => nomatch e
      · rw [List.mem_singleton.mp hd]
        exact lv_tup (by rw [List.length_map]; exact l12) (fun k => lv_strs) k
    · refine Nat.le_trans (tt_le _) ?_
      rw [piled_cons, piled_cons]
      have : piled ([] : List Str) = 0 := rfl
      omega
    · refine nn_tup fun d hd => ?_
      rcases List.mem_cons.mp hd with rfl | hd
      · exact nn_str
      · rw [List.mem_singleton.mp hd]
        exact nn_tup nn_strs
    · refine hh_tup (by simp) fun k d hd => ?_
      rcases List.mem_cons.mp hd with rfl | hd
      · exact Hh.flat fun _ e => nomatch e
      · rw [List.mem_singleton.mp hd]
        exact hh_tup hd_strs (fun k => hh_strs) k
  have okp : PyData.strOk "part" = true := by decide +kernel
  have okf : PyData.strOk "few" = true := by decide +kernel
  have okc : PyData.strOk "crowd" = true := by decide +kernel
  cases p with
  | part x =>
    obtain ⟨ok, xl⟩ := nm.1 x rfl
    refine ⟨_, _, ⟨.tup h (.cons (.str okp) (.cons (.str ok) .nil)), ?_, ?_, ?_, nn_tup (nn_strs (ws := ["part", x])), hh_tup (hd_strs (ws := ["part", x])) fun k => hh_strs (ws := ["part", x])⟩, .part x⟩
    · exact dd_tup (dd_strs (ws := ["part", x]))
    · exact lv_tup (by simp) fun k => lv_strs (ws := ["part", x])
    · refine Nat.le_trans (tt_le _) ?_
      rw [piled_cons, piled_cons]
      have : piled ([] : List Str) = 0 := rfl
      have a := rt_len okp (by decide +kernel)
      have b := rt_len ok xl
      omega
  | few ws =>
    obtain ⟨t3, a, b⟩ := h
    obtain ⟨tx, q⟩ := two "few" ws t3 okf (by decide +kernel) (n12 ws (.inl rfl)) (nm.2 ws (.inl rfl)) a b
    exact ⟨_, tx, q, .few ws⟩
  | crowd ws =>
    obtain ⟨t3, a, b⟩ := h
    obtain ⟨tx, q⟩ := two "crowd" ws t3 okc (by decide +kernel) (n12 ws (.inr rfl)) (nm.2 ws (.inr rfl)) a b
    exact ⟨_, tx, q, .crowd ws⟩
end K52
set_option Elab.async false
set_option linter.all false
set_option maxRecDepth 100000
set_option maxHeartbeats 4000000
namespace K52
open PySem PySem.Spec PyProof.Rows L2
open C8 (Cal Mak Met pe_c pe_mk pe_mt pe_mt0)
section
variable {P : Program} {w : World} {K : PySem.W.Frag} {mg : Str → Option Value} {base : Heap} {f C : Addr} {fd : FuncData}
def spPp : Sp := fun vs H Q _ => ∃ (h nl : Addr) (c : Nat) (xs : List Str), vs = [.ref h, .ref nl] ∧ Held H h (c + 20) ∧ H nl = some (.lst (xs.map V.str)) ∧ xs ≠ [] ∧ xs.length ≤ 12 ∧ (∀ x ∈ xs, PyData.strOk x = true ∧ x.length ≤ 8) ∧
  ∀ (t : Addr) (y : PyData) (tx : Str) (H' : Hp), Held H' h c → Kp h H H' → Pb H' (.ref t) y tx → Q (.ref t) H'
theorem ok_pp (F : Dn K d_l_paper f fd) (b : Bl mg) (bt : mg "tuple" = none) (bso : mg "sorted" = none) (cD : CalD P w K mg base) : FnOk P w K mg base CX0 2 f fd ["_law_held_here", "_law_names_here"] spPp := by
  refine F.ok sc_l_paper (fun vs H Q E h => ?_) (fun cdv A outer s H vs Q E hr h => ?_)
  · obtain ⟨_, _, _, _, rfl, _⟩ := h
    rfl
  · obtain ⟨h, nl, c, xs, rfl, hld, hnl, xne, xl, nms, hQ⟩ := h
    have hu64 : (A.deeper (envOfC d_l_paper.qual d_l_paper.scope s.heap.objs.size f cdv)).units + 64 < cLine := by have := hr.un; omega
    refine ⟨_, PSs.nox (C8.pss_cut (ps_set (i := 2) sc_l_paper.nd rfl (.inl rfl) (pe_callTy call_tuple_of rfl bt boot_tuple (pa_cons (pe_callB (SRT.cr_sortedTx hu64) rfl bso boot_sorted (pa_cons
        (pe_lc (own := [("_law_name", 3)]) (g := gName 3) rfl sc_l_paper.nd (pi_list (pv 1)) (blkOk_by (N := N_l_paper) (sc := defScope s_l_paper) (by decide +kernel))
          (fun _ _ _ _ _ => pg_name (i := 3) sc_l_paper.nd rfl (Or.inl rfl)) (fun _ _ _ _ _ => pts_one (pt_cmpR op_eq (pe_c cD hr (by decide) rfl (pa_cons (pv 0) (pa_cons pe_int pa_nil))) pe_int (nomark _))) (fun _ _ _ _ _ => pv 3)) pa_nil)) pa_nil)))
      (pss_one (ps_ret (pe_ix (r := rIxL K) ix_list (pe_lst (pa_cons (pe_tup (pa_cons pe_str (pa_cons (pe_ix (r := rIxL K) ix_list (pv 1) (pe_c cD hr (by decide) rfl (pa_cons (pv 0) (pa_cons (pe_callB call_len_seq rfl b.len boot_len (pa_cons (pv 1) pa_nil)) pa_nil))) (fun _ _ => rfl)) pa_nil)))
          (pa_cons (pe_tup (pa_cons pe_str (pa_cons (pv 2) pa_nil))) (pa_cons (pe_tup (pa_cons pe_str (pa_cons (pv 2) pa_nil))) pa_nil)))) (pe_c cD hr (by decide) rfl (pa_cons (pv 0) (pa_cons pe_int pa_nil))) (fun _ _ => rfl))))), ?_⟩
    have line : ∀ {n : Nat}, n ≤ 60 → n < sizeLine := fun {n} h => Nat.lt_of_le_of_lt h (by decide)
    have l2 : 2 ≤ sizeLine := by decide
    refine ⟨fun σ' H' => ∃ (ta : Addr) (ws : List Str) (v3 : Option V), σ' = [some (.ref h), some (.ref nl), some (.ref ta), v3] ∧ Held H' h (c + 2) ∧ Kp h H H' ∧ H' ta = some (.tup (ws.map V.str)) ∧ ws.length ≤ 12 ∧ ∀ x ∈ ws, x ∈ xs, ?_, ?_⟩
    · refine ⟨_, rfl, nl, rfl, ⟨_, SqL.of hnl⟩, fun O hO => lc_list (K := K) (xs := xs.map V.str) (fun j H' => ∃ B : List Str, H' O = some (.lst (B.map V.str)) ∧ B.length ≤ j ∧ (∀ x ∈ B, x ∈ xs) ∧ Held H' h (c + 20 - j) ∧ Kp h H H' ∧ Cel h O H')
        ⟨[], upd_same, Nat.le_refl _, fun x hx => absurd hx List.not_mem_nil, hld.same (same_new hO), Kp.same (same_new hO), (Cel.of hld hO).kp (Kp.same (same_new hO))⟩ (fun j H' _ z => by obtain ⟨_, _, _, _, _, z, _⟩ := z; exact SqL.of (kp_lst z hld _ _ hnl)) ?_ ?_⟩
      · rintro j v Hk hj ⟨B, hB, bl, bs, heldk, kk, cBk⟩
        rw [List.getElem?_map] at hj
        obtain ⟨z, hz, rfl⟩ := Option.map_eq_some_iff.mp hj
        have hzR := List.mem_of_getElem? hz
        have jl := (List.getElem?_eq_some_iff.mp hz).1
        refine ⟨rfl, ?_⟩
        refine ⟨_, rfl, h, c + 20 - (j + 1), 2, rfl, heldk.weak (by omega), by decide, by decide, fun r Hm r0 r3 heldm km => ?_⟩
        have hBm := km.1 _ _ hB cBk.ne
        refine ⟨rfl, _, rfl, ?_⟩
        refine ite2 (fun _ => ?_) (fun _ => ⟨B, hBm, by omega, bs, heldm, kk.trans km, cBk.kp km⟩)
        refine ⟨_, rfl, _, hBm, by rw [List.length_map]; exact line (by omega), B ++ [z], by rw [upd_same, List.map_append]; rfl, by rw [List.length_append]; show B.length + 1 ≤ j + 1; omega, fun x hx => ?_, heldm.put (cBk.kp km), (kk.trans km).new hO, (cBk.kp km).put cBk.ne.symm⟩
        rcases List.mem_append.mp hx with hx | hx
        · exact bs x hx
        · rw [List.mem_singleton.mp hx]
          exact hzR
      rintro Hk ⟨B, hB, bl2, bs, heldk, kk, cBk⟩
      rw [List.length_map] at bl2 heldk
      refine ⟨O, B, rfl, .inl (SqL.of hB), fun zs p pm pw fp => ?_⟩
      have sp := same_new (o := .lst (zs.map V.str)) fp
      have hp : (upd Hk p (.lst (zs.map V.str))) p = some (.lst (zs.map V.str)) := upd_same
      generalize upd Hk p (.lst (zs.map V.str)) = Hl at sp hp
      refine ⟨p, _, rfl, .inl ⟨SqL.of hp, fun ta fta => ?_⟩⟩
      have st := same_new (o := .tup (zs.map V.str)) fta
      have sz := sp.trans st
      exact ⟨ta, zs, _, rfl, (heldk.same sz).weak (by omega), kk.trans (Kp.same sz), upd_same, by have := pm.length_eq; omega, fun x hx => bs x (pm.mem_iff.mp hx)⟩
    rintro σ' H1 ⟨ta, ws, v3, rfl, held1, k1, hta, wl, wx⟩
    have hnl1 := kp_lst k1 hld _ _ hnl
    have xpos : 0 < xs.length := List.length_pos_iff.mpr xne
    refine ⟨_, rfl, _, rfl, _, rfl, nl, _, rfl, .inl (SqL.of hnl1), h, c + 1, _, rfl, held1, by rw [List.length_map]; omega, by rw [List.length_map]; omega, fun r H2 r0 rn held2 k2 => ?_⟩
    rw [List.length_map] at rn
    obtain ⟨q, rfl⟩ := Int.eq_ofNat_of_zero_le r0
    have hq : q < xs.length := by omega
    have hnl2 := kp_lst k2 held1 _ _ hnl1
    have hta2 := kp_tup k2 held1 _ _ hta
    have at0 : atI (xs.map V.str) (q : Int) = some (V.str xs[q]) := atI_nat (by rw [List.getElem?_map, List.getElem?_eq_getElem hq]; rfl)
    refine ⟨nl, _, _, _, rfl, rfl, SqL.of hnl2, at0, l2, fun a fa => ?_⟩
    have sa := same_new (o := .tup [.str "part", .str xs[q]]) fa
    have ha : (upd H2 a (.tup [.str "part", .str xs[q]])) a = some (.tup [.str "part", .str xs[q]]) := upd_same
    generalize upd H2 a (.tup [.str "part", .str xs[q]]) = H3 at sa ha ⊢
    refine ⟨_, rfl, l2, fun b2 fb => ?_⟩
    have sb := same_new (o := .tup [.str "few", .ref ta]) fb
    have hb : (upd H3 b2 (.tup [.str "few", .ref ta])) b2 = some (.tup [.str "few", .ref ta]) := upd_same
    generalize upd H3 b2 (.tup [.str "few", .ref ta]) = H4 at sb hb ⊢
    refine ⟨_, rfl, l2, fun c2 fc => ?_⟩
    have sc := same_new (o := .tup [.str "crowd", .ref ta]) fc
    have hc : (upd H4 c2 (.tup [.str "crowd", .ref ta])) c2 = some (.tup [.str "crowd", .ref ta]) := upd_same
    generalize upd H4 c2 (.tup [.str "crowd", .ref ta]) = H5 at sc hc ⊢
    refine ⟨by show 3 ≤ sizeLine; decide, fun l fl => ?_⟩
    have sl := same_new (o := .lst [.ref a, .ref b2, .ref c2]) fl
    have hl : (upd H5 l (.lst [.ref a, .ref b2, .ref c2])) l = some (.lst [.ref a, .ref b2, .ref c2]) := upd_same
    generalize upd H5 l (.lst [.ref a, .ref b2, .ref c2]) = H6 at sl hl
    have s26 := ((sa.trans sb).trans sc).trans sl
    have held6 := held2.same s26
    have k6 := (k1.trans k2).trans (Kp.same s26)
    have nm : ∀ x ∈ ws, PyData.strOk x = true ∧ x.length ≤ 8 := fun x hx => nms x (wx x hx)
    refine ⟨_, rfl, h, c, 3, rfl, held6, by decide, by decide, fun i H7 i0 i3 held7 k7 => ?_⟩
    have hl7 := kp_lst k7 held6 _ _ hl
    have k07 := k6.trans k7
    have hta7 := kp_tup k7 held6 _ _ (s26 _ _ hta2)
    have pp : ∀ (t : Addr) (p : Pap), PapAt H7 t p → (∀ ws', p = .few ws' ∨ p = .crowd ws' → ws' = ws) → (∀ x, p = .part x → x = xs[q]) → Q (.ref t) H7 := fun t p hp e1 e2 => by
      obtain ⟨y, tx, q1, _⟩ := Pb.pap hp (fun ws' e => by rw [e1 ws' e]; exact wl) ⟨fun x e => by rw [e2 x e]; exact nms _ (List.getElem_mem hq), fun ws' e => by rw [e1 ws' e]; exact nm⟩
      exact hQ t y tx H7 held7 k07 q1
    have : i = 0 ∨ i = 1 ∨ i = 2 := by omega
    rcases this with rfl | rfl | rfl
    · exact ⟨l, _, _, _, rfl, rfl, SqL.of hl7, rfl, pp a (.part xs[q]) (kp_tup k7 held6 _ _ (((sb.trans sc).trans sl) _ _ ha)) (fun ws' e => by rcases e with e | e <;> cases e) fun x e => by cases e; rfl⟩
    · exact ⟨l, _, _, _, rfl, rfl, SqL.of hl7, rfl, pp b2 (.few ws) ⟨ta, kp_tup k7 held6 _ _ ((sc.trans sl) _ _ hb), hta7⟩ (fun ws' e => by rcases e with e | e <;> cases e; rfl) fun x e => by cases e⟩
    · exact ⟨l, _, _, _, rfl, rfl, SqL.of hl7, rfl, pp c2 (.crowd ws) ⟨ta, kp_tup k7 held6 _ _ (sl _ _ hc), hta7⟩ (fun ws' e => by rcases e with e | e <;> cases e; rfl) fun x e => by cases e⟩
end
end K52
set_option Elab.async false
set_option linter.all false
set_option maxRecDepth 100000
set_option maxHeartbeats 4000000
/-! TV3: slices and sums of tuples with one end each, t != (), how long texts are. -/
namespace TV
open PySem PySem.Spec PyProof.Rows L2
theorem snew {H : Hp} {a : Addr} {o : HO} (h : H a = none) : Same H (upd H a o) := fun b x e => by
  rw [upd_ne (ne_of_none e h)]
  exact e
section
variable {X : Cx}
/-- t[lo:hi], the same tuple or a new one -/
def rSl1 : V → Option Int → Option Int → Hp → VK → Prop := fun x lo hi H Q => ∃ a xs, x = .ref a ∧ H a = some (.tup xs) ∧ ∀ p H', Same H H' → H' p = some (.tup (cutV xs lo hi)) → Q (.ref p) H'
theorem sl_tup1 : SlR X rSl1 := by
  intro pins s σ H x v vl vu lo hi sl Q I rx hs pl pu h
  obtain ⟨a, xs, rfl, ha, q⟩ := h
  refine sl_tupA pins s σ H _ v vl vu lo hi sl Q I rx hs pl pu ⟨a, xs, rfl, SqT.of ha, fun w => ?_, fun _ p fp => q p _ (snew fp) upd_same⟩
  refine q a H (Same.refl _) ?_
  have e : cutV xs lo hi = xs := by
    unfold cutV
    rw [w.1, w.2]
    simp
  rw [e]
  exact ha
/-- t + u, one of them or a new one -/
def rCat1 : R2 := fun x y H Q => ∃ a b xs ys, x = .ref a ∧ y = .ref b ∧ H a = some (.tup xs) ∧ H b = some (.tup ys) ∧ xs.length + ys.length ≤ sizeLine ∧ ∀ p H', Same H H' → H' p = some (.tup (xs ++ ys)) → Q (.ref p) H'
theorem op_cat1 : OpR X (binaryOp .Add) rCat1 := by
  intro pins s σ H x y v u Q I rx ry h
  obtain ⟨a, b, xs, ys, rfl, rfl, ha, hb, hz, q⟩ := h
  refine op_catA pins s σ H _ _ v u Q I rx ry ⟨a, b, xs, ys, rfl, rfl, SqT.of ha, SqT.of hb, hz, fun z => ?_, fun _ z => ?_, fun _ _ p fp => q p _ (snew fp) upd_same⟩
  · subst z
    exact q b H (Same.refl _) hb
  · subst z
    exact q a H (Same.refl _) (by rw [List.append_nil]; exact ha)
/-- a tuple of anything != () -/
def rNeT0 : R2 := fun x y H Q => ∃ (p q : Addr) (xs : List V), x = .ref p ∧ y = .ref q ∧ H p = some (.tup xs) ∧ H q = some (.tup []) ∧ Q (.bl (!xs.isEmpty)) H
theorem op_neT0 (hu : X.A.units + 65 < cLine) : OpR X (compareOp .NotEq) rNeT0 := by
  intro pins s σ H x y v u Q I rx ry h
  obtain ⟨p, q, xs, rfl, rfl, hp, hq, k⟩ := h
  cases (show v = Value.ref p from rx)
  cases (show u = Value.ref q from ry)
  obtain ⟨its, r1, ⟨o, ho, hc, n, hd⟩, _⟩ := I.tuple (SqT.of (K := X.K) hp)
  obtain ⟨js, r2, ⟨o2, ho2, hc2, n2, hd2⟩, _⟩ := I.tuple (SqT.of (K := X.K) hq)
  have L1 : s.heap.IsTuple p its.toArray := ⟨o, ho, hc, n, hd⟩
  have L2' : s.heap.IsTuple q js.toArray := ⟨o2, ho2, hc2, n2, hd2⟩
  have l1 := r1.length
  have l2 := r2.length
  rw [List.length_nil] at l2
  show wpAny _ _ (richCompare .NotEq (.ref p) (.ref q)) _ _ _
  have j0 : js.toArray.size = 0 := by simp; exact List.eq_nil_of_length_eq_zero l2.symm
  refine SeqAt.RcNeAt.tuples (e := fun _ => true) L1 L2' (by omega) (fun j _ h2 => absurd h2 (by omega)) _ _ _ _ ⟨.bl _, H, I, rfl, ?_⟩
  have i1 : its.toArray.size = xs.length := by simp; omega
  have eq : (!((List.range (min its.toArray.size js.toArray.size)).all (fun _ => true) && its.toArray.size == js.toArray.size)) = !xs.isEmpty := by
    rw [j0, i1]
    cases xs <;> simp
  rw [← eq] at k
  exact k
end
theorem cut_to {xs : List V} {k : Nat} (h : k ≤ xs.length) : cutV xs none (some (k : Int)) = xs.take k := by
  unfold cutV HT.sIx
  have e1 : ((k : Int) < 0) = False := by simp
  have e2 : min ((k : Int).toNat) xs.length = k := by rw [Int.toNat_natCast]; omega
  simp only [e1, if_false, e2, List.drop_zero, Nat.sub_zero]
theorem cut_from {xs : List V} {k : Nat} : cutV xs (some (k : Int)) none = xs.drop k := by
  unfold cutV HT.sIx
  have e1 : ((k : Int) < 0) = False := by simp
  simp only [e1, if_false]
  rw [Int.toNat_natCast]
  by_cases z : k ≤ xs.length
  · rw [Nat.min_eq_left z, List.take_of_length_le]
    rw [List.length_drop]
    exact Nat.le_refl _
  · rw [Nat.min_eq_right (by omega), List.drop_eq_nil_of_le (Nat.le_refl _), List.drop_eq_nil_of_le (by omega), List.take_nil]
theorem cut_mid {xs : List V} {k : Nat} (h : k ≤ xs.length) : cutV xs (some (k : Int)) (some ((k + 1 : Nat) : Int)) = (xs.drop k).take 1 := by
  unfold cutV HT.sIx
  have e1 : ((k : Int) < 0) = False := by simp
  have e0 : (((k + 1 : Nat) : Int) < 0) = False := eq_false (by omega)
  have e2 : min ((k : Int).toNat) xs.length = k := by rw [Int.toNat_natCast]; omega
  simp only [e1, e0, if_false, e2]
  rw [Int.toNat_natCast]
  by_cases z : k = xs.length
  · subst z
    simp
  · have : min (k + 1) xs.length - k = 1 := by omega
    rw [this]
theorem piled_drop (ts : List Str) (i : Nat) : piled (ts.drop i) ≤ piled ts := by
  have := piled_append (ts.take i) (ts.drop i)
  rw [List.take_append_drop] at this
  omega
theorem piled_cut (ts : List Str) (i : Nat) : piled (ts.take i) + piled (ts.drop i) = piled ts := by
  rw [← piled_append, List.take_append_drop]
theorem piled_rev (ts : List Str) : piled ts.reverse = piled ts := by
  induction ts with
  | nil => rfl
  | cons t ts ih =>
    rw [List.reverse_cons, piled_append, ih, piled_cons, piled_cons, piled_nil]
    omega
theorem lt_le' (ts : List Str) : (listText ts).length ≤ piled ts + 3 := by
  have h := listText_len_le ts
  have e : piled ts = (ts.map (·.length)).sum + 2 * ts.length := by
    induction ts with
    | nil => rfl
    | cons t ts ih =>
      have := ih (listText_len_le ts)
      rw [piled_cons, this, List.map_cons, List.sum_cons, List.length_cons]
      omega
  omega
end TV
set_option Elab.async false
set_option linter.all false
set_option maxRecDepth 100000
set_option maxHeartbeats 4000000
/-! RVT: t[::-1] of a tuple -/
namespace RVT
open PySem PySem.Spec PyProof.Rows L2 HT
section
variable {prog : Program} {w : World} {A : Around} {E : Value → Shared → Prop} {s : Shared}
theorem places_rev (n : Nat) : Builtin.Slice.slicePlaces ((n : Int) - 1) (-1) (-1) = n := by
  unfold Builtin.Slice.slicePlaces
  have h1 : ¬ ((-1 : Int) > 0) := by decide
  rw [if_neg h1, show (- -1 : Int) = 1 by decide, Int.ediv_one]
  split <;> omega
theorem applied_rev {sl : Addr} {vs : Value} {n : Nat} {Q : Int × Int × Nat → Shared → Prop} (hs : s.heap.IsSliceOf sl .none .none vs) (ps : IsPart vs (some (-1)))
    (h : Q ((n : Int) - 1, -1, n) s) : wpAny (model prog w) A (Builtin.Slice.sliceApplied (.ref sl) (pure (n : Int))) Q E s := by
  obtain ⟨os, hos, hcs, hds⟩ := id hs
  unfold Builtin.Slice.sliceApplied Builtin.Slice.sliceFields
  refine wpAny_bind (wpAny_bind (wpAny_field hos hds (x := .none) rfl (wpAny_bind (wpAny_field hos hds (x := .none) rfl (wpAny_bind (wpAny_field hos hds (x := vs) rfl (wpAny_pure ?_)))))))
  refine wpAny_bind (slicePart_ ps ?_)
  show wpAny _ _ (if ((-1 : Int) == 0) = true then _ else _) _ _ s
  rw [if_neg (by decide)]
  refine wpAny_bind (slicePart_none (wpAny_bind (slicePart_none (wpAny_bind (wpAny_pure ?_)))))
  show wpAny _ _ (pure (((n : Int) - 1), (-1 : Int), Builtin.Slice.slicePlaces ((n : Int) - 1) (-1) (-1))) _ _ s
  rw [places_rev]
  exact wpAny_pure h
theorem fmc {α β : Type} {f g : α → Option β} : ∀ {l : List α}, (∀ x ∈ l, f x = g x) → l.filterMap f = l.filterMap g
  | [], _ => rfl
  | a :: l, h => by
    rw [List.filterMap_cons, List.filterMap_cons, h a List.mem_cons_self, fmc fun x hx => h x (List.mem_cons_of_mem _ hx)]
theorem pick_rev (xs : Array Value) : ((List.range xs.size).filterMap fun (k : Nat) => xs[(((xs.size : Int) - 1) + (k : Int) * (-1)).toNat]?).toArray = xs.toList.reverse.toArray := by
  have e1 : ((List.range xs.size).filterMap fun (k : Nat) => xs[(((xs.size : Int) - 1) + (k : Int) * (-1)).toNat]?) = (List.range xs.size).filterMap fun k => xs[xs.size - 1 - k]? := by
    refine fmc fun k hk => ?_
    have := List.mem_range.mp hk
    have e : (((xs.size : Int) - 1) + (k : Int) * (-1)).toNat = xs.size - 1 - k := by omega
    rw [e]
  have e2 : ((List.range xs.size).filterMap fun k => xs[xs.size - 1 - k]?) = ((List.range xs.size).map fun k => xs.size - 1 - k).filterMap (xs[·]?) := by
    rw [List.filterMap_map]
    rfl
  rw [e1, e2, PySem.W.krv_range, List.filterMap_reverse, PySem.W.krv_all]
theorem getItem_tuple_rev {t sl : Addr} {items : Array Value} {vs : Value} {Q : Value → Shared → Prop} (ht : IsTup s.heap t items) (hs : s.heap.IsSliceOf sl .none .none vs) (ps : IsPart vs (some (-1)))
    (h : Q (.ref s.heap.objs.size) { s with heap := s.heap.push { cls := .type "tuple", data := .seq items.toList.reverse.toArray } })
    (hsz : items.size ≤ sizeLine) : wpAny (model prog w) A (getItem (.ref t) (.ref sl)) Q E s := by
  have htake : sizeOk (.seq items.toList.reverse.toArray) := by
    show items.toList.reverse.toArray.size ≤ sizeLine
    rw [List.size_toArray, List.length_reverse, Array.length_toList]
    omega
  obtain ⟨os, hos, hcs, hds⟩ := id hs
  have hTs : s.TypeIs (.ref sl) "slice" := ⟨os, hos, hcs⟩
  unfold getItem
  try with_reducible refine wpAny_holding ?_
  first | refine wpAny_bind (wpAny_pure ?_) | skip
  refine wpAny_bind (wpAny_sequenceKey ht.typeIs (by decide) ?_)
  refine wpAny_bind (wpAny_callSpecial?_slot (name := Str.ofString "__getitem__") ht.typeIs PyProof.Rows.slot_tuple_getitem
    (wpAny_call_entry PyProof.Rows.slot_tuple_getitem ht.typeIs entry_tuple_getitem ?_ (args_tuple_getitem _ _)))
  show wpAny _ _ (Builtin.Tuple.tupleItemsOf (.ref t) >>= _) _ _ s
  refine wpAny_bind (tupleItemsOf_ ht ?_)
  refine wpAny_bind (wpAny_typeOf hTs ?_)
  rw [if_pos (by decide)]
  refine wpAny_bind (applied_rev hs ps ?_)
  have hno : ¬ ((((items.size : Int) - 1) == 0 && (-1 : Int) == 1 && items.size == items.size) = true) := by
    intro q
    rw [Bool.and_eq_true, Bool.and_eq_true] at q
    exact absurd q.1.2 (by decide)
  show wpAny _ _ (if (((items.size : Int) - 1) == 0 && (-1 : Int) == 1 && items.size == items.size) = true then _ else _) _ _ s
  rw [if_neg hno, pick_rev]
  first
    | exact wpAny_bind (m := Builtin.Tuple.tupleExact _) (wpAny_newObj_type (wpAny_pure ⟨_, rfl, wpAny_pure h⟩) htake)
    | exact wpAny_bind (m := Builtin.Tuple.tupleExact _) (wpAny_newObj_type (wpAny_bind (wpAny_pure (wpAny_pure ⟨_, rfl, wpAny_pure h⟩))) htake)
    | exact wpAny_bind (wpAny_bind (m := Builtin.Tuple.tupleExact _) (wpAny_newObj_type (wpAny_pure (wpAny_pure ⟨_, rfl, wpAny_pure h⟩)) htake))
    | exact wpAny_bind (wpAny_bind (m := Builtin.Tuple.tupleExact _) (wpAny_newObj_type (wpAny_pure ⟨_, rfl, wpAny_pure h⟩) htake))
end
variable {X : Cx}
def tRevT (K : PySem.W.Frag) (te : TE) : TE := fun σ H Q => te σ H fun x H1 => ∃ a xs, x = .ref a ∧ SqT K H1 a xs ∧ ∀ p, H1 p = none → Q (.ref p) (upd H1 p (.tup xs.reverse))
theorem pe_revT {e : Expr} {te : TE} {k : Nat} {p1 p2 p3 pos : Pos} (he : PE X e te) : PE X (.Subscript e (.Slice none none (some (.UnaryOp .USub (.Constant (.int 1) k p1) p2)) p3) pos) (tRevT X.K te) := by
  refine ⟨fun pins s σ H Q I h => ?_⟩
  refine Subscript_ (thn (he.run pins s σ H _ I h) fun v s1 ⟨x, H1, I1, r1, q1⟩ => ?_)
  obtain ⟨a, xs, ex, hx, q⟩ := q1
  subst ex
  cases r1
  have hst : PO X (some (.UnaryOp .USub (.Constant (.int 1) k p1) p2)) (tPart (tUn (rU fun i => .int (-i)) (tC (.int 1)))) := po_some (pe_un un_neg pe_int)
  refine wpAny_Slice (thn (po_none.run pins s1 σ H1 (fun o H2 => o = none ∧ H2 = H1) I1 ⟨rfl, rfl⟩) fun vl s2 ⟨l, H2, I2, pl, el, e2⟩ => ?_)
  subst el e2
  cases pl
  refine thn (po_none.run pins s2 σ H2 (fun o H3 => o = none ∧ H3 = H2) I2 ⟨rfl, rfl⟩) fun vu s3 ⟨u, H3, I3, pu, eu, e3⟩ => ?_
  subst eu e3
  cases pu
  refine thn (hst.run pins s3 σ H3 (fun o H4 => o = some (-1) ∧ H4 = H3) I3 ⟨1, rfl, -1, rfl, rfl, rfl⟩) fun vs s4 ⟨o, H4, I4, ps, eo, e4⟩ => ?_
  subst eo e4
  have I5 : Inv X pins σ H4 { s4 with heap := s4.heap.push { cls := .type "slice", data := .fields #[.none, .none, vs] } } := I4.kept (t' := s4.toks) fun b ob q => Heap.get?_push_of_some _ q
  obtain ⟨its, r, ht, hz⟩ := I5.tuple hx
  have hlen : its.toArray.size = xs.length := by rw [List.size_toArray]; exact r.length.symm
  show wpAny (model X.prog X.w) X.A (subscriptTail e (.Slice none none (some (.UnaryOp .USub (.Constant (.int 1) k p1) p2)) p3) (.ref a) (.ref s4.heap.objs.size)) (EP X pins σ Q) X.xe { s4 with heap := s4.heap.push { cls := .type "slice", data := .fields #[.none, .none, vs] } }
  refine tail_any (ops := [.ref a, .ref s4.heap.objs.size]) ht.typeIs (PyProof.Rows.slot_tuple_getitem.lookup) ?_ (by with_unfolding_all rfl)
  refine getItem_tuple_rev ht (Heap.IsSliceOf.new _ .none .none vs) ps ?_ (by rw [hlen]; exact hz)
  refine ⟨.ref _, _, I5.laid (t' := s4.toks) (o := .tup xs.reverse) (fun b ob q => Heap.get?_push_of_some _ q) (Nat.le_refl _) ?_, rfl, q _ (I5.hok.fresh (Nat.le_refl _))⟩
  exact ⟨by rw [List.length_reverse]; exact hz, _, r.reverse, IsTup.new _ _⟩
end RVT
set_option Elab.async false
set_option linter.all false
set_option maxRecDepth 100000
set_option maxHeartbeats 4000000
namespace K52
open PySem PySem.Spec PyProof.Rows L2
open C8 (Cal Mak Met pe_c pe_mk pe_mt pe_mt0)
open TV (Tv TvL)
/-- what is kept while the law draws -/
theorem kt_kp {h : Addr} {H H' : Hp} {n : Nat} (k : Kp h H H') (x : Held H h n) : ∀ b o, H b = some o → (∀ ps, o ≠ .tbl ps) → (∀ C dx fs, o ≠ .ins C dx fs) → o = .dK [] ∨ (∃ xs, o = .tup xs) ∨ (∃ xs, o = .lst xs) → H' b = some o := fun b o e _ _ q => k.1 _ _ e fun z => by
  obtain ⟨l, ns, n', m', e1, _⟩ := x
  rw [z, e1] at e
  cases e
  rcases q with q | ⟨_, q⟩ | ⟨_, q⟩
  · exact absurd q (by unfold hd0; simp)
  · cases q
  · cases q
mutual
theorem tv_kp {h : Addr} {H H' : Hp} {c : Nat} (k : Kp h H H') (x : Held H h c) : ∀ {v : V} {d : PyData} {t : Str} {n : Nat}, Tv H v d t n → Tv H' v d t n
  | _, _, _, _, .non => .non
  | _, _, _, _, .bl b => .bl b
  | _, _, _, _, .int h => .int h
  | _, _, _, _, .str h => .str h
  | _, _, _, _, .tup h hs => .tup (kp_tup k x _ _ h) (tvl_kp k x hs)
  | _, _, _, _, .lst0 h => .lst0 (kp_lst k x _ _ h)
  | _, _, _, _, .lst h ne hs => .lst (kp_lst k x _ _ h) ne (tvl_kp k x hs)
  | _, _, _, _, .dct h => .dct (kt_kp k x _ _ h (fun _ z => nomatch z) (fun _ _ _ z => nomatch z) (.inl rfl))
theorem tvl_kp {h : Addr} {H H' : Hp} {c : Nat} (k : Kp h H H') (x : Held H h c) : ∀ {xs : List V} {ds : List PyData} {ts : List Str} {n : Nat}, TvL H xs ds ts n → TvL H' xs ds ts n
  | _, _, _, _, .nil => .nil
  | _, _, _, _, .cons a b => .cons (tv_kp k x a) (tvl_kp k x b)
end
/-- one of the odd things -/
def Odd (H : Hp) (v : V) : Prop := ∃ y t, Tv H v y t 1 ∧ t.length ≤ 150 ∧ (∀ k, Lv k 1 y) ∧ NN y
theorem Odd.same {H H' : Hp} {v : V} (h : Odd H v) (s : Same H H') : Odd H' v := by
  obtain ⟨y, t, a, b, c⟩ := h
  exact ⟨y, t, a.same s, b, c⟩
theorem Odd.kp {h : Addr} {H H' : Hp} {c : Nat} {v : V} (o : Odd H v) (k : Kp h H H') (x : Held H h c) : Odd H' v := by
  obtain ⟨y, t, a, b, d⟩ := o
  exact ⟨y, t, tv_kp k x a, b, d⟩
theorem Odd.nm {H : Hp} {z : Str} (ok : PyData.strOk z = true) (l : z.length ≤ 8) : Odd H (.str z) := ⟨_, _, .str ok, by have := rt_len ok l; omega, (fun k => Lv.flat fun _ e => (nomatch e)), nn_str⟩
theorem Odd.one {H : Hp} {a : Addr} {z : Str} (ok : PyData.strOk z = true) (l : z.length ≤ 8) (h : H a = some (.tup [.str z])) : Odd H (.ref a) := by
  refine ⟨_, _, .tup (n := 0) h (.cons (.str ok) .nil), ?_, lv_tup (by simp) fun k => lv_strs (ws := [z]), nn_tup (nn_strs (ws := [z]))⟩
  have := rt_len ok l
  have b := tt_le [reprText z]
  rw [piled_cons, piled_nil] at b
  omega
theorem Odd.oneL {H : Hp} {a : Addr} {z : Str} (ok : PyData.strOk z = true) (l : z.length ≤ 8) (h : H a = some (.lst [.str z])) : Odd H (.ref a) := by
  refine ⟨_, _, .lst (n := 0) h (List.cons_ne_nil _ _) (.cons (.str ok) .nil), ?_, (fun k => Lv.flat fun _ e => (nomatch e)), nn_lst (hd_strs (ws := [z])) (nn_strs (ws := [z]))⟩
  have := rt_len ok l
  have b := TV.lt_le' [reprText z]
  rw [piled_cons, piled_nil] at b
  omega
/-- what comes out of bending -/
def Bnt (H : Hp) (v : V) (l m n j : Nat) : Prop := ∃ y t, Tv H v y t (n + 1 + j) ∧ t.length ≤ (j + 2) * m + 200 * (j + 1) ∧ (∀ k, Lv k (2 * l + 1) y) ∧ NN y
theorem Bnt.tup {H : Hp} {a : Addr} {xs : List V} {ds : List PyData} {ts : List Str} {l m n j : Nat} (h : H a = some (.tup xs)) (hs : TvL H xs ds ts (n + j)) (dl : ds.length ≤ 2 * l + 1) (lv : ∀ k, ∀ d ∈ ds, Lv k (2 * l + 1) d) (nn : ∀ d ∈ ds, NN d) (pl : piled ts + 3 ≤ (j + 2) * m + 200 * (j + 1)) : Bnt H (.ref a) l m n j := by
  have e : n + 1 + j = (n + j) + 1 := by omega
  refine ⟨.tuple ds, tupleText ts, by rw [e]; exact .tup h hs, Nat.le_trans (tt_le ts) pl, lv_tup dl lv, nn_tup nn⟩
theorem Bnt.lst {H : Hp} {a : Addr} {xs : List V} {ds : List PyData} {ts : List Str} {l m n j : Nat} (h : H a = some (.lst xs)) (hs : TvL H xs ds ts (n + j)) (h0 : ds.head? ≠ some .none) (nn : ∀ d ∈ ds, NN d) (pl : piled ts + 3 ≤ (j + 2) * m + 200 * (j + 1)) : Bnt H (.ref a) l m n j := by
  have e : n + 1 + j = (n + j) + 1 := by omega
  by_cases ne : xs = []
  · subst ne
    refine ⟨.list [], "[]", .lst0 h, ?_, (fun k => Lv.flat fun _ e => (nomatch e)), nn_lst (by simp) fun d hd => nomatch hd⟩
    have : ("[]" : Str).length ≤ 3 := by decide
    omega
  · exact ⟨.list ds, listText ts, by rw [e]; exact .lst h ne hs, Nat.le_trans (TV.lt_le' ts) pl, (fun k => Lv.flat fun _ e => (nomatch e)), nn_lst h0 nn⟩
theorem Odd.bd {H : Hp} {v : V} {l m n j : Nat} (o : Odd H v) (n1 : 1 ≤ n + 1 + j) : Bnt H v l m n j := by
  obtain ⟨y, t, a, b, c⟩ := o
  exact ⟨y, t, a.mono n1, by have := Nat.mul_le_mul_left 200 (show 1 ≤ j + 1 by omega); omega, fun k => (c.1 k).mono (by omega), c.2⟩
theorem Bnt.same {H H' : Hp} {v : V} {l m n j : Nat} (h : Bnt H v l m n j) (s : Same H H') : Bnt H' v l m n j := by
  obtain ⟨y, t, a, b, c⟩ := h
  exact ⟨y, t, a.same s, b, c⟩
theorem Bnt.kp {h : Addr} {H H' : Hp} {c : Nat} {v : V} {l m n j : Nat} (o : Bnt H v l m n j) (k : Kp h H H') (x : Held H h c) : Bnt H' v l m n j := by
  obtain ⟨y, t, a, b, d⟩ := o
  exact ⟨y, t, tv_kp k x a, b, d⟩
section
variable {P : Program} {w : World} {K : PySem.W.Frag} {mg : Str → Option Value} {base : Heap} {f C : Addr} {fd : FuncData}
def spBt (j : Nat) : Sp := fun vs H Q _ => ∃ (h nl : Addr) (u : V) (c : Nat) (xs : List Str) (y : PyData) (tx : Str) (n l m : Nat), vs = [.ref h, .ref nl, u] ∧ Held H h (c + 4 * (j + 1)) ∧ H nl = some (.lst (xs.map V.str)) ∧ xs ≠ [] ∧ (∀ x ∈ xs, PyData.strOk x = true ∧ x.length ≤ 8) ∧
  Tv H u y tx n ∧ 1 ≤ n ∧ Dd j y ∧ tx.length ≤ m ∧ l ≤ 100 ∧ (∀ k, Lv k l y) ∧ NN y ∧ (∀ k, Hh k y) ∧ ∀ (v : V) (H' : Hp), Held H' h c → Kp h H H' → Bnt H' v l m n j → Q v H'
theorem ok_bt0 (F : Dn K d_l_bent f fd) (b : Bl mg) (bt : mg "tuple" = none) (cD : CalD P w K mg base) : FnOk P w K mg base CX0 2 f fd ["_law_held_here", "_law_names_here", "_law_thing"] (spBt 0) := by
  refine F.ok sc_l_bent (fun vs H Q E h => ?_) (fun cdv A outer s H vs Q E hr h => ?_)
  · obtain ⟨_, _, _, _, _, _, _, _, _, _, rfl, _⟩ := h
    rfl
  · obtain ⟨h, nl, u, c, xs, y, tx, n, l, m, rfl, hld, hnl, xne, nms, hv, n1, dd, tl, l100, lvl, nny, hhy, hQ⟩ := h
    have hu65 : (A.deeper (envOfC d_l_bent.qual d_l_bent.scope s.heap.objs.size f cdv)).units + 65 < cLine := by have := hr.un; omega
    refine ⟨_, PSs.nox (C8.pss_cut (ps_set (i := 3) sc_l_bent.nd rfl (.inl rfl) (pe_lst (pa_cons pe_non (pa_cons pe_bl (pa_cons pe_int (pa_cons pe_str (pa_cons pe_str (pa_cons pe_str (pa_cons pe_str (pa_cons (pe_tup pa_nil) (pa_cons (pe_lst pa_nil) (pa_cons pe_dnewK
        (pa_cons (pe_ix (r := rIxL K) ix_list (pv 1) pe_int (fun _ _ => rfl)) (pa_cons pe_str (pa_cons (pe_tup (pa_cons (pe_ix (r := rIxL K) ix_list (pv 1) pe_int (fun _ _ => rfl)) pa_nil)) (pa_cons (pe_lst (pa_cons (pe_ix (r := rIxL K) ix_list (pv 1) pe_int (fun _ _ => rfl)) pa_nil)) pa_nil))))))))))))))))
      (C8.pss_cut (ps_if (PW.pt (pw_and (pt_val (pe_callB call_isi rfl b.isi boot_isinstance (pa_cons (pv 2) (pa_cons (pe_bltn (v := .ty "tuple") rfl bt boot_tuple rfl) pa_nil)))) (pw_and (pt_cmpR (TV.op_neT0 hu65) (pv 2) (pe_tup pa_nil) (nomark _)) (pw_and1 (pt_cmpR op_gt (pe_c cD hr (by omega) rfl (pa_cons (pv 0) (pa_cons pe_int pa_nil))) pe_int (nomark _))))))
        pss_never pss_nil)
      (pss_cons (ps_if (pt_val (pe_callB call_isi rfl b.isi boot_isinstance (pa_cons (pv 2) (pa_cons (pe_bltn (v := .ty "tuple") rfl bt boot_tuple rfl) pa_nil))))
        (C8.pss_cut (ps_set (i := 4) sc_l_bent.nd rfl (.inl rfl) (pe_c cD hr (by omega) rfl (pa_cons (pv 0) (pa_cons (pe_op op_add (pe_callB TI.call_lenK rfl b.len boot_len (pa_cons (pv 2) pa_nil)) pe_int) pa_nil))))
        (C8.pss_cut (ps_set (i := 5) sc_l_bent.nd rfl (.inl rfl) (pe_lst (pa_cons (pe_op TV.op_cat1 (pe_slice TV.sl_tup1 (pv 2) po_none (po_some (pv 4))) (pe_slice TV.sl_tup1 (pv 2) (po_some (pe_op op_add (pv 4) pe_int)) po_none))
            (pa_cons (pe_op TV.op_cat1 (pe_op TV.op_cat1 (pe_slice TV.sl_tup1 (pv 2) po_none (po_some (pv 4))) (pe_slice TV.sl_tup1 (pv 2) (po_some (pv 4)) (po_some (pe_op op_add (pv 4) pe_int)))) (pe_slice TV.sl_tup1 (pv 2) (po_some (pv 4)) po_none))
            (pa_cons (RVT.pe_revT (pv 2)) (pa_cons (pe_callTy call_list_of rfl b.list boot_list (pa_cons (pv 2) pa_nil)) pa_nil))))))
        (C8.pss_cut (ps_expr (pe_bm PySem.F.plainAttrs_list PySem.F.slot_list_append PySem.F.type_list_append mt_append (pv 5) (pa_cons (pe_op TV.op_cat1 (pe_op TV.op_cat1 (pe_slice TV.sl_tup1 (pv 2) po_none (po_some (pv 4))) (pe_tup (pa_cons (pe_ix (r := rIxL K) ix_list (pv 3) (pe_c cD hr (by omega) rfl (pa_cons (pv 0) (pa_cons pe_int pa_nil))) (fun _ _ => rfl)) pa_nil))) (pe_slice TV.sl_tup1 (pv 2) (po_some (pv 4)) po_none)) pa_nil)))
        (pss_one (ps_ret (pe_ix (r := rIxL K) ix_list (pv 5) (pe_c cD hr (by omega) rfl (pa_cons (pv 0) (pa_cons pe_int pa_nil))) (fun _ _ => rfl))))))) pss_nil)
      (pss_one (ps_ret (pe_ix (r := rIxL K) ix_list (pv 3) (pe_c cD hr (by omega) rfl (pa_cons (pv 0) (pa_cons pe_int pa_nil))) (fun _ _ => rfl))))))), ?_⟩
    obtain ⟨x0, xs', rfl⟩ : ∃ x0 xs', xs = x0 :: xs' := by
      cases xs with
      | nil => exact absurd rfl xne
      | cons a b => exact ⟨a, b, rfl⟩
    obtain ⟨ok0, l0⟩ := nms x0 List.mem_cons_self
    have at0 : atI (List.map V.str (x0 :: xs')) 0 = some (.str x0) := atI_nat (j := 0) rfl
    -- the odd ones
    refine ⟨fun σ' H' => ∃ (O : Addr) (os : List V), σ' = [some (.ref h), some (.ref nl), some u, some (.ref O), none, none] ∧ Same H H' ∧ H' O = some (.lst os) ∧ os.length = 14 ∧ ∀ v ∈ os, Odd H' v, ?_, ?_⟩
    · refine ⟨by show 0 ≤ sizeLine; decide, fun e1 f1 => ?_⟩
      have s1 := same_new (o := .tup []) f1
      have he1 : (upd H e1 (.tup [])) e1 = some (.tup []) := upd_same
      generalize upd H e1 (.tup []) = H1 at s1 he1 ⊢
      refine ⟨by show 0 ≤ sizeLine; decide, fun e2 f2 => ?_⟩
      have s2 := same_new (o := .lst []) f2
      have he2 : (upd H1 e2 (.lst [])) e2 = some (.lst []) := upd_same
      generalize upd H1 e2 (.lst []) = H2 at s2 he2 ⊢
      intro e3 f3
      have s3 := same_new (o := .dK []) f3
      have he3 : (upd H2 e3 (.dK [])) e3 = some (.dK []) := upd_same
      generalize upd H2 e3 (.dK []) = H3 at s3 he3 ⊢
      have hnl3 := ((s1.trans s2).trans s3) _ _ hnl
      refine ⟨_, rfl, nl, _, _, _, rfl, rfl, SqL.of hnl3, at0, _, rfl, nl, _, _, _, rfl, rfl, SqL.of hnl3, at0, by show 1 ≤ sizeLine; decide, fun e4 f4 => ?_⟩
      have s4 := same_new (o := .tup [.str x0]) f4
      have he4 : (upd H3 e4 (.tup [.str x0])) e4 = some (.tup [.str x0]) := upd_same
      have hnl4 := s4 _ _ hnl3
      refine ⟨_, rfl, nl, _, _, _, rfl, rfl, SqL.of hnl4, at0, by show 1 ≤ sizeLine; decide, fun e5 f5 => ?_⟩
      have s5 := same_new (o := .lst [.str x0]) f5
      have he5 : (upd (upd H3 e4 (.tup [.str x0])) e5 (.lst [.str x0])) e5 = some (.lst [.str x0]) := upd_same
      refine ⟨by show 14 ≤ sizeLine; decide, fun O fO => ?_⟩
      have s6 := same_new (o := .lst [.non, .bl true, .int 0, .str "", .str "part", .str "few", .str "crowd", .ref e1, .ref e2, .ref e3, .str x0, .str "none9", .ref e4, .ref e5]) fO
      have s46 := s5.trans s6
      have s36 := s4.trans s46
      refine ⟨O, _, rfl, ((s1.trans s2).trans s3).trans s36, upd_same, rfl, fun v hv => ?_⟩
      have o1 := s36 _ _ (s3 _ _ (s2 _ _ he1))
      have o2 := s36 _ _ (s3 _ _ he2)
      have o3 := s36 _ _ he3
      have o4 := s46 _ _ he4
      have o5 := s6 _ _ he5
      have nmo : ∀ z : Str, PyData.strOk z = true → z.length ≤ 8 → Odd _ (.str z) := fun z a b => Odd.nm (H := upd (upd (upd H3 e4 (.tup [.str x0])) e5 (.lst [.str x0])) O (.lst [.non, .bl true, .int 0, .str "", .str "part", .str "few", .str "crowd", .ref e1, .ref e2, .ref e3, .str x0, .str "none9", .ref e4, .ref e5])) a b
      simp only [List.mem_cons, List.not_mem_nil, or_false] at hv
      rcases hv with rfl | rfl | rfl | rfl | rfl | rfl | rfl | rfl | rfl | rfl | rfl | rfl | rfl | rfl
      · exact ⟨_, _, .non, by decide, (fun k => Lv.flat fun _ e => (nomatch e)), by unfold NN; trivial⟩
      · exact ⟨_, _, .bl true, by decide, (fun k => Lv.flat fun _ e => (nomatch e)), by unfold NN; trivial⟩
      · exact ⟨_, _, .int (i := 0) (by decide), by decide +kernel, (fun k => Lv.flat fun _ e => (nomatch e)), by unfold NN; trivial⟩
      · exact nmo "" (by decide +kernel) (by decide +kernel)
      · exact nmo "part" (by decide +kernel) (by decide +kernel)
      · exact nmo "few" (by decide +kernel) (by decide +kernel)
      · exact nmo "crowd" (by decide +kernel) (by decide +kernel)
      · exact ⟨_, _, .tup (n := 0) o1 .nil, by decide +kernel, lv_tup (by decide) (fun k d hd => absurd hd List.not_mem_nil), nn_tup fun d hd => absurd hd List.not_mem_nil⟩
      · exact ⟨_, _, .lst0 o2, by decide +kernel, (fun k => Lv.flat fun _ e => (nomatch e)), nn_lst (by simp) fun d hd => absurd hd List.not_mem_nil⟩
      · exact ⟨_, _, .dct (n := 0) o3, by decide +kernel, (fun k => Lv.flat fun _ e => (nomatch e)), by unfold NN; trivial⟩
      · exact nmo x0 ok0 l0
      · exact nmo "none9" (by decide +kernel) (by decide +kernel)
      · exact Odd.one ok0 l0 o4
      · exact Odd.oneL ok0 l0 o5
    rintro σ' H1 ⟨O, os, rfl, s1, hO, ol, oo⟩
    have hv1 := hv.same s1
    have held1 := hld.same s1
    have k1 : Kp h H H1 := Kp.same s1
    have hnl1 := s1 _ _ hnl
    have odd1 : ∀ (c1 c2 : Nat) (H2 : Hp), Held H2 h c1 → Kp h H1 H2 → ∀ (i : Int) (H3 : Hp), 0 ≤ i → i < 14 → Held H3 h c2 → Kp h H2 H3 → ∃ v, SqL K H3 O os ∧ atI os i = some v ∧ Odd H3 v ∧ v ∈ os := fun c1 c2 H2 held2 k2 i H3 i0 i14 held3 k3 => by
      obtain ⟨q, rfl⟩ := Int.eq_ofNat_of_zero_le i0
      have hq : q < os.length := by omega
      refine ⟨os[q], SqL.of (kp_lst k3 held2 _ _ (kp_lst k2 held1 _ _ hO)), atI_nat (List.getElem?_eq_getElem hq), ?_⟩
      exact ⟨((oo _ (List.getElem_mem hq)).kp k2 held1).kp k3 held2, List.getElem_mem hq⟩
    have lz : ∀ {n : Nat}, n ≤ 300 → n ≤ sizeLine := fun {n} h => Nat.le_trans h (by decide)
    -- the first way
    obtain ⟨T0, ty0, kt0⟩ := hv1.tyT (K := K)
    refine ⟨fun σ' H' => σ' = [some (.ref h), some (.ref nl), some u, some (.ref O), none, none] ∧ Held H' h (c + 3) ∧ Kp h H1 H', ?_, ?_⟩
    · refine ⟨_, rfl, _, _, _, _, _, rfl, ClsV.ty _, ty0, kt0, _, rfl, ?_⟩
      refine ite2 (fun cT => ?_) (fun _ => ⟨rfl, held1.weak (by omega), Kp.refl _ _⟩)
      obtain ⟨ds, rfl⟩ := TV.isT_iff.mp cT
      obtain ⟨a, vs, ts, n', rfl, ha, hs, rfl, rfl⟩ := hv1.tup_of
      obtain ⟨lx, _⟩ := hs.len
      have dl : ds.length ≤ l := (lvl 1 ds rfl).1
      refine ⟨_, rfl, by show 0 ≤ sizeLine; decide, fun e fe => ?_⟩
      have se := same_new (o := .tup []) fe
      have he : (upd H1 e (.tup [])) e = some (.tup []) := upd_same
      have ha2 := se _ _ ha
      have held2 := held1.same se
      have k2 : Kp h H1 (upd H1 e (.tup [])) := Kp.same se
      generalize upd H1 e (.tup []) = H2 at he ha2 held2 k2 ⊢
      refine ⟨a, e, vs, rfl, rfl, ha2, he, _, rfl, ?_⟩
      refine ite2 (fun cn => ?_) (fun _ => ⟨rfl, held2.weak (by omega), k2⟩)
      have vne : vs ≠ [] := fun z => by rw [z] at cn; cases cn
      refine ⟨_, rfl, h, c + 4 * (0 + 1) - 1, 3, rfl, held2.weak (by omega), by decide, by decide, fun r H3 r0 r3 held3 k3 => ⟨_, _, rfl, rfl, _, rfl, ?_⟩⟩
      refine ite2 (fun _ => ?_) (fun _ => ⟨rfl, held3.weak (by omega), k2.trans k3⟩)
      have d0 : ds = [] := dd ds rfl
      exact absurd (List.eq_nil_of_length_eq_zero (by rw [lx, d0]; rfl)) vne
    -- the second way
    rintro σ' H2 ⟨rfl, held2, k2⟩
    have hv2 := tv_kp k2 held1 hv1
    obtain ⟨T2, ty2, kt2⟩ := hv2.tyT (K := K)
    refine ⟨_, rfl, _, _, _, _, _, rfl, ClsV.ty _, ty2, kt2, _, rfl, ?_⟩
    refine ite2 (fun cT => ?_) (fun cT => ?_)
    · obtain ⟨ds, rfl⟩ := TV.isT_iff.mp cT
      obtain ⟨a, vs, ts, n', rfl, ha, hs, rfl, rfl⟩ := hv2.tup_of
      obtain ⟨lx, _⟩ := hs.len
      have dl : ds.length ≤ l := (lvl 1 ds rfl).1
      have lvd : ∀ k, ∀ d ∈ ds, Lv k (2 * l + 1) d := fun k d hd => ((lvl (k + 1) ds rfl).2 d hd).mono (by omega)
      have nnd := nn_of_tup nny
      have ptl : piled ts ≤ m := Nat.le_trans (piled_le_tupleText ts) tl
      have jm : ∀ q : Nat, q ≤ 2 * m + 190 → q ≤ (0 + 2) * m + 200 * (0 + 1) := fun q hq => by
        have e1 : 2 * m ≤ (0 + 2) * m := Nat.mul_le_mul_right m (by omega)
        have e2 := Nat.mul_le_mul_left 200 (show 1 ≤ 0 + 1 by omega)
        omega
      refine ⟨fun σ' H' => ∃ q : Nat, σ' = [some (.ref h), some (.ref nl), some (.ref a), some (.ref O), some (.int (q : Nat)), none] ∧ q ≤ vs.length ∧ Held H' h (c + 2) ∧ Kp h H2 H', ?_, ?_⟩
      · refine ⟨_, rfl, _, rfl, a, _, rfl, .inr (SqT.of ha), _, _, rfl, rfl, h, c + 2, _, rfl, held2, by omega, by omega, fun q H3 q0 qn held3 k3 => ?_⟩
        obtain ⟨q, rfl⟩ := Int.eq_ofNat_of_zero_le q0
        exact ⟨q, rfl, by omega, held3, k3⟩
      rintro σ' H3 ⟨q, rfl, ql, held3, k3⟩
      have e1 : (q : Int) + 1 = ((q + 1 : Nat) : Int) := by omega
      have ha3 := kp_tup k3 held2 _ _ ha
      have hs3 := (tvl_kp k3 held2 hs).mono (show n' ≤ n' + 1 + 0 by omega)
      refine ⟨fun σ' H' => ∃ (O2 : Addr) (ws : List V) (Hb : Hp), σ' = [some (.ref h), some (.ref nl), some (.ref a), some (.ref O), some (.int (q : Nat)), some (.ref O2)] ∧ Held H' h (c + 2) ∧ Kp h H3 H' ∧ H' O2 = some (.lst ws) ∧ ws.length = 4 ∧ Cel h O2 H' ∧ Held Hb h (c + 2) ∧ Hb O2 = none ∧ Kp h Hb H' ∧ Kp h H3 Hb ∧ H3 O2 = none ∧ ∀ v ∈ ws, Bnt Hb v l m (n' + 1) 0, ?_, ?_⟩
      · refine ⟨_, rfl, _, rfl, _, rfl, a, vs, rfl, ha3, fun p1 H4 s4 hp1 => ?_⟩
        rw [TV.cut_to ql] at hp1
        refine ⟨_, rfl, _, rfl, _, _, rfl, rfl, _, rfl, a, vs, rfl, s4 _ _ ha3, fun p2 H5 s5 hp2 => ?_⟩
        rw [e1, TV.cut_from] at hp2
        refine ⟨p1, p2, _, _, rfl, rfl, s5 _ _ hp1, hp2, lz (by rw [List.length_take, List.length_drop]; omega), fun r1 H6 s6 hr1 => ?_⟩
        have s36 := (s4.trans s5).trans s6
        refine ⟨_, rfl, _, rfl, _, rfl, a, vs, rfl, s36 _ _ ha3, fun p3 H7 s7 hp3 => ?_⟩
        rw [TV.cut_to ql] at hp3
        have s37 := s36.trans s7
        refine ⟨_, rfl, _, rfl, _, rfl, _, rfl, _, _, rfl, rfl, _, rfl, a, vs, rfl, s37 _ _ ha3, fun p4 H8 s8 hp4 => ?_⟩
        rw [e1, TV.cut_mid ql] at hp4
        refine ⟨p3, p4, _, _, rfl, rfl, s8 _ _ hp3, hp4, lz (by rw [List.length_take, List.length_take, List.length_drop]; omega), fun p5 H9 s9 hp5 => ?_⟩
        have s39 := (s37.trans s8).trans s9
        refine ⟨_, rfl, _, rfl, _, rfl, a, vs, rfl, s39 _ _ ha3, fun p6 Ha sa hp6 => ?_⟩
        rw [TV.cut_from] at hp6
        refine ⟨p5, p6, _, _, rfl, rfl, sa _ _ hp5, hp6, lz (by rw [List.length_append, List.length_take, List.length_take, List.length_drop]; omega), fun r2 Hb sb hr2 => ?_⟩
        have s3b := (s39.trans sa).trans sb
        refine ⟨_, rfl, a, vs, rfl, SqT.of (s3b _ _ ha3), fun r3 fr3 => ?_⟩
        have sr3 := same_new (o := .tup vs.reverse) fr3
        have hr3 : (upd Hb r3 (.tup vs.reverse)) r3 = some (.tup vs.reverse) := upd_same
        generalize upd Hb r3 (.tup vs.reverse) = Hc at sr3 hr3 ⊢
        refine ⟨_, rfl, a, vs, rfl, .inr (SqT.of (sr3 _ _ (s3b _ _ ha3))), fun r4 fr4 => ?_⟩
        have sr4 := same_new (o := .lst vs) fr4
        have hr4 : (upd Hc r4 (.lst vs)) r4 = some (.lst vs) := upd_same
        generalize upd Hc r4 (.lst vs) = Hd at sr4 hr4 ⊢
        refine ⟨by show 4 ≤ sizeLine; decide, fun O2 fO2 => ?_⟩
        have s3d := (s3b.trans sr3).trans sr4
        have so := same_new (o := .lst [.ref r1, .ref r2, .ref r3, .ref r4]) fO2
        have heldd := held3.same s3d
        have hsd := hs3.same s3d
        have s6b := (((s7.trans s8).trans s9).trans sa).trans sb
        have pc := TV.piled_cut ts q
        have pd := TV.piled_drop ts (q + 1)
        have pm1 : piled ((ts.drop q).take 1) ≤ piled (ts.drop q) := piled_take_le _ _
        refine ⟨O2, _, Hd, rfl, heldd.same so, (Kp.same s3d).trans (Kp.same so), upd_same, rfl, (Cel.of heldd fO2).kp (Kp.same so), heldd, fO2, Kp.same so, Kp.same s3d, s3d.free fO2, fun v hv => ?_⟩
        simp only [List.mem_cons, List.not_mem_nil, or_false] at hv
        rcases hv with rfl | rfl | rfl | rfl
        · exact Bnt.tup (sr4 _ _ (sr3 _ _ (s6b _ _ hr1))) (hsd.take.app hsd.drop) (by rw [List.length_append, List.length_take, List.length_drop]; omega) (fun k d hd => by
            rcases List.mem_append.mp hd with hd | hd
            · exact lvd k d (List.mem_of_mem_take hd)
            · exact lvd k d (List.mem_of_mem_drop hd)) (fun d hd => by
            rcases List.mem_append.mp hd with hd | hd
            · exact nnd d (List.mem_of_mem_take hd)
            · exact nnd d (List.mem_of_mem_drop hd)) (jm _ (by rw [piled_append]; omega))
        · exact Bnt.tup (sr4 _ _ (sr3 _ _ hr2)) ((hsd.take.app hsd.drop.take).app hsd.drop) (by rw [List.length_append, List.length_append, List.length_take, List.length_take, List.length_drop]; omega) (fun k d hd => by
            rcases List.mem_append.mp hd with hd | hd
            · rcases List.mem_append.mp hd with hd | hd
              · exact lvd k d (List.mem_of_mem_take hd)
              · exact lvd k d (List.mem_of_mem_drop (List.mem_of_mem_take hd))
            · exact lvd k d (List.mem_of_mem_drop hd)) (fun d hd => by
            rcases List.mem_append.mp hd with hd | hd
            · rcases List.mem_append.mp hd with hd | hd
              · exact nnd d (List.mem_of_mem_take hd)
              · exact nnd d (List.mem_of_mem_drop (List.mem_of_mem_take hd))
            · exact nnd d (List.mem_of_mem_drop hd)) (jm _ (by rw [piled_append, piled_append]; omega))
        · exact Bnt.tup (sr4 _ _ hr3) hsd.rev (by rw [List.length_reverse]; omega) (fun k d hd => lvd k d (List.mem_reverse.mp hd)) (fun d hd => nnd d (List.mem_reverse.mp hd)) (jm _ (by rw [TV.piled_rev]; omega))
        · exact Bnt.lst hr4 hsd (hhy 1 ds rfl).1 nnd (jm _ (by omega))
      rintro σ' H4 ⟨O2, ws, Hb, rfl, held4, k4, hO2, wl, ce4, heldb, fb, kb, k3b, f3, wb⟩
      have ha4 := kp_tup k4 held3 _ _ ha3
      have hs4 := tvl_kp k4 held3 hs3
      have k14 := (k2.trans k3).trans k4
      refine ⟨fun σ' H' => ∃ ws : List V, σ' = [some (.ref h), some (.ref nl), some (.ref a), some (.ref O), some (.int (q : Nat)), some (.ref O2)] ∧ Held H' h (c + 1) ∧ Kp h H3 H' ∧ H' O2 = some (.lst ws) ∧ ws.length = 5 ∧ ∀ v ∈ ws, Bnt H' v l m (n' + 1) 0, ?_, ?_⟩
      · refine ⟨_, rfl, Or.inl ⟨rfl, _, SqL.of hO2⟩, _, rfl, _, rfl, _, rfl, a, vs, rfl, ha4, fun p1 H5 s5 hp1 => ?_⟩
        rw [TV.cut_to ql] at hp1
        have held5 := held4.same s5
        refine ⟨_, rfl, _, rfl, h, c + 1, 14, rfl, held5, by decide, by decide, fun i H6 i0 i14 held6 k6 => ?_⟩
        obtain ⟨v, hl, hat, ov, vm⟩ := odd1 _ _ H5 held5 (k14.trans (Kp.same s5)) i H6 i0 i14 held6 k6
        refine ⟨O, _, _, v, rfl, rfl, hl, hat, by show 1 ≤ sizeLine; decide, fun t1 ft1 => ?_⟩
        have st1 := same_new (o := .tup [v]) ft1
        have ht1 : (upd H6 t1 (.tup [v])) t1 = some (.tup [v]) := upd_same
        have held7 := held6.same st1
        have ov7 := ov.same st1
        have k57 := k6.trans (Kp.same st1)
        generalize upd H6 t1 (.tup [v]) = H7 at ht1 held7 ov7 k57 ⊢
        have k47 := (Kp.same s5).trans k57
        refine ⟨p1, t1, _, _, rfl, rfl, kp_tup k57 held5 _ _ hp1, ht1, lz (by rw [List.length_take]; simp; omega), fun p2 H8 s8 hp2 => ?_⟩
        have k48 := k47.trans (Kp.same s8)
        refine ⟨_, rfl, _, rfl, _, rfl, a, vs, rfl, kp_tup k48 held4 _ _ ha4, fun p3 H9 s9 hp3 => ?_⟩
        rw [TV.cut_from] at hp3
        refine ⟨p2, p3, _, _, rfl, rfl, s9 _ _ hp2, hp3, lz (by rw [List.length_append, List.length_take, List.length_drop]; simp; omega), fun p4 Ha sa hp4 => ?_⟩
        have k4a := (k48.trans (Kp.same s9)).trans (Kp.same sa)
        have helda := ((held7.same s8).same s9).same sa
        have hO2a := k4a.1 _ _ hO2 ce4.ne
        have cea := ce4.kp k4a
        have neP : p4 ≠ O2 := fun z => by rw [z, hO2a] at hp4; cases hp4
        have kf : Kp h Hb (upd Ha O2 (.lst (ws ++ [.ref p4]))) := (kb.trans k4a).new fb
        have hp4f : (upd Ha O2 (.lst (ws ++ [.ref p4]))) p4 = some (.tup (vs.take q ++ [v] ++ vs.drop q)) := by rw [upd_ne neP]; exact hp4
        have hsf := tvl_kp kf heldb (tvl_kp k3b held3 hs3)
        obtain ⟨yo, to, tvo, lo, lvo, nno⟩ := ((oo v vm).kp ((k2.trans k3).trans k3b) held1).kp kf heldb
        refine ⟨O2, _, _, rfl, rfl, hO2a, by rw [wl]; decide, ws ++ [.ref p4], rfl, helda.put cea, (k4.trans k4a).new f3, upd_same, by rw [List.length_append, wl]; rfl, fun v' hv' => ?_⟩
        rcases List.mem_append.mp hv' with hv' | hv'
        · exact (wb v' hv').kp kf heldb
        · rw [List.mem_singleton.mp hv']
          refine Bnt.tup hp4f ((hsf.take.app (.cons (tvo.mono (by omega)) .nil)).app hsf.drop) (by rw [List.length_append, List.length_append, List.length_take, List.length_drop]; simp; omega) (fun k d hd => ?_) (fun d hd => ?_) (jm _ ?_)
          · rcases List.mem_append.mp hd with hd | hd
            · rcases List.mem_append.mp hd with hd | hd
              · exact lvd k d (List.mem_of_mem_take hd)
              · rw [List.mem_singleton.mp hd]
                exact (lvo k).mono (by omega)
            · exact lvd k d (List.mem_of_mem_drop hd)
          · rcases List.mem_append.mp hd with hd | hd
            · rcases List.mem_append.mp hd with hd | hd
              · exact nnd d (List.mem_of_mem_take hd)
              · rw [List.mem_singleton.mp hd]
                exact nno
            · exact nnd d (List.mem_of_mem_drop hd)
          · have pc := TV.piled_cut ts q
            rw [piled_append, piled_append, piled_cons, piled_nil]
            omega
      rintro σ' H5 ⟨ws, rfl, held5, k5, hO5, wl5, wb5⟩
      refine ⟨_, rfl, _, rfl, h, c, 5, rfl, held5.weak (by omega), by decide, by decide, fun i H6 i0 i5 held6 k6 => ?_⟩
      obtain ⟨q5, rfl⟩ := Int.eq_ofNat_of_zero_le i0
      have hq5 : q5 < ws.length := by omega
      exact ⟨O2, _, _, ws[q5], rfl, rfl, SqL.of (kp_lst k6 held5 _ _ hO5), atI_nat (List.getElem?_eq_getElem hq5), hQ _ H6 held6 ((((k1.trans k2).trans k3).trans k5).trans k6) ((wb5 _ (List.getElem_mem hq5)).kp k6 held5)⟩
    · refine ⟨_, rfl, _, rfl, h, c, 14, rfl, held2.weak (by omega), by decide, by decide, fun i H3 i0 i14 held3 k3 => ?_⟩
      obtain ⟨v, a, b, o, _⟩ := odd1 _ _ H2 held2 k2 i H3 i0 i14 held3 k3
      exact ⟨O, _, _, v, rfl, rfl, a, b, hQ v H3 held3 ((k1.trans k2).trans k3) (o.bd (by omega))⟩
theorem ok_btS {j : Nat} (F : Dn K d_l_bent f fd) (b : Bl mg) (bt : mg "tuple" = none) (cD : CalD P w K mg base) (cB : Cal P w K mg base (2 + j) "_law_bent" (spBt j) []) : FnOk P w K mg base CX0 (2 + j + 1) f fd ["_law_held_here", "_law_names_here", "_law_thing"] (spBt (j + 1)) := by
  refine F.ok sc_l_bent (fun vs H Q E h => ?_) (fun cdv A outer s H vs Q E hr h => ?_)
  · obtain ⟨_, _, _, _, _, _, _, _, _, _, rfl, _⟩ := h
    rfl
  · obtain ⟨h, nl, u, c, xs, y, tx, n, l, m, rfl, hld, hnl, xne, nms, hv, n1, dd, tl, l100, lvl, nny, hhy, hQ⟩ := h
    have hu65 : (A.deeper (envOfC d_l_bent.qual d_l_bent.scope s.heap.objs.size f cdv)).units + 65 < cLine := by have := hr.un; omega
    refine ⟨_, PSs.nox (C8.pss_cut (ps_set (i := 3) sc_l_bent.nd rfl (.inl rfl) (pe_lst (pa_cons pe_non (pa_cons pe_bl (pa_cons pe_int (pa_cons pe_str (pa_cons pe_str (pa_cons pe_str (pa_cons pe_str (pa_cons (pe_tup pa_nil) (pa_cons (pe_lst pa_nil) (pa_cons pe_dnewK
        (pa_cons (pe_ix (r := rIxL K) ix_list (pv 1) pe_int (fun _ _ => rfl)) (pa_cons pe_str (pa_cons (pe_tup (pa_cons (pe_ix (r := rIxL K) ix_list (pv 1) pe_int (fun _ _ => rfl)) pa_nil)) (pa_cons (pe_lst (pa_cons (pe_ix (r := rIxL K) ix_list (pv 1) pe_int (fun _ _ => rfl)) pa_nil)) pa_nil))))))))))))))))
      (C8.pss_cut (ps_if (PW.pt (pw_and (pt_val (pe_callB call_isi rfl b.isi boot_isinstance (pa_cons (pv 2) (pa_cons (pe_bltn (v := .ty "tuple") rfl bt boot_tuple rfl) pa_nil)))) (pw_and (pt_cmpR (TV.op_neT0 hu65) (pv 2) (pe_tup pa_nil) (nomark _)) (pw_and1 (pt_cmpR op_gt (pe_c cD hr (by omega) rfl (pa_cons (pv 0) (pa_cons pe_int pa_nil))) pe_int (nomark _))))))
        (C8.pss_cut (ps_set (i := 4) sc_l_bent.nd rfl (.inl rfl) (pe_c cD hr (by omega) rfl (pa_cons (pv 0) (pa_cons (pe_callB TI.call_lenK rfl b.len boot_len (pa_cons (pv 2) pa_nil)) pa_nil))))
        (pss_one (ps_ret (pe_op TV.op_cat1 (pe_op TV.op_cat1 (pe_slice TV.sl_tup1 (pv 2) po_none (po_some (pv 4))) (pe_tup (pa_cons (pe_c cB hr (by omega) rfl (pa_cons (pv 0) (pa_cons (pv 1) (pa_cons (pe_ix (r := rIxT K) ix_tup (pv 2) (pv 4) (fun _ _ => rfl)) pa_nil)))) pa_nil))) (pe_slice TV.sl_tup1 (pv 2) (po_some (pe_op op_add (pv 4) pe_int)) po_none))))) pss_nil)
      (pss_cons (ps_if (pt_val (pe_callB call_isi rfl b.isi boot_isinstance (pa_cons (pv 2) (pa_cons (pe_bltn (v := .ty "tuple") rfl bt boot_tuple rfl) pa_nil))))
        (C8.pss_cut (ps_set (i := 4) sc_l_bent.nd rfl (.inl rfl) (pe_c cD hr (by omega) rfl (pa_cons (pv 0) (pa_cons (pe_op op_add (pe_callB TI.call_lenK rfl b.len boot_len (pa_cons (pv 2) pa_nil)) pe_int) pa_nil))))
        (C8.pss_cut (ps_set (i := 5) sc_l_bent.nd rfl (.inl rfl) (pe_lst (pa_cons (pe_op TV.op_cat1 (pe_slice TV.sl_tup1 (pv 2) po_none (po_some (pv 4))) (pe_slice TV.sl_tup1 (pv 2) (po_some (pe_op op_add (pv 4) pe_int)) po_none))
            (pa_cons (pe_op TV.op_cat1 (pe_op TV.op_cat1 (pe_slice TV.sl_tup1 (pv 2) po_none (po_some (pv 4))) (pe_slice TV.sl_tup1 (pv 2) (po_some (pv 4)) (po_some (pe_op op_add (pv 4) pe_int)))) (pe_slice TV.sl_tup1 (pv 2) (po_some (pv 4)) po_none))
            (pa_cons (RVT.pe_revT (pv 2)) (pa_cons (pe_callTy call_list_of rfl b.list boot_list (pa_cons (pv 2) pa_nil)) pa_nil))))))
        (C8.pss_cut (ps_expr (pe_bm PySem.F.plainAttrs_list PySem.F.slot_list_append PySem.F.type_list_append mt_append (pv 5) (pa_cons (pe_op TV.op_cat1 (pe_op TV.op_cat1 (pe_slice TV.sl_tup1 (pv 2) po_none (po_some (pv 4))) (pe_tup (pa_cons (pe_ix (r := rIxL K) ix_list (pv 3) (pe_c cD hr (by omega) rfl (pa_cons (pv 0) (pa_cons pe_int pa_nil))) (fun _ _ => rfl)) pa_nil))) (pe_slice TV.sl_tup1 (pv 2) (po_some (pv 4)) po_none)) pa_nil)))
        (pss_one (ps_ret (pe_ix (r := rIxL K) ix_list (pv 5) (pe_c cD hr (by omega) rfl (pa_cons (pv 0) (pa_cons pe_int pa_nil))) (fun _ _ => rfl))))))) pss_nil)
      (pss_one (ps_ret (pe_ix (r := rIxL K) ix_list (pv 3) (pe_c cD hr (by omega) rfl (pa_cons (pv 0) (pa_cons pe_int pa_nil))) (fun _ _ => rfl))))))), ?_⟩
    obtain ⟨x0, xs', rfl⟩ : ∃ x0 xs', xs = x0 :: xs' := by
      cases xs with
      | nil => exact absurd rfl xne
      | cons a b => exact ⟨a, b, rfl⟩
    obtain ⟨ok0, l0⟩ := nms x0 List.mem_cons_self
    have at0 : atI (List.map V.str (x0 :: xs')) 0 = some (.str x0) := atI_nat (j := 0) rfl
    -- the odd ones
    refine ⟨fun σ' H' => ∃ (O : Addr) (os : List V), σ' = [some (.ref h), some (.ref nl), some u, some (.ref O), none, none] ∧ Same H H' ∧ H' O = some (.lst os) ∧ os.length = 14 ∧ ∀ v ∈ os, Odd H' v, ?_, ?_⟩
    · refine ⟨by show 0 ≤ sizeLine; decide, fun e1 f1 => ?_⟩
      have s1 := same_new (o := .tup []) f1
      have he1 : (upd H e1 (.tup [])) e1 = some (.tup []) := upd_same
      generalize upd H e1 (.tup []) = H1 at s1 he1 ⊢
      refine ⟨by show 0 ≤ sizeLine; decide, fun e2 f2 => ?_⟩
      have s2 := same_new (o := .lst []) f2
      have he2 : (upd H1 e2 (.lst [])) e2 = some (.lst []) := upd_same
      generalize upd H1 e2 (.lst []) = H2 at s2 he2 ⊢
      intro e3 f3
      have s3 := same_new (o := .dK []) f3
      have he3 : (upd H2 e3 (.dK [])) e3 = some (.dK []) := upd_same
      generalize upd H2 e3 (.dK []) = H3 at s3 he3 ⊢
      have hnl3 := ((s1.trans s2).trans s3) _ _ hnl
      refine ⟨_, rfl, nl, _, _, _, rfl, rfl, SqL.of hnl3, at0, _, rfl, nl, _, _, _, rfl, rfl, SqL.of hnl3, at0, by show 1 ≤ sizeLine; decide, fun e4 f4 => ?_⟩
      have s4 := same_new (o := .tup [.str x0]) f4
      have he4 : (upd H3 e4 (.tup [.str x0])) e4 = some (.tup [.str x0]) := upd_same
      have hnl4 := s4 _ _ hnl3
      refine ⟨_, rfl, nl, _, _, _, rfl, rfl, SqL.of hnl4, at0, by show 1 ≤ sizeLine; decide, fun e5 f5 => ?_⟩
      have s5 := same_new (o := .lst [.str x0]) f5
      have he5 : (upd (upd H3 e4 (.tup [.str x0])) e5 (.lst [.str x0])) e5 = some (.lst [.str x0]) := upd_same
      refine ⟨by show 14 ≤ sizeLine; decide, fun O fO => ?_⟩
      have s6 := same_new (o := .lst [.non, .bl true, .int 0, .str "", .str "part", .str "few", .str "crowd", .ref e1, .ref e2, .ref e3, .str x0, .str "none9", .ref e4, .ref e5]) fO
      have s46 := s5.trans s6
      have s36 := s4.trans s46
      refine ⟨O, _, rfl, ((s1.trans s2).trans s3).trans s36, upd_same, rfl, fun v hv => ?_⟩
      have o1 := s36 _ _ (s3 _ _ (s2 _ _ he1))
      have o2 := s36 _ _ (s3 _ _ he2)
      have o3 := s36 _ _ he3
      have o4 := s46 _ _ he4
      have o5 := s6 _ _ he5
      have nmo : ∀ z : Str, PyData.strOk z = true → z.length ≤ 8 → Odd _ (.str z) := fun z a b => Odd.nm (H := upd (upd (upd H3 e4 (.tup [.str x0])) e5 (.lst [.str x0])) O (.lst [.non, .bl true, .int 0, .str "", .str "part", .str "few", .str "crowd", .ref e1, .ref e2, .ref e3, .str x0, .str "none9", .ref e4, .ref e5])) a b
      simp only [List.mem_cons, List.not_mem_nil, or_false] at hv
      rcases hv with rfl | rfl | rfl | rfl | rfl | rfl | rfl | rfl | rfl | rfl | rfl | rfl | rfl | rfl
      · exact ⟨_, _, .non, by decide, (fun k => Lv.flat fun _ e => (nomatch e)), by unfold NN; trivial⟩
      · exact ⟨_, _, .bl true, by decide, (fun k => Lv.flat fun _ e => (nomatch e)), by unfold NN; trivial⟩
      · exact ⟨_, _, .int (i := 0) (by decide), by decide +kernel, (fun k => Lv.flat fun _ e => (nomatch e)), by unfold NN; trivial⟩
      · exact nmo "" (by decide +kernel) (by decide +kernel)
      · exact nmo "part" (by decide +kernel) (by decide +kernel)
      · exact nmo "few" (by decide +kernel) (by decide +kernel)
      · exact nmo "crowd" (by decide +kernel) (by decide +kernel)
      · exact ⟨_, _, .tup (n := 0) o1 .nil, by decide +kernel, lv_tup (by decide) (fun k d hd => absurd hd List.not_mem_nil), nn_tup fun d hd => absurd hd List.not_mem_nil⟩
      · exact ⟨_, _, .lst0 o2, by decide +kernel, (fun k => Lv.flat fun _ e => (nomatch e)), nn_lst (by simp) fun d hd => absurd hd List.not_mem_nil⟩
      · exact ⟨_, _, .dct (n := 0) o3, by decide +kernel, (fun k => Lv.flat fun _ e => (nomatch e)), by unfold NN; trivial⟩
      · exact nmo x0 ok0 l0
      · exact nmo "none9" (by decide +kernel) (by decide +kernel)
      · exact Odd.one ok0 l0 o4
      · exact Odd.oneL ok0 l0 o5
    rintro σ' H1 ⟨O, os, rfl, s1, hO, ol, oo⟩
    have hv1 := hv.same s1
    have held1 := hld.same s1
    have k1 : Kp h H H1 := Kp.same s1
    have hnl1 := s1 _ _ hnl
    have odd1 : ∀ (c1 c2 : Nat) (H2 : Hp), Held H2 h c1 → Kp h H1 H2 → ∀ (i : Int) (H3 : Hp), 0 ≤ i → i < 14 → Held H3 h c2 → Kp h H2 H3 → ∃ v, SqL K H3 O os ∧ atI os i = some v ∧ Odd H3 v ∧ v ∈ os := fun c1 c2 H2 held2 k2 i H3 i0 i14 held3 k3 => by
      obtain ⟨q, rfl⟩ := Int.eq_ofNat_of_zero_le i0
      have hq : q < os.length := by omega
      refine ⟨os[q], SqL.of (kp_lst k3 held2 _ _ (kp_lst k2 held1 _ _ hO)), atI_nat (List.getElem?_eq_getElem hq), ?_⟩
      exact ⟨((oo _ (List.getElem_mem hq)).kp k2 held1).kp k3 held2, List.getElem_mem hq⟩
    have lz : ∀ {n : Nat}, n ≤ 300 → n ≤ sizeLine := fun {n} h => Nat.le_trans h (by decide)
    -- the first way
    obtain ⟨T0, ty0, kt0⟩ := hv1.tyT (K := K)
    refine ⟨fun σ' H' => σ' = [some (.ref h), some (.ref nl), some u, some (.ref O), none, none] ∧ Held H' h (c + 3) ∧ Kp h H1 H', ?_, ?_⟩
    · refine ⟨_, rfl, _, _, _, _, _, rfl, ClsV.ty _, ty0, kt0, _, rfl, ?_⟩
      refine ite2 (fun cT => ?_) (fun _ => ⟨rfl, held1.weak (by omega), Kp.refl _ _⟩)
      obtain ⟨ds, rfl⟩ := TV.isT_iff.mp cT
      obtain ⟨a, vs, ts, n', rfl, ha, hs, rfl, rfl⟩ := hv1.tup_of
      obtain ⟨lx, _⟩ := hs.len
      have dl : ds.length ≤ l := (lvl 1 ds rfl).1
      refine ⟨_, rfl, by show 0 ≤ sizeLine; decide, fun e fe => ?_⟩
      have se := same_new (o := .tup []) fe
      have he : (upd H1 e (.tup [])) e = some (.tup []) := upd_same
      have ha2 := se _ _ ha
      have held2 := held1.same se
      have k2 : Kp h H1 (upd H1 e (.tup [])) := Kp.same se
      generalize upd H1 e (.tup []) = H2 at he ha2 held2 k2 ⊢
      refine ⟨a, e, vs, rfl, rfl, ha2, he, _, rfl, ?_⟩
      refine ite2 (fun cn => ?_) (fun _ => ⟨rfl, held2.weak (by omega), k2⟩)
      have vne : vs ≠ [] := fun z => by rw [z] at cn; cases cn
      refine ⟨_, rfl, h, c + 4 * ((j + 1) + 1) - 1, 3, rfl, held2.weak (by omega), by decide, by decide, fun r H3 r0 r3 held3 k3 => ⟨_, _, rfl, rfl, _, rfl, ?_⟩⟩
      refine ite2 (fun _ => ?_) (fun _ => ⟨rfl, held3.weak (by omega), k2.trans k3⟩)
      have ddi : ∀ d ∈ ds, Dd j d := dd ds rfl
      have ptl : piled ts ≤ m := Nat.le_trans (piled_le_tupleText ts) tl
      have vpos : 0 < vs.length := List.length_pos_iff.mpr vne
      have ha3 := kp_tup k3 held2 _ _ ha2
      have k13 := k2.trans k3
      refine ⟨fun σ' H' => ∃ q : Nat, σ' = [some (.ref h), some (.ref nl), some (.ref a), some (.ref O), some (.int (q : Nat)), none] ∧ q < vs.length ∧ Held H' h (c + 4 * (j + 1)) ∧ Kp h H3 H', ?_, ?_⟩
      · refine ⟨_, rfl, _, rfl, a, _, rfl, .inr (SqT.of ha3), h, c + 4 * (j + 1), _, rfl, held3.weak (by omega), by omega, by omega, fun q H4 q0 qn held4 k4 => ?_⟩
        obtain ⟨q, rfl⟩ := Int.eq_ofNat_of_zero_le q0
        exact ⟨q, rfl, by omega, held4, k4⟩
      rintro σ' H4 ⟨q, rfl, ql, held4, k4⟩
      have e1 : (q : Int) + 1 = ((q + 1 : Nat) : Int) := by omega
      have ha4 := kp_tup k4 held3 _ _ ha3
      have k14 := k13.trans k4
      have hs4 := tvl_kp k14 held1 hs
      have hnl4 := kp_lst k14 held1 _ _ hnl1
      refine ⟨_, rfl, _, rfl, _, rfl, a, vs, rfl, ha4, fun p1 H5 s5 hp1 => ?_⟩
      rw [TV.cut_to (by omega)] at hp1
      obtain ⟨d, t, hd, ht, hvi⟩ := (hs4.same s5).get (List.getElem?_eq_getElem ql)
      have pt := piled_take_succ ht
      have ptk := piled_take_le ts (q + 1)
      have pcut := TV.piled_cut ts (q + 1)
      have held5 := held4.same s5
      refine ⟨_, rfl, _, rfl, _, rfl, _, rfl, a, _, _, vs[q], rfl, rfl, SqT.of (s5 _ _ ha4), atI_nat (List.getElem?_eq_getElem ql), ?_⟩
      refine ⟨h, nl, _, c, _, d, t, n' + 1, l, m, rfl, held5, s5 _ _ hnl4, List.cons_ne_nil _ _, nms, hvi.mono (by omega), by omega, ddi d (List.mem_of_getElem? hd), by omega, l100, fun k => (lvl (k + 1) ds rfl).2 d (List.mem_of_getElem? hd), nn_of_tup nny d (List.mem_of_getElem? hd), fun k => (hhy (k + 1) ds rfl).2 d (List.mem_of_getElem? hd), fun v H6 held6 k6 bv => ⟨by show 1 ≤ sizeLine; decide, fun t1 ft1 => ?_⟩⟩
      have st1 := same_new (o := .tup [v]) ft1
      have ht1 : (upd H6 t1 (.tup [v])) t1 = some (.tup [v]) := upd_same
      have held7 := held6.same st1
      have bv7 := bv.same st1
      have k57 := k6.trans (Kp.same st1)
      generalize upd H6 t1 (.tup [v]) = H7 at ht1 held7 bv7 k57 ⊢
      have k47 := (Kp.same s5).trans k57
      refine ⟨p1, t1, _, _, rfl, rfl, kp_tup k57 held5 _ _ hp1, ht1, lz (by rw [List.length_take]; simp; omega), fun p2 H8 s8 hp2 => ?_⟩
      have k48 := k47.trans (Kp.same s8)
      refine ⟨_, rfl, _, rfl, _, _, rfl, rfl, _, rfl, a, vs, rfl, kp_tup k48 held4 _ _ ha4, fun p3 H9 s9 hp3 => ?_⟩
      rw [e1, TV.cut_from] at hp3
      refine ⟨p2, p3, _, _, rfl, rfl, s9 _ _ hp2, hp3, lz (by rw [List.length_append, List.length_take, List.length_drop]; simp; omega), fun p4 Ha sa hp4 => ?_⟩
      have k4a := (k48.trans (Kp.same s9)).trans (Kp.same sa)
      have helda := ((held7.same s8).same s9).same sa
      have hsa := (tvl_kp k4a held4 hs4).mono (show n' ≤ n' + 1 + (j + 1) by omega)
      obtain ⟨y', t', tv', tl', lv', nn'⟩ := ((bv7.same s8).same s9).same sa
      refine hQ _ Ha helda ((k1.trans k14).trans k4a) (Bnt.tup hp4 ((hsa.take.app (.cons (tv'.mono (by omega)) .nil)).app hsa.drop) (by rw [List.length_append, List.length_append, List.length_take, List.length_drop]; simp; omega) (fun k d' hd' => ?_) (fun d' hd' => ?_) ?_)
      · rcases List.mem_append.mp hd' with hd' | hd'
        · rcases List.mem_append.mp hd' with hd' | hd'
          · exact ((lvl (k + 1) ds rfl).2 d' (List.mem_of_mem_take hd')).mono (by omega)
          · rw [List.mem_singleton.mp hd']
            exact lv' k
        · exact ((lvl (k + 1) ds rfl).2 d' (List.mem_of_mem_drop hd')).mono (by omega)
      · rcases List.mem_append.mp hd' with hd' | hd'
        · rcases List.mem_append.mp hd' with hd' | hd'
          · exact nn_of_tup nny d' (List.mem_of_mem_take hd')
          · rw [List.mem_singleton.mp hd']
            exact nn'
        · exact nn_of_tup nny d' (List.mem_of_mem_drop hd')
      · rw [piled_append, piled_append, piled_cons, piled_nil]
        have em : (j + 1 + 2) * m = (j + 2) * m + m := by rw [show j + 1 + 2 = (j + 2) + 1 by omega, Nat.succ_mul]
        have en : 200 * (j + 1 + 1) = 200 * (j + 1) + 200 := by omega
        rw [em, en]
        omega
    -- the second way
    rintro σ' H2 ⟨rfl, held2, k2⟩
    have hv2 := tv_kp k2 held1 hv1
    obtain ⟨T2, ty2, kt2⟩ := hv2.tyT (K := K)
    refine ⟨_, rfl, _, _, _, _, _, rfl, ClsV.ty _, ty2, kt2, _, rfl, ?_⟩
    refine ite2 (fun cT => ?_) (fun cT => ?_)
    · obtain ⟨ds, rfl⟩ := TV.isT_iff.mp cT
      obtain ⟨a, vs, ts, n', rfl, ha, hs, rfl, rfl⟩ := hv2.tup_of
      obtain ⟨lx, _⟩ := hs.len
      have dl : ds.length ≤ l := (lvl 1 ds rfl).1
      have lvd : ∀ k, ∀ d ∈ ds, Lv k (2 * l + 1) d := fun k d hd => ((lvl (k + 1) ds rfl).2 d hd).mono (by omega)
      have nnd := nn_of_tup nny
      have ptl : piled ts ≤ m := Nat.le_trans (piled_le_tupleText ts) tl
      have jm : ∀ q : Nat, q ≤ 2 * m + 190 → q ≤ ((j + 1) + 2) * m + 200 * ((j + 1) + 1) := fun q hq => by
        have e1 : 2 * m ≤ ((j + 1) + 2) * m := Nat.mul_le_mul_right m (by omega)
        have e2 := Nat.mul_le_mul_left 200 (show 1 ≤ (j + 1) + 1 by omega)
        omega
      refine ⟨fun σ' H' => ∃ q : Nat, σ' = [some (.ref h), some (.ref nl), some (.ref a), some (.ref O), some (.int (q : Nat)), none] ∧ q ≤ vs.length ∧ Held H' h (c + 2) ∧ Kp h H2 H', ?_, ?_⟩
      · refine ⟨_, rfl, _, rfl, a, _, rfl, .inr (SqT.of ha), _, _, rfl, rfl, h, c + 2, _, rfl, held2, by omega, by omega, fun q H3 q0 qn held3 k3 => ?_⟩
        obtain ⟨q, rfl⟩ := Int.eq_ofNat_of_zero_le q0
        exact ⟨q, rfl, by omega, held3, k3⟩
      rintro σ' H3 ⟨q, rfl, ql, held3, k3⟩
      have e1 : (q : Int) + 1 = ((q + 1 : Nat) : Int) := by omega
      have ha3 := kp_tup k3 held2 _ _ ha
      have hs3 := (tvl_kp k3 held2 hs).mono (show n' ≤ n' + 1 + (j + 1) by omega)
      refine ⟨fun σ' H' => ∃ (O2 : Addr) (ws : List V) (Hb : Hp), σ' = [some (.ref h), some (.ref nl), some (.ref a), some (.ref O), some (.int (q : Nat)), some (.ref O2)] ∧ Held H' h (c + 2) ∧ Kp h H3 H' ∧ H' O2 = some (.lst ws) ∧ ws.length = 4 ∧ Cel h O2 H' ∧ Held Hb h (c + 2) ∧ Hb O2 = none ∧ Kp h Hb H' ∧ Kp h H3 Hb ∧ H3 O2 = none ∧ ∀ v ∈ ws, Bnt Hb v l m (n' + 1) (j + 1), ?_, ?_⟩
      · refine ⟨_, rfl, _, rfl, _, rfl, a, vs, rfl, ha3, fun p1 H4 s4 hp1 => ?_⟩
        rw [TV.cut_to ql] at hp1
        refine ⟨_, rfl, _, rfl, _, _, rfl, rfl, _, rfl, a, vs, rfl, s4 _ _ ha3, fun p2 H5 s5 hp2 => ?_⟩
        rw [e1, TV.cut_from] at hp2
        refine ⟨p1, p2, _, _, rfl, rfl, s5 _ _ hp1, hp2, lz (by rw [List.length_take, List.length_drop]; omega), fun r1 H6 s6 hr1 => ?_⟩
        have s36 := (s4.trans s5).trans s6
        refine ⟨_, rfl, _, rfl, _, rfl, a, vs, rfl, s36 _ _ ha3, fun p3 H7 s7 hp3 => ?_⟩
        rw [TV.cut_to ql] at hp3
        have s37 := s36.trans s7
        refine ⟨_, rfl, _, rfl, _, rfl, _, rfl, _, _, rfl, rfl, _, rfl, a, vs, rfl, s37 _ _ ha3, fun p4 H8 s8 hp4 => ?_⟩
        rw [e1, TV.cut_mid ql] at hp4
        refine ⟨p3, p4, _, _, rfl, rfl, s8 _ _ hp3, hp4, lz (by rw [List.length_take, List.length_take, List.length_drop]; omega), fun p5 H9 s9 hp5 => ?_⟩
        have s39 := (s37.trans s8).trans s9
        refine ⟨_, rfl, _, rfl, _, rfl, a, vs, rfl, s39 _ _ ha3, fun p6 Ha sa hp6 => ?_⟩
        rw [TV.cut_from] at hp6
        refine ⟨p5, p6, _, _, rfl, rfl, sa _ _ hp5, hp6, lz (by rw [List.length_append, List.length_take, List.length_take, List.length_drop]; omega), fun r2 Hb sb hr2 => ?_⟩
        have s3b := (s39.trans sa).trans sb
        refine ⟨_, rfl, a, vs, rfl, SqT.of (s3b _ _ ha3), fun r3 fr3 => ?_⟩
        have sr3 := same_new (o := .tup vs.reverse) fr3
        have hr3 : (upd Hb r3 (.tup vs.reverse)) r3 = some (.tup vs.reverse) := upd_same
        generalize upd Hb r3 (.tup vs.reverse) = Hc at sr3 hr3 ⊢
        refine ⟨_, rfl, a, vs, rfl, .inr (SqT.of (sr3 _ _ (s3b _ _ ha3))), fun r4 fr4 => ?_⟩
        have sr4 := same_new (o := .lst vs) fr4
        have hr4 : (upd Hc r4 (.lst vs)) r4 = some (.lst vs) := upd_same
        generalize upd Hc r4 (.lst vs) = Hd at sr4 hr4 ⊢
        refine ⟨by show 4 ≤ sizeLine; decide, fun O2 fO2 => ?_⟩
        have s3d := (s3b.trans sr3).trans sr4
        have so := same_new (o := .lst [.ref r1, .ref r2, .ref r3, .ref r4]) fO2
        have heldd := held3.same s3d
        have hsd := hs3.same s3d
        have s6b := (((s7.trans s8).trans s9).trans sa).trans sb
        have pc := TV.piled_cut ts q
        have pd := TV.piled_drop ts (q + 1)
        have pm1 : piled ((ts.drop q).take 1) ≤ piled (ts.drop q) := piled_take_le _ _
        refine ⟨O2, _, Hd, rfl, heldd.same so, (Kp.same s3d).trans (Kp.same so), upd_same, rfl, (Cel.of heldd fO2).kp (Kp.same so), heldd, fO2, Kp.same so, Kp.same s3d, s3d.free fO2, fun v hv => ?_⟩
        simp only [List.mem_cons, List.not_mem_nil, or_false] at hv
        rcases hv with rfl | rfl | rfl | rfl
        · exact Bnt.tup (sr4 _ _ (sr3 _ _ (s6b _ _ hr1))) (hsd.take.app hsd.drop) (by rw [List.length_append, List.length_take, List.length_drop]; omega) (fun k d hd => by
            rcases List.mem_append.mp hd with hd | hd
            · exact lvd k d (List.mem_of_mem_take hd)
            · exact lvd k d (List.mem_of_mem_drop hd)) (fun d hd => by
            rcases List.mem_append.mp hd with hd | hd
            · exact nnd d (List.mem_of_mem_take hd)
            · exact nnd d (List.mem_of_mem_drop hd)) (jm _ (by rw [piled_append]; omega))
        · exact Bnt.tup (sr4 _ _ (sr3 _ _ hr2)) ((hsd.take.app hsd.drop.take).app hsd.drop) (by rw [List.length_append, List.length_append, List.length_take, List.length_take, List.length_drop]; omega) (fun k d hd => by
            rcases List.mem_append.mp hd with hd | hd
            · rcases List.mem_append.mp hd with hd | hd
              · exact lvd k d (List.mem_of_mem_take hd)
              · exact lvd k d (List.mem_of_mem_drop (List.mem_of_mem_take hd))
            · exact lvd k d (List.mem_of_mem_drop hd)) (fun d hd => by
            rcases List.mem_append.mp hd with hd | hd
            · rcases List.mem_append.mp hd with hd | hd
              · exact nnd d (List.mem_of_mem_take hd)
              · exact nnd d (List.mem_of_mem_drop (List.mem_of_mem_take hd))
            · exact nnd d (List.mem_of_mem_drop hd)) (jm _ (by rw [piled_append, piled_append]; omega))
        · exact Bnt.tup (sr4 _ _ hr3) hsd.rev (by rw [List.length_reverse]; omega) (fun k d hd => lvd k d (List.mem_reverse.mp hd)) (fun d hd => nnd d (List.mem_reverse.mp hd)) (jm _ (by rw [TV.piled_rev]; omega))
        · exact Bnt.lst hr4 hsd (hhy 1 ds rfl).1 nnd (jm _ (by omega))
      rintro σ' H4 ⟨O2, ws, Hb, rfl, held4, k4, hO2, wl, ce4, heldb, fb, kb, k3b, f3, wb⟩
      have ha4 := kp_tup k4 held3 _ _ ha3
      have hs4 := tvl_kp k4 held3 hs3
      have k14 := (k2.trans k3).trans k4
      refine ⟨fun σ' H' => ∃ ws : List V, σ' = [some (.ref h), some (.ref nl), some (.ref a), some (.ref O), some (.int (q : Nat)), some (.ref O2)] ∧ Held H' h (c + 1) ∧ Kp h H3 H' ∧ H' O2 = some (.lst ws) ∧ ws.length = 5 ∧ ∀ v ∈ ws, Bnt H' v l m (n' + 1) (j + 1), ?_, ?_⟩
      · refine ⟨_, rfl, Or.inl ⟨rfl, _, SqL.of hO2⟩, _, rfl, _, rfl, _, rfl, a, vs, rfl, ha4, fun p1 H5 s5 hp1 => ?_⟩
        rw [TV.cut_to ql] at hp1
        have held5 := held4.same s5
        refine ⟨_, rfl, _, rfl, h, c + 1, 14, rfl, held5, by decide, by decide, fun i H6 i0 i14 held6 k6 => ?_⟩
        obtain ⟨v, hl, hat, ov, vm⟩ := odd1 _ _ H5 held5 (k14.trans (Kp.same s5)) i H6 i0 i14 held6 k6
        refine ⟨O, _, _, v, rfl, rfl, hl, hat, by show 1 ≤ sizeLine; decide, fun t1 ft1 => ?_⟩
        have st1 := same_new (o := .tup [v]) ft1
        have ht1 : (upd H6 t1 (.tup [v])) t1 = some (.tup [v]) := upd_same
        have held7 := held6.same st1
        have ov7 := ov.same st1
        have k57 := k6.trans (Kp.same st1)
        generalize upd H6 t1 (.tup [v]) = H7 at ht1 held7 ov7 k57 ⊢
        have k47 := (Kp.same s5).trans k57
        refine ⟨p1, t1, _, _, rfl, rfl, kp_tup k57 held5 _ _ hp1, ht1, lz (by rw [List.length_take]; simp; omega), fun p2 H8 s8 hp2 => ?_⟩
        have k48 := k47.trans (Kp.same s8)
        refine ⟨_, rfl, _, rfl, _, rfl, a, vs, rfl, kp_tup k48 held4 _ _ ha4, fun p3 H9 s9 hp3 => ?_⟩
        rw [TV.cut_from] at hp3
        refine ⟨p2, p3, _, _, rfl, rfl, s9 _ _ hp2, hp3, lz (by rw [List.length_append, List.length_take, List.length_drop]; simp; omega), fun p4 Ha sa hp4 => ?_⟩
        have k4a := (k48.trans (Kp.same s9)).trans (Kp.same sa)
        have helda := ((held7.same s8).same s9).same sa
        have hO2a := k4a.1 _ _ hO2 ce4.ne
        have cea := ce4.kp k4a
        have neP : p4 ≠ O2 := fun z => by rw [z, hO2a] at hp4; cases hp4
        have kf : Kp h Hb (upd Ha O2 (.lst (ws ++ [.ref p4]))) := (kb.trans k4a).new fb
        have hp4f : (upd Ha O2 (.lst (ws ++ [.ref p4]))) p4 = some (.tup (vs.take q ++ [v] ++ vs.drop q)) := by rw [upd_ne neP]; exact hp4
        have hsf := tvl_kp kf heldb (tvl_kp k3b held3 hs3)
        obtain ⟨yo, to, tvo, lo, lvo, nno⟩ := ((oo v vm).kp ((k2.trans k3).trans k3b) held1).kp kf heldb
        refine ⟨O2, _, _, rfl, rfl, hO2a, by rw [wl]; decide, ws ++ [.ref p4], rfl, helda.put cea, (k4.trans k4a).new f3, upd_same, by rw [List.length_append, wl]; rfl, fun v' hv' => ?_⟩
        rcases List.mem_append.mp hv' with hv' | hv'
        · exact (wb v' hv').kp kf heldb
        · rw [List.mem_singleton.mp hv']
          refine Bnt.tup hp4f ((hsf.take.app (.cons (tvo.mono (by omega)) .nil)).app hsf.drop) (by rw [List.length_append, List.length_append, List.length_take, List.length_drop]; simp; omega) (fun k d hd => ?_) (fun d hd => ?_) (jm _ ?_)
          · rcases List.mem_append.mp hd with hd | hd
            · rcases List.mem_append.mp hd with hd | hd
              · exact lvd k d (List.mem_of_mem_take hd)
              · rw [List.mem_singleton.mp hd]
                exact (lvo k).mono (by omega)
            · exact lvd k d (List.mem_of_mem_drop hd)
          · rcases List.mem_append.mp hd with hd | hd
            · rcases List.mem_append.mp hd with hd | hd
              · exact nnd d (List.mem_of_mem_take hd)
              · rw [List.mem_singleton.mp hd]
                exact nno
            · exact nnd d (List.mem_of_mem_drop hd)
          · have pc := TV.piled_cut ts q
            rw [piled_append, piled_append, piled_cons, piled_nil]
            omega
      rintro σ' H5 ⟨ws, rfl, held5, k5, hO5, wl5, wb5⟩
      refine ⟨_, rfl, _, rfl, h, c, 5, rfl, held5.weak (by omega), by decide, by decide, fun i H6 i0 i5 held6 k6 => ?_⟩
      obtain ⟨q5, rfl⟩ := Int.eq_ofNat_of_zero_le i0
      have hq5 : q5 < ws.length := by omega
      exact ⟨O2, _, _, ws[q5], rfl, rfl, SqL.of (kp_lst k6 held5 _ _ hO5), atI_nat (List.getElem?_eq_getElem hq5), hQ _ H6 held6 ((((k1.trans k2).trans k3).trans k5).trans k6) ((wb5 _ (List.getElem_mem hq5)).kp k6 held5)⟩
    · refine ⟨_, rfl, _, rfl, h, c, 14, rfl, held2.weak (by omega), by decide, by decide, fun i H3 i0 i14 held3 k3 => ?_⟩
      obtain ⟨v, a, b, o, _⟩ := odd1 _ _ H2 held2 k2 i H3 i0 i14 held3 k3
      exact ⟨O, _, _, v, rfl, rfl, a, b, hQ v H3 held3 ((k1.trans k2).trans k3) (o.bd (by omega))⟩
end
end K52
set_option Elab.async false
set_option linter.all false
set_option maxRecDepth 100000
set_option maxHeartbeats 4000000
namespace K52
open PySem PySem.Spec PyProof.Rows L2
open C8 (Cal Mak Met pe_c pe_mk pe_mt pe_mt0)
open KM (pr Sz)
theorem divI_nn {a b : Int} (ha : 0 ≤ a) (hb : 0 < b) : 0 ≤ Rat.divInt a b := by
  rw [Rat.divInt_eq_div]
  have h1 : (0 : Rat) ≤ (a : Rat) := by exact_mod_cast ha
  have h2 : (0 : Rat) < (b : Rat) := by exact_mod_cast hb
  rw [Rat.div_def]
  exact Rat.mul_nonneg h1 (Rat.le_of_lt (Rat.inv_pos.mpr h2))
section
variable {P : Program} {w : World} {K : PySem.W.Frag} {mg : Str → Option Value} {base : Heap} {f C : Addr} {fd : FuncData}
def spSlk (C : Addr) : Sp := fun vs H Q _ => ∃ (h : Addr) (c : Nat), vs = [.ref h] ∧ Held H h (c + 4) ∧
  ∀ (t pt : Addr) (v : V) (s : Rat) (H' : Hp), Held H' h c → Kp h H H' → H' t = some (.tup [v, .ref pt]) → H' pt = some (tupP (pr s)) → Slk C H' v s → 0 ≤ s → Sz 4 s → Q (.ref t) H'
theorem ok_slk (F : Dn K d_l_slack f fd) (MS : MakS P w K mg base C) (cD : CalD P w K mg base) (cL : CalL P w K mg base) : FnOk P w K mg base CX0 4 f fd ["_law_held_here"] (spSlk C) := by
  refine F.ok sc_l_slack (fun vs H Q E h => ?_) (fun cdv A outer s H vs Q E hr h => ?_)
  · obtain ⟨_, _, rfl, _⟩ := h
    rfl
  · obtain ⟨h, c, rfl, hld, hQ⟩ := h
    refine ⟨_, PSs.nox (C8.pss_cut (ps_set (i := 1) sc_l_slack.nd rfl (.inl rfl) (pe_c cL hr (by decide) rfl (pa_cons (pe_c cD hr (by decide) rfl (pa_cons (pv 0) (pa_cons pe_int pa_nil))) (pa_cons (pe_op op_add pe_int (pe_c cD hr (by decide) rfl (pa_cons (pv 0) (pa_cons pe_int pa_nil)))) pa_nil))))
      (C8.pss_cut (ps_if (pt_cmpR op_eq (pe_c cD hr (by decide) rfl (pa_cons (pv 0) (pa_cons pe_int pa_nil))) pe_int (nomark _)) (pss_one (ps_set (i := 1) sc_l_slack.nd rfl (.inl rfl) (pe_tup (pa_cons pe_int (pa_cons pe_int pa_nil))))) pss_nil)
      (pss_cons (ps_if (PW.pt (pw_and (pt_cmpR op_eq (pe_ix ix_tup (pv 1) pe_int (fun _ _ => rfl)) pe_int (nomark _)) (pw_and1 (pt_cmpR op_eq (pe_c cD hr (by decide) rfl (pa_cons (pv 0) (pa_cons pe_int pa_nil))) pe_int (nomark _))))) (pss_one (ps_ret (pe_tup (pa_cons (pe_ix ix_tup (pv 1) pe_int (fun _ _ => rfl)) (pa_cons (pv 1) pa_nil))))) pss_nil)
      (pss_one (ps_ret (pe_tup (pa_cons (pe_mk MS hr (by decide) rfl (pa_cons (pe_ix ix_tup (pv 1) pe_int (fun _ _ => rfl)) (pa_cons (pe_ix ix_tup (pv 1) pe_int (fun _ _ => rfl)) pa_nil))) (pa_cons (pv 1) pa_nil)))))))), ?_⟩
    refine ⟨fun σ' H' => ∃ (pt : Addr) (s : Rat), σ' = [some (.ref h), some (.ref pt)] ∧ Held H' h (c + 2) ∧ Kp h H H' ∧ H' pt = some (tupP (pr s)) ∧ 0 ≤ s ∧ Sz 4 s, ?_, ?_⟩
    · refine ⟨_, rfl, h, c + 3, 5, rfl, hld, by decide, by decide, fun a H1 a0 a5 held1 k1 => ?_⟩
      refine ⟨_, rfl, h, c + 2, 4, rfl, held1, by decide, by decide, fun b H2 b0 b4 held2 k2 => ⟨_, _, rfl, rfl, ?_⟩⟩
      have e4 : (2 : Nat) ^ 4 = 16 := by decide
      refine ⟨a, 1 + b, 4, rfl, by omega, by rw [e4]; omega, by decide, by decide, fun q fq => ?_⟩
      rw [KM.low_eq (show (1 + b : Int) ≠ 0 by omega)]
      have sq := same_new (o := tupP (pr (Rat.divInt a (1 + b)))) fq
      exact ⟨q, _, rfl, held2.same sq, (k1.trans k2).trans (Kp.same sq), upd_same, divI_nn (by omega) (by omega), KM.sz_of_low (by omega) (by rw [e4]; omega) (by rw [e4]; omega)⟩
    rintro σ' H1 ⟨pt, s, rfl, held1, k1, hpt, s0, zs⟩
    refine ⟨fun σ' H' => ∃ (pt : Addr) (s : Rat), σ' = [some (.ref h), some (.ref pt)] ∧ Held H' h (c + 1) ∧ Kp h H H' ∧ H' pt = some (tupP (pr s)) ∧ 0 ≤ s ∧ Sz 4 s, ?_, ?_⟩
    · refine ⟨_, rfl, h, c + 1, 2, rfl, held1, by decide, by decide, fun a H2 a0 a2 held2 k2 => ⟨rfl, _, rfl, ?_⟩⟩
      refine ite2 (fun _ => ?_) (fun _ => ?_)
      · refine ⟨by show 2 ≤ sizeLine; decide, fun q fq => ?_⟩
        have sq := same_new (o := .tup [.int 0, .int 1]) fq
        exact ⟨q, 0, rfl, held2.same sq, (k1.trans k2).trans (Kp.same sq), upd_same, by decide, by decide, by decide⟩
      · exact ⟨pt, s, rfl, held2, k1.trans k2, kp_tup k2 held1 _ _ hpt, s0, zs⟩
    clear hpt s0 zs held1 k1
    rintro σ' H1 ⟨pt, s, rfl, held1, k1, hpt, s0, zs⟩
    have one : ∀ H2 : Hp, Held H2 h c → Kp h H H2 → H2 pt = some (tupP (pr s)) → (pr s).2 = 1 → ∀ t, H2 t = none → Q (.ref t) (upd H2 t (.tup [.int (pr s).1, .ref pt])) := fun H2 held2 k2 hp2 e t ft => by
      have st := same_new (o := .tup [.int (pr s).1, .ref pt]) ft
      refine hQ t pt _ s _ (held2.same st) (k2.trans (Kp.same st)) upd_same (st _ _ hp2) (.inl ⟨_, rfl, ?_⟩) s0 zs
      have e2 : Rat.divInt (pr s).1 (pr s).2 = s := Rat.num_divInt_den s
      rw [e] at e2
      exact e2.symm
    have two : ∀ H2 : Hp, Held H2 h c → Kp h H H2 → H2 pt = some (tupP (pr s)) → ∀ (p : Addr) (H3 : Hp), Same H2 H3 → Sh C H3 p (pr s) → ∀ t, H3 t = none → Q (.ref t) (upd H3 t (.tup [.ref p, .ref pt])) := fun H2 held2 k2 hp2 p H3 s3 hp t ft => by
      have st := same_new (o := .tup [.ref p, .ref pt]) ft
      have s23 := s3.trans st
      exact hQ t pt _ s _ (held2.same s23) (k2.trans (Kp.same s23)) upd_same (s23 _ _ hp2) (.inr ⟨p, rfl, hp.keep st⟩) s0 zs
    have bp := bd_of zs
    refine ⟨_, rfl, pt, _, _, _, rfl, rfl, SqT.of hpt, at1, rfl, _, rfl, ?_⟩
    refine ite2 (fun c1 => ?_) (fun c1 => ?_)
    · have e1 : (pr s).2 = 1 := by simpa using c1
      refine ⟨_, rfl, h, c, 2, rfl, held1, by decide, by decide, fun a H2 a0 a2 held2 k2 => ⟨rfl, _, rfl, ?_⟩⟩
      have hp2 := kp_tup k2 held1 _ _ hpt
      refine ite2 (fun _ => ?_) (fun _ => ?_)
      · exact ⟨_, rfl, pt, _, _, _, rfl, rfl, SqT.of hp2, at0, _, rfl, by show 2 ≤ sizeLine; decide, fun t ft => one H2 held2 (k1.trans k2) hp2 e1 t ft⟩
      · refine ⟨_, rfl, pt, _, _, _, rfl, rfl, SqT.of hp2, at0, _, rfl, pt, _, _, _, rfl, rfl, SqT.of hp2, at1, ?_⟩
        intro x dx nx ndx ne
        refine mk_in (n := 4) nx ndx (by have := bp.2.1; omega) bp.2.2 (by decide) (by decide) fun H3 s3 sh => ⟨rfl, ?_⟩
        have ep : Rat.divInt (pr s).1 (pr s).2 = s := Rat.num_divInt_den s
        rw [ep] at sh
        exact ⟨_, rfl, by show 2 ≤ sizeLine; decide, fun t ft => two H2 held2 (k1.trans k2) hp2 x H3 s3 sh t ft⟩
    · refine ⟨_, rfl, pt, _, _, _, rfl, rfl, SqT.of hpt, at0, _, rfl, pt, _, _, _, rfl, rfl, SqT.of hpt, at1, ?_⟩
      intro x dx nx ndx ne
      refine mk_in (n := 4) nx ndx (by have := bp.2.1; omega) bp.2.2 (by decide) (by decide) fun H3 s3 sh => ⟨rfl, ?_⟩
      have ep : Rat.divInt (pr s).1 (pr s).2 = s := Rat.num_divInt_den s
      rw [ep] at sh
      exact ⟨_, rfl, by show 2 ≤ sizeLine; decide, fun t ft => two H1 (held1.weak (by omega)) k1 hpt x H3 s3 sh t ft⟩
end
end K52
set_option Elab.async false
set_option linter.all false
set_option maxRecDepth 100000
set_option maxHeartbeats 4000000
namespace K52
open PySem PySem.Spec PyProof.Rows L2
open C8 (Cal Mak Met pe_c pe_mk pe_mt pe_mt0)
open LamX (Tabs ExtN TabB CodeO)
open KM (pr Sz)
open SX (S)
open TV (Tv TvL)
theorem eqv_pD (a b : Int × Int) : PyData.eqv (DQ.pD a) (DQ.pD b) = decide (a = b) := by
  obtain ⟨x, y⟩ := a
  obtain ⟨u, v⟩ := b
  rw [Bool.eq_iff_iff]
  simp [DQ.pD, PyData.eqv, PyData.eqvAll]
theorem lay_b (b : Bool) : (PyData.bool b).showable = true ∧ (PyData.bool b).hasDict = false ∧ (PyData.bool b).depth ≤ 60 ∧ (PyData.bool b).shown.length ≤ sizeLine := by cases b <;> decide +kernel
/-- a thing that is looked at -/
def Pv (H : Hp) (v : V) : Prop := ∃ y tx n, Tv H v y tx n ∧ n ≤ 5 ∧ Lk y ∧ tx.length ≤ 100000 ∧ NN y
theorem Pv.same {H H' : Hp} {v : V} (h : Pv H v) (s : Same H H') : Pv H' v := by
  obtain ⟨y, t, n, a, b⟩ := h
  exact ⟨y, t, n, a.same s, b⟩
theorem Pv.kp {h : Addr} {H H' : Hp} {c : Nat} {v : V} (o : Pv H v) (k : Kp h H H') (x : Held H h c) : Pv H' v := by
  obtain ⟨y, t, n, a, b⟩ := o
  exact ⟨y, t, n, tv_kp k x a, b⟩
/-- a thing that may be bent -/
def Pn (H : Hp) (v : V) : Prop := ∃ y tx, Pb H v y tx
theorem Pn.kp {h : Addr} {H H' : Hp} {c : Nat} {v : V} (o : Pn H v) (k : Kp h H H') (x : Held H h c) : Pn H' v := by
  obtain ⟨y, t, a⟩ := o
  exact ⟨y, t, tv_kp k x a.tv, a.dd, a.lv, a.tl, a.nn, a.hh⟩
theorem Pn.same {H H' : Hp} {v : V} (o : Pn H v) (s : Same H H') : Pn H' v := by
  obtain ⟨y, t, a⟩ := o
  exact ⟨y, t, a.tv.same s, a.dd, a.lv, a.tl, a.nn, a.hh⟩
theorem Pn.pv {H : Hp} {v : V} (o : Pn H v) : Pv H v := by
  obtain ⟨y, t, a⟩ := o
  exact ⟨y, t, 2, a.tv, by decide, lk_of (a.lv 2) (by decide), Nat.le_trans a.tl (by decide), a.nn⟩
theorem Bnt.pv {H : Hp} {v : V} (o : Bnt H v 12 2500 2 2) : Pv H v := by
  obtain ⟨y, t, a, b, c, d⟩ := o
  exact ⟨y, t, 5, a, by decide, lk_of (c 2) (by decide), Nat.le_trans b (by decide), d⟩
theorem Pn.non {H : Hp} : Pn H .non := ⟨.none, "None", .non, Dd.flat (fun _ e => nomatch e), fun k => Lv.flat (fun _ e => nomatch e), by decide +kernel, by unfold NN; trivial, fun k => Hh.flat (fun _ e => nomatch e)⟩
theorem pap_pn {H : Hp} {t : Addr} {xs : List Str} {ys : List Dy} {L : List Str} {cc : Str → Rat} {s : Rat} {p : Pap} (hp : PapAt H t p) (b : Bars ys L cc s p) (f : Cf xs ys L cc) (xl : xs.length ≤ 12) (nms : ∀ x ∈ xs, Nmd x) : Pn H (.ref t) := by
  have sub : ∀ x ∈ wN ys L cc, x ∈ xs := fun x hx => mem_wN f.sub (fun y hy => (f.dm y hy).1) hx
  obtain ⟨y, tx, q, _⟩ := Pb.pap hp (fun ws e => by
    rcases e with rfl | rfl
    · have := few_of b.2.2.1.2 fun x hx => sub x (b.2.1 x hx)
      omega
    · have := few_of b.2.2.1.2 fun x hx => sub x (b.2.1 x hx)
      omega) ⟨fun x e => by subst e; exact nms x (sub x b.1), fun ws e x hx => by
    rcases e with rfl | rfl
    · exact nms x (sub x (b.2.1 x hx))
    · exact nms x (sub x (b.2.1 x hx))⟩
  exact ⟨y, tx, q⟩
section
variable {P : Program} {w : World} {K : PySem.W.Frag} {mg : Str → Option Value} {base : Heap} {f C : Addr} {fd : FuncData}
def spLaw (K : PySem.W.Frag) : Sp := fun vs H Q _ => ∃ (a : Addr) (ns : List Int), vs = [.ref a] ∧ SqL K H a (ns.map V.int) ∧ ns.length ≤ 63 ∧ Tabs (T0 K) H ∧ ∀ H', Q (.bl true) H'
theorem ok_law (F : Dn K d_law f fd) (b : Bl mg) (brep : mg "repr" = none) (Sp : OW.Spc P w K mg base 1 C "__repr__" (spStr C rpS)) (cHe : Cal P w K mg base 1 "_law_held" (spHeld K) []) (cD : CalD P w K mg base) (cN : Cal P w K mg base 2 "_law_names" spNames [])
    (cLc : Cal P w K mg base 6 "_law_long_case" spLc []) (cSl : Cal P w K mg base 4 "_law_slack" (spSlk C) []) (cPp : Cal P w K mg base 2 "_law_paper" spPp []) (cBt : Cal P w K mg base 4 "_law_bent" (spBt 2) [])
    (cSh : Cal P w K mg base 4 "_law_shares" (spLS C) []) (cWn : Cal P w K mg base 4 "_law_wants" spWn []) (cBa : Cal P w K mg base 4 "_law_bars" spBa [])
    (cWu : Cal P w K mg base 9 "why_uneven" (spWuU K C) []) (cSu : Cal P w K mg base 8 "shows_uneven" (spSu K C) []) (cSu2 : Cal P w K mg base 8 "shows_uneven" (spSu K C) [.int 0]) :
    GL.FnG P w K mg base 10 f fd ["_law_script"] (spLaw K) := by
  refine GL.okG F sc_law (fun vs H Q E h => ?_) (fun cdv A outer s H vs Q E hgd hr h => ?_)
  · obtain ⟨_, _, rfl, _⟩ := h
    rfl
  · obtain ⟨s0, ns, rfl, hS, hlen, tabs, hQ⟩ := h
    have hu := hu_of hr
    have hu64 : (A.deeper (envOfC d_law.qual d_law.scope s.heap.objs.size f cdv)).units + 64 < cLine := by have := hr.un; omega
    have l2 : 2 ≤ sizeLine := by decide
    refine ⟨_, PSs.nox (C8.pss_cut (ps_set (i := 1) sc_law.nd rfl (.inl rfl) (pe_c cHe hr (by decide) rfl (pa_cons (pv 0) pa_nil)))
      (pss_cons (ps_for PassesOwn.never rfl (pi_range1 rfl b.range (pa_cons pe_int pa_nil)) (pg_name (i := 2) sc_law.nd rfl (.inl rfl))
        (C8.pss_cut (ps_set (i := 3) sc_law.nd rfl (.inl rfl) (pe_c cN hr (by decide) rfl (pa_cons (pv 1) (pa_cons (pe_op op_add pe_int (pe_c cD hr (by decide) rfl (pa_cons (pv 1) (pa_cons pe_int pa_nil)))) pa_nil))))
        (C8.pss_cut (ps_asg (pe_c cLc hr (by decide) rfl (pa_cons (pv 1) (pa_cons (pv 3) pa_nil))) (pg_tup rfl (pgs_cons (pg_name (i := 4) sc_law.nd rfl (.inl rfl)) (pgs_cons (pg_name (i := 5) sc_law.nd rfl (.inl rfl)) pgs_nil))))
        (C8.pss_cut (ps_asg (pe_c cSl hr (by decide) rfl (pa_cons (pv 1) pa_nil)) (pg_tup rfl (pgs_cons (pg_name (i := 6) sc_law.nd rfl (.inl rfl)) (pgs_cons (pg_name (i := 7) sc_law.nd rfl (.inl rfl)) pgs_nil))))
        (C8.pss_cut (ps_par (i := 8) (j := 9) rfl sc_law.nd rfl rfl (by decide) rfl rfl (pa_cons (pe_c cWn hr (by decide) rfl (pa_cons (pv 4) (pa_cons (pv 5) pa_nil))) (pa_cons (pe_c cSh hr (by decide) rfl (pa_cons (pv 4) pa_nil)) pa_nil)) rfl)
        (C8.pss_cut (ps_set (i := 10) sc_law.nd rfl (.inl rfl) (pe_c cWu hr (by decide) rfl (pa_cons (pv 9) (pa_cons (pv 5) (pa_cons (pv 6) pa_nil)))))
        (C8.pss_cut (ps_set (i := 11) sc_law.nd rfl (.inl rfl) (pe_lst (pa_cons pe_non (pa_cons (pe_tup pa_nil) (pa_cons pe_str (pa_cons (pv 10) (pa_cons (pe_c cPp hr (by decide) rfl (pa_cons (pv 1) (pa_cons (pv 3) pa_nil))) (pa_cons (pe_c cPp hr (by decide) rfl (pa_cons (pv 1) (pa_cons (pv 3) pa_nil))) (pa_cons (pe_c cPp hr (by decide) rfl (pa_cons (pv 1) (pa_cons (pv 3) pa_nil))) pa_nil)))))))))
        (C8.pss_cut (ps_for PassesOwn.never rfl (pi_range1 rfl b.range (pa_cons pe_int pa_nil)) (pg_name (i := 12) sc_law.nd rfl (.inl rfl))
          (pss_one (ps_expr (pe_bm PySem.F.plainAttrs_list PySem.F.slot_list_append PySem.F.type_list_append mt_append (pv 11) (pa_cons (pe_c cBt hr (by decide) rfl (pa_cons (pv 1) (pa_cons (pv 3) (pa_cons (pe_ix (r := rIxL K) ix_list (pv 11) (pe_op op_add pe_int (pe_c cD hr (by decide) rfl (pa_cons (pv 1) (pa_cons pe_int pa_nil)))) (fun _ _ => rfl)) pa_nil)))) pa_nil)))))
        (C8.pss_cut (ps_for PassesOwn.never rfl (pi_list (pv 11)) (pg_name (i := 13) sc_law.nd rfl (.inl rfl))
          (pss_cons (ps_set (i := 14) sc_law.nd rfl (.inl rfl) (pe_callB (TV.call_reprV (m := 5) hgd (hr.mono (by decide)) hu64) rfl brep boot_repr (pa_cons (pv 13) pa_nil)))
          (pss_cons (ps_set (i := 15) sc_law.nd rfl (.inl rfl) (pe_callB (GL.call_reprD hgd hu64) rfl brep boot_repr (pa_cons (pe_c cBa hr (by decide) rfl (pa_cons (pv 8) (pa_cons (pv 5) (pa_cons (pv 7) (pa_cons (pv 13) pa_nil))))) pa_nil)))
          (pss_cons (ps_if (PW.pt (pw_or (pt_cmpR op_ne (pe_callB (GL.call_reprD hgd hu64) rfl brep boot_repr (pa_cons (pe_c cSu hr (by decide) rfl (pa_cons (pv 9) (pa_cons (pv 5) (pa_cons (pv 13) (pa_cons (pv 6) pa_nil))))) pa_nil)) (pv 15) (nomark _)) (pw_or1 (pt_cmpR op_ne (pe_callB (TV.call_reprV (m := 5) hgd (hr.mono (by decide)) hu64) rfl brep boot_repr (pa_cons (pv 13) pa_nil)) (pv 14) (nomark _))))) pss_never pss_nil)
          (pss_one (ps_if (PW.pt (pw_and (pt_cmpR (op_eqD hu64) (pv 7) (pe_tup (pa_cons pe_int (pa_cons pe_int pa_nil))) (nomark _)) (pw_and1 (pt_cmpR op_ne (pe_callB (GL.call_reprD hgd hu64) rfl brep boot_repr (pa_cons (pe_c cSu2 hr (by decide) rfl (pa_cons (pv 9) (pa_cons (pv 5) (pa_cons (pv 13) pa_nil)))) pa_nil)) (pv 15) (nomark _))))) pss_never pss_nil))))))
        (pss_one (ps_if (pt_cmpR op_ne (pe_callB (RPO.call_reprDc (n := 1) hgd (hr.mono (by decide))) rfl brep boot_repr (pa_cons (pv 9) pa_nil)) (pe_callB (RPO.call_reprDc (n := 1) hgd (hr.mono (by decide))) rfl brep boot_repr (pa_cons (pe_c cSh hr (by decide) rfl (pa_cons (pv 4) pa_nil)) pa_nil)) (nomark _)) pss_never pss_nil)))))))))))
      (pss_one (ps_ret pe_bl)))), ?_⟩
    refine ⟨fun σ' H' => ∃ h : Addr, σ' = [some (.ref s0), some (.ref h), none, none, none, none, none, none, none, none, none, none, none, none, none, none] ∧ Held H' h 900000000 ∧ Tabs (T0 K) H', ?_, ?_⟩
    · exact ⟨_, rfl, s0, ns, rfl, hS, hlen, fun h H1 s1 fh held1 => ⟨h, rfl, held1.weak (by decide), tabs.ext s1⟩⟩
    rintro σ' H1 ⟨h, rfl, held1, tabs1⟩
    refine ⟨2, rfl, by decide, by decide, for_range (n := 2) (fun i σ H2 => ∃ v2 v3 v4 v5 v6 v7 v8 v9 v10 v11 v12 v13 v14 v15, σ = [some (.ref s0), some (.ref h), v2, v3, v4, v5, v6, v7, v8, v9, v10, v11, v12, v13, v14, v15] ∧ Held H2 h (10000 * (8 - i)) ∧ Tabs (T0 K) H2)
      ⟨_, _, _, _, _, _, _, _, _, _, _, _, _, _, rfl, held1.weak (by decide), tabs1⟩ ?_ ?_⟩
    · rintro i σ H2 hi ⟨v2, v3, v4, v5, v6, v7, v8, v9, v10, v11, v12, v13, v14, v15, rfl, held2, tabs2⟩
      -- the names
      refine ⟨fun σ' H' => ∃ (nl : Addr) (xs : List Str), σ' = [some (.ref s0), some (.ref h), some (.int (0 + (i : Int))), some (.ref nl), v4, v5, v6, v7, v8, v9, v10, v11, v12, v13, v14, v15] ∧ Held H' h (10000 * (8 - i) - 41) ∧ Tabs (T0 K) H' ∧ H' nl = some (.lst (xs.map V.str)) ∧ xs.Nodup ∧ (∀ x ∈ xs, Nmd x) ∧ 2 ≤ xs.length ∧ xs.length ≤ 12, ?_, ?_⟩
      · refine ⟨_, rfl, _, rfl, h, 10000 * (8 - i) - 1, 7, rfl, held2.weak (by omega), by decide, by decide, fun n0 H3 n00 n01 held3 k3 => ⟨_, _, rfl, rfl, ?_⟩⟩
        obtain ⟨n0, rfl⟩ := Int.eq_ofNat_of_zero_le n00
        have en : (2 : Int) + (n0 : Nat) = ((2 + n0 : Nat) : Int) := by omega
        refine ⟨h, 10000 * (8 - i) - 41, 2 + n0, (by rw [← en]; rfl), held3.weak (by omega), by omega, fun nl zs H4 held4 k4 fnl hnl0 zl zok zpw => ?_⟩
        refine ⟨nl, zs.map S, rfl, held4, tabs_kp (tabs_kp tabs2 k3 held2) k4 held3, by rw [hnl0, List.map_map]; rfl, ?_, fun x hx => ?_, by rw [List.length_map]; omega, by rw [List.length_map]; omega⟩
        · rw [List.nodup_iff_pairwise_ne, List.pairwise_map]
          exact zpw.imp fun ne e => ne (S_inj e)
        · obtain ⟨l, hl, rfl⟩ := List.mem_map.mp hx
          exact strOk_nm (zok l hl)
      rintro σ' H3 ⟨nl, xs, rfl, held3, tabs3, hnl, xnd, xnm, x2, x12⟩
      have xne : xs ≠ [] := fun z => by rw [z] at x2; exact absurd x2 (by decide)
      -- the case
      refine ⟨fun σ' H' => ∃ (t D o : Addr) (ys : List Dy) (L : List Str) (cc : Str → Rat), σ' = [some (.ref s0), some (.ref h), some (.int (0 + (i : Int))), some (.ref nl), some (.ref D), some (.ref o), v6, v7, v8, v9, v10, v11, v12, v13, v14, v15] ∧ Held H' h (10000 * (8 - i) - 1600) ∧ Tabs (T0 K) H' ∧ H' nl = some (.lst (xs.map V.str)) ∧ Two H' h t D o xs ys L cc, ?_, ?_⟩
      · refine ⟨_, rfl, _, rfl, h, nl, 10000 * (8 - i) - 1600, xs, rfl, held3.weak (by omega), hnl, xne, xnd, x12, fun x hx => (xnm x hx).1, fun t D o ys L cc H4 held4 k4 tw => ?_⟩
        exact ⟨t, _, rfl, SqT.of tw.t, rfl, _, _, rfl, _, _, rfl, rfl, t, D, o, ys, L, cc, rfl, held4, tabs_kp tabs3 k4 held3, kp_lst k4 held3 _ _ hnl, tw⟩
      rintro σ' H4 ⟨t, D, o, ys, L, cc, rfl, held4, tabs4, hnl4, tw⟩
      have cf := tw.cf
      have y40 := cf.yl
      have Lx : L.length ≤ 12 := by
        have := few_of cf.nd cf.sub
        omega
      -- the slack
      refine ⟨fun σ' H' => ∃ (v : V) (pt : Addr) (s : Rat), σ' = [some (.ref s0), some (.ref h), some (.int (0 + (i : Int))), some (.ref nl), some (.ref D), some (.ref o), some v, some (.ref pt), v8, v9, v10, v11, v12, v13, v14, v15] ∧ Held H' h (10000 * (8 - i) - 1610) ∧ Tabs (T0 K) H' ∧ H' nl = some (.lst (xs.map V.str)) ∧ Two H' h t D o xs ys L cc ∧ H' pt = some (tupP (pr s)) ∧ Slk C H' v s ∧ 0 ≤ s ∧ Sz 4 s, ?_, ?_⟩
      · refine ⟨_, rfl, h, 10000 * (8 - i) - 1610, rfl, held4.weak (by omega), fun u pt v s H5 held5 k5 hu' hpt slk ss zs => ?_⟩
        exact ⟨u, _, rfl, SqT.of hu', rfl, _, _, rfl, _, _, rfl, rfl, v, pt, s, rfl, held5, tabs_kp tabs4 k5 held4, kp_lst k5 held4 _ _ hnl4, ⟨kp_tup k5 held4 _ _ tw.t, tw.ce.kp k5, tw.d.kp k5 held4 tw.ce.ne, ⟨kp_lst k5 held4 _ _ tw.dy.1, fun d hd => (tw.dy.2 d hd).tup (kp_tup k5 held4)⟩, cf⟩, hpt, slk, ss, zs⟩
      clear tw hnl4 tabs4
      rintro σ' H5 ⟨v, pt, sl, rfl, held5, tabs5, hnl5, tw, hpt, slk, s0', zs⟩
      -- what is due, the shares
      refine ⟨fun σ' H' => ∃ (wd sd : Addr), σ' = [some (.ref s0), some (.ref h), some (.int (0 + (i : Int))), some (.ref nl), some (.ref D), some (.ref o), some v, some (.ref pt), some (.ref wd), some (.ref sd), v10, v11, v12, v13, v14, v15] ∧ Sw K C H' h nl o wd sd pt (10000 * (8 - i) - 1610) xs ys L cc v sl ∧ Cel h D H' ∧ TDc H' D L cc, ?_, ?_⟩
      · refine ⟨_, rfl, _, rfl, D, o, L, cc, ys, rfl, tw.d, cf.nd, by omega, cf.sz, tw.dy, by omega, fun wd H6 s6 fwd Tw => ?_⟩
        have cw := (Cel.of held5 fwd).kp (Kp.same s6)
        refine ⟨_, rfl, D, L, cc, rfl, tw.d.same s6, cf.nd, by omega, fun x hx => (cf.sz x hx).mono (by decide), fun sd H7 s7 fsd Sd => ⟨_, _, rfl, ?_⟩⟩
        have cs := (Cel.of (held5.same s6) fsd).kp (Kp.same s7)
        have s57 := s6.trans s7
        exact ⟨wd, sd, rfl, ⟨held5.same s57, tabs5.ext s57, s57 _ _ hnl5, tw.dy.same s57, cw.kp (Kp.same s7), Tw.same s7, cs, Sd, s57 _ _ hpt, slk.same s57⟩, tw.ce.kp (Kp.same s57), tw.d.same s57⟩
      clear tw hpt slk hnl5 tabs5 held5 held4 held3 tabs3 hnl held2 tabs2
      rintro σ' H6 ⟨wd, sd, rfl, w6, ce6, T6⟩
      -- told
      refine ⟨fun σ' H' => ∃ u1 : V, σ' = [some (.ref s0), some (.ref h), some (.int (0 + (i : Int))), some (.ref nl), some (.ref D), some (.ref o), some v, some (.ref pt), some (.ref wd), some (.ref sd), some u1, v11, v12, v13, v14, v15] ∧ Sw K C H' h nl o wd sd pt (10000 * (8 - i) - 1610) xs ys L cc v sl ∧ Cel h D H' ∧ TDc H' D L cc ∧ Pn H' u1, ?_, ?_⟩
      · refine ⟨_, rfl, _, rfl, _, rfl, sd, o, v, L, cc, ys, sl, rfl, w6.se cf x12 zs, fun u1 H7 e7 t7 po => ?_⟩
        refine ⟨u1, rfl, w6.ext e7 t7, ce6.ext e7, T6.ext e7, ?_⟩
        rcases po with ⟨rfl, _⟩ | ⟨t, p, rfl, hp, bp⟩
        · exact Pn.non
        · exact pap_pn hp bp cf x12 xnm
      clear w6 ce6 T6
      rintro σ' H7 ⟨u1, rfl, w7, ce7, T7, pn7⟩
      -- the things
      refine ⟨fun σ' H' => ∃ (TL e p1 p2 p3 : Addr) (HT : Hp), σ' = [some (.ref s0), some (.ref h), some (.int (0 + (i : Int))), some (.ref nl), some (.ref D), some (.ref o), some v, some (.ref pt), some (.ref wd), some (.ref sd), some u1, some (.ref TL), v12, v13, v14, v15] ∧ Sw K C HT h nl o wd sd pt (10000 * (8 - i) - 1670) xs ys L cc v sl ∧ Cel h D HT ∧ TDc HT D L cc ∧ HT e = some (.tup []) ∧ (∀ v ∈ [u1, .ref p1, .ref p2, .ref p3], Pn HT v) ∧ HT TL = none ∧
          H' = upd HT TL (.lst [.non, .ref e, .str "part", u1, .ref p1, .ref p2, .ref p3]), ?_, ?_⟩
      · refine ⟨by show 0 ≤ sizeLine; decide, fun e fe => ?_⟩
        have se := same_new (o := .tup []) fe
        have he : (upd H7 e (.tup [])) e = some (.tup []) := upd_same
        have w8 := w7.same se
        have ce8 := ce7.kp (Kp.same se)
        have T8 := T7.same se
        have pn8 := pn7.same se
        generalize upd H7 e (.tup []) = H8 at he w8 ce8 T8 pn8
        refine ⟨_, rfl, _, rfl, _, rfl, h, nl, 10000 * (8 - i) - 1630, xs, rfl, w8.held.weak (by omega), w8.hn, xne, x12, xnm, fun p1 y1 x1 H9 held9 k9 q1 => ?_⟩
        have w9 := w8.kp k9 held9
        have ce9 := ce8.kp k9
        have T9 := T8.kp k9 w8.held ce8.ne
        have pn9 := pn8.kp k9 w8.held
        have he9 := kp_tup k9 w8.held _ _ he
        have pa9 : Pn H9 (.ref p1) := ⟨_, _, q1⟩
        refine ⟨_, rfl, _, rfl, h, nl, 10000 * (8 - i) - 1650, xs, rfl, held9.weak (by omega), w9.hn, xne, x12, xnm, fun p2 y2 x2' Ha helda ka q2 => ?_⟩
        have wa := w9.kp ka helda
        have cea := ce9.kp ka
        have Ta := T9.kp ka held9 ce9.ne
        have pna := pn9.kp ka held9
        have hea := kp_tup ka held9 _ _ he9
        have paa := pa9.kp ka held9
        have pba : Pn Ha (.ref p2) := ⟨_, _, q2⟩
        refine ⟨_, rfl, _, rfl, h, nl, 10000 * (8 - i) - 1670, xs, rfl, helda.weak (by omega), wa.hn, xne, x12, xnm, fun p3 y3 x3 Hb heldb kb q3 => ?_⟩
        refine ⟨by show 7 ≤ sizeLine; decide, fun TL fTL => ?_⟩
        refine ⟨TL, e, p1, p2, p3, Hb, rfl, wa.kp kb heldb, cea.kp kb, Ta.kp kb helda cea.ne, kp_tup kb helda _ _ hea, fun v hv => ?_, fTL, rfl⟩
        simp only [List.mem_cons, List.not_mem_nil, or_false] at hv
        rcases hv with rfl | rfl | rfl | rfl
        · exact pna.kp kb helda
        · exact paa.kp kb helda
        · exact pba.kp kb helda
        · exact ⟨_, _, q3⟩
      clear w7 ce7 T7 pn7
      rintro σ' _ ⟨TL, e, p1, p2, p3, HT, rfl, wT, ceT, TT, heT, pnT, fT, rfl⟩
      have heldT := wT.held
      have sT := same_new (o := .lst [.non, .ref e, .str "part", u1, .ref p1, .ref p2, .ref p3]) fT
      -- things bent
      refine ⟨fun σ' H' => ∃ (ws : List V) (v12 : Option V), σ' = [some (.ref s0), some (.ref h), some (.int (0 + (i : Int))), some (.ref nl), some (.ref D), some (.ref o), some v, some (.ref pt), some (.ref wd), some (.ref sd), some u1, some (.ref TL), v12, v13, v14, v15] ∧ Held H' h (10000 * (8 - i) - 1790) ∧ Kp h HT H' ∧ H' TL = some (.lst ([.non, .ref e, .str "part", u1, .ref p1, .ref p2, .ref p3] ++ ws)) ∧ ∀ v ∈ ws, Pv H' v, ?_, ?_⟩
      · refine ⟨6, rfl, by decide, by decide, for_range (n := 6) (fun k σ' H' => ∃ (ws : List V) (v12 : Option V), σ' = [some (.ref s0), some (.ref h), some (.int (0 + (i : Int))), some (.ref nl), some (.ref D), some (.ref o), some v, some (.ref pt), some (.ref wd), some (.ref sd), some u1, some (.ref TL), v12, v13, v14, v15] ∧ Held H' h (10000 * (8 - i) - 1670 - 20 * k) ∧ Kp h HT H' ∧ Cel h TL H' ∧ H' TL = some (.lst ([.non, .ref e, .str "part", u1, .ref p1, .ref p2, .ref p3] ++ ws)) ∧ ws.length = k ∧ ∀ v ∈ ws, Pv H' v)
          ⟨[], _, rfl, heldT.same sT, Kp.same sT, (Cel.of heldT fT).kp (Kp.same sT), upd_same, rfl, fun v hv => absurd hv List.not_mem_nil⟩ ?_ ?_⟩
        · rintro k σ' H8 hk ⟨ws, v12, rfl, held8, k8, c8, hT8, wl, pw8⟩
          refine ⟨_, rfl, Or.inl ⟨rfl, _, SqL.of hT8⟩, _, rfl, _, rfl, _, rfl, _, rfl, h, 10000 * (8 - i) - 1670 - 20 * k - 1, 4, rfl, held8.weak (by omega), by decide, by decide, fun r H9 r0 r4 held9 k9 => ?_⟩
          obtain ⟨r, rfl⟩ := Int.eq_ofNat_of_zero_le r0
          have er : (3 : Int) + (r : Nat) = ((3 + r : Nat) : Int) := by omega
          have hT9 := k9.1 _ _ hT8 c8.ne
          have kT9 := k8.trans k9
          have r3 : r < [u1, V.ref p1, V.ref p2, V.ref p3].length := by show r < 4; omega
          have hat : ([V.non, .ref e, .str "part", u1, .ref p1, .ref p2, .ref p3] ++ ws)[3 + r]? = some ([u1, V.ref p1, V.ref p2, V.ref p3][r]) := by
            have : r = 0 ∨ r = 1 ∨ r = 2 ∨ r = 3 := by omega
            rcases this with rfl | rfl | rfl | rfl <;> rfl
          obtain ⟨y, tx, pb⟩ := (pnT _ (List.getElem_mem r3)).kp kT9 heldT
          refine ⟨_, _, rfl, rfl, TL, _, _, _, rfl, rfl, SqL.of hT9, by rw [er]; exact atI_nat hat, ?_⟩
          refine ⟨h, nl, _, 10000 * (8 - i) - 1670 - 20 * (k + 1), xs, y, tx, 2, 12, 2500, rfl, held9.weak (by omega), kp_lst kT9 heldT _ _ wT.hn, xne, xnm, pb.tv, by decide, pb.dd, pb.tl, by decide, pb.lv, pb.nn, pb.hh, fun x Ha helda ka bx => ?_⟩
          have hTa := ka.1 _ _ hT9 (c8.kp k9).ne
          have ca := (c8.kp k9).kp ka
          have pxa := bx.pv
          have keep : ∀ b o, Ha b = some o → b ≠ TL → (upd Ha TL (.lst (([.non, .ref e, .str "part", u1, .ref p1, .ref p2, .ref p3] ++ ws) ++ [x]))) b = some o := fun b o eb ne => by rw [upd_ne ne]; exact eb
          have again : ∀ x', Pv Ha x' → Pv (upd Ha TL (.lst (([.non, .ref e, .str "part", u1, .ref p1, .ref p2, .ref p3] ++ ws) ++ [x]))) x' := fun x' q => by
            obtain ⟨y', t', n', a1, a2, a3, a4, a5⟩ := q
            exact ⟨y', t', n', tv_nn hTa keep a1 a5, a2, a3, a4, a5⟩
          refine ⟨TL, _, _, rfl, rfl, hTa, by rw [List.length_append, wl]; exact Nat.lt_of_lt_of_le (show 7 + k < 64 by omega) (by decide), ws ++ [x], _, rfl, helda.put ca, (kT9.trans ka).new fT, ca.put ca.ne.symm, by rw [upd_same, List.append_assoc], by rw [List.length_append, wl]; rfl, fun x' hx' => ?_⟩
          rcases List.mem_append.mp hx' with hx' | hx'
          · exact again x' (((pw8 x' hx').kp k9 held8).kp ka held9)
          · rw [List.mem_singleton.mp hx']
            exact again x pxa
        · rintro σ' H8 ⟨ws, v12, rfl, held8, k8, c8, hT8, wl, pw8⟩
          exact ⟨ws, v12, rfl, held8.weak (by omega), k8, hT8, pw8⟩
      rintro σ' H8 ⟨ws, v12, rfl, held8, kT8, hT8, pw8⟩
      have w8 := wT.kp kT8 held8
      have ce8 := ceT.kp kT8
      have T8 := TT.kp kT8 heldT ceT.ne
      have all8 : ∀ x ∈ ([V.non, .ref e, .str "part", u1, .ref p1, .ref p2, .ref p3] ++ ws), Pv H8 x := fun x hx => by
        rcases List.mem_append.mp hx with hx | hx
        · have base4 : ∀ x ∈ [u1, V.ref p1, V.ref p2, V.ref p3], Pv H8 x := fun x hx => (pnT x hx).pv.kp kT8 heldT
          rcases List.mem_cons.mp hx with rfl | hx
          · exact Pn.non.pv
          rcases List.mem_cons.mp hx with rfl | hx
          · exact ⟨_, _, 1, .tup (n := 0) (kp_tup kT8 heldT _ _ heT) .nil, by decide, lk_of (l := 0) (lv_tup (by decide) (fun k d hd => absurd hd List.not_mem_nil) 2) (by decide), by decide +kernel, nn_tup fun d hd => absurd hd List.not_mem_nil⟩
          rcases List.mem_cons.mp hx with rfl | hx
          · exact ⟨_, _, 0, .str (by decide +kernel), by decide, lk_of (l := 0) (Lv.flat (fun _ e => nomatch e)) (by decide), by decide +kernel, nn_str⟩
          · exact base4 x hx
        · exact pw8 x hx
      have zdue := w8.due_sz cf x12
      have zs100 := zs.mono (show 4 ≤ 100 by decide)
      have okB : ∀ y ∈ ys, ∀ x ∈ y.B, PyData.strOk x = true := fun y hy x hx => (xnm x ((cf.dm y hy).2 x hx)).1
      clear wT ceT TT pnT heT fT sT kT8 pw8
      -- looked at
      refine ⟨fun σ' H' => ∃ (v12 v13 v14 v15 : Option V), σ' = [some (.ref s0), some (.ref h), some (.int (0 + (i : Int))), some (.ref nl), some (.ref D), some (.ref o), some v, some (.ref pt), some (.ref wd), some (.ref sd), some u1, some (.ref TL), v12, v13, v14, v15] ∧ Same H8 H', ?_, ?_⟩
      · refine ⟨_, rfl, TL, rfl, ⟨_, SqL.of hT8⟩, for_list (K := K) (xs := [V.non, .ref e, .str "part", u1, .ref p1, .ref p2, .ref p3] ++ ws) (fun k σ' H' => ∃ (v12 v13 v14 v15 : Option V), σ' = [some (.ref s0), some (.ref h), some (.int (0 + (i : Int))), some (.ref nl), some (.ref D), some (.ref o), some v, some (.ref pt), some (.ref wd), some (.ref sd), some u1, some (.ref TL), v12, v13, v14, v15] ∧ Same H8 H')
          ⟨_, _, _, _, rfl, Same.refl _⟩ (fun k σ' H' _ z => by obtain ⟨_, _, _, _, _, z⟩ := z; exact SqL.of (z _ _ hT8)) ?_ ?_⟩
        · rintro k x σ' H9 hx ⟨v12, v13, v14, v15, rfl, s9⟩
          obtain ⟨y, tx, n, tv8, n5, lk, tl, _⟩ := all8 x (List.mem_of_getElem? hx)
          have tlz : tx.length ≤ sizeLine := Nat.le_trans tl (by decide)
          refine ⟨_, rfl, x, y, tx, n, rfl, tv8.same s9, n5, tlz, fun Ha xa => ?_⟩
          have sa : Same H8 Ha := Same.trans s9 xa
          have wa := w8.same sa
          refine ⟨_, rfl, _, rfl, _, rfl, _, rfl, wd, o, pt, x, _, _, ys, sl, y, tx, n, rfl, wa.w, wa.dy, wa.p, tv8.same sa, lk, zdue, zs100, by omega, okB, fun Hb z sb hz => ?_⟩
          have s8b := sa.trans sb
          have wb := w8.same s8b
          obtain ⟨y1, y2, y3, y4⟩ := lay_b z
          refine ⟨_, _, rfl, .bl z, y1, y2, y3, y4, ?_⟩
          refine ⟨_, rfl, _, rfl, _, rfl, _, rfl, sd, o, x, v, L, cc, ys, sl, y, tx, n, rfl, wb.se cf x12 zs, tv8.same s8b, lk, fun Hc z3 sc hz3 => ?_⟩
          have zz : z3 = z := by
            rw [Bool.eq_iff_iff, hz, hz3, barsF_due cf.nd]
          subst zz
          have s8c := s8b.trans sc
          refine ⟨_, _, rfl, .bl z3, y1, y2, y3, y4, _, rfl, rfl, _, rfl, ?_⟩
          rw [ne_same]
          refine iteF ?_
          refine ⟨_, rfl, x, y, tx, n, rfl, tv8.same s8c, n5, tlz, fun Hd xd => ⟨_, rfl, rfl, _, rfl, ?_⟩⟩
          rw [ne_same]
          refine iteF ?_
          have s8d : Same H8 Hd := Same.trans s8c xd
          have wd8 := w8.same s8d
          refine ⟨_, rfl, l2, fun q fq => ?_⟩
          have sq := same_new (o := .tup [.int 0, .int 1]) fq
          refine ⟨_, _, DQ.dp_pair (sq _ _ wd8.p), DQ.dp_pair (q := (0, 1)) upd_same, DQ.sh_pair _, DQ.sh_pair _, ?_⟩
          rw [eqv_pD]
          refine ⟨_, rfl, ?_⟩
          have s8q := s8d.trans sq
          generalize upd Hd q (.tup [.int 0, .int 1]) = He at s8q
          refine ite2 (fun c => ?_) (fun _ => ?_)
          · have s00 : sl = 0 := KM.pr_inj (s := 0) (of_decide_eq_true c)
            have d01 : (0 : Rat) = Rat.divInt 0 1 := by decide
            have we := w8.same s8q
            refine ⟨_, rfl, _, rfl, _, rfl, sd, o, x, .int 0, L, cc, ys, 0, y, tx, n, rfl, ⟨we.sh, cf.nd, by omega, cf.sz, cf.s0, we.dy, by omega, wN_len cf.sub (fun y hy => (cf.dm y hy).1) (by omega), .inl ⟨0, rfl, d01⟩, sz0 (by decide), we.tabs⟩, tv8.same s8q, lk, fun Hf z4 sf hz4 => ?_⟩
            have zz : z4 = z3 := by
              rw [Bool.eq_iff_iff, hz4, hz3, s00]
            subst zz
            refine ⟨_, _, rfl, .bl z4, y1, y2, y3, y4, _, rfl, rfl, _, rfl, ?_⟩
            rw [ne_same]
            refine iteF ?_
            exact ⟨_, _, _, _, rfl, s8q.trans sf⟩
          · exact ⟨_, _, _, _, rfl, s8q⟩
        · rintro σ' H9 ⟨v12, v13, v14, v15, rfl, s9⟩
          exact ⟨v12, v13, v14, v15, rfl, s9⟩
      rintro σ' H9 ⟨v12, v13, v14, v15, rfl, s9⟩
      -- the shares are as they were
      have nmc : ∀ x ∈ L, Nmd x := fun x hx => xnm x (cf.sub x hx)
      obtain ⟨as2, hsd2, hsv2⟩ := id (w8.sh.same s9)
      refine ⟨_, rfl, sd, _, _, rfl, hsd2, rp_dict Sp (Nat.le_refl 1) hsd2 hsv2 cf.sz, dict_len (by omega) nmc cf.sz, fun HC xC => ?_⟩
      refine ⟨_, rfl, D, L, cc, rfl, (T8.same s9).same xC, cf.nd, by omega, fun x hx => (cf.sz x hx).mono (by decide), fun sd2 HD sD _ SD => ?_⟩
      obtain ⟨as, hsd, hsv⟩ := SD
      refine ⟨sd2, _, _, rfl, hsd, rp_dict Sp (Nat.le_refl 1) hsd hsv cf.sz, dict_len (by omega) nmc cf.sz, fun HE xE => ⟨rfl, _, rfl, ?_⟩⟩
      rw [ne_same]
      refine iteF ?_
      have s8E : Same H8 HE := Same.trans (Same.trans (Same.trans s9 xC) sD) xE
      have wE := w8.same s8E
      exact ⟨_, _, _, _, _, _, _, _, _, _, _, _, _, _, rfl, wE.held.weak (by omega), wE.tabs⟩
    · rintro σ H2 ⟨v2, v3, v4, v5, v6, v7, v8, v9, v10, v11, v12, v13, v14, v15, rfl, held2, tabs2⟩
      exact hQ H2
end
end K52
set_option Elab.async false
set_option linter.all false
set_option maxRecDepth 100000
set_option maxHeartbeats 4000000
/-! KB: what a call by keywords binds, for a def without keyword-only parameters. -/
namespace KW
open PySem PySem.Spec PyProof.Rows L2
section
variable {K : PySem.W.Frag} {x qual : Str} {params : Arguments} {body : List Stmt} {scope : Scope} {dvs : List V} {kws : List (Str × V)} {f : Addr} {fd : FuncData} {ps : List Str}
theorem kb1 (F : FunD K x qual params body scope dvs kws f fd) (n : Nat) (ks : List Str) (g : {α : Type} → List α → List α → List α → List α) (hd : dvs ≠ [])
    (hrel : ∀ {vs ds zs : List V} {us its ws : List Value}, Vals vs us → Vals ds its → Vals zs ws → Vals (g vs ds zs) (g us its ws))
    (h : ∀ (T : Addr) (kV doc pm : Value) (an : Option Addr) (cdv ct : Value) (us its ws : List Value), us.length = n → its.length = dvs.length → ws.length = ks.length →
      ∃ k, bindArgs (PySem.W.fnOf x qual params body scope (.ref T) kV doc pm an cdv ct) ⟨us, ks.zip ws⟩ = seqItems? (.ref T) >>= k ∧ k (some its.toArray) = pure (ps.zip (g us its ws))) :
    ∃ its : List Value, KBn K fd ps n ks (fun us ws => g us its ws) (fun vs zs => g vs dvs zs) := by
  obtain ⟨oc, od, dV, kV, doc, pm, an, cdv, ct, osl, rfl, lk, hcd, hD, hK⟩ := F.ex
  rcases hD with ⟨e, _⟩ | ⟨_, T, o, its, m, rfl, lT, oT, rT⟩
  · exact absurd e hd
  · refine ⟨its, ⟨fun s us ws X l1 l2 => ?_, fun r1 r2 => hrel r1 rT r2⟩⟩
    obtain ⟨k, e1, e2⟩ := h T kV doc pm an cdv ct us its ws l1 rT.length.symm l2
    refine BindsTo.of_looks fun M => ?_
    rw [e1]
    exact looks_items X lT oT (.of_pure e2)
theorem kb0 (F : FunD K x qual params body scope [] kws f fd) (n : Nat) (ks : List Str) (g : {α : Type} → List α → List α → List α)
    (hrel : ∀ {vs zs : List V} {us ws : List Value}, Vals vs us → Vals zs ws → Vals (g vs zs) (g us ws))
    (h : ∀ (kV doc pm : Value) (an : Option Addr) (cdv ct : Value) (us ws : List Value), us.length = n → ws.length = ks.length →
      bindArgs (PySem.W.fnOf x qual params body scope .none kV doc pm an cdv ct) ⟨us, ks.zip ws⟩ = pure (ps.zip (g us ws))) :
    KBn K fd ps n ks (fun us ws => g us ws) (fun vs zs => g vs zs) := by
  obtain ⟨oc, od, dV, kV, doc, pm, an, cdv, ct, osl, rfl, lk, hcd, hD, hK⟩ := F.ex
  rcases hD with ⟨_, rfl⟩ | ⟨e, _⟩
  · exact ⟨fun s us ws X l1 l2 => .of_eq (h kV doc pm an cdv ct us ws l1 l2), fun r1 r2 => hrel r1 r2⟩
  · exact absurd rfl e
end
end KW
set_option Elab.async false
set_option linter.all false
set_option maxRecDepth 100000
set_option maxHeartbeats 4000000
namespace K52
open PySem PySem.Spec PyProof.Rows L2
/-! what the head asks of Share and of the two tables -/
theorem isB_ok {K : PySem.W.Frag} {C : Addr} (h : GX.isB K C = true) : PySem.W.findIn K (.ref C) "__class__" = some (some (.builtin "object.__class__")) ∧ PySem.W.specialIn K (.builtin "object.__class__") "__get__" = some (some (.builtin "getset_descriptor.__get__")) ∧ PySem.W.takesIn K (.builtin "object.__class__") = some true ∧ PySem.W.mroIn K C (.type "object") = some true := by
  unfold GX.isB at h
  simp only [Bool.and_eq_true, decide_eq_true_eq] at h
  exact ⟨He.eqO_ok h.1, He.eqO_ok h.2.1, h.2.2.1, h.2.2.2⟩
def xk1 (K : PySem.W.Frag) : Bool := GX.isB K (He.ga K "Share") && (decide (PySem.W.kitOne K (.ref (He.ga K "Share")) (.type "int") = some false) && decide ((He.cT K ("raise_to_leasts", none)).2 ≠ (He.cT K ("fill_days", none)).2))
theorem xk_ok {K : PySem.W.Frag} (h : xk1 K = true) : IsI K (He.ga K "Share") ∧ (He.cT K ("raise_to_leasts", none)).2 ≠ (He.cT K ("fill_days", none)).2 := by
  unfold xk1 at h
  obtain ⟨h1, h⟩ := Bool.and_eq_true_iff.mp h
  obtain ⟨h2, h3⟩ := Bool.and_eq_true_iff.mp h
  obtain ⟨y1, y2, y3, y4⟩ := isB_ok h1
  exact ⟨⟨⟨y1, y2, y3, y4, by unfold PySem.W.kitOne; rw [if_pos (beq_self_eq_true _)]⟩, of_decide_eq_true h2⟩, of_decide_eq_true h3⟩
end K52
set_option Elab.async false
set_option linter.all false
set_option maxRecDepth 100000
set_option maxHeartbeats 0
namespace K52
open PySem PySem.Spec PyProof.Rows L2
open C8 (Cal Mak Met pe_c pe_mk pe_mt pe_mt0)
def fa : List He.Fa := [.glo "is_whole", .glo "common_part", .glo "same_share", .glo "total", .glo "check_even", .glo "joined", .glo "turned", .glo "wanted", .glo "slack_share", .glo "least_of", .glo "most_of", .glo "is_parted", .glo "drives_given", .glo "drives_taken", .glo "find_way", .glo "pass_along", .glo "fill_days", .glo "raise_to_leasts", .glo "search", .glo "why_uneven", .glo "are_rising", .glo "are_few", .glo "are_crowded", .glo "shows_uneven", .glo "_law_held", .glo "_law_draw", .glo "_law_names", .glo "_law_low", .glo "_law_add", .glo "_law_coming", .glo "_law_wants", .glo "_law_even_case", .glo "_law_shares", .glo "_law_moved", .glo "_law_slack", .glo "_law_ends", .glo "_law_bars", .glo "_law_long_case", .glo "_law_paper", .glo "_law_bent", .glo "law", .free "isinstance", .free "int", .free "bool", .free "abs", .free "list", .free "range", .free "len", .free "repr", .free "sorted", .free "dict", .free "str", .free "tuple", .free "min", .free "max", .free "enumerate", .free "any", .free "all", .free "sum", .free "set", .glo "Share", .cls "Share", .mkr "Share", .noat "Share" "top", .noat "Share" "bottom", .meth "Share" "plus", .meth "Share" "less", .meth "Share" "whole", .meth "Share" "__repr__"]
def xk (K : PySem.W.Frag) : Bool := (xk1) K
abbrev R : PySem.W.OpenRow := PySem.W.OpenLaw.row PySem.Challenge.rw_rideturns_k52_papers_of_uneven_looked_at
def tf : List He.Defn := [("fill_days", none), ("raise_to_leasts", none)]
abbrev hk : PySem.W.Hook := He.hookX 6 fa fn [] tf xk
def ob (s : PySem.W.SharedT) : He.AlX := He.obsX 6 fa fn [] tf xk (HandSHeadRun.getT s)
theorem ob_eq (s : PySem.W.SharedT) : ob s = hk.obs s.abs := He.obsX_eq (HandSHeadRun.getT_eq s)
abbrev loose : List Str := [("_wall" : Str), ("NoKind" : Str), ("Nought" : Str), ("Uneven" : Str), ("is_whole" : Str), ("common_part" : Str), ("Share" : Str), ("same_share" : Str), ("total" : Str), ("check_even" : Str), ("joined" : Str), ("turned" : Str), ("wanted" : Str), ("slack_share" : Str), ("least_of" : Str), ("most_of" : Str), ("is_parted" : Str), ("drives_given" : Str), ("drives_taken" : Str), ("find_way" : Str), ("pass_along" : Str), ("fill_days" : Str), ("raise_to_leasts" : Str), ("search" : Str), ("why_uneven" : Str), ("are_rising" : Str), ("are_few" : Str), ("are_crowded" : Str), ("shows_uneven" : Str), ("_law_held" : Str), ("_law_draw" : Str), ("_law_names" : Str), ("_law_low" : Str), ("_law_add" : Str), ("_law_coming" : Str), ("_law_wants" : Str), ("_law_even_case" : Str), ("_law_shares" : Str), ("_law_moved" : Str), ("_law_slack" : Str), ("_law_ends" : Str), ("_law_bars" : Str), ("_law_long_case" : Str), ("_law_paper" : Str), ("_law_bent" : Str)]
theorem run_ (w : World) : HandSHeadRun.RunEq R (PySem.W.view R.prog [52]) hk ob 8000 loose w := by
  intro os
  kernel_rfl
theorem cal_of {P : Program} {w : World} {K : PySem.W.Frag} {mg : Str → Option Value} {base : Heap} {f : Addr} {fd : FuncData} {ps : List Str} {k : Nat} {x : Str} {sp : Sp} (F : FnOk P w K mg base CX0 k f fd ps sp) (g : mg x = some (.ref f)) (kp : PySem.W.keepIn K (.ref f) = true) (b : Binds K fd ps []) : Cal P w K mg base k x sp [] :=
  ⟨f, fd, ps, [], F, g, kp, b, .nil⟩
theorem met_of {P : Program} {w : World} {K : PySem.W.Frag} {mg : Str → Option Value} {base : Heap} {f C : Addr} {fd : FuncData} {ps : List Str} {k : Nat} {m : Str} {sp : Sp} (c : Cls K C) (h : Meth K C m f) (F : FnOk P w K mg base CX0 k f fd ps sp) (b : Binds K fd ps []) : Met P w K mg base k C m sp [] :=
  ⟨f, fd, ps, [], c, h, F, b, .nil⟩
theorem facts {P : Program} {w : World} {K : PySem.W.Frag} {h h0 : Heap} {mg : Str → Option Value} {f : Addr} (X : K.In h) (G : h.Ns mainGlobals mg) (hfa : mg ("law" : Str) = some (.ref f)) (c : He.SaysX fa fn [] tf xk w h0 K) :
    ∃ fd : FuncData, (∀ (s : Shared) (v : Value), BindsTo s fd ⟨[v], []⟩ [("_law_script", v)]) ∧ ∀ base : Heap, K.In base → base.Ns mainGlobals mg → LamX.TabB base mg (He.cT K ("fill_days", none)).1 (He.cT K ("fill_days", none)).2 → LamX.TabB base mg (He.cT K ("raise_to_leasts", none)).1 (He.cT K ("raise_to_leasts", none)).2 → GL.FnG P w K mg base 10 f fd ["_law_script"] (spLaw K) := by
  have d := c.t.d
  have x := c.more
  have gl : ∀ (i : Nat) (x : Str), fa[i]? = some (.glo x) → mg x = some (.ref (He.ga K x)) := fun i x e => He.glo_ok X G (d.fact i e)
  have fr : ∀ (i : Nat) (x : Str), fa[i]? = some (.free x) → mg x = none := fun i x e => He.free_ok X G (d.fact i e)
  have me : ∀ (i : Nat) (C m : Str), fa[i]? = some (.meth C m) → Meth K (He.ga K C) m (He.ma K (He.ga K C) m) := fun i C m e => He.meth_ok (d.fact i e)
  have gl_is_whole := gl 0 "is_whole" rfl
  have gl_common_part := gl 1 "common_part" rfl
  have gl_same_share := gl 2 "same_share" rfl
  have gl_total := gl 3 "total" rfl
  have gl_check_even := gl 4 "check_even" rfl
  have gl_joined := gl 5 "joined" rfl
  have gl_turned := gl 6 "turned" rfl
  have gl_wanted := gl 7 "wanted" rfl
  have gl_slack_share := gl 8 "slack_share" rfl
  have gl_least_of := gl 9 "least_of" rfl
  have gl_most_of := gl 10 "most_of" rfl
  have gl_is_parted := gl 11 "is_parted" rfl
  have gl_drives_given := gl 12 "drives_given" rfl
  have gl_drives_taken := gl 13 "drives_taken" rfl
  have gl_find_way := gl 14 "find_way" rfl
  have gl_pass_along := gl 15 "pass_along" rfl
  have gl_fill_days := gl 16 "fill_days" rfl
  have gl_raise_to_leasts := gl 17 "raise_to_leasts" rfl
  have gl_search := gl 18 "search" rfl
  have gl_why_uneven := gl 19 "why_uneven" rfl
  have gl_are_rising := gl 20 "are_rising" rfl
  have gl_are_few := gl 21 "are_few" rfl
  have gl_are_crowded := gl 22 "are_crowded" rfl
  have gl_shows_uneven := gl 23 "shows_uneven" rfl
  have gl__law_held := gl 24 "_law_held" rfl
  have gl__law_draw := gl 25 "_law_draw" rfl
  have gl__law_names := gl 26 "_law_names" rfl
  have gl__law_low := gl 27 "_law_low" rfl
  have gl__law_add := gl 28 "_law_add" rfl
  have gl__law_coming := gl 29 "_law_coming" rfl
  have gl__law_wants := gl 30 "_law_wants" rfl
  have gl__law_even_case := gl 31 "_law_even_case" rfl
  have gl__law_shares := gl 32 "_law_shares" rfl
  have gl__law_moved := gl 33 "_law_moved" rfl
  have gl__law_slack := gl 34 "_law_slack" rfl
  have gl__law_ends := gl 35 "_law_ends" rfl
  have gl__law_bars := gl 36 "_law_bars" rfl
  have gl__law_long_case := gl 37 "_law_long_case" rfl
  have gl__law_paper := gl 38 "_law_paper" rfl
  have gl__law_bent := gl 39 "_law_bent" rfl
  have gl_law := gl 40 "law" rfl
  have fr_isinstance := fr 41 "isinstance" rfl
  have fr_int := fr 42 "int" rfl
  have fr_bool := fr 43 "bool" rfl
  have fr_abs := fr 44 "abs" rfl
  have fr_list := fr 45 "list" rfl
  have fr_range := fr 46 "range" rfl
  have fr_len := fr 47 "len" rfl
  have fr_repr := fr 48 "repr" rfl
  have fr_sorted := fr 49 "sorted" rfl
  have fr_dict := fr 50 "dict" rfl
  have fr_str := fr 51 "str" rfl
  have fr_tuple := fr 52 "tuple" rfl
  have fr_min := fr 53 "min" rfl
  have fr_max := fr 54 "max" rfl
  have fr_enumerate := fr 55 "enumerate" rfl
  have fr_any := fr 56 "any" rfl
  have fr_all := fr 57 "all" rfl
  have fr_sum := fr 58 "sum" rfl
  have fr_set := fr 59 "set" rfl
  have gl_Share := gl 60 "Share" rfl
  have cls_Share := He.cls_ok (d.fact 61 (f := .cls "Share") rfl)
  have mk_Share := He.mkr_ok (d.fact 62 (f := .mkr "Share") rfl)
  have no_Share_top := He.noat_ok (d.fact 63 (f := .noat "Share" "top") rfl)
  have no_Share_bottom := He.noat_ok (d.fact 64 (f := .noat "Share" "bottom") rfl)
  have me_Share_plus := me 65 "Share" "plus" rfl
  have me_Share_less := me 66 "Share" "less" rfl
  have me_Share_whole := me 67 "Share" "whole" rfl
  have me_Share_repr := me 68 "Share" "__repr__" rfl
  obtain ⟨fd_is_whole, D_is_whole⟩ := d.def_ 4 (d := d_is_whole) rfl
  obtain ⟨fd_common_part, D_common_part⟩ := d.def_ 5 (d := d_common_part) rfl
  obtain ⟨fd_Share_init, D_Share_init⟩ := d.def_ 6 (d := d_Share_init) rfl
  obtain ⟨fd_Share_plus, D_Share_plus⟩ := d.def_ 10 (d := d_Share_plus) rfl
  obtain ⟨fd_Share_less, D_Share_less⟩ := d.def_ 11 (d := d_Share_less) rfl
  obtain ⟨fd_Share_whole, D_Share_whole⟩ := d.def_ 15 (d := d_Share_whole) rfl
  obtain ⟨fd_Share_repr, D_Share_repr⟩ := d.def_ 9 (d := d_Share_repr) rfl
  obtain ⟨fd_same_share, D_same_share⟩ := d.def_ 16 (d := d_same_share) rfl
  obtain ⟨fd_total, D_total⟩ := d.def_ 17 (d := d_total) rfl
  obtain ⟨fd_check_even, D_check_even⟩ := d.def_ 18 (d := d_check_even) rfl
  obtain ⟨fd_joined, D_joined⟩ := d.def_ 19 (d := d_joined) rfl
  obtain ⟨fd_turned, D_turned⟩ := d.def_ 20 (d := d_turned) rfl
  obtain ⟨fd_wanted, D_wanted⟩ := d.def_ 21 (d := d_wanted) rfl
  obtain ⟨fd_slack_share, D_slack_share⟩ := d.def_ 22 (d := d_slack_share) rfl
  obtain ⟨fd_least_of, D_least_of⟩ := d.def_ 23 (d := d_least_of) rfl
  obtain ⟨fd_most_of, D_most_of⟩ := d.def_ 24 (d := d_most_of) rfl
  obtain ⟨fd_is_parted, D_is_parted⟩ := d.def_ 25 (d := d_is_parted) rfl
  obtain ⟨fd_drives_given, D_drives_given⟩ := d.def_ 26 (d := d_drives_given) rfl
  obtain ⟨fd_drives_taken, D_drives_taken⟩ := d.def_ 27 (d := d_drives_taken) rfl
  obtain ⟨fd_find_way, D_find_way⟩ := d.def_ 28 (d := d_find_way) rfl
  obtain ⟨fd_pass_along, D_pass_along⟩ := d.def_ 29 (d := d_pass_along) rfl
  obtain ⟨fd_fill_days, D_fill_days⟩ := d.def_ 30 (d := d_fill_days) rfl
  obtain ⟨fd_raise_to_leasts, D_raise_to_leasts⟩ := d.def_ 31 (d := d_raise_to_leasts) rfl
  obtain ⟨fd_search, D_search⟩ := d.def_ 32 (d := d_search) rfl
  obtain ⟨fd_why_uneven, D_why_uneven⟩ := d.def_ 33 (d := d_why_uneven) rfl
  obtain ⟨fd_are_rising, D_are_rising⟩ := d.def_ 34 (d := d_are_rising) rfl
  obtain ⟨fd_are_few, D_are_few⟩ := d.def_ 35 (d := d_are_few) rfl
  obtain ⟨fd_are_crowded, D_are_crowded⟩ := d.def_ 36 (d := d_are_crowded) rfl
  obtain ⟨fd_shows_uneven, D_shows_uneven⟩ := d.def_ 37 (d := d_shows_uneven) rfl
  obtain ⟨fd_l_held, D_l_held⟩ := d.def_ 38 (d := d_l_held) rfl
  obtain ⟨fd_l_draw, D_l_draw⟩ := d.def_ 39 (d := d_l_draw) rfl
  obtain ⟨fd_l_names, D_l_names⟩ := d.def_ 40 (d := d_l_names) rfl
  obtain ⟨fd_l_low, D_l_low⟩ := d.def_ 41 (d := d_l_low) rfl
  obtain ⟨fd_l_add, D_l_add⟩ := d.def_ 42 (d := d_l_add) rfl
  obtain ⟨fd_l_coming, D_l_coming⟩ := d.def_ 43 (d := d_l_coming) rfl
  obtain ⟨fd_l_wants, D_l_wants⟩ := d.def_ 44 (d := d_l_wants) rfl
  obtain ⟨fd_l_even_case, D_l_even_case⟩ := d.def_ 45 (d := d_l_even_case) rfl
  obtain ⟨fd_l_shares, D_l_shares⟩ := d.def_ 46 (d := d_l_shares) rfl
  obtain ⟨fd_l_moved, D_l_moved⟩ := d.def_ 47 (d := d_l_moved) rfl
  obtain ⟨fd_l_slack, D_l_slack⟩ := d.def_ 48 (d := d_l_slack) rfl
  obtain ⟨fd_l_ends, D_l_ends⟩ := d.def_ 49 (d := d_l_ends) rfl
  obtain ⟨fd_l_bars, D_l_bars⟩ := d.def_ 50 (d := d_l_bars) rfl
  obtain ⟨fd_l_long_case, D_l_long_case⟩ := d.def_ 51 (d := d_l_long_case) rfl
  obtain ⟨fd_l_paper, D_l_paper⟩ := d.def_ 52 (d := d_l_paper) rfl
  obtain ⟨fd_l_bent, D_l_bent⟩ := d.def_ 53 (d := d_l_bent) rfl
  obtain ⟨fd_law, D_law⟩ := d.def_ 54 (d := d_law) rfl
  have e := hfa.symm.trans gl_law
  cases e
  have bL := FunD.bindsA (ps := ["_law_script"]) D_law fun _ _ _ _ _ _ us hl => match us, hl with | [_], _ => rfl
  refine ⟨fd_law, fun s v => bL s [v] rfl, fun base _ _ TB TB2 => ?_⟩
  have b_is_whole : Binds K fd_is_whole ["thing"] [] := D_is_whole.bindsN fun _ _ _ _ _ _ us hl => match us, hl with | [_], _ => rfl
  have b_common_part : Binds K fd_common_part ["one", "other"] [] := D_common_part.bindsN fun _ _ _ _ _ _ us hl => match us, hl with | [_, _], _ => rfl
  have b_Share_init : Binds K fd_Share_init ["self", "top", "bottom"] [] := by
    obtain ⟨ds, h1, h2⟩ := D_Share_init.binds1 (ps := ["self", "top", "bottom"]) 3 1 (List.cons_ne_nil _ _) rfl (fun T kV doc pm an cdv ct us its hl h1 => match us, hl, its, h1 with | [_, _, _], _, [_], _ => ⟨_, rfl, rfl⟩)
    cases h1
    exact h2
  obtain ⟨ds1_Share_init, v1_Share_init, b1_Share_init⟩ := D_Share_init.binds1 (ps := ["self", "top", "bottom"]) 2 0 (List.cons_ne_nil _ _) rfl (fun T kV doc pm an cdv ct us its hl h1 => match us, hl, its, h1 with | [_, _], _, [_], _ => ⟨_, rfl, rfl⟩)
  have b_Share_plus : Binds K fd_Share_plus ["self", "other"] [] := D_Share_plus.bindsN fun _ _ _ _ _ _ us hl => match us, hl with | [_, _], _ => rfl
  have b_Share_less : Binds K fd_Share_less ["self", "other"] [] := D_Share_less.bindsN fun _ _ _ _ _ _ us hl => match us, hl with | [_, _], _ => rfl
  have b_Share_whole : Binds K fd_Share_whole ["self"] [] := D_Share_whole.bindsN fun _ _ _ _ _ _ us hl => match us, hl with | [_], _ => rfl
  have b_Share_repr : Binds K fd_Share_repr ["self"] [] := D_Share_repr.bindsN fun _ _ _ _ _ _ us hl => match us, hl with | [_], _ => rfl
  have b_same_share : Binds K fd_same_share ["share"] [] := D_same_share.bindsN fun _ _ _ _ _ _ us hl => match us, hl with | [_], _ => rfl
  have b_total : Binds K fd_total ["shares", "start"] [] := by
    obtain ⟨ds, h1, h2⟩ := D_total.binds1 (ps := ["shares", "start"]) 2 1 (List.cons_ne_nil _ _) rfl (fun T kV doc pm an cdv ct us its hl h1 => match us, hl, its, h1 with | [_, _], _, [_], _ => ⟨_, rfl, rfl⟩)
    cases h1
    exact h2
  obtain ⟨ds1_total, v1_total, b1_total⟩ := D_total.binds1 (ps := ["shares", "start"]) 1 0 (List.cons_ne_nil _ _) rfl (fun T kV doc pm an cdv ct us its hl h1 => match us, hl, its, h1 with | [_], _, [_], _ => ⟨_, rfl, rfl⟩)
  have b_check_even : Binds K fd_check_even ["standing"] [] := D_check_even.bindsN fun _ _ _ _ _ _ us hl => match us, hl with | [_], _ => rfl
  have b_joined : Binds K fd_joined ["standing", "moves"] [] := D_joined.bindsN fun _ _ _ _ _ _ us hl => match us, hl with | [_, _], _ => rfl
  have b_turned : Binds K fd_turned ["standing"] [] := D_turned.bindsN fun _ _ _ _ _ _ us hl => match us, hl with | [_], _ => rfl
  have b_wanted : Binds K fd_wanted ["standing", "days"] [] := D_wanted.bindsN fun _ _ _ _ _ _ us hl => match us, hl with | [_, _], _ => rfl
  have b_slack_share : Binds K fd_slack_share ["slack"] [] := D_slack_share.bindsN fun _ _ _ _ _ _ us hl => match us, hl with | [_], _ => rfl
  have b_least_of : Binds K fd_least_of ["want", "slack"] [] := D_least_of.bindsN fun _ _ _ _ _ _ us hl => match us, hl with | [_, _], _ => rfl
  have b_most_of : Binds K fd_most_of ["want", "slack"] [] := D_most_of.bindsN fun _ _ _ _ _ _ us hl => match us, hl with | [_, _], _ => rfl
  have b_is_parted : Binds K fd_is_parted ["want", "slack"] [] := D_is_parted.bindsN fun _ _ _ _ _ _ us hl => match us, hl with | [_, _], _ => rfl
  have b_drives_given : Binds K fd_drives_given ["days", "drivers", "name"] [] := D_drives_given.bindsN fun _ _ _ _ _ _ us hl => match us, hl with | [_, _, _], _ => rfl
  have b_drives_taken : Binds K fd_drives_taken ["days", "drivers", "name"] [] := D_drives_taken.bindsN fun _ _ _ _ _ _ us hl => match us, hl with | [_, _, _], _ => rfl
  have b_find_way : Binds K fd_find_way ["starts", "goals", "steps"] [] := D_find_way.bindsN fun _ _ _ _ _ _ us hl => match us, hl with | [_, _, _], _ => rfl
  have b_pass_along : Binds K fd_pass_along ["drivers", "came", "end"] [] := D_pass_along.bindsN fun _ _ _ _ _ _ us hl => match us, hl with | [_, _, _], _ => rfl
  have b_fill_days : Binds K fd_fill_days ["days", "drivers", "mosts"] [] := D_fill_days.bindsN fun _ _ _ _ _ _ us hl => match us, hl with | [_, _, _], _ => rfl
  have b_raise_to_leasts : Binds K fd_raise_to_leasts ["days", "drivers", "leasts"] [] := D_raise_to_leasts.bindsN fun _ _ _ _ _ _ us hl => match us, hl with | [_, _, _], _ => rfl
  have b_search : Binds K fd_search ["standing", "days", "slack"] [] := D_search.bindsN fun _ _ _ _ _ _ us hl => match us, hl with | [_, _, _], _ => rfl
  have b_why_uneven : Binds K fd_why_uneven ["standing", "days", "slack"] [] := by
    obtain ⟨ds, h1, h2⟩ := D_why_uneven.binds1 (ps := ["standing", "days", "slack"]) 3 1 (List.cons_ne_nil _ _) rfl (fun T kV doc pm an cdv ct us its hl h1 => match us, hl, its, h1 with | [_, _, _], _, [_], _ => ⟨_, rfl, rfl⟩)
    cases h1
    exact h2
  obtain ⟨ds1_why_uneven, v1_why_uneven, b1_why_uneven⟩ := D_why_uneven.binds1 (ps := ["standing", "days", "slack"]) 2 0 (List.cons_ne_nil _ _) rfl (fun T kV doc pm an cdv ct us its hl h1 => match us, hl, its, h1 with | [_, _], _, [_], _ => ⟨_, rfl, rfl⟩)
  have b_are_rising : Binds K fd_are_rising ["thing", "names"] [] := D_are_rising.bindsN fun _ _ _ _ _ _ us hl => match us, hl with | [_, _], _ => rfl
  have b_are_few : Binds K fd_are_few ["wants", "days", "names", "slack"] [] := D_are_few.bindsN fun _ _ _ _ _ _ us hl => match us, hl with | [_, _, _, _], _ => rfl
  have b_are_crowded : Binds K fd_are_crowded ["wants", "days", "names", "slack"] [] := D_are_crowded.bindsN fun _ _ _ _ _ _ us hl => match us, hl with | [_, _, _, _], _ => rfl
  have b_shows_uneven : Binds K fd_shows_uneven ["standing", "days", "thing", "slack"] [] := by
    obtain ⟨ds, h1, h2⟩ := D_shows_uneven.binds1 (ps := ["standing", "days", "thing", "slack"]) 4 1 (List.cons_ne_nil _ _) rfl (fun T kV doc pm an cdv ct us its hl h1 => match us, hl, its, h1 with | [_, _, _, _], _, [_], _ => ⟨_, rfl, rfl⟩)
    cases h1
    exact h2
  obtain ⟨ds1_shows_uneven, v1_shows_uneven, b1_shows_uneven⟩ := D_shows_uneven.binds1 (ps := ["standing", "days", "thing", "slack"]) 3 0 (List.cons_ne_nil _ _) rfl (fun T kV doc pm an cdv ct us its hl h1 => match us, hl, its, h1 with | [_, _, _], _, [_], _ => ⟨_, rfl, rfl⟩)
  have b_l_held : Binds K fd_l_held ["_law_script"] [] := D_l_held.bindsN fun _ _ _ _ _ _ us hl => match us, hl with | [_], _ => rfl
  have b_l_draw : Binds K fd_l_draw ["_law_held_here", "_law_many"] [] := D_l_draw.bindsN fun _ _ _ _ _ _ us hl => match us, hl with | [_, _], _ => rfl
  have b_l_names : Binds K fd_l_names ["_law_held_here", "_law_many"] [] := D_l_names.bindsN fun _ _ _ _ _ _ us hl => match us, hl with | [_, _], _ => rfl
  have b_l_low : Binds K fd_l_low ["_law_top", "_law_bottom"] [] := D_l_low.bindsN fun _ _ _ _ _ _ us hl => match us, hl with | [_, _], _ => rfl
  have b_l_add : Binds K fd_l_add ["_law_one", "_law_other"] [] := D_l_add.bindsN fun _ _ _ _ _ _ us hl => match us, hl with | [_, _], _ => rfl
  have b_l_coming : Binds K fd_l_coming ["_law_held_here", "_law_names_here", "_law_many"] [] := D_l_coming.bindsN fun _ _ _ _ _ _ us hl => match us, hl with | [_, _, _], _ => rfl
  have b_l_wants : Binds K fd_l_wants ["_law_standing", "_law_days"] [] := D_l_wants.bindsN fun _ _ _ _ _ _ us hl => match us, hl with | [_, _], _ => rfl
  have b_l_even_case : Binds K fd_l_even_case ["_law_held_here", "_law_names_here", "_law_many"] [] := D_l_even_case.bindsN fun _ _ _ _ _ _ us hl => match us, hl with | [_, _, _], _ => rfl
  have b_l_shares : Binds K fd_l_shares ["_law_standing"] [] := D_l_shares.bindsN fun _ _ _ _ _ _ us hl => match us, hl with | [_], _ => rfl
  have b_l_moved : Binds K fd_l_moved ["_law_held_here", "_law_standing", "_law_names_here"] [] := D_l_moved.bindsN fun _ _ _ _ _ _ us hl => match us, hl with | [_, _, _], _ => rfl
  have b_l_slack : Binds K fd_l_slack ["_law_held_here"] [] := D_l_slack.bindsN fun _ _ _ _ _ _ us hl => match us, hl with | [_], _ => rfl
  have b_l_ends : Binds K fd_l_ends ["_law_want", "_law_width"] [] := D_l_ends.bindsN fun _ _ _ _ _ _ us hl => match us, hl with | [_, _], _ => rfl
  have b_l_bars : Binds K fd_l_bars ["_law_wants_here", "_law_days", "_law_width", "_law_thing"] [] := D_l_bars.bindsN fun _ _ _ _ _ _ us hl => match us, hl with | [_, _, _, _], _ => rfl
  have b_l_long_case : Binds K fd_l_long_case ["_law_held_here", "_law_names_here"] [] := D_l_long_case.bindsN fun _ _ _ _ _ _ us hl => match us, hl with | [_, _], _ => rfl
  have b_l_paper : Binds K fd_l_paper ["_law_held_here", "_law_names_here"] [] := D_l_paper.bindsN fun _ _ _ _ _ _ us hl => match us, hl with | [_, _], _ => rfl
  have b_l_bent : Binds K fd_l_bent ["_law_held_here", "_law_names_here", "_law_thing"] [] := D_l_bent.bindsN fun _ _ _ _ _ _ us hl => match us, hl with | [_, _, _], _ => rfl
  have b_law : Binds K fd_law ["_law_script"] [] := D_law.bindsN fun _ _ _ _ _ _ us hl => match us, hl with | [_], _ => rfl
  obtain ⟨IC, dT⟩ := xk_ok x
  have B : Bl mg := ⟨fr_isinstance, fr_int, fr_bool, fr_abs, fr_list, fr_range, fr_len⟩
  have T : Cl K mg (He.ga K "Share") := ⟨cls_Share, no_Share_top, no_Share_bottom, gl_Share⟩
  have cW : CalW P w K mg base := cal_of (ok_whole D_is_whole B) gl_is_whole D_is_whole.kp b_is_whole
  have cWS := cal_of (P := P) (w := w) (base := base) (ok_whS D_is_whole B T IC) gl_is_whole D_is_whole.kp b_is_whole
  have cG : CalG P w K mg base := cal_of (ok_gcd D_common_part B) gl_common_part D_common_part.kp b_common_part
  have MS : MakS P w K mg base (He.ga K "Share") := ⟨_, _, _, _, mk_Share, ok_init D_Share_init cW cG T, T.g, b_Share_init, .nil⟩
  have M1 : MakS1 P w K mg base (He.ga K "Share") := ⟨_, _, _, _, mk_Share, ok_init D_Share_init cW cG T, T.g, b1_Share_init, v1_Share_init⟩
  have mP : Met P w K mg base 4 (He.ga K "Share") "plus" (sp2 (He.ga K "Share") (· + ·)) [] := met_of T.cl me_Share_plus ((ok_plus D_Share_plus MS T).imp fun _ _ _ _ => plusR) b_Share_plus
  have mL : Met P w K mg base 4 (He.ga K "Share") "less" (sp2 (He.ga K "Share") (· - ·)) [] := met_of T.cl me_Share_less ((ok_less D_Share_less MS T).imp fun _ _ _ _ => lessR) b_Share_less
  have mWh := met_of (P := P) (w := w) (base := base) T.cl me_Share_whole (ok_wholeM D_Share_whole T) b_Share_whole
  have cS := cal_of (ok_ss D_same_share T M1) gl_same_share D_same_share.kp b_same_share
  have cT : Cal P w K mg base 5 "total" (spTotal K (He.ga K "Share")) [.int 0] := ⟨_, _, _, _, ok_total D_total M1 mP, gl_total, D_total.kp, b1_total, v1_total⟩
  have cCE := cal_of (ok_ce D_check_even B T cT) gl_check_even D_check_even.kp b_check_even
  have cTu := cal_of (ok_tu D_turned M1 mL) gl_turned D_turned.kp b_turned
  have cJ := cal_of (ok_jo D_joined M1 mP cS) gl_joined D_joined.kp b_joined
  have cWa := cal_of (ok_wa D_wanted B MS cCE cJ cTu) gl_wanted D_wanted.kp b_wanted
  have cSk := cal_of (ok_sk D_slack_share M1 cWS) gl_slack_share D_slack_share.kp b_slack_share
  have cLe := cal_of (ok_lea D_least_of fr_max mL mWh) gl_least_of D_least_of.kp b_least_of
  have cMo := cal_of (ok_mos D_most_of fr_max mP mWh) gl_most_of D_most_of.kp b_most_of
  have cIp := cal_of (ok_ip D_is_parted mP mWh cLe) gl_is_parted D_is_parted.kp b_is_parted
  have cDg := cal_of (P := P) (w := w) (base := base) (ok_dg D_drives_given fr_enumerate) gl_drives_given D_drives_given.kp b_drives_given
  have cDt := cal_of (P := P) (w := w) (base := base) (ok_dt D_drives_taken fr_enumerate) gl_drives_taken D_drives_taken.kp b_drives_taken
  have cPa := cal_of (P := P) (w := w) (base := base) (ok_pa D_pass_along) gl_pass_along D_pass_along.kp b_pass_along
  have cFi := cal_of (ok_fi D_fill_days B fr_sorted fr_tuple TB dT D_find_way gl_find_way D_find_way.kp b_find_way cDg cPa) gl_fill_days D_fill_days.kp b_fill_days
  have cRl := cal_of (ok_rl D_raise_to_leasts B fr_sorted fr_tuple TB2 dT D_find_way gl_find_way D_find_way.kp b_find_way cDt cPa) gl_raise_to_leasts D_raise_to_leasts.kp b_raise_to_leasts
  have cSe := cal_of (ok_se D_search B fr_sorted cWa cSk cIp cMo cLe cFi cRl) gl_search D_search.kp b_search
  have cWu : Cal P w K mg base 9 "why_uneven" (spWuU K (He.ga K "Share")) [] := cal_of (wuU (ok_wu D_why_uneven cSe)) gl_why_uneven D_why_uneven.kp b_why_uneven
  have cAr := cal_of (P := P) (w := w) (base := base) (ok_ar D_are_rising B fr_tuple fr_str fr_all fr_sorted fr_set) gl_are_rising D_are_rising.kp b_are_rising
  have cAf := cal_of (ok_af D_are_few B fr_any fr_sum cLe) gl_are_few D_are_few.kp b_are_few
  have cAc := cal_of (ok_ac D_are_crowded B fr_all fr_sum cMo) gl_are_crowded D_are_crowded.kp b_are_crowded
  have FSu := ok_su D_shows_uneven B fr_tuple fr_str cWa cSk cIp cAr cAf cAc
  have cSu : Cal P w K mg base 8 "shows_uneven" (spSu K (He.ga K "Share")) [] := cal_of FSu gl_shows_uneven D_shows_uneven.kp b_shows_uneven
  have cSu2 : Cal P w K mg base 8 "shows_uneven" (spSu K (He.ga K "Share")) [.int 0] := ⟨_, _, _, _, FSu, gl_shows_uneven, D_shows_uneven.kp, b1_shows_uneven, v1_shows_uneven⟩
  have cH := cal_of (P := P) (w := w) (base := base) (ok_held D_l_held B) gl__law_held D_l_held.kp b_l_held
  have cD : CalD P w K mg base := cal_of (ok_draw D_l_draw B) gl__law_draw D_l_draw.kp b_l_draw
  have cNm := cal_of (ok_names D_l_names B cD) gl__law_names D_l_names.kp b_l_names
  have cLo : CalL P w K mg base := cal_of (ok_low D_l_low B) gl__law_low D_l_low.kp b_l_low
  have cA := cal_of (ok_add D_l_add cLo) gl__law_add D_l_add.kp b_l_add
  have cLS := cal_of (ok_ls D_l_shares fr_dict MS) gl__law_shares D_l_shares.kp b_l_shares
  have cCm := cal_of (ok_cm D_l_coming B fr_min fr_tuple cD) gl__law_coming D_l_coming.kp b_l_coming
  have cWn := cal_of (ok_wn D_l_wants B fr_dict cA) gl__law_wants D_l_wants.kp b_l_wants
  have cEc := cal_of (ok_ec D_l_even_case B cD cCm cWn cA) gl__law_even_case D_l_even_case.kp b_l_even_case
  have cMov := cal_of (ok_mo D_l_moved B fr_dict cD cA) gl__law_moved D_l_moved.kp b_l_moved
  have cSlk := cal_of (ok_slk D_l_slack MS cD cLo) gl__law_slack D_l_slack.kp b_l_slack
  have cLc := cal_of (ok_lc D_l_long_case B fr_tuple cD cEc cMov) gl__law_long_case D_l_long_case.kp b_l_long_case
  have Sp : OW.Spc P w K mg base 1 (He.ga K "Share") "__repr__" (spStr (He.ga K "Share") rpS) := ⟨_, _, _, me_Share_repr.at_, me_Share_repr.fn, ok_repr D_Share_repr T, b_Share_repr⟩
  have cEn := cal_of (ok_en D_l_ends fr_max cA) gl__law_ends D_l_ends.kp b_l_ends
  have cBa := cal_of (ok_ba D_l_bars B fr_tuple fr_str fr_sorted fr_set fr_sum fr_max cEn) gl__law_bars D_l_bars.kp b_l_bars
  have cPp := cal_of (ok_pp D_l_paper B fr_tuple fr_sorted cD) gl__law_paper D_l_paper.kp b_l_paper
  have cBt0 : Cal P w K mg base 2 "_law_bent" (spBt 0) [] := cal_of (ok_bt0 D_l_bent B fr_tuple cD) gl__law_bent D_l_bent.kp b_l_bent
  have cBt1 : Cal P w K mg base 3 "_law_bent" (spBt 1) [] := cal_of (ok_btS (j := 0) D_l_bent B fr_tuple cD cBt0) gl__law_bent D_l_bent.kp b_l_bent
  have cBt : Cal P w K mg base 4 "_law_bent" (spBt 2) [] := cal_of (ok_btS (j := 1) D_l_bent B fr_tuple cD cBt1) gl__law_bent D_l_bent.kp b_l_bent
  exact ok_law D_law B fr_repr Sp cH cD cNm cLc cSlk cPp cBt cLS cWn cBa cWu cSu cSu2
end K52
open PySem PySem.W PySem.Calls PyProof.Rows
set_option maxRecDepth 100000 in
set_option maxHeartbeats 0 in
theorem PySem.Challenge.cw_rideturns_k52_papers_of_uneven_looked_at_holds : PySem.Challenge.rw_rideturns_k52_papers_of_uneven_looked_at.Holds := by
  w_on; o_law
  refine HandSHeadRun.head_any (r := OpenLaw.row PySem.Challenge.rw_rideturns_k52_papers_of_uneven_looked_at) (q := view (OpenLaw.row PySem.Challenge.rw_rideturns_k52_papers_of_uneven_looked_at).prog [52]) (H := K52.hk) (ob := K52.ob) (M := 8000) (loose := K52.loose) (d := HandSHeadRun.topDef (OpenLaw.row PySem.Challenge.rw_rideturns_k52_papers_of_uneven_looked_at).prog 52) (kwd := []) K52.ob_eq
    (by kernel_rfl) (fun s => by kernel_rfl) K52.run_ (by kernel_rfl) (by kernel_rfl) (by kernel_rfl) (by rfl) (by first | assumption | decide +kernel) (by decide +kernel) ⟨rfl, rfl, rfl, rfl, rfl, by decide +kernel⟩ ?hw ?hc
  case hw => w_witness2
  case hc =>
    refine GL.walkTG (l := PySem.Challenge.rw_rideturns_k52_papers_of_uneven_looked_at) (n := 63) (k := 10) (x := "_law_script") rfl (by decide) (by kernel_rfl) ⟨rfl, by decide, by decide⟩ ?F
    intro w mg fa h Y G hmg0
    obtain ⟨K, KX, c⟩ := Y
    have hmg : mg ("law" : PySem.Str) = some (.ref fa) := by
      have e : (HandSHeadRun.topDef (OpenLaw.row PySem.Challenge.rw_rideturns_k52_papers_of_uneven_looked_at).prog 52).name = ("law" : PySem.Str) := by kernel_rfl
      rw [← e]
      exact hmg0
    obtain ⟨fd, hb, hF⟩ := K52.facts (P := (PySem.Challenge.rw_rideturns_k52_papers_of_uneven_looked_at).prog) (w := w) KX G hmg c
    refine ⟨K, KX, fd, [He.cT K ("fill_days", none), He.cT K ("raise_to_leasts", none)], K52.spLaw K, fun p hp => ?_, fun p hp => ?_, fun p hp => ?_, hb, fun H a ns hl hT hS => ⟨a, ns, rfl, hS, hl, fun p hp => ?_, fun _ => rfl⟩, fun base k1 k2 TB => hF base k1 k2 (TB _ (List.mem_cons_self)) (TB _ (List.mem_cons_of_mem _ (List.mem_singleton.mpr rfl)))⟩
    · rcases List.mem_cons.mp hp with q | q
      · rw [q]
        exact c.empty _ (List.mem_cons_self)
      · rw [List.mem_singleton.mp q]
        exact c.empty _ (List.mem_cons_of_mem _ (List.mem_singleton.mpr rfl))
    · rcases List.mem_cons.mp hp with q | q
      · rw [q]
        exact c.out _ (List.mem_cons_self)
      · rw [List.mem_singleton.mp q]
        exact c.out _ (List.mem_cons_of_mem _ (List.mem_singleton.mpr rfl))
    · rcases List.mem_cons.mp hp with q | q
      · rw [q]
        exact PySem.W.codeHd_of_K KX (c.hd _ (List.mem_cons_self))
      · rw [List.mem_singleton.mp q]
        exact PySem.W.codeHd_of_K KX (c.hd _ (List.mem_cons_of_mem _ (List.mem_singleton.mpr rfl)))
    · rcases List.mem_cons.mp hp with q | q
      · rw [q]
        exact LamX.TabS.nil (hT _ (List.mem_cons_self))
      · rw [List.mem_singleton.mp q]
        exact LamX.TabS.nil (hT _ (List.mem_cons_of_mem _ (List.mem_singleton.mpr rfl)))
