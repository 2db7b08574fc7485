import PyProof.Rows.All
import Wide.All
import OpenK.AllK
import Wide.FinOn
import HandS.ForMost
import HandS.ForExc
import HandS.Defaults
import HandS.Codes
import HandS.IsInst
import HandS.Wide
import HandS.Flow
import HandS.Evl
import HandS.Steps
import HandS.ExcField
import HandS.Head0
import HandS.Head1
import HandS.Head2
import HandS.HeadEnd
import HandS.HeadHook1
import HandS.HeadHook2
import HandS.HeadHook3
import HandS.HeadHook4
import KE.KExcInit
import HandS.ExcInit
import PyProof.Rows.FactsExc_KeyError
import PyProof.ExcBaseAll.LookupError
import KE.KEqSeq
import HandS.Words
import HandS.MakeKw
import HandS.MakeKwOnly
import HandS.Style
import HandS.Comp
import HandS.Text
import HandS.More
import PyProof.StrOps2
import KE.KCallOwn
import KE.IntTextLaws
import PyProof.StrLawsAffix
import HandS.List
import HandS.Deep
import HandS.Dict
import KE.LtData
import HandS.Call
import KE.KIndexOf
import HandS.FStr
import HandS.StrMore
import HandS.Walk
import HandS.Iter
import HandS.DictComp
import PyProof.ReprRoads
import PyProof.ReprDict
import HandS.OwnEq
import HandS.Sort
import KE.KDictList
import KE.KIsAll
import KE.KTryMore
import HandS.ExcIs
import HandS.ExcValue
import PyProof.DictUpdate
import HandS.Zip
import HandS.ExcOwn
import PyProof.Rows.FactsExc_ArithmeticError
import PyProof.ExcBaseAll.ArithmeticError
import PyProof.ReprLen
import KE.SortCalls
import KE.SortKeyed
import PySem.Challenge.RW_rideturns_k48_drives_wanted
set_option Elab.async false
set_option linter.all false
set_option maxRecDepth 100000
set_option maxHeartbeats 4000000
namespace K48
open PySem PySem.Spec PyProof.Rows L2
def top (i : Nat) : Stmt := PySem.Challenge.pw_rideturns_k48_drives_wanted.main.body.getD i (.Pass ⟨0, 0, 0, 0⟩)
abbrev s__wall : Stmt := top 0
abbrev N__wall : List Str := ["k"]
theorem sc__wall : FnScope N__wall ["k"] (defScope s__wall) := ⟨rfl, rfl, rfl, by decide +kernel, rfl, by decide +kernel, by decide +kernel⟩
def d__wall : He.DefD := ⟨("_wall", none), "_wall", "_wall", defArgs s__wall, defBody s__wall, defScope s__wall, [], []⟩
abbrev s_NoKind_init : Stmt := inClass (top 2) 0
abbrev N_NoKind_init : List Str := ["self", "thing"]
theorem sc_NoKind_init : FnScope N_NoKind_init ["self", "thing"] (defScope s_NoKind_init) := ⟨rfl, rfl, rfl, by decide +kernel, rfl, by decide +kernel, by decide +kernel⟩
def d_NoKind_init : He.DefD := ⟨("NoKind", some "__init__"), "__init__", "NoKind.__init__", defArgs s_NoKind_init, defBody s_NoKind_init, defScope s_NoKind_init, [], []⟩
abbrev s_Nought_init : Stmt := inClass (top 3) 0
abbrev N_Nought_init : List Str := ["self", "top"]
theorem sc_Nought_init : FnScope N_Nought_init ["self", "top"] (defScope s_Nought_init) := ⟨rfl, rfl, rfl, by decide +kernel, rfl, by decide +kernel, by decide +kernel⟩
def d_Nought_init : He.DefD := ⟨("Nought", some "__init__"), "__init__", "Nought.__init__", defArgs s_Nought_init, defBody s_Nought_init, defScope s_Nought_init, [], []⟩
abbrev s_NoShare_init : Stmt := inClass (top 4) 0
abbrev N_NoShare_init : List Str := ["self", "text"]
theorem sc_NoShare_init : FnScope N_NoShare_init ["self", "text"] (defScope s_NoShare_init) := ⟨rfl, rfl, rfl, by decide +kernel, rfl, by decide +kernel, by decide +kernel⟩
def d_NoShare_init : He.DefD := ⟨("NoShare", some "__init__"), "__init__", "NoShare.__init__", defArgs s_NoShare_init, defBody s_NoShare_init, defScope s_NoShare_init, [], []⟩
abbrev s_Uneven_init : Stmt := inClass (top 5) 0
abbrev N_Uneven_init : List Str := ["self", "rest"]
theorem sc_Uneven_init : FnScope N_Uneven_init ["self", "rest"] (defScope s_Uneven_init) := ⟨rfl, rfl, rfl, by decide +kernel, rfl, by decide +kernel, by decide +kernel⟩
def d_Uneven_init : He.DefD := ⟨("Uneven", some "__init__"), "__init__", "Uneven.__init__", defArgs s_Uneven_init, defBody s_Uneven_init, defScope s_Uneven_init, [], []⟩
abbrev s_BadName_init : Stmt := inClass (top 6) 0
abbrev N_BadName_init : List Str := ["self", "name"]
theorem sc_BadName_init : FnScope N_BadName_init ["self", "name"] (defScope s_BadName_init) := ⟨rfl, rfl, rfl, by decide +kernel, rfl, by decide +kernel, by decide +kernel⟩
def d_BadName_init : He.DefD := ⟨("BadName", some "__init__"), "__init__", "BadName.__init__", defArgs s_BadName_init, defBody s_BadName_init, defScope s_BadName_init, [], []⟩
abbrev s_NoNumber_init : Stmt := inClass (top 7) 0
abbrev N_NoNumber_init : List Str := ["self", "thing"]
theorem sc_NoNumber_init : FnScope N_NoNumber_init ["self", "thing"] (defScope s_NoNumber_init) := ⟨rfl, rfl, rfl, by decide +kernel, rfl, by decide +kernel, by decide +kernel⟩
def d_NoNumber_init : He.DefD := ⟨("NoNumber", some "__init__"), "__init__", "NoNumber.__init__", defArgs s_NoNumber_init, defBody s_NoNumber_init, defScope s_NoNumber_init, [], []⟩
abbrev s_NoRide_init : Stmt := inClass (top 8) 0
abbrev N_NoRide_init : List Str := ["self", "reason"]
theorem sc_NoRide_init : FnScope N_NoRide_init ["self", "reason"] (defScope s_NoRide_init) := ⟨rfl, rfl, rfl, by decide +kernel, rfl, by decide +kernel, by decide +kernel⟩
def d_NoRide_init : He.DefD := ⟨("NoRide", some "__init__"), "__init__", "NoRide.__init__", defArgs s_NoRide_init, defBody s_NoRide_init, defScope s_NoRide_init, [], []⟩
abbrev s_NoText_init : Stmt := inClass (top 9) 0
abbrev N_NoText_init : List Str := ["self", "row"]
theorem sc_NoText_init : FnScope N_NoText_init ["self", "row"] (defScope s_NoText_init) := ⟨rfl, rfl, rfl, by decide +kernel, rfl, by decide +kernel, by decide +kernel⟩
def d_NoText_init : He.DefD := ⟨("NoText", some "__init__"), "__init__", "NoText.__init__", defArgs s_NoText_init, defBody s_NoText_init, defScope s_NoText_init, [], []⟩
abbrev s_NoName_init : Stmt := inClass (top 10) 0
abbrev N_NoName_init : List Str := ["self", "name"]
theorem sc_NoName_init : FnScope N_NoName_init ["self", "name"] (defScope s_NoName_init) := ⟨rfl, rfl, rfl, by decide +kernel, rfl, by decide +kernel, by decide +kernel⟩
def d_NoName_init : He.DefD := ⟨("NoName", some "__init__"), "__init__", "NoName.__init__", defArgs s_NoName_init, defBody s_NoName_init, defScope s_NoName_init, [], []⟩
abbrev s_NoDay_init : Stmt := inClass (top 11) 0
abbrev N_NoDay_init : List Str := ["self", "day"]
theorem sc_NoDay_init : FnScope N_NoDay_init ["self", "day"] (defScope s_NoDay_init) := ⟨rfl, rfl, rfl, by decide +kernel, rfl, by decide +kernel, by decide +kernel⟩
def d_NoDay_init : He.DefD := ⟨("NoDay", some "__init__"), "__init__", "NoDay.__init__", defArgs s_NoDay_init, defBody s_NoDay_init, defScope s_NoDay_init, [], []⟩
abbrev s_NoSeats_init : Stmt := inClass (top 12) 0
abbrev N_NoSeats_init : List Str := ["self", "lack"]
theorem sc_NoSeats_init : FnScope N_NoSeats_init ["self", "lack"] (defScope s_NoSeats_init) := ⟨rfl, rfl, rfl, by decide +kernel, rfl, by decide +kernel, by decide +kernel⟩
def d_NoSeats_init : He.DefD := ⟨("NoSeats", some "__init__"), "__init__", "NoSeats.__init__", defArgs s_NoSeats_init, defBody s_NoSeats_init, defScope s_NoSeats_init, [], []⟩
abbrev s_TooMany_init : Stmt := inClass (top 13) 0
abbrev N_TooMany_init : List Str := ["self", "most"]
theorem sc_TooMany_init : FnScope N_TooMany_init ["self", "most"] (defScope s_TooMany_init) := ⟨rfl, rfl, rfl, by decide +kernel, rfl, by decide +kernel, by decide +kernel⟩
def d_TooMany_init : He.DefD := ⟨("TooMany", some "__init__"), "__init__", "TooMany.__init__", defArgs s_TooMany_init, defBody s_TooMany_init, defScope s_TooMany_init, [], []⟩
abbrev s_Taken_init : Stmt := inClass (top 14) 0
abbrev N_Taken_init : List Str := ["self", "name"]
theorem sc_Taken_init : FnScope N_Taken_init ["self", "name"] (defScope s_Taken_init) := ⟨rfl, rfl, rfl, by decide +kernel, rfl, by decide +kernel, by decide +kernel⟩
def d_Taken_init : He.DefD := ⟨("Taken", some "__init__"), "__init__", "Taken.__init__", defArgs s_Taken_init, defBody s_Taken_init, defScope s_Taken_init, [], []⟩
abbrev s_NoRule_init : Stmt := inClass (top 15) 0
abbrev N_NoRule_init : List Str := ["self", "thing"]
theorem sc_NoRule_init : FnScope N_NoRule_init ["self", "thing"] (defScope s_NoRule_init) := ⟨rfl, rfl, rfl, by decide +kernel, rfl, by decide +kernel, by decide +kernel⟩
def d_NoRule_init : He.DefD := ⟨("NoRule", some "__init__"), "__init__", "NoRule.__init__", defArgs s_NoRule_init, defBody s_NoRule_init, defScope s_NoRule_init, [], []⟩
abbrev s_NothingDone_init : Stmt := inClass (top 16) 0
abbrev N_NothingDone_init : List Str := ["self", "text"]
theorem sc_NothingDone_init : FnScope N_NothingDone_init ["self", "text"] (defScope s_NothingDone_init) := ⟨rfl, rfl, rfl, by decide +kernel, rfl, by decide +kernel, by decide +kernel⟩
def d_NothingDone_init : He.DefD := ⟨("NothingDone", some "__init__"), "__init__", "NothingDone.__init__", defArgs s_NothingDone_init, defBody s_NothingDone_init, defScope s_NothingDone_init, [], []⟩
abbrev s_NoRow_init : Stmt := inClass (top 17) 0
abbrev N_NoRow_init : List Str := ["self", "text"]
theorem sc_NoRow_init : FnScope N_NoRow_init ["self", "text"] (defScope s_NoRow_init) := ⟨rfl, rfl, rfl, by decide +kernel, rfl, by decide +kernel, by decide +kernel⟩
def d_NoRow_init : He.DefD := ⟨("NoRow", some "__init__"), "__init__", "NoRow.__init__", defArgs s_NoRow_init, defBody s_NoRow_init, defScope s_NoRow_init, [], []⟩
abbrev s_is_whole : Stmt := top 19
abbrev N_is_whole : List Str := ["thing"]
theorem sc_is_whole : FnScope N_is_whole ["thing"] (defScope s_is_whole) := ⟨rfl, rfl, rfl, by decide +kernel, rfl, by decide +kernel, by decide +kernel⟩
def d_is_whole : He.DefD := ⟨("is_whole", none), "is_whole", "is_whole", defArgs s_is_whole, defBody s_is_whole, defScope s_is_whole, [], []⟩
abbrev s_common_part : Stmt := top 21
abbrev N_common_part : List Str := ["one", "other"]
theorem sc_common_part : FnScope N_common_part ["one", "other"] (defScope s_common_part) := ⟨rfl, rfl, rfl, by decide +kernel, rfl, by decide +kernel, by decide +kernel⟩
def d_common_part : He.DefD := ⟨("common_part", none), "common_part", "common_part", defArgs s_common_part, defBody s_common_part, defScope s_common_part, [], []⟩
abbrev s_Share_init : Stmt := inClass (top 22) 0
abbrev N_Share_init : List Str := ["self", "top", "bottom", "thing", "common"]
theorem sc_Share_init : FnScope N_Share_init ["self", "top", "bottom"] (defScope s_Share_init) := ⟨rfl, rfl, rfl, by decide +kernel, rfl, by decide +kernel, by decide +kernel⟩
def d_Share_init : He.DefD := ⟨("Share", some "__init__"), "__init__", "Share.__init__", defArgs s_Share_init, defBody s_Share_init, defScope s_Share_init, [.int 1], []⟩
abbrev s_Share_eq : Stmt := inClass (top 22) 1
abbrev N_Share_eq : List Str := ["self", "other"]
theorem sc_Share_eq : FnScope N_Share_eq ["self", "other"] (defScope s_Share_eq) := ⟨rfl, rfl, rfl, by decide +kernel, rfl, by decide +kernel, by decide +kernel⟩
def d_Share_eq : He.DefD := ⟨("Share", some "__eq__"), "__eq__", "Share.__eq__", defArgs s_Share_eq, defBody s_Share_eq, defScope s_Share_eq, [], []⟩
abbrev s_Share_str : Stmt := inClass (top 22) 2
abbrev N_Share_str : List Str := ["self"]
theorem sc_Share_str : FnScope N_Share_str ["self"] (defScope s_Share_str) := ⟨rfl, rfl, rfl, by decide +kernel, rfl, by decide +kernel, by decide +kernel⟩
def d_Share_str : He.DefD := ⟨("Share", some "__str__"), "__str__", "Share.__str__", defArgs s_Share_str, defBody s_Share_str, defScope s_Share_str, [], []⟩
abbrev s_Share_repr : Stmt := inClass (top 22) 3
abbrev N_Share_repr : List Str := ["self"]
theorem sc_Share_repr : FnScope N_Share_repr ["self"] (defScope s_Share_repr) := ⟨rfl, rfl, rfl, by decide +kernel, rfl, by decide +kernel, by decide +kernel⟩
def d_Share_repr : He.DefD := ⟨("Share", some "__repr__"), "__repr__", "Share.__repr__", defArgs s_Share_repr, defBody s_Share_repr, defScope s_Share_repr, [], []⟩
abbrev s_Share_plus : Stmt := inClass (top 22) 4
abbrev N_Share_plus : List Str := ["self", "other"]
theorem sc_Share_plus : FnScope N_Share_plus ["self", "other"] (defScope s_Share_plus) := ⟨rfl, rfl, rfl, by decide +kernel, rfl, by decide +kernel, by decide +kernel⟩
def d_Share_plus : He.DefD := ⟨("Share", some "plus"), "plus", "Share.plus", defArgs s_Share_plus, defBody s_Share_plus, defScope s_Share_plus, [], []⟩
abbrev s_Share_less : Stmt := inClass (top 22) 5
abbrev N_Share_less : List Str := ["self", "other"]
theorem sc_Share_less : FnScope N_Share_less ["self", "other"] (defScope s_Share_less) := ⟨rfl, rfl, rfl, by decide +kernel, rfl, by decide +kernel, by decide +kernel⟩
def d_Share_less : He.DefD := ⟨("Share", some "less"), "less", "Share.less", defArgs s_Share_less, defBody s_Share_less, defScope s_Share_less, [], []⟩
abbrev s_Share_times : Stmt := inClass (top 22) 6
abbrev N_Share_times : List Str := ["self", "many"]
theorem sc_Share_times : FnScope N_Share_times ["self", "many"] (defScope s_Share_times) := ⟨rfl, rfl, rfl, by decide +kernel, rfl, by decide +kernel, by decide +kernel⟩
def d_Share_times : He.DefD := ⟨("Share", some "times"), "times", "Share.times", defArgs s_Share_times, defBody s_Share_times, defScope s_Share_times, [], []⟩
abbrev s_Share_over : Stmt := inClass (top 22) 7
abbrev N_Share_over : List Str := ["self", "many"]
theorem sc_Share_over : FnScope N_Share_over ["self", "many"] (defScope s_Share_over) := ⟨rfl, rfl, rfl, by decide +kernel, rfl, by decide +kernel, by decide +kernel⟩
def d_Share_over : He.DefD := ⟨("Share", some "over"), "over", "Share.over", defArgs s_Share_over, defBody s_Share_over, defScope s_Share_over, [], []⟩
abbrev s_Share_below : Stmt := inClass (top 22) 8
abbrev N_Share_below : List Str := ["self", "other"]
theorem sc_Share_below : FnScope N_Share_below ["self", "other"] (defScope s_Share_below) := ⟨rfl, rfl, rfl, by decide +kernel, rfl, by decide +kernel, by decide +kernel⟩
def d_Share_below : He.DefD := ⟨("Share", some "below"), "below", "Share.below", defArgs s_Share_below, defBody s_Share_below, defScope s_Share_below, [], []⟩
abbrev s_Share_whole : Stmt := inClass (top 22) 9
abbrev N_Share_whole : List Str := ["self"]
theorem sc_Share_whole : FnScope N_Share_whole ["self"] (defScope s_Share_whole) := ⟨rfl, rfl, rfl, by decide +kernel, rfl, by decide +kernel, by decide +kernel⟩
def d_Share_whole : He.DefD := ⟨("Share", some "whole"), "whole", "Share.whole", defArgs s_Share_whole, defBody s_Share_whole, defScope s_Share_whole, [], []⟩
abbrev s_same_share : Stmt := top 23
abbrev N_same_share : List Str := ["share", "told"]
theorem sc_same_share : FnScope N_same_share ["share"] (defScope s_same_share) := ⟨rfl, rfl, rfl, by decide +kernel, rfl, by decide +kernel, by decide +kernel⟩
def d_same_share : He.DefD := ⟨("same_share", none), "same_share", "same_share", defArgs s_same_share, defBody s_same_share, defScope s_same_share, [], []⟩
abbrev s_total : Stmt := top 24
abbrev N_total : List Str := ["shares", "start", "summed", "share"]
theorem sc_total : FnScope N_total ["shares", "start"] (defScope s_total) := ⟨rfl, rfl, rfl, by decide +kernel, rfl, by decide +kernel, by decide +kernel⟩
def d_total : He.DefD := ⟨("total", none), "total", "total", defArgs s_total, defBody s_total, defScope s_total, [.int 0], []⟩
abbrev s_check_even : Stmt := top 26
abbrev N_check_even : List Str := ["standing", "rest"]
theorem sc_check_even : FnScope N_check_even ["standing"] (defScope s_check_even) := ⟨rfl, rfl, rfl, by decide +kernel, rfl, by decide +kernel, by decide +kernel⟩
def d_check_even : He.DefD := ⟨("check_even", none), "check_even", "check_even", defArgs s_check_even, defBody s_check_even, defScope s_check_even, [], []⟩
abbrev s_joined : Stmt := top 27
abbrev N_joined : List Str := ["standing", "moves", "name", "told", "move"]
theorem sc_joined : FnScope N_joined ["standing", "moves"] (defScope s_joined) := ⟨rfl, rfl, rfl, by decide +kernel, rfl, by decide +kernel, by decide +kernel⟩
def d_joined : He.DefD := ⟨("joined", none), "joined", "joined", defArgs s_joined, defBody s_joined, defScope s_joined, [], []⟩
abbrev s_turned : Stmt := top 28
abbrev N_turned : List Str := ["standing", "name"]
theorem sc_turned : FnScope N_turned ["standing"] (defScope s_turned) := ⟨rfl, rfl, rfl, by decide +kernel, rfl, by decide +kernel, by decide +kernel⟩
def d_turned : He.DefD := ⟨("turned", none), "turned", "turned", defArgs s_turned, defBody s_turned, defScope s_turned, [], []⟩
abbrev s_wanted : Stmt := top 30
abbrev N_wanted : List Str := ["standing", "days", "fares", "riders", "able", "name"]
theorem sc_wanted : FnScope N_wanted ["standing", "days"] (defScope s_wanted) := ⟨rfl, rfl, rfl, by decide +kernel, rfl, by decide +kernel, by decide +kernel⟩
def d_wanted : He.DefD := ⟨("wanted", none), "wanted", "wanted", defArgs s_wanted, defBody s_wanted, defScope s_wanted, [], []⟩
abbrev s_slack_share : Stmt := top 31
abbrev N_slack_share : List Str := ["slack"]
theorem sc_slack_share : FnScope N_slack_share ["slack"] (defScope s_slack_share) := ⟨rfl, rfl, rfl, by decide +kernel, rfl, by decide +kernel, by decide +kernel⟩
def d_slack_share : He.DefD := ⟨("slack_share", none), "slack_share", "slack_share", defArgs s_slack_share, defBody s_slack_share, defScope s_slack_share, [], []⟩
abbrev s_least_of : Stmt := top 32
abbrev N_least_of : List Str := ["want", "slack"]
theorem sc_least_of : FnScope N_least_of ["want", "slack"] (defScope s_least_of) := ⟨rfl, rfl, rfl, by decide +kernel, rfl, by decide +kernel, by decide +kernel⟩
def d_least_of : He.DefD := ⟨("least_of", none), "least_of", "least_of", defArgs s_least_of, defBody s_least_of, defScope s_least_of, [], []⟩
abbrev s_most_of : Stmt := top 33
abbrev N_most_of : List Str := ["want", "slack"]
theorem sc_most_of : FnScope N_most_of ["want", "slack"] (defScope s_most_of) := ⟨rfl, rfl, rfl, by decide +kernel, rfl, by decide +kernel, by decide +kernel⟩
def d_most_of : He.DefD := ⟨("most_of", none), "most_of", "most_of", defArgs s_most_of, defBody s_most_of, defScope s_most_of, [], []⟩
abbrev s_is_parted : Stmt := top 34
abbrev N_is_parted : List Str := ["want", "slack"]
theorem sc_is_parted : FnScope N_is_parted ["want", "slack"] (defScope s_is_parted) := ⟨rfl, rfl, rfl, by decide +kernel, rfl, by decide +kernel, by decide +kernel⟩
def d_is_parted : He.DefD := ⟨("is_parted", none), "is_parted", "is_parted", defArgs s_is_parted, defBody s_is_parted, defScope s_is_parted, [], []⟩
abbrev s_drives_given : Stmt := top 35
abbrev N_drives_given : List Str := ["days", "drivers", "name", "at", "driver", "other"]
theorem sc_drives_given : FnScope N_drives_given ["days", "drivers", "name"] (defScope s_drives_given) := ⟨rfl, rfl, rfl, by decide +kernel, rfl, by decide +kernel, by decide +kernel⟩
def d_drives_given : He.DefD := ⟨("drives_given", none), "drives_given", "drives_given", defArgs s_drives_given, defBody s_drives_given, defScope s_drives_given, [], []⟩
abbrev s_drives_taken : Stmt := top 36
abbrev N_drives_taken : List Str := ["days", "drivers", "name", "at", "driver"]
theorem sc_drives_taken : FnScope N_drives_taken ["days", "drivers", "name"] (defScope s_drives_taken) := ⟨rfl, rfl, rfl, by decide +kernel, rfl, by decide +kernel, by decide +kernel⟩
def d_drives_taken : He.DefD := ⟨("drives_taken", none), "drives_taken", "drives_taken", defArgs s_drives_taken, defBody s_drives_taken, defScope s_drives_taken, [], []⟩
abbrev s_find_way : Stmt := top 37
abbrev N_find_way : List Str := ["starts", "goals", "steps", "name", "came", "waiting", "at", "other", "day", "taker"]
theorem sc_find_way : FnScope N_find_way ["starts", "goals", "steps"] (defScope s_find_way) := ⟨rfl, rfl, rfl, by decide +kernel, rfl, by decide +kernel, by decide +kernel⟩
def d_find_way : He.DefD := ⟨("find_way", none), "find_way", "find_way", defArgs s_find_way, defBody s_find_way, defScope s_find_way, [], []⟩
abbrev s_pass_along : Stmt := top 38
abbrev N_pass_along : List Str := ["drivers", "came", "end", "name", "day", "taker"]
theorem sc_pass_along : FnScope N_pass_along ["drivers", "came", "end"] (defScope s_pass_along) := ⟨rfl, rfl, rfl, by decide +kernel, rfl, by decide +kernel, by decide +kernel⟩
def d_pass_along : He.DefD := ⟨("pass_along", none), "pass_along", "pass_along", defArgs s_pass_along, defBody s_pass_along, defScope s_pass_along, [], []⟩
abbrev s_fill_days : Stmt := top 39
abbrev N_fill_days : List Str := ["days", "drivers", "mosts", "riders", "able", "goals", "came", "end", "name"]
theorem sc_fill_days : FnScope N_fill_days ["days", "drivers", "mosts"] (defScope s_fill_days) := ⟨rfl, rfl, rfl, by decide +kernel, rfl, by decide +kernel, by decide +kernel⟩
def d_fill_days : He.DefD := ⟨("fill_days", none), "fill_days", "fill_days", defArgs s_fill_days, defBody s_fill_days, defScope s_fill_days, [], []⟩
abbrev s_raise_to_leasts : Stmt := top 40
abbrev N_raise_to_leasts : List Str := ["days", "drivers", "leasts", "name", "goals", "came", "end", "one"]
theorem sc_raise_to_leasts : FnScope N_raise_to_leasts ["days", "drivers", "leasts"] (defScope s_raise_to_leasts) := ⟨rfl, rfl, rfl, by decide +kernel, rfl, by decide +kernel, by decide +kernel⟩
def d_raise_to_leasts : He.DefD := ⟨("raise_to_leasts", none), "raise_to_leasts", "raise_to_leasts", defArgs s_raise_to_leasts, defBody s_raise_to_leasts, defScope s_raise_to_leasts, [], []⟩
abbrev s_search : Stmt := top 41
abbrev N_search : List Str := ["standing", "days", "slack", "wants", "spare", "name", "drivers", "crowd", "few"]
theorem sc_search : FnScope N_search ["standing", "days", "slack"] (defScope s_search) := ⟨rfl, rfl, rfl, by decide +kernel, rfl, by decide +kernel, by decide +kernel⟩
def d_search : He.DefD := ⟨("search", none), "search", "search", defArgs s_search, defBody s_search, defScope s_search, [], []⟩
abbrev s_evened : Stmt := top 42
abbrev N_evened : List Str := ["standing", "days", "slack", "drivers", "paper"]
theorem sc_evened : FnScope N_evened ["standing", "days", "slack"] (defScope s_evened) := ⟨rfl, rfl, rfl, by decide +kernel, rfl, by decide +kernel, by decide +kernel⟩
def d_evened : He.DefD := ⟨("evened", none), "evened", "evened", defArgs s_evened, defBody s_evened, defScope s_evened, [.int 0], []⟩
abbrev s_why_uneven : Stmt := top 43
abbrev N_why_uneven : List Str := ["standing", "days", "slack", "drivers", "paper"]
theorem sc_why_uneven : FnScope N_why_uneven ["standing", "days", "slack"] (defScope s_why_uneven) := ⟨rfl, rfl, rfl, by decide +kernel, rfl, by decide +kernel, by decide +kernel⟩
def d_why_uneven : He.DefD := ⟨("why_uneven", none), "why_uneven", "why_uneven", defArgs s_why_uneven, defBody s_why_uneven, defScope s_why_uneven, [.int 0], []⟩
abbrev s_soonest : Stmt := top 44
abbrev N_soonest : List Str := ["standing", "days", "slack", "papers", "many", "drivers", "paper"]
theorem sc_soonest : FnScope N_soonest ["standing", "days", "slack"] (defScope s_soonest) := ⟨rfl, rfl, rfl, by decide +kernel, rfl, by decide +kernel, by decide +kernel⟩
def d_soonest : He.DefD := ⟨("soonest", none), "soonest", "soonest", defArgs s_soonest, defBody s_soonest, defScope s_soonest, [.int 0], []⟩
abbrev s_are_rising : Stmt := top 46
abbrev N_are_rising : List Str := ["thing", "names", "one"]
theorem sc_are_rising : FnScope N_are_rising ["thing", "names"] (defScope s_are_rising) := ⟨rfl, rfl, rfl, by decide +kernel, rfl, by decide +kernel, by decide +kernel⟩
def d_are_rising : He.DefD := ⟨("are_rising", none), "are_rising", "are_rising", defArgs s_are_rising, defBody s_are_rising, defScope s_are_rising, [], []⟩
abbrev s_are_few : Stmt := top 47
abbrev N_are_few : List Str := ["wants", "days", "names", "slack", "open_days", "riders", "able", "name"]
theorem sc_are_few : FnScope N_are_few ["wants", "days", "names", "slack"] (defScope s_are_few) := ⟨rfl, rfl, rfl, by decide +kernel, rfl, by decide +kernel, by decide +kernel⟩
def d_are_few : He.DefD := ⟨("are_few", none), "are_few", "are_few", defArgs s_are_few, defBody s_are_few, defScope s_are_few, [], []⟩
abbrev s_are_crowded : Stmt := top 48
abbrev N_are_crowded : List Str := ["wants", "days", "names", "slack", "own_days", "riders", "able", "name"]
theorem sc_are_crowded : FnScope N_are_crowded ["wants", "days", "names", "slack"] (defScope s_are_crowded) := ⟨rfl, rfl, rfl, by decide +kernel, rfl, by decide +kernel, by decide +kernel⟩
def d_are_crowded : He.DefD := ⟨("are_crowded", none), "are_crowded", "are_crowded", defArgs s_are_crowded, defBody s_are_crowded, defScope s_are_crowded, [], []⟩
abbrev s_shows_uneven : Stmt := top 49
abbrev N_shows_uneven : List Str := ["standing", "days", "thing", "slack", "wants", "spare", "kind", "named"]
theorem sc_shows_uneven : FnScope N_shows_uneven ["standing", "days", "thing", "slack"] (defScope s_shows_uneven) := ⟨rfl, rfl, rfl, by decide +kernel, rfl, by decide +kernel, by decide +kernel⟩
def d_shows_uneven : He.DefD := ⟨("shows_uneven", none), "shows_uneven", "shows_uneven", defArgs s_shows_uneven, defBody s_shows_uneven, defScope s_shows_uneven, [.int 0], []⟩
abbrev s_l_held : Stmt := top 51
abbrev N_l_held : List Str := ["_law_script"]
theorem sc_l_held : FnScope N_l_held ["_law_script"] (defScope s_l_held) := ⟨rfl, rfl, rfl, by decide +kernel, rfl, by decide +kernel, by decide +kernel⟩
def d_l_held : He.DefD := ⟨("_law_held", none), "_law_held", "_law_held", defArgs s_l_held, defBody s_l_held, defScope s_l_held, [], []⟩
abbrev s_l_draw : Stmt := top 52
abbrev N_l_draw : List Str := ["_law_held_here", "_law_many", "_law_found", "_law_at", "_law_cell", "_law_number"]
theorem sc_l_draw : FnScope N_l_draw ["_law_held_here", "_law_many"] (defScope s_l_draw) := ⟨rfl, rfl, rfl, by decide +kernel, rfl, by decide +kernel, by decide +kernel⟩
def d_l_draw : He.DefD := ⟨("_law_draw", none), "_law_draw", "_law_draw", defArgs s_l_draw, defBody s_l_draw, defScope s_l_draw, [], []⟩
abbrev s_l_names : Stmt := top 53
abbrev N_l_names : List Str := ["_law_held_here", "_law_many", "_law_letters", "_law_size", "_law_k", "_law_base", "_law_at", "_law_begin", "_law_step", "_law_lot", "_law_found", "_law_tail"]
theorem sc_l_names : FnScope N_l_names ["_law_held_here", "_law_many"] (defScope s_l_names) := ⟨rfl, rfl, rfl, by decide +kernel, rfl, by decide +kernel, by decide +kernel⟩
def d_l_names : He.DefD := ⟨("_law_names", none), "_law_names", "_law_names", defArgs s_l_names, defBody s_l_names, defScope s_l_names, [], []⟩
abbrev s_l_low : Stmt := top 54
abbrev N_l_low : List Str := ["_law_top", "_law_bottom", "_law_one", "_law_other"]
theorem sc_l_low : FnScope N_l_low ["_law_top", "_law_bottom"] (defScope s_l_low) := ⟨rfl, rfl, rfl, by decide +kernel, rfl, by decide +kernel, by decide +kernel⟩
def d_l_low : He.DefD := ⟨("_law_low", none), "_law_low", "_law_low", defArgs s_l_low, defBody s_l_low, defScope s_l_low, [], []⟩
abbrev s_l_add : Stmt := top 55
abbrev N_l_add : List Str := ["_law_one", "_law_other"]
theorem sc_l_add : FnScope N_l_add ["_law_one", "_law_other"] (defScope s_l_add) := ⟨rfl, rfl, rfl, by decide +kernel, rfl, by decide +kernel, by decide +kernel⟩
def d_l_add : He.DefD := ⟨("_law_add", none), "_law_add", "_law_add", defArgs s_l_add, defBody s_l_add, defScope s_l_add, [], []⟩
abbrev s_l_pair : Stmt := top 56
abbrev N_l_pair : List Str := ["_law_share", "_law_part"]
theorem sc_l_pair : FnScope N_l_pair ["_law_share"] (defScope s_l_pair) := ⟨rfl, rfl, rfl, by decide +kernel, rfl, by decide +kernel, by decide +kernel⟩
def d_l_pair : He.DefD := ⟨("_law_pair", none), "_law_pair", "_law_pair", defArgs s_l_pair, defBody s_l_pair, defScope s_l_pair, [], []⟩
abbrev s_l_kinds : Stmt := top 57
abbrev N_l_kinds : List Str := ["_law_error", "_law_own", "_law_words", "_law_found", "_law_bases_here", "_law_word", "_law_so"]
theorem sc_l_kinds : FnScope N_l_kinds ["_law_error"] (defScope s_l_kinds) := ⟨rfl, rfl, rfl, by decide +kernel, rfl, by decide +kernel, by decide +kernel⟩
def d_l_kinds : He.DefD := ⟨("_law_kinds", none), "_law_kinds", "_law_kinds", defArgs s_l_kinds, defBody s_l_kinds, defScope s_l_kinds, [], []⟩
abbrev s_l_bases : Stmt := top 58
abbrev N_l_bases : List Str := ["_law_word", "_law_places", "_law_k"]
theorem sc_l_bases : FnScope N_l_bases ["_law_word"] (defScope s_l_bases) := ⟨rfl, rfl, rfl, by decide +kernel, rfl, by decide +kernel, by decide +kernel⟩
def d_l_bases : He.DefD := ⟨("_law_bases", none), "_law_bases", "_law_bases", defArgs s_l_bases, defBody s_l_bases, defScope s_l_bases, [], []⟩
abbrev s_l_coming : Stmt := top 59
abbrev N_l_coming : List Str := ["_law_held_here", "_law_names_here", "_law_many", "_law_found", "_law_k", "_law_left", "_law_riders", "_law_turn", "_law_able", "_law_name"]
theorem sc_l_coming : FnScope N_l_coming ["_law_held_here", "_law_names_here", "_law_many"] (defScope s_l_coming) := ⟨rfl, rfl, rfl, by decide +kernel, rfl, by decide +kernel, by decide +kernel⟩
def d_l_coming : He.DefD := ⟨("_law_coming", none), "_law_coming", "_law_coming", defArgs s_l_coming, defBody s_l_coming, defScope s_l_coming, [], []⟩
abbrev s_l_wants : Stmt := top 60
abbrev N_l_wants : List Str := ["_law_standing_here", "_law_days", "_law_name", "_law_found", "_law_riders", "_law_able"]
theorem sc_l_wants : FnScope N_l_wants ["_law_standing_here", "_law_days"] (defScope s_l_wants) := ⟨rfl, rfl, rfl, by decide +kernel, rfl, by decide +kernel, by decide +kernel⟩
def d_l_wants : He.DefD := ⟨("_law_wants", none), "_law_wants", "_law_wants", defArgs s_l_wants, defBody s_l_wants, defScope s_l_wants, [], []⟩
abbrev s_l_shares : Stmt := top 61
abbrev N_l_shares : List Str := ["_law_standing_here", "_law_name"]
theorem sc_l_shares : FnScope N_l_shares ["_law_standing_here"] (defScope s_l_shares) := ⟨rfl, rfl, rfl, by decide +kernel, rfl, by decide +kernel, by decide +kernel⟩
def d_l_shares : He.DefD := ⟨("_law_shares", none), "_law_shares", "_law_shares", defArgs s_l_shares, defBody s_l_shares, defScope s_l_shares, [], []⟩
abbrev s_l_standing : Stmt := top 62
abbrev N_l_standing : List Str := ["_law_held_here", "_law_names_here", "_law_found", "_law_rest", "_law_name", "_law_bottom"]
theorem sc_l_standing : FnScope N_l_standing ["_law_held_here", "_law_names_here"] (defScope s_l_standing) := ⟨rfl, rfl, rfl, by decide +kernel, rfl, by decide +kernel, by decide +kernel⟩
def d_l_standing : He.DefD := ⟨("_law_standing", none), "_law_standing", "_law_standing", defArgs s_l_standing, defBody s_l_standing, defScope s_l_standing, [], []⟩
abbrev s_l_refused : Stmt := top 63
abbrev N_l_refused : List Str := ["_law_way", "_law_shares_here", "_law_days", "_law_caught", "e", "_law_found", "_law_bases_here"]
theorem sc_l_refused : FnScope N_l_refused ["_law_way", "_law_shares_here", "_law_days"] (defScope s_l_refused) := ⟨rfl, rfl, rfl, by decide +kernel, rfl, by decide +kernel, by decide +kernel⟩
def d_l_refused : He.DefD := ⟨("_law_refused", none), "_law_refused", "_law_refused", defArgs s_l_refused, defBody s_l_refused, defScope s_l_refused, [], []⟩
abbrev s_law : Stmt := top 64
abbrev N_law : List Str := ["_law_script", "_law_held_here", "_law_names_here", "_law_standing_here", "_law_many", "_law_days", "_law_shares_here", "_law_handed", "_law_due", "_law_turn", "_law_found", "_law_name", "_law_changed", "_law_rest", "_law_way"]
theorem sc_law : FnScope N_law ["_law_script"] (defScope s_law) := ⟨rfl, rfl, rfl, by decide +kernel, rfl, by decide +kernel, by decide +kernel⟩
def d_law : He.DefD := ⟨("law", none), "law", "law", defArgs s_law, defBody s_law, defScope s_law, [], []⟩
def fn : List He.DefD := [d__wall, d_NoKind_init, d_Nought_init, d_NoShare_init, d_Uneven_init, d_BadName_init, d_NoNumber_init, d_NoRide_init, d_NoText_init, d_NoName_init, d_NoDay_init, d_NoSeats_init, d_TooMany_init, d_Taken_init, d_NoRule_init, d_NothingDone_init, d_NoRow_init, d_is_whole, d_common_part, d_Share_init, d_Share_eq, d_Share_str, d_Share_repr, d_Share_plus, d_Share_less, d_Share_times, d_Share_over, d_Share_below, d_Share_whole, d_same_share, d_total, d_check_even, d_joined, d_turned, d_wanted, d_slack_share, d_least_of, d_most_of, d_is_parted, d_drives_given, d_drives_taken, d_find_way, d_pass_along, d_fill_days, d_raise_to_leasts, d_search, d_evened, d_why_uneven, d_soonest, d_are_rising, d_are_few, d_are_crowded, d_shows_uneven, d_l_held, d_l_draw, d_l_names, d_l_low, d_l_add, d_l_pair, d_l_kinds, d_l_bases, d_l_coming, d_l_wants, d_l_shares, d_l_standing, d_l_refused, d_law]
end K48
set_option Elab.async false
set_option linter.all false
set_option maxRecDepth 100000
set_option maxHeartbeats 4000000
/-! GX: own exceptions over any built-in base, whose own __init__ calls the base's and stores a field. -/
namespace GX
open PySem PySem.Spec PyProof.Rows L2

/-- what the written part tells of the class -/
structure Gx (K : PySem.W.Frag) (C : Addr) (bmB : List Value) (nid : String) : Prop where
  over : PySem.W.excOver K C bmB = true
  made : PySem.W.excInitIn K C bmB nid = true
  hasd : ∃ cd, PySem.W.clsIn K C = some cd ∧ cd.hasDict = true
  sets : PySem.W.findIn K (.ref C) "__setattr__" = some (some (.builtin "object.__setattr__"))
  base : PySem.W.subIn K (.ref C) (.type "BaseException") = some true
  typ : PySem.W.typeIn K (.ref C) = some (.type "type")
  keep : PySem.W.keepIn K (.ref C) = true

section
open Builtin Builtin.ObjectAttr
variable {prog : Program} {w : World} {A : Around} {R : Result → Shared → Prop} {hp : Heap} {g : Array GenState} {d : Drawn} {t : Nat} {os : OsState} {B : String} {bmB : List Value}
theorem first_store {K : PySem.W.Frag} {name : Str} {tk : Tok} {v : Value} {x C : Addr} {fv : Array Value} {cd : ClassData} (SF : StoreFacts B bmB "object.__setattr__" "object")
    (X : K.In hp) (hx : hp.get? x = some { cls := .ref C, data := .fields fv }) (ho : PySem.W.excOver K C bmB = true) (hc : PySem.W.clsIn K C = some cd) (hd : cd.hasDict = true)
    (hf : PySem.W.findIn K (.ref C) name = some none)
    (post : ∀ h' tk' dx, (∀ b o, b ≠ x → hp.get? b = some o → h'.get? b = some o) → hp.objs.size ≤ dx → dx ≠ x →
      h'.get? x = some { cls := .ref C, dict := some dx, data := .fields fv } → h'.Ns1 dx (fun y => if y = name then some v else none) → R (.ok (.ret .none)) ⟨h', g, d, tk', os⟩) :
    codeAny (model prog w) A (.call (.builtin "object.__setattr__") ⟨[.ref x, .str name tk, v], []⟩) R ⟨hp, g, d, t, os⟩ := by
  have inst : PySem.W.InstAt hp x { cls := .ref C, data := .fields fv } C none := ⟨hx, rfl, rfl, trivial⟩
  have far : x ≠ hp.objs.size := Nat.ne_of_lt (Heap.lt_size hx)
  have lc : PySem.W.Looks (model prog w) hp (classData C) cd := PySem.W.looks_clsIn X hc
  refine PySem.W.osa_openX (r := none) SF X inst ho (by unfold PySem.W.takerIn; rw [hf]; rfl) fun b => ?_
  dsimp only
  obtain ⟨n1, n2, n3, n4, n5, n6, n7, n8, n9, n10, n11⟩ := cd
  dsimp only at hd
  subst hd
  unfold storeInOwnDict ownDictForStores
  repeat (first | with_reducible refine PySem.HandSPX.store_in_new ?_ ?_ | with_reducible refine wpAny_loadPart_at hx ?_ | with_reducible refine lc.at ?_ | wp_step)
  · exact ⟨_, #[], _, (Heap.get?_update_ne _ _ _ _ far.symm).trans (Heap.get?_push_at rfl rfl), rfl, fun e he => absurd he (by simp), fun _ => rfl⟩
  · intro h' tk' hn hs
    have hx1 : (hp.push { cls := .type "dict", data := .dict #[] }).get? x = some { cls := .ref C, data := .fields fv } := Heap.get?_push_of_some _ hx
    refine post h' tk' hp.objs.size (fun b o hb hob => ?_) (Nat.le_refl _) far.symm ?_ hn
    · have e1 := hs.2 b (Nat.ne_of_lt (Heap.lt_size hob))
      rw [e1, Heap.get?_update_ne _ _ _ _ hb]
      exact Heap.get?_push_of_some _ hob
    · rw [hs.2 x far]
      exact Heap.get?_update_self _ hx1 rfl
end

section
variable {X : Cx} {pins : List (Addr × Obj)} {σ : L2.St} {H : Hp} {s : Shared} {a C dx : Addr} {f : Str} {y : V} {u : Value} {Q : Unit → Shared → Prop} {E : Value → Shared → Prop} {A : Around} {B : String} {bmB : List Value} {nid iid : String}
/-- self.f = y, the first store -/
theorem put_first (SF : StoreFacts B bmB "object.__setattr__" "object") (T : Gx X.K C bmB nid) (I : Inv X pins σ H s) (e : H a = some (exo a C none)) (hno : PySem.W.findIn X.K (.ref C) f = some none) (ry : RelV y u)
    (post : ∀ dx s', H dx = none → dx ≠ a → Inv X pins σ (upd (upd H dx (exd dx [(f, y)])) a (exo a C (some dx))) s' → Q () s') : wpAny (model X.prog X.w) A (setAttr (.ref a) f u) Q E s := by
  obtain ⟨cd, hcd, hdd⟩ := T.hasd
  obtain ⟨t1, at1⟩ := exo_at I.hok e
  obtain ⟨hp, g, d, t, os⟩ := s
  refine PySem.W.set_plain I.kIn (ox := { cls := .ref C, dict := none, data := .fields #[.ref t1, .none, .none, .none, .bool false, .none] }) (od := none) ⟨at1, rfl, rfl, trivial⟩ T.sets ?_
  refine first_store SF I.kIn at1 T.over hcd hdd hno (fun h' tk' dx kp dn dne hx hn => ?_)
  have fresh : H dx = none := I.hok.fresh dn
  have old : ∀ {b : Addr} {o : Obj}, hp.get? b = some o → b ≠ dx := fun {b o} q => Nat.ne_of_lt (Nat.lt_of_lt_of_le (Heap.lt_size q) dn)
  have other : ∀ {b : Addr}, H b = none → b ≠ a := fun {b} n z => by
    rw [z, e] at n
    cases n
  have un : Un X.fs [] H (upd (upd H dx (exd dx [(f, y)])) a (exo a C (some dx))) hp h' := {
    keep := fun b o q n _ _ => kp b o (other n) q
    slot := fun b o q n _ _ => ⟨o.slots, kp b o (other n) q⟩
    free := fun b o q n _ => by rw [upd_ne (other n), upd_ne (old q)]; exact n
    there := fun b o q _ => by
      by_cases hb : b = a
      · exact ⟨_, hb ▸ hx⟩
      · exact ⟨o, kp b o hb q⟩
    tups := fun b xs q => by rw [upd_ne (at_ne e q exo_tup), upd_ne (ne_of_none q fresh)]; exact q
    frzs := fun b o v q => by rw [upd_ne (at_ne e q exo_frz), upd_ne (ne_of_none q fresh)]; exact q
    tbls := fun b ps q => ⟨#[], by rw [upd_ne (at_ne e q exo_tbl), upd_ne (ne_of_none q fresh), q]; simp⟩ }
  refine post dx _ fresh dne (I.un (t' := tk') un fun b o q => ?_)
  by_cases hb : b = a
  · subst hb
    rw [upd_same] at q
    cases q
    exact exo_ok hx
  · rw [upd_ne hb] at q
    by_cases hd : b = dx
    · subst hd
      rw [upd_same] at q
      cases q
      exact exd_ok hn (relO_put (fs := []) ry fun g => True.intro)
    · rw [upd_ne hd] at q
      refine (I.hok b o q).stay (fun c v hc z => kp c v ?_ z) (fun c hc => ?_) (fun c xs hc => ?_)
      · rcases hc with hc | hc
        · exact hc ▸ hb
        · exact at_ne e hc exo_own
      · rw [upd_ne (at_ne e hc exo_own), upd_ne (ne_of_none hc fresh)]; exact hc
      · rw [upd_ne (at_ne e hc exo_tup), upd_ne (ne_of_none hc fresh)]; exact hc
/-- Base.__init__(self, ..) -/
theorem base_init {us : List Value} {Q : Value → Shared → Prop} (FB : ExcBaseFacts B nid iid bmB) (T : Gx X.K C bmB nid) (I : Inv X pins σ H s) (e : H a = some (exo a C none)) (hl : us.length ≤ sizeLine) (post : ∀ s', Inv X pins σ H s' → Q .none s') :
    wpAny (model X.prog X.w) A (call (.builtin iid) (.ref a :: us)) Q E s := by
  obtain ⟨nm, N, qn, bs, bm, hdct, sn, sub, ab, col, dd, k0, k1, k2, k3, k5, hC, hT⟩ := PySem.W.excInit_of I.kIn T.made
  obtain ⟨t1, at1⟩ := exo_at I.hok e
  obtain ⟨hp, g, d, t, os⟩ := s
  refine wpAny_call (PySem.HandSPX.init_base FB hT hC at1 hl fun h' t2 kp hx => ?_)
  have J := I.write (t' := t) (x := a) (e := a) (o := exo a C none) (by rw [e]; exact True.intro) (.inl rfl) kp ⟨_, hx⟩ (exo_ok hx)
  have same : upd H a (exo a C none) = H := funext fun b => by
    by_cases hb : b = a
    · rw [hb, upd_same, e]
    · rw [upd_ne hb]
  rw [same] at J
  exact post _ J
end

/-! ### readings and rules -/
/-- Base.__init__(self, ..) -/
def tBi (K : PySem.W.Frag) (bmB : List Value) (nid : String) (ta : TA) : TE := fun σ H Q => ta σ H fun vs H1 => ∃ (a C : Addr) (ws : List V), vs = .ref a :: ws ∧ ws.length ≤ 1000 ∧ Gx K C bmB nid ∧ H1 a = some (exo a C none) ∧ Q .non H1
/-- self.f = e, the first one -/
def tPf (K : PySem.W.Frag) (bmB : List Value) (nid : String) (f : Str) (to te : TE) : TS := fun D σ H => te σ H fun y H1 => to σ H1 fun x H2 => ∃ a C : Addr, x = .ref a ∧ Gx K C bmB nid ∧ PySem.W.findIn K (.ref C) f = some none ∧
  H2 a = some (exo a C none) ∧ ∀ dx, H2 dx = none → dx ≠ a → D.nx σ (upd (upd H2 dx (exd dx [(f, y)])) a (exo a C (some dx)))
section
variable {X : Cx} {o e : Expr} {es : List Expr} {to te : TE} {ta : TA} {f : Str} {p p' p1 p2 pos : Pos} {B nid iid : String} {bmB : List Value} {x : Str}
theorem pe_bi {pl : Sem Bool} (FB : ExcBaseFacts B nid iid bmB) (hg : Gl X x) (hm : X.mg x = none) (hv : bootBuiltins x = some (.type B)) (ty : typeOf (.type B) = pure (.type "type"))
    (vV : PySem.W.findCls X.K (.type B) (.type "type") "__init__" = some (.val (.builtin iid))) (hb : PySem.W.handedIn (.builtin iid) = true) (hst : Manifest.isStub B = false) (ha : PA X (e :: es) ta)
    (hc : eval (.Call (.Attribute (.Name x p1) "__init__" p2) (e :: es) [] pos) X.env = (do
      let ov ← eval (.Name x p1) X.env
      standAt p2.atName
      let (f, first) ← holding [ov] (getMethod ov "__init__" pl)
      callWith pos f first (backTo pos (starEach (e :: es) X.env)) (backToKw pos (keywordEach [] X.env))) := by rfl)
    (hn : x ≠ "__name__" := by decide) (hd : (x == ("__debug__" : Str)) = false := by decide)
    (he : starEach (e :: es) X.env = (false, eval e X.env) :: starEach es X.env := by rfl) (hpl : (backTo pos (starEach es X.env)).any (·.1) = false := by rfl) :
    PE X (.Call (.Attribute (.Name x p1) "__init__" p2) (e :: es) [] pos) (tBi X.K bmB nid ta) := by
  refine ⟨fun pins s σ H Q I h => ?_⟩
  refine PySem.W.methodCall_KW (ld_blt I hg hm hv ?_ hn hd) hc
  obtain ⟨m, fr⟩ := I.fr
  refine PySem.W.method_type fr I.ok.mod.kin ty hst vV hb ?_
  show wpAny _ _ (callWith pos (Value.builtin iid) [] (backTo pos (starEach (e :: es) X.env)) []) _ _ _
  refine PyProof.Rows.callWith_method1 (thn (ha.run pos pins _ σ H _ (I.tok _) h) fun us s1 hh => ?_) he hpl
  obtain ⟨vs, H1, I1, r1, a, C, ws, ev, hl, T, ea, q⟩ := hh
  subst ev
  cases r1 with
  | @cons _ u0 _ ur ra rw' =>
    obtain rfl : u0 = Value.ref a := ra
    have hlen : ur.length ≤ sizeLine := by
      have := Paired.length rw'
      rw [sizeLine_eq]
      omega
    exact base_init FB T I1 ea hlen fun s' J => ⟨.non, H1, J, rfl, q⟩
theorem ps_pf (SF : StoreFacts B bmB "object.__setattr__" "object") (ho : PE X o to) (he : PE X e te) (hs : swapsWith e (some (.Attribute o f p')) pos.line X.env = pure false := by rfl) : PS X (.Assign [.Attribute o f p'] e pos) (tPf X.K bmB nid f to te) := by
  refine ⟨fun pins s σ H D I h => ?_⟩
  refine plainObj_wpAny_Assign_Attribute (thn (he.run pins s σ H _ I h) fun v s1 h1 => ?_) hs
  obtain ⟨y, H1, I1, r1, q1⟩ := h1
  refine thn (ho.run pins s1 σ H1 _ I1 q1) fun u s2 h2 => ?_
  obtain ⟨z, H2, I2, r2, a, C, ex, T, hno, ea, q⟩ := h2
  subst ex
  obtain rfl : u = Value.ref a := r2
  exact put_first SF T I2 ea hno r1 fun dx s' n ne J => ⟨σ, _, J, q dx n ne⟩
/-- C(e, ..) as what is raised, C's own __init__ keeping sp -/
theorem pmk_gx {CX : CXT} {C fI : Addr} {k : Nat} {fd : FuncData} {ps : List Str} {sp : Sp} {ds : List Value} {dvs : List V} (FB : ExcBaseFacts B nid iid bmB) (T : Gx X.K C bmB nid) (iC : PySem.W.findIn X.K (.ref C) "__init__" = some (some (.ref fI)))
    (tI : PySem.W.typeIn X.K (.ref fI) = some (.type "function"))
    (F1 : FnOk X.prog X.w X.K X.mg X.base CX k fI fd ps sp) (hr : Room (k + 1) X.A) (hb : Binds X.K fd ps ds) (hd : Vals dvs ds) (hx : Passes CX X (fun _ _ _ => False)) (hg : Gl X x) (hm : X.mg x = some (.ref C)) (ha : PA X (e :: es) ta)
    (hdb : (x == ("__debug__" : Str)) = false := by decide) (he : starEach (e :: es) X.env = (false, eval e X.env) :: starEach es X.env := by rfl) (hpl : (backTo pos (starEach es X.env)).any (·.1) = false := by rfl) :
    PMk X (.Call (.Name x p) (e :: es) [] pos) (tMkO C sp dvs ta) := by
  intro pins s σ H Q I h
  refine wpAny_Call_Name_kw (ld_glob I hg hm ?_ hdb)
  refine PySem.W.callWith_K (h₀ := X.base) I.ok.mod.kin T.keep (thn (ha.run pos pins s σ H _ I h) fun us s1 hh => ?_) he hpl
  obtain ⟨vs, H1, I1, r1, hz, q1⟩ := hh
  refine ⟨I1.kIn, ?_⟩
  show wpAny _ _ (call (.ref C) us) _ _ _
  obtain ⟨nm, N, qn, bs, bm, hdct, sn, sub, ab, col, dd, k0, k1, k2, k3, k5, hC, hT⟩ := PySem.W.excInit_of I1.kIn T.made
  obtain ⟨hp, g, dr, tk, os⟩ := s1
  have big : hp.objs.size ≤ hp.objs.size + 1 := Nat.le_succ _
  have hq := q1 (hp.objs.size + 1) (I1.hok.fresh big)
  have kk : ∀ b o, hp.get? b = some o → ((hp.push (PySem.W.kdv_tup us)).push (PySem.HandSPX.excO C hp.objs.size)).get? b = some o := fun b o z =>
    Heap.get?_push_of_some _ (Heap.get?_push_of_some _ z)
  have there : ((hp.push (PySem.W.kdv_tup us)).push (PySem.HandSPX.excO C hp.objs.size)).get? (hp.objs.size + 1) = some (PySem.HandSPX.excO C hp.objs.size) := by heap_get
  have I2 := I1.laid (t' := tk) (a := hp.objs.size + 1) (o := exo (hp.objs.size + 1) C none) (h' := (hp.push (PySem.W.kdv_tup us)).push (PySem.HandSPX.excO C hp.objs.size)) kk big (exo_ok there)
  have r2 : Vals (V.ref (hp.objs.size + 1) :: (vs ++ dvs)) (Value.ref (hp.objs.size + 1) :: (us ++ ds)) := .cons rfl (r1.append hd)
  have hl : (Value.ref (hp.objs.size + 1) :: us ++ ds).length = ps.length := by
    have e1 := r2.length
    rw [F1.len _ _ _ _ hq] at e1
    exact e1.symm
  have few : us.length ≤ sizeLine := by
    have := Paired.length r1
    rw [sizeLine_eq]
    omega
  refine wpAny_call (PySem.HandSPX.call_own FB hT hC (PySem.W.looks_findIn I1.kIn iC) (fun self => PySem.W.bind_fn I1.kIn self tI) few (codeAny_mono
    (F1.run _ X.stack _ _ ⟨Value.ref (hp.objs.size + 1) :: us, []⟩ (Value.ref (hp.objs.size + 1) :: (us ++ ds)) _ _ (fun _ _ _ => False) (hr.make C us []) (I2.env0.make C us []) (hb _ (Value.ref (hp.objs.size + 1) :: us) I2.kIn hl) r2 hq) fun r s' hq' => ?_))
  cases r with
  | error er => exact hx pins σ _ _ er s' I2 hq'
  | ok fl =>
    cases fl with
    | ret u =>
      obtain ⟨v, H2, os2, bare2, un2, hok2, rv, ev, d, fs, ea, ed, hd1, q2⟩ := hq'
      subst ev
      obtain ⟨h2, g2, d2, t2, os'⟩ := s'
      exact ⟨rv, mk_end (raises_own T.base T.typ) I1 big kk un2 hok2 os2 bare2 ea ed hd1 q2⟩
    | next => exact False.elim hq'
    | brk => exact False.elim hq'
    | cont => exact False.elim hq'
end
/-! ### the head's look at such a class -/
def hasDB (K : PySem.W.Frag) (C : Addr) : Bool := match PySem.W.clsIn K C with
  | some cd => cd.hasDict
  | none => false
/-- Base.__init__, read off the class Base -/
def vvB (K : PySem.W.Frag) (B iid : String) : Bool := match PySem.W.findCls K (.type B) (.type "type") "__init__" with
  | some (.val (.builtin n)) => n == iid
  | _ => false
theorem vvB_ok {K : PySem.W.Frag} {B iid : String} (h : vvB K B iid = true) : PySem.W.findCls K (.type B) (.type "type") "__init__" = some (.val (.builtin iid)) := by
  unfold vvB at h
  split at h
  · rename_i n e
    rw [e, eq_of_beq h]
  · cases h
/-- what isinstance asks of an own class -/
def isB (K : PySem.W.Frag) (C : Addr) : Bool := He.eqO (PySem.W.findIn K (.ref C) "__class__") (some (some (.builtin "object.__class__"))) && (He.eqO (PySem.W.specialIn K (.builtin "object.__class__") "__get__") (some (some (.builtin "getset_descriptor.__get__"))) &&
  (decide (PySem.W.takesIn K (.builtin "object.__class__") = some true) && decide (PySem.W.mroIn K C (.type "object") = some true)))
def gxB (K : PySem.W.Frag) (C : Addr) (bmB : List Value) (nid : String) : Bool := PySem.W.excOver K C bmB && (PySem.W.excInitIn K C bmB nid && (hasDB K C &&
  (He.eqO (PySem.W.findIn K (.ref C) "__setattr__") (some (some (.builtin "object.__setattr__"))) && (decide (PySem.W.subIn K (.ref C) (.type "BaseException") = some true) &&
  (decide (PySem.W.typeIn K (.ref C) = some (.type "type")) && PySem.W.keepIn K (.ref C))))))
theorem gxB_ok {K : PySem.W.Frag} {C : Addr} {bmB : List Value} {nid : String} (h : gxB K C bmB nid = true) : Gx K C bmB nid := by
  unfold gxB at h
  simp only [Bool.and_eq_true, decide_eq_true_eq] at h
  obtain ⟨h1, h2, h3, h4, h5, h6, h7⟩ := h
  refine ⟨h1, h2, ?_, He.eqO_ok h4, h5, h6, h7⟩
  unfold hasDB at h3
  split at h3
  · rename_i cd e
    exact ⟨cd, e, h3⟩
  · cases h3
end GX
set_option Elab.async false
set_option linter.all false
set_option maxRecDepth 100000
set_option maxHeartbeats 4000000
/-! GXK: own exceptions over a base that has no __new__ of its own (KeyError: LookupError's is called). -/
namespace GXK
open PySem PySem.Spec L2 PySem.HandSPX
abbrev keT : List Value := [.type "KeyError", .type "LookupError", .type "Exception", .type "BaseException", .type "object"]
/-- what is asked of the base's own __init__ -/
structure InitF (B iid : String) (bmB : List Value) : Prop where
  entry : entryFor table iid = some Builtin.«BaseException.__init__»
  split : splitId iid = some (B, "__init__")
  kind : builtinKind iid = some .slot
  row : Manifest.signature? iid = some ⟨.positional, "*", B, .self, [⟨"args", .varPos, false⟩]⟩
  star : (B != "*") = true
  has : bmB.contains (.type B) = true
  init : Slot B "__init__" iid
/-- what is asked of the __new__ that is called -/
structure NewF (Bn nid inN : String) (bmN bmB : List Value) : Prop where
  base : ExcBaseFacts Bn nid inN bmN
  has : bmB.contains (.type Bn) = true
  noA : bmB.contains (.type "AttributeError") = false
  noN : bmB.contains (.type "NameError") = false
section
variable {prog : Program} {w : World} {M : Model} {A : Around} {E : Value → Shared → Prop} {R : Result → Shared → Prop} {h : Heap} {g : Array GenState} {d : Drawn} {t : Nat} {os : OsState}
variable {nm q : Str} {C N : Addr} {bs bm bmB bmN : List Value} {hdct : Bool} {sn : List Str} {sub : List Value} {ab : Bool} {col : Option Bool} {dd : Option Addr} {k0 k1 k2 k3 k5 : Option Value} {B Bn nid iid inN : String}
theorem new_checked (F : NewF Bn nid inN bmN bmB) (like : ∀ X : String, bm.contains (.type X) = bmB.contains (.type X)) {rest : List Value} {Q : Unit → Shared → Prop} (atC : h.get? C = some (excClassObj nm q C N bs bm hdct sn sub ab col dd k0 k1 k2 k3 k5 nid)) (post : Q () ⟨h, g, d, t, os⟩) : wpAny M A (checkBuiltinCall nid ⟨.ref C :: rest, []⟩) Q E ⟨h, g, d, t, os⟩ := by
  have yes : (Value.ref C :: bm).contains (.type Bn) = true := by rw [List.contains_cons, like, F.has, Bool.or_true]
  have hstar := F.base.noStar
  simp only [checkBuiltinCall, F.base.newKind, F.base.newSplit, F.base.newRow]
  repeat (first | refine wpAny_loadPart_at atC ?_ | (refine wpAny_isSubtype_exc atC ?_; rw [yes]) | refine wpAny_staticBase_exc atC ?_ | refine wpAny_madeBy_exc atC ?_ | simp only [bne_self_eq_false, Bool.false_eq_true, if_false] | wp_step)
  exact post
theorem init_checked (F : InitF B iid bmB) (like : ∀ X : String, bm.contains (.type X) = bmB.contains (.type X)) {e : Addr} {oe : Obj} {rest : List Value} {Q : Unit → Shared → Prop} (atC : h.get? C = some (excClassObj nm q C N bs bm hdct sn sub ab col dd k0 k1 k2 k3 k5 nid)) (ate : h.get? e = some oe) (clsC : oe.cls = .ref C) (post : Q () ⟨h, g, d, t, os⟩) : wpAny M A (checkBuiltinCall iid ⟨.ref e :: rest, []⟩) Q E ⟨h, g, d, t, os⟩ := by
  have yes : (Value.ref C :: bm).contains (.type B) = true := by rw [List.contains_cons, like, F.has, Bool.or_true]
  have hshort := F.star
  simp only [checkBuiltinCall, F.kind, F.split, F.row]
  repeat (first | (with_reducible refine wpAny_loadPart_at ate ?_; rw [clsC]) | with_reducible refine wpAny_loadPart_at atC ?_ | (with_reducible refine wpAny_isSubtype_exc atC ?_; rw [yes]) | wp_step)
  refine wpAny_onRaise ?_
  have star : ∀ (a b : String) (n : Nat), Bind.check ⟨.positional, "*", B, .self, [⟨"args", .varPos, false⟩]⟩ a b n (List.map (fun x => x.fst) ({ pos := Value.ref e :: rest } : Args).kw) = pure () := fun a b n => check_star_args _ _ _ _ _ _
  rw [star]
  exact wpAny_pure post
theorem made (F : NewF Bn nid inN bmN bmB) (like : ∀ X : String, bm.contains (.type X) = bmB.contains (.type X)) {rest : List Value} (atC : h.get? C = some (excClassObj nm q C N bs bm hdct sn sub ab col dd k0 k1 k2 k3 k5 nid))
    (post : R (.ok (.ret (.ref (h.objs.size + 1)))) ⟨(h.push (W.kdv_tup rest)).push (excO C h.objs.size), g, d, t, os⟩) (few : rest.length ≤ sizeLine) : codeAny (model prog w) A (.builtin nid ⟨.ref C :: rest, []⟩) R ⟨h, g, d, t, os⟩ := by
  have hends := F.base.ends
  have c1 : (Value.ref C :: bm).contains (.type Bn) = true := by rw [List.contains_cons, like, F.has, Bool.or_true]
  have c2 : (Value.ref C :: bm).contains (.type "AttributeError") = false := by rw [List.contains_cons, like, F.noA]; rfl
  have c3 : (Value.ref C :: bm).contains (.type "NameError") = false := by rw [List.contains_cons, like, F.noN]; rfl
  refine codeAny_builtinAt F.base.entry ?_
  unfold Builtin.«BaseException.__new__»; refine wpAt_bind ?_
  show wpAt _ _ _ (stack >>= _) _ _ _; refine wpAt_bind (wpAt_stack fun p below => wpAt_of_wpAny ?_)
  wp_walk
  refine wpAt_of_wpAny ?_
  rw [F.base.owner]
  repeat (first | with_reducible refine wpAny_madeHere_exc F.base.canon atC ?_ | with_reducible refine wpAny_loadPart_at atC ?_ | (with_reducible refine wpAny_isSubtype_exc atC ?_; first | rw [c1] | rw [c2] | rw [c3]) | wp_step)
  show R _ _
  rw [Heap.size_push]
  exact post
theorem type_called (F : NewF Bn nid inN bmN bmB) (like : ∀ X : String, bm.contains (.type X) = bmB.contains (.type X)) {rest : List Value} {fI : Addr} {Q : Fin → Shared → Prop} (atC : h.get? C = some (excClassObj nm q C N bs bm hdct sn sub ab col dd k0 k1 k2 k3 k5 nid))
    (hi : W.Looks (model prog w) h (typeLookup (.ref C) "__init__") (some (.ref fI))) (hb : ∀ self, W.Looks (model prog w) h (bindSpecial (.ref fI) self) (.ref fI, [self])) (few : rest.length ≤ sizeLine)
    (run : codeAny (model prog w) A (.call (.ref fI) ⟨.ref (h.objs.size + 1) :: rest, []⟩) (fun r s' => match r with | .ok (.ret v) => v = .none ∧ Q (.done (.ret (.ref (h.objs.size + 1)))) s' | .ok _ => False | .error e => E e s') ⟨(h.push (W.kdv_tup rest)).push (excO C h.objs.size), g, d, t, os⟩) :
    wpAny (model prog w) A (Builtin.«type.__call__» ⟨.ref C :: rest, []⟩) Q E ⟨h, g, d, t, os⟩ := by
  repeat (first | with_reducible refine wpAny_loadPart_at atC ?_ | with_reducible refine wpAny_madeBy_exc atC ?_ | wp_step)
  refine codeAny_call_builtin_code (Code.quiet_builtin _ F.base.quiet) (new_checked F like atC ?_)
  refine made F like atC ?_ few
  show wpAny _ _ _ _ _ _
  have keep : ∀ b o, h.get? b = some o → ((h.push (W.kdv_tup rest)).push (excO C h.objs.size)).get? b = some o := fun b o e => Heap.get?_push_of_some _ (Heap.get?_push_of_some _ e)
  have atC1 := keep _ _ atC
  have ate : ((h.push (W.kdv_tup rest)).push (excO C h.objs.size)).get? (h.objs.size + 1) = some (excO C h.objs.size) := by heap_get
  have own : (Value.ref C :: bm).contains (.ref C) = true := by simp
  have look := hi.keeps keep
  have bnd := (hb (.ref (h.objs.size + 1))).keeps keep
  unfold isInstance
  repeat (first | with_reducible refine wpAny_loadPart_at ate ?_ | (with_reducible refine wpAny_isSubtype_exc atC1 ?_; rw [own]) | wp_step)
  show wpAny _ _ (typeLookup (.ref C) _) _ _ _; refine look.at ?_
  refine wpAny_holding (wpAny_bind (bnd.at ?_)); refine wpAny_bind (wpAny_call (codeAny_mono run fun r s' z => ?_))
  rcases r with e | (v | _ | _ | _) <;> first | exact z | exact z.elim | skip
  obtain ⟨rfl, z⟩ := z
  first | exact wpAny_pure (wpAny_pure z) | (wp_walk; exact z)
theorem called (F : NewF Bn nid inN bmN bmB) (like : ∀ X : String, bm.contains (.type X) = bmB.contains (.type X)) {rest : List Value} {fI : Addr} (atC : h.get? C = some (excClassObj nm q C N bs bm hdct sn sub ab col dd k0 k1 k2 k3 k5 nid))
    (hi : W.Looks (model prog w) h (typeLookup (.ref C) "__init__") (some (.ref fI))) (hb : ∀ self, W.Looks (model prog w) h (bindSpecial (.ref fI) self) (.ref fI, [self])) (few : rest.length ≤ sizeLine)
    (run : codeAny (model prog w) (A.under (.builtin "type.__call__" ⟨.ref C :: rest, []⟩)) (.call (.ref fI) ⟨.ref (h.objs.size + 1) :: rest, []⟩) (W.InitBack (h.objs.size + 1) R) ⟨(h.push (W.kdv_tup rest)).push (excO C h.objs.size), g, d, t, os⟩) : codeAny (model prog w) A (.call (.ref C) ⟨rest, []⟩) R ⟨h, g, d, t, os⟩ := by
  have f1 := tc_lookup
  have f2 := tc_bind (.ref C)
  have hTy : (⟨h, g, d, t, os⟩ : Shared).TypeIs (.ref C) "type" := ⟨_, atC, rfl⟩
  refine codeAny_of_tree ?_
  show wpAny _ _ (callAny (.ref C) _) _ _ _
  repeat (any_goals (first | assumption | with_reducible refine wpAny_loadPart_at atC ?_ | wp_step))
  refine ⟨rfl, codeAny_call_builtin_at (Code.quiet_builtin _ (by decide +kernel)) entry_typeCall (wpAny_check_type_call_sub atC (type_called F like atC hi hb few (codeAny_mono run fun r s' z => ?_)))⟩
  rcases r with e | (v | _ | _ | _) <;> exact z
theorem inited (F : InitF B iid bmB) (like : ∀ X : String, bm.contains (.type X) = bmB.contains (.type X)) {e t0 : Addr} {rest : List Value} (atC : h.get? C = some (excClassObj nm q C N bs bm hdct sn sub ab col dd k0 k1 k2 k3 k5 nid)) (ate : h.get? e = some (excO C t0)) (few : rest.length ≤ sizeLine)
    (post : ∀ h' t1, (∀ b o, b ≠ e → h.get? b = some o → h'.get? b = some o) → h'.get? e = some (excO C t1) → R (.ok (.ret .none)) ⟨h', g, d, t, os⟩) : codeAny (model prog w) A (.call (.builtin iid) ⟨.ref e :: rest, []⟩) R ⟨h, g, d, t, os⟩ := by
  refine codeAny_call_builtin F.init.plain F.entry (init_checked F like atC ate rfl ?_)
  wp_walk
  refine post _ h.objs.size (fun b o hb ho => by rw [Heap.get?_update_other _ _ (Ne.symm hb)]; exact Heap.get?_push_of_some _ ho) ?_
  rw [Heap.get?_update_self _ (Heap.get?_push_of_some _ ate) rfl]; rfl
end
open PyProof.Rows
section
variable {X : Cx} {pins : List (Addr × Obj)} {σ : L2.St} {H : Hp} {s : Shared} {a C : Addr} {E : Value → Shared → Prop} {A : Around} {B Bn nid iid inN : String} {bmB bmN : List Value}
theorem base_init {us : List Value} {Q : Value → Shared → Prop} (FB : InitF B iid bmB) (T : GX.Gx X.K C bmB nid) (I : Inv X pins σ H s) (e : H a = some (exo a C none)) (few : us.length ≤ sizeLine) (post : ∀ s', Inv X pins σ H s' → Q .none s') : wpAny (model X.prog X.w) A (call (.builtin iid) (.ref a :: us)) Q E s := by
  obtain ⟨nm, N, qn, bs, bm, hdct, sn, sub, ab, col, dd, k0, k1, k2, k3, k5, hC, hT⟩ := PySem.W.excInit_of I.kIn T.made
  obtain ⟨t1, at1⟩ := exo_at I.hok e
  obtain ⟨hp, g, d, t, os⟩ := s
  refine wpAny_call (inited FB hT hC at1 few fun h' t2 kp hx => ?_)
  have J := I.write (t' := t) (x := a) (e := a) (o := exo a C none) (by rw [e]; exact True.intro) (.inl rfl) kp ⟨_, hx⟩ (exo_ok hx)
  have same : upd H a (exo a C none) = H := funext fun b => by
    by_cases hb : b = a
    · rw [hb, upd_same, e]
    · rw [upd_ne hb]
  rw [same] at J
  exact post _ J
end
section
variable {X : Cx} {e : Expr} {es : List Expr} {ta : TA} {p p1 p2 pos : Pos} {B Bn nid iid inN : String} {bmB bmN : List Value} {x : Str}
/-- Base.__init__(self, ..) -/
theorem pe_bi {pl : Sem Bool} (FB : InitF B iid bmB) (hg : Gl X x) (hm : X.mg x = none) (hv : bootBuiltins x = some (.type B)) (ty : typeOf (.type B) = pure (.type "type"))
    (vV : PySem.W.findCls X.K (.type B) (.type "type") "__init__" = some (.val (.builtin iid))) (hb : PySem.W.handedIn (.builtin iid) = true) (hst : Manifest.isStub B = false) (ha : PA X (e :: es) ta)
    (hc : eval (.Call (.Attribute (.Name x p1) "__init__" p2) (e :: es) [] pos) X.env = (do
      let ov ← eval (.Name x p1) X.env
      standAt p2.atName
      let (f, first) ← holding [ov] (getMethod ov "__init__" pl)
      callWith pos f first (backTo pos (starEach (e :: es) X.env)) (backToKw pos (keywordEach [] X.env))) := by rfl)
    (hn : x ≠ "__name__" := by decide) (hd : (x == ("__debug__" : Str)) = false := by decide)
    (he : starEach (e :: es) X.env = (false, eval e X.env) :: starEach es X.env := by rfl) (hpl : (backTo pos (starEach es X.env)).any (·.1) = false := by rfl) :
    PE X (.Call (.Attribute (.Name x p1) "__init__" p2) (e :: es) [] pos) (GX.tBi X.K bmB nid ta) := by
  refine ⟨fun pins s σ H Q I h => ?_⟩
  refine PySem.W.methodCall_KW (ld_blt I hg hm hv ?_ hn hd) hc
  obtain ⟨m, fr⟩ := I.fr
  refine PySem.W.method_type fr I.ok.mod.kin ty hst vV hb ?_
  show wpAny _ _ (callWith pos (Value.builtin iid) [] (backTo pos (starEach (e :: es) X.env)) []) _ _ _
  refine PyProof.Rows.callWith_method1 (thn (ha.run pos pins _ σ H _ (I.tok _) h) fun us s1 hh => ?_) he hpl
  obtain ⟨vs, H1, I1, r1, a, C, ws, ev, hl, T, ea, q⟩ := hh
  subst ev
  cases r1 with
  | @cons _ u0 _ ur ra rw' =>
    obtain rfl : u0 = Value.ref a := ra
    have few : ur.length ≤ sizeLine := by
      have := Paired.length rw'
      rw [sizeLine_eq]
      omega
    exact base_init FB T I1 ea few fun s' J => ⟨.non, H1, J, rfl, q⟩
/-- C(e, ..) as what is raised -/
theorem pmk {CX : CXT} {C fI : Addr} {k : Nat} {fd : FuncData} {ps : List Str} {sp : Sp} {ds : List Value} {dvs : List V} (FB : NewF Bn nid inN bmN bmB) (T : GX.Gx X.K C bmB nid) (iC : PySem.W.findIn X.K (.ref C) "__init__" = some (some (.ref fI)))
    (tI : PySem.W.typeIn X.K (.ref fI) = some (.type "function"))
    (F1 : FnOk X.prog X.w X.K X.mg X.base CX k fI fd ps sp) (hr : Room (k + 1) X.A) (hb : Binds X.K fd ps ds) (hd : Vals dvs ds) (hx : Passes CX X (fun _ _ _ => False)) (hg : Gl X x) (hm : X.mg x = some (.ref C)) (ha : PA X (e :: es) ta)
    (hdb : (x == ("__debug__" : Str)) = false := by decide) (he : starEach (e :: es) X.env = (false, eval e X.env) :: starEach es X.env := by rfl) (hpl : (backTo pos (starEach es X.env)).any (·.1) = false := by rfl) :
    PMk X (.Call (.Name x p) (e :: es) [] pos) (tMkO C sp dvs ta) := by
  intro pins s σ H Q I h
  refine wpAny_Call_Name_kw (ld_glob I hg hm ?_ hdb)
  refine PySem.W.callWith_K (h₀ := X.base) I.ok.mod.kin T.keep (thn (ha.run pos pins s σ H _ I h) fun us s1 hh => ?_) he hpl
  obtain ⟨vs, H1, I1, r1, hz, q1⟩ := hh
  refine ⟨I1.kIn, ?_⟩
  show wpAny _ _ (call (.ref C) us) _ _ _
  obtain ⟨nm, N, qn, bs, bm, hdct, sn, sub, ab, col, dd, k0, k1, k2, k3, k5, hC, hT⟩ := PySem.W.excInit_of I1.kIn T.made
  obtain ⟨hp, g, dr, tk, os⟩ := s1
  have big : hp.objs.size ≤ hp.objs.size + 1 := Nat.le_succ _
  have hq := q1 (hp.objs.size + 1) (I1.hok.fresh big)
  have kk : ∀ b o, hp.get? b = some o → ((hp.push (PySem.W.kdv_tup us)).push (excO C hp.objs.size)).get? b = some o := fun b o z => Heap.get?_push_of_some _ (Heap.get?_push_of_some _ z)
  have there : ((hp.push (PySem.W.kdv_tup us)).push (excO C hp.objs.size)).get? (hp.objs.size + 1) = some (excO C hp.objs.size) := by heap_get
  have I2 := I1.laid (t' := tk) (a := hp.objs.size + 1) (o := exo (hp.objs.size + 1) C none) (h' := (hp.push (PySem.W.kdv_tup us)).push (excO C hp.objs.size)) kk big (exo_ok there)
  have r2 : Vals (V.ref (hp.objs.size + 1) :: (vs ++ dvs)) (Value.ref (hp.objs.size + 1) :: (us ++ ds)) := .cons rfl (r1.append hd)
  have hl : (Value.ref (hp.objs.size + 1) :: us ++ ds).length = ps.length := by
    have e1 := r2.length
    rw [F1.len _ _ _ _ hq] at e1
    exact e1.symm
  have few : us.length ≤ sizeLine := by
    have := Paired.length r1
    rw [sizeLine_eq]
    omega
  refine wpAny_call (called FB hT hC (PySem.W.looks_findIn I1.kIn iC) (fun self => PySem.W.bind_fn I1.kIn self tI) few (codeAny_mono
    (F1.run _ X.stack _ _ ⟨Value.ref (hp.objs.size + 1) :: us, []⟩ (Value.ref (hp.objs.size + 1) :: (us ++ ds)) _ _ (fun _ _ _ => False) (hr.make C us []) (I2.env0.make C us []) (hb _ (Value.ref (hp.objs.size + 1) :: us) I2.kIn hl) r2 hq) fun r s' hq' => ?_))
  cases r with
  | error er => exact hx pins σ _ _ er s' I2 hq'
  | ok fl =>
    cases fl with
    | ret u =>
      obtain ⟨v, H2, os2, bare2, un2, hok2, rv, ev, d, fs, ea, ed, hd1, q2⟩ := hq'
      subst ev
      obtain ⟨h2, g2, d2, t2, os'⟩ := s'
      exact ⟨rv, mk_end (raises_own T.base T.typ) I1 big kk un2 hok2 os2 bare2 ea ed hd1 q2⟩
    | next => exact False.elim hq'
    | brk => exact False.elim hq'
    | cont => exact False.elim hq'
end
/-! KeyError -/
theorem initKE : InitF "KeyError" "KeyError.__init__" keT where
  entry := excClass_KeyError.initEntry
  split := by decide +kernel
  kind := by decide +kernel
  row := by kernel_rfl
  star := by decide +kernel
  has := by decide +kernel
  init := excClass_KeyError.init
theorem newKE : NewF "LookupError" "LookupError.__new__" "LookupError.__init__" [.type "LookupError", .type "Exception", .type "BaseException", .type "object"] keT where
  base := PySem.F.excBase_LookupError
  has := by decide +kernel
  noA := by decide +kernel
  noN := by decide +kernel
theorem storeKE : StoreFacts "KeyError" keT "object.__setattr__" "object" where
  mro := by kernel_rfl
  slot := .of (owner := "object") (n := "__setattr__") (by rw [typeLookup_type, builtinLookup_eq_fast]; kernel_rfl) (by decide +kernel) (by decide +kernel) (by decide +kernel) (by first | exact .inl (by decide +kernel) | exact .inr (by decide +kernel)) (by rw [isSubtype_type]; kernel_rfl)
  entry := PySem.F.store_ZeroDivisionError.entry
  kind := by decide +kernel
  split := by decide +kernel
  hasOwner := by decide +kernel
  args := fun a b c => by unfold argsOk; kernel_rfl
  passes := fun self => by kernel_rfl
theorem typKE : typeOf (.type "KeyError") = pure (.type "type") := by kernel_rfl
end GXK
set_option Elab.async false
set_option linter.all false
set_option maxRecDepth 100000
set_option maxHeartbeats 0
namespace K48
open PySem PySem.Spec PyProof.Rows L2
def fa : List He.Fa := [.glo "is_whole", .glo "common_part", .glo "same_share", .glo "total", .glo "check_even", .glo "joined", .glo "turned", .glo "wanted", .glo "search", .glo "evened", .glo "why_uneven", .glo "soonest", .glo "shows_uneven", .glo "_law_held", .glo "_law_draw", .glo "_law_names", .glo "_law_low", .glo "_law_add", .glo "_law_pair", .glo "_law_kinds", .glo "_law_bases", .glo "_law_coming", .glo "_law_wants", .glo "_law_shares", .glo "_law_standing", .glo "_law_refused", .glo "law", .free "isinstance", .free "int", .free "bool", .free "abs", .free "list", .free "range", .free "len", .free "repr", .free "sorted", .free "dict", .free "str", .free "tuple", .free "min", .free "zip", .free "TypeError", .free "ZeroDivisionError", .free "ArithmeticError", .free "ValueError", .free "KeyError", .free "LookupError", .free "IndexError", .free "OverflowError", .free "RuntimeError", .free "NotImplementedError", .glo "Share", .cls "Share", .mkr "Share", .glo "NoKind", .glo "Nought", .glo "NoShare", .glo "Uneven", .glo "BadName", .glo "NoNumber", .glo "NoRide", .glo "NoText", .glo "NoName", .glo "NoDay", .glo "NoSeats", .glo "TooMany", .glo "Taken", .glo "NoRule", .glo "NothingDone", .glo "NoRow", .noat "Share" "top", .noat "Share" "bottom", .noat "Uneven" "rest", .meth "Share" "plus", .meth "Share" "less", .meth "Uneven" "__init__"]
abbrev R : PySem.W.OpenRow := PySem.W.OpenLaw.row PySem.Challenge.rw_rideturns_k48_drives_wanted
abbrev loose : List Str := [("_wall" : Str), ("NoKind" : Str), ("Nought" : Str), ("NoShare" : Str), ("Uneven" : Str), ("BadName" : Str), ("NoNumber" : Str), ("NoRide" : Str), ("NoText" : Str), ("NoName" : Str), ("NoDay" : Str), ("NoSeats" : Str), ("TooMany" : Str), ("Taken" : Str), ("NoRule" : Str), ("NothingDone" : Str), ("NoRow" : Str), ("is_whole" : Str), ("common_part" : Str), ("Share" : Str), ("same_share" : Str), ("total" : Str), ("check_even" : Str), ("joined" : Str), ("turned" : Str), ("wanted" : Str), ("slack_share" : Str), ("least_of" : Str), ("most_of" : Str), ("is_parted" : Str), ("drives_given" : Str), ("drives_taken" : Str), ("find_way" : Str), ("pass_along" : Str), ("fill_days" : Str), ("raise_to_leasts" : Str), ("search" : Str), ("evened" : Str), ("why_uneven" : Str), ("soonest" : Str), ("are_rising" : Str), ("are_few" : Str), ("are_crowded" : Str), ("shows_uneven" : Str), ("_law_held" : Str), ("_law_draw" : Str), ("_law_names" : Str), ("_law_low" : Str), ("_law_add" : Str), ("_law_pair" : Str), ("_law_kinds" : Str), ("_law_bases" : Str), ("_law_coming" : Str), ("_law_wants" : Str), ("_law_shares" : Str), ("_law_standing" : Str), ("_law_refused" : Str)]

abbrev qe16 : List Str := [("NoKind" : Str), ("Nought" : Str), ("NoShare" : Str), ("Uneven" : Str), ("BadName" : Str), ("NoNumber" : Str), ("NoRide" : Str), ("NoText" : Str), ("NoName" : Str), ("NoDay" : Str), ("NoSeats" : Str), ("TooMany" : Str), ("Taken" : Str), ("NoRule" : Str), ("NothingDone" : Str), ("NoRow" : Str)]
abbrev qe10 : List String := ["TypeError", "ZeroDivisionError", "ArithmeticError", "ValueError", "KeyError", "LookupError", "IndexError", "OverflowError", "RuntimeError", "NotImplementedError"]
/-- of one class -/
def xkC (K : PySem.W.Frag) (C : Addr) (bs : List Value) (nid vi : String) (ty : String) (ow : Str → Bool) (ab : String → Bool) : Bool := GX.gxB K C bs nid && (GX.vvB K ty vi && (xfB K C && (decide (PySem.W.exmOne K (.ref C) (.ref C) = some true) && (GX.isB K C &&
  (qe16.all (fun x => decide (PySem.W.kitOne K (.ref C) (.ref (He.ga K x)) = some (ow x))) && qe10.all (fun x => decide (PySem.W.kitOne K (.ref C) (.type x) = some (ab x))))))))
def owU : Str → Bool := fun x => decide (x = "Uneven")
def abU : String → Bool := fun x => x == "ArithmeticError"
def xk1 (K : PySem.W.Frag) : Bool := GX.isB K (He.ga K "Share") && xkC K (He.ga K "Uneven") [.type "ArithmeticError", .type "Exception", .type "BaseException", .type "object"] "ArithmeticError.__new__" "ArithmeticError.__init__" "ArithmeticError" owU abU
def xk (K : PySem.W.Frag) : Bool := (xk1) K
noncomputable def eN (w : World) (os : PySem.OsState) : Option PySem.W.SharedT := HandSHeadRun.endF (HandSHeadRun.stepQ (HandSHeadRun.denQ HandSHeadRun.tabQ) R.prog w) 8000 R.prog w os
abbrev Kf (s : PySem.W.SharedT) : PySem.W.Frag := He.frT (HandSHeadRun.getT s) (He.asD (HandSHeadRun.getT s) 6)
theorem runB (w : World) (os : PySem.OsState) : (eN w os).map (fun s => fa.all fun f => f.ok (Kf s)) = some true := by
  kernel_rfl
section
open PySem.W PySem.Calls
theorem runL (w : World) (os : PySem.OsState) : (eN w os).map (fun s => HandSHeadRun.looksF R.prog (boot_heap w.params) s.abs) = some true := by
  kernel_rfl
end
section
open PySem.W PySem.Calls
theorem runS (w : World) (os : PySem.OsState) : (eN w os).map (fun s => HandSHeadRun.seenQ (PySem.W.view R.prog [64]) loose (importedModules R.prog.main.body) (fun s => xlAt (PySem.W.view R.prog [64]) [] s && recOk R.toRowW.records s) s.abs) = some (openGood (PySem.W.view R.prog [64]) loose) := by
  kernel_rfl
end
theorem runC (w : World) (os : PySem.OsState) : (eN w os).map (fun s => (fn.all fun d => d.ok (Kf s), (xk (Kf s) && He.tabsB (HandSHeadRun.getT s) [] (Kf s)), fn.map fun d => He.fnW (Kf s) d.at_)) = some (true, true, fn.map He.DefD.val) := by
  kernel_rfl
end K48
set_option linter.all false
namespace KM
/-- the signed common part -/
def sg (t b : Int) : Int := if b < 0 then -(Int.gcd t b : Int) else (Int.gcd t b : Int)
/-- a fraction in lowest terms -/
def low (t b : Int) : Int × Int := (t.fdiv (sg t b), b.fdiv (sg t b))
theorem gcd_pos {t b : Int} (h : b ≠ 0) : 0 < Int.gcd t b := Int.gcd_pos_of_ne_zero_right t h
theorem sg_ne {t b : Int} (h : b ≠ 0) : sg t b ≠ 0 := by
  have := gcd_pos (t := t) h
  unfold sg
  split <;> omega
theorem sg_dvd_left (t b : Int) : sg t b ∣ t := by
  unfold sg
  split
  · exact Int.neg_dvd.mpr (Int.gcd_dvd_left ..)
  · exact Int.gcd_dvd_left ..
theorem sg_dvd_right (t b : Int) : sg t b ∣ b := by
  unfold sg
  split
  · exact Int.neg_dvd.mpr (Int.gcd_dvd_right ..)
  · exact Int.gcd_dvd_right ..
theorem low_top {t b : Int} : sg t b * (low t b).1 = t := by
  show sg t b * t.fdiv (sg t b) = t
  rw [Int.fdiv_eq_ediv_of_dvd (sg_dvd_left t b)]
  exact Int.mul_ediv_cancel' (sg_dvd_left t b)
theorem low_bot {t b : Int} : sg t b * (low t b).2 = b := by
  show sg t b * b.fdiv (sg t b) = b
  rw [Int.fdiv_eq_ediv_of_dvd (sg_dvd_right t b)]
  exact Int.mul_ediv_cancel' (sg_dvd_right t b)
theorem sg_abs (t b : Int) : (sg t b).natAbs = Int.gcd t b := by
  unfold sg
  split <;> simp
theorem low_pos {t b : Int} (h : b ≠ 0) : 0 < (low t b).2 := by
  have e := low_bot (t := t) (b := b)
  have g := gcd_pos (t := t) h
  by_cases hb : b < 0
  · have hs : sg t b < 0 := by unfold sg; rw [if_pos hb]; omega
    refine Int.lt_of_not_ge fun hc => ?_
    have := Int.mul_nonneg_of_nonpos_of_nonpos (Int.le_of_lt hs) hc
    omega
  · have hs : 0 < sg t b := by unfold sg; rw [if_neg hb]; omega
    refine Int.lt_of_not_ge fun hc => ?_
    have := Int.mul_nonpos_of_nonneg_of_nonpos (Int.le_of_lt hs) hc
    omega
theorem low_cop {t b : Int} (h : b ≠ 0) : Int.gcd (low t b).1 (low t b).2 = 1 := by
  have e : Int.gcd (sg t b * (low t b).1) (sg t b * (low t b).2) = (sg t b).natAbs * Int.gcd (low t b).1 (low t b).2 := Int.gcd_mul_left ..
  rw [low_top, low_bot, sg_abs] at e
  have g := gcd_pos (t := t) h
  have : Int.gcd t b * Int.gcd (low t b).1 (low t b).2 = Int.gcd t b * 1 := by omega
  exact Nat.eq_of_mul_eq_mul_left g this
theorem low_id {t b : Int} (hb : 0 < b) (h : Int.gcd t b = 1) : low t b = (t, b) := by
  have e : sg t b = 1 := by unfold sg; rw [if_neg (by omega), h]; rfl
  unfold low
  rw [e]
  simp
theorem low_low {t b : Int} (h : b ≠ 0) : low (low t b).1 (low t b).2 = low t b := low_id (low_pos h) (low_cop h)
/-- the bottom stays: nothing is taken out -/
theorem low_same {t b : Int} (hb : 0 < b) (h : (low t b).2 = b) : low t b = (t, b) := by
  have e := low_bot (t := t) (b := b)
  rw [h] at e
  have e1 : sg t b * b = 1 * b := by omega
  have e2 := Int.eq_of_mul_eq_mul_right (Int.ne_of_gt hb) e1
  have e3 := low_top (t := t) (b := b)
  rw [e2] at e3
  refine Prod.ext ?_ h
  show (low t b).1 = t
  omega
theorem dvd_le {x y : Int} (h : x * y ≠ 0) : y.natAbs ≤ (x * y).natAbs := by
  rw [Int.natAbs_mul]
  have : x ≠ 0 := fun z => h (by rw [z, Int.zero_mul])
  exact Nat.le_mul_of_pos_left _ (by omega)
theorem low_top_le {t b : Int} (h : b ≠ 0) : (low t b).1.natAbs ≤ t.natAbs := by
  by_cases ht : t = 0
  · subst ht
    have e := low_top (t := 0) (b := b)
    rcases Int.mul_eq_zero.mp e with z | z
    · exact absurd z (sg_ne h)
    · rw [z]; exact Nat.le_refl _
  · have e := low_top (t := t) (b := b)
    have := dvd_le (x := sg t b) (y := (low t b).1) (by omega)
    rw [e] at this
    exact this
theorem low_bot_le {t b : Int} (h : b ≠ 0) : (low t b).2.natAbs ≤ b.natAbs := by
  have e := low_bot (t := t) (b := b)
  have := dvd_le (x := sg t b) (y := (low t b).2) (by omega)
  rw [e] at this
  exact this
theorem sg_le {t b : Int} (h : b ≠ 0) : (sg t b).natAbs ≤ b.natAbs := by
  have e := low_bot (t := t) (b := b)
  have := dvd_le (x := (low t b).2) (y := sg t b) (by rw [Int.mul_comm]; omega)
  rw [Int.mul_comm, e] at this
  exact this
/-- Euclid's turn over whole numbers from 0 on -/
theorem gcd_turn {a b : Int} (ha : 0 ≤ a) (hb : 0 < b) : Int.gcd b (a % b) = Int.gcd a b := by
  obtain ⟨m, rfl⟩ := Int.eq_ofNat_of_zero_le ha
  obtain ⟨n, rfl⟩ := Int.eq_ofNat_of_zero_le (Int.le_of_lt hb)
  show Nat.gcd (Int.natAbs (n : Int)) (Int.natAbs ((m : Int) % (n : Int))) = Nat.gcd (Int.natAbs (m : Int)) (Int.natAbs (n : Int))
  rw [← Int.natCast_emod, Int.natAbs_natCast, Int.natAbs_natCast, Int.natAbs_natCast, Nat.gcd_comm n, Nat.gcd_comm m n]
  exact (Nat.gcd_rec n m).symm
theorem gcd_succ (a : Int) : Int.gcd a (a + 1) = 1 := by
  have : Int.gcd (a + 1) a = Int.gcd 1 a := by
    rw [Int.add_comm, Int.gcd_add_self_left]
  rw [Int.gcd_comm, this, Int.gcd_comm]
  simp
end KM
set_option Elab.async false
set_option linter.all false
set_option maxRecDepth 100000
set_option maxHeartbeats 4000000
namespace K48
open PySem PySem.Spec PyProof.Rows L2
/-- a def of the text -/
abbrev Dn (K : PySem.W.Frag) (d : He.DefD) (f : Addr) (fd : FuncData) : Prop := FunD K d.name d.qual d.params d.body d.scope (d.dvs K) (d.kws K) f fd
/-- what the module's names are -/
structure Bl (mg : Str → Option Value) : Prop where
  isi : mg "isinstance" = none
  int : mg "int" = none
  bool : mg "bool" = none
  abs : mg "abs" = none
  list : mg "list" = none
  range : mg "range" = none
  len : mg "len" = none
theorem op_fdW {X : Cx} : OpR X (binaryOp .FloorDiv) (rI (fun _ j => j ≠ 0 ∧ j.natAbs.log2 < 9000) fun i j => .int (i.fdiv j)) := opI fun _ _ _ _ _ _ _ hc q => floordiv_int hc.1 q (.inl (PyProof.noPylong_of_log2 hc.2))
/-- the fields of a Share -/
def shF (q : Int × Int) : List (Str × V) := putF "bottom" (.int q.2) (putF "top" (.int q.1) [])
theorem tb : ¬ (("top" : Str) = "bottom") := by decide +kernel
theorem shF_top (q : Int × Int) : (shF q).lookup ("top" : Str) = some (.int q.1) := by
  unfold shF
  rw [lookup_putF, if_neg tb, lookup_putF, if_pos rfl]
theorem shF_bot (q : Int × Int) : (shF q).lookup ("bottom" : Str) = some (.int q.2) := by
  unfold shF
  rw [lookup_putF, if_pos rfl]
theorem shF_no (q : Int × Int) {m : Str} (h1 : ¬ m = "bottom") (h2 : ¬ m = "top") : (shF q).lookup m = none := by
  unfold shF
  rw [lookup_putF, if_neg h1, lookup_putF, if_neg h2]
  all_goals rfl
/-- a Share stands at p -/
def Sh (C : Addr) (H : Hp) (p : Addr) (q : Int × Int) : Prop := ∃ dx, H p = some (.ins C dx (shF q))
/-- small enough, the bottom above nought -/
def Bd (n : Nat) (q : Int × Int) : Prop := q.1.natAbs < 2 ^ n ∧ 0 < q.2 ∧ q.2.natAbs < 2 ^ n
theorem Sh.keep {C : Addr} {H H' : Hp} {p : Addr} {q : Int × Int} (s : Same H H') (h : Sh C H p q) : Sh C H' p q := let ⟨dx, e⟩ := h; ⟨dx, s _ _ e⟩
theorem log_lt {j : Int} {n : Nat} (h : j.natAbs < 2 ^ n) (h0 : 0 < n) (h9 : n ≤ 9000) : j.natAbs.log2 < 9000 := Nat.lt_of_lt_of_le (PySem.Flt.log2_lt_of h0 h) h9
/-- what is known of the class -/
structure Cl (K : PySem.W.Frag) (mg : Str → Option Value) (C : Addr) : Prop where
  cl : Cls K C
  nt : NoAttr K C "top"
  nb : NoAttr K C "bottom"
  g : mg "Share" = some (.ref C)
section
variable {P : Program} {w : World} {K : PySem.W.Frag} {mg : Str → Option Value} {base : Heap} {f C : Addr} {fd : FuncData}

def spWhole : Sp := fun vs H Q _ => ∃ n : Int, vs = [.int n] ∧ Q (.bl true) H
theorem ok_whole (F : Dn K d_is_whole f fd) (b : Bl mg) : FnOk P w K mg base CX0 1 f fd ["thing"] spWhole := by
  refine F.ok sc_is_whole (fun vs H Q E h => ?_) (fun cdv A outer s H vs Q E hr h => ?_)
  · obtain ⟨n, rfl, _⟩ := h
    rfl
  · obtain ⟨n, rfl, hQ⟩ := h
    refine ⟨_, PSs.nox (pss_one (ps_ret (pe_and
      (pe_callB call_isi rfl b.isi boot_isinstance (pa_cons (pv 0) (pa_cons (pe_bltn (v := .ty "int") rfl b.int boot_int rfl) pa_nil)))
      (pe_one (pe_not (pe_callB call_isi rfl b.isi boot_isinstance (pa_cons (pv 0) (pa_cons (pe_bltn (v := .ty "bool") rfl b.bool boot_bool rfl) pa_nil)))))))), ?_⟩
    refine ⟨_, rfl, _, _, _, _, true, rfl, ClsV.ty _, TyX.base (TyOf.int n), kit_ty (by decide +kernel), true, rfl, ?_⟩
    refine iteT ?_
    exact ⟨_, rfl, _, _, _, _, false, rfl, ClsV.ty _, TyX.base (TyOf.int n), kit_ty (by decide +kernel), false, rfl, hQ⟩
def spGcd : Sp := fun vs H Q _ => ∃ x y : Int, vs = [.int x, .int y] ∧ Q (.int (Int.gcd x y : Int)) H
theorem abs_eq (x : Int) : (if x < 0 then -x else x) = (x.natAbs : Int) := by split <;> omega
theorem ok_gcd (F : Dn K d_common_part f fd) (b : Bl mg) : FnOk P w K mg base CX0 1 f fd ["one", "other"] spGcd := by
  refine F.ok sc_common_part (fun vs H Q E h => ?_) (fun cdv A outer s H vs Q E hr h => ?_)
  · obtain ⟨x, y, rfl, _⟩ := h
    rfl
  · obtain ⟨x, y, rfl, hQ⟩ := h
    refine ⟨_, PSs.nox (pss_cons (ps_set (i := 0) sc_common_part.nd rfl (.inl rfl) (pe_callB call_abs rfl b.abs boot_abs (pa_cons (pv 0) pa_nil)))
      (pss_cons (ps_set (i := 1) sc_common_part.nd rfl (.inl rfl) (pe_callB call_abs rfl b.abs boot_abs (pa_cons (pv 1) pa_nil)))
      (pss_cons (ps_while PassesOwn.never (pt_cmpR op_ne (pv 1) pe_int (nomark _)) (pss_one (ps_par (i := 0) (j := 1) rfl sc_common_part.nd rfl rfl (by decide) rfl rfl (pa_cons (pv 1) (pa_cons (pe_op op_mod (pv 0) (pv 1)) pa_nil)) rfl)))
      (pss_one (ps_ret (pv 0)))))), ?_⟩
    refine ⟨_, rfl, _, rfl, _, rfl, _, rfl, while_by (fun σ H2 => H2 = H ∧ ∃ a c : Int, σ = [some (.int a), some (.int c)] ∧ 0 ≤ a ∧ 0 ≤ c ∧ Int.gcd a c = Int.gcd x y)
      (fun σ _ => match σ with | [_, some (.int c)] => c.toNat | _ => 0) ⟨rfl, _, _, rfl, ?_, ?_, ?_⟩ ?_ ?_⟩
    · split <;> omega
    · split <;> omega
    · rw [abs_eq, abs_eq]
      rfl
    · rintro σ H2 ⟨rfl, a, c, rfl, ha, hc, hg⟩
      refine ⟨_, rfl, rfl, _, rfl, ?_⟩
      by_cases h0 : c = 0
      · subst h0
        refine iteNS rfl ?_
        refine ⟨_, rfl, ?_⟩
        have e : Int.gcd x y = a.natAbs := by rw [← hg]; simp
        have e2 : (Int.gcd x y : Int) = a := by omega
        rw [e2] at hQ
        exact hQ
      · have hne : (!decide (V.int c = V.int 0)) = true := by simp [h0]
        rw [hne]
        refine iteT ?_
        have hp : 0 < c := by omega
        refine ⟨_, rfl, _, rfl, _, rfl, _, _, rfl, rfl, hp, _, _, rfl, ⟨rfl, _, _, rfl, hc, Int.emod_nonneg _ h0, ?_⟩, ?_⟩
        · rw [KM.gcd_turn ha hp, hg]
        · show (a % c).toNat < c.toNat
          have h1 := Int.emod_nonneg a h0
          have h2 := Int.emod_lt_of_pos a hp
          omega
    · rintro σ H2 Q1 Q2 hm ⟨v, hv, h1, k, hk, q⟩
      exact ⟨v, hv, h1, k, hk, hm _ _ q⟩
end
end K48
set_option Elab.async false
set_option linter.all false
set_option maxRecDepth 100000
set_option maxHeartbeats 4000000
namespace K48
open PySem PySem.Spec PyProof.Rows L2
open C8 (Cal Mak Met pe_c pe_mk pe_mt pe_mt0)
section
variable {P : Program} {w : World} {K : PySem.W.Frag} {mg : Str → Option Value} {base : Heap} {f C : Addr} {fd : FuncData}
abbrev CalW (P : Program) (w : World) (K : PySem.W.Frag) (mg : Str → Option Value) (base : Heap) : Prop := Cal P w K mg base 1 "is_whole" spWhole []
abbrev CalG (P : Program) (w : World) (K : PySem.W.Frag) (mg : Str → Option Value) (base : Heap) : Prop := Cal P w K mg base 1 "common_part" spGcd []
/-- __init__: a Share in lowest terms -/
def spInit (C : Addr) : Sp := fun vs H Q _ => ∃ (p dx : Addr) (t b : Int) (n : Nat), vs = [.ref p, .int t, .int b] ∧ b ≠ 0 ∧ b.natAbs < 2 ^ n ∧ 0 < n ∧ n ≤ 9000 ∧ H p = some (.ins C dx []) ∧
  ∀ H', (∀ a o, a ≠ p → H a = some o → H' a = some o) → H' p = some (.ins C dx (shF (KM.low t b))) → Q .non H'
theorem ok_init (F : Dn K d_Share_init f fd) (cW : CalW P w K mg base) (cG : CalG P w K mg base) (T : Cl K mg C) : FnOk P w K mg base CX0 2 f fd ["self", "top", "bottom"] (spInit C) := by
  refine F.ok sc_Share_init (fun vs H Q E h => ?_) (fun cdv A outer s H vs Q E hr h => ?_)
  · obtain ⟨p, dx, t, b, n, rfl, _⟩ := h
    rfl
  · obtain ⟨p, dx, t, b, n, rfl, hb, hn, hn0, hn9, hp, hQ⟩ := h
    refine ⟨_, PSs.nox (pss_cons (ps_for PassesOwn.never rfl (pi_tup (pe_tup (pa_cons (pv 1) (pa_cons (pv 2) pa_nil)))) (pg_name (i := 3) sc_Share_init.nd rfl (.inl rfl))
        (pss_one (ps_if (pt_not (pt_val (pe_c cW hr (by decide) rfl (pa_cons (pv 3) pa_nil)))) pss_never pss_nil)))
      (pss_cons (ps_if (pt_cmpR op_eq (pv 2) pe_int (nomark _)) pss_never pss_nil)
      (pss_cons (ps_set (i := 4) sc_Share_init.nd rfl (.inl rfl) (pe_c cG hr (by decide) rfl (pa_cons (pv 1) (pa_cons (pv 2) pa_nil))))
      (pss_cons (ps_if (pt_cmpR op_lt (pv 2) pe_int (nomark _)) (pss_one (ps_set (i := 4) sc_Share_init.nd rfl (.inl rfl) (pe_un un_neg (pv 4)))) pss_nil)
      (pss_cons (ps_fld (pv 0) (pe_op op_fdW (pv 1) (pv 4)) rfl)
      (pss_one (ps_fld (pv 0) (pe_op op_fdW (pv 2) (pv 4)) rfl))))))), ?_⟩
    refine ⟨_, rfl, _, rfl, by show 2 ≤ sizeLine; decide, fun u hu => ?_⟩
    have npu : p ≠ u := ne_of_none hp hu
    refine ⟨u, rfl, ⟨_, SqT.of upd_same⟩, for_tup (K := K) (xs := [.int t, .int b]) (fun i σ H2 => H2 = upd H u (.tup [.int t, .int b]) ∧ ∃ v, σ = [some (.ref p), some (.int t), some (.int b), v, none])
      ⟨rfl, none, rfl⟩ (fun i σ H2 _ h => by rw [h.1]; exact SqT.of upd_same) ?_ ?_⟩
    · rintro i y σ H2 hi ⟨rfl, v, rfl⟩
      have hy : ∃ n : Int, y = .int n := by
        match i, hi with
        | 0, e => exact ⟨t, (Option.some.inj e).symm⟩
        | 1, e => exact ⟨b, (Option.some.inj e).symm⟩
      obtain ⟨n, rfl⟩ := hy
      refine ⟨_, rfl, n, rfl, true, rfl, ?_⟩
      refine iteF ?_
      exact ⟨rfl, _, rfl⟩
    · rintro σ H2 ⟨rfl, v, rfl⟩
      refine ⟨_, rfl, rfl, _, rfl, ?_⟩
      have hb0 : decide (V.int b = V.int 0) = false := by simp [hb]
      rw [hb0]
      refine iteF ?_
      refine ⟨_, rfl, _, rfl, t, b, rfl, ?_⟩
      refine ⟨_, rfl, _, _, rfl, rfl, _, rfl, ?_⟩
      have hs9 : (KM.sg t b).natAbs.log2 < 9000 := log_lt (Nat.lt_of_le_of_lt (KM.sg_le hb) hn) hn0 hn9
      have fin : ∀ c : Int, c = KM.sg t b → ∀ v, tSeq (sFld K (tVar 0) (tOp (rI (fun _ j => j ≠ 0 ∧ j.natAbs.log2 < 9000) fun i j => .int (i.fdiv j)) (tVar 1) (tVar 4)) "top") (sFld K (tVar 0) (tOp (rI (fun _ j => j ≠ 0 ∧ j.natAbs.log2 < 9000) fun i j => .int (i.fdiv j)) (tVar 2) (tVar 4)) "bottom")
          { nx := fun _ H' => Q .non H', rt := Q } [some (.ref p), some (.int t), some (.int b), v, some (.int c)] (upd H u (.tup [.int t, .int b])) := by
        rintro c rfl v
        refine ⟨_, rfl, _, rfl, _, _, rfl, rfl, ⟨KM.sg_ne hb, hs9⟩, _, rfl, p, C, dx, _, rfl, (by rw [upd_ne npu]; exact hp), T.cl, T.nt, (by show 0 < 1000; decide), ?_⟩
        refine ⟨_, rfl, _, rfl, _, _, rfl, rfl, ⟨KM.sg_ne hb, hs9⟩, _, rfl, p, C, dx, _, rfl, upd_same, T.cl, T.nb, (by show 1 < 1000; decide), ?_⟩
        refine hQ _ (fun a o ha e => ?_) upd_same
        rw [upd_ne ha, upd_ne ha, upd_ne (ne_of_none e hu)]
        exact e
      refine ite2 (fun h => ?_) (fun h => ?_)
      · have h' : b < 0 := of_decide_eq_true h
        refine ⟨_, rfl, _, rfl, ?_⟩
        exact fin _ (by unfold KM.sg; rw [if_pos h']) _
      · have h' : ¬ b < 0 := fun z => h (decide_eq_true z)
        exact fin _ (by unfold KM.sg; rw [if_neg h']) _
end
end K48
set_option Elab.async false
set_option linter.all false
set_option maxRecDepth 100000
set_option maxHeartbeats 4000000
namespace K48
open PySem PySem.Spec PyProof.Rows L2
open C8 (Cal Mak Met pe_c pe_mk pe_mt pe_mt0)
section
variable {P : Program} {w : World} {K : PySem.W.Frag} {mg : Str → Option Value} {base : Heap} {f C : Addr} {fd : FuncData}
abbrev MakS (P : Program) (w : World) (K : PySem.W.Frag) (mg : Str → Option Value) (base : Heap) (C : Addr) : Prop := Mak P w K mg base 2 "Share" C (spInit C) []
/-- Share(t, b): what is left to show -/
theorem mk_at {H1 : Hp} {t b : Int} {n : Nat} {Q : VK} (hb : b ≠ 0) (hn : b.natAbs < 2 ^ n) (hn0 : 0 < n) (hn9 : n ≤ 9000)
    (hQ : ∀ r H', Same H1 H' → H1 r = none → Sh C H' r (KM.low t b) → Q (.ref r) H') :
    ∀ x dx, H1 x = none → H1 dx = none → dx ≠ x → spInit C (.ref x :: ([V.int t, V.int b] ++ [])) (upd (upd H1 dx (.own x)) x (.ins C dx [])) (fun v H2 => v = .non ∧ Q (.ref x) H2) E0 := by
  intro x dx nx nd ne
  refine ⟨x, dx, t, b, n, rfl, hb, hn, hn0, hn9, upd_same, fun H' kp hp => ⟨rfl, hQ x H' (fun a o e => ?_) nx ⟨dx, hp⟩⟩⟩
  refine kp a o (ne_of_none e nx) ?_
  rw [upd_ne (ne_of_none e nx), upd_ne (ne_of_none e nd)]
  exact e
theorem mul_pos_ne {a b : Int} (ha : 0 < a) (hb : 0 < b) : a * b ≠ 0 := fun z => by
  have := Int.mul_pos ha hb
  omega
def two (n : Nat) (a b : Int × Int) : Prop := Bd n a ∧ Bd n b ∧ 0 < n ∧ n ≤ 4000

def sp_plus (C : Addr) : Sp := fun vs H Q _ => ∃ (p q : Addr) (a b : Int × Int) (n : Nat), vs = [.ref p, .ref q] ∧ Sh C H p a ∧ Sh C H q b ∧ two n a b ∧
  ∀ r H', Same H H' → H r = none → Sh C H' r (KM.low (a.1 * b.2 + b.1 * a.2) (a.2 * b.2)) → Q (.ref r) H'
theorem ok_plus (F : Dn K d_Share_plus f fd) (M : MakS P w K mg base C) (T : Cl K mg C) : FnOk P w K mg base CX0 4 f fd ["self", "other"] (sp_plus C) := by
  refine F.ok sc_Share_plus (fun vs H Q E h => ?_) (fun cdv A outer s H vs Q E hr h => ?_)
  · obtain ⟨p, q, a, b, n, rfl, _⟩ := h
    rfl
  · obtain ⟨p, q, a, b, n, rfl, ⟨dp, hp⟩, ⟨dq, hq⟩, ⟨ba, bb, hn0, hn9⟩, hQ⟩ := h
    refine ⟨_, PSs.nox (pss_one (ps_ret (pe_mk M hr (by decide) rfl (pa_cons (pe_op op_add (pe_op op_mulW (pe_fld (pv 0) rfl) (pe_fld (pv 1) rfl)) (pe_op op_mulW (pe_fld (pv 1) rfl) (pe_fld (pv 0) rfl)))
      (pa_cons (pe_op op_mulW (pe_fld (pv 0) rfl) (pe_fld (pv 1) rfl)) pa_nil))))), ?_⟩
    refine ⟨_, rfl, p, C, dp, _, _, rfl, hp, T.cl, T.nt, shF_top a, _, rfl, q, C, dq, _, _, rfl, hq, T.cl, T.nb, shF_bot b, _, _, rfl, rfl, wide_mul ba.1 bb.2.2 hn0 hn0 (by omega), ?_⟩
    refine ⟨_, rfl, q, C, dq, _, _, rfl, hq, T.cl, T.nt, shF_top b, _, rfl, p, C, dp, _, _, rfl, hp, T.cl, T.nb, shF_bot a, _, _, rfl, rfl, wide_mul bb.1 ba.2.2 hn0 hn0 (by omega), _, _, rfl, rfl, ?_⟩
    refine ⟨_, rfl, p, C, dp, _, _, rfl, hp, T.cl, T.nb, shF_bot a, _, rfl, q, C, dq, _, _, rfl, hq, T.cl, T.nb, shF_bot b, _, _, rfl, rfl, wide_mul ba.2.2 bb.2.2 hn0 hn0 (by omega), ?_⟩
    exact mk_at (n := n + n) (mul_pos_ne ba.2.1 bb.2.1) (wide_lt ba.2.2 bb.2.2) (by omega) (by omega) hQ

def sp_less (C : Addr) : Sp := fun vs H Q _ => ∃ (p q : Addr) (a b : Int × Int) (n : Nat), vs = [.ref p, .ref q] ∧ Sh C H p a ∧ Sh C H q b ∧ two n a b ∧
  ∀ r H', Same H H' → H r = none → Sh C H' r (KM.low (a.1 * b.2 - b.1 * a.2) (a.2 * b.2)) → Q (.ref r) H'
theorem ok_less (F : Dn K d_Share_less f fd) (M : MakS P w K mg base C) (T : Cl K mg C) : FnOk P w K mg base CX0 4 f fd ["self", "other"] (sp_less C) := by
  refine F.ok sc_Share_less (fun vs H Q E h => ?_) (fun cdv A outer s H vs Q E hr h => ?_)
  · obtain ⟨p, q, a, b, n, rfl, _⟩ := h
    rfl
  · obtain ⟨p, q, a, b, n, rfl, ⟨dp, hp⟩, ⟨dq, hq⟩, ⟨ba, bb, hn0, hn9⟩, hQ⟩ := h
    refine ⟨_, PSs.nox (pss_one (ps_ret (pe_mk M hr (by decide) rfl (pa_cons (pe_op op_sub (pe_op op_mulW (pe_fld (pv 0) rfl) (pe_fld (pv 1) rfl)) (pe_op op_mulW (pe_fld (pv 1) rfl) (pe_fld (pv 0) rfl)))
      (pa_cons (pe_op op_mulW (pe_fld (pv 0) rfl) (pe_fld (pv 1) rfl)) pa_nil))))), ?_⟩
    refine ⟨_, rfl, p, C, dp, _, _, rfl, hp, T.cl, T.nt, shF_top a, _, rfl, q, C, dq, _, _, rfl, hq, T.cl, T.nb, shF_bot b, _, _, rfl, rfl, wide_mul ba.1 bb.2.2 hn0 hn0 (by omega), ?_⟩
    refine ⟨_, rfl, q, C, dq, _, _, rfl, hq, T.cl, T.nt, shF_top b, _, rfl, p, C, dp, _, _, rfl, hp, T.cl, T.nb, shF_bot a, _, _, rfl, rfl, wide_mul bb.1 ba.2.2 hn0 hn0 (by omega), _, _, rfl, rfl, ?_⟩
    refine ⟨_, rfl, p, C, dp, _, _, rfl, hp, T.cl, T.nb, shF_bot a, _, rfl, q, C, dq, _, _, rfl, hq, T.cl, T.nb, shF_bot b, _, _, rfl, rfl, wide_mul ba.2.2 bb.2.2 hn0 hn0 (by omega), ?_⟩
    exact mk_at (n := n + n) (mul_pos_ne ba.2.1 bb.2.1) (wide_lt ba.2.2 bb.2.2) (by omega) (by omega) hQ
end
end K48
set_option Elab.async false
set_option linter.all false
set_option maxRecDepth 100000
set_option maxHeartbeats 4000000
namespace K48
open PySem PySem.Spec PyProof.Rows L2
open C8 (Cal Mak Met pe_c pe_mk pe_mt pe_mt0)
/-- the held dict's pairs -/
def hd0 (l : Addr) (n m : Int) : List (Key × V) := [(Sum.inr "cells", .ref l), (Sum.inr "at", .int n), (Sum.inr "left", .int m)]
theorem hd_cells (l : Addr) (n m : Int) : valV (hd0 l n m) (Sum.inr "cells") = some (.ref l) := valV_pos rfl
theorem k1 : ¬ (("cells" : Str) = "at") := by decide +kernel
theorem k2 : ¬ (("cells" : Str) = "left") := by decide +kernel
theorem k3 : ¬ (("at" : Str) = "left") := by decide +kernel
theorem k1' : ¬ (("at" : Str) = "cells") := by decide +kernel
theorem k3' : ¬ (("left" : Str) = "at") := by decide +kernel
theorem inr_ne {x y : Str} (h : ¬ x = y) : ¬ ((Sum.inr x : Key) = Sum.inr y) := fun z => h (Sum.inr.inj z)
theorem hd_at (l : Addr) (n m : Int) : valV (hd0 l n m) (Sum.inr "at") = some (.int n) := (valV_neg (inr_ne k1)).trans (valV_pos rfl)
theorem hd_left (l : Addr) (n m : Int) : valV (hd0 l n m) (Sum.inr "left") = some (.int m) := (valV_neg (inr_ne k2)).trans ((valV_neg (inr_ne k3)).trans (valV_pos rfl))
theorem put_at (l : Addr) (n m k : Int) : putK (hd0 l n m) (Sum.inr "at") (.int k) = hd0 l k m := by
  unfold putK hd0
  simp [k1, k3']
theorem put_left (l : Addr) (n m k : Int) : putK (hd0 l n m) (Sum.inr "left") (.int k) = hd0 l n k := by
  unfold putK hd0
  simp [k2, k3]
theorem hd_merge (l : Addr) (n m : Int) : mergeK [] (hd0 l n m) = hd0 l n m := by
  simp [mergeK, hd0, putK, k1, k2, k3]
/-- the held dict at h, good for c draws more -/
def Held (H : Hp) (h : Addr) (c : Nat) : Prop := ∃ (l : Addr) (ns : List Int) (n m : Int), H h = some (.dK (hd0 l n m)) ∧ H l = some (.lst (ns.map V.int)) ∧ 0 ≤ n ∧ n + c ≤ 1000000000
theorem Held.weak {H : Hp} {h : Addr} {c c' : Nat} (hc : c' ≤ c) (x : Held H h c) : Held H h c' := by
  obtain ⟨l, ns, n, m, h1, h2, h3, h4⟩ := x
  exact ⟨l, ns, n, m, h1, h2, h3, by omega⟩
/-- all but h is kept -/
def Kp (h : Addr) (H H' : Hp) : Prop := (∀ b o, H b = some o → b ≠ h → H' b = some o) ∧ ∀ l n m, H h = some (.dK (hd0 l n m)) → ∃ n' m', H' h = some (.dK (hd0 l n' m'))
theorem Kp.refl (h : Addr) (H : Hp) : Kp h H H := ⟨fun _ _ e _ => e, fun _ n m e => ⟨n, m, e⟩⟩
theorem Kp.trans {h : Addr} {H H1 H2 : Hp} (a : Kp h H H1) (b : Kp h H1 H2) : Kp h H H2 := ⟨fun c o e n => b.1 c o (a.1 c o e n) n, fun l n m e => let ⟨n', m', e'⟩ := a.2 l n m e; b.2 l n' m' e'⟩
theorem Kp.same {h : Addr} {H H1 : Hp} (a : Same H H1) : Kp h H H1 := ⟨fun c o e _ => a c o e, fun _ n m e => ⟨n, m, a _ _ e⟩⟩
theorem hd_inj {l l' : Addr} {n m n' m' : Int} (h : HO.dK (hd0 l n m) = HO.dK (hd0 l' n' m')) : l = l' := by
  injection h with h
  injection h with h _
  injection h with _ h
  injection h
/-- the held dict put anew -/
theorem Kp.put {h l : Addr} {H : Hp} {n m : Int} (n' m' : Int) (e : H h = some (.dK (hd0 l n m))) : Kp h H (upd H h (.dK (hd0 l n' m'))) := by
  refine ⟨fun c o z ne => by rw [upd_ne ne]; exact z, fun l' n1 m1 z => ⟨n', m', ?_⟩⟩
  rw [upd_same, hd_inj (Option.some.inj (z.symm.trans e))]
theorem Held.same {H H' : Hp} {h : Addr} {c : Nat} (s : Same H H') (x : Held H h c) : Held H' h c := by
  obtain ⟨l, ns, n, m, h1, h2, h3, h4⟩ := x
  exact ⟨l, ns, n, m, s _ _ h1, s _ _ h2, h3, h4⟩
theorem same_new {H : Hp} {p : Addr} {o : HO} (h : H p = none) : Same H (upd H p o) := fun a u e => by
  rw [upd_ne (ne_of_none e h)]
  exact e
theorem dpInts {K : PySem.W.Frag} {H : Hp} : ∀ ns : List Int, DpAll K H (ns.map V.int) (ns.map PyData.int)
  | [] => .nil
  | n :: ns => .cons (.int n) (dpInts ns)
section
variable {P : Program} {w : World} {K : PySem.W.Frag} {mg : Str → Option Value} {base : Heap} {f C : Addr} {fd : FuncData}
def spHeld (K : PySem.W.Frag) : Sp := fun vs H Q _ => ∃ (a : Addr) (ns : List Int), vs = [.ref a] ∧ SqL K H a (ns.map V.int) ∧ ns.length ≤ 63 ∧ ∀ h H', Same H H' → H h = none → Held H' h 900000000 → Q (.ref h) H'
theorem ok_held (F : Dn K d_l_held f fd) (b : Bl mg) : FnOk P w K mg base CX0 1 f fd ["_law_script"] (spHeld K) := by
  refine F.ok sc_l_held (fun vs H Q E h => ?_) (fun cdv A outer s H vs Q E hr h => ?_)
  · obtain ⟨a, ns, rfl, _⟩ := h
    rfl
  · obtain ⟨a, ns, rfl, hS, hlen, hQ⟩ := h
    refine ⟨_, PSs.nox (pss_one (ps_ret (pe_disp (pps_cons pe_str (pe_callTy call_list_of rfl b.list boot_list (pa_cons (pe_slice sl_list (pv 0) po_none (po_some pe_int)) pa_nil)) (pps_cons pe_str pe_int (pps_cons pe_str pe_int pps_nil))) rfl rfl (by simp) (by decide)))), ?_⟩
    intro h hh
    have sS : SqL K (upd H h (.dK [])) a (ns.map V.int) := (same_new hh).seq hS
    refine ⟨_, rfl, 63, rfl, a, _, rfl, sS, fun p hp => ⟨p, _, rfl, Or.inl (SqL.of upd_same), fun l hl => ?_⟩⟩
    have nhp : h ≠ p := ne_of_none upd_same hp
    have nhl : h ≠ l := ne_of_none (by rw [upd_ne nhp]; exact upd_same) hl
    refine ⟨by rw [upd_ne nhl, upd_ne nhp, upd_same], hd0 l 0 0, rfl, by show 3 ≤ 15; decide, ?_⟩
    have e : cutV (ns.map V.int) none (some 63) = (ns.take 63).map V.int := by
      unfold cutV
      simp [HT.sIx, List.map_take]
    refine hQ h _ (fun c o z => ?_) hh ⟨l, ns.take 63, 0, 0, ?_, ?_, by decide, by decide⟩
    · have z1 : c ≠ h := ne_of_none z hh
      have z2 : (upd H h (.dK [])) c = some o := by rw [upd_ne z1]; exact z
      have z3 : c ≠ p := ne_of_none z2 hp
      have z4 : c ≠ l := ne_of_none (by rw [upd_ne z3]; exact z2) hl
      rw [upd_ne z1, upd_ne z4, upd_ne z3]
      exact z2
    · rw [upd_same, hd_merge]
    · rw [upd_ne nhl.symm, upd_same, ← e]

def spDraw : Sp := fun vs H Q _ => ∃ (h : Addr) (c : Nat) (k : Int), vs = [.ref h, .int k] ∧ Held H h (c + 1) ∧ 0 < k ∧ k < 1073741824 ∧
  ∀ r H', 0 ≤ r → r < k → Held H' h c → Kp h H H' → Q (.int r) H'
theorem cb_l {i j : Int} (h1 : -(2 ^ 64) < i) (h2 : i < 2 ^ 64) : CMul i j := .inl ⟨h1, h2⟩
theorem cb_r {i j : Int} (h1 : -(2 ^ 64) < j) (h2 : j < 2 ^ 64) : CMul i j := .inr ⟨h1, h2⟩
theorem ok_draw (F : Dn K d_l_draw f fd) (b : Bl mg) : FnOk P w K mg base CX0 1 f fd ["_law_held_here", "_law_many"] spDraw := by
  refine F.ok sc_l_draw (fun vs H Q E h => ?_) (fun cdv A outer s H vs Q E hr h => ?_)
  · obtain ⟨h, c, k, rfl, _⟩ := h
    rfl
  · obtain ⟨h, c, k, rfl, ⟨l, ns, n, m, hh, hl, hn, hc⟩, hk0, hk1, hQ⟩ := h
    have hu := hu_of hr
    have hu64 : (A.deeper (envOfC d_l_draw.qual d_l_draw.scope s.heap.objs.size f cdv)).units + 64 < cLine := by have := hr.un; omega
    have nlh : l ≠ h := ne_of hl hh (by intro z; cases z)
    refine ⟨_, PSs.nox (pss_cons (ps_if (pt_cmpR op_gt (pe_dget hu (pv 0) pe_str (fun _ _ => rfl)) pe_int (nomark _))
         (pss_cons (ps_set (i := 2) sc_l_draw.nd rfl (.inl rfl) (pe_op op_mod (pe_dget hu (pv 0) pe_str (fun _ _ => rfl)) (pv 1)))
         (pss_cons (ps_dput hu (pv 0) pe_str (pe_op op_fdiv (pe_dget hu (pv 0) pe_str (fun _ _ => rfl)) (pv 1)) rfl)
         (pss_one (ps_ret (pv 2))))) pss_nil)
      (pss_cons (ps_set (i := 3) sc_l_draw.nd rfl (.inl rfl) (pe_dget hu (pv 0) pe_str (fun _ _ => rfl)))
      (pss_cons (ps_dput hu (pv 0) pe_str (pe_op op_add (pv 3) pe_int) rfl)
      (C8.pss_cut (ps_set (i := 4) sc_l_draw.nd rfl (.inl rfl) (pe_ifExp (pt_cmpR (op_neD hu64) (pe_dget hu (pv 0) pe_str (fun _ _ => rfl)) (pe_lst pa_nil) (nomark _))
        (pe_ix ix_list (pe_dget hu (pv 0) pe_str (fun _ _ => rfl)) (pe_op op_mod (pv 3) (pe_callB call_len_seq rfl b.len boot_len (pa_cons (pe_dget hu (pv 0) pe_str (fun _ _ => rfl)) pa_nil))) (fun _ _ => rfl)) pe_int))
      (pss_cons (ps_if (PW.pt (pw_and (pt_cmpR op_ge (pv 4) (pe_op op_pow pe_int pe_int) (nomark _)) (pw_and1 (pt_cmpR op_lt (pv 3) (pe_callB call_len_seq rfl b.len boot_len (pa_cons (pe_dget hu (pv 0) pe_str (fun _ _ => rfl)) pa_nil)) (nomark _)))))
         (pss_cons (ps_dput hu (pv 0) pe_str (pe_op op_fdiv (pe_op op_sub (pv 4) (pe_op op_pow pe_int pe_int)) (pv 1)) rfl)
         (pss_one (ps_ret (pe_op op_mod (pe_op op_sub (pv 4) (pe_op op_pow pe_int pe_int)) (pv 1))))) pss_nil)
      (pss_cons (ps_set (i := 5) sc_l_draw.nd rfl (.inl rfl) (pe_op op_mod (pe_op op_add (pe_op op_add (pe_op op_add (pe_op op_mul (pe_op op_mod (pv 4) pe_int) pe_int) (pe_op op_mul (pe_op op_mul pe_int (pv 3)) (pv 3))) (pe_op op_mul pe_int (pv 3))) pe_int) pe_int))
      (pss_cons (ps_set (i := 5) sc_l_draw.nd rfl (.inl rfl) (pe_op op_mod (pe_op op_add (pe_op op_add (pe_op op_mul (pv 5) pe_int) (pe_op op_fdiv (pv 5) pe_int)) pe_int) pe_int))
      (pss_one (ps_ret (pe_op op_mod (pe_op op_fdiv (pv 5) pe_int) (pv 1))))))))))), ?_⟩
    have cM : ∀ x y : Int, 0 < y → (0 ≤ x % y ∧ x % y < y) := fun x y hy => ⟨Int.emod_nonneg _ (by omega), Int.emod_lt_of_pos _ hy⟩
    refine ⟨_, rfl, h, _, rfl, hd_left l n m ▸ DGet.k (k := Sum.inr "left") hh, _, _, rfl, rfl, _, rfl, ?_⟩
    refine ite2 (fun h1 => ?_) (fun h1 => ?_)
    · refine ⟨_, rfl, h, _, rfl, hd_left l n m ▸ DGet.k (k := Sum.inr "left") hh, _, rfl, _, _, rfl, rfl, hk0, ?_⟩
      refine ⟨_, rfl, h, _, rfl, hd_left l n m ▸ DGet.k (k := Sum.inr "left") hh, _, rfl, _, _, rfl, rfl, ⟨hk0, hk1⟩, _, rfl, h, _, rfl, DPut.k (k := Sum.inr "left") hh (by show 3 < sizeLine; decide), ?_⟩
      refine ⟨_, rfl, hQ _ _ (cM _ _ hk0).1 (cM _ _ hk0).2 ⟨l, ns, n, m / k, ?_, ?_, hn, by omega⟩ ?_⟩
      · rw [upd_same, put_left]
      · rw [upd_ne nlh]; exact hl
      · rw [put_left]; exact Kp.put _ _ hh
    · refine ⟨_, rfl, h, _, rfl, hd_at l n m ▸ DGet.k (k := Sum.inr "at") hh, ?_⟩
      refine ⟨_, rfl, _, _, rfl, rfl, _, rfl, h, _, rfl, DPut.k (k := Sum.inr "at") hh (by show 3 < sizeLine; decide), ?_⟩
      rw [put_at]
      have hh1 : (upd H h (.dK (hd0 l (n + 1) m))) h = some (.dK (hd0 l (n + 1) m)) := upd_same
      have hl1 : (upd H h (.dK (hd0 l (n + 1) m))) l = some (.lst (ns.map V.int)) := by rw [upd_ne nlh]; exact hl
      have kp1 : Kp h H (upd H h (.dK (hd0 l (n + 1) m))) := Kp.put _ _ hh
      refine ⟨fun σ' H' => ∃ (cell : Int), σ' = [some (.ref h), some (.int k), none, some (.int n), some (.int cell), none] ∧ H' h = some (.dK (hd0 l (n + 1) m)) ∧ H' l = some (.lst (ns.map V.int)) ∧ Kp h H H', ?_, ?_⟩
      · refine ⟨_, rfl, h, _, rfl, hd_cells l (n + 1) m ▸ DGet.k (k := Sum.inr "cells") hh1, (by show 0 ≤ sizeLine; decide), fun e he => ?_⟩
        have nhe : h ≠ e := ne_of_none hh1 he
        have nle : l ≠ e := ne_of_none hl1 he
        have hh2 : (upd (upd H h (.dK (hd0 l (n + 1) m))) e (.lst [])) h = some (.dK (hd0 l (n + 1) m)) := by rw [upd_ne nhe]; exact hh1
        have hl2 : (upd (upd H h (.dK (hd0 l (n + 1) m))) e (.lst [])) l = some (.lst (ns.map V.int)) := by rw [upd_ne nle]; exact hl1
        have kp2 : Kp h H (upd (upd H h (.dK (hd0 l (n + 1) m))) e (.lst [])) := kp1.trans (Kp.same (same_new he))
        refine ⟨.list (ns.map .int), .list [], Dp.lst (SqL.of hl2) (dpInts ns), Dp.lst (SqL.of upd_same) .nil, PySem.W.ke_shaped_ints ns, by decide, _, rfl, ?_⟩
        cases ns with
        | nil => exact iteF ⟨0, rfl, hh2, hl2, kp2⟩
        | cons z zs =>
          refine iteT ?_
          have hlen : (0 : Int) < (((z :: zs).map V.int).length : Int) := by simp
          refine ⟨_, rfl, h, _, rfl, hd_cells l (n + 1) m ▸ DGet.k (k := Sum.inr "cells") hh2, _, rfl, _, rfl, h, _, rfl, hd_cells l (n + 1) m ▸ DGet.k (k := Sum.inr "cells") hh2, l, _, rfl, Or.inl (SqL.of hl2), _, _, rfl, rfl, hlen, ?_⟩
          obtain ⟨q, hq⟩ := Int.eq_ofNat_of_zero_le (cM n _ hlen).1
          have hq2 := (cM n _ hlen).2
          rw [hq] at hq2
          have hq3 : q < (z :: zs).length := by rw [List.length_map] at hq2; omega
          refine ⟨l, _, _, .int ((z :: zs)[q]), rfl, rfl, SqL.of hl2, (by rw [hq]; exact atI_nat (by rw [List.getElem?_map, List.getElem?_eq_getElem hq3]; rfl)), ?_⟩
          exact ⟨_, rfl, hh2, hl2, kp2⟩
      · rintro σ' H' ⟨cell, rfl, hh2, hl2, kp2⟩
        have stay : ∀ m', Held (upd H' h (.dK (hd0 l (n + 1) m'))) h c := fun m' => ⟨l, ns, n + 1, m', upd_same, by rw [upd_ne nlh]; exact hl2, by omega, by omega⟩
        have stay0 : Held H' h c := ⟨l, ns, n + 1, m, hh2, hl2, by omega, by omega⟩
        have last : ∀ D : Ends, D.rt = Q → tSeq (tAsg (tOp (rI (fun _ j => 0 < j) fun i j => .int (i % j)) (tOp (rI0 fun i j => .int (i + j)) (tOp (rI0 fun i j => .int (i + j)) (tOp (rI0 fun i j => .int (i + j))
            (tOp (rI CMul fun i j => .int (i * j)) (tOp (rI (fun _ j => 0 < j) fun i j => .int (i % j)) (tVar 4) (tC (.int 2147483587))) (tC (.int 40692))) (tOp (rI CMul fun i j => .int (i * j)) (tOp (rI CMul fun i j => .int (i * j)) (tC (.int 7907)) (tVar 3)) (tVar 3)))
            (tOp (rI CMul fun i j => .int (i * j)) (tC (.int 104729)) (tVar 3))) (tC (.int 17))) (tC (.int 2147483629))) (gName 5))
          (tSeq (tAsg (tOp (rI (fun _ j => 0 < j) fun i j => .int (i % j)) (tOp (rI0 fun i j => .int (i + j)) (tOp (rI0 fun i j => .int (i + j)) (tOp (rI CMul fun i j => .int (i * j)) (tVar 5) (tC (.int 48271))) (tOp (rI CDiv fun i j => .int (i / j)) (tVar 5) (tC (.int 127)))) (tC (.int 31))) (tC (.int 2147483647))) (gName 5))
          (tRet (tOp (rI (fun _ j => 0 < j) fun i j => .int (i % j)) (tOp (rI CDiv fun i j => .int (i / j)) (tVar 5) (tC (.int 89))) (tVar 1)))) D [some (.ref h), some (.int k), none, some (.int n), some (.int cell), none] H' := by
          intro D hD
          refine ⟨_, rfl, _, _, rfl, rfl, (by decide : (0 : Int) < 2147483587), _, _, rfl, rfl, cb_r (by decide) (by decide), _, rfl, _, _, rfl, rfl, cb_l (by decide) (by decide), _, rfl, _, _, rfl, rfl, cb_r (by omega) (by omega), _, _, rfl, rfl, ?_⟩
          refine ⟨_, rfl, _, _, rfl, rfl, cb_l (by decide) (by decide), _, _, rfl, rfl, _, _, rfl, rfl, _, _, rfl, rfl, (by decide : (0 : Int) < 2147483629), ?_⟩
          refine ⟨_, rfl, _, _, rfl, rfl, cb_r (by decide) (by decide), _, rfl, _, _, rfl, rfl, ⟨by decide, by decide⟩, _, _, rfl, rfl, _, _, rfl, rfl, _, _, rfl, rfl, (by decide : (0 : Int) < 2147483647), ?_⟩
          refine ⟨_, rfl, _, _, rfl, rfl, ⟨by decide, by decide⟩, _, rfl, _, _, rfl, rfl, hk0, ?_⟩
          rw [hD]
          exact hQ _ _ (cM _ _ hk0).1 (cM _ _ hk0).2 stay0 kp2
        refine ⟨_, rfl, _, _, rfl, rfl, ⟨by decide, by decide, by decide⟩, _, _, rfl, rfl, _, rfl, ?_⟩
        refine ite2 (fun g1 => ?_) (fun g1 => iteF (last _ rfl))
        refine ⟨_, rfl, _, rfl, h, _, rfl, hd_cells l (n + 1) m ▸ DGet.k (k := Sum.inr "cells") hh2, l, _, rfl, Or.inl (SqL.of hl2), _, _, rfl, rfl, _, rfl, ?_⟩
        refine ite2 (fun g2 => ?_) (fun g2 => last _ rfl)
        refine ⟨_, rfl, _, _, rfl, rfl, ⟨by decide, by decide, by decide⟩, _, _, rfl, rfl, _, rfl, _, _, rfl, rfl, ⟨hk0, hk1⟩, _, rfl, h, _, rfl, DPut.k (k := Sum.inr "left") hh2 (by show 3 < sizeLine; decide), ?_⟩
        refine ⟨_, rfl, _, _, rfl, rfl, ⟨by decide, by decide, by decide⟩, _, _, rfl, rfl, _, rfl, _, _, rfl, rfl, hk0, ?_⟩
        rw [put_left]
        refine hQ _ _ (cM _ _ hk0).1 (cM _ _ hk0).2 (stay _) (kp2.trans (Kp.put _ _ hh2))
end
end K48
set_option linter.all false
namespace KM
/-- top and bottom of a rational number -/
def pr (r : Rat) : Int × Int := (r.num, (r.den : Int))
theorem pr_inj {r s : Rat} (h : pr r = pr s) : r = s := by
  have h1 : r.num = s.num := congrArg Prod.fst h
  have h2 : (r.den : Int) = (s.den : Int) := congrArg Prod.snd h
  rw [← Rat.num_divInt_den r, ← Rat.num_divInt_den s, h1, h2]
theorem den_ne (r : Rat) : (r.den : Int) ≠ 0 := by
  have := r.den_nz
  omega
theorem den_pos (r : Rat) : 0 < (r.den : Int) := by
  have := r.den_nz
  omega
theorem low_eq {t b : Int} (h : b ≠ 0) : low t b = pr (Rat.divInt t b) := by
  have hp := low_pos (t := t) h
  have hc := low_cop (t := t) h
  obtain ⟨d, hd⟩ := Int.eq_ofNat_of_zero_le (Int.le_of_lt hp)
  have hd0 : d ≠ 0 := by
    intro z
    rw [z] at hd
    omega
  have hcop : (low t b).1.natAbs.Coprime d := by
    have : Int.gcd (low t b).1 (low t b).2 = 1 := hc
    rw [hd] at this
    exact this
  have e1 : Rat.divInt (low t b).1 (d : Int) = Rat.divInt t b := by
    rw [Rat.divInt_eq_divInt_iff (by omega) h, ← hd]
    have h1 := low_top (t := t) (b := b)
    have h2 := low_bot (t := t) (b := b)
    calc (low t b).1 * b = (low t b).1 * (sg t b * (low t b).2) := by rw [h2]
      _ = sg t b * (low t b).1 * (low t b).2 := by rw [← Int.mul_assoc, Int.mul_comm (low t b).1]
      _ = t * (low t b).2 := by rw [h1]
  have e2 : ({ num := (low t b).1, den := d, den_nz := hd0, reduced := hcop } : Rat) = Rat.divInt t b := by rw [Rat.mk_eq_divInt, e1]
  rw [← e2]
  exact Prod.ext rfl hd
theorem pr_plus (r s : Rat) : low ((pr r).1 * (pr s).2 + (pr s).1 * (pr r).2) ((pr r).2 * (pr s).2) = pr (r + s) := by
  show low (r.num * s.den + s.num * r.den) (r.den * s.den) = _
  rw [low_eq (Int.mul_ne_zero (den_ne r) (den_ne s)), ← Rat.divInt_add_divInt _ _ (den_ne r) (den_ne s), Rat.num_divInt_den, Rat.num_divInt_den]
theorem pr_less (r s : Rat) : low ((pr r).1 * (pr s).2 - (pr s).1 * (pr r).2) ((pr r).2 * (pr s).2) = pr (r - s) := by
  show low (r.num * s.den - s.num * r.den) (r.den * s.den) = _
  rw [low_eq (Int.mul_ne_zero (den_ne r) (den_ne s)), ← Rat.divInt_sub_divInt _ _ (den_ne r) (den_ne s), Rat.num_divInt_den, Rat.num_divInt_den]
theorem pr_times (r : Rat) (k : Int) : low ((pr r).1 * k) (pr r).2 = pr (r * (Rat.divInt k 1)) := by
  show low (r.num * k) r.den = _
  have e : Rat.divInt (r.num * k) (r.den : Int) = Rat.divInt r.num r.den * Rat.divInt k 1 := by rw [Rat.divInt_mul_divInt, Int.mul_one]
  rw [low_eq (den_ne r), e, Rat.num_divInt_den]
theorem pr_over (r : Rat) {k : Int} (h : k ≠ 0) : low (pr r).1 ((pr r).2 * k) = pr (r * (Rat.divInt 1 k)) := by
  show low r.num (r.den * k) = _
  have e : Rat.divInt r.num (r.den * k : Int) = Rat.divInt r.num r.den * Rat.divInt 1 k := by rw [Rat.divInt_mul_divInt, Int.mul_one]
  rw [low_eq (Int.mul_ne_zero (den_ne r) h), e, Rat.num_divInt_den]
theorem inv_k {k : Int} (h : k ≠ 0) : Rat.divInt k 1 * Rat.divInt 1 k = 1 := by
  rw [Rat.divInt_mul_divInt, Int.mul_one, Int.one_mul]
  exact Rat.divInt_self' h
theorem pr_lt (r s : Rat) : ((pr r).1 * (pr s).2 < (pr s).1 * (pr r).2) ↔ r < s := (Rat.lt_iff r s).symm
theorem pr_bot (r : Rat) : 0 < (pr r).2 := den_pos r
theorem add_back (r s : Rat) : r + s - s = r := by
  rw [Rat.sub_eq_add_neg, Rat.add_assoc, Rat.add_neg_cancel, Rat.add_zero]
theorem sub_back (r s : Rat) : r - s + s = r := by
  rw [Rat.sub_eq_add_neg, Rat.add_assoc, Rat.neg_add_cancel, Rat.add_zero]
theorem mul_back (r : Rat) {k : Int} (h : k ≠ 0) : r * Rat.divInt k 1 * Rat.divInt 1 k = r := by
  rw [Rat.mul_assoc, inv_k h, Rat.mul_one]
theorem div_back (r : Rat) {k : Int} (h : k ≠ 0) : r * Rat.divInt 1 k * Rat.divInt k 1 = r := by
  rw [Rat.mul_assoc, Rat.mul_comm (Rat.divInt 1 k), inv_k h, Rat.mul_one]
/-- small -/
def Sz (n : Nat) (r : Rat) : Prop := r.num.natAbs < 2 ^ n ∧ r.den < 2 ^ n
theorem Sz.mono {n m : Nat} {r : Rat} (h : Sz n r) (hm : n ≤ m) : Sz m r := ⟨Nat.lt_of_lt_of_le h.1 (Nat.pow_le_pow_right (by decide) hm), Nat.lt_of_lt_of_le h.2 (Nat.pow_le_pow_right (by decide) hm)⟩
theorem sz_of_low {t b : Int} {n : Nat} (hb : b ≠ 0) (h1 : t.natAbs < 2 ^ n) (h2 : b.natAbs < 2 ^ n) : Sz n (Rat.divInt t b) := by
  have e := low_eq (t := t) hb
  have e1 : (low t b).1 = (Rat.divInt t b).num := congrArg Prod.fst e
  have e2 : (low t b).2 = ((Rat.divInt t b).den : Int) := congrArg Prod.snd e
  have l1 := low_top_le (t := t) hb
  have l2 := low_bot_le (t := t) hb
  constructor
  · rw [← e1]; omega
  · have : ((low t b).2).natAbs < 2 ^ n := by omega
    rw [e2] at this
    simpa using this
theorem two_lt {x y n m : Nat} (h1 : x < 2 ^ n) (h2 : y < 2 ^ m) : x * y < 2 ^ (n + m) := by
  rw [Nat.pow_add]
  exact Nat.mul_lt_mul'' h1 h2
theorem sz_sum {a b c d : Int} {n m : Nat} (h1 : a.natAbs < 2 ^ n) (h2 : d.natAbs < 2 ^ m) (h3 : c.natAbs < 2 ^ m) (h4 : b.natAbs < 2 ^ n) : (a * d + c * b).natAbs < 2 ^ (n + m + 1) ∧ (a * d - c * b).natAbs < 2 ^ (n + m + 1) := by
  have e1 : (a * d).natAbs < 2 ^ (n + m) := by rw [Int.natAbs_mul]; exact two_lt h1 h2
  have e2 : (c * b).natAbs < 2 ^ (n + m) := by rw [Int.natAbs_mul, Nat.add_comm]; exact two_lt h3 h4
  have e3 : 2 ^ (n + m + 1) = 2 * 2 ^ (n + m) := by rw [Nat.pow_succ, Nat.mul_comm]
  omega
theorem sz_plus {n m : Nat} {r s : Rat} (hr : Sz n r) (hs : Sz m s) : Sz (n + m + 1) (r + s) ∧ Sz (n + m + 1) (r - s) := by
  have d1 : ((r.den : Int)).natAbs < 2 ^ n := by simpa using hr.2
  have d2 : ((s.den : Int)).natAbs < 2 ^ m := by simpa using hs.2
  have hd : ((r.den : Int) * s.den).natAbs < 2 ^ (n + m + 1) := by
    have : ((r.den : Int) * s.den).natAbs < 2 ^ (n + m) := by rw [Int.natAbs_mul]; exact two_lt d1 d2
    exact Nat.lt_of_lt_of_le this (Nat.pow_le_pow_right (by decide) (by omega))
  have hn := sz_sum hr.1 d2 hs.1 d1
  have ne := Int.mul_ne_zero (den_ne r) (den_ne s)
  constructor
  · have := sz_of_low ne hn.1 hd
    rw [← Rat.divInt_add_divInt _ _ (den_ne r) (den_ne s), Rat.num_divInt_den, Rat.num_divInt_den] at this
    exact this
  · have := sz_of_low ne hn.2 hd
    rw [← Rat.divInt_sub_divInt _ _ (den_ne r) (den_ne s), Rat.num_divInt_den, Rat.num_divInt_den] at this
    exact this
theorem sz_times {n m : Nat} {r : Rat} {k : Int} (hr : Sz n r) (hk : k.natAbs < 2 ^ m) : Sz (n + m) (r * Rat.divInt k 1) := by
  have e : r * Rat.divInt k 1 = Rat.divInt (r.num * k) r.den := by
    have : Rat.divInt (r.num * k) (r.den : Int) = Rat.divInt r.num r.den * Rat.divInt k 1 := by rw [Rat.divInt_mul_divInt, Int.mul_one]
    rw [this, Rat.num_divInt_den]
  rw [e]
  refine sz_of_low (den_ne r) (by rw [Int.natAbs_mul]; exact two_lt hr.1 hk) ?_
  have d1 : ((r.den : Int)).natAbs < 2 ^ n := by simpa using hr.2
  exact Nat.lt_of_lt_of_le d1 (Nat.pow_le_pow_right (by decide) (by omega))
theorem sz_over {n m : Nat} {r : Rat} {k : Int} (hr : Sz n r) (h : k ≠ 0) (hk : k.natAbs < 2 ^ m) : Sz (n + m) (r * Rat.divInt 1 k) := by
  have e : r * Rat.divInt 1 k = Rat.divInt r.num (r.den * k) := by
    have : Rat.divInt r.num (r.den * k : Int) = Rat.divInt r.num r.den * Rat.divInt 1 k := by rw [Rat.divInt_mul_divInt, Int.mul_one]
    rw [this, Rat.num_divInt_den]
  rw [e]
  have d1 : ((r.den : Int)).natAbs < 2 ^ n := by simpa using hr.2
  refine sz_of_low (Int.mul_ne_zero (den_ne r) h) (Nat.lt_of_lt_of_le hr.1 (Nat.pow_le_pow_right (by decide) (by omega))) ?_
  rw [Int.natAbs_mul]
  exact two_lt d1 hk
end KM
set_option Elab.async false
set_option linter.all false
set_option maxRecDepth 100000
set_option maxHeartbeats 4000000
/-! KW: calls by keywords alone: f(k = v, ..), o.m(k = v, ..). -/
namespace KW
open PySem PySem.Spec PyProof.Rows L2
section
variable {X : Cx} {k j : Nat} {C f : Addr} {fd : FuncData} {ps ks : List Str} {sp : Sp} {x m : Str} {p pos apos : Pos} {o : Expr} {kws : List Keyword} {ta : TE} {tk : TA} {g : List Value → List Value → List Value} {gV : List V → List V → List V}
theorem pe_cK (F : FnOk X.prog X.w X.K X.mg X.base CX0 k f fd ps sp) (hr : Room k X.A) (hg : Gl X x) (hm : X.mg x = some (.ref f)) (hk : PySem.W.keepIn X.K (.ref f) = true) (hb : KBn X.K fd ps 0 ks g gV) (hkw : PK X kws tk)
    (hall : (backToKw pos (keywordEach kws X.env)).all (·.1.isSome) = true := by rfl) (hks : (backToKw pos (keywordEach kws X.env)).filterMap (·.1) = ks := by rfl) (hdb : (x == ("__debug__" : Str)) = false := by decide)
    (hpl : ((backTo pos (starEach [] X.env)).any (·.1) || (backToKw pos (keywordEach kws X.env)).any (·.1.isNone)) = false := by rfl) :
    PE X (.Call (.Name x p) [] kws pos) (fun σ H Q => tk σ H fun zs H1 => zs.length = ks.length ∧ sp (gV [] zs) H1 Q E0) := by
  refine ⟨fun pins s σ H Q I h => wpAny_Call_Name_kw (ld_glob I hg hm (PySem.W.callWith_KW0 (h₀ := X.base) I.ok.mod.kin hk hall ?_ hpl) hdb)⟩
  refine thn (hkw.run pos pins s σ H _ I h) fun ws s2 ⟨zs, H2, I2, rz, l2, q2⟩ => ⟨I2.kIn, ?_⟩
  rw [hks]
  exact run_fnN (us := []) (vs := []) F hr hb (fun _ _ _ _ _ _ _ h => False.elim h) I2 .nil rz rfl l2 q2
theorem pe_mtK {pl : Sem Bool} (he : PE X o ta) (c : Cls X.K C) (hm : Meth X.K C m f) (F : FnOk X.prog X.w X.K X.mg X.base CX0 k f fd ps sp) (hr : Room k X.A) (hb : KBn X.K fd ps 1 ks g gV) (hkw : PK X kws tk)
    (hall : (backToKw pos (keywordEach kws X.env)).all (·.1.isSome) = true := by rfl) (hks : (backToKw pos (keywordEach kws X.env)).filterMap (·.1) = ks := by rfl)
    (hpl : ((backTo pos (starEach [] X.env)).any (·.1) || (backToKw pos (keywordEach kws X.env)).any (·.1.isNone)) = false := by rfl)
    (ht : eval (.Call (.Attribute o m apos) [] kws pos) X.env = (do
      let ov ← eval o X.env
      standAt apos.atName
      let (f, first) ← holding [ov] (getMethod ov m pl)
      callWith pos f first (backTo pos (starEach [] X.env)) (backToKw pos (keywordEach kws X.env))) := by rfl) :
    PE X (.Call (.Attribute o m apos) [] kws pos) (fun σ H Q => ta σ H fun x H1 => ∃ a dx fs, x = .ref a ∧ H1 a = some (.ins C dx fs) ∧ fs.lookup m = none ∧ tk σ H1 fun zs H2 => zs.length = ks.length ∧ sp (gV [.ref a] zs) H2 Q E0) := by
  refine ⟨fun pins s σ H Q I h => ?_⟩
  refine PySem.W.methodCall_KW (pl := pl) (thn (he.run pins s σ H _ I h) fun u s1 ⟨x, H1, I1, rx, a, dx, fs, ex, ea, l, q⟩ => ?_) ht
  subst ex
  obtain rfl : u = Value.ref a := rx
  refine getmeth_ok I1 ea c hm l (PySem.W.callWith_KW0 (first := [.ref a]) (h₀ := X.base) I.ok.mod.kin hm.kp hall ?_ hpl)
  refine thn (hkw.run pos pins s1 σ H1 _ I1 q) fun ws s2 ⟨zs, H2, I2, rz, l2, q2⟩ => ⟨I2.kIn, ?_⟩
  rw [hks]
  exact run_fnN (us := [.ref a]) (vs := [.ref a]) F hr hb (fun _ _ _ _ _ _ _ h => False.elim h) I2 (.cons rfl .nil) rz rfl l2 q2
end
end KW
set_option Elab.async false
set_option linter.all false
set_option maxRecDepth 100000
set_option maxHeartbeats 4000000
namespace K48
open PySem PySem.Spec PyProof.Rows L2
open C8 (Cal Mak Met pe_c pe_mk pe_mt pe_mt0)
open KM (pr Sz)
/-- what isinstance asks of the class -/
structure IsC (K : PySem.W.Frag) (C : Addr) : Prop where
  ha : PySem.W.findIn K (.ref C) "__class__" = some (some (.builtin "object.__class__"))
  hn : PySem.W.specialIn K (.builtin "object.__class__") "__get__" = some (some (.builtin "getset_descriptor.__get__"))
  htk : PySem.W.takesIn K (.builtin "object.__class__") = some true
  hm : PySem.W.mroIn K C (.type "object") = some true
  kit : PySem.W.kitOne K (.ref C) (.ref C) = some true
theorem bd_of {n : Nat} {r : Rat} (h : Sz n r) : Bd n (pr r) := ⟨h.1, KM.den_pos r, by simpa [pr] using h.2⟩

section
variable {P : Program} {w : World} {K : PySem.W.Frag} {mg : Str → Option Value} {base : Heap} {f C : Addr} {fd : FuncData}
abbrev CalD (P : Program) (w : World) (K : PySem.W.Frag) (mg : Str → Option Value) (base : Heap) : Prop := Cal P w K mg base 1 "_law_draw" spDraw []
def tupP (q : Int × Int) : HO := .tup [.int q.1, .int q.2]
def spLow : Sp := fun vs H Q _ => ∃ (t b : Int) (n : Nat), vs = [.int t, .int b] ∧ b ≠ 0 ∧ b.natAbs < 2 ^ n ∧ 0 < n ∧ n ≤ 9000 ∧ ∀ r, H r = none → Q (.ref r) (upd H r (tupP (KM.low t b)))
theorem ok_low (F : Dn K d_l_low f fd) (b : Bl mg) : FnOk P w K mg base CX0 1 f fd ["_law_top", "_law_bottom"] spLow := by
  refine F.ok sc_l_low (fun vs H Q E h => ?_) (fun cdv A outer s H vs Q E hr h => ?_)
  · obtain ⟨t, b, n, rfl, _⟩ := h
    rfl
  · obtain ⟨x, y, n, rfl, hy, hn, hn0, hn9, hQ⟩ := h
    refine ⟨_, PSs.nox (pss_cons (ps_par (i := 2) (j := 3) rfl sc_l_low.nd rfl rfl (by decide) rfl rfl (pa_cons (pe_callB call_abs rfl b.abs boot_abs (pa_cons (pv 0) pa_nil)) (pa_cons (pe_callB call_abs rfl b.abs boot_abs (pa_cons (pv 1) pa_nil)) pa_nil)) rfl)
      (pss_cons (ps_while PassesOwn.never (pt_cmpR op_gt (pv 3) pe_int (nomark _)) (pss_one (ps_par (i := 2) (j := 3) rfl sc_l_low.nd rfl rfl (by decide) rfl rfl (pa_cons (pv 3) (pa_cons (pe_op op_mod (pv 2) (pv 3)) pa_nil)) rfl)))
      (C8.pss_cut (ps_if (pt_cmpR op_lt (pv 1) pe_int (nomark _)) (pss_one (ps_set (i := 2) sc_l_low.nd rfl (.inl rfl) (pe_op op_sub pe_int (pv 2)))) pss_nil)
      (pss_one (ps_ret (pe_tup (pa_cons (pe_op op_fdW (pv 0) (pv 2)) (pa_cons (pe_op op_fdW (pv 1) (pv 2)) pa_nil)))))))), ?_⟩
    refine ⟨_, rfl, _, rfl, _, rfl, _, rfl, _, _, rfl, while_by (fun σ H2 => H2 = H ∧ ∃ a c : Int, σ = [some (.int x), some (.int y), some (.int a), some (.int c)] ∧ 0 ≤ a ∧ 0 ≤ c ∧ Int.gcd a c = Int.gcd x y)
      (fun σ _ => match σ with | [_, _, _, some (.int c)] => c.toNat | _ => 0) ⟨rfl, _, _, rfl, ?_, ?_, ?_⟩ ?_ ?_⟩
    · split <;> omega
    · split <;> omega
    · rw [abs_eq, abs_eq]
      rfl
    · rintro σ H2 ⟨rfl, a, c, rfl, ha, hc, hg⟩
      refine ⟨_, rfl, _, _, rfl, rfl, _, rfl, ?_⟩
      refine ite2 (fun g => ?_) (fun g => ?_)
      · have hp : 0 < c := of_decide_eq_true g
        refine ⟨_, rfl, _, rfl, _, rfl, _, _, rfl, rfl, hp, _, _, rfl, ⟨rfl, _, _, rfl, hc, Int.emod_nonneg _ (by omega), ?_⟩, ?_⟩
        · rw [KM.gcd_turn ha hp, hg]
        · show (a % c).toNat < c.toNat
          have h1 := Int.emod_nonneg a (show c ≠ 0 by omega)
          have h2 := Int.emod_lt_of_pos a hp
          omega
      · have h0 : c = 0 := by
          have : ¬ 0 < c := fun z => g (decide_eq_true z)
          omega
        subst h0
        have e : Int.gcd x y = a.natAbs := by rw [← hg]; simp
        refine ⟨fun σ' H' => H' = H2 ∧ ∃ v, σ' = [some (.int x), some (.int y), some (.int (KM.sg x y)), v], ?_, ?_⟩
        · refine ⟨_, rfl, _, _, rfl, rfl, _, rfl, ?_⟩
          refine ite2 (fun g1 => ?_) (fun g1 => ?_)
          · refine ⟨_, rfl, _, _, rfl, rfl, rfl, some (.int 0), ?_⟩
            have e2 : KM.sg x y = 0 - a := by unfold KM.sg; rw [if_pos (of_decide_eq_true g1), e]; omega
            rw [e2]
            rfl
          · refine ⟨rfl, some (.int 0), ?_⟩
            have e2 : KM.sg x y = a := by unfold KM.sg; rw [if_neg (fun z => g1 (decide_eq_true z)), e]; omega
            rw [e2]
        · rintro σ' H' ⟨rfl, v, rfl⟩
          have hs9 : (KM.sg x y).natAbs.log2 < 9000 := log_lt (Nat.lt_of_le_of_lt (KM.sg_le hy) hn) hn0 hn9
          refine ⟨_, rfl, _, rfl, _, _, rfl, rfl, ⟨KM.sg_ne hy, hs9⟩, _, rfl, _, rfl, _, _, rfl, rfl, ⟨KM.sg_ne hy, hs9⟩, (by show 2 ≤ sizeLine; decide), fun r hr => hQ r hr⟩
    · rintro σ H2 Q1 Q2 hm ⟨v, hv, i, j, e1, e2, k, hk, q⟩
      exact ⟨v, hv, i, j, e1, e2, k, hk, hm _ _ q⟩
abbrev CalL (P : Program) (w : World) (K : PySem.W.Frag) (mg : Str → Option Value) (base : Heap) : Prop := Cal P w K mg base 1 "_law_low" spLow []
def spAdd : Sp := fun vs H Q _ => ∃ (p q : Addr) (a b : Int × Int) (n : Nat), vs = [.ref p, .ref q] ∧ H p = some (tupP a) ∧ H q = some (tupP b) ∧ two n a b ∧
  ∀ r, H r = none → Q (.ref r) (upd H r (tupP (KM.low (a.1 * b.2 + b.1 * a.2) (a.2 * b.2))))
theorem at0 {a b : V} : atI [a, b] 0 = some a := rfl
theorem at1 {a b : V} : atI [a, b] 1 = some b := rfl
theorem ok_add (F : Dn K d_l_add f fd) (cL : CalL P w K mg base) : FnOk P w K mg base CX0 2 f fd ["_law_one", "_law_other"] spAdd := by
  refine F.ok sc_l_add (fun vs H Q E h => ?_) (fun cdv A outer s H vs Q E hr h => ?_)
  · obtain ⟨p, q, a, b, n, rfl, _⟩ := h
    rfl
  · obtain ⟨p, q, a, b, n, rfl, hp, hq, ⟨ba, bb, hn0, hn9⟩, hQ⟩ := h
    refine ⟨_, PSs.nox (pss_one (ps_ret (pe_c cL hr (by decide) rfl (pa_cons (pe_op op_add (pe_op op_mulW (pe_ix ix_tup (pv 0) pe_int (fun _ _ => rfl)) (pe_ix ix_tup (pv 1) pe_int (fun _ _ => rfl))) (pe_op op_mulW (pe_ix ix_tup (pv 1) pe_int (fun _ _ => rfl)) (pe_ix ix_tup (pv 0) pe_int (fun _ _ => rfl))))
      (pa_cons (pe_op op_mulW (pe_ix ix_tup (pv 0) pe_int (fun _ _ => rfl)) (pe_ix ix_tup (pv 1) pe_int (fun _ _ => rfl))) pa_nil))))), ?_⟩
    refine ⟨_, rfl, p, _, _, _, rfl, rfl, SqT.of hp, at0, _, rfl, q, _, _, _, rfl, rfl, SqT.of hq, at1, _, _, rfl, rfl, wide_mul ba.1 bb.2.2 hn0 hn0 (by omega), ?_⟩
    refine ⟨_, rfl, q, _, _, _, rfl, rfl, SqT.of hq, at0, _, rfl, p, _, _, _, rfl, rfl, SqT.of hp, at1, _, _, rfl, rfl, wide_mul bb.1 ba.2.2 hn0 hn0 (by omega), _, _, rfl, rfl, ?_⟩
    refine ⟨_, rfl, p, _, _, _, rfl, rfl, SqT.of hp, at1, _, rfl, q, _, _, _, rfl, rfl, SqT.of hq, at1, _, _, rfl, rfl, wide_mul ba.2.2 bb.2.2 hn0 hn0 (by omega), ?_⟩
    exact ⟨_, _, n + n, rfl, mul_pos_ne ba.2.1 bb.2.1, wide_lt ba.2.2 bb.2.2, by omega, by omega, hQ⟩
def spPair (C : Addr) : Sp := fun vs H Q _ => ∃ (p : Addr) (q : Int × Int), vs = [.ref p] ∧ Sh C H p q ∧ ∀ r H', Same H H' → H r = none → H' r = some (tupP q) → Q (.ref r) H'
theorem ok_pair (F : Dn K d_l_pair f fd) (b : Bl mg) (T : Cl K mg C) (S : IsC K C) : FnOk P w K mg base CX0 1 f fd ["_law_share"] (spPair C) := by
  refine F.ok sc_l_pair (fun vs H Q E h => ?_) (fun cdv A outer s H vs Q E hr h => ?_)
  · obtain ⟨p, q, rfl, _⟩ := h
    rfl
  · obtain ⟨p, q, rfl, ⟨dp, hp⟩, hQ⟩ := h
    refine ⟨_, PSs.nox (pss_cons (ps_if (pt_not (pt_val (pe_callB call_isi rfl b.isi boot_isinstance (pa_cons (pv 0) (pa_cons (pe_glob (v := .ref C) rfl T.g rfl) pa_nil))))) pss_never pss_nil)
      (pss_cons (ps_for PassesOwn.never rfl (pi_tup (pe_tup (pa_cons (pe_fld (pv 0) rfl) (pa_cons (pe_fld (pv 0) rfl) pa_nil)))) (pg_name (i := 1) sc_l_pair.nd rfl (.inl rfl))
        (pss_one (ps_if (PW.pt (pw_or (pt_not (pt_val (pe_callB call_isi rfl b.isi boot_isinstance (pa_cons (pv 1) (pa_cons (pe_bltn (v := .ty "int") rfl b.int boot_int rfl) pa_nil)))))
          (pw_or1 (pt_val (pe_callB call_isi rfl b.isi boot_isinstance (pa_cons (pv 1) (pa_cons (pe_bltn (v := .ty "bool") rfl b.bool boot_bool rfl) pa_nil))))))) pss_never pss_nil)))
      (pss_one (ps_ret (pe_tup (pa_cons (pe_fld (pv 0) rfl) (pa_cons (pe_fld (pv 0) rfl) pa_nil))))))), ?_⟩
    refine ⟨_, rfl, _, _, _, _, true, rfl, ClsV.own C, TyX.base (TyOf.ins hp T.cl S.ha S.hn S.htk S.hm), S.kit, true, rfl, ?_⟩
    refine iteF ?_
    refine ⟨_, rfl, p, C, dp, _, _, rfl, hp, T.cl, T.nt, shF_top q, _, rfl, p, C, dp, _, _, rfl, hp, T.cl, T.nb, shF_bot q, by show 2 ≤ sizeLine; decide, fun u hu => ?_⟩
    have npu : p ≠ u := ne_of_none hp hu
    refine ⟨u, rfl, ⟨_, SqT.of upd_same⟩, for_tup (K := K) (xs := [.int q.1, .int q.2]) (fun i σ H2 => H2 = upd H u (.tup [.int q.1, .int q.2]) ∧ ∃ v, σ = [some (.ref p), v])
      ⟨rfl, none, rfl⟩ (fun i σ H2 _ h => by rw [h.1]; exact SqT.of upd_same) ?_ ?_⟩
    · rintro i y σ H2 hi ⟨rfl, v, rfl⟩
      have hy : ∃ n : Int, y = .int n := by
        match i, hi with
        | 0, e => exact ⟨_, (Option.some.inj e).symm⟩
        | 1, e => exact ⟨_, (Option.some.inj e).symm⟩
      obtain ⟨n, rfl⟩ := hy
      refine ⟨_, rfl, _, _, _, _, true, rfl, ClsV.ty _, TyX.base (TyOf.int n), kit_ty (by decide +kernel), true, rfl, ?_⟩
      refine iteF ?_
      refine ⟨_, rfl, _, _, _, _, false, rfl, ClsV.ty _, TyX.base (TyOf.int n), kit_ty (by decide +kernel), false, rfl, ?_⟩
      exact iteF ⟨rfl, _, rfl⟩
    · rintro σ H2 ⟨rfl, v, rfl⟩
      have hp2 : (upd H u (.tup [.int q.1, .int q.2])) p = some (.ins C dp (shF q)) := by rw [upd_ne npu]; exact hp
      refine ⟨_, rfl, p, C, dp, _, _, rfl, hp2, T.cl, T.nt, shF_top q, _, rfl, p, C, dp, _, _, rfl, hp2, T.cl, T.nb, shF_bot q, by show 2 ≤ sizeLine; decide, fun r hr => ?_⟩
      exact hQ r _ ((same_new hu).trans (same_new hr)) ((same_new hu).free hr) upd_same
/-- two Shares in, a Share out -/
def sp2 (C : Addr) (g : Rat → Rat → Rat) : Sp := fun vs H Q _ => ∃ (p q : Addr) (r s : Rat) (n : Nat), vs = [.ref p, .ref q] ∧ Sh C H p (pr r) ∧ Sh C H q (pr s) ∧ Sz n r ∧ Sz n s ∧ 0 < n ∧ n ≤ 4000 ∧
  ∀ t H', Same H H' → H t = none → Sh C H' t (pr (g r s)) → Q (.ref t) H'
theorem plusR {vs : List V} {H : Hp} {Q : VK} {E : XK} (h : sp2 C (· + ·) vs H Q E) : sp_plus C vs H Q E := by
  obtain ⟨p, q, r, s, n, e, hp, hq, sr, ss, n0, n9, k⟩ := h
  refine ⟨p, q, _, _, n, e, hp, hq, ⟨bd_of sr, bd_of ss, n0, n9⟩, fun t H' a b c => k t H' a b ?_⟩
  rw [KM.pr_plus] at c
  exact c
abbrev MakS1 (P : Program) (w : World) (K : PySem.W.Frag) (mg : Str → Option Value) (base : Heap) (C : Addr) : Prop := Mak P w K mg base 2 "Share" C (spInit C) [.int 1]
theorem mk_in {C x dx : Addr} {H1 : Hp} {t b : Int} {n : Nat} {Qv : VK} {E : XK} (nx : H1 x = none) (nd : H1 dx = none) (hb : b ≠ 0) (hn : b.natAbs < 2 ^ n) (hn0 : 0 < n) (hn9 : n ≤ 9000)
    (hQ : ∀ H', Same H1 H' → Sh C H' x (pr (Rat.divInt t b)) → Qv .non H') : spInit C [.ref x, .int t, .int b] (upd (upd H1 dx (.own x)) x (.ins C dx [])) Qv E := by
  refine ⟨x, dx, t, b, n, rfl, hb, hn, hn0, hn9, upd_same, fun H' kp hp => hQ H' (fun a o e => ?_) ⟨dx, KM.low_eq hb ▸ hp⟩⟩
  refine kp a o (ne_of_none e nx) ?_
  rw [upd_ne (ne_of_none e nx), upd_ne (ne_of_none e nd)]
  exact e
end
end K48
set_option Elab.async false
set_option linter.all false
set_option maxRecDepth 100000
set_option maxHeartbeats 4000000
/-! NM: the names that a law draws: words by a base, a place, a spot and a way. -/
namespace NM
open PySem PySem.Spec
def ok (l : List Nat) : Prop := 1 ≤ l.length ∧ l.length ≤ 8 ∧ ∀ c ∈ l, 97 ≤ c ∧ c ≤ 122
def words : List (List Nat) := [[108, 97, 116, 101], [105, 110], [111, 117, 116], [114, 105, 100, 101], [104, 97, 110, 100], [108, 97, 99, 107], [121, 101, 115], [110, 111], [110, 97, 109, 101, 115], [103, 111, 110, 101], [116, 101, 120, 116], [112, 108, 97, 110], [117, 110, 100, 111], [117, 115, 117, 97, 108], [98, 97, 99, 107], [108, 101, 97, 118, 101]]
def lets : List Nat := (List.range 26).map (97 + ·)
def w0 (bs : List Nat) (at_ spot k : Nat) : List Nat := bs.take at_ ++ [97 + (spot + 5 * k) % 26] ++ bs.drop (at_ + 1)
def w1 (bs : List Nat) (at_ spot k : Nat) : List Nat := (w0 bs at_ spot k).take (bs.length - k % (bs.length - at_))
def w2 (spot k : Nat) : List Nat := (List.replicate 8 (97 + (spot + k / 8) % 26)).take (k % 8 + 1)
def w3 (spot k : Nat) : List Nat := words.getD ((spot + k) % 16) []
def word (bs : List Nat) (at_ spot way k : Nat) : List Nat := if way = 1 then w1 bs at_ spot k else if way = 2 then w2 spot k else if way = 3 then w3 spot k else w0 bs at_ spot k
theorem words_ok : ∀ i, i < 16 → ok (words.getD i []) := by
  have : ∀ i : Fin 16, 1 ≤ (words.getD i.1 []).length ∧ (words.getD i.1 []).length ≤ 8 ∧ (words.getD i.1 []).all (fun c => decide (97 ≤ c ∧ c ≤ 122)) = true := by decide +kernel
  intro i hi
  obtain ⟨h1, h2, h3⟩ := this ⟨i, hi⟩
  refine ⟨h1, h2, fun c hc => ?_⟩
  have := List.all_eq_true.mp h3 c hc
  exact of_decide_eq_true this
theorem words_inj : ∀ i j, i < 16 → j < 16 → words.getD i [] = words.getD j [] → i = j := by
  have : ∀ i j : Fin 16, words.getD i.1 [] = words.getD j.1 [] → i = j := by decide +kernel
  intro i j hi hj e
  exact congrArg Fin.val (this ⟨i, hi⟩ ⟨j, hj⟩ e)
section
variable {bs : List Nat} {at_ spot k : Nat}
theorem w0_len (h : at_ < bs.length) : (w0 bs at_ spot k).length = bs.length := by
  unfold w0
  simp only [List.length_append, List.length_take, List.length_drop, List.length_cons, List.length_nil]
  omega
theorem w0_at (h : at_ < bs.length) : (w0 bs at_ spot k)[at_]? = some (97 + (spot + 5 * k) % 26) := by
  unfold w0
  rw [List.append_assoc, List.getElem?_append_right (by rw [List.length_take]; omega), List.length_take, Nat.min_eq_left (by omega), Nat.sub_self]
  rfl
theorem w0_mem (hb : ∀ c ∈ bs, 97 ≤ c ∧ c ≤ 122) : ∀ c ∈ w0 bs at_ spot k, 97 ≤ c ∧ c ≤ 122 := by
  intro c hc
  unfold w0 at hc
  rcases List.mem_append.mp hc with hc | hc
  · rcases List.mem_append.mp hc with hc | hc
    · exact hb c (List.mem_of_mem_take hc)
    · rw [List.mem_singleton] at hc
      omega
  · exact hb c (List.mem_of_mem_drop hc)
theorem w1_len (h : at_ < bs.length) : at_ + 1 ≤ (w1 bs at_ spot k).length ∧ (w1 bs at_ spot k).length ≤ bs.length := by
  unfold w1
  rw [List.length_take, w0_len h]
  have := Nat.mod_lt k (show 0 < bs.length - at_ by omega)
  omega
theorem w1_at (h : at_ < bs.length) : (w1 bs at_ spot k)[at_]? = some (97 + (spot + 5 * k) % 26) := by
  have h1 := (w1_len (spot := spot) (k := k) h).1
  unfold w1 at h1 ⊢
  rw [List.length_take, w0_len h] at h1
  rw [List.getElem?_take_of_lt (by omega)]
  exact w0_at h
theorem spot_inj {i j : Nat} (hi : i < 16) (hj : j < 16) (e : 97 + (spot + 5 * i) % 26 = 97 + (spot + 5 * j) % 26) : i = j := by omega
theorem word_ok (hb0 : 1 ≤ bs.length) (hb8 : bs.length ≤ 8) (hb : ∀ c ∈ bs, 97 ≤ c ∧ c ≤ 122) (h : at_ < bs.length) (way : Nat) : ok (word bs at_ spot way k) := by
  unfold word
  split
  · have := w1_len (spot := spot) (k := k) h
    exact ⟨by omega, by omega, fun c hc => w0_mem hb c (List.mem_of_mem_take hc)⟩
  split
  · unfold w2
    refine ⟨by rw [List.length_take, List.length_replicate]; omega, by rw [List.length_take, List.length_replicate]; omega, fun c hc => ?_⟩
    have := List.eq_of_mem_replicate (List.mem_of_mem_take hc)
    omega
  split
  · exact words_ok _ (Nat.mod_lt _ (by decide))
  · exact ⟨by rw [w0_len h]; exact hb0, by rw [w0_len h]; exact hb8, w0_mem hb⟩
theorem word_inj (h : at_ < bs.length) (way : Nat) {i j : Nat} (hi : i < 16) (hj : j < 16) (e : word bs at_ spot way i = word bs at_ spot way j) : i = j := by
  unfold word at e
  split at e
  · have h1 := w1_at (spot := spot) (k := i) h
    rw [e, w1_at h] at h1
    exact (spot_inj hj hi (Option.some.inj h1)).symm
  split at e
  · unfold w2 at e
    have hl := congrArg List.length e
    rw [List.length_take, List.length_take, List.length_replicate, List.length_replicate] at hl
    have h0 : ((List.replicate 8 (97 + (spot + i / 8) % 26)).take (i % 8 + 1))[0]? = ((List.replicate 8 (97 + (spot + j / 8) % 26)).take (j % 8 + 1))[0]? := by rw [e]
    rw [List.getElem?_take_of_lt (by omega), List.getElem?_take_of_lt (by omega), List.getElem?_replicate, List.getElem?_replicate, if_pos (by decide), if_pos (by decide)] at h0
    have := Option.some.inj h0
    omega
  split at e
  · have := words_inj _ _ (Nat.mod_lt _ (by decide)) (Nat.mod_lt _ (by decide)) e
    omega
  · have h1 := w0_at (spot := spot) (k := i) h
    rw [e, w0_at h] at h1
    exact (spot_inj hj hi (Option.some.inj h1)).symm
/-- as many as are asked: unlike ones -/
theorem all_unlike (h : at_ < bs.length) (way n : Nat) (hn : n ≤ 16) : ((List.range n).map (word bs at_ spot way)).Pairwise (· ≠ ·) := by
  rw [List.pairwise_map]
  refine (List.pairwise_lt_range (n := n)).imp_of_mem fun {a b} ha hb hlt e => ?_
  have := word_inj h way (by have := List.mem_range.mp ha; omega) (by have := List.mem_range.mp hb; omega) e
  omega
end
end NM
set_option Elab.async false
set_option linter.all false
set_option maxRecDepth 100000
set_option maxHeartbeats 4000000
/-! NH: the names that a law with a held dict draws. -/
namespace NH
open PySem PySem.Spec
def word (bs : List Nat) (at_ begin_ step lot k : Nat) : List Nat := bs.take at_ ++ [97 + (begin_ + step * k) % 26] ++ (bs.drop at_).take (if lot = 0 then 8 else k % (bs.length - at_ + 1))
def steps : List Nat := [1, 3, 5, 7, 9, 11, 15, 17]
section
variable {bs : List Nat} {at_ begin_ step lot k : Nat}
theorem word_at (h : at_ ≤ bs.length) : (word bs at_ begin_ step lot k)[at_]? = some (97 + (begin_ + step * k) % 26) := by
  unfold word
  rw [List.append_assoc, List.getElem?_append_right (by rw [List.length_take]; omega), List.length_take, Nat.min_eq_left h, Nat.sub_self]
  rfl
theorem step_inj {i j : Nat} (hs : step ∈ steps) (hi : i < 13) (hj : j < 13) (e : 97 + (begin_ + step * i) % 26 = 97 + (begin_ + step * j) % 26) : i = j := by
  simp only [steps, List.mem_cons, List.not_mem_nil, or_false] at hs
  rcases hs with rfl | rfl | rfl | rfl | rfl | rfl | rfl | rfl <;> omega
theorem word_inj (h : at_ ≤ bs.length) (hs : step ∈ steps) {i j : Nat} (hi : i < 13) (hj : j < 13) (e : word bs at_ begin_ step lot i = word bs at_ begin_ step lot j) : i = j := by
  have h1 := word_at (begin_ := begin_) (step := step) (lot := lot) (k := i) h
  rw [e, word_at h] at h1
  exact (step_inj hs hj hi (Option.some.inj h1)).symm
theorem word_ok (h8 : bs.length ≤ 7) (hb : ∀ c ∈ bs, 97 ≤ c ∧ c ≤ 122) (h : at_ ≤ bs.length) : NM.ok (word bs at_ begin_ step lot k) := by
  unfold word
  refine ⟨?_, ?_, fun c hc => ?_⟩
  · simp only [List.length_append, List.length_take, List.length_drop, List.length_cons, List.length_nil]
    omega
  · simp only [List.length_append, List.length_take, List.length_drop, List.length_cons, List.length_nil]
    omega
  · rcases List.mem_append.mp hc with hc | hc
    · rcases List.mem_append.mp hc with hc | hc
      · exact hb c (List.mem_of_mem_take hc)
      · rw [List.mem_singleton] at hc
        omega
    · exact hb c (List.mem_of_mem_drop (List.mem_of_mem_take hc))
theorem all_unlike (h : at_ ≤ bs.length) (hs : step ∈ steps) (n : Nat) (hn : n ≤ 13) : ((List.range n).map (word bs at_ begin_ step lot)).Pairwise (· ≠ ·) := by
  rw [List.pairwise_map]
  refine (List.pairwise_lt_range (n := n)).imp_of_mem fun {a b} ha hb hlt e => ?_
  have := word_inj h hs (by have := List.mem_range.mp ha; omega) (by have := List.mem_range.mp hb; omega) e
  omega
end
end NH
set_option Elab.async false
set_option linter.all false
set_option maxRecDepth 100000
set_option maxHeartbeats 4000000
namespace K48
open PySem PySem.Spec PyProof.Rows L2
open C8 (Cal Mak Met pe_c pe_mk pe_mt pe_mt0)
open SX (S)
theorem lets_S : (Str.ofString "abcdefghijklmnopqrstuvwxyz").cps.toList = NM.lets := by decide +kernel
theorem at_lets {x : Int} {j : Nat} (e : x = (j : Int)) (hj : j < 26) : atI (Str.ofString "abcdefghijklmnopqrstuvwxyz").cps.toList x = some (97 + j) := by
  rw [e, lets_S]
  refine atI_nat ?_
  unfold NM.lets
  rw [List.getElem?_map, List.getElem?_range hj]
  rfl
theorem cut_t {l : List Nat} {x : Int} {j : Nat} (e : x = (j : Int)) (h : j ≤ l.length) : cutS (S l) none (some x) = S (l.take j) := by
  rw [e]
  unfold cutS
  rw [HT.sIx_nat, HT.sIx_none, SX.S_len, Nat.min_eq_left h]
  simp [S]
theorem cut_m {l : List Nat} {x y : Int} {j m : Nat} (e : x = (j : Int)) (e2 : y = ((j + m : Nat) : Int)) (h : j ≤ l.length) : cutS (S l) (some x) (some y) = S ((l.drop j).take m) := by
  rw [e, e2]
  unfold cutS
  rw [HT.sIx_nat, HT.sIx_nat, SX.S_len, Nat.min_eq_left h]
  have e3 : (l.drop j).take (min (j + m) l.length - j) = (l.drop j).take m := by
    by_cases c : j + m ≤ l.length
    · rw [Nat.min_eq_left c, Nat.add_sub_cancel_left]
    · rw [Nat.min_eq_right (by omega), List.take_of_length_le (Nat.le_of_eq (List.length_drop ..)), List.take_of_length_le (by rw [List.length_drop]; omega)]
  simp [S, e3]
theorem ones : ∀ bs : List Nat, ((bs.map fun c => S [c]).map (·.length)).sum = bs.length
  | [] => rfl
  | b :: bs => by
    rw [List.map_cons, List.map_cons, List.sum_cons, ones bs, List.length_cons, SX.S_len]
    simp
    omega
theorem joined : ∀ bs : List Nat, TL.joinL [] (bs.map fun c => [c]) = bs
  | [] => rfl
  | [b] => rfl
  | b :: d :: bs => by
    have := joined (d :: bs)
    simp only [List.map_cons, TL.joinL] at this ⊢
    simp [this]
theorem Held.ne_new {H : Hp} {h u : Addr} {c : Nat} (x : Held H h c) (e : H u = none) : u ≠ h := by
  obtain ⟨l, ns, n, m, h1, _⟩ := x
  exact (ne_of_none h1 e).symm
/-- the held dict's cells aren't at D -/
def Cel (h D : Addr) (H : Hp) : Prop := ∃ la n m, H h = some (.dK (hd0 la n m)) ∧ la ≠ D ∧ h ≠ D
theorem Cel.kp {h D : Addr} {H H' : Hp} (x : Cel h D H) (k : Kp h H H') : Cel h D H' := by
  obtain ⟨la, n, m, e, n1, n2⟩ := x
  obtain ⟨n', m', e'⟩ := k.2 _ _ _ e
  exact ⟨la, n', m', e', n1, n2⟩
theorem Cel.of {h D : Addr} {H : Hp} {c : Nat} (x : Held H h c) (f : H D = none) : Cel h D H := by
  obtain ⟨la, ns, n, m, e1, e2, _⟩ := x
  exact ⟨la, n, m, e1, ne_of_none e2 f, ne_of_none e1 f⟩
theorem Cel.ne {h D : Addr} {H : Hp} (x : Cel h D H) : D ≠ h := by
  obtain ⟨_, _, _, _, _, n⟩ := x
  exact n.symm
theorem Held.put {h D : Addr} {H : Hp} {o : HO} {c : Nat} (x : Held H h c) (y : Cel h D H) : Held (upd H D o) h c := by
  obtain ⟨la, ns, n, m, e1, e2, e3⟩ := x
  obtain ⟨la', n', m', e', n1, n2⟩ := y
  cases hd_inj (Option.some.inj (e1.symm.trans e'))
  exact ⟨la, ns, n, m, by rw [upd_ne n2]; exact e1, by rw [upd_ne n1]; exact e2, e3⟩
theorem Cel.put {h D D' : Addr} {H : Hp} {o : HO} (x : Cel h D H) (n : h ≠ D') : Cel h D (upd H D' o) := by
  obtain ⟨la', n', m', e', n1, n2⟩ := x
  exact ⟨la', n', m', by rw [upd_ne n]; exact e', n1, n2⟩
theorem Kp.new {h st : Addr} {H1 H2 : Hp} {o : HO} (k : Kp h H1 H2) (f : H1 st = none) : Kp h H1 (upd H2 st o) :=
  ⟨fun b u e ne => by rw [upd_ne (ne_of_none e f)]; exact k.1 b u e ne, fun l n m e => by
    obtain ⟨n', m', e'⟩ := k.2 l n m e
    exact ⟨n', m', by rw [upd_ne (ne_of_none e f)]; exact e'⟩⟩
theorem pick {α : Type} (g : α → V) {L : List α} {i : Int} (i0 : 0 ≤ i) (i1 : i < (L.length : Int)) : ∃ x ∈ L, atI (L.map g) i = some (g x) := by
  obtain ⟨j, rfl⟩ := Int.eq_ofNat_of_zero_le i0
  have hj : j < L.length := by omega
  exact ⟨L[j], List.getElem_mem hj, atI_nat (j := j) (by rw [List.getElem?_map, List.getElem?_eq_getElem hj]; rfl)⟩
section
variable {P : Program} {w : World} {K : PySem.W.Frag} {mg : Str → Option Value} {base : Heap} {f C : Addr} {fd : FuncData}
def spNames : Sp := fun vs H Q _ => ∃ (h : Addr) (c n : Nat), vs = [.ref h, .int n] ∧ Held H h (c + 40) ∧ n ≤ 13 ∧
  ∀ (o : Addr) (zs : List (List Nat)) (H' : Hp), Held H' h c → Kp h H H' → H o = none → H' o = some (.lst (zs.map fun l => V.str (S l))) → zs.length = n → (∀ z ∈ zs, NM.ok z) → zs.Pairwise (· ≠ ·) → Q (.ref o) H'
theorem ok_names (F : Dn K d_l_names f fd) (bl : Bl mg) (cD : CalD P w K mg base) : FnOk P w K mg base CX0 2 f fd ["_law_held_here", "_law_many"] spNames := by
  refine F.ok sc_l_names (fun vs H Q E h => ?_) (fun cdv A outer s H vs Q E hr h => ?_)
  · obtain ⟨p, c, n, rfl, _⟩ := h
    rfl
  · obtain ⟨p, c, n, rfl, pen, hn, hQ⟩ := h
    refine ⟨_, PSs.nox (pss_cons (ps_set (i := 2) sc_l_names.nd rfl (.inr rfl) pe_str)
      (pss_cons (ps_set (i := 3) sc_l_names.nd rfl (.inl rfl) (pe_c cD hr (by decide) rfl (pa_cons (pv 0) (pa_cons pe_int pa_nil))))
      (C8.pss_cut (ps_set (i := 5) sc_l_names.nd rfl (.inl rfl) (pe_join pe_str (pe_lc (own := [("_law_k", 4)]) (g := gName 4) (tt := tYes) rfl sc_l_names.nd (pi_range1 rfl bl.range (pa_cons (pv 3) pa_nil)) (blkOk_by (N := N_l_names) (sc := defScope s_l_names) (by decide +kernel))
          (fun _ _ _ _ _ => pg_name (i := 4) sc_l_names.nd rfl (Or.inl rfl)) (fun _ _ _ _ _ => pts_nil) (fun _ _ _ _ _ => pe_ix ix_str (pv 2) (pe_c cD hr (by decide) rfl (pa_cons (pv 0) (pa_cons pe_int pa_nil))) (fun _ _ => rfl)))))
      (pss_cons (ps_par (i := 6) (j := 7) rfl sc_l_names.nd rfl rfl (by decide) rfl rfl (pa_cons (pe_c cD hr (by decide) rfl (pa_cons (pv 0) (pa_cons (pe_op op_add (pv 3) pe_int) pa_nil))) (pa_cons (pe_c cD hr (by decide) rfl (pa_cons (pv 0) (pa_cons pe_int pa_nil))) pa_nil)) rfl)
      (pss_cons (ps_par (i := 8) (j := 9) rfl sc_l_names.nd rfl rfl (by decide) rfl rfl (pa_cons (pe_ix ix_list (pe_lst (pa_cons pe_int (pa_cons pe_int (pa_cons pe_int (pa_cons pe_int (pa_cons pe_int (pa_cons pe_int (pa_cons pe_int (pa_cons pe_int pa_nil))))))))) (pe_c cD hr (by decide) rfl (pa_cons (pv 0) (pa_cons pe_int pa_nil))) (fun _ _ => rfl)) (pa_cons (pe_c cD hr (by decide) rfl (pa_cons (pv 0) (pa_cons pe_int pa_nil))) pa_nil)) rfl)
      (pss_cons (ps_set (i := 10) sc_l_names.nd rfl (.inl rfl) (pe_lst pa_nil))
      (pss_cons (ps_for PassesOwn.never rfl (pi_range1 rfl bl.range (pa_cons (pv 1) pa_nil)) (pg_name (i := 4) sc_l_names.nd rfl (.inl rfl))
        (C8.pss_cut (ps_set (i := 11) sc_l_names.nd rfl (.inl rfl) (pe_slice sl_str (pv 5) (po_some (pv 6)) (po_some (pe_op op_add (pv 6) (pe_ix ix_list (pe_lst (pa_cons pe_int (pa_cons (pe_op op_mod (pv 4) (pe_op op_add (pe_op op_sub (pv 3) (pv 6)) pe_int)) pa_nil))) (pv 9) (fun _ _ => rfl))))))
        (pss_one (ps_expr (pe_bm PySem.F.plainAttrs_list PySem.F.slot_list_append PySem.F.type_list_append mt_append (pv 10) (pa_cons (pe_op op_add_str (pe_op op_add_str (pe_slice sl_str (pv 5) po_none (po_some (pv 6))) (pe_ix ix_str (pv 2) (pe_op op_mod (pe_op op_add (pv 7) (pe_op op_mul (pv 8) (pv 4))) pe_int) (fun _ _ => rfl))) (pv 11)) pa_nil))))))
      (pss_one (ps_ret (pv 10)))))))))), ?_⟩
    -- the size
    refine ⟨_, rfl, p, c + 39, _, rfl, pen, by decide, by decide, fun z0 H2 a2 b2 pen2 k2 => ?_⟩
    obtain ⟨sz, rfl⟩ := Int.eq_ofNat_of_zero_le a2
    have sz7 : sz ≤ 7 := by omega
    -- the base
    refine ⟨fun σ' H' => ∃ bs : List Nat, σ' = [some (.ref p), some (.int n), some (.str (Str.ofString "abcdefghijklmnopqrstuvwxyz")), some (.int (sz : Int)), none, some (.str (S bs)), none, none, none, none, none, none] ∧ bs.length = sz ∧ (∀ c ∈ bs, 97 ≤ c ∧ c ≤ 122) ∧
      Held H' p (c + 30) ∧ Kp p H H', ?_, ?_⟩
    · refine ⟨⟨_, rfl⟩, _, rfl, _, rfl, by omega, by omega, ?_⟩
      rw [Int.toNat_natCast]
      intro D hD
      have offD := Cel.of pen2 hD
      have sD := same_new (o := .lst []) hD
      refine lc_range (n := sz) (fun i H3 => ∃ bs : List Nat, bs.length = i ∧ (∀ c ∈ bs, 97 ≤ c ∧ c ≤ 122) ∧ H3 D = some (.lst (bs.map fun c => V.str (S [c]))) ∧ Held H3 p (c + 39 - i) ∧ Kp p H2 H3 ∧ Cel p D H3) ?_ ?_ ?_
      · exact ⟨[], rfl, by simp, upd_same, pen2.same sD, Kp.same sD, offD.kp (Kp.same sD)⟩
      · rintro i H3 hi ⟨bs, hbl, hbc, hd, pen3, k3, off3⟩
        refine ⟨rfl, ?_⟩
        refine ⟨_, rfl, _, rfl, p, c + 39 - (i + 1), _, rfl, pen3.weak (by omega), by decide, by decide, fun r H4 r0 r1 pen4 k4 => ?_⟩
        obtain ⟨rn, rfl⟩ := Int.eq_ofNat_of_zero_le r0
        have hd4 := k4.1 _ _ hd off3.ne
        have off4 := off3.kp k4
        refine ⟨_, _, 97 + rn, rfl, rfl, by decide +kernel, at_lets rfl (by omega), _, hd4, ?_, bs ++ [97 + rn], by simp [hbl], ?_, ?_, pen4.put off4, (k3.trans k4).new hD, ?_⟩
        · rw [List.length_map, hbl]
          exact Nat.lt_of_lt_of_le (by omega : i < 64) (by decide)
        · intro c' hc'
          rcases List.mem_append.mp hc' with hc' | hc'
          · exact hbc c' hc'
          · rw [List.mem_singleton] at hc'
            omega
        · rw [upd_same]
          simp [S]
        · exact off4.put off4.ne.symm
      · rintro H3 ⟨bs, hbl, hbc, hd, pen3, k3, off3⟩
        have ey : (bs.map fun c => V.str (S [c])) = (bs.map fun c => S [c]).map V.str := by rw [List.map_map]; rfl
        refine ⟨_, D, bs.map fun c => S [c], rfl, rfl, .inl (by rw [← ey]; exact SqL.of hd), ?_, bs, ?_, hbl, hbc, pen3.weak (by omega), k2.trans k3⟩
        · rw [ones bs, List.length_map]
          have e2 : (Str.ofString "").length = 0 := by decide +kernel
          rw [e2, hbl]
          omega
        · have e3 : Txt.join (Str.ofString "") (bs.map fun c => S [c]) = S bs := by
            have e4 : Str.ofString "" = S [] := by decide +kernel
            have e5 : (bs.map fun c => S [c]) = (bs.map fun c => [c]).map S := by rw [List.map_map]; rfl
            rw [e4, e5, SX.join_S, joined]
          rw [e3]
          rfl
    clear pen pen2 k2
    rintro σ' H3 ⟨bs, rfl, hbl, hbc, pen3, k3⟩
    refine ⟨_, rfl, _, rfl, _, _, rfl, rfl, p, c + 29, _, rfl, pen3, by omega, by omega, fun at_ H4 a4 b4 pen4 k4 => ?_⟩
    refine ⟨_, rfl, p, c + 28, _, rfl, pen4, by decide, by decide, fun bg H5 a5 b5 pen5 k5 => ⟨_, _, rfl, ?_⟩⟩
    refine ⟨by show 8 ≤ sizeLine; decide, fun u fu => ?_⟩
    have su := same_new (o := .lst [.int 1, .int 3, .int 5, .int 7, .int 9, .int 11, .int 15, .int 17]) fu
    refine ⟨_, rfl, p, c + 27, 8, rfl, pen5.same su, by decide, by decide, fun q6 H6 a6 b6 pen6 k6 => ?_⟩
    have hu6 := k6.1 u _ upd_same (pen5.ne_new fu)
    obtain ⟨st, hst, est⟩ := pick (fun n : Nat => V.int (n : Int)) (L := NH.steps) a6 (by simpa [NH.steps] using b6)
    refine ⟨u, _, _, _, rfl, rfl, SqL.of hu6, est, ?_⟩
    refine ⟨_, rfl, p, c + 26, 2, rfl, pen6, by decide, by decide, fun lot H7 a7 b7 pen7 k7 => ⟨_, _, rfl, ?_⟩⟩
    obtain ⟨at_, rfl⟩ := Int.eq_ofNat_of_zero_le a4
    obtain ⟨bg, rfl⟩ := Int.eq_ofNat_of_zero_le a5
    obtain ⟨lot, rfl⟩ := Int.eq_ofNat_of_zero_le a7
    have hat : at_ ≤ bs.length := by omega
    have k07 := ((k3.trans k4).trans k5).trans (((Kp.same su).trans k6).trans k7)
    have st17 : st ≤ 17 := by
      simp only [NH.steps, List.mem_cons, List.not_mem_nil, or_false] at hst
      omega
    clear k3 k4 k5 k6 k7 su pen3 pen4 pen5 pen6
    refine ⟨by show 0 ≤ sizeLine; decide, fun o fo => ?_⟩
    have so := same_new (o := .lst []) fo
    refine ⟨_, rfl, _, rfl, by omega, by omega, ?_⟩
    rw [Int.toNat_natCast]
    have fo0 : H o = none := by
      cases e : H o with
      | none => rfl
      | some ob =>
        by_cases z : o = p
        · rw [z] at fo
          obtain ⟨l0, ns0, n0, m0, h0, _⟩ := pen7
          rw [h0] at fo
          cases fo
        · rw [k07.1 o ob e z] at fo
          cases fo
    refine for_range (n := n) (fun i σ H8 => ∃ (v4 v11 : Option V), σ = [some (.ref p), some (.int n), some (.str (Str.ofString "abcdefghijklmnopqrstuvwxyz")), some (.int (sz : Int)), v4, some (.str (S bs)), some (.int (at_ : Int)), some (.int (bg : Int)), some (.int (st : Int)), some (.int (lot : Int)), some (.ref o), v11] ∧
        H8 o = some (.lst (((List.range i).map (NH.word bs at_ bg st lot)).map fun l => V.str (S l))) ∧ Held H8 p c ∧ Kp p H H8 ∧ Cel p o H8)
      ⟨none, none, rfl, upd_same, (pen7.same so).weak (by omega), k07.trans (Kp.same so), (Cel.of pen7 fo).kp (Kp.same so)⟩ ?_ ?_
    · rintro i σ H8 hi ⟨v4, v11, rfl, ho8, pen8, k8, off8⟩
      have len0 : (S bs).length ≤ sizeLine := by rw [SX.S_len]; exact Nat.le_trans (by omega : bs.length ≤ 8) (by decide)
      have lets_len : (Str.ofString "abcdefghijklmnopqrstuvwxyz").length ≤ sizeLine := by decide +kernel
      obtain ⟨m, hm⟩ : ∃ m : Nat, (if lot = 0 then 8 else i % (bs.length - at_ + 1)) = m := ⟨_, rfl⟩
      refine ⟨fun σ' H' => σ' = [some (.ref p), some (.int n), some (.str (Str.ofString "abcdefghijklmnopqrstuvwxyz")), some (.int (sz : Int)), some (.int (0 + (i : Int))), some (.str (S bs)), some (.int (at_ : Int)), some (.int (bg : Int)), some (.int (st : Int)), some (.int (lot : Int)), some (.ref o), some (.str (S ((bs.drop at_).take m)))] ∧ Same H8 H', ?_, ?_⟩
      · refine ⟨_, rfl, _, rfl, _, rfl, _, rfl, _, rfl, _, rfl, _, rfl, _, _, rfl, rfl, _, _, rfl, rfl, _, _, rfl, rfl, by omega, by show 2 ≤ sizeLine; decide, fun u2 fu2 => ?_⟩
        have eix : atI [V.int 8, .int ((0 + (i : Int)) % ((sz : Int) - (at_ : Int) + 1))] (lot : Int) = some (.int (m : Nat)) := by
          rcases (show lot = 0 ∨ lot = 1 by omega) with rfl | rfl
          · rw [← hm]
            rfl
          · have h1 : ((sz : Int) - (at_ : Int) + 1) = ((bs.length - at_ + 1 : Nat) : Int) := by omega
            rw [h1, Int.zero_add, ← Int.natCast_emod, ← hm]
            rfl
        refine ⟨_, rfl, u2, _, _, _, rfl, rfl, SqL.of upd_same, eix, _, _, rfl, rfl, _, rfl, _, rfl, len0, ?_⟩
        rw [cut_m (j := at_) (m := m) rfl (by omega) hat]
        exact ⟨rfl, same_new fu2⟩
      · rintro σ' H9 ⟨rfl, s9⟩
        have ho9 := s9 _ _ ho8
        have e5 : ((bg : Int) + (st : Int) * (0 + (i : Int))) % 26 = (((bg + st * i) % 26 : Nat) : Int) := by
          rw [Int.zero_add, ← Int.natCast_mul, ← Int.natCast_add]
          exact (Int.natCast_emod _ 26).symm
        refine ⟨_, rfl, Or.inl ⟨rfl, _, SqL.of ho9⟩, _, rfl, _, rfl, _, rfl, _, rfl, len0, ?_⟩
        rw [cut_t rfl hat]
        refine ⟨_, rfl, _, rfl, _, rfl, _, rfl, _, _, rfl, rfl, cb_l (by omega) (by omega), _, _, rfl, rfl, _, _, rfl, rfl, (by decide : (0 : Int) < 26), _, _, _, rfl, rfl, lets_len, at_lets e5 (Nat.mod_lt _ (by decide)), _, _, rfl, rfl, ?_, ?_⟩
        · rw [SX.S_len, List.length_take]
          exact Nat.le_trans (by show min at_ bs.length + 1 ≤ 64; omega) (by decide)
        have ec : S (bs.take at_) ++ (⟨#[97 + (bg + st * i) % 26]⟩ : Str) = S (bs.take at_ ++ [97 + (bg + st * i) % 26]) := SX.S_cat _ _
        rw [ec]
        refine ⟨_, rfl, _, _, rfl, rfl, ?_, ?_⟩
        · rw [SX.S_len, SX.S_len, List.length_append, List.length_take, List.length_take, List.length_drop]
          exact Nat.le_trans (by show min at_ bs.length + 1 + min m (bs.length - at_) ≤ 64; omega) (by decide)
        rw [SX.S_cat]
        have ew : bs.take at_ ++ [97 + (bg + st * i) % 26] ++ (bs.drop at_).take m = NH.word bs at_ bg st lot i := by rw [← hm]; rfl
        rw [ew]
        refine ⟨o, _, _, rfl, rfl, ho9, ?_, _, _, rfl, ?_, (pen8.same s9).put (off8.kp (Kp.same s9)), (k8.trans (Kp.same s9)).new fo0, (off8.kp (Kp.same s9)).put off8.ne.symm⟩
        · rw [List.length_map, List.length_map, List.length_range]
          exact Nat.lt_of_lt_of_le (by omega : i < 64) (by decide)
        · rw [upd_same, List.range_succ, List.map_append, List.map_append]
          rfl
    · rintro σ H8 ⟨v4, v11, rfl, ho8, pen8, k8, off8⟩
      refine ⟨_, rfl, hQ o _ H8 pen8 k8 fo0 ho8 (by simp) (fun z hz => ?_) (NH.all_unlike hat hst n hn)⟩
      obtain ⟨k, _, rfl⟩ := List.mem_map.mp hz
      exact NH.word_ok (by omega) hbc hat
end
end K48
set_option Elab.async false
set_option linter.all false
set_option maxRecDepth 100000
set_option maxHeartbeats 4000000
/-! OW: ==, !=, str and repr of instances of an own class by its own __eq__, __str__, __repr__. -/
namespace OW
open PySem PySem.Spec PyProof.Rows L2
/-- what is known of a special def of the class: where it stands, that it keeps its promise -/
structure Spc (P : Program) (w : World) (K : PySem.W.Frag) (mg : Str → Option Value) (base : Heap) (k : Nat) (C : Addr) (m : Str) (sp : Sp) : Prop where
  ex : ∃ (f : Addr) (fd : FuncData) (ps : List Str), PySem.W.findIn K (.ref C) m = some (some (.ref f)) ∧ PySem.W.isFn K (.ref f) = true ∧ FnOk P w K mg base CX0 k f fd ps sp ∧ Binds K fd ps []
section
variable {X : Cx} {pins : List (Addr × Obj)} {σ : L2.St} {H : Hp} {s : Shared} {Q : VK} {k : Nat} {C a b : Addr} {sp : Sp}
/-- a def called at any around with room -/
theorem run_at {f : Addr} {fd : FuncData} {ps : List Str} {A : Around} {us : List Value} {vs : List V} {E' : Value → Shared → Prop} (F : FnOk X.prog X.w X.K X.mg X.base CX0 k f fd ps sp) (hb : Binds X.K fd ps []) (hr : Room k A) (I : Inv X pins σ H s)
    (he : Env0 X.prog X.w X.K X.mg X.base A X.stack s H) (r : Vals vs us) (h : sp vs H Q E0) : wpAny (model X.prog X.w) A (call (.ref f) us) (EP X pins σ Q) E' s := by
  have hl : us.length = ps.length := by rw [← r.length]; exact F.len _ _ _ _ h
  have b := hb s us I.kIn (by rw [List.append_nil]; exact hl)
  rw [List.append_nil] at b
  refine wpAny_call (codeAny_mono (F.run A X.stack s H ⟨us, []⟩ us vs Q E0 hr he b r h) fun r s' hq => ?_)
  cases r with
  | error e => exact False.elim hq
  | ok fl =>
    cases fl with
    | ret u => exact I.after hq
    | next => exact False.elim hq
    | brk => exact False.elim hq
    | cont => exact False.elim hq
theorem same_first : PySem.W.notFirst X.K C (.ref C) = true := by
  unfold PySem.W.notFirst
  rw [beq_self_eq_true, Bool.true_or]
/-- x == y, both of the class -/
def rEqO (C : Addr) (sp : Sp) : R2 := fun x y H Q => ∃ a dx fs b dy gs, x = .ref a ∧ y = .ref b ∧ H a = some (.ins C dx fs) ∧ H b = some (.ins C dy gs) ∧ sp [x, y] H (fun v H' => ∃ z, v = .bl z ∧ Q (.bl z) H') E0
def rNeO (C : Addr) (sp : Sp) : R2 := fun x y H Q => ∃ a dx fs b dy gs, x = .ref a ∧ y = .ref b ∧ H a = some (.ins C dx fs) ∧ H b = some (.ins C dy gs) ∧ sp [x, y] H (fun v H' => ∃ z, v = .bl z ∧ Q (.bl (!z)) H') E0
theorem op_eqO (S : Spc X.prog X.w X.K X.mg X.base k C "__eq__" sp) (hr : Room k X.A) : OpR X (compareOp .Eq) (rEqO C sp) := by
  obtain ⟨f, fd, ps, h1, h2, F, hb⟩ := S.ex
  intro pins s σ H x y v u Q I rx ry h
  obtain ⟨a, dx, fs, b, dy, gs, rfl, rfl, ea, eb, q⟩ := h
  cases (show v = Value.ref a from rx)
  cases (show u = Value.ref b from ry)
  obtain ⟨mA, O, _⟩ := ins_get I.hok ea
  obtain ⟨od, J, _⟩ := O.look
  obtain ⟨mB, O', _⟩ := ins_get I.hok eb
  obtain ⟨od', J', _⟩ := O'.look
  obtain ⟨m, hF⟩ := I.fr
  show wpAny _ _ (richCompare .Eq (.ref a) (.ref b)) _ _ _
  refine PySem.W.cmp_K (op := .Eq) (tb := .ref C) hr.units0 hF I.ok.mod.kin J J'.type same_first h1 h2 ?_
  refine wpAny_mono (run_at (E' := X.xe) (vs := [.ref a, .ref b]) F hb hr I I.env0 (.cons rfl (.cons rfl .nil)) q) (fun w s' z => ?_) fun _ _ x => x
  obtain ⟨z', H', I', rz, z, rfl, qz⟩ := z
  cases (show w = Value.bool z from rz)
  exact ⟨.bl z, H', I', rfl, qz⟩
open Builtin in
theorem op_neO (S : Spc X.prog X.w X.K X.mg X.base (k + 1) C "__eq__" sp) (hn : PySem.W.findIn X.K (.ref C) "__ne__" = some (some (.builtin "object.__ne__"))) (hm : PySem.W.mroIn X.K C (.type "object") = some true) (hr : Room (k + 2) X.A) : OpR X (compareOp .NotEq) (rNeO C sp) := by
  obtain ⟨f, fd, ps, h1, h2, F, hb⟩ := S.ex
  intro pins s σ H x y v u Q I rx ry h
  obtain ⟨a, dx, fs, b, dy, gs, rfl, rfl, ea, eb, q⟩ := h
  cases (show v = Value.ref a from rx)
  cases (show u = Value.ref b from ry)
  obtain ⟨mA, O, _⟩ := ins_get I.hok ea
  obtain ⟨od, J, _⟩ := O.look
  obtain ⟨mB, O', _⟩ := ins_get I.hok eb
  obtain ⟨od', J', _⟩ := O'.look
  have KI := I.kIn
  have callEq : wpAny (model X.prog X.w) X.A.in1 (call (.ref f) [.ref a, .ref b]) (fun v s' => ∃ z, v = .bool z ∧ EP X pins σ Q (.bool (!z)) s') X.xe s := by
    refine wpAny_mono (run_at (E' := X.xe) (vs := [.ref a, .ref b]) F hb hr.in1 I I.env0.in1 (.cons rfl (.cons rfl .nil)) q) (fun w s' z => ?_) fun _ _ x => x
    obtain ⟨z', H', I', rz, z, rfl, qz⟩ := z
    exact ⟨z, rz, .bl (!z), H', I', rfl, qz⟩
  have slot := PySem.F.cmp_object.ne
  have sub : PySem.W.Looks (model X.prog X.w) s.heap (isInstance (.ref a) (.type "object")) true := J.type.andThen (PySem.W.looks_mroIn KI hm)
  have uu : X.A.in1.units < cLine := hr.in1.units0
  have body : wpAny (model X.prog X.w) X.A.in1 (Builtin.«object.__ne__» ⟨[.ref a, .ref b], []⟩) (fun fin s' => match fin with | .done f => (match f with | .ret v => EP X pins σ Q v s' ∧ ∃ z, v = .bool z | _ => False) | .again _ => False) X.xe s := by
    unfold Builtin.«object.__ne__»
    repeat (first
      | with_reducible refine wpAny_cRoomFor uu ?_
      | (refine wpAny_bind (m := callSpecialIfBound? (.ref a) (Str.ofString "__eq__") [.ref b]) (PySem.W.ifBound_K KI J h1 h2 (wpAny_mono callEq (fun r s' hr => by
          obtain ⟨z, rfl, hq⟩ := hr
          repeat (first | exact ⟨hq, _, rfl⟩ | exact wpAny_pure ⟨hq, _, rfl⟩ | (refine wpAny_bind (m := truthy (.bool _)) (wpAny_truthy_bool ?_)) | wp_step)) fun _ _ e => e)))
      | wp_step)
  have callNe : wpAny (model X.prog X.w) X.A (call (.builtin "object.__ne__") [.ref a, .ref b]) (fun v s' => EP X pins σ Q v s' ∧ ∃ z, v = .bool z) X.xe s := by
    refine wpAny_call (codeAny_call_builtin slot.plain PySem.F.cmpEntry_ne (PySem.W.check_slot PySem.F.cmpKind_ne PySem.F.cmpSplit_ne sub (PySem.F.cmpArgs_ne _ _) ?_))
    refine wpAny_mono body (fun fin s' z => ?_) fun _ _ x => x
    cases fin with
    | done fl =>
      cases fl with
      | ret v => exact z
      | next => exact z.elim
      | brk => exact z.elim
      | cont => exact z.elim
    | again c => exact z.elim
  show wpAny _ _ (richCompare .NotEq (.ref a) (.ref b)) _ _ _
  unfold richCompare
  simp only [oneThing_ref]
  refine wpAny_holding (wpAny_bind (wpAny_cRoomFor hr.units0 ?_))
  rw [cmpInfo_NotEq]
  dsimp only
  refine wpAny_bind (J.type.here (wpAny_bind (J'.type.here ?_)))
  rw [show (Value.ref C != Value.ref C) = false from by simp]
  simp only [Bool.false_eq_true, if_false]
  refine wpAny_bind (wpAny_pure ?_)
  simp only [Bool.false_eq_true, if_false, tryCompare]
  have fin : wpAny (model X.prog X.w) X.A (call (.builtin "object.__ne__") ([.ref a] ++ [.ref b]) >>= fun v => pure (some v)) (fun r s' => ∃ v, r = some v ∧ EP X pins σ Q v s' ∧ ∃ z, v = .bool z) X.xe s :=
    wpAny_bind (wpAny_mono callNe (fun v s' h' => wpAny_pure ⟨v, rfl, h'⟩) fun _ _ h' => h')
  have bound : wpAny (model X.prog X.w) X.A (callSpecialIfBound? (.ref a) "__ne__" [.ref b]) (fun r s' => ∃ v, r = some v ∧ EP X pins σ Q v s' ∧ ∃ z, v = .bool z) X.xe s := by
    simp only [callSpecialIfBound?, bindSpecialIfBound?]
    refine wpAny_holding (wpAny_bind (wpAny_bind (wpAny_bind (J.type.here ((PySem.W.looks_findIn KI hn).here ?_)))))
    simp only [slot.bind]
    refine wpAny_bind (wpAny_askSetting (wpAny_ite ?_))
    split
    · exact wpAny_bind (wpAny_pure (wpAny_pure fin))
    · exact wpAny_tryCatch (wpAny_bind (wpAny_pure (wpAny_pure fin)))
  refine wpAny_bind (wpAny_bind (wpAny_mono bound (fun r s' z => ?_) fun _ _ h => h))
  obtain ⟨v, rfl, hq, z, rfl⟩ := z
  first | exact wpAny_pure (wpAny_pure hq) | exact wpAny_pure hq
/-- str(x), repr(x) -/
def rStrO (C : Addr) (sp : Sp) : List V → Hp → VK → Prop := fun xs H Q => ∃ a dx fs, xs = [.ref a] ∧ H a = some (.ins C dx fs) ∧ sp [.ref a] H (fun v H' => ∃ z, v = .str z ∧ Q (.str z) H') E0
theorem call_strO (S : Spc X.prog X.w X.K X.mg X.base k C "__str__" sp) (hr : Room (k + 2) X.A) : CallR X (.type "str") (rStrO C sp) := by
  obtain ⟨f, fd, ps, h1, h2, F, hb⟩ := S.ex
  intro pins s σ H xs us Q I r h
  obtain ⟨a, dx, fs, rfl, ea, q⟩ := h
  obtain ⟨u, rfl, ru⟩ := vals1 r
  cases (show u = Value.ref a from ru)
  obtain ⟨mA, O, _⟩ := ins_get I.hok ea
  obtain ⟨od, J, _⟩ := O.look
  refine PySem.W.kso_call hr.in1.in1.units0 I.kIn J h1 h2 ?_
  refine wpAny_mono (run_at (E' := X.xe) (vs := [.ref a]) F hb hr.in1.in1 I I.env0.in1.in1 (.cons rfl .nil) q) (fun w s' z => ?_) fun _ _ x => x
  obtain ⟨z', H', I', rz, z, rfl, qz⟩ := z
  obtain ⟨t, rfl⟩ := rz
  exact ⟨.str z, H', I', ⟨t, rfl⟩, qz⟩
theorem call_reprO (S : Spc X.prog X.w X.K X.mg X.base k C "__repr__" sp) (hr : Room (k + 1) X.A) : CallR X (.builtin "repr") (rStrO C sp) := by
  obtain ⟨f, fd, ps, h1, h2, F, hb⟩ := S.ex
  intro pins s σ H xs us Q I r h
  obtain ⟨a, dx, fs, rfl, ea, q⟩ := h
  obtain ⟨u, rfl, ru⟩ := vals1 r
  cases (show u = Value.ref a from ru)
  obtain ⟨mA, O, _⟩ := ins_get I.hok ea
  obtain ⟨od, J, _⟩ := O.look
  obtain ⟨m, hF⟩ := I.fr
  refine PySem.W.repr_K hr.in1.units0 hF I.ok.mod.kin J h1 h2 ?_
  refine wpAny_mono (run_at (E' := X.xe) (vs := [.ref a]) F hb hr.in1 I I.env0.in1 (.cons rfl .nil) q) (fun w s' z => ?_) fun _ _ x => x
  obtain ⟨z', H', I', rz, z, rfl, qz⟩ := z
  obtain ⟨t, rfl⟩ := rz
  exact ⟨.str z, H', I', ⟨t, rfl⟩, qz⟩
end
end OW
set_option linter.all false
set_option Elab.async false
set_option maxRecDepth 100000
/-! TX: the texts of whole numbers and of fractions, sign by sign. -/
namespace TX
open PySem SX TL NumText
/-- the signs of a whole number -/
def intL (i : Int) : List Nat := if i < 0 then 45 :: numL i.natAbs else numL i.natAbs
theorem tl_int (i : Int) : Str.ofString (toString i) = S (intL i) := by
  by_cases h : i < 0
  · obtain ⟨n, rfl⟩ : ∃ n : Nat, i = -((n + 1 : Nat) : Int) := ⟨i.natAbs - 1, by omega⟩
    have e : toString (-((n + 1 : Nat) : Int)) = "-" ++ toString ((n + 1 : Nat) : Int) := by rfl
    unfold intL
    rw [if_pos h, e]
    have e2 : (-((n + 1 : Nat) : Int)).natAbs = n + 1 := by omega
    rw [e2]
    refine TL.ext_tl ?_
    have e3 : (Str.ofString (toString ((n + 1 : Nat) : Int))).cps.toList = numL (n + 1) := tl_num (n + 1)
    show (Str.ofString ("-" ++ toString ((n + 1 : Nat) : Int))).cps.toList = 45 :: numL (n + 1)
    rw [← e3]
    rw [Str.ofString_eq_toList, Str.ofString_eq_toList, String.toList_append]
    rfl
  · obtain ⟨n, rfl⟩ := Int.eq_ofNat_of_zero_le (by omega : 0 ≤ i)
    unfold intL
    rw [if_neg h]
    exact num_S n
theorem no_minus (n : Nat) : 45 ∉ numL n := numL_free (.inl (by decide))
theorem no_stroke_int (i : Int) : 47 ∉ intL i := by
  unfold intL
  split
  · intro h
    rcases List.mem_cons.mp h with z | z
    · cases z
    · exact numL_free (.inl (by decide)) z
  · exact numL_free (.inl (by decide))
theorem minus_S : (Str.ofString "-") = S [45] := by decide +kernel
theorem stroke_S : (Str.ofString "/") = S [47] := by decide +kernel
theorem one_S : (Str.ofString "1") = S [49] := by decide +kernel
theorem zero_S : (Str.ofString "0") = S [48] := by decide +kernel
theorem empty_S : (Str.ofString "") = S [] := by decide +kernel
theorem rp_cons (l : List Nat) : Txt.removeprefix (S (45 :: l)) (S [45]) = S l := by
  rw [StrLaws.removeprefix_eq, StrLaws.subAt_eq]
  have h1 : (decide (0 + (S [45]).length ≤ (S (45 :: l)).length)) = true := by
    rw [S_len, S_len]
    simp
  rw [h1]
  have h2 : (((S (45 :: l)).cps.toList.drop 0).take (S [45]).length == (S [45]).cps.toList) = true := by
    rw [S_len]
    simp
  rw [h2]
  simp only [Bool.and_self, if_true]
  rw [S_len, S_len]
  simp
theorem rp_other {c : Nat} {l : List Nat} (h : c ≠ 45) : Txt.removeprefix (S (c :: l)) (S [45]) = S (c :: l) := by
  rw [StrLaws.removeprefix_eq, StrLaws.subAt_eq]
  have h2 : (((S (c :: l)).cps.toList.drop 0).take (S [45]).length == (S [45]).cps.toList) = false := by
    rw [S_len]
    simp [h]
  rw [h2, Bool.and_false]
  simp
theorem rp_int (i : Int) : Txt.removeprefix (S (intL i)) (S [45]) = S (numL i.natAbs) := by
  unfold intL
  split
  · exact rp_cons _
  · have hne := numL_ne i.natAbs
    have hno := no_minus i.natAbs
    cases hl : numL i.natAbs with
    | nil => exact absurd hl hne
    | cons c l =>
      rw [hl] at hno
      exact rp_other fun z => hno (by rw [z]; exact List.mem_cons_self ..)
theorem intL_len {i : Int} {k : Nat} (hk : 0 < k) (h : i.natAbs < 10 ^ k) : (intL i).length ≤ k + 1 := by
  have := numL_len hk h
  unfold intL
  split
  · rw [List.length_cons]; omega
  · omega
theorem int_int {i : Int} (h : (intL i).length ≤ 4300) : intText? (S (intL i)) = some i := by
  unfold intL at h ⊢
  split
  · rename_i hi
    have e := intText_neg (x := S (45 :: numL i.natAbs)) (cs := numL i.natAbs) rfl (numL_digits _) (numL_ne _) (by rw [S_len]; rw [if_pos hi] at h; exact h)
    rw [e, numL_val]
    congr 1
    omega
  · rename_i hi
    have e := intText_digits (x := S (numL i.natAbs)) (numL_digits _) (numL_ne _) (by rw [S_len]; rw [if_neg hi] at h; exact h)
    rw [e]
    show some ((digitsVal (numL i.natAbs) : Nat) : Int) = some i
    rw [numL_val]
    congr 1
    omega
/-- the text of a fraction -/
def txL (r : Rat) : List Nat := if r.den = 1 then intL r.num else intL r.num ++ (47 :: numL r.den)
theorem numL_head : ∀ n : Nat, 0 < n → ∃ c l, numL n = c :: l ∧ c ≠ 48 := by
  intro n
  induction n using Nat.strongRecOn with
  | _ n ih =>
    intro hn
    by_cases h : n < 10
    · rw [numL_lt h]
      exact ⟨48 + n, [], rfl, by omega⟩
    · rw [numL_step (by omega)]
      obtain ⟨c, l, e, hc⟩ := ih (n / 10) (by omega) (by omega)
      exact ⟨c, l ++ [48 + n % 10], by rw [e]; rfl, hc⟩
theorem numL_zero : numL 0 = [48] := numL_lt (by decide)
theorem part_one (i : Int) : Txt.partition (S (intL i)) (S [47]) = (S (intL i), S [], S []) := partition_none (by simp) (par_head_none (no_stroke_int i))
theorem part_two (i : Int) (l : List Nat) : Txt.partition (S (intL i ++ (47 :: l))) (S [47]) = (S (intL i), S [47], S l) := partition_some (by simp) (par_head (sep := []) l (no_stroke_int i))
theorem numL_pow {n k : Nat} (h : n < 2 ^ k) (hk : 0 < k) : (numL n).length ≤ k := numL_len hk (Nat.lt_of_lt_of_le h (Nat.pow_le_pow_left (by decide) k))
theorem intL_pow {i : Int} {k : Nat} (h : i.natAbs < 2 ^ k) (hk : 0 < k) : (intL i).length ≤ k + 1 := intL_len hk (Nat.lt_of_lt_of_le h (Nat.pow_le_pow_left (by decide) k))
theorem txL_len {r : Rat} {k : Nat} (h : KM.Sz k r) (hk : 0 < k) : (txL r).length ≤ 2 * k + 2 := by
  have h1 := intL_pow h.1 hk
  have h2 := numL_pow h.2 hk
  unfold txL
  split
  · omega
  · rw [List.length_append, List.length_cons]; omega
end TX
set_option Elab.async false
set_option linter.all false
set_option maxRecDepth 100000
set_option maxHeartbeats 4000000
/-! data: texts, pairs -/
namespace DQ
open PySem PySem.Spec PyProof.Rows L2
def pD (q : Int × Int) : PyData := .tuple [.int q.1, .int q.2]
theorem all_strs : ∀ xs : List Str, (∀ x ∈ xs, PyData.strOk x = true) → PyData.canLayAll0 (xs.map PyData.str) = true ∧ PyData.depthAll (xs.map PyData.str) = 0
  | [], _ => ⟨rfl, rfl⟩
  | x :: r, h => by
    obtain ⟨h1, h2⟩ := all_strs r fun y hy => h y (List.mem_cons_of_mem _ hy)
    have h3 := h x List.mem_cons_self
    exact ⟨by simp [PyData.canLayAll0, PyData.canLay0, h1, h3], by simp [PyData.depthAll, PyData.depth, h2]⟩
theorem sh_strs {xs : List Str} (h : ∀ x ∈ xs, PyData.strOk x = true) : SeqAt.shaped (.list (xs.map PyData.str)) = true := by
  obtain ⟨h1, h2⟩ := all_strs xs h
  simp [SeqAt.shaped, PyData.canLay0, PyData.depth, h1, h2]
theorem all_pairs : ∀ qs : List (Int × Int), PyData.canLayAll0 (qs.map pD) = true ∧ PyData.depthAll (qs.map pD) ≤ 2
  | [] => ⟨rfl, by decide⟩
  | _ :: r => by
    obtain ⟨h1, h2⟩ := all_pairs r
    refine ⟨by simp [PyData.canLayAll0, PyData.canLay0, pD, h1], ?_⟩
    show max (PyData.depth (pD _)) (PyData.depthAll (r.map pD)) ≤ 2
    have h3 : ∀ q, PyData.depth (pD q) ≤ 2 := fun q => by show 1 ≤ 2; decide
    exact Nat.max_le.mpr ⟨h3 _, h2⟩
theorem sh_pair (q : Int × Int) : SeqAt.shaped (pD q) = true := rfl
theorem sh_pairs (qs : List (Int × Int)) : SeqAt.shaped (.list (qs.map pD)) = true := by
  obtain ⟨h1, h2⟩ := all_pairs qs
  have h3 : PyData.depthAll (qs.map pD) + 1 ≤ 64 := by omega
  simp [SeqAt.shaped, PyData.canLay0, PyData.depth, h1]
  omega
theorem eq_strs (xs : List Str) : PyData.eqv (.list (xs.map PyData.str)) (.list (xs.map PyData.str)) = true := by
  refine PySem.W.eqv_refl_alike _ ?_
  induction xs with
  | nil => rfl
  | cons x xs ih => simpa [PySem.W.alike, PySem.W.alikeAll] using ih
theorem eq_pair (q : Int × Int) : PyData.eqv (pD q) (pD q) = true := PySem.W.eqv_refl_alike _ rfl
theorem eq_pairs (qs : List (Int × Int)) : PyData.eqv (.list (qs.map pD)) (.list (qs.map pD)) = true := by
  refine PySem.W.eqv_refl_alike _ ?_
  induction qs with
  | nil => rfl
  | cons x xs ih => simpa [PySem.W.alike, PySem.W.alikeAll, pD] using ih
theorem dp_strs {K : PySem.W.Frag} {H : Hp} : ∀ xs : List Str, DpAll K H (xs.map V.str) (xs.map PyData.str)
  | [] => .nil
  | x :: xs => .cons (.str x) (dp_strs xs)
theorem dp_pair {K : PySem.W.Frag} {H : Hp} {t : Addr} {q : Int × Int} (h : H t = some (.tup [.int q.1, .int q.2])) : Dp K H (.ref t) (pD q) := .tup (SqT.of h) (.cons (.int _) (.cons (.int _) .nil))
theorem dp_pairs {K : PySem.W.Frag} {H : Hp} : ∀ L : List (Addr × (Int × Int)), (∀ p ∈ L, H p.1 = some (.tup [.int p.2.1, .int p.2.2])) → DpAll K H (L.map fun p => V.ref p.1) ((L.map (·.2)).map pD)
  | [], _ => .nil
  | p :: L, h => .cons (dp_pair (h p List.mem_cons_self)) (dp_pairs L fun q hq => h q (List.mem_cons_of_mem _ hq))
/-- a dict by names -/
theorem val_map (f : Str → V) {y : Str} : ∀ {l : List Str}, y ∈ l → valV (l.map fun x => ((Sum.inr x : Key), f x)) (Sum.inr y) = some (f y)
  | x :: l, h => by
    rw [List.map_cons]
    by_cases e : x = y
    · rw [valV_pos (by rw [e])]
      rw [e]
    · rw [valV_neg (fun z => e (Sum.inr.inj z))]
      exact val_map f ((List.mem_cons.mp h).resolve_left fun z => e z.symm)
theorem val_none (f : Str → V) {y : Str} : ∀ {l : List Str}, y ∉ l → valV (l.map fun x => ((Sum.inr x : Key), f x)) (Sum.inr y) = none
  | [], _ => rfl
  | x :: l, h => by
    rw [List.map_cons, valV_neg (fun z => h (by rw [Sum.inr.inj z]; exact List.mem_cons_self))]
    exact val_none f fun z => h (List.mem_cons_of_mem _ z)
theorem put_new (f : Str → V) {y : Str} {l : List Str} (h : y ∉ l) : putK (l.map fun x => ((Sum.inr x : Key), f x)) (Sum.inr y) (f y) = (l ++ [y]).map fun x => ((Sum.inr x : Key), f x) := by
  rw [putK_new _ (val_none f h), List.map_append]
  rfl
theorem put_old (f : Str → V) {y : Str} {v : V} {l : List Str} (h : y ∈ l) : putK (l.map fun x => ((Sum.inr x : Key), f x)) (Sum.inr y) v = l.map fun x => ((Sum.inr x : Key), if x = y then v else f x) := by
  have a : ((l.map fun x => ((Sum.inr x : Key), f x)).any fun kv => decide (kv.1 = Sum.inr y)) = true := by
    rw [List.any_eq_true]
    exact ⟨(Sum.inr y, f y), List.mem_map.mpr ⟨y, h, rfl⟩, by simp⟩
  unfold putK
  rw [if_pos a, List.map_map]
  refine List.map_congr_left fun x _ => ?_
  show (if (Sum.inr x : Key) = Sum.inr y then ((Sum.inr x : Key), v) else (Sum.inr x, f x)) = _
  by_cases e : x = y
  · rw [if_pos (by rw [e]), if_pos e]
  · rw [if_neg (fun z => e (Sum.inr.inj z)), if_neg e]
theorem merge_map (f : Str → V) : ∀ {l m : List Str}, (m ++ l).Nodup → mergeK (m.map fun x => ((Sum.inr x : Key), f x)) (l.map fun x => ((Sum.inr x : Key), f x)) = (m ++ l).map fun x => ((Sum.inr x : Key), f x)
  | [], m, _ => by rw [List.append_nil]; rfl
  | y :: l, m, h => by
    have h' : (m ++ [y] ++ l).Nodup := by rw [List.append_assoc]; exact h
    have ny : y ∉ m := fun z => by
      have := (List.nodup_append.mp h).2.2 y z y List.mem_cons_self
      exact this rfl
    show mergeK (putK _ (Sum.inr y) (f y)) (l.map fun x => ((Sum.inr x : Key), f x)) = _
    rw [put_new f ny, merge_map f h', List.append_assoc]
    rfl
end DQ
set_option Elab.async false
set_option linter.all false
set_option maxRecDepth 100000
set_option maxHeartbeats 4000000
/-! ts.index(x) of a tuple of texts -/
namespace TI
open PySem PySem.Spec PyProof.Rows L2
def rIxOf (K : PySem.W.Frag) : V → List V → Hp → VK → Prop := fun x xs H Q => ∃ (a : Addr) (ys : List Str) (k : Str), x = .ref a ∧ xs = [.str k] ∧ SqT K H a (ys.map V.str) ∧ k ∈ ys ∧ Q (.int (ys.idxOf k : Nat)) H
theorem mt_tindex {X : Cx} : MtR X "tuple.index" (rIxOf X.K) := by
  intro pins s σ H x xs v us Q I rx rxs h
  obtain ⟨a, ys, k, rfl, rfl, hs, hk, q⟩ := h
  cases rx
  obtain ⟨u, rfl, ru⟩ := rxs.one
  obtain ⟨t, rfl⟩ := ru
  obtain ⟨its, rv, it, hlen⟩ := I.tuple hs
  exact PySem.SeqAt.tuple_index_strs (vs := its) it (Vals.strs rv) hk ⟨.int _, H, I.tok _, ⟨_, rfl⟩, q⟩
/-- len of a list or a tuple, where the reading must be named -/
def rLen (K : PySem.W.Frag) : List V → Hp → VK → Prop := fun xs H Q => ∃ (p : Addr) (ys : List V), xs = [V.ref p] ∧ (SqL K H p ys ∨ SqT K H p ys) ∧ Q (V.int (ys.length : Nat)) H
theorem call_lenK {X : Cx} : CallR X (.builtin "len") (rLen X.K) := call_len_seq
end TI
set_option Elab.async false
set_option linter.all false
set_option maxRecDepth 100000
set_option maxHeartbeats 4000000
namespace K48
open PySem PySem.Spec PyProof.Rows L2
open C8 (Cal Mak Met pe_c pe_mk pe_mt pe_mt0)
open KM (pr Sz)
section
variable {P : Program} {w : World} {K : PySem.W.Frag} {mg : Str → Option Value} {base : Heap} {f C CT : Addr} {fd : FuncData}
theorem log_1920 {i : Int} {n : Nat} (h : i.natAbs < 2 ^ n) (h0 : 0 < n) (h9 : n ≤ 1920) : i.natAbs.log2 < 1920 := Nat.lt_of_lt_of_le (PySem.Flt.log2_lt_of h0 h) h9
def spStr (C : Addr) (g : Rat → Str) : Sp := fun vs H Q _ => ∃ (p : Addr) (r : Rat) (n : Nat), vs = [.ref p] ∧ Sh C H p (pr r) ∧ Sz n r ∧ 0 < n ∧ n ≤ 1900 ∧ Q (.str (g r)) H
theorem S_len_le {l : List Nat} {k : Nat} (h : l.length ≤ k) (hk : k ≤ 100000) : (SX.S l).length ≤ sizeLine := by
  rw [SX.S_len]
  exact Nat.le_trans h (Nat.le_trans hk (by decide))
theorem ok_str (F : Dn K d_Share_str f fd) (T : Cl K mg C) : FnOk P w K mg base CX0 1 f fd ["self"] (spStr C fun r => SX.S (TX.txL r)) := by
  refine F.ok sc_Share_str (fun vs H Q E h => ?_) (fun cdv A outer s H vs Q E hr h => ?_)
  · obtain ⟨p, r, n, rfl, _⟩ := h
    rfl
  · obtain ⟨p, r, n, rfl, ⟨dp, hp⟩, sr, n0, n9, hQ⟩ := h
    refine ⟨_, PSs.nox (pss_cons (ps_if (pt_cmpR op_eq (pe_fld (pv 0) rfl) pe_int (nomark _)) (pss_one (ps_ret (pe_joined1 (pe_fmt (pe_fld (pv 0) rfl))))) pss_nil)
      (pss_one (ps_ret (pe_joined (.cons (pe_fmt (pe_fld (pv 0) rfl)) (.cons pe_str (.cons (pe_fmt (pe_fld (pv 0) rfl)) .nil))))))), ?_⟩
    have l1 : (pr r).1.natAbs.log2 < 1920 := log_1920 (bd_of sr).1 n0 (by omega)
    have l2 : (pr r).2.natAbs.log2 < 1920 := log_1920 (bd_of sr).2.2 n0 (by omega)
    refine ⟨_, rfl, p, C, dp, _, _, rfl, hp, T.cl, T.nb, shF_bot _, rfl, _, rfl, ?_⟩
    refine ite2 (fun h1 => ?_) (fun h1 => ?_)
    · have e1 : r.den = 1 := by
        have : (pr r).2 = 1 := V.int.inj (of_decide_eq_true h1)
        have : (r.den : Int) = 1 := this
        omega
      refine ⟨_, rfl, p, C, dp, _, _, rfl, hp, T.cl, T.nt, shF_top _, .inr ⟨_, rfl, l1, ?_⟩⟩
      have e2 : (Str.ofString (toString (pr r).1)) = SX.S (TX.txL r) := by
        rw [TX.tl_int]
        unfold TX.txL
        rw [if_pos e1]
        rfl
      show Q (.str (Str.ofString (toString (pr r).1))) H
      rw [e2]
      exact hQ
    · have e1 : ¬ r.den = 1 := fun z => h1 (by
        have : (pr r).2 = 1 := by show (r.den : Int) = 1; omega
        rw [this]
        rfl)
      have k1 : (TX.intL r.num).length ≤ n + 1 := TX.intL_pow sr.1 n0
      have k2 := TX.numL_pow sr.2 n0
      refine ⟨_, rfl, p, C, dp, _, _, rfl, hp, T.cl, T.nt, shF_top _, .inr ⟨_, rfl, l1, _, rfl, ?_, _, rfl, ?_, _, rfl, p, C, dp, _, _, rfl, hp, T.cl, T.nb, shF_bot _, .inr ⟨_, rfl, l2, _, rfl, ?_, ?_⟩⟩⟩
      · show (Str.empty ++ Str.ofString (toString (pr r).1)).length ≤ sizeLine
        rw [show Str.empty ++ Str.ofString (toString (pr r).1) = SX.S (TX.intL r.num) from by rw [TX.tl_int]; exact SX.S_cat [] _]
        exact S_len_le k1 (by omega)
      · show (Str.empty ++ Str.ofString (toString (pr r).1) ++ Str.ofString "/").length ≤ sizeLine
        rw [show Str.empty ++ Str.ofString (toString (pr r).1) = SX.S (TX.intL r.num) from by rw [TX.tl_int]; exact SX.S_cat [] _, TX.stroke_S, SX.S_cat]
        exact S_len_le (k := n + 2) (by rw [List.length_append]; simp; omega) (by omega)
      · show (Str.empty ++ Str.ofString (toString (pr r).1) ++ Str.ofString "/" ++ Str.ofString (toString (pr r).2)).length ≤ sizeLine
        rw [show Str.empty ++ Str.ofString (toString (pr r).1) = SX.S (TX.intL r.num) from by rw [TX.tl_int]; exact SX.S_cat [] _, TX.stroke_S, SX.S_cat,
          show Str.ofString (toString (pr r).2) = SX.S (TL.numL r.den) from SX.num_S r.den, SX.S_cat]
        exact S_len_le (k := n + 2 + n) (by rw [List.length_append, List.length_append]; simp; omega) (by omega)
      · show Q (.str (Str.empty ++ Str.ofString (toString (pr r).1) ++ Str.ofString "/" ++ Str.ofString (toString (pr r).2))) H
        rw [show Str.empty ++ Str.ofString (toString (pr r).1) = SX.S (TX.intL r.num) from by rw [TX.tl_int]; exact SX.S_cat [] _, TX.stroke_S, SX.S_cat,
          show Str.ofString (toString (pr r).2) = SX.S (TL.numL r.den) from SX.num_S r.den, SX.S_cat,
          show TX.intL r.num ++ [47] ++ TL.numL r.den = TX.txL r from by unfold TX.txL; rw [if_neg e1]; simp]
        exact hQ
/-- the text that repr tells -/
def rpS (r : Rat) : Str := Str.empty ++ Str.ofString "Share(" ++ Str.ofString (toString (pr r).1) ++ Str.ofString ", " ++ Str.ofString (toString (pr r).2) ++ Str.ofString ")"
theorem ok_repr (F : Dn K d_Share_repr f fd) (T : Cl K mg C) : FnOk P w K mg base CX0 1 f fd ["self"] (spStr C rpS) := by
  refine F.ok sc_Share_repr (fun vs H Q E h => ?_) (fun cdv A outer s H vs Q E hr h => ?_)
  · obtain ⟨p, r, n, rfl, _⟩ := h
    rfl
  · obtain ⟨p, r, n, rfl, ⟨dp, hp⟩, sr, n0, n9, hQ⟩ := h
    refine ⟨_, PSs.nox (pss_one (ps_ret (pe_joined (.cons pe_str (.cons (pe_fmt (pe_fld (pv 0) rfl)) (.cons pe_str (.cons (pe_fmt (pe_fld (pv 0) rfl)) (.cons pe_str .nil)))))))), ?_⟩
    have l1 : (pr r).1.natAbs.log2 < 1920 := log_1920 (bd_of sr).1 n0 (by omega)
    have l2 : (pr r).2.natAbs.log2 < 1920 := log_1920 (bd_of sr).2.2 n0 (by omega)
    have k1 : (TX.intL r.num).length ≤ n + 1 := TX.intL_pow sr.1 n0
    have k2 := TX.numL_pow sr.2 n0
    have t1 : Str.ofString (toString (pr r).1) = SX.S (TX.intL r.num) := TX.tl_int r.num
    have t2 : Str.ofString (toString (pr r).2) = SX.S (TL.numL r.den) := SX.num_S r.den
    have c1 : Str.empty ++ Str.ofString "Share(" = SX.S [83, 104, 97, 114, 101, 40] := by decide +kernel
    have c2 : Str.ofString ", " = SX.S [44, 32] := by decide +kernel
    have c3 : Str.ofString ")" = SX.S [41] := by decide +kernel
    refine ⟨_, rfl, ?_, _, rfl, p, C, dp, _, _, rfl, hp, T.cl, T.nt, shF_top _, .inr ⟨_, rfl, l1, _, rfl, ?_, _, rfl, ?_, _, rfl, p, C, dp, _, _, rfl, hp, T.cl, T.nb, shF_bot _, .inr ⟨_, rfl, l2, _, rfl, ?_, _, rfl, ?_, hQ⟩⟩⟩
    · show (Str.empty ++ Str.ofString "Share(").length ≤ sizeLine
      rw [c1]
      exact S_len_le (k := 6) (by decide) (by decide)
    · show (Str.empty ++ Str.ofString "Share(" ++ Str.ofString (toString (pr r).1)).length ≤ sizeLine
      rw [c1, t1, SX.S_cat]
      exact S_len_le (k := n + 7) (by rw [List.length_append]; simp; omega) (by omega)
    · show (Str.empty ++ Str.ofString "Share(" ++ Str.ofString (toString (pr r).1) ++ Str.ofString ", ").length ≤ sizeLine
      rw [c1, t1, c2, SX.S_cat, SX.S_cat]
      exact S_len_le (k := n + 9) (by rw [List.length_append, List.length_append]; simp; omega) (by omega)
    · show (Str.empty ++ Str.ofString "Share(" ++ Str.ofString (toString (pr r).1) ++ Str.ofString ", " ++ Str.ofString (toString (pr r).2)).length ≤ sizeLine
      rw [c1, t1, c2, t2, SX.S_cat, SX.S_cat, SX.S_cat]
      exact S_len_le (k := n + 9 + n) (by rw [List.length_append, List.length_append, List.length_append]; simp; omega) (by omega)
    · show (Str.empty ++ Str.ofString "Share(" ++ Str.ofString (toString (pr r).1) ++ Str.ofString ", " ++ Str.ofString (toString (pr r).2) ++ Str.ofString ")").length ≤ sizeLine
      rw [c1, t1, c2, t2, c3, SX.S_cat, SX.S_cat, SX.S_cat, SX.S_cat]
      exact S_len_le (k := n + 10 + n) (by rw [List.length_append, List.length_append, List.length_append, List.length_append]; simp; omega) (by omega)
end
end K48
set_option Elab.async false
set_option linter.all false
set_option maxRecDepth 100000
set_option maxHeartbeats 4000000
/-! GL: promises of defs that are asked only where no repr is under way (A.guards = some []); what such a def may do more: repr of lists and tuples. -/
namespace GL
open PySem PySem.Spec PyProof.Rows L2
/-- a def's promise, where no repr is under way -/
structure FnG (P : Program) (w : World) (K : PySem.W.Frag) (mg : Str → Option Value) (base : Heap) (k : Nat) (f : Addr) (fd : FuncData) (ps : List Str) (sp : Sp) : Prop where
  len : ∀ vs H Q E, sp vs H Q E → vs.length = ps.length
  run : ∀ (A : Around) (outer : List Env) (s : Shared) (H : Hp) (args : Args) (us : List Value) (vs : List V) (Q : VK) (E : XK), A.guards = some [] → Room k A → Env0 P w K mg base A outer s H → BindsTo s fd args (ps.zip us) → Vals vs us → sp vs H Q E →
    codeAny (model P w) A (.call (.ref f) args) (CR CX0 outer P w H s Q E) s
section
variable {P : Program} {w : World} {K : PySem.W.Frag} {mg : Str → Option Value} {base : Heap} {k : Nat} {f : Addr} {fd : FuncData} {ps : List Str} {sp : Sp}
theorem FnG.of (F : FnOk P w K mg base CX0 k f fd ps sp) : FnG P w K mg base k f fd ps sp := ⟨F.len, fun A outer s H args us vs Q E _ => F.run A outer s H args us vs Q E⟩
/-- by its body -/
theorem okG {x qual : Str} {params : Arguments} {body : List Stmt} {scope : Scope} {dvs : List V} {kws : List (Str × V)} {N : List Str} (F : FunD K x qual params body scope dvs kws f fd) (S : FnScope N ps scope) (len : ∀ vs H Q E, sp vs H Q E → vs.length = ps.length)
    (hbody : ∀ (cdv : Value) (A : Around) (outer : List Env) (s : Shared) (H : Hp) (vs : List V) (Q : VK) (E : XK), A.guards = some [] → Room k (A.deeper (envOfC qual scope s.heap.objs.size f cdv)) → sp vs H Q E →
      ∃ t, PSs (cxOf CX0 P w K mg base N qual scope f cdv A outer s H E) body t ∧ t { nx := fun _ H' => Q .non H', rt := Q } (start N vs) H) : FnG P w K mg base (k + 1) f fd ps sp := by
  refine ⟨len, fun A outer s H args us vs Q E hg hr e0 hb r hsp => ?_⟩
  obtain ⟨oc, od, dV, kV, doc, pm, an, cdv, ct, osl, hfd, lk, hcd, _, _⟩ := F.ex
  subst hfd
  obtain ⟨t, ht, hq⟩ := hbody cdv A outer s H vs Q E hg (hr.deeper _) hsp
  have keep : ∀ b o, base.get? b = some o → s.heap.get? b = some o := fun b o e => (e0.bs b o e).1
  have KX : K.In s.heap := e0.mod.kin.keeps keep
  refine codeAny_call_function hr.depth (KX _ _ lk) rfl S.co S.gen rfl (PySem.W.codeRec_of KX hcd) (hb _ _ _ _ (wpAny_newFunctionEnv_cells S.kind (fun y hy => ?_) fun env he s1 x => ?_))
  · exact (S.par y.1 (List.of_mem_zip hy).1).imp id fun q => ⟨q, PySem.W.cellsFrom_some _ _ _ (.inl q)⟩
  · subst he
    refine ⟨(e0.mod.nolimit.keeps keep).keeps x.toInCall.keep, codeAny_func (wpAny_mono (ht.run [] s1 (start N vs) H _ (inv_start S hr.hd e0 (len _ _ _ _ hsp) r x) hq) (fun fl s' hs => ?_) fun e s' hs => hs)⟩
    match fl, hs with
    | .ret u, ⟨v, σ', H', J, rv, q⟩ => exact ⟨v, H', J.os, J.bare, J.base, J.hok, rv, q⟩
    | .next, ⟨σ', H', J, q⟩ => exact ⟨.non, H', J.os, J.bare, J.base, J.hok, rfl, q⟩
    | .brk, ⟨_, _, _, q⟩ => exact q.elim
    | .cont, ⟨_, _, _, q⟩ => exact q.elim
end
/-- the package of a def of this kind -/
structure CalG (P : Program) (w : World) (K : PySem.W.Frag) (mg : Str → Option Value) (base : Heap) (k : Nat) (x : Str) (sp : Sp) (dvs : List V) : Prop where
  ex : ∃ (f : Addr) (fd : FuncData) (ps : List Str) (ds : List Value), FnG P w K mg base k f fd ps sp ∧ mg x = some (.ref f) ∧ PySem.W.keepIn K (.ref f) = true ∧ Binds K fd ps ds ∧ Vals dvs ds
section
variable {X : Cx} {k j : Nat} {x : Str} {sp : Sp} {dvs : List V} {e : Expr} {es : List Expr} {t : TA} {p pos : Pos}
theorem pe_cG (c : CalG X.prog X.w X.K X.mg X.base k x sp dvs) (hgd : X.A.guards = some []) (hr : Room j X.A) (hk : k ≤ j) (hg : Gl X x) (ha : PA X (e :: es) t)
    (hdb : (x == ("__debug__" : Str)) = false := by decide) (he : starEach (e :: es) X.env = (false, eval e X.env) :: starEach es X.env := by rfl) (hpl : (backTo pos (starEach es X.env)).any (·.1) = false := by rfl) :
    PE X (.Call (.Name x p) (e :: es) [] pos) (tCall sp dvs E0 t) := by
  obtain ⟨f, fd, ps, ds, F, hm, kp, b, d⟩ := c.ex
  refine ⟨fun pins s σ H Q I h => wpAny_Call_Name_kw (ld_glob I hg hm (PySem.W.callWith_K (h₀ := X.base) I.ok.mod.kin kp (thn (ha.run pos pins s σ H _ I h) fun us s1 ⟨vs, H1, I1, r, q⟩ => ⟨I1.kIn, ?_⟩) he hpl) hdb)⟩
  have r2 := r.append d
  refine wpAny_call (codeAny_mono (F.run X.A X.stack s1 H1 ⟨us, []⟩ (us ++ ds) (vs ++ dvs) Q E0 hgd (hr.mono hk) I1.env0 (b s1 us I1.kIn (r2.length.symm.trans (F.len _ _ _ _ q))) r2 q) fun r s' hq => ?_)
  match r, hq with
  | .error _, hq => exact hq.elim
  | .ok (.ret u), hq => exact I1.after hq
  | .ok .next, hq => exact hq.elim
  | .ok .brk, hq => exact hq.elim
  | .ok .cont, hq => exact hq.elim
/-- repr of what is flat, of lists and tuples -/
def rRepr (K : PySem.W.Frag) : List V → Hp → VK → Prop := fun xs H Q => ∃ (y : V) (d : PyData), xs = [y] ∧ Dp K H y d ∧ d.showable = true ∧ d.hasDict = false ∧ d.depth ≤ 60 ∧ d.shown.length ≤ sizeLine ∧ Q (.str d.shown) H
theorem call_reprD (hgd : X.A.guards = some []) (hu : X.A.units + 64 < cLine) : CallR X (.builtin "repr") (rRepr X.K) := by
  intro pins s σ H xs us Q I r h
  obtain ⟨y, d, rfl, hd, hs, hn, hdp, hsz, q⟩ := h
  obtain ⟨u, rfl, ru⟩ := r.one
  obtain ⟨as, rd⟩ := Dp.reads I d y u hd ru
  have fin : ∀ h' tk t, (∀ b o, s.heap.get? b = some o → h'.get? b = some o) → EP X pins σ Q (.str d.shown t) { s with heap := h', toks := tk } := fun h' tk t hk => ⟨.str d.shown, H, I.kept hk, ⟨t, rfl⟩, q⟩
  cases hd with
  | non => cases ru; exact PySem.P.repr_of_none (fin s.heap _ _ fun _ _ e => e)
  | bl b => cases ru; exact PySem.P.repr_of_bool (fin s.heap _ _ fun _ _ e => e)
  | int i =>
    obtain ⟨t, rfl⟩ := ru
    exact PySem.P.repr_of_int (of_decide_eq_true hs) (fin s.heap _ _ fun _ _ e => e)
  | str z =>
    obtain ⟨t, rfl⟩ := ru
    exact PySem.P.repr_of_str (fin s.heap _ _ fun _ _ e => e) hsz
  | lst _ _ =>
    cases ru
    exact repr_of_reads' rd hs (fun z => absurd z (by rw [hn]; decide)) hgd (by omega) (fun _ _ e => e) (fun h' u tk hk => fin h' tk u hk) hsz
  | tup _ _ =>
    cases ru
    exact repr_of_reads' rd hs (fun z => absurd z (by rw [hn]; decide)) hgd (by omega) (fun _ _ e => e) (fun h' u tk hk => fin h' tk u hk) hsz
end
end GL
set_option Elab.async false
set_option linter.all false
set_option maxRecDepth 100000
set_option maxHeartbeats 4000000
/-! RPO: repr of lists, tuples and dicts that hold own instances, of any depth. -/
namespace RPO
open PySem PySem.Spec PyProof.Rows L2
open Builtin Builtin.List
/-- the guards stand on these alone -/
def Gd (g : List Code) (outs : List Addr) : Prop := ∀ id v rest kw, Code.builtin id ⟨v :: rest, kw⟩ ∈ g → ∃ a ∈ outs, v = .ref a
theorem Gd.nil : Gd [] [] := fun _ _ _ _ h => nomatch h
theorem Gd.cons {g : List Code} {outs : List Addr} {id : String} {a : Addr} {rest : List Value} {kw : List (Str × Value)} (h : Gd g outs) : Gd (.builtin id ⟨.ref a :: rest, kw⟩ :: g) (a :: outs) := by
  intro id' v rest' kw' hm
  rcases List.mem_cons.mp hm with e | hm
  · cases e
    exact ⟨a, List.mem_cons_self, rfl⟩
  · obtain ⟨b, hb, e⟩ := h _ _ _ _ hm
    exact ⟨b, List.mem_cons_of_mem _ hb, e⟩
theorem Gd.clear {g : List Code} {outs : List Addr} {a : Addr} (h : Gd g outs) (n : a ∉ outs) : Clear g a := fun id v rest kw hm e => by
  obtain ⟨b, hb, e2⟩ := h id v rest kw hm
  rw [e] at e2
  cases e2
  exact n hb
/-- all but these are as they were -/
def Ex (outs : List Addr) (H H' : Hp) : Prop := ∀ a o, H a = some o → a ∉ outs → H' a = some o
theorem Ex.refl (outs : List Addr) (H : Hp) : Ex outs H H := fun _ _ h _ => h
theorem Ex.ext {outs : List Addr} {H H1 H2 : Hp} (x : Ex outs H H1) (e : Ext H1 H2) : Ex outs H H2 := fun a o h n => e a o (x a o h n)
theorem Ex.more {outs : List Addr} {H H1 : Hp} {a : Addr} (x : Ex outs H H1) : Ex (a :: outs) H H1 := fun b o h n => x b o h fun z => n (List.mem_cons_of_mem _ z)
section
variable {X : Cx}
/-- what a thing shows as, within containers at outs -/
def RpU (X : Cx) (n : Nat) (outs : List Addr) (H0 : Hp) (v : V) (t : Str) : Prop := ∀ (A : Around) (g : List Code) (pins : List (Addr × Obj)) (s : Shared) (σ : L2.St) (H : Hp) (u : Value) (bs : Nat),
  Ex outs H0 H → Sub X n A → A.guards = some g → Gd g outs → Inv X pins σ H s → RelV v u → bs + t.length ≤ sizeLine →
  wpAny (model X.prog X.w) A (pyReprUnder bs u) (fun r s' => r = t ∧ ∃ H', Inv X pins σ H' s' ∧ Ext H H') X.xe s
theorem RpU.mono {n m : Nat} {outs : List Addr} {H0 : Hp} {v : V} {t : Str} (h : RpU X n outs H0 v t) (nm : n ≤ m) : RpU X m outs H0 v t := fun A g pins s σ H u bs x sb => h A g pins s σ H u bs x (sb.mono nm)
theorem RpU.non {n : Nat} {outs : List Addr} {H0 : Hp} : RpU X n outs H0 .non "None" := fun A g pins s σ H u bs x sb hg gd I r hb => by
  cases r
  exact ReprIs.none bs hb _ _ _ _ fun tk => ⟨rfl, H, I.tok tk, Ext.rfl'⟩
theorem RpU.bl {n : Nat} {outs : List Addr} {H0 : Hp} {b : Bool} : RpU X n outs H0 (.bl b) (if b then "True" else "False") := fun A g pins s σ H u bs x sb hg gd I r hb => by
  cases r
  exact ReprIs.bool b bs hb _ _ _ _ fun tk => ⟨rfl, H, I.tok tk, Ext.rfl'⟩
theorem RpU.int {n : Nat} {outs : List Addr} {H0 : Hp} {i : Int} (h : i.natAbs.log2 < 1920) : RpU X n outs H0 (.int i) (toString i) := fun A g pins s σ H u bs x sb hg gd I r hb => by
  obtain ⟨t, rfl⟩ := r
  exact ReprIs.int t h bs hb _ _ _ _ fun tk => ⟨rfl, H, I.tok tk, Ext.rfl'⟩
theorem RpU.str {n : Nat} {outs : List Addr} {H0 : Hp} {z : Str} : RpU X n outs H0 (.str z) (reprText z) := fun A g pins s σ H u bs x sb hg gd I r hb => by
  obtain ⟨t, rfl⟩ := r
  exact ReprIs.str z t (by omega) bs hb _ _ _ _ fun tk => ⟨rfl, H, I.tok tk, Ext.rfl'⟩
/-- an own instance, by its own __repr__ -/
theorem RpU.own {k n : Nat} {outs : List Addr} {H0 : Hp} {a C dx : Addr} {fs : List (Str × V)} {sp : Sp} {t : Str} (S : OW.Spc X.prog X.w X.K X.mg X.base k C "__repr__" sp) (ha : H0 a = some (.ins C dx fs)) (na : a ∉ outs)
    (hsp : ∀ H, H a = some (.ins C dx fs) → sp [.ref a] H (fun v H' => v = .str t ∧ Ext H H') E0) (kn : k ≤ n) : RpU X n outs H0 (.ref a) t := fun A g pins s σ H u bs x sb hg gd I r hb => by
  obtain ⟨f, fd, ps, h1, h2, F, hbi⟩ := S.ex
  cases (show u = Value.ref a from r)
  have ea := x a _ ha na
  obtain ⟨mA, O, _⟩ := ins_get I.hok ea
  obtain ⟨od, J, _⟩ := O.look
  have KI := I.kIn
  have e0 : Env0 X.prog X.w X.K X.mg X.base A X.stack s H := by
    have z := I.env0
    exact ⟨sb.fr.trans z.frames, z.mod, z.bs, z.bsz, z.funs, z.frf, z.hok, z.bare⟩
  refine wpAny_pyReprUnder_ref (by omega) ?_
  unfold pyReprObjUnder pyReprObjBy
  refine wpAny_bind (wpAny_cRoomFor sb.room.units0 ?_)
  refine wpAny_bind (wpAny_bind (J.type.here ((PySem.W.looks_findIn KI h1).here ?_)))
  show wpAny _ _ (if (some (Value.ref f)).isNone = true then _ else _) _ _ _
  rw [if_neg (by simp)]
  have called : wpAny (model X.prog X.w) A (call (.ref f) [.ref a]) (fun v s' => ∃ tk, v = .str t tk ∧ ∃ H', Inv X pins σ H' s' ∧ Ext H H') X.xe s := by
    refine wpAny_mono (OW.run_at (E' := X.xe) (vs := [.ref a]) F hbi (sb.room.mono kn) I e0 (.cons rfl .nil) (hsp H ea)) (fun w s' z => ?_) fun _ _ x => x
    obtain ⟨z', H', I', rz, z, e⟩ := z
    rw [z] at rz
    obtain ⟨tk, rfl⟩ := rz
    exact ⟨tk, rfl, H', I', e⟩
  refine wpAny_bind (m := callSpecialIfBoundBy? _ (.ref a) (Str.ofString "__repr__")) ?_
  have fin : wpAny (model X.prog X.w) A (callSpecialIfBoundBy? (fun g first => match reprUnder? g, first with | some twin, [self] => call twin [self, rawInt bs] | _, _ => call g (first ++ [])) (.ref a) (Str.ofString "__repr__"))
      (fun r s' => ∃ tk, r = some (.str t tk) ∧ ∃ H', Inv X pins σ H' s' ∧ Ext H H') X.xe s := by
    simp only [callSpecialIfBoundBy?, bindSpecialIfBound?]
    refine wpAny_holding (wpAny_bind (wpAny_bind (wpAny_bind (J.type.here ((PySem.W.looks_findIn KI h1).here ?_)))))
    refine wpAny_bind (wpAny_askSetting (wpAny_ite ?_))
    have ends : wpAny (model X.prog X.w) A (call (.ref f) ([.ref a] ++ []) >>= fun v => pure (some v)) (fun r s' => ∃ tk, r = some (.str t tk) ∧ ∃ H', Inv X pins σ H' s' ∧ Ext H H') X.xe s :=
      wpAny_bind (wpAny_mono called (fun v s' h' => wpAny_pure (by obtain ⟨tk, rfl, h⟩ := h'; exact ⟨tk, rfl, h⟩)) fun _ _ h' => h')
    split
    · exact wpAny_bind ((PySem.W.bind_fn KI _ (beq_iff_eq.mp h2)).here (wpAny_pure (by exact ends)))
    · exact wpAny_tryCatch (wpAny_bind ((PySem.W.bind_fn KI _ (beq_iff_eq.mp h2)).here (wpAny_pure (by exact ends))))
  refine wpAny_mono fin (fun r s' h' => ?_) fun _ _ x => x
  obtain ⟨tk, rfl, h⟩ := h'
  exact wpAny_bind (wpAny_isInstance (T := "str") (b := true) rfl isSubtype_str_str (wpAny_pure ⟨_, _, rfl, rfl, h⟩))
end
end RPO
set_option Elab.async false
set_option linter.all false
set_option maxRecDepth 100000
set_option maxHeartbeats 4000000
/-! RPL: the containers of RPO: lists, tuples, dicts. -/
namespace RPO
open PySem PySem.Spec PyProof.Rows L2
open Builtin Builtin.List
theorem strs_of : ∀ {ts : List Str} {us : List Value}, Vals (ts.map V.str) us → ∃ done : List (Str × Tok), us = strValues done ∧ done.map (·.1) = ts
  | [], _, .nil => ⟨[], rfl, rfl⟩
  | t :: ts, _, .cons r h => by
    obtain ⟨tk, rfl⟩ := r
    obtain ⟨done, rfl, e⟩ := strs_of h
    exact ⟨(t, tk) :: done, rfl, by simp [e]⟩
theorem sub_loop {X : Cx} {n : Nat} {A : Around} {args : Args} (h : Sub X (n + 1) A) : Sub X n (A.under (.builtin "list.__repr__.loop" args)) := by
  have hd : (A.under (.builtin "list.__repr__.loop" args)).depth ≤ A.depth + 1 := by
    first | exact Nat.le_refl _ | simp [Around.under, Code.weight, Code.isCreation, Code.isGuard, Code.isCaller, Code.frames, Code.isFrame, guardIds]
  have hu := units_under_list_loop A args
  have hf : (A.under (.builtin "list.__repr__.loop" args)).frames = A.frames := by
    have e : (Code.builtin "list.__repr__.loop" args).envs = [] := by first | rfl | simp [Code.envs, Code.isFrame]
    have e2 : (A.under (.builtin "list.__repr__.loop" args)).frames = pushEnvs (Code.envs (.builtin "list.__repr__.loop" args)) A.frames := by first | rfl | simp [Around.under]
    rw [e2, e]
    cases A.frames <;> first | rfl | simp [pushEnvs]
  obtain ⟨⟨h1, h2, h3⟩, h4⟩ := h
  exact ⟨⟨h1, by omega, by rw [hu]; omega⟩, hf.trans h4⟩
section
variable {X : Cx} {n : Nat} {outs : List Addr} {H0 : Hp} {a : Addr} {xs : List V} {ts : List Str}
theorem list_loop {A : Around} {g : List Code} {P : Addr} {bs : Nat} {pins : List (Addr × Obj)} {σ : L2.St} {Hb : Hp} {R : Result → Shared → Prop} (sb : Sub X (n + 1) A) (hg : A.guards = some g) (gd : Gd g outs) (ha : Hb a = some (.lst xs)) (hP : Hb P = none) (xe : Ex outs H0 Hb) (hlen : ts.length = xs.length)
    (hT : ∀ (i : Nat) (x : V), xs[i]? = some x → ∃ t, ts[i]? = some t ∧ RpU X n (a :: outs) H0 x t) (hsz : bs + (listText ts).length ≤ sizeLine)
    (hE : ∀ e s', X.xe e s' → R (.error e) s')
    (fin : ∀ (s' : Shared) (H' : Hp) (u : Tok), Inv X pins σ H' s' → Ext Hb H' → R (.ok (.ret (.str (listText ts) u))) s') :
    ∀ (k i : Nat) (s : Shared) (H : Hp), xs.length - i = k → i ≤ xs.length → Inv X pins σ H s → Ext Hb H → H P = some (.lst ((ts.take i).map V.str)) →
      codeAny (model X.prog X.w) A (.builtin "list.__repr__.loop" ⟨[.ref a, rawInt i, .ref P, rawInt ((bs + piled (ts.take i) : Nat) : Int)], []⟩) R s := by
  have hX : (listText ts).length = (textFrom 0 "[" ts).length + 1 := by
    show (textFrom 0 "[" ts ++ "]").length = _
    rw [strLen_append]; rfl
  have hL := textFrom_len ts 0 "["
  have each : ∀ t ∈ ts, t.length ≤ sizeLine := fun t ht => by
    have := hL.2.1 t ht
    omega
  have many : ts.length ≤ sizeLine := by
    have h1 := hL.1
    rw [if_neg (Nat.lt_irrefl 0)] at h1
    omega
  have hp3 := piled_le_listText ts
  have uu : A.in1.units < cLine := by have := sb.room.un; show A.units + 1 < cLine; omega
  intro k
  induction k with
  | zero =>
    intro i s H hk hi I eb hPi
    have hin : i = ts.length := by omega
    obtain ⟨_, its, m, rv, _, e⟩ := I.lstM (eb _ _ ha)
    obtain ⟨_, ups, c, rp, _, ep⟩ := I.lstM hPi
    have nits : its[i]? = none := by
      have := rv.length
      exact List.getElem?_eq_none (by omega)
    refine codeAny_builtin F.entry_list_repr_loop ?_
    show wpAny _ _ («list.__repr__.loop» ⟨[.ref a, .int i 0, .ref P, .int ((bs + piled (ts.take i) : Nat) : Int) 0], []⟩) _ _ s
    rw [repr_loop_tree]
    refine wpAny_bind (wpAny_listItems e rfl ?_)
    have hnone : its.toArray[((i : Int)).toNat]? = none := by simpa using nits
    simp only [hnone]
    unfold reprEnd
    refine wpAny_bind (wpAny_listItems ep rfl ?_)
    obtain ⟨done, rfl, ed⟩ := strs_of rp
    rw [show (strValues done).toArray.toList = strValues done from by simp, repr_fold]
    refine wpAny_bind (wpAny_pure ?_)
    have hall : done.map (·.1) = ts := by rw [ed, hin, List.take_length]
    rw [hall]
    refine wpAny_bind (wpAny_mkStr (wpAny_pure ?_) (by show (listText ts).length ≤ sizeLine; omega))
    exact fin _ H _ (I.tok _) eb
  | succ k ih =>
    intro i s H hk hi I eb hPi
    have hlt : i < xs.length := by omega
    obtain ⟨t, ht, hrep⟩ := hT i xs[i] (List.getElem?_eq_getElem hlt)
    obtain ⟨_, its, m, rv, lv, e⟩ := I.lstM (eb _ _ ha)
    have hlt2 : i < its.length := by omega
    have rvi : RelV xs[i] its[i] := by
      obtain ⟨u, e1, e2⟩ := rv.get (List.getElem?_eq_getElem hlt)
      rw [List.getElem?_eq_getElem hlt2] at e1
      cases e1
      exact e2
    have hp1 := piled_take_succ ht
    have hp2 := piled_take_le ts (i + 1)
    refine codeAny_builtin F.entry_list_repr_loop ?_
    show wpAny _ _ («list.__repr__.loop» ⟨[.ref a, .int i 0, .ref P, .int ((bs + piled (ts.take i) : Nat) : Int) 0], []⟩) _ _ s
    rw [repr_loop_tree]
    refine wpAny_bind (wpAny_listItems e rfl ?_)
    have hsome : its.toArray[((i : Int)).toNat]? = some its[i] := by simp [hlt2]
    simp only [hsome]
    rw [Int.toNat_natCast]
    refine wpAny_bind (wpAny_holding (wpAny_mono (hrep _ _ pins s σ H its[i] (bs + piled (ts.take i) + 1) ((xe.ext eb).more) (sub_loop sb) (guards_under_guard (isGuard_list_loop _) hg) gd.cons I rvi (by omega)) (fun r s2 h2 => ?_) fun e' s' h' => hE e' s' h'))
    obtain ⟨rfl, H2, I2, e2⟩ := h2
    refine wpAny_bind (wpAny_mkStr ?_ (each r (List.mem_of_getElem? ht)))
    have hP2 := e2 _ _ hPi
    obtain ⟨_, ups, c, rp, _, ep⟩ := I2.lstM hP2
    refine wpAny_bind ?_
    show wpAny _ _ (updateSeq P _) _ _ _
    have lp := rp.length
    rw [List.length_map, List.length_take] at lp
    refine wpAny_updateSeq ep rfl (wpAny_pure ⟨F.quiet_list_repr_loop _, ?_⟩) (by rw [List.size_toArray]; omega) (by rw [Array.size_push, List.size_toArray]; omega)
    have e1' : ((i : Int) + 1) = ((i + 1 : Nat) : Int) := by omega
    have e2' : bs + piled (ts.take i) + (r.length + 2) = bs + piled (ts.take (i + 1)) := by omega
    rw [e1', e2']
    have I3 := I2.lset (its' := ups ++ [.str r s2.toks]) (f := fun x => x.push (.str r s2.toks)) (t' := s2.toks + 1) hP2 ep (by simp) (ys := (ts.take (i + 1)).map V.str) (by
      rw [List.take_add_one, ht, List.map_append]
      exact rp.append (.cons ⟨_, rfl⟩ .nil)) (by rw [List.length_map, List.length_take]; omega)
    exact ih (i + 1) _ _ (by omega) hlt I3 (fun b o hb => by
      rw [upd_ne (fun z => by rw [z, hP] at hb; cases hb)]
      exact e2 _ _ (eb _ _ hb)) upd_same
end
end RPO
set_option Elab.async false
set_option linter.all false
set_option maxRecDepth 100000
set_option maxHeartbeats 4000000
namespace RPO
open PySem PySem.Spec PyProof.Rows L2
open Builtin Builtin.List
/-- things one by one -/
inductive RpAll (X : Cx) (n : Nat) (outs : List Addr) (H0 : Hp) : List V → List Str → Prop
  | nil : RpAll X n outs H0 [] []
  | cons {v : V} {t : Str} {vs : List V} {ts : List Str} : RpU X n outs H0 v t → RpAll X n outs H0 vs ts → RpAll X n outs H0 (v :: vs) (t :: ts)
theorem RpAll.len {X : Cx} {n : Nat} {outs : List Addr} {H0 : Hp} : ∀ {vs : List V} {ts : List Str}, RpAll X n outs H0 vs ts → ts.length = vs.length
  | _, _, .nil => rfl
  | _, _, .cons _ h => by rw [List.length_cons, List.length_cons, h.len]
theorem RpAll.get {X : Cx} {n : Nat} {outs : List Addr} {H0 : Hp} : ∀ {vs : List V} {ts : List Str}, RpAll X n outs H0 vs ts → ∀ (i : Nat) (x : V), vs[i]? = some x → ∃ t, ts[i]? = some t ∧ RpU X n outs H0 x t
  | _, _, .nil, _, _, h => by simp at h
  | _, _, .cons r h, 0, _, e => by
    simp at e
    subst e
    exact ⟨_, rfl, r⟩
  | _, _, .cons r h, i + 1, x, e => by
    obtain ⟨t, e1, e2⟩ := h.get i x (by simpa using e)
    exact ⟨t, by simpa using e1, e2⟩
section
variable {X : Cx} {n : Nat} {outs : List Addr} {H0 : Hp} {a : Addr} {xs : List V} {ts : List Str}
/-- what is asked of the end of a text -/
def Told (X : Cx) (pins : List (Addr × Obj)) (σ : L2.St) (H : Hp) (t : Str) (v : Value) (s' : Shared) : Prop := ∃ tk, v = .str t tk ∧ ∃ H', Inv X pins σ H' s' ∧ Ext H H'
theorem list_at {A : Around} {g : List Code} {bs : Nat} {pins : List (Addr × Obj)} {σ : L2.St} {s : Shared} {H : Hp} {Q : Value → Shared → Prop} (sb : Sub X (n + 1) A) (hg : A.guards = some g) (gd : Gd g outs) (I : Inv X pins σ H s) (ha : H a = some (.lst xs)) (na : a ∉ outs) (xe : Ex outs H0 H) (hx : xs ≠ [])
    (hT : RpAll X n (a :: outs) H0 xs ts) (hsz : bs + (listText ts).length ≤ sizeLine) (fin : ∀ v s', Told X pins σ H (listText ts) v s' → Q v s') :
    wpAny (model X.prog X.w) A.in1 (Builtin.listReprAt bs ⟨[.ref a], []⟩) (fun fin s' => match fin with | .done f => callEnd Q X.xe (.ok f) s' | .again c' => c'.quiet = true ∧ codeAny (model X.prog X.w) A c' (callEnd Q X.xe) s') (fun e s' => callEnd Q X.xe (.error e) s') s := by
  obtain ⟨_, its, m, rv, lv, e⟩ := I.lstM ha
  obtain ⟨y, l, rfl⟩ : ∃ y l, its = y :: l := by
    cases its with
    | nil =>
      have : xs.length = 0 := lv
      exact absurd (List.length_eq_zero_iff.mp this) hx
    | cons y l => exact ⟨y, l, rfl⟩
  refine wpAny_list_repr_head (A := A.in1) hg (fun v rest kw hm => listSameRef_of_ne ((gd.clear na) _ _ _ _ hm)) e rfl ?_
  refine wpAny_bind (m := newList []) (wpAny_newObj_type ?_)
  refine wpAny_pure ⟨F.quiet_list_repr_loop _, ?_⟩
  have I1 := I.lnew (its := []) (ys := []) (t' := s.toks) .nil (Nat.zero_le _)
  have hn := I.fresh
  exact list_loop (n := n) (Hb := H) (R := callEnd Q X.xe) sb hg gd ha hn xe hT.len hT.get hsz (fun _ _ h => h) (fun s' H' u I' e' => fin _ _ ⟨u, rfl, H', I', e'⟩) _ 0 _ _ rfl (Nat.zero_le _) I1 (Ext.upd hn) upd_same
theorem RpU.list (ha : H0 a = some (.lst xs)) (na : a ∉ outs) (hx : xs ≠ []) (hT : RpAll X n (a :: outs) H0 xs ts) : RpU X (n + 1) outs H0 (.ref a) (listText ts) := fun A g pins s σ H u bs x sb hg gd I r hb => by
  cases (show u = Value.ref a from r)
  have ea := x a _ ha na
  obtain ⟨_, its, m, rv, lv, e⟩ := I.lstM ea
  refine wpAny_pyReprUnder_ref (by omega) (wpAny_pyReprObjUnder_twin (twin := "list.__repr__.under") ⟨_, e, rfl⟩ F.slot_list_repr.toG rfl sb.room.units0
    (call_twin_plain F.plain_list_repr_under F.entry_list_repr_under F.check_list_repr_under ⟨_, e, rfl⟩ F.slot_list_repr.toG (F.args_list_repr_1 _) (list_at sb hg gd I ea na x hx hT hb fun v s' h => ?_)))
  obtain ⟨tk, rfl, h⟩ := h
  exact ⟨⟨_, _, rfl⟩, _, _, rfl, rfl, h⟩
theorem RpU.list0 (ha : H0 a = some (.lst [])) (na : a ∉ outs) : RpU X n outs H0 (.ref a) "[]" := fun A g pins s σ H u bs x sb hg gd I r hb => by
  cases (show u = Value.ref a from r)
  have ea := x a _ ha na
  obtain ⟨_, its, m, rv, lv, e⟩ := I.lstM ea
  obtain rfl : its = [] := List.length_eq_zero_iff.mp lv.symm
  exact wpAny_pyReprUnder_ref (by omega) (wpAny_pyReprObjUnder_list_empty ⟨_, e, rfl⟩ sb.room.units0 e rfl ⟨_, _, rfl, rfl, H, I.tok _, Ext.rfl'⟩)
theorem tup_fold {A : Around} {g : List Code} {pins : List (Addr × Obj)} {σ : L2.St} {Hb : Hp} {Q : (Array Str × Nat) → Shared → Prop} (sb : Sub X n A) (hg : A.guards = some g) (gd : Gd g (a :: outs)) (xe : Ex outs H0 Hb) :
    ∀ {vs : List V} {ts : List Str}, RpAll X n (a :: outs) H0 vs ts → ∀ (us : List Value) (acc : Array Str) (m : Nat) (s : Shared) (H : Hp), Vals vs us → m + piled ts ≤ sizeLine → Inv X pins σ H s → Ext Hb H →
      (∀ s' H', Inv X pins σ H' s' → Ext Hb H' → Q ⟨acc ++ ts.toArray, m + piled ts⟩ s') → wpAny (model X.prog X.w) A (forIn us (⟨acc, m⟩ : (Array Str × Nat)) tupBody) Q X.xe s := by
  intro vs ts h
  induction h with
  | nil =>
    intro us acc m s H rv hm I eb fin
    cases rv
    have h0 := fin s H I eb
    simp only [List.forIn_nil]
    exact wpAny_pure (by simpa [piled] using h0)
  | @cons v t vs ts hr hl ih =>
    intro us acc m s H rv hm I eb fin
    cases rv with
    | @cons _ u _ us r rv =>
      rw [piled_cons] at hm
      rw [List.forIn_cons]
      refine wpAny_bind (wpAny_bind (wpAny_mono (hr A g pins s σ H u (m + 1) (xe.ext eb).more sb hg gd I r (by omega)) (fun r' s2 h2 => ?_) fun _ _ x => x))
      obtain ⟨rfl, H2, I2, e2⟩ := h2
      refine wpAny_pure ?_
      refine ih us (acc.push r') (m + (r'.length + 2)) s2 H2 rv (by omega) I2 (eb.trans e2) fun s' H' I' e' => ?_
      have h1 := fin s' H' I' e'
      have e : m + piled (r' :: ts) = m + (r'.length + 2) + piled ts := by rw [piled_cons]; omega
      rw [e] at h1
      simpa using h1
theorem tup_at {A : Around} {g : List Code} {bs : Nat} {pins : List (Addr × Obj)} {σ : L2.St} {s : Shared} {H : Hp} {Q : Value → Shared → Prop} {id : String} {rest : List Value} (hcg : (Code.builtin id ⟨.ref a :: rest, []⟩).isGuard = true) (sb : Sub X n (A.under (.builtin id ⟨.ref a :: rest, []⟩)))
    (hg : A.guards = some g) (gd : Gd g outs) (I : Inv X pins σ H s) (ha : H a = some (.tup xs)) (na : a ∉ outs) (xe : Ex outs H0 H) (hT : RpAll X n (a :: outs) H0 xs ts) (hsz : bs + (tupleText ts).length ≤ sizeLine) (fin : ∀ v s', Told X pins σ H (tupleText ts) v s' → Q v s') :
    wpOwn (model X.prog X.w) A (.builtin id ⟨.ref a :: rest, []⟩) (Builtin.tupleReprAt bs ⟨[.ref a], []⟩) (fun fin s' => match fin with | .done f => callEnd Q X.xe (.ok f) s' | .again c' => c'.quiet = true ∧ codeAny (model X.prog X.w) A c' (callEnd Q X.xe) s') (fun e s' => callEnd Q X.xe (.error e) s') s := by
  obtain ⟨its, rv, ⟨o, ho, hc, m, hd⟩, hz⟩ := I.tuple (SqT.of (K := X.K) ha)
  have hca : Clear g a := gd.clear na
  have hlen : ts.length = its.length := hT.len.trans rv.length
  have hp := piled_le_tupleText ts
  have hsz0 : (tupleText ts).length ≤ sizeLine := by omega
  rw [tuple_repr_tree, tupleReprUnderWay_eq]
  refine wpOwn_bind (wpOwn_stackTailAny hg (tupGuardF_off _) (tupGuardF_pos _) ?_)
  have hn : (g.any fun c => tupGuardF (.ref a) (c, default)) = false := by
    rw [List.any_eq_false]
    intro c hcm
    rw [tupGuardF_of_clear hca c hcm]
    exact Bool.false_ne_true
  rw [hn]
  refine wpOwn_of_wpAny ?_
  show wpAny _ _ (tupleReprRest bs (.ref a)) _ _ s
  unfold tupleReprRest Builtin.Tuple.tupleItemsOf
  refine wpAny_bind (wpAny_bind (wpAny_seqItems ho hd (wpAny_pure ?_)))
  rw [← Array.forIn_toList]
  refine wpAny_bind (tup_fold (Hb := H) sb (guards_under_guard hcg hg) gd.cons xe hT _ _ _ s H (by simpa using rv) (by omega) I Ext.rfl' fun s' H' I' e' => ?_)
  refine wpAny_bind (wpAny_mkStr (wpAny_pure ?_) (by simpa [tupleText, hlen] using hsz0))
  have h1 := fin (.str (tupleText ts) s'.toks) { s' with toks := s'.toks + 1 } ⟨_, rfl, H', I'.tok _, e'⟩
  simpa [tupleText, hlen] using h1
theorem sub_code {A : Around} {id : String} {args : Args} (h : Sub X (n + 1) A) (hw : (Code.builtin id args).weight ≤ 1) (he : (Code.builtin id args).envs = []) (hu : (A.under (.builtin id args)).units = A.units + 1) : Sub X n (A.under (.builtin id args)) := by
  have e2 : (A.under (.builtin id args)).frames = pushEnvs (Code.envs (.builtin id args)) A.frames := by first | rfl | simp [Around.under]
  have hf : (A.under (.builtin id args)).frames = A.frames := by
    rw [e2, he]
    cases A.frames <;> first | rfl | simp [pushEnvs]
  have hd : (A.under (.builtin id args)).depth = A.depth + (Code.builtin id args).weight := by first | rfl | simp [Around.under]
  obtain ⟨⟨h1, h2, h3⟩, h4⟩ := h
  exact ⟨⟨h1, by omega, by rw [hu]; omega⟩, hf.trans h4⟩
theorem w_tup {args : Args} : (Code.builtin "tuple.__repr__" args).weight ≤ 1 := by
  first | exact Nat.le_refl _ | simp [Code.weight, Code.isCreation, Code.isGuard, Code.isCaller, Code.frames, Code.isFrame, guardIds]
theorem w_tupU {args : Args} : (Code.builtin "tuple.__repr__.under" args).weight ≤ 1 := by
  first | exact Nat.le_refl _ | simp [Code.weight, Code.isCreation, Code.isGuard, Code.isCaller, Code.frames, Code.isFrame, guardIds]
theorem e_b {id : String} {args : Args} (h : (Code.builtin id args).isFrame = false := by rfl) : (Code.builtin id args).envs = [] := by simp [Code.envs, h]
theorem RpU.tup (ha : H0 a = some (.tup xs)) (na : a ∉ outs) (hT : RpAll X n (a :: outs) H0 xs ts) : RpU X (n + 1) outs H0 (.ref a) (tupleText ts) := fun A g pins s σ H u bs x sb hg gd I r hb => by
  cases (show u = Value.ref a from r)
  have ea := x a _ ha na
  obtain ⟨its, rv, ⟨o, ho, hc, m, hd⟩, hz⟩ := I.tuple (SqT.of (K := X.K) ea)
  refine wpAny_pyReprUnder_ref (by omega) (wpAny_pyReprObjUnder_twin (twin := "tuple.__repr__.under") ⟨o, ho, hc⟩ F.slot_tuple_repr rfl sb.room.units0
    (call_twin_own (F.quiet_tuple_repr_under _) F.entry_tuple_repr_under F.check_tuple_repr_under ⟨o, ho, hc⟩ F.slot_tuple_repr (F.args_tuple_repr_1 _)
      (tup_at (isGuard_tuple_repr_under _) (sub_code sb w_tupU e_b (units_under_tuple_repr_under _ _)) hg gd I ea na x hT hb fun v s' h => ?_)))
  obtain ⟨tk, rfl, h⟩ := h
  exact ⟨⟨_, _, rfl⟩, _, _, rfl, rfl, h⟩
/-- repr of a tuple, where no repr is under way -/
def rReprT (X : Cx) (n : Nat) : List V → Hp → VK → Prop := fun ys H Q => ∃ (a : Addr) (xs : List V) (ts : List Str), ys = [.ref a] ∧ H a = some (.tup xs) ∧ RpAll X n [a] H xs ts ∧ (tupleText ts).length ≤ sizeLine ∧ ∀ H', Ext H H' → Q (.str (tupleText ts)) H'
theorem call_reprT (hgd : X.A.guards = some []) (hr : Room (n + 2) X.A) : CallR X (.builtin "repr") (rReprT X n) := by
  intro pins s σ H ys us Q I r h
  obtain ⟨a, xs, ts, rfl, ea, hT, hb, q⟩ := h
  obtain ⟨u, rfl, ru⟩ := r.one
  cases (show u = Value.ref a from ru)
  obtain ⟨its, rv, ⟨o, ho, hc, m, hd⟩, hz⟩ := I.tuple (SqT.of (K := X.K) ea)
  have sb : Sub X (n + 1) X.A.in1 := ⟨hr.in1, rfl⟩
  refine call_repr_slot (by have := hr.un; omega) ⟨o, ho, hc⟩ F.slot_tuple_repr ?_
  refine wpAny_call (codeAny_call_builtin_own (Code.quiet_builtin _ (by decide +kernel)) F.entry_tuple_repr (F.slot_tuple_repr.check _ _ _ _ _ _ _ _ ⟨o, ho, hc⟩ (F.args_tuple_repr_1 _)
    (tup_at (outs := []) (H0 := H) (bs := 0) (isGuard_tuple_repr _) (sub_code sb w_tup e_b (units_under_tuple_repr _ _)) hgd Gd.nil I ea (by simp) (Ex.refl _ _) hT (by omega) fun v s' h => ?_)))
  obtain ⟨tk, rfl, H', I', e⟩ := h
  exact ⟨_, _, rfl, .str _, H', I', ⟨_, rfl⟩, q H' e⟩
end
end RPO
set_option Elab.async false
set_option linter.all false
set_option maxRecDepth 100000
set_option maxHeartbeats 4000000
namespace RPO
open PySem PySem.Spec PyProof.Rows L2
open Builtin Builtin.List
/-- what the entries of a dict show as -/
inductive RpEnt (X : Cx) (n : Nat) (outs : List Addr) (H0 : Hp) : List (Key × V) → List Str → Prop
  | nil : RpEnt X n outs H0 [] []
  | cons {k : Key} {v : V} {tk tv : Str} {kvs : List (Key × V)} {ps : List Str} : RpU X n outs H0 (kV k) tk → RpU X n outs H0 v tv → RpEnt X n outs H0 kvs ps → RpEnt X n outs H0 ((k, v) :: kvs) ((tk ++ ": " ++ tv) :: ps)
section
variable {X : Cx} {n : Nat} {outs : List Addr} {H0 : Hp} {a : Addr} {kvs : List (Key × V)} {ps : List Str}
theorem RpEnt.len : ∀ {kvs : List (Key × V)} {ps : List Str}, RpEnt X n outs H0 kvs ps → ps.length = kvs.length
  | _, _, .nil => rfl
  | _, _, .cons _ _ h => by rw [List.length_cons, List.length_cons, h.len]
theorem RpEnt.get : ∀ {kvs : List (Key × V)} {ps : List Str}, RpEnt X n outs H0 kvs ps → ∀ (i : Nat) (e : Key × V), kvs[i]? = some e → ∃ tk tv : Str, ps[i]? = some (tk ++ ": " ++ tv) ∧ RpU X n outs H0 (kV e.1) tk ∧ RpU X n outs H0 e.2 tv
  | _, _, .nil, _, _, h => by simp at h
  | _, _, .cons r1 r2 h, 0, _, e => by
    simp at e
    subst e
    exact ⟨_, _, rfl, r1, r2⟩
  | _, _, .cons _ _ h, i + 1, x, e => by
    obtain ⟨t1, t2, e1, e2⟩ := h.get i x (by simpa using e)
    exact ⟨t1, t2, by simpa using e1, e2⟩
theorem pairs_at {P : Program} {w : World} : ∀ {es : List DictEntry} {vs : List (Key × Value)}, Pairs (mixKind P w) es vs → ∀ (i : Nat) (kv : Key × Value), vs[i]? = some kv → ∃ e, es[i]? = some e ∧ (mixKind P w).is kv.1 e.key = true ∧ e.val = kv.2
  | _, _, .nil, _, _, h => by simp at h
  | _, _, .cons h1 h2 h, 0, _, e => by
    simp at e
    subst e
    exact ⟨_, rfl, h1, h2⟩
  | _, _, .cons _ _ h, i + 1, kv, e => by
    obtain ⟨en, e1, e2⟩ := pairs_at h i kv (by simpa using e)
    exact ⟨en, by simpa using e1, e2⟩
theorem key_rel {k : Key} {v : Value} (h : keyIs k v = true) : RelV (kV k) v := by
  rcases keyIs_shape h with ⟨i, t, rfl, rfl⟩ | ⟨x, t, rfl, rfl⟩
  · exact ⟨_, rfl⟩
  · exact ⟨_, rfl⟩
theorem kv_at : ∀ {ks : List (Key × V)} {va : List (Key × Value)}, KV ks va → ∀ (i : Nat) (e : Key × V), ks[i]? = some e → ∃ u : Key × Value, va[i]? = some u ∧ e.1 = u.1 ∧ RelV e.2 u.2
  | _, _, .nil, _, _, h => by simp at h
  | _, _, .cons r h, 0, _, e => by
    simp at e
    subst e
    exact ⟨_, rfl, r.1, r.2⟩
  | _, _, .cons _ h, i + 1, x, e => by
    obtain ⟨u, e1, e2⟩ := kv_at h i x (by simpa using e)
    exact ⟨u, by simpa using e1, e2⟩
/-- the entries of a locked dict -/
theorem entry_of {pins : List (Addr × Obj)} {σ : L2.St} {s : Shared} {H : Hp} {o : Obj} (I : Inv X pins σ H s) (h : H a = some (.frz o (.dK kvs))) {es : Array DictEntry} {ep : Nat} (hd : o.data = .dict es ep) (i : Nat) (hi : i < kvs.length) :
    ∃ e, es[i]? = some e ∧ RelV (kV kvs[i].1) e.key ∧ RelV kvs[i].2 e.val := by
  obtain ⟨_, hg, _, es', ep', vs, hd', hs, kv, o2, es2, g2, x2, d2, k2, p2, _⟩ := I.frzK h
  rw [hg] at g2
  cases g2
  rw [hd] at d2
  cases d2
  obtain ⟨u, e1, e2, e3⟩ := kv_at kv i kvs[i] (List.getElem?_eq_getElem hi)
  obtain ⟨e, f1, f2, f3⟩ := pairs_at p2 i u e1
  refine ⟨e, by simpa using f1, ?_, by rw [f3]; exact e3⟩
  rw [e2]
  exact key_rel f2
theorem dct_at {A : Around} {g : List Code} {bs : Nat} {pins : List (Addr × Obj)} {σ : L2.St} {s : Shared} {H : Hp} {Q : Value → Shared → Prop} {id : String} {rest : List Value} (hcg : (Code.builtin id ⟨.ref a :: rest, []⟩).isGuard = true) (sb : Sub X n (A.under (.builtin id ⟨.ref a :: rest, []⟩)))
    (hg : A.guards = some g) (gd : Gd g outs) (I : Inv X pins σ H s) (ha : H a = some (.dK kvs)) (na : a ∉ outs) (xe : Ex outs H0 H) (hT : RpEnt X n (a :: outs) H0 kvs ps) (hsz : bs + (dictText ps).length ≤ sizeLine) (fin : ∀ v s', Told X pins σ H (dictText ps) v s' → Q v s') :
    wpOwn (model X.prog X.w) A (.builtin id ⟨.ref a :: rest, []⟩) (Builtin.dictReprAt bs ⟨[.ref a], []⟩) (fun fin s' => match fin with | .done f => callEnd Q X.xe (.ok f) s' | .again c' => c'.quiet = true ∧ codeAny (model X.prog X.w) A c' (callEnd Q X.xe) s') (fun e s' => callEnd Q X.xe (.error e) s') s := by
  have mu : Mut (some (HO.dK kvs)) := trivial
  have nf := I.nofrz ha mu
  obtain ⟨o, I1⟩ := I.lock ha mu
  have e1 : (upd H a (.frz o (.dK kvs))) a = some (.frz o (.dK kvs)) := upd_same
  have x1 : Ex (a :: outs) H0 (upd H a (.frz o (.dK kvs))) := fun b u e nb => by
    rw [upd_ne fun z => nb (by rw [z]; exact List.mem_cons_self)]
    exact xe b u e fun z => nb (List.mem_cons_of_mem _ z)
  have back : ∀ {H' : Hp} {s' : Shared}, Inv X pins σ H' s' → Ext (upd H a (.frz o (.dK kvs))) H' → ∃ H2, Inv X pins σ H2 s' ∧ Ext H H2 := fun {H' s'} I' e' => by
    refine ⟨_, I'.unlock (e' _ _ e1) nf, fun b u e => ?_⟩
    by_cases hb : b = a
    · subst hb
      rw [upd_same, ← e, ha]
    · rw [upd_ne hb]
      refine e' _ _ ?_
      rw [upd_ne hb]
      exact e
  generalize upd H a (.frz o (.dK kvs)) = H1 at I1 e1 x1 back
  obtain ⟨hsys, hget, hex, es, ep, vs, hd, hsize, _, _⟩ := I1.frzK e1
  have got : ∀ {H' : Hp} {s' : Shared}, Inv X pins σ H' s' → Ext H1 H' → s'.heap.get? a = some o := fun I' e' => (I'.frzK (e' _ _ e1)).2.1
  have hTy : s.TypeIs (.ref a) "dict" := ⟨o, hget, hex.1⟩
  have hca : Clear g a := gd.clear na
  have hlen : ps.length = es.size := hT.len.trans hsize.symm
  have hp3 := piled_le_dictText ps
  have hsz0 : (dictText ps).length ≤ sizeLine := by omega
  unfold Builtin.dictReprAt
  refine wpOwn_bind (wpOwn_of_wpAny ?_)
  unfold Builtin.Dict.dictSlotNone
  refine wpAny_bind (wpAny_notOrdered_dict hTy ?_)
  show wpAny _ _ (pure (Value.ref a)) _ _ s
  refine wpAny_pure ?_
  rw [dictReprRunning_eq]
  refine wpOwn_bind (wpOwn_stackTailAny hg (dictGuardF_off _) (dictGuardF_pos _) ?_)
  have hn : (g.any fun c => dictGuardF (.ref a) (c, default)) = false := by
    rw [List.any_eq_false]
    intro c hcm
    rw [dictGuardF_of_clear hca c hcm]
    exact Bool.false_ne_true
  rw [hn]
  refine wpOwn_of_wpAny ?_
  have hg' := guards_under_guard hcg hg
  show wpAny _ _ (Builtin.Dict.addrOf (.ref a) >>= _) _ _ s
  refine wpAny_bind (wpAny_pure ?_)
  show wpAny _ _ (Builtin.Dict.showsAll a >>= _) _ _ s
  unfold Builtin.Dict.showsAll
  rw [if_neg (by rw [hsys]; exact Bool.false_ne_true)]
  refine wpAny_bind (wpAny_pure ?_)
  refine wpAny_bind (wpAny_dictEpoch hget hd ?_)
  refine wpAny_bind (wpAny_dictEntries hget hd ?_)
  refine wpAny_bind ?_
  rw [Std.Legacy.Range.forIn_eq_forIn_range']
  simp only [Std.Legacy.Range.size, Nat.sub_zero, Nat.add_sub_cancel, Nat.div_one]
  refine wpAny_forIn_list _
    (fun rest' r s' => ∃ i H', rest' = List.range' i (es.size - i) ∧ i ≤ es.size ∧ r = (⟨(ps.take i).toArray, bs + piled (ps.take i)⟩ : (Array Str × Nat)) ∧ Inv X pins σ H' s' ∧ Ext H1 H')
    _ ?_ ?_ _ _ ⟨0, H1, by simp, Nat.zero_le _, by simp [piled], I1, Ext.rfl'⟩
  · rintro x rest' _ s' ⟨i, H', hr, hi, rfl, I', e'⟩
    have hlt : i < es.size := by
      rcases Nat.lt_or_ge i es.size with h | h
      · exact h
      · rw [Nat.sub_eq_zero_of_le h] at hr; simp at hr
    obtain ⟨rfl, hrest⟩ : x = i ∧ rest' = List.range' (i + 1) (es.size - (i + 1)) := by
      have e : es.size - i = (es.size - (i + 1)) + 1 := by omega
      rw [e, List.range'_succ] at hr
      injection hr with h1 h2
      exact ⟨h1, h2⟩
    have hx2 : x < kvs.length := by omega
    obtain ⟨tk, tv, hp, rk, rv⟩ := hT.get x kvs[x] (List.getElem?_eq_getElem hx2)
    obtain ⟨en, f1, f2, f3⟩ := entry_of I' (e' _ _ e1) hd x hx2
    have hpl : (tk ++ ": " ++ tv).length = tk.length + 2 + tv.length := by
      rw [strLen_append, strLen_append]; rfl
    have hp1 := piled_take_succ hp
    have hp2 := piled_take_le ps (x + 1)
    rw [hpl] at hp1
    refine wpAny_bind (wpAny_dictEntries (got I' e') hd ?_)
    rw [f1]
    refine wpAny_bind (wpAny_holding (wpAny_bind (wpAny_mono (rk _ _ pins s' σ H' en.key (bs + piled (ps.take x) + 1) (x1.ext e') sb hg' gd.cons I' f2 (by omega)) (fun r2 s2 h2 => ?_) fun _ _ z => z)))
    obtain ⟨rfl, H2, I2, e2⟩ := h2
    refine wpAny_bind (wpAny_mono (rv _ _ pins s2 σ H2 en.val (bs + piled (ps.take x) + (r2.length + 3)) (x1.ext (e'.trans e2)) sb hg' gd.cons I2 f3 (by omega)) (fun r3 s3 h3 => ?_) fun _ _ z => z)
    obtain ⟨rfl, H3, I3, e3⟩ := h3
    have e13 := (e'.trans e2).trans e3
    refine wpAny_pure ?_
    refine wpAny_bind (wpAny_dictEpoch (got I3 e13) hd ?_)
    rw [if_neg (by simp)]
    have g1 : (ps.take x).toArray.push (r2 ++ ": " ++ r3) = (ps.take (x + 1)).toArray := by
      rw [List.take_add_one, hp]
      simp
    have g2 : bs + piled (ps.take x) + (r2.length + r3.length + 4) = bs + piled (ps.take (x + 1)) := by omega
    refine wpAny_pure ⟨x + 1, H3, hrest, hlt, ?_, I3, e13⟩
    rw [g1, g2]
  · rintro _ s' ⟨i, H', hr, hi, rfl, I', e'⟩
    have hin : i = es.size := by
      rcases Nat.lt_or_ge i es.size with h | h
      · have e : es.size - i = (es.size - (i + 1)) + 1 := by omega
        rw [e, List.range'_succ] at hr; exact nomatch hr
      · exact Nat.le_antisymm hi h
    rw [hin, ← hlen, List.take_length]
    refine wpAny_bind (wpAny_mkStr (wpAny_pure ?_) (by simpa [dictText] using hsz0))
    have h1 := fin (.str (dictText ps) s'.toks) { s' with toks := s'.toks + 1 } ⟨_, rfl, back (I'.tok _) e'⟩
    simpa [dictText] using h1
theorem w_dct {args : Args} : (Code.builtin "dict.__repr__" args).weight ≤ 1 := by
  first | exact Nat.le_refl _ | simp [Code.weight, Code.isCreation, Code.isGuard, Code.isCaller, Code.frames, Code.isFrame, guardIds]
theorem w_dctU {args : Args} : (Code.builtin "dict.__repr__.under" args).weight ≤ 1 := by
  first | exact Nat.le_refl _ | simp [Code.weight, Code.isCreation, Code.isGuard, Code.isCaller, Code.frames, Code.isFrame, guardIds]
theorem RpU.dct (ha : H0 a = some (.dK kvs)) (na : a ∉ outs) (hT : RpEnt X n (a :: outs) H0 kvs ps) : RpU X (n + 1) outs H0 (.ref a) (dictText ps) := fun A g pins s σ H u bs x sb hg gd I r hb => by
  cases (show u = Value.ref a from r)
  have ea := x a _ ha na
  have mu : Mut (some (HO.dK kvs)) := trivial
  obtain ⟨o, I1⟩ := I.lock ea mu
  obtain ⟨_, hget, hex, _⟩ := I1.frzK (upd_same : (upd H a (.frz o (.dK kvs))) a = _)
  refine wpAny_pyReprUnder_ref (by omega) (wpAny_pyReprObjUnder_twin (twin := "dict.__repr__.under") ⟨o, hget, hex.1⟩ F.slot_dict_repr rfl sb.room.units0
    (call_twin_own (F.quiet_dict_repr_under _) F.entry_dict_repr_under F.check_dict_repr_under ⟨o, hget, hex.1⟩ F.slot_dict_repr (F.args_dict_repr_1 _)
      (dct_at (isGuard_dict_repr_under _) (sub_code sb w_dctU e_b (units_under_dict_repr_under _ _)) hg gd I ea na x hT hb fun v s' h => ?_)))
  obtain ⟨tk, rfl, h⟩ := h
  exact ⟨⟨_, _, rfl⟩, _, _, rfl, rfl, h⟩
/-- repr of a list, of a dict, where no repr is under way -/
def rReprL (X : Cx) (n : Nat) : List V → Hp → VK → Prop := fun ys H Q => ∃ (a : Addr) (xs : List V) (ts : List Str), ys = [.ref a] ∧ H a = some (.lst xs) ∧ xs ≠ [] ∧ RpAll X n [a] H xs ts ∧ (listText ts).length ≤ sizeLine ∧ ∀ H', Ext H H' → Q (.str (listText ts)) H'
theorem call_reprL (hgd : X.A.guards = some []) (hr : Room (n + 2) X.A) : CallR X (.builtin "repr") (rReprL X n) := by
  intro pins s σ H ys us Q I r h
  obtain ⟨a, xs, ts, rfl, ea, hx, hT, hb, q⟩ := h
  obtain ⟨u, rfl, ru⟩ := r.one
  cases (show u = Value.ref a from ru)
  obtain ⟨_, its, m, rv, lv, e⟩ := I.lstM ea
  have sb : Sub X (n + 1) X.A.in1 := ⟨hr.in1, rfl⟩
  refine call_repr_slot (by have := hr.un; omega) ⟨_, e, rfl⟩ F.slot_list_repr.toG ?_
  refine wpAny_call (codeAny_call_builtin F.slot_list_repr.plain F.entry_list_repr (F.slot_list_repr.check _ _ _ _ _ _ _ _ ⟨_, e, rfl⟩ (F.args_list_repr_1 _)
    (list_at (outs := []) (H0 := H) (bs := 0) sb hgd Gd.nil I ea (by simp) (Ex.refl _ _) hx hT (by omega) fun v s' h => ?_)))
  obtain ⟨tk, rfl, H', I', e⟩ := h
  exact ⟨_, _, rfl, .str _, H', I', ⟨_, rfl⟩, q H' e⟩
def rReprDc (X : Cx) (n : Nat) : List V → Hp → VK → Prop := fun ys H Q => ∃ (a : Addr) (kvs : List (Key × V)) (ps : List Str), ys = [.ref a] ∧ H a = some (.dK kvs) ∧ RpEnt X n [a] H kvs ps ∧ (dictText ps).length ≤ sizeLine ∧ ∀ H', Ext H H' → Q (.str (dictText ps)) H'
theorem call_reprDc (hgd : X.A.guards = some []) (hr : Room (n + 2) X.A) : CallR X (.builtin "repr") (rReprDc X n) := by
  intro pins s σ H ys us Q I r h
  obtain ⟨a, kvs, ps, rfl, ea, hT, hb, q⟩ := h
  obtain ⟨u, rfl, ru⟩ := r.one
  cases (show u = Value.ref a from ru)
  have mu : Mut (some (HO.dK kvs)) := trivial
  obtain ⟨o, I1⟩ := I.lock ea mu
  obtain ⟨_, hget, hex, _⟩ := I1.frzK (upd_same : (upd H a (.frz o (.dK kvs))) a = _)
  have sb : Sub X (n + 1) X.A.in1 := ⟨hr.in1, rfl⟩
  refine call_repr_slot (by have := hr.un; omega) ⟨o, hget, hex.1⟩ F.slot_dict_repr ?_
  refine wpAny_call (codeAny_call_builtin_own (Code.quiet_builtin _ (by decide +kernel)) F.entry_dict_repr (F.slot_dict_repr.check _ _ _ _ _ _ _ _ ⟨o, hget, hex.1⟩ (F.args_dict_repr_1 _)
    (dct_at (outs := []) (H0 := H) (bs := 0) (isGuard_dict_repr _) (sub_code sb w_dct e_b (units_under_dict_repr _ _)) hgd Gd.nil I ea (by simp) (Ex.refl _ _) hT (by omega) fun v s' h => ?_)))
  obtain ⟨tk, rfl, H', I', e⟩ := h
  exact ⟨_, _, rfl, .str _, H', I', ⟨_, rfl⟩, q H' e⟩
end
end RPO
set_option Elab.async false
set_option linter.all false
set_option maxRecDepth 100000
set_option maxHeartbeats 4000000
namespace K48
open PySem PySem.Spec PyProof.Rows L2
open C8 (Cal Mak Met pe_c pe_mk pe_mt pe_mt0)
open KM (pr Sz)
theorem take_one {α : Type} {l : List α} {i : Nat} {x : α} (h : l[i]? = some x) : l.take (i + 1) = l.take i ++ [x] := by rw [List.take_succ, h]; rfl
theorem line_of {n : Nat} (h : n ≤ 100000) : n ≤ sizeLine := by have := sizeLine_eq; omega
theorem line_lt {n : Nat} (h : n ≤ 100000) : n < sizeLine := by have := sizeLine_eq; omega
/-! ### dicts by names -/
def dctO (l : List Str) (g : Str → V) : HO := .dK (l.map fun x => ((Sum.inr x : Key), g x))
/-- a dict of Shares -/
def SDc (C : Addr) (H : Hp) (d : Addr) (L : List Str) (c : Str → Rat) : Prop := ∃ ad : Str → Addr, H d = some (dctO L fun x => .ref (ad x)) ∧ ∀ x ∈ L, Sh C H (ad x) (pr (c x))
/-- a dict of fractions -/
def TDc (H : Hp) (d : Addr) (L : List Str) (c : Str → Rat) : Prop := ∃ ad : Str → Addr, H d = some (dctO L fun x => .ref (ad x)) ∧ ∀ x ∈ L, H (ad x) = some (tupP (pr (c x)))
theorem SDc.same {C : Addr} {H H' : Hp} {d : Addr} {L : List Str} {c : Str → Rat} (h : SDc C H d L c) (s : Same H H') : SDc C H' d L c := by
  obtain ⟨ad, h1, h2⟩ := h
  exact ⟨ad, s _ _ h1, fun x hx => (h2 x hx).keep s⟩
theorem TDc.same {H H' : Hp} {d : Addr} {L : List Str} {c : Str → Rat} (h : TDc H d L c) (s : Same H H') : TDc H' d L c := by
  obtain ⟨ad, h1, h2⟩ := h
  exact ⟨ad, s _ _ h1, fun x hx => s _ _ (h2 x hx)⟩
/-! ### what is put -/
def addK (L : List Str) (x : Str) : List Str := if x ∈ L then L else L ++ [x]
def setc (c : Str → Rat) (x : Str) (v : Rat) : Str → Rat := fun y => if y = x then v else c y
def get0 (L : List Str) (c : Str → Rat) (x : Str) : Rat := if x ∈ L then c x else 0
def mv (u : List Str × (Str → Rat)) (m : Str × Rat) : List Str × (Str → Rat) := (addK u.1 m.1, setc u.2 m.1 (get0 u.1 u.2 m.1 + m.2))
def mvL (u : List Str × (Str → Rat)) (ms : List (Str × Rat)) : List Str × (Str → Rat) := ms.foldl mv u
theorem mvL_snoc (u : List Str × (Str → Rat)) (ms : List (Str × Rat)) (m : Str × Rat) : mvL u (ms ++ [m]) = mv (mvL u ms) m := by
  unfold mvL
  rw [List.foldl_append]
  rfl
theorem mvL_app (u : List Str × (Str → Rat)) (ms ns : List (Str × Rat)) : mvL u (ms ++ ns) = mvL (mvL u ms) ns := by
  unfold mvL
  rw [List.foldl_append]
theorem mem_addK {L : List Str} {x : Str} : x ∈ addK L x := by
  unfold addK
  split
  · assumption
  · exact List.mem_append_right _ (List.mem_singleton.mpr rfl)
theorem addK_sub {L : List Str} {x y : Str} (h : y ∈ addK L x) : y ∈ L ∨ y = x := by
  unfold addK at h
  split at h
  · exact .inl h
  · rcases List.mem_append.mp h with z | z
    · exact .inl z
    · exact .inr (List.mem_singleton.mp z)
theorem addK_len (L : List Str) (x : Str) : (addK L x).length ≤ L.length + 1 := by
  unfold addK
  split
  · omega
  · rw [List.length_append]
    exact Nat.le_refl _
theorem addK_nd {L : List Str} {x : Str} (h : L.Nodup) : (addK L x).Nodup := by
  unfold addK
  split
  · exact h
  · rename_i n
    rw [List.nodup_append]
    exact ⟨h, by simp, fun a ha b hb e => by
      rw [List.mem_singleton] at hb
      subst hb
      exact n (e ▸ ha)⟩
theorem mvL_len (ms : List (Str × Rat)) : ∀ u : List Str × (Str → Rat), (mvL u ms).1.length ≤ u.1.length + ms.length := by
  induction ms with
  | nil => intro u; exact Nat.le_refl _
  | cons m ms ih =>
    intro u
    have h1 := ih (mv u m)
    have h2 := addK_len u.1 m.1
    rw [List.length_cons]
    show (mvL (mv u m) ms).1.length ≤ _
    have : (mv u m).1.length ≤ u.1.length + 1 := h2
    omega
theorem mvL_nd (ms : List (Str × Rat)) : ∀ u : List Str × (Str → Rat), u.1.Nodup → (mvL u ms).1.Nodup := by
  induction ms with
  | nil => intro u h; exact h
  | cons m ms ih => intro u h; exact ih (mv u m) (addK_nd h)
/-- how great it gets -/
theorem mvL_sz {k : Nat} (ms : List (Str × Rat)) : ∀ (u : List Str × (Str → Rat)) (n : Nat), (∀ x, Sz n (get0 u.1 u.2 x)) → (∀ m ∈ ms, Sz k m.2) → ∀ x, Sz (n + (k + 1) * ms.length) (get0 (mvL u ms).1 (mvL u ms).2 x) := by
  induction ms with
  | nil => intro u n h _ x; exact h x
  | cons m ms ih =>
    intro u n h hm x
    have h1 : ∀ y, Sz (n + (k + 1)) (get0 (mv u m).1 (mv u m).2 y) := fun y => by
      unfold mv get0 setc
      dsimp only
      by_cases e : y = m.1
      · subst e
        rw [if_pos mem_addK, if_pos rfl]
        have := (KM.sz_plus (h m.1) (hm m List.mem_cons_self)).1
        exact this.mono (by omega)
      · rw [if_neg e]
        have : (y ∈ addK u.1 m.1) ↔ y ∈ u.1 := ⟨fun z => (addK_sub z).elim id fun z => absurd z e, fun z => by
          unfold addK
          split
          · exact z
          · exact List.mem_append_left _ z⟩
        have h2 := h y
        unfold get0 at h2
        simp only [this]
        exact h2.mono (by omega)
    have := ih (mv u m) (n + (k + 1)) h1 (fun m' hm' => hm m' (List.mem_cons_of_mem _ hm')) x
    refine this.mono ?_
    rw [List.length_cons, Nat.mul_add]
    omega
theorem put_dct {L : List Str} {ad : Str → Addr} {x : Str} {t : Addr} : putK (L.map fun y => ((Sum.inr y : Key), V.ref (ad y))) (Sum.inr x) (.ref t) = (addK L x).map fun y => ((Sum.inr y : Key), V.ref (if y = x then t else ad y)) := by
  unfold addK
  split
  · rename_i h
    rw [DQ.put_old (fun y => V.ref (ad y)) h]
    exact List.map_congr_left fun y _ => by by_cases e : y = x <;> simp [e]
  · rename_i h
    have e1 : (L.map fun y => ((Sum.inr y : Key), V.ref (ad y))) = L.map fun y => ((Sum.inr y : Key), V.ref (if y = x then t else ad y)) := List.map_congr_left fun y hy => by rw [if_neg (show ¬ y = x from fun e => h (e ▸ hy))]
    rw [e1]
    have e2 := DQ.put_new (fun y => V.ref (if y = x then t else ad y)) h
    rw [if_pos rfl] at e2
    exact e2
/-- a value put in, read -/
theorem val_dct {L : List Str} {ad : Str → Addr} (x : Str) : valV (L.map fun y => ((Sum.inr y : Key), V.ref (ad y))) (Sum.inr x) = if x ∈ L then some (.ref (ad x)) else none := by
  split
  · rename_i h
    exact DQ.val_map (fun y => V.ref (ad y)) h
  · rename_i h
    exact DQ.val_none (fun y => V.ref (ad y)) h
theorem _root_.K48.Sh.at_ne {C : Addr} {H : Hp} {p d : Addr} {q : Int × Int} {kvs : List (Key × V)} (h : Sh C H p q) (hd : H d = some (.dK kvs)) : p ≠ d := fun z => by
  obtain ⟨dx, e⟩ := h
  rw [z, hd] at e
  cases e
/-- the dict with one more put in -/
theorem SDc.put {C : Addr} {H : Hp} {d t : Addr} {L : List Str} {c : Str → Rat} {ad : Str → Addr} {x : Str} {v : Rat} (h1 : H d = some (dctO L fun y => .ref (ad y))) (h2 : ∀ y ∈ L, Sh C H (ad y) (pr (c y))) (ht : Sh C H t (pr v)) :
    SDc C (upd H d (.dK (putK (L.map fun y => ((Sum.inr y : Key), V.ref (ad y))) (Sum.inr x) (.ref t)))) d (addK L x) (setc c x v) := by
  rw [put_dct]
  refine ⟨fun y => if y = x then t else ad y, upd_same, fun y hy => ?_⟩
  have keep : ∀ {p : Addr} {q : Int × Int} {o : HO}, Sh C H p q → Sh C (upd H d o) p q := fun {p q o} hp => by
    have n := hp.at_ne h1
    obtain ⟨dx, e⟩ := hp
    exact ⟨dx, by rw [upd_ne n]; exact e⟩
  unfold setc
  dsimp only
  by_cases e : y = x
  · rw [if_pos e, if_pos e]
    exact keep ht
  · rw [if_neg e, if_neg e]
    exact keep (h2 y ((addK_sub hy).elim id fun z => absurd z e))
theorem TDc.put {H : Hp} {d t : Addr} {L : List Str} {c : Str → Rat} {ad : Str → Addr} {x : Str} {v : Rat} (h1 : H d = some (dctO L fun y => .ref (ad y))) (h2 : ∀ y ∈ L, H (ad y) = some (tupP (pr (c y)))) (ht : H t = some (tupP (pr v))) :
    TDc (upd H d (.dK (putK (L.map fun y => ((Sum.inr y : Key), V.ref (ad y))) (Sum.inr x) (.ref t)))) d (addK L x) (setc c x v) := by
  rw [put_dct]
  refine ⟨fun y => if y = x then t else ad y, upd_same, fun y hy => ?_⟩
  have keep : ∀ {p : Addr} {q : Int × Int} {o : HO}, H p = some (tupP q) → (upd H d o) p = some (tupP q) := fun {p q o} hp => by
    rw [upd_ne fun z => by rw [z, h1] at hp; cases hp]
    exact hp
  unfold setc
  dsimp only
  by_cases e : y = x
  · rw [if_pos e, if_pos e]
    exact keep ht
  · rw [if_neg e, if_neg e]
    exact keep (h2 y ((addK_sub hy).elim id fun z => absurd z e))
/-- a dict made by a walk -/
theorem dc_it {J : It} {n : Nat} {G : Hp → Prop} {Y : Nat → Hp → V → Hp → Prop} (w : Walk J n G Y) {g : TG} {tt : TT} {tk tv : TE} {vs : List Nat} {σ : L2.St} {H1 : Hp} {D : Addr} {Qd : Hp → Prop} (Pv : Nat → Hp → Prop) (h0 : Pv 0 (upd H1 D (.dK []))) (hG : ∀ i H, i ≤ n → Pv i H → G H)
    (hs : ∀ i x H H', i < n → Pv i H → Y i H x H' → g x (wipe σ vs) H' fun σ2 H2 => wipe σ2 vs = wipe σ vs ∧ tt σ2 H2 fun b H3 =>
      if b = true then tk σ2 H3 fun y H4 => tv σ2 H4 fun z H5 => ∃ kvs k, y = kV k ∧ H5 D = some (.dK kvs) ∧ kvs.length < sizeLine ∧ Pv (i + 1) (upd H5 D (.dK (putK kvs k z))) else Pv (i + 1) H3) (hd : ∀ H, Pv n H → Qd H) :
    ∃ W : Nat → Nat → Hp → Prop, (∃ m, W 0 m (upd H1 D (.dK []))) ∧ ∀ i m H, W i m H →
      (J.stop i H ∧ Qd H) ∨ (J.go i H ∧ ∃ Nx : Hp → Prop, (∀ H', Nx H' → ∃ m', m' < m ∧ W (i + 1) m' H') ∧ ∀ x H', J.yld i H x H' → g x (wipe σ vs) H' fun σ2 H2 => wipe σ2 vs = wipe σ vs ∧ tt σ2 H2 fun b H3 =>
        if b = true then tk σ2 H3 fun y H4 => tv σ2 H4 fun z H5 => ∃ kvs k, y = kV k ∧ H5 D = some (.dK kvs) ∧ kvs.length < sizeLine ∧ Nx (upd H5 D (.dK (putK kvs k z))) else Nx H3) := by
  refine ⟨fun i m H => m = n - i ∧ i ≤ n ∧ Pv i H, ⟨n, rfl, Nat.zero_le _, h0⟩, ?_⟩
  rintro i m H ⟨rfl, hi, p⟩
  by_cases hlt : i < n
  · exact .inr ⟨w.goes i H hlt (hG i H hi p), Pv (i + 1), fun H' p' => ⟨n - (i + 1), by omega, rfl, hlt, p'⟩, fun x H' y => hs i x H H' hlt p (w.yields i H x H' hlt (hG i H hi p) y)⟩
  · have e : i = n := by omega
    subst e
    exact .inl ⟨w.stops H (hG i H hi p), hd H p⟩
end K48
set_option Elab.async false
set_option linter.all false
set_option maxRecDepth 100000
set_option maxHeartbeats 4000000
/-! SDC: a dict comprehension assigned to a plain local on one line; a dict comprehension over a list. -/
namespace SDC
open PySem PySem.Spec PyProof.Rows L2
section
variable {X : Cx}
theorem ps_setDc {i : Nat} {y : Str} {py : Pos} {kx vx tg iter : Expr} {ifs : List Expr} {scope : Scope} {own : List (Str × Nat)} {pos spos : Pos} {wi : TI} {g : TG} {tt : TT} {tk tv : TE} (hc : X.calm = true) (hN : X.N.Nodup) (hy : X.N[i]? = some y) (hyl : X.env.scope.names.lookup y = some .local)
    (hsw : swapsWith (.DictComp kx vx [⟨tg, iter, ifs, 0⟩] scope pos) (some (.Name y py)) spos.line X.env = pure true) (hi : PI X tg iter wi) (ok : BlkOk X.N X.env.scope scope own)
    (hg : ∀ (s : Shared) (H : Hp) (C : Addr) (cl : List (Str × Addr)) (fp : List Addr), PG (X.blk s H scope (compEnvC scope cl C X.env) fp) tg g) (ht : ∀ (s : Shared) (H : Hp) (C : Addr) (cl : List (Str × Addr)) (fp : List Addr), PTs (X.blk s H scope (compEnvC scope cl C X.env) fp) ifs tt)
    (hk : ∀ (s : Shared) (H : Hp) (C : Addr) (cl : List (Str × Addr)) (fp : List Addr), PE (X.blk s H scope (compEnvC scope cl C X.env) fp) kx tk)
    (he : ∀ (s : Shared) (H : Hp) (C : Addr) (cl : List (Str × Addr)) (fp : List Addr), PE (X.blk s H scope (compEnvC scope cl C X.env) fp) vx tv) (hs : ∀ x, foldedSetIterable iter X.env x = pure x := by intro _; rfl) :
    PS X (.Assign [.Name y py] (.DictComp kx vx [⟨tg, iter, ifs, 0⟩] scope pos) spos) (tAsg (tDc wi g tt tk tv (own.map (·.2))) (gName i)) := by
  refine ⟨fun pins s σ H D I h => ?_⟩
  rw [exec_Assign_Name_used _ _ _ _ hsw]
  refine wpAny_bind (wpAny_standAt (wpAny_bind ?_))
  show wpAny _ X.A (do let _ ← comprehension (.DictComp kx vx [⟨tg, iter, ifs, 0⟩] scope pos) scope X.env (firstIterPos [⟨tg, iter, ifs, 0⟩] pos) newDict false (eval iter X.env) (some (assign (.Name y py) X.env))) _ _ s
  have h : tDc wi g tt tk tv (own.map (·.2)) σ H (fun x H1 => gName i x σ H1 D.nx) := h
  refine wpAny_bind (thn (dc_core (Qf := fun _ s' => SP X pins D .next s') hc hN I hi ok hg ht hk he hs h fun L C s' m H' I' q hn f => ?_) fun _ s' hq => wpAny_pure (wpAny_pure hq))
  show wpAny _ _ (assign (.Name y py) X.env (.ref L)) _ _ _
  refine wpAny_assign_Name (store_ok2 (v := V.ref L) I' hN hy (.inl hyl) rfl (fun s2 I2 ⟨a, sb, ha⟩ => ?_) (.inr hyl))
  obtain ⟨f0, f1, f2, f3, f4, f5⟩ := f
  have haC : C ≠ a := by
    rcases ha with z | z
    · rw [z]; exact f1
    · exact fun e => f4 y a z e.symm
  refine ⟨m, hn.sameBut sb haC, fun h3 sb3 => ?_⟩
  exact ⟨_, H', I2.turned (t' := s2.toks) (fun b o hb e => (sb3.2 b hb).trans e) f0 f1 f3 f4 f5, q⟩
theorem sw_true {kx vx : Expr} {gs : List Comprehension} {scope : Scope} {pos py : Pos} {y : Str} {l : Nat} {env : Env} (hk : env.scope.kind = .function) (hy : env.scope.names.lookup y = some .local) (hl : (py.line == pos.line) = true)
    (ha : (scope.names.any fun (n, k) => n == y && (k == .local || k == .cell)) = false) : swapsWith (.DictComp kx vx gs scope pos) (some (.Name y py)) l env = pure true := by
  have ky : env.kindOf y = some .local := hy
  have hb : env.blockKind = .function := by unfold Env.blockKind; rw [hk]; rfl
  unfold swapsWith
  simp only [hb, ky, ha, Expr.pos, hl]
  rfl
end
theorem dc_list {K : PySem.W.Frag} {a : Addr} {xs : List V} {g : TG} {tt : TT} {tk tv : TE} {vs : List Nat} {σ : L2.St} {H1 : Hp} {D : Addr} {Qd : Hp → Prop} (Pv : Nat → Hp → Prop) (h0 : Pv 0 (upd H1 D (.dK []))) (hl : ∀ i H, i ≤ xs.length → Pv i H → SqL K H a xs)
    (hs : ∀ i x H, xs[i]? = some x → Pv i H → g x (wipe σ vs) H fun σ2 H2 => wipe σ2 vs = wipe σ vs ∧ tt σ2 H2 fun b H3 =>
      if b = true then tk σ2 H3 fun y H4 => tv σ2 H4 fun z H5 => ∃ kvs k, y = kV k ∧ H5 D = some (.dK kvs) ∧ kvs.length < sizeLine ∧ Pv (i + 1) (upd H5 D (.dK (putK kvs k z))) else Pv (i + 1) H3) (hd : ∀ H, Pv xs.length H → Qd H) :
    ∃ W : Nat → Nat → Hp → Prop, (∃ m, W 0 m (upd H1 D (.dK []))) ∧ ∀ i m H, W i m H →
      ((Itl K a).stop i H ∧ Qd H) ∨ ((Itl K a).go i H ∧ ∃ Nx : Hp → Prop, (∀ H', Nx H' → ∃ m', m' < m ∧ W (i + 1) m' H') ∧ ∀ x H', (Itl K a).yld i H x H' → g x (wipe σ vs) H' fun σ2 H2 => wipe σ2 vs = wipe σ vs ∧ tt σ2 H2 fun b H3 =>
        if b = true then tk σ2 H3 fun y H4 => tv σ2 H4 fun z H5 => ∃ kvs k, y = kV k ∧ H5 D = some (.dK kvs) ∧ kvs.length < sizeLine ∧ Nx (upd H5 D (.dK (putK kvs k z))) else Nx H3) := by
  refine ⟨fun i m H => m = xs.length - i ∧ i ≤ xs.length ∧ Pv i H, ⟨xs.length, by simp, Nat.zero_le _, h0⟩, ?_⟩
  rintro i m H ⟨rfl, hi, p⟩
  have q := hl i H hi p
  by_cases hlt : i < xs.length
  · refine .inr ⟨⟨xs, xs[i], q, by simp [hlt]⟩, Pv (i + 1), fun H' p' => ⟨xs.length - (i + 1), by omega, rfl, hlt, p'⟩, fun x H' y => ?_⟩
    obtain ⟨e, y⟩ := y
    subst e
    exact hs i x _ (y xs q) p
  · have e : i = xs.length := by omega
    subst e
    exact .inl ⟨⟨xs, q, Nat.le_refl _⟩, hd H p⟩
/-- a row that is put anew comes from one of the row -/
theorem perm_inv {α β : Type} {f : α → β} : ∀ {l' z : List β}, l'.Perm z → ∀ {l : List α}, l.map f = z → ∃ m : List α, m.Perm l ∧ l' = m.map f := by
  intro l' z h
  induction h with
  | nil =>
    intro l e
    cases l with
    | nil => exact ⟨[], .nil, rfl⟩
    | cons _ _ => cases e
  | cons x h ih =>
    intro l e
    cases l with
    | nil => cases e
    | cons a as =>
      simp only [List.map_cons, List.cons.injEq] at e
      obtain ⟨m, p, rfl⟩ := ih e.2
      exact ⟨a :: m, p.cons a, by rw [List.map_cons, e.1]⟩
  | swap x y t =>
    intro l e
    match l, e with
    | a :: b :: t', e =>
      simp only [List.map_cons, List.cons.injEq] at e
      obtain ⟨e1, e2, e3⟩ := e
      exact ⟨b :: a :: t', List.Perm.swap _ _ _, by rw [List.map_cons, List.map_cons, e1, e2, e3]⟩
  | trans h1 h2 ih1 ih2 =>
    intro l e
    obtain ⟨m2, p2, e2⟩ := ih2 e
    obtain ⟨m1, p1, e1⟩ := ih1 e2.symm
    exact ⟨m1, p1.trans p2, e1⟩
end SDC
set_option Elab.async false
set_option linter.all false
set_option maxRecDepth 100000
set_option maxHeartbeats 4000000
namespace K48
open PySem PySem.Spec PyProof.Rows L2
open C8 (Cal Mak Met pe_c pe_mk pe_mt pe_mt0)
open KM (pr Sz)
theorem zero_sub' (r : Rat) : 0 - r = -r := by rw [Rat.sub_eq_add_neg, Rat.zero_add]
theorem pr0 : pr (0 : Rat) = (0, 1) := rfl
theorem div01 : Rat.divInt 0 1 = 0 := by rw [Rat.zero_divInt]
theorem sz0 {n : Nat} (h : 0 < n) : Sz n (0 : Rat) := ⟨by show 0 < 2 ^ n; exact Nat.pow_pos (by decide), by show 1 < 2 ^ n; exact Nat.one_lt_two_pow (by omega)⟩
theorem put_top (q : Int × Int) (t : Int) : putF "top" (.int t) (shF q) = shF (t, q.2) := by
  unfold shF
  simp only [putF, if_neg tb, if_neg (show ¬ (("bottom" : Str) = "top") from fun z => tb z.symm), if_pos]
theorem put_bot (q : Int × Int) (b : Int) : putF "bottom" (.int b) (shF q) = shF (q.1, b) := by
  unfold shF
  simp only [putF, if_neg tb, if_neg (show ¬ (("bottom" : Str) = "top") from fun z => tb z.symm), if_pos]
theorem shF_len (q : Int × Int) : (shF q).length < 1000 := by
  unfold shF
  simp only [putF, if_neg tb, if_neg (show ¬ (("bottom" : Str) = "top") from fun z => tb z.symm)]
  show 2 < 1000
  decide
/-- the puts of a row of moves -/
def puts (ms : List (Addr × List Str × (Str → Rat))) : List (Str × Rat) := ms.flatMap fun m => m.2.1.map fun x => (x, m.2.2 x)
/-- a dict locked: what is known of the heap -/
theorem lockf {C : Addr} {H : Hp} {d : Addr} {L : List Str} {ad : Str → Addr} (hd : H d = some (dctO L fun x => .ref (ad x))) (od : Obj) :
    (upd H d (.frz od (dctO L fun x => .ref (ad x)))) d = some (.frz od (.dK (L.map fun x => ((Sum.inr x : Key), V.ref (ad x))))) ∧
    (∀ b o, H b = some o → b ≠ d → (upd H d (.frz od (dctO L fun x => .ref (ad x)))) b = some o) ∧
    (∀ b, (upd H d (.frz od (dctO L fun x => .ref (ad x)))) b = none → H b = none ∧ b ≠ d) ∧
    (∀ H', Same (upd H d (.frz od (dctO L fun x => .ref (ad x)))) H' → Same H (upd H' d (dctO L fun x => .ref (ad x)))) := by
  refine ⟨upd_same, fun b o e n => by rw [upd_ne n]; exact e, fun b e => ?_, fun H' s b o e => ?_⟩
  · by_cases z : b = d
    · subst z
      rw [upd_same] at e
      cases e
    · rw [upd_ne z] at e
      exact ⟨e, z⟩
  · by_cases z : b = d
    · subst z
      rw [upd_same, ← e, hd]
    · rw [upd_ne z]
      exact s _ _ (by rw [upd_ne z]; exact e)
theorem _root_.K48.Sh.at_frz {C : Addr} {H : Hp} {p d : Addr} {q : Int × Int} {od : Obj} {u : HO} (h : Sh C H p q) (hd : H d = some (.frz od u)) : p ≠ d := fun z => by
  obtain ⟨dx, e⟩ := h
  rw [z, hd] at e
  cases e
theorem _root_.K48.Sh.un {C : Addr} {H : Hp} {p d : Addr} {q : Int × Int} {o : HO} (h : Sh C H p q) (n : p ≠ d) : Sh C (upd H d o) p q := by
  obtain ⟨dx, e⟩ := h
  exact ⟨dx, by rw [upd_ne n]; exact e⟩
theorem nin_take {xs : List Str} (nd : xs.Nodup) {i : Nat} {z : Str} (h : xs[i]? = some z) : z ∉ xs.take i := fun hm => by
  obtain ⟨j, hj, e⟩ := List.mem_iff_getElem.mp hm
  rw [List.getElem_take] at e
  rw [List.length_take] at hj
  have e3 : xs[j]? = xs[i]? := by rw [h, List.getElem?_eq_getElem (by omega), e]
  have := (List.getElem?_inj (by omega) nd).mp e3
  omega
/-- one more put at the end, new -/
theorem SDc.more {C : Addr} {H : Hp} {D t : Addr} {L : List Str} {c : Str → Rat} {ad : Str → Addr} {i : Nat} {z : Str} (nd : L.Nodup) (hz : L[i]? = some z) (h1 : H D = some (dctO (L.take i) fun y => .ref (ad y))) (h2 : ∀ y ∈ L.take i, Sh C H (ad y) (pr (c y))) (ht : Sh C H t (pr (c z))) :
    SDc C (upd H D (.dK (putK ((L.take i).map fun y => ((Sum.inr y : Key), V.ref (ad y))) (Sum.inr z) (.ref t)))) D (L.take (i + 1)) c := by
  have := SDc.put (x := z) (v := c z) h1 h2 ht
  rw [take_one hz]
  have ek : addK (L.take i) z = L.take i ++ [z] := by unfold addK; rw [if_neg (nin_take nd hz)]
  rw [ek] at this
  obtain ⟨a3, q1, q2⟩ := this
  refine ⟨a3, q1, fun y hy => ?_⟩
  have := q2 y hy
  unfold setc at this
  by_cases e : y = z
  · subst e
    rw [if_pos rfl] at this
    exact this
  · rw [if_neg e] at this
    exact this
section
variable {P : Program} {w : World} {K : PySem.W.Frag} {mg : Str → Option Value} {base : Heap} {f C CT : Addr} {fd : FuncData}
theorem lessR {vs : List V} {H : Hp} {Q : VK} {E : XK} (h : sp2 C (· - ·) vs H Q E) : sp_less C vs H Q E := by
  obtain ⟨p, q, r, s, n, e, hp, hq, sr, ss, n0, n9, k⟩ := h
  refine ⟨p, q, _, _, n, e, hp, hq, ⟨bd_of sr, bd_of ss, n0, n9⟩, fun t H' a b c => k t H' a b ?_⟩
  rw [KM.pr_less] at c
  exact c
def spSS (C : Addr) : Sp := fun vs H Q _ => ∃ (p : Addr) (q : Int × Int), vs = [.ref p] ∧ Sh C H p q ∧ ∀ t H', Same H H' → H t = none → Sh C H' t q → Q (.ref t) H'
theorem ok_ss (F : Dn K d_same_share f fd) (T : Cl K mg C) (M1 : MakS1 P w K mg base C) : FnOk P w K mg base CX0 4 f fd ["share"] (spSS C) := by
  refine F.ok sc_same_share (fun vs H Q E h => ?_) (fun cdv A outer s H vs Q E hr h => ?_)
  · obtain ⟨p, q, rfl, _⟩ := h
    rfl
  · obtain ⟨p, q, rfl, ⟨dp, hp⟩, hQ⟩ := h
    refine ⟨_, PSs.nox (pss_cons (ps_set (i := 1) sc_same_share.nd rfl (.inl rfl) (pe_mk M1 hr (by decide) rfl (pa_cons pe_int pa_nil)))
      (pss_cons (ps_fld (pv 1) (pe_fld (pv 0) rfl) rfl)
      (pss_cons (ps_fld (pv 1) (pe_fld (pv 0) rfl) rfl)
      (pss_one (ps_ret (pv 1)))))), ?_⟩
    intro t dt nt ndt ne
    refine mk_in (n := 10) nt ndt (by decide) (by decide) (by decide) (by decide) fun H1 s1 ht => ⟨rfl, ?_⟩
    obtain ⟨d2, ht⟩ := ht
    have hp1 := s1 _ _ hp
    have npt : p ≠ t := ne_of_none hp nt
    refine ⟨_, rfl, p, C, dp, _, _, rfl, hp1, T.cl, T.nt, shF_top q, _, rfl, t, C, d2, _, rfl, ht, T.cl, T.nt, shF_len _, ?_⟩
    rw [put_top]
    have hp2 : (upd H1 t (.ins C d2 (shF (q.1, (pr (Rat.divInt 0 1)).2)))) p = some (.ins C dp (shF q)) := by rw [upd_ne npt]; exact hp1
    refine ⟨_, rfl, p, C, dp, _, _, rfl, hp2, T.cl, T.nb, shF_bot q, _, rfl, t, C, d2, _, rfl, upd_same, T.cl, T.nb, shF_len _, ?_⟩
    rw [put_bot]
    refine ⟨_, rfl, hQ t _ (fun b o e => ?_) nt ⟨d2, upd_same⟩⟩
    have nb : b ≠ t := ne_of_none e nt
    rw [upd_ne nb, upd_ne nb]
    exact s1 _ _ e
def spTu (C : Addr) : Sp := fun vs H Q _ => ∃ (d : Addr) (L : List Str) (c : Str → Rat), vs = [.ref d] ∧ SDc C H d L c ∧ L.Nodup ∧ L.length ≤ 300 ∧ (∀ x ∈ L, Sz 3900 (c x)) ∧
  ∀ d' H', Same H H' → H d' = none → SDc C H' d' L (fun x => -(c x)) → Q (.ref d') H'
theorem ok_tu (F : Dn K d_turned f fd) (M1 : MakS1 P w K mg base C) (mL : Met P w K mg base 4 C "less" (sp2 C (· - ·)) []) : FnOk P w K mg base CX0 5 f fd ["standing"] (spTu C) := by
  refine F.ok sc_turned (fun vs H Q E h => ?_) (fun cdv A outer s H vs Q E hr h => ?_)
  · obtain ⟨d, L, c, rfl, _⟩ := h
    rfl
  · obtain ⟨d, L, c, rfl, ⟨ad, hd, hv⟩, nd, l3, hz, hQ⟩ := h
    have hu := hu_of hr
    refine ⟨_, PSs.nox (pss_one (ps_ret (pe_lock (pe_dc (own := [("name", 1)]) (g := gName 1) (tt := tYes) rfl sc_turned.nd (pi_keys (pv 0)) (blkOk_by (N := N_turned) (sc := defScope s_turned) (by decide +kernel))
      (fun _ _ _ _ _ => pg_name (i := 1) sc_turned.nd rfl (.inl rfl)) (fun _ _ _ _ _ => pts_nil) (fun _ _ _ _ _ => pv 1)
      (fun _ _ _ _ _ => pe_mt mL hr (by decide) (pe_mk M1 hr (by decide) rfl (pa_cons pe_int pa_nil)) (pa_cons (pe_dget hu (pv 0) (pv 1) (fun _ _ => rfl)) pa_nil)))))), ?_⟩
    refine ⟨d, _, hd, trivial, fun od => ?_⟩
    have hd1 : (upd H d (.frz od (dctO L fun x => .ref (ad x)))) d = some (.frz od (.dK (L.map fun x => ((Sum.inr x : Key), V.ref (ad x))))) := upd_same
    have hv1 : ∀ x ∈ L, Sh C (upd H d (.frz od (dctO L fun x => .ref (ad x)))) (ad x) (pr (c x)) := fun x hx => by
      have n := (hv x hx).at_ne hd
      obtain ⟨dx, e⟩ := hv x hx
      exact ⟨dx, by rw [upd_ne n]; exact e⟩
    have back : ∀ {H' : Hp}, Same (upd H d (.frz od (dctO L fun x => .ref (ad x)))) H' → Same H (upd H' d (dctO L fun x => .ref (ad x))) := fun {H'} s b o e => by
      by_cases z : b = d
      · subst z
        rw [upd_same, ← e, hd]
      · rw [upd_ne z]
        exact s _ _ (by rw [upd_ne z]; exact e)
    have new : ∀ {b : Addr}, (upd H d (.frz od (dctO L fun x => .ref (ad x)))) b = none → H b = none ∧ b ≠ d := fun {b} e => by
      by_cases z : b = d
      · subst z
        rw [hd1] at e
        cases e
      · rw [upd_ne z] at e
        exact ⟨e, z⟩
    generalize upd H d (.frz od (dctO L fun x => .ref (ad x))) = H1 at hd1 hv1 back new
    refine ⟨_, rfl, d, od, rfl, .inl ⟨_, hd1, fun D hD => dc_it walk_keys (fun i H2 => SDc C H2 D (L.take i) (fun x => -(c x)) ∧ Same H1 H2) ⟨⟨fun _ => 0, upd_same, fun x hx => by simp at hx⟩, same_new hD⟩ (fun i H2 _ z => z.2 _ _ hd1) ?_ ?_⟩⟩
    · rintro i x H2 H3 hi ⟨⟨a2, hdd, hval⟩, sm⟩ ⟨rfl, k, v, hk, rfl⟩
      rw [List.length_map] at hi
      rw [List.getElem?_map] at hk
      obtain ⟨z, hz0, e0⟩ := Option.map_eq_some_iff.mp hk
      cases e0
      have hzL := List.mem_of_getElem? hz0
      have nz : z ∉ L.take i := fun hm => by
        obtain ⟨j, hj, e⟩ := List.mem_iff_getElem.mp hm
        rw [List.getElem_take] at e
        rw [List.length_take] at hj
        have e3 : L[j]? = L[i]? := by rw [hz0, List.getElem?_eq_getElem (by omega), e]
        have := (List.getElem?_inj (by omega) nd).mp e3
        omega
      refine ⟨rfl, ?_⟩
      refine ⟨_, rfl, ?_⟩
      intro t dt nt ndt ne
      refine mk_in (n := 10) nt ndt (by decide) (by decide) (by decide) (by decide) fun H4 s4 ht => ⟨rfl, ?_⟩
      rw [div01] at ht
      obtain ⟨d2, htt⟩ := id ht
      have s14 := sm.trans s4
      have dg : DGet H4 d (.str z) (some (.ref (ad z))) := .inl ⟨_, Sum.inr z, .inr ⟨od, s14 _ _ hd1⟩, rfl, by rw [val_dct, if_pos hzL]⟩
      refine ⟨t, d2, _, rfl, htt, shF_no _ (by decide +kernel) (by decide +kernel), _, rfl, _, rfl, d, _, rfl, dg, ?_⟩
      refine ⟨t, ad z, 0, c z, 3900, rfl, ht, (hv1 z hzL).keep s14, sz0 (by decide), hz z hzL, by decide, by decide, fun r H5 s5 fr hr5 => ?_⟩
      have hr5 : Sh C H5 r (pr (-(c z))) := by rw [← zero_sub']; exact hr5
      have s25 := s4.trans s5
      have hD5 := s25 _ _ hdd
      refine ⟨_, Sum.inr z, rfl, hD5, by rw [List.length_map, List.length_take]; exact line_lt (by omega), ?_, fun b o e => ?_⟩
      · have := SDc.put (x := z) (v := -(c z)) hD5 (fun y hy => (hval y hy).keep s25) hr5
        rw [take_one hz0]
        have ek : addK (L.take i) z = L.take i ++ [z] := by unfold addK; rw [if_neg nz]
        rw [ek] at this
        obtain ⟨a3, q1, q2⟩ := this
        refine ⟨a3, q1, fun y hy => ?_⟩
        have := q2 y hy
        unfold setc at this
        by_cases e : y = z
        · subst e
          rw [if_pos rfl] at this
          exact this
        · rw [if_neg e] at this
          exact this
      · rw [upd_ne (ne_of_none e hD)]
        exact s25 _ _ (sm _ _ e)
    · rintro H2 ⟨⟨a2, hdd, hval⟩, sm⟩
      rw [List.length_map, List.take_length] at hdd hval
      obtain ⟨nD, nDd⟩ := new hD
      refine ⟨sm _ _ hd1, hQ D _ (back sm) nD ⟨a2, by rw [upd_ne nDd]; exact hdd, fun x hx => ?_⟩⟩
      obtain ⟨dx, e⟩ := hval x hx
      have n : a2 x ≠ d := fun z => by rw [z, sm _ _ hd1] at e; cases e
      exact ⟨dx, by rw [upd_ne n]; exact e⟩
/-- moves stand in a list -/
def MvL (C : Addr) (H : Hp) (l : Addr) (ms : List (Addr × List Str × (Str → Rat))) : Prop := H l = some (.lst (ms.map fun m => V.ref m.1)) ∧ ∀ m ∈ ms, SDc C H m.1 m.2.1 m.2.2
theorem MvL.same {H H' : Hp} {l : Addr} {ms : List (Addr × List Str × (Str → Rat))} (h : MvL C H l ms) (s : Same H H') : MvL C H' l ms := ⟨s _ _ h.1, fun m hm => (h.2 m hm).same s⟩
theorem puts_app (ms ns : List (Addr × List Str × (Str → Rat))) : puts (ms ++ ns) = puts ms ++ puts ns := by
  unfold puts
  rw [List.flatMap_append]
theorem puts_one (m : Addr × List Str × (Str → Rat)) : puts [m] = m.2.1.map fun x => (x, m.2.2 x) := by
  unfold puts
  simp
def spJo (C : Addr) : Sp := fun vs H Q _ => ∃ (d l : Addr) (L : List Str) (c : Str → Rat) (ms : List (Addr × List Str × (Str → Rat))) (n k : Nat), vs = [.ref d, .ref l] ∧ SDc C H d L c ∧ L.Nodup ∧ MvL C H l ms ∧ (∀ x ∈ L, Sz n (c x)) ∧ 0 < n ∧ (∀ p ∈ puts ms, Sz k p.2) ∧ n + (k + 1) * (puts ms).length ≤ 3900 ∧ k ≤ 3900 ∧ L.length + (puts ms).length ≤ 3000 ∧
  ∀ D H', Same H H' → H D = none → SDc C H' D (mvL (L, c) (puts ms)).1 (mvL (L, c) (puts ms)).2 → Q (.ref D) H'
theorem ok_jo (F : Dn K d_joined f fd) (M1 : MakS1 P w K mg base C) (mP : Met P w K mg base 4 C "plus" (sp2 C (· + ·)) []) (cS : Cal P w K mg base 4 "same_share" (spSS C) []) : FnOk P w K mg base CX0 5 f fd ["standing", "moves"] (spJo C) := by
  refine F.ok sc_joined (fun vs H Q E h => ?_) (fun cdv A outer s H vs Q E hr h => ?_)
  · obtain ⟨d, l, L, c, ms, n, k, rfl, _⟩ := h
    rfl
  · obtain ⟨d, l, L, c, ms, n, k, rfl, ⟨ad, hd, hv⟩, nd, hms, hz, n0, hk, hnk, hk9, hl9, hQ⟩ := h
    have hu := hu_of hr
    have gz : ∀ x, Sz n (get0 L c x) := fun x => by
      unfold get0
      split
      · rename_i hx
        exact hz x hx
      · exact sz0 n0
    refine ⟨_, PSs.nox (pss_cons (ps_lock (SDC.ps_setDc (i := 3) (own := [("name", 2)]) (g := gName 2) (tt := tYes) rfl sc_joined.nd rfl rfl (SDC.sw_true rfl rfl rfl (by decide +kernel)) (pi_keys (pv 0)) (blkOk_by (N := N_joined) (sc := defScope s_joined) (by decide +kernel))
        (fun _ _ _ _ _ => pg_name (i := 2) sc_joined.nd rfl (.inl rfl)) (fun _ _ _ _ _ => pts_nil) (fun _ _ _ _ _ => pv 2)
        (fun _ _ _ _ _ => pe_c cS hr (by decide) rfl (pa_cons (pe_dget hu (pv 0) (pv 2) (fun _ _ => rfl)) pa_nil))))
      (pss_cons (ps_for PassesOwn.never rfl (pi_list (pv 1)) (pg_name (i := 4) sc_joined.nd rfl (.inl rfl))
        (pss_one (ps_lock (ps_for PassesOwn.never rfl (pi_keys (pv 4)) (pg_name (i := 2) sc_joined.nd rfl (.inl rfl))
          (pss_one (ps_dput hu (pv 3) (pv 2) (pe_mt mP hr (by decide) (pe_dget2 hu (pv 3) (pv 2) (pe_mk M1 hr (by decide) rfl (pa_cons pe_int pa_nil)) ⟨rfl, rfl, rfl, rfl⟩) (pa_cons (pe_dget hu (pv 4) (pv 2) (fun _ _ => rfl)) pa_nil)) rfl))))))
      (pss_one (ps_ret (pv 3))))), ?_⟩
    refine ⟨d, _, hd, trivial, fun od => ?_⟩
    obtain ⟨hd1, kp1, new1, back1⟩ := lockf (C := C) hd od
    have hv1 : ∀ x ∈ L, Sh C (upd H d (.frz od (dctO L fun x => .ref (ad x)))) (ad x) (pr (c x)) := fun x hx => (hv x hx).un ((hv x hx).at_ne hd)
    generalize upd H d (.frz od (dctO L fun x => .ref (ad x))) = H1 at hd1 kp1 new1 back1 hv1
    refine ⟨_, rfl, d, od, rfl, .inl ⟨_, hd1, fun D hD => dc_it walk_keys (fun i H2 => SDc C H2 D (L.take i) c ∧ Same H1 H2) ⟨⟨fun _ => 0, upd_same, fun x hx => by simp at hx⟩, same_new hD⟩ (fun i H2 _ z => z.2 _ _ hd1) ?_ ?_⟩⟩
    · rintro i x H2 H3 hi ⟨⟨a2, hdd, hval⟩, sm⟩ ⟨eH, kk, v, hkk, rfl⟩
      have eH := eH.symm
      subst eH
      rw [List.length_map] at hi
      rw [List.getElem?_map] at hkk
      obtain ⟨z, hz0, e0⟩ := Option.map_eq_some_iff.mp hkk
      cases e0
      have hzL := List.mem_of_getElem? hz0
      refine ⟨rfl, ?_⟩
      have dg : DGet H2 d (.str z) (some (.ref (ad z))) := .inl ⟨_, Sum.inr z, .inr ⟨od, sm _ _ hd1⟩, rfl, by rw [val_dct, if_pos hzL]⟩
      refine ⟨_, rfl, _, rfl, _, rfl, d, _, rfl, dg, ad z, _, rfl, (hv1 z hzL).keep sm, fun t H4 s4 ft ht => ?_⟩
      have hD4 := s4 _ _ hdd
      refine ⟨_, Sum.inr z, rfl, hD4, by rw [List.length_map, List.length_take]; exact line_lt (by omega), SDc.more nd hz0 hD4 (fun y hy => (hval y hy).keep s4) ht, fun b o e => ?_⟩
      rw [upd_ne (ne_of_none e hD)]
      exact s4 _ _ (sm _ _ e)
    rintro H2 ⟨⟨a2, hdd, hval⟩, sm⟩
    rw [List.length_map, List.take_length] at hdd hval
    obtain ⟨nD, nDd⟩ := new1 D hD
    have s02 := back1 H2 sm
    have hd2 := sm _ _ hd1
    have S0 : SDc C (upd H2 d (dctO L fun x => .ref (ad x))) D L c := ⟨a2, by rw [upd_ne nDd]; exact hdd, fun x hx => (hval x hx).un ((hval x hx).at_frz hd2)⟩
    refine ⟨hd2, ?_⟩
    generalize upd H2 d (dctO L fun x => .ref (ad x)) = H3 at s02 S0
    clear hv1 hd1 kp1 new1 back1 hval hdd hd2 sm
    -- the moves
    refine ⟨_, rfl, l, rfl, ⟨_, SqL.of (s02 _ _ hms.1)⟩, for_list (K := K) (xs := ms.map fun m => V.ref m.1) (fun i σ H' => ∃ (v2 v4 : Option V), σ = [some (.ref d), some (.ref l), v2, some (.ref D), v4] ∧ Same H H' ∧ SDc C H' D (mvL (L, c) (puts (ms.take i))).1 (mvL (L, c) (puts (ms.take i))).2)
      ⟨_, _, rfl, s02, S0⟩ (fun i σ H' _ z => by obtain ⟨_, _, _, sm, _⟩ := z; exact SqL.of (sm _ _ hms.1)) ?_ ?_⟩
    · rintro i v σ H4 hi ⟨v2, v4, rfl, s4, S4⟩
      rw [List.getElem?_map] at hi
      obtain ⟨m, hm, rfl⟩ := Option.map_eq_some_iff.mp hi
      have hmm := List.mem_of_getElem? hm
      have hil : i < ms.length := (List.getElem?_eq_some_iff.mp hm).1
      obtain ⟨am, hmd0, hmv0⟩ := hms.2 m hmm
      have hmd := s4 _ _ hmd0
      have nDm : D ≠ m.1 := fun z => by rw [← z, nD] at hmd0; cases hmd0
      -- how many puts
      have tot : puts ms = puts (ms.take i) ++ ((m.2.1.map fun x => (x, m.2.2 x)) ++ puts (ms.drop (i + 1))) := by
        have : ms = ms.take i ++ ([m] ++ ms.drop (i + 1)) := by
          have h1 : ms[i] = m := by rw [List.getElem?_eq_getElem hil] at hm; exact Option.some.inj hm
          rw [List.singleton_append, ← h1, ← List.drop_eq_getElem_cons hil, List.take_append_drop]
        conv => lhs; rw [this]
        rw [puts_app, puts_app, puts_one]
      have tl := congrArg List.length tot
      rw [List.length_append, List.length_append, List.length_map] at tl
      refine ⟨m.1, _, hmd, trivial, fun od2 => ?_⟩
      obtain ⟨he1, kp2, new2, back2⟩ := lockf (C := C) hmd od2
      have S5 : SDc C (upd H4 m.1 (.frz od2 (dctO m.2.1 fun x => .ref (am x)))) D (mvL (L, c) (puts (ms.take i))).1 (mvL (L, c) (puts (ms.take i))).2 := by
        obtain ⟨a4, q1, q2⟩ := S4
        exact ⟨a4, kp2 _ _ q1 nDm, fun x hx => (q2 x hx).un ((q2 x hx).at_ne hmd)⟩
      have hmv1 : ∀ x ∈ m.2.1, Sh C (upd H4 m.1 (.frz od2 (dctO m.2.1 fun x => .ref (am x)))) (am x) (pr (m.2.2 x)) := fun x hx => ((hmv0 x hx).keep s4).un (((hmv0 x hx).keep s4).at_ne hmd)
      generalize upd H4 m.1 (.frz od2 (dctO m.2.1 fun x => .ref (am x))) = H5 at he1 kp2 new2 back2 S5 hmv1
      refine ⟨_, rfl, m.1, od2, rfl, .inl ⟨_, he1, for_it walk_keys (fun j σ H' => ∃ (v2 : Option V), σ = [some (.ref d), some (.ref l), v2, some (.ref D), some (.ref m.1)] ∧ (∀ b o, H5 b = some o → b ≠ D → H' b = some o) ∧ SDc C H' D (mvL (L, c) (puts (ms.take i) ++ (m.2.1.take j).map fun x => (x, m.2.2 x))).1 (mvL (L, c) (puts (ms.take i) ++ (m.2.1.take j).map fun x => (x, m.2.2 x))).2)
        ⟨_, rfl, fun b o e _ => e, by rw [List.take_zero, List.map_nil, List.append_nil]; exact S5⟩ (fun j σ H' _ z => by obtain ⟨_, _, k5, _⟩ := z; exact k5 _ _ he1 nDm.symm) ?_ ?_⟩⟩
      · rintro j x σ H6 H7 hj ⟨v2, rfl, k6, a6, hdd6, hval6⟩ ⟨eH, kk, v, hkk, rfl⟩
        have eH := eH.symm
        subst eH
        rw [List.length_map] at hj
        rw [List.getElem?_map] at hkk
        obtain ⟨z, hz0, e0⟩ := Option.map_eq_some_iff.mp hkk
        cases e0
        have hzM := List.mem_of_getElem? hz0
        obtain ⟨u, hu0⟩ : ∃ u, u = mvL (L, c) (puts (ms.take i) ++ (m.2.1.take j).map fun x => (x, m.2.2 x)) := ⟨_, rfl⟩
        have zs := mvL_sz (k := k) (puts (ms.take i) ++ (m.2.1.take j).map fun x => (x, m.2.2 x)) (L, c) n gz (fun p hp => hk p (by
          rw [tot]
          rcases List.mem_append.mp hp with q | q
          · exact List.mem_append_left _ q
          · obtain ⟨y, hy, rfl⟩ := List.mem_map.mp q
            exact List.mem_append_right _ (List.mem_append_left _ (List.mem_map.mpr ⟨y, List.mem_of_mem_take hy, rfl⟩))))
        have ul := mvL_len (puts (ms.take i) ++ (m.2.1.take j).map fun x => (x, m.2.2 x)) (L, c)
        rw [List.length_append, List.length_map, List.length_take] at zs ul
        rw [← hu0] at hdd6 hval6 zs ul
        have ul : u.1.length ≤ L.length + ((puts (ms.take i)).length + min j m.2.1.length) := ul
        have pl : (puts (ms.take i)).length + min j m.2.1.length ≤ (puts ms).length := by omega
        have mul : (k + 1) * ((puts (ms.take i)).length + min j m.2.1.length) ≤ (k + 1) * (puts ms).length := Nat.mul_le_mul_left _ pl
        have kz : Sz k (m.2.2 z) := hk (z, m.2.2 z) (by
          rw [tot]
          exact List.mem_append_right _ (List.mem_append_left _ (List.mem_map.mpr ⟨z, hzM, rfl⟩)))
        have dgm : DGet H6 m.1 (.str z) (some (.ref (am z))) := .inl ⟨_, Sum.inr z, .inr ⟨od2, k6 _ _ he1 nDm.symm⟩, rfl, by rw [val_dct, if_pos hzM]⟩
        have shm : Sh C H6 (am z) (pr (m.2.2 z)) := by
          obtain ⟨dx, e⟩ := hmv0 z hzM
          have nD2 : am z ≠ D := fun q => by rw [q, nD] at e; cases e
          obtain ⟨dx2, e2⟩ := hmv1 z hzM
          exact ⟨dx2, k6 _ _ e2 nD2⟩
        refine ⟨_, rfl, D, rfl, .inl ⟨_, .inl hdd6⟩, _, rfl, ?_⟩
        intro t dt nt ndt ne
        refine mk_in (n := 10) nt ndt (by decide) (by decide) (by decide) (by decide) fun H7 s7 ht => ⟨rfl, ?_⟩
        rw [div01] at ht
        have hD7 := s7 _ _ hdd6
        have dg7 : DGet H7 D (.str z) (valV (u.1.map fun y => ((Sum.inr y : Key), V.ref (a6 y))) (Sum.inr z)) := DGet.k (k := Sum.inr z) hD7
        rw [val_dct] at dg7
        obtain ⟨w0, hw0, sw0⟩ : ∃ w0, ((if z ∈ u.1 then some (V.ref (a6 z)) else none).getD (.ref t)) = .ref w0 ∧ Sh C H7 w0 (pr (get0 u.1 u.2 z)) := by
          unfold get0
          by_cases hzu : z ∈ u.1
          · rw [if_pos hzu, if_pos hzu]
            exact ⟨_, rfl, (hval6 z hzu).keep s7⟩
          · rw [if_neg hzu, if_neg hzu]
            exact ⟨_, rfl, ht⟩
        obtain ⟨dw, hw1⟩ := id sw0
        refine ⟨_, dg7, w0, dw, _, hw0, hw1, shF_no _ (by decide +kernel) (by decide +kernel), _, rfl, _, rfl, m.1, .ref (am z), rfl, ?_, ?_⟩
        · obtain ⟨kvs, kk2, r1, r2, r3⟩ | ⟨_, _, _, _, r2, _⟩ := dgm
          · refine .inl ⟨kvs, kk2, ?_, r2, r3⟩
            rcases r1 with r1 | ⟨o1, r1⟩
            · exact .inl (s7 _ _ r1)
            · exact .inr ⟨o1, s7 _ _ r1⟩
          · cases r2
        refine ⟨w0, am z, _, _, 3900, (by rw [hw0]; rfl), sw0, shm.keep s7, (zs z).mono (by omega), kz.mono hk9, by decide, by decide, fun r H8 s8 fr hr8 => ?_⟩
        have s68 := s7.trans s8
        have hD8 := s68 _ _ hdd6
        have fin := SDc.put (x := z) (v := get0 u.1 u.2 z + m.2.2 z) hD8 (fun y hy => (hval6 y hy).keep s68) hr8
        refine ⟨_, rfl, _, rfl, D, _, rfl, DPut.k (k := Sum.inr z) hD8 (by rw [List.length_map]; exact line_lt (by omega)), _, rfl, fun b o e nb => ?_, ?_⟩
        · rw [upd_ne nb]
          exact s68 _ _ (k6 _ _ e nb)
        · rw [take_one hz0, List.map_append, ← List.append_assoc]
          have e : mvL (L, c) ((puts (ms.take i) ++ (m.2.1.take j).map fun x => (x, m.2.2 x)) ++ [(z, m.2.2 z)]) = mv u (z, m.2.2 z) := by rw [mvL_snoc, ← hu0]
          show SDc C _ D (mvL (L, c) ((puts (ms.take i) ++ (m.2.1.take j).map fun x => (x, m.2.2 x)) ++ [(z, m.2.2 z)])).1 (mvL (L, c) ((puts (ms.take i) ++ (m.2.1.take j).map fun x => (x, m.2.2 x)) ++ [(z, m.2.2 z)])).2
          rw [e]
          exact fin
      · rintro σ H6 ⟨v2, rfl, k6, S6⟩
        rw [List.length_map, List.take_length] at S6
        have he6 := k6 _ _ he1 nDm.symm
        refine ⟨he6, _, _, rfl, fun b o e => ?_, ?_⟩
        · have nb : b ≠ D := ne_of_none e nD
          by_cases z : b = m.1
          · subst z
            rw [upd_same, ← s4 _ _ e, hmd]
          · rw [upd_ne z]
            exact k6 _ _ (kp2 _ _ (s4 _ _ e) z) nb
        · rw [take_one hm, puts_app, puts_one]
          obtain ⟨a6, q1, q2⟩ := S6
          exact ⟨a6, by rw [upd_ne nDm]; exact q1, fun x hx => (q2 x hx).un ((q2 x hx).at_frz he6)⟩
    · rintro σ H4 ⟨v2, v4, rfl, s4, S4⟩
      rw [List.length_map, List.take_length] at S4
      exact ⟨_, rfl, hQ D H4 s4 nD S4⟩
end
end K48
set_option Elab.async false
set_option linter.all false
set_option maxRecDepth 100000
set_option maxHeartbeats 4000000
namespace K48
open PySem PySem.Spec PyProof.Rows L2
open C8 (Cal Mak Met pe_c pe_mk pe_mt pe_mt0)
open KM (pr Sz)
/-- a hand-over: where it stands, who pays, who takes, its share -/
structure Ro where
  a : Addr
  p : Str
  t : Str
  s : Addr
  v : Rat
def mvs (rows : List Ro) : List (Str × Rat) := rows.flatMap fun r => [(r.p, r.v), (r.t, -r.v)]
theorem mvs_snoc (rows : List Ro) (r : Ro) : mvs (rows ++ [r]) = mvs rows ++ [(r.p, r.v), (r.t, -r.v)] := by
  unfold mvs
  rw [List.flatMap_append]
  simp
theorem mvs_len (rows : List Ro) : (mvs rows).length = 2 * rows.length := by
  unfold mvs
  induction rows with
  | nil => rfl
  | cons r rows ih =>
    rw [List.flatMap_cons, List.length_append, ih]
    simp
    omega
theorem sz_neg {n : Nat} {r : Rat} (h : Sz n r) : Sz n (-r) := ⟨by rw [Rat.neg_num, Int.natAbs_neg]; exact h.1, by rw [Rat.neg_den]; exact h.2⟩
theorem mvs_sz {n : Nat} {rows : List Ro} (h : ∀ r ∈ rows, Sz n r.v) : ∀ p ∈ mvs rows, Sz n p.2 := fun p hp => by
  obtain ⟨r, hr, hp⟩ := List.mem_flatMap.mp hp
  simp only [List.mem_cons, List.not_mem_nil, or_false] at hp
  rcases hp with rfl | rfl
  · exact h r hr
  · exact sz_neg (h r hr)
/-- hand-overs of Shares in a list -/
def HL (C : Addr) (H : Hp) (l : Addr) (rows : List Ro) : Prop := H l = some (.lst (rows.map fun r => V.ref r.a)) ∧ ∀ r ∈ rows, H r.a = some (.tup [.str r.p, .str r.t, .ref r.s]) ∧ Sh C H r.s (pr r.v)
theorem HL.same {C : Addr} {H H' : Hp} {l : Addr} {rows : List Ro} (h : HL C H l rows) (s : Same H H') : HL C H' l rows := ⟨s _ _ h.1, fun r hr => ⟨s _ _ (h.2 r hr).1, (h.2 r hr).2.keep s⟩⟩
theorem SDc.un {C : Addr} {H : Hp} {d l : Addr} {L : List Str} {c : Str → Rat} {xs : List V} {o : HO} (h : SDc C H d L c) (hl : H l = some (.lst xs)) : SDc C (upd H l o) d L c := by
  obtain ⟨ad, h1, h2⟩ := h
  refine ⟨ad, by rw [upd_ne fun z => by rw [z, hl] at h1; cases h1]; exact h1, fun x hx => ?_⟩
  obtain ⟨dx, e⟩ := h2 x hx
  exact ⟨dx, by rw [upd_ne fun z => by rw [z, hl] at e; cases e]; exact e⟩
/-- {x: share} -/
theorem one_dict {C : Addr} {H : Hp} {d s : Addr} {x : Str} {v : Rat} (hd : H d = none) (hs : Sh C H s (pr v)) : SDc C (upd H d (.dK (putK [] (Sum.inr x) (.ref s)))) d [x] (fun _ => v) := by
  refine ⟨fun _ => s, upd_same, fun y hy => ?_⟩
  obtain ⟨dx, e⟩ := hs
  exact ⟨dx, by rw [upd_ne (ne_of_none e hd)]; exact e⟩
end K48
set_option Elab.async false
set_option linter.all false
set_option maxRecDepth 100000
set_option maxHeartbeats 4000000
namespace K48
open PySem PySem.Spec PyProof.Rows L2
open C8 (Cal Mak Met pe_c pe_mk pe_mt pe_mt0)
open KM (pr Sz)
section
variable {P : Program} {w : World} {K : PySem.W.Frag} {mg : Str → Option Value} {base : Heap} {f C : Addr} {fd : FuncData}
def sp_below (C : Addr) : Sp := fun vs H Q _ => ∃ (p q : Addr) (a b : Int × Int) (n : Nat), vs = [.ref p, .ref q] ∧ Sh C H p a ∧ Sh C H q b ∧ two n a b ∧ Q (.bl (decide (a.1 * b.2 < b.1 * a.2))) H
theorem ok_below (F : Dn K d_Share_below f fd) (T : Cl K mg C) : FnOk P w K mg base CX0 1 f fd ["self", "other"] (sp_below C) := by
  refine F.ok sc_Share_below (fun vs H Q E h => ?_) (fun cdv A outer s H vs Q E hr h => ?_)
  · obtain ⟨p, q, a, b, n, rfl, _⟩ := h
    rfl
  · obtain ⟨p, q, a, b, n, rfl, ⟨dp, hp⟩, ⟨dq, hq⟩, ⟨ba, bb, hn0, hn9⟩, hQ⟩ := h
    refine ⟨_, PSs.nox (pss_one (ps_ret (pe_cmpR op_lt (pe_op op_mulW (pe_fld (pv 0) rfl) (pe_fld (pv 1) rfl)) (pe_op op_mulW (pe_fld (pv 1) rfl) (pe_fld (pv 0) rfl)) (nomark _)))), ?_⟩
    refine ⟨_, rfl, p, C, dp, _, _, rfl, hp, T.cl, T.nt, shF_top a, _, rfl, q, C, dq, _, _, rfl, hq, T.cl, T.nb, shF_bot b, _, _, rfl, rfl, wide_mul ba.1 bb.2.2 hn0 hn0 (by omega), ?_⟩
    exact ⟨_, rfl, q, C, dq, _, _, rfl, hq, T.cl, T.nt, shF_top b, _, rfl, p, C, dp, _, _, rfl, hp, T.cl, T.nb, shF_bot a, _, _, rfl, rfl, wide_mul bb.1 ba.2.2 hn0 hn0 (by omega), _, _, rfl, rfl, hQ⟩
def spLt (C : Addr) : Sp := fun vs H Q _ => ∃ (p q : Addr) (r s : Rat) (n : Nat), vs = [.ref p, .ref q] ∧ Sh C H p (pr r) ∧ Sh C H q (pr s) ∧ Sz n r ∧ Sz n s ∧ 0 < n ∧ n ≤ 4000 ∧ Q (.bl (decide (r < s))) H
theorem belowR {vs : List V} {H : Hp} {Q : VK} {E : XK} (h : spLt C vs H Q E) : sp_below C vs H Q E := by
  obtain ⟨p, q, r, s, n, e, hp, hq, sr, ss, n0, n9, k⟩ := h
  refine ⟨p, q, _, _, n, e, hp, hq, ⟨bd_of sr, bd_of ss, n0, n9⟩, ?_⟩
  have : decide ((pr r).1 * (pr s).2 < (pr s).1 * (pr r).2) = decide (r < s) := decide_eq_decide.mpr (KM.pr_lt r s)
  rw [this]
  exact k
end
end K48
set_option Elab.async false
set_option linter.all false
set_option maxRecDepth 100000
set_option maxHeartbeats 4000000
namespace K48
open PySem PySem.Spec PyProof.Rows L2
open C8 (Cal Mak Met pe_c pe_mk pe_mt pe_mt0)
open KM (pr Sz)
section
variable {P : Program} {w : World} {K : PySem.W.Frag} {mg : Str → Option Value} {base : Heap} {f C : Addr} {fd : FuncData}
/-! ### total -/
/-- the sum from the left -/
def sumR (rs : List Rat) : Rat := rs.foldl (· + ·) 0
theorem fold_from (a : Rat) : ∀ rs : List Rat, rs.foldl (· + ·) a = a + sumR rs
  | [] => by show a = a + 0; rw [Rat.add_zero]
  | r :: rs => by
    show rs.foldl (· + ·) (a + r) = a + rs.foldl (· + ·) (0 + r)
    rw [fold_from (a + r) rs, fold_from (0 + r) rs, Rat.zero_add, Rat.add_assoc]
theorem sumR_app (xs ys : List Rat) : sumR (xs ++ ys) = sumR xs + sumR ys := by
  unfold sumR
  rw [List.foldl_append]
  exact fold_from _ ys
theorem sumR_cons (r : Rat) (rs : List Rat) : sumR (r :: rs) = r + sumR rs := by
  have := sumR_app [r] rs
  rw [List.singleton_append] at this
  rw [this]
  show (0 + r) + _ = _
  rw [Rat.zero_add]
theorem sumR_rev : ∀ rs : List Rat, sumR rs.reverse = sumR rs
  | [] => rfl
  | r :: rs => by
    rw [List.reverse_cons, sumR_app, sumR_rev rs, sumR_cons r rs, Rat.add_comm]
    show (0 + r) + _ = _
    rw [Rat.zero_add]
theorem sz_sum {k : Nat} : ∀ {rs : List Rat}, (∀ r ∈ rs, Sz k r) → Sz (1 + (k + 1) * rs.length) (sumR rs) := by
  intro rs
  induction rs with
  | nil =>
    intro _
    refine ⟨Nat.two_pow_pos _, ?_⟩
    show 1 < 2 ^ (1 + (k + 1) * 0)
    simp
  | cons r rs ih =>
    intro h
    rw [sumR_cons]
    have h1 := h r (List.mem_cons_self ..)
    have h2 := ih fun x hx => h x (List.mem_cons_of_mem _ hx)
    refine (KM.sz_plus h1 h2).1.mono ?_
    rw [List.length_cons, Nat.mul_add]
    omega
/-- a list of Shares at l -/
def ShL (K : PySem.W.Frag) (C : Addr) (H : Hp) (l : Addr) (L : List (Addr × Rat)) : Prop := SqL K H l (L.map fun x => V.ref x.1) ∧ ∀ x ∈ L, Sh C H x.1 (pr x.2)
theorem ShL.keep {H H' : Hp} {l : Addr} {L : List (Addr × Rat)} (s : Same H H') (h : ShL K C H l L) : ShL K C H' l L := ⟨s.seq h.1, fun x hx => (h.2 x hx).keep s⟩
def ratsOf (L : List (Addr × Rat)) : List Rat := L.map (·.2)
def spTotal (K : PySem.W.Frag) (C : Addr) : Sp := fun vs H Q _ => ∃ (l : Addr) (L : List (Addr × Rat)) (n : Nat), vs = [.ref l, .int 0] ∧ ShL K C H l L ∧ (∀ x ∈ L, Sz n x.2) ∧ (n + 1) * L.length ≤ 3800 ∧ n ≤ 3800 ∧
  ∀ t H', Same H H' → H t = none → Sh C H' t (pr (sumR (ratsOf L))) → Q (.ref t) H'
theorem ok_total (F : Dn K d_total f fd) (M1 : MakS1 P w K mg base C) (mp : Met P w K mg base 4 C "plus" (sp2 C (· + ·)) []) : FnOk P w K mg base CX0 5 f fd ["shares", "start"] (spTotal K C) := by
  refine F.ok sc_total (fun vs H Q E h => ?_) (fun cdv A outer s H vs Q E hr h => ?_)
  · obtain ⟨l, L, n, rfl, _⟩ := h
    rfl
  · obtain ⟨l, L, n, rfl, hL, hS, hlen, hn9, hQ⟩ := h
    refine ⟨_, PSs.nox (pss_cons (ps_set (i := 2) sc_total.nd rfl (.inl rfl) (pe_mk M1 hr (by decide) rfl (pa_cons (pv 1) pa_nil)))
      (pss_cons (ps_for PassesOwn.never rfl (pi_list (pv 0)) (pg_name (i := 3) sc_total.nd rfl (.inl rfl))
        (pss_one (ps_set (i := 2) sc_total.nd rfl (.inl rfl) (pe_mt mp hr (by decide) (pv 2) (pa_cons (pv 3) pa_nil)))))
      (pss_one (ps_ret (pv 2))))), ?_⟩
    refine ⟨_, rfl, ?_⟩
    intro p pd np nd ne
    refine mk_in (n := 1) np nd (by decide) (by decide) (by decide) (by decide) fun H1 s1 hp => ⟨rfl, ?_⟩
    have z0 : Rat.divInt 0 1 = 0 := by rfl
    rw [z0] at hp
    refine ⟨_, rfl, l, rfl, ⟨_, s1.seq hL.1⟩, for_list (K := K) (xs := L.map fun x => V.ref x.1) (fun i σ H2 => ∃ (q : Addr) (v : Option V), σ = [some (.ref l), some (.int 0), some (.ref q), v] ∧ Same H H2 ∧ H q = none ∧ Sh C H2 q (pr (sumR (ratsOf (L.take i)))))
      ⟨p, none, rfl, s1, np, hp⟩ (fun i σ H2 _ z => by obtain ⟨q, v, _, s2, _⟩ := z; exact s2.seq hL.1) ?_ ?_⟩
    · rintro i y σ H2 hi ⟨q, v, rfl, s2, fq, hq⟩
      rw [List.getElem?_map] at hi
      cases hx : L[i]? with
      | none =>
        rw [hx] at hi
        cases hi
      | some x =>
        rw [hx] at hi
        cases (Option.some.inj hi : V.ref x.1 = y)
        have hm : x ∈ L := List.mem_of_getElem? hx
        have hil : i < L.length := (List.getElem?_eq_some_iff.mp hx).1
        have et : L.take (i + 1) = L.take i ++ [x] := by rw [List.take_add_one, hx]; rfl
        have szt : Sz 3900 (sumR (ratsOf (L.take i))) := by
          refine (sz_sum (k := n) fun r hr => ?_).mono ?_
          · obtain ⟨x', hx', rfl⟩ := List.mem_map.mp hr
            exact hS x' (List.mem_of_mem_take hx')
          · unfold ratsOf
            rw [List.length_map, List.length_take]
            have := Nat.mul_le_mul_left (n + 1) (Nat.min_le_right i L.length)
            omega
        obtain ⟨dq, hq1⟩ := id hq
        refine ⟨_, rfl, q, dq, _, rfl, hq1, shF_no _ (by decide +kernel) (by decide +kernel), _, rfl, q, x.1, _, x.2, 3900, rfl, hq, (hL.2 x hm).keep s2, szt, (hS x hm).mono (by omega), by decide, by decide, fun t H3 s3 ft ht => ?_⟩
        refine ⟨t, _, rfl, s2.trans s3, s2.free ft, ?_⟩
        have er : sumR (ratsOf (L.take i)) + x.2 = sumR (ratsOf (L.take (i + 1))) := by
          rw [et]
          unfold ratsOf
          rw [List.map_append, sumR_app]
          show _ = _ + (0 + x.2)
          rw [Rat.zero_add]
        rw [← er]
        exact ht
    · rintro σ H2 ⟨q, v, rfl, s2, fq, hq⟩
      rw [List.length_map, List.take_length] at hq
      exact ⟨_, rfl, hQ q H2 s2 fq hq⟩
end
end K48
set_option Elab.async false
set_option linter.all false
set_option maxRecDepth 100000
set_option maxHeartbeats 4000000
namespace K48
open PySem PySem.Spec PyProof.Rows L2
open KM (pr Sz)
/-! ### what is put, at one name -/
def at_ (x : Str) : List (Str × Rat) → Rat
  | [] => 0
  | m :: ms => (if m.1 = x then m.2 else 0) + at_ x ms
theorem mvL_val (x : Str) : ∀ (ms : List (Str × Rat)) (u : List Str × (Str → Rat)), get0 (mvL u ms).1 (mvL u ms).2 x = get0 u.1 u.2 x + at_ x ms
  | [], u => by show get0 u.1 u.2 x = get0 u.1 u.2 x + 0; rw [Rat.add_zero]
  | m :: ms, u => by
    have h := mvL_val x ms (mv u m)
    have e : get0 (mv u m).1 (mv u m).2 x = get0 u.1 u.2 x + (if m.1 = x then m.2 else 0) := by
      unfold mv
      dsimp only
      by_cases c : m.1 = x
      · rw [if_pos c, ← c]
        unfold setc
        conv => lhs; unfold get0
        rw [if_pos mem_addK]
        dsimp only
        rw [if_pos rfl]
        rfl
      · rw [if_neg c, Rat.add_zero]
        unfold get0 setc
        have ne : ¬ x = m.1 := fun z => c z.symm
        rw [if_neg ne]
        have : (x ∈ addK u.1 m.1) ↔ x ∈ u.1 := ⟨fun z => (addK_sub z).elim id fun z => absurd z ne, fun z => by
          unfold addK
          split
          · exact z
          · exact List.mem_append_left _ z⟩
        simp only [this]
    show get0 (mvL (mv u m) ms).1 (mvL (mv u m) ms).2 x = _ + ((if m.1 = x then m.2 else 0) + at_ x ms)
    rw [h, e, Rat.add_assoc]
theorem at_app (x : Str) : ∀ (xs ys : List (Str × Rat)), at_ x (xs ++ ys) = at_ x xs + at_ x ys
  | [], ys => by show at_ x ys = 0 + at_ x ys; rw [Rat.zero_add]
  | m :: xs, ys => by
    show (if m.1 = x then m.2 else 0) + at_ x (xs ++ ys) = ((if m.1 = x then m.2 else 0) + at_ x xs) + at_ x ys
    rw [at_app x xs ys, Rat.add_assoc]
theorem mem_mvL (x : Str) : ∀ (ms : List (Str × Rat)) (u : List Str × (Str → Rat)), x ∈ (mvL u ms).1 ↔ x ∈ u.1 ∨ x ∈ ms.map (·.1)
  | [], u => by show x ∈ u.1 ↔ x ∈ u.1 ∨ x ∈ []; simp
  | m :: ms, u => by
    have h := mem_mvL x ms (mv u m)
    have e : x ∈ (mv u m).1 ↔ x ∈ u.1 ∨ x = m.1 := ⟨addK_sub, fun z => by
      rcases z with z | z
      · show x ∈ addK u.1 m.1
        unfold addK
        split
        · exact z
        · exact List.mem_append_left _ z
      · rw [z]; exact mem_addK⟩
    show x ∈ (mvL (mv u m) ms).1 ↔ _
    rw [h, e, List.map_cons, List.mem_cons, or_assoc]
theorem get0_in {L : List Str} {c : Str → Rat} {x : Str} (h : x ∈ L) : get0 L c x = c x := if_pos h
theorem get0_out {L : List Str} {c : Str → Rat} {x : Str} (h : x ∉ L) : get0 L c x = 0 := if_neg h
theorem at_map {L : List Str} {c : Str → Rat} {x : Str} (nd : L.Nodup) : at_ x (L.map fun y => (y, c y)) = get0 L c x := by
  induction L with
  | nil => exact (get0_out (by simp)).symm
  | cons y L ih =>
    obtain ⟨h1, h2⟩ := List.nodup_cons.mp nd
    show (if y = x then c y else 0) + at_ x (L.map fun y => (y, c y)) = _
    rw [ih h2]
    by_cases e : y = x
    · subst e
      rw [if_pos rfl, get0_out h1, Rat.add_zero, get0_in List.mem_cons_self]
    · rw [if_neg e, Rat.zero_add]
      unfold get0
      have : (x ∈ y :: L) ↔ x ∈ L := ⟨fun z => (List.mem_cons.mp z).elim (fun q => absurd q.symm e) id, List.mem_cons_of_mem _⟩
      simp only [this]
end K48
set_option Elab.async false
set_option linter.all false
set_option maxRecDepth 100000
set_option maxHeartbeats 4000000
/-! VL: list(d.values()), whatever the values. -/
namespace VL
open PySem PySem.Spec PyProof.Rows L2
theorem vals_get : ∀ {xs : List V} {us : List Value}, xs.length = us.length → (∀ (j : Nat) (x : V) (u : Value), xs[j]? = some x → us[j]? = some u → RelV x u) → Vals xs us
  | [], [], _, _ => .nil
  | x :: xs, u :: us, l, h => .cons (h 0 x u rfl rfl) (vals_get (by simpa using l) fun j x' u' e1 e2 => h (j + 1) x' u' (by simpa using e1) (by simpa using e2))
def tListVals (td : TE) : TE := fun σ H Q => td σ H fun x H1 => ∃ a kvs, x = V.ref a ∧ H1 a = some (.dK kvs) ∧ ∀ p, H1 p = none → Q (.ref p) (upd H1 p (.lst (kvs.map (·.2))))
theorem pe_listVals {X : Cx} {o : Expr} {p pos apos mpos : Pos} {td : TE} (hc : X.calm = true) (hg : Gl X "list") (hm : X.mg "list" = none) (hd : PE X o td) (hbase : attributeBase o "values" X.env (eval o X.env) = eval o X.env := by rfl) (hline : (apos.endLine == mpos.line) = true := by rfl)
    (na : starEach [Expr.Call (.Attribute o "values" apos) [] [] mpos] X.env = (false, eval (Expr.Call (.Attribute o "values" apos) [] [] mpos) X.env) :: starEach [] X.env := by rfl) :
    PE X (.Call (.Name "list" p) [.Call (.Attribute o "values" apos) [] [] mpos] [] pos) (tListVals td) := by
  refine ⟨fun pins s σ H Q I h => ?_⟩
  refine Call_ (ld_blt I hg hm boot_list (PyProof.Rows.callWith_type1 (args_cons (wpAny_Call_method0_late hbase hline (thn (hd.run pins s σ H _ I h) fun v s1 ⟨x, H1, I1, r1, a, kvs, ex, ha, q⟩ => ?_)) na) na))
  subst ex
  obtain rfl : v = Value.ref a := r1
  obtain ⟨hlen, hsys, vs, rel, dof⟩ := dk_of I1.hok ha
  obtain ⟨ep, dat⟩ := dof.dictAt
  have dat' := dat
  obtain ⟨ob, es, ho, ex, hdat, hko, hpr, hnd⟩ := dat'
  refine ⟨"dict", "dict.values", F.plainAttrs_dict, F.slot_dict_values, F.type_dict_values, ⟨ob, ho, ex.1⟩, fun b e => ?_, Calls.callWith_builtin rfl (PySem.evalArgs_none ?_)⟩
  · cases e
    exact ⟨ob, ho, ex.2.1⟩
  refine call_meetsIn F.slot_dict_values ⟨ob, ho, ex.1⟩ F.entry_dict_values (F.args_dict_values_1 _) (meets_dict_values (mixKind X.prog X.w) a hsys) ⟨⟨vs, dof⟩, args_nil ?_⟩
  have k1 : ∀ b u, s1.heap.get? b = some u → (s1.heap.push { cls := .type "dict_values", data := .fields #[.ref a] }).get? b = some u := fun b u e => Heap.get?_push_of_some _ e
  have dat1 : (s1.heap.push { cls := .type "dict_values", data := .fields #[.ref a] }).DictAt (mixKind X.prog X.w) a vs ep := dat.keep k1
  have hl : kvs.length = vs.length := KV.length rel
  have I2 : Inv X pins σ H1 { s1 with heap := s1.heap.push { cls := .type "dict_values", data := .fields #[.ref a] } } := I1.kept (t' := s1.toks) k1
  refine PySem.W.kdl_call (s := { s1 with heap := s1.heap.push { cls := .type "dict_values", data := .fields #[.ref a] } }) (PySem.W.kdl_values (knd := mixKind X.prog X.w) (d := a) (r := s1.heap.objs.size) (kvs := vs) (ep := ep)) (I1.ok.hd hc) ⟨⟨_, Heap.get?_push_size _ rfl, rfl, rfl⟩, dat1⟩ (by rw [← hl]; exact hlen) fun h' tk acc c' hk hD hacc => ?_
  refine ⟨.ref _, upd H1 (s1.heap.push { cls := .type "dict_values", data := .fields #[.ref a] }).objs.size (.lst (kvs.map (·.2))), I2.laid (t' := tk) hk (Nat.le_refl _) (show ObjOk X.prog X.w _ _ _ (.lst (kvs.map (·.2))) from ⟨by rw [List.length_map]; exact hlen, acc.toList, c', vals_get ?_ fun j x u e1 e2 => ?_, ?_⟩), rfl, q _ (I2.hok.fresh (Nat.le_refl _))⟩
  · exact (List.length_map ..).trans (hl.trans (hacc.1.symm.trans (Array.length_toList (xs := acc)).symm))
  · obtain ⟨k, hk2⟩ := hacc.2 j u (by rw [← Array.getElem?_toList]; exact e2)
    obtain ⟨y, h1, h2⟩ := KV.at' rel hk2
    rw [List.getElem?_map, h1] at e1
    cases e1
    exact h2
  · rw [Array.toArray_toList]
    exact hD
end VL
set_option Elab.async false
set_option linter.all false
set_option maxRecDepth 100000
set_option maxHeartbeats 4000000
namespace K48
open PySem PySem.Spec PyProof.Rows L2
open C8 (Cal Mak Met pe_c pe_mk pe_mt pe_mt0)
open KM (pr Sz)
open SX (S)
theorem ne_same (v : V) : (!decide (v = v)) = false := by simp
theorem num0 {r : Rat} : (pr r).1 = 0 ↔ r = 0 := Rat.num_eq_zero
section
variable {P : Program} {w : World} {K : PySem.W.Frag} {mg : Str → Option Value} {base : Heap} {f C : Addr} {fd : FuncData}
def spCE (C : Addr) : Sp := fun vs H Q _ => ∃ (d : Addr) (L : List Str) (c : Str → Rat), vs = [.ref d] ∧ SDc C H d L c ∧ L.length ≤ 20 ∧ (∀ x ∈ L, Sz 150 (c x)) ∧ sumR (L.map c) = 0 ∧ ∀ H', Same H H' → Q .non H'
theorem ok_ce (F : Dn K d_check_even f fd) (bl : Bl mg) (T : Cl K mg C) (cT : Cal P w K mg base 5 "total" (spTotal K C) [.int 0]) : FnOk P w K mg base CX0 6 f fd ["standing"] (spCE C) := by
  refine F.ok sc_check_even (fun vs H Q E h => ?_) (fun cdv A outer s H vs Q E hr h => ?_)
  · obtain ⟨d, L, c, rfl, _⟩ := h
    rfl
  · obtain ⟨d, L, c, rfl, ⟨ad, hd, hv⟩, ll, hz, h0, hQ⟩ := h
    refine ⟨_, PSs.nox (pss_cons (ps_set (i := 1) sc_check_even.nd rfl (.inl rfl) (pe_c cT hr (by decide) rfl (pa_cons (VL.pe_listVals rfl rfl bl.list (pv 0)) pa_nil)))
      (pss_one (ps_if (pt_cmpR op_ne (pe_fld (pv 1) rfl) pe_int (nomark _)) pss_never pss_nil))), ?_⟩
    refine ⟨_, rfl, d, _, rfl, hd, fun l fl => ?_⟩
    have sl := same_new (o := .lst ((L.map fun x => ((Sum.inr x : Key), V.ref (ad x))).map (·.2))) fl
    have el : ((L.map fun x => ((Sum.inr x : Key), V.ref (ad x))).map (·.2)) = (L.map fun x => (ad x, c x)).map fun y => V.ref y.1 := by rw [List.map_map, List.map_map]; rfl
    refine ⟨l, L.map fun x => (ad x, c x), 150, rfl, ⟨by rw [← el]; exact SqL.of upd_same, fun y hy => ?_⟩, fun y hy => ?_, by rw [List.length_map]; omega, by decide, fun t H2 s2 ft ht => ?_⟩
    · obtain ⟨x, hx, rfl⟩ := List.mem_map.mp hy
      exact (hv x hx).keep sl
    · obtain ⟨x, hx, rfl⟩ := List.mem_map.mp hy
      exact hz x hx
    · have e : ratsOf (L.map fun x => (ad x, c x)) = L.map c := by unfold ratsOf; rw [List.map_map]; rfl
      rw [e, h0] at ht
      obtain ⟨dt, ht⟩ := ht
      refine ⟨_, rfl, t, C, dt, _, _, rfl, ht, T.cl, T.nt, shF_top _, rfl, _, rfl, ?_⟩
      have e0 : (!decide (V.int (pr 0).1 = V.int 0)) = false := ne_same (V.int 0)
      rw [e0]
      refine iteF ?_
      exact hQ H2 (sl.trans s2)
end
end K48
set_option Elab.async false
set_option linter.all false
set_option maxRecDepth 100000
set_option maxHeartbeats 4000000
/-! EXV: a caught exception that is kept behind its except clause: isinstance of it, its fields. -/
namespace EXV
open PySem PySem.Spec PyProof.Rows L2
/-- an exception object at a, of the class cls, with the dict d -/
def XcP (cls : Value) (d : Option Addr) (a : Addr) (h : Heap) : Prop := ∃ (oe : Obj) (vs : Array Value), h.get? a = some oe ∧ Zc cls d oe ∧ oe.data = .fields vs
def Xc (cls : Value) (d : Option Addr) (a : Addr) : HO := .ext (XcP cls d a)
theorem xc_ok {P : Program} {w : World} {H : Hp} {h : Heap} {a : Addr} {cls : Value} {d : Option Addr} {oe : Obj} {vs : Array Value} (g : h.get? a = some oe) (z : Zc cls d oe) (f : oe.data = .fields vs) : ObjOk P w H h a (Xc cls d a) :=
  ⟨⟨oe, vs, g, z, f⟩, ⟨oe, g⟩, fun h1 h2 ⟨u, v, g1, z1, f1⟩ k => ⟨u, v, k u g1, z1, f1⟩⟩
theorem xc_at {P : Program} {w : World} {H : Hp} {h : Heap} {a : Addr} {cls : Value} {d : Option Addr} (ok : HOk P w H h) (e : H a = some (Xc cls d a)) : XcP cls d a h := by
  have x : ObjOk P w H h a (.ext (XcP cls d a)) := ok a _ e
  exact x.1
theorem xc_lst {a b : Addr} {cls : Value} {d : Option Addr} {xs : List V} {H : Hp} (e : H a = some (Xc cls d a)) (e2 : H b = some (.lst xs)) : a ≠ b := fun z => by
  rw [z, e2] at e
  have e' : HO.lst xs = HO.ext (XcP cls d b) := Option.some.inj (z ▸ e)
  cases e'
section
variable {X : Cx} {pins : List (Addr × Obj)} {σ : L2.St} {H : Hp} {s : Shared}
theorem into_suite (I : Inv X pins σ H s) (a : Addr) : Inv (X.suite a (X.pn ++ pins)) [] σ H s where
  ok := I.ok.suite a (X.pn ++ pins)
  os := I.os
  bare := I.bare
  base := I.base
  loc := I.loc
  cell := I.cell
  free := I.free
  freeC := I.freeC
  pin := fun p hp => I.pin p (by simpa using hp)
  hok := I.hok
  len := I.len
theorem out_suite {a : Addr} {ps : List (Addr × Obj)} (I : Inv (X.suite a (X.pn ++ pins)) ps σ H s) (good : X.Ok) : Inv X pins σ H s where
  ok := good
  os := I.os
  bare := I.bare
  base := I.base
  loc := I.loc
  cell := I.cell
  free := I.free
  freeC := I.freeC
  pin := fun p hp => I.pin p (List.mem_append_left ps hp)
  hok := I.hok
  len := I.len
end
/-- what an except clause that keeps the exception wishes of the body: slot i is the clause's name -/
def wKeep (K : PySem.W.Frag) (c : Value) (i : Nat) (ts : Addr → Value → Option Addr → TS) (Wout : WX) (D : Ends) : WX := fun cls d σ H => ∃ b, PySem.W.exmOne K cls c = some b ∧
  (b = true → ∀ a, H a = none → ts a cls d { nx := fun σ' H' => D.nx (σ'.set i none) H', rt := D.rt, bk := fun σ' H' => D.bk (σ'.set i none) H', ct := fun σ' H' => D.ct (σ'.set i none) H' } (σ.set i (some (.ref a))) (upd H a (Xc cls d a))) ∧ (b = false → Wout cls d σ H)
section
variable {X : Cx} {x n : Str} {c : Value} {i : Nat} {body suite : List Stmt} {b₀ : Stmt} {np pos pos' : Pos} {tb : WX → TS} {ts : Addr → Value → Option Addr → TS} {Wout : WX}
theorem ps_try_keep (stk : X.stack = X.env :: X.outer) (frm : X.env.frame = some X.env.locals) (nod : X.N.Nodup) (at_ : X.N[i]? = some n) (kln : X.env.kindOf n = some .local) (nm : Names X x c) (out : Takes X Wout)
    (bdy : ∀ (W : WX) (pn : List (Addr × Obj)) (xe : Value → Shared → Prop), Takes (X.tr pn xe) W → PassesOwn (model X.prog X.w) X.A X.env xe → PSs (X.tr pn xe) body (tb W))
    (sui : ∀ (a : Addr) (cls : Value) (d : Option Addr) (pn : List (Addr × Obj)), PSs (X.suite a pn) (b₀ :: suite) (ts a cls d)) :
    PS X (.Try body [.ExceptHandler (some (.Name x np)) (some n) (b₀ :: suite) pos'] [] [] pos) (fun D σ H => tb (wKeep X.K c i ts Wout D) D σ H) := by
  refine ⟨fun pins s σ H D I h => ?_⟩
  have good := I.ok
  have frs2 : X.A.frames = some (X.env :: X.outer) := by rw [good.frames, stk]
  have isLoc : Loc X.env.scope n := .inl kln
  have start := (bdy (wKeep X.K c i ts Wout D) (X.pn ++ pins) (fun e s₁ => wpAny (model X.prog X.w) X.A (noteFrame e X.env) (fun _ s₂ => wpAny (model X.prog X.w) X.A (setFlight e none)
      (fun _ s₃ => wpAny (model X.prog X.w) X.A (handleBy e X.env [.ExceptHandler (some (.Name x np)) (some n) (b₀ :: suite) pos']) (SP X pins D) X.xe s₃) X.xe s₂) X.xe s₁) (fun u s' xx => ?_) PassesOwn.looking).run [] s σ H D (I.toTry _) h
  · refine wpAny_Try_except (wpAny_mono start (fun f s1 fin => ?_) fun _ _ he => he)
    cases f with
    | next =>
      obtain ⟨σ1, H1, J1, q1⟩ := fin
      exact wpAny_execs_nil ⟨σ1, H1, J1.ofTry good, q1⟩
    | brk =>
      obtain ⟨σ1, H1, J1, q1⟩ := fin
      exact ⟨σ1, H1, J1.ofTry good, q1⟩
    | cont =>
      obtain ⟨σ1, H1, J1, q1⟩ := fin
      exact ⟨σ1, H1, J1.ofTry good, q1⟩
    | ret u =>
      obtain ⟨v1, σ1, H1, J1, r1, q1⟩ := fin
      exact ⟨v1, σ1, H1, J1.ofTry good, r1, q1⟩
  -- what the body lets out
  obtain ⟨a, B, sI, pins', σ', H', cls, d, rfl, J0, nb, up, sky0, na, os, ag, b, tst, yes, no⟩ := xx
  have J : Inv X pins σ' H' sI := J0.ofTry good
  have sky : Sky B (X.env :: X.outer) a (Zc cls d) X.env.locals s'.heap := by rw [← stk]; exact sky0
  show wpAny (model X.prog X.w) X.A (noteFrame (.ref a) X.env) _ _ _
  refine Sky.land Zc.steady frs2 frm sky fun h3 fl3 up3 => ?_
  have J3 : Inv X pins σ' H' { s' with heap := h3 } := J.landed nb fl3.1 (up.trans up3) os ag
  obtain ⟨oe3, vs3, he3, hz3, hd3⟩ := fl3.there
  have notFr : a ∉ frs (X.env :: X.outer) := fun hm => by
    obtain ⟨_, o', e', hnf⟩ := fl3.2.2.1.mem hm
    rw [he3] at e'
    cases e'
    exact hnf _ hd3
  have Ba : B.get? a = none := fl3.2.1
  -- the heap without it
  have cut : ∀ {h4 : Heap}, B.StaysIn h4 → s'.heap.UpToSlots h4 → ∃ G : Heap, (∀ b o, G.get? b = some o → h4.get? b = some o) ∧ G.get? a = none ∧ Inv X pins σ' H' { s' with heap := G } := fun {h4} st4 up4 => by
    obtain ⟨G, g1, g2⟩ := restrict h4 fun b => decide (b ≠ a)
    have ga : G.get? a = none := g2 a (decide_eq_false fun z => z rfl)
    have ge : ∀ b, b ≠ a → G.get? b = h4.get? b := fun b hb => g1 b (decide_eq_true hb)
    have keepB : B.StaysIn G := fun b o e => by
      rw [ge b fun z => by rw [z, Ba] at e; cases e]
      exact st4 b o e
    have upG : sI.heap.UpToSlots G := fun b o e nf => by
      have hb : b ≠ a := fun z => by
        have := nb a o (z ▸ e) (by rw [stk]; exact notFr)
        rw [Ba] at this
        cases this
      rw [ge b hb]
      exact (up.trans up4) b o e nf
    refine ⟨G, fun b o e => ?_, ga, J.landed (s' := { s' with heap := G }) nb keepB upG os ag⟩
    by_cases hb : b = a
    · rw [hb, ga] at e
      cases e
    · rw [← ge b hb]
      exact e
  have S3 := into_suite J3 a
  refine wpAny_handleBy_cons (codeAny_handlers_test ?_) (by intro q; cases q)
  have typed : PySem.W.Looks (model X.prog X.w) h3 (typeOf (.ref a)) cls := fun A Q E s k q => wpAny_typeOf_ref (k _ _ he3) (by rw [hz3.1]; exact q)
  have matched := PySem.W.exm_one (M := model X.prog X.w) (J3.kIn) typed tst
  have named : ∀ {Q : Value → Shared → Prop} {E : Value → Shared → Prop}, Q c { s' with heap := h3 } → wpAny (model X.prog X.w) (X.A.mark (some (.ref a))) (eval (.Name x np) X.env) Q E { s' with heap := h3 } := fun {Q E} q => by
    obtain ⟨hg, hdbg, hm | ⟨hm, hv, hnn⟩⟩ := nm
    · exact ld_glob (X := X.suite a (X.pn ++ pins)) S3 hg hm q hdbg
    · exact ld_blt (X := X.suite a (X.pn ++ pins)) S3 hg hm hv q hnn hdbg
  refine named (matched.here ?_)
  cases b with
  | true =>
    refine codeAny_handlers_suite_as ?_
    refine HandSPX.lands_againZ fl3 fun h4 fl4 up4 => ?_
    obtain ⟨oe4, vs4, he4, hz4, hd4⟩ := fl4.there
    obtain ⟨G, gk, ga, JG⟩ := cut fl4.1 (up3.trans up4)
    have JK : Inv X pins σ' (upd H' a (Xc cls d a)) { s' with heap := h4 } := JG.laidN (t' := s'.toks) (h' := h4) gk ga na (xc_ok he4 hz4 hd4)
    refine store_ok (X := X.suite a (X.pn ++ pins)) (v := .ref a) (into_suite JK a) nod at_ isLoc rfl (fun s5 S5 => ?_) (.inr kln)
    refine wpAny_mono ((sui a cls d (X.pn ++ pins)).run [] s5 _ _ _ S5 (yes rfl a na)) (fun f s6 fin => ?_) (fun _ _ z => False.elim z)
    have ends : ∀ {σ6 : L2.St} {H6 : Hp} {Q : Shared → Prop}, Inv (X.suite a (X.pn ++ pins)) [] σ6 H6 s6 → (∀ s7, Inv X pins (σ6.set i none) H6 s7 → Q s7) →
        wpAny (model X.prog X.w) X.A (do bindName X.env n .none; unbindBehindTheSuite X.env n pos') (fun _ s7 => Q s7) X.xe s6 := fun {σ6 H6 Q} S6 hq => gone_ok (out_suite S6 good) nod at_ kln hq
    cases f with
    | next =>
      obtain ⟨σ6, H6, S6, q6⟩ := fin
      exact ends S6 fun s7 J7 => ⟨_, _, J7, q6⟩
    | brk =>
      obtain ⟨σ6, H6, S6, q6⟩ := fin
      exact ends S6 fun s7 J7 => ⟨_, _, J7, q6⟩
    | cont =>
      obtain ⟨σ6, H6, S6, q6⟩ := fin
      exact ends S6 fun s7 J7 => ⟨_, _, J7, q6⟩
    | ret u =>
      obtain ⟨v6, σ6, H6, S6, r6, q6⟩ := fin
      exact ends S6 fun s7 J7 => ⟨_, _, _, J7, r6, q6⟩
  | false =>
    show wpAny _ X.A (handleBy (.ref a) X.env []) _ _ _
    refine wpAny_handleBy_nil ?_
    obtain ⟨k1, k2, k3, oe, vs, T, oT, ts', he, hz, hd, h1, hr⟩ := id fl3
    unfold PySem.passOn
    refine wpAny_bind (wpAny_field he hd h1 ?_)
    rw [if_neg (show ¬ ((Value.ref T == Value.none) = true) from by simp)]
    have fin : wpAny (model X.prog X.w) X.A (setFlight (.ref a) X.env.frame) (fun _ s4 => wpAny (model X.prog X.w) X.A (throw (.ref a) : Sem Flow) (SP X pins D) X.xe s4) X.xe { s' with heap := h3 } := by
      rw [frm]
      refine HandSPX.setFlight_upZ fl3 fun h4 hh4 up4 => wpAny_throw (out _ _ ?_)
      exact ⟨a, B, sI, pins, σ', H', cls, d, rfl, J, nb, (up.trans up3).trans up4, .inr (.inr (by rw [stk]; exact hh4)), na, os, ag, no rfl⟩
    first
      | exact wpAny_bind (wpAny_pure (wpAny_bind fin))
      | exact wpAny_bind fin
end
end EXV
set_option Elab.async false
set_option linter.all false
set_option maxRecDepth 100000
set_option maxHeartbeats 4000000
/-! EXW: isinstance of a kept exception, and its fields -/
namespace EXW
open PySem PySem.Spec PySem.Calls PyProof.Rows
section
open PySem.W
variable {prog : Program} {w : World} {A : Around} {E : Value → Shared → Prop} {s : Shared} {K : Frag} {x D : Addr} {ox : Obj} {od : Option Obj}
theorem bound {C : Addr} {m : Str} {a g : Value} (hc : (clsIn K C).isSome = true) (ha : findIn K (.ref C) m = some (some a)) (hg : specialIn K a "__get__" = some (some g)) (ht : takesIn K a = some true) : findObj K C od m = some (.bind g a) := by
  obtain ⟨cd, hc⟩ := Option.isSome_iff_exists.mp hc
  simp only [findObj, hc, ha, hg, ht, Option.bind_some]
theorem cls_of {Q : Option Value → Shared → Prop} (X : L2.ExcC K D) (kin : K.In s.heap) (I : InstAt s.heap x ox D od) (post : Q (some (.ref D)) { s with toks := s.toks + 1 }) : wpAny (model prog w) A (getAttr? (.ref x) "__class__") Q E s := by
  have hf : findObj K D od "__class__" = some (.bind (.builtin "getset_descriptor.__get__") (.builtin "object.__class__")) := bound (by obtain ⟨cd, hc, _⟩ := any_some X.hd; rw [hc]; rfl) X.ha X.hn X.ht
  obtain ⟨hp, g, d, t, os⟩ := s
  have t0 := I.type (M := model prog w)
  have g1 := looks_findIn (M := model prog w) kin X.hg
  have g2 := looks_findIn (M := model prog w) kin X.hk
  have g3 := looks_find (M := model prog w) kin I hf
  have exc : Looks (model prog w) hp (isInstance (.ref x) (.type "BaseException")) true := t0.andThen (looks_subIn kin X.hs)
  have no1 : (Value.builtin "BaseException.__getattribute__" == Value.builtin "object.__getattribute__") = false := by decide +kernel
  have no2 : (onTheHeap (Value.ref D) && Value.builtin "BaseException.__getattribute__" == Value.builtin "object.__getattribute__") = false := by rw [no1]; rfl
  have no3 : (false && onTheHeap (Value.builtin "BaseException.__getattribute__")) = false := rfl
  unfold getAttr? getAttrBy? getAttrBy
  refine wpAny_bind (wpAny_mkText (wpAny_bind (wpAny_attempt (wpAny_holding (wpAny_bind (t0.at (wpAny_bind (g1.at ?_))))))))
  show wpAny _ _ (if (onTheHeap (Value.ref D) && Value.builtin "BaseException.__getattribute__" == Value.builtin "object.__getattribute__") = true then _ else _) _ _ _; rw [no2, if_neg Bool.false_ne_true]
  unfold getAttrByItsOwn hookBefore; refine wpAny_bind ?_
  rw [if_pos (show onTheHeap (Value.ref D) = true from rfl)]; refine g2.at ?_
  refine wpAny_bind (wpAny_attempt (wpAny_holding ?_)); unfold callGetattribute
  rw [no3, if_neg Bool.false_ne_true]; unfold boundAndCalled
  rw [PySem.F.excAttr_ValueError.ga.bind (.ref x)]; refine wpAny_bind (wpAny_pure ?_)
  show wpAny _ _ (call (.builtin "BaseException.__getattribute__") [.ref x, .str "__class__" t]) _ _ _; refine wpAny_call (codeAny_call_builtin PySem.F.excAttr_ValueError.ga.plain PySem.F.entry_bexc_ga ?_)
  refine @check_slot (model prog w) _ _ ⟨hp, g, d, t + 1, os⟩ "BaseException.__getattribute__" "BaseException" "__getattribute__" (.ref x) [.str "__class__" t] [] _ (by decide +kernel) (by decide +kernel) exc (PySem.F.args_bexc_ga (.ref x) (.str "__class__" t)) ?_
  unfold Builtin.«object.__getattribute__»; refine wpAny_bind (wpAny_of_eq (a := ((Value.ref x : Value), [Value.str "__class__" t])) (by first | rfl | (simp only [slotArgs]; rfl)) ?_)
  refine wpAny_bind (wpAny_pure (wpAny_bind (t0.at (wpAny_bind (g3.at ?_)))))
  show wpAny _ _ (holding [Value.builtin "object.__class__"] (call (.builtin "getset_descriptor.__get__") [.builtin "object.__class__", .ref x, .ref D]) >>= ret) _ _ _; refine wpAny_bind (wpAny_holding (wpAny_call (class_get (s := ⟨hp, g, d, t + 1, os⟩) (ox := ox) (od := od) kin I X.hm ?_)))
  refine wpAny_pure ?_; show wpAny _ _ (handedOut (.ref D)) _ _ _
  rw [handedOut_of (v := .ref D) rfl]
  first | exact wpAny_pure (wpAny_pure post) | exact wpAny_pure post | exact wpAny_pure (wpAny_bind (wpAny_pure (wpAny_pure post)))
theorem kit_of (X : L2.ExcC K D) : KitX K (.ref x) (.ref D) (fun h => ∃ ox od, InstAt h x ox D od) where
  ty := fun _ _ _ ⟨_, _, I⟩ => I.type
  it := fun _ _ kin _ => by
    obtain ⟨cdD, hcD, _⟩ := any_some X.hd
    unfold clsIn at hcD
    split at hcD
    · rename_i c' d' cd' sl' ho
      intro A' Q' E' s' k q; unfold isType loadHead
      exact wpAny_bind (wpAny_loadPart (k _ _ (kin _ _ ho)) (wpAny_pure q))
    · cases hcD
  ne := fun h tp dd its n sl kin htp => by
    obtain ⟨cdD, hcD, _⟩ := any_some X.hd
    refine Bool.eq_false_iff.mpr fun q => ?_
    obtain rfl : D = tp := Value.ref.inj (beq_iff_eq.mp q)
    unfold clsIn at hcD
    split at hcD
    · rename_i c' d' cd' sl' ho
      cases (kin _ _ ho).symm.trans htp
    · cases hcD
  ca := fun kin ⟨_, _, I⟩ k => cls_of X kin I k
end
open L2 EXV
/-- the dict of a kept exception, if it has one, is ours too -/
def Dct (H : Hp) (d : Option Addr) : Prop := d = none ∨ ∃ (dd : Addr) (fs : List (Str × V)), d = some dd ∧ H dd = some (.xd fs)
section
variable {X : Cx} {pins : List (Addr × Obj)} {σ : L2.St} {H : Hp} {s : Shared} {a D : Addr} {d : Option Addr}
theorem inst (I : Inv X pins σ H s) (e : H a = some (Xc (.ref D) d a)) (hd : Dct H d) : ∃ ox od, PySem.W.InstAt s.heap a ox D od ∧ ∀ dd fs, d = some dd → H dd = some (.xd fs) → ∃ (o : Obj) (mA : Str → Option Value), od = some o ∧ (∀ m, RelO (fs.lookup m) (mA m)) ∧ ∀ m, PySem.W.lookIn m o = some (mA m) := by
  obtain ⟨oe, vs, g, z, f⟩ := xc_at I.hok e
  have nc : PySem.W.notCls oe = true := by unfold PySem.W.notCls; rw [f] <;> rfl
  rcases hd with rfl | ⟨dd, fs, rfl, hx⟩
  · exact ⟨oe, none, ⟨g, z.1, nc, by rw [z.2]; trivial⟩, fun dd fs e => by cases e⟩
  · have hx' : ObjOk X.prog X.w H s.heap dd (.xd fs) := I.hok dd _ hx
    obtain ⟨mA, hns, hr⟩ := hx'
    obtain ⟨o, ho, hl⟩ := lookIn_ns hns
    refine ⟨oe, some o, ⟨g, z.1, nc, by rw [z.2]; exact ho⟩, fun dd' fs' e1 e2 => ?_⟩
    cases e1
    rw [hx] at e2
    cases e2
    exact ⟨o, mA, rfl, hr, hl⟩
/-- isinstance(e, c) of a kept exception -/
def rIsK (K : PySem.W.Frag) : List V → Hp → VK → Prop := fun xs H Q => ∃ (a D : Addr) (d : Option Addr) (c : V) (cv : Value) (b : Bool), xs = [.ref a, c] ∧ H a = some (Xc (.ref D) d a) ∧ Dct H d ∧ ExcC K D ∧ (∀ u, RelV c u → u = cv) ∧ PySem.W.kitOne K (.ref D) cv = some b ∧ Q (.bl b) H
theorem call_isK : CallR X (.builtin "isinstance") (rIsK X.K) := by
  intro pins s σ H xs us Q I r h
  obtain ⟨a, D, d, c, cv, b, rfl, ea, hd, C, hcv, e, q⟩ := h
  match us, r with
  | [_, _], .cons rx (.cons rt .nil) =>
    cases rx
    have ec := hcv _ rt
    subst ec
    obtain ⟨ox, od, J, _⟩ := inst I ea hd
    exact PySem.W.kia_one (kit_of C) I.kIn ⟨ox, od, J⟩ e (fun z => nomatch z) fun tk => ⟨.bl b, H, I.kept (t' := tk) fun _ _ z => z, rfl, q⟩
end
/-- e.f of a kept exception -/
def tXk (K : PySem.W.Frag) (f : Str) (te : TE) : TE := fun σ H Q => te σ H fun x H1 => ∃ (a C dd : Addr) (fs : List (Str × V)) (v : V), x = .ref a ∧ H1 a = some (Xc (.ref C) (some dd) a) ∧ H1 dd = some (.xd fs) ∧ XfC K C ∧ PySem.W.findIn K (.ref C) f = some none ∧ fs.lookup f = some v ∧ Q v H1
theorem pe_xk {X : Cx} {e : Expr} {te : TE} {pos : Pos} {n : Str} (he : PE X e te) (hb : attributeBase e n X.env (eval e X.env) = eval e X.env := by rfl) : PE X (.Attribute e n pos) (tXk X.K n te) := by
  refine ⟨fun pins s σ H Q I h => ?_⟩
  refine attr_of hb (thn (he.run pins s σ H _ I h) fun u s1 hh => ?_)
  obtain ⟨x, H1, I1, rx, a, C, dd, fs, v, rfl, ea, ed, T, hno, l, q⟩ := hh
  obtain rfl : u = Value.ref a := rx
  obtain ⟨ox, od, J, more⟩ := inst I1 ea (.inr ⟨dd, fs, rfl, ed⟩)
  obtain ⟨o, mA, rfl, hr, hl⟩ := more dd fs rfl ed
  obtain ⟨u, hu, ru⟩ := RelO.some_of (v := v) (o := mA n) (by rw [← l]; exact hr n)
  exact HandSPX.exc_get I1.kIn J T.ga T.gg T.exC (PySem.W.findObj_own T.hdC hno rfl (by rw [hl, hu])) (handed_of ru) ⟨v, H1, I1.tok _, ru, q⟩
end EXW
set_option Elab.async false
set_option linter.all false
set_option maxRecDepth 100000
set_option maxHeartbeats 4000000
/-! d.update(e), both dicts by texts or numbers -/
namespace DU
open PySem PySem.Spec PyProof.Rows L2
def rUpd : V → List V → Hp → VK → Prop := fun x xs H Q => ∃ (d o : Addr) (kvs more : List (Key × V)), x = .ref d ∧ xs = [.ref o] ∧ d ≠ o ∧ H d = some (.dK kvs) ∧ H o = some (.dK more) ∧ kvs.length + more.length ≤ sizeLine ∧ Q .non (upd H d (.dK (mergeK kvs more)))
theorem putK_len (kvs : List (Key × V)) (k : Key) (v : V) : (putK kvs k v).length ≤ kvs.length + 1 := by
  unfold putK
  split
  · rw [List.length_map]; omega
  · rw [List.length_append]; exact Nat.le_refl _
theorem mergeK_len : ∀ (more kvs : List (Key × V)), (mergeK kvs more).length ≤ kvs.length + more.length
  | [], kvs => Nat.le_refl _
  | p :: more, kvs => by
    have ih := mergeK_len more (putK kvs p.1 p.2)
    have h := putK_len kvs p.1 p.2
    show (mergeK (putK kvs p.1 p.2) more).length ≤ _
    rw [List.length_cons]
    omega
theorem mt_upd {X : Cx} : MtR X "dict.update" rUpd := by
  intro pins s σ H x xs v us Q I rx rxs h
  obtain ⟨d, o, kvs, more, rfl, rfl, ne, hd, ho, hz, q⟩ := h
  cases rx
  obtain ⟨u, rfl, ru⟩ := rxs.one
  cases ru
  obtain ⟨l1, s1, vs, kv1, D1⟩ := I.hok d _ hd
  obtain ⟨l2, s2, ws, kv2, D2⟩ := I.hok o _ ho
  have e1 : vs.length = kvs.length := (Paired.length kv1).symm
  have e2 : ws.length = more.length := (Paired.length kv2).symm
  have T := D1.typeIs
  refine call_meetsIn PySem.F.slot_dict_update T PySem.F.entry_dict_update (PySem.F.args_dict_update_2 _ _) (meets_dict_update (mixKind X.prog X.w) d o ne s2) ⟨vs, ws, D1, D2, by omega, fun h' D1' D2' same => ?_⟩
  have J := I.write (t' := s.toks) (x := d) (e := d) (o := .dK (mergeK kvs more)) (by rw [hd]; exact True.intro) (.inl rfl) (fun b u hb e => (same.2 b hb).trans e) (by obtain ⟨ob, es, ep, e, _⟩ := D1'; exact ⟨ob, e⟩) ⟨Nat.le_trans (mergeK_len more kvs) hz, s1, _, KV.merge kv2 kv1, D1'⟩
  exact ⟨.non, _, J, rfl, q⟩
end DU
set_option Elab.async false
set_option linter.all false
set_option maxRecDepth 100000
set_option maxHeartbeats 4000000
/-! a walk over zip of two lists of one length -/
namespace ZL
open PySem PySem.Spec PyProof.Rows L2
theorem walk_zipL {K : PySem.W.Frag} {a b : Addr} {xs ys : List V} (hl : ys.length = xs.length) : Walk (Itz K a b) xs.length (fun H => SqL K H a xs ∧ SqL K H b ys) (fun i H v H' => ∃ T x y, v = .ref T ∧ H T = none ∧ H' = upd H T (.tup [x, y]) ∧ xs[i]? = some x ∧ ys[i]? = some y) where
  goes := fun i H hi ⟨hx, hy⟩ => ⟨xs, ys, _, _, hx, hy, List.getElem?_eq_getElem hi, List.getElem?_eq_getElem (by omega)⟩
  yields := fun i H x H' hi ⟨hx, hy⟩ ⟨T, x', y', e1, e2, e3, f1, f2⟩ => ⟨T, x', y', e1, e2, e3, f1 xs hx, f2 ys hy⟩
  stops := fun H ⟨hx, hy⟩ => ⟨xs, ys, hx, hy, .inl (Nat.le_refl _)⟩
end ZL
set_option Elab.async false
set_option linter.all false
set_option maxRecDepth 100000
set_option maxHeartbeats 4000000
namespace K48
open PySem PySem.Spec PyProof.Rows L2
open C8 (Cal Mak Met pe_c pe_mk pe_mt pe_mt0)
open EXV (Xc)
open EXW (Dct)
/-- the own classes of refusals, the classes above them, the words -/
abbrev ex16 : List Str := [("NoKind" : Str), ("Nought" : Str), ("NoShare" : Str), ("Uneven" : Str), ("BadName" : Str), ("NoNumber" : Str), ("NoRide" : Str), ("NoText" : Str), ("NoName" : Str), ("NoDay" : Str), ("NoSeats" : Str), ("TooMany" : Str), ("Taken" : Str), ("NoRule" : Str), ("NothingDone" : Str), ("NoRow" : Str)]
abbrev ex10 : List String := ["TypeError", "ZeroDivisionError", "ArithmeticError", "ValueError", "KeyError", "LookupError", "IndexError", "OverflowError", "RuntimeError", "NotImplementedError"]
abbrev kw16 : List Str := [("kind" : Str), ("nought" : Str), ("share" : Str), ("uneven" : Str), ("badname" : Str), ("number" : Str), ("ride" : Str), ("text" : Str), ("name" : Str), ("day" : Str), ("seats" : Str), ("many" : Str), ("taken" : Str), ("rule" : Str), ("done" : Str), ("row" : Str)]
/-- what is known of a refusal's class D: which of the sixteen it is (ow), which of the ten stand above it (ab) -/
structure Ex (K : PySem.W.Frag) (mg : Str → Option Value) (D : Addr) (ow : Str → Bool) (ab : String → Bool) : Prop where
  gl : ∀ x ∈ ex16, mg x = some (.ref (He.ga K x))
  bt : ∀ x ∈ ex10, mg (Str.ofString x) = none
  xc : ExcC K D
  ko : ∀ x ∈ ex16, PySem.W.kitOne K (.ref D) (.ref (He.ga K x)) = some (ow x)
  kb : ∀ x ∈ ex10, PySem.W.kitOne K (.ref D) (.type x) = some (ab x)
section
variable {P : Program} {w : World} {K : PySem.W.Frag} {mg : Str → Option Value} {base : Heap} {f C CT D : Addr} {fd : FuncData} {ow : Str → Bool} {ab : String → Bool}
theorem isO {a : Addr} {d : Option Addr} {H : Hp} {x : Str} {Q : VK} (T : Ex K mg D ow ab) (ha : H a = some (Xc (.ref D) d a)) (hd : Dct H d) (hx : x ∈ ex16) (q : Q (.bl (ow x)) H) : EXW.rIsK K [.ref a, .ref (He.ga K x)] H Q :=
  ⟨a, D, d, _, _, _, rfl, ha, hd, T.xc, fun u r => by cases r; rfl, T.ko x hx, q⟩
theorem isB {a : Addr} {d : Option Addr} {H : Hp} {x : String} {Q : VK} (T : Ex K mg D ow ab) (ha : H a = some (Xc (.ref D) d a)) (hd : Dct H d) (hx : x ∈ ex10) (q : Q (.bl (ab x)) H) : EXW.rIsK K [.ref a, .ty x] H Q :=
  ⟨a, D, d, _, _, _, rfl, ha, hd, T.xc, fun u r => by cases r; rfl, T.kb x hx, q⟩
theorem dct_same {H H' : Hp} {d : Option Addr} (h : Dct H d) (s : Same H H') : Dct H' d := by
  rcases h with h | ⟨dd, fs, e, h⟩
  · exact .inl h
  · exact .inr ⟨dd, fs, e, s _ _ h⟩
/-- the words of what it is -/
def fnd (ow : Str → Bool) : List Str := ((kw16.zip (ex16.map ow)).filter (·.2)).map (·.1)
theorem split16 : Txt.split "kind nought share uneven badname number ride text name day seats many taken rule done row" " " = kw16 := by decide +kernel
def spKi (D : Addr) (ow : Str → Bool) (ab : String → Bool) : Sp := fun vs H Q _ => ∃ (a : Addr) (d : Option Addr), vs = [.ref a] ∧ H a = some (Xc (.ref D) d a) ∧ Dct H d ∧
  ∀ (t l m : Addr) (H' : Hp), Same H H' → H t = none → H' t = some (.tup [.ref l, .ref m]) → H' l = some (.lst ((fnd ow).map V.str)) → H' m = some (.lst (ex10.map fun x => V.bl (ab x))) → Q (.ref t) H'
theorem ok_ki (F : Dn K d_l_kinds f fd) (b : Bl mg) (bz : mg "zip" = none) (T : Ex K mg D ow ab) : FnOk P w K mg base CX0 1 f fd ["_law_error"] (spKi D ow ab) := by
  refine F.ok sc_l_kinds (fun vs H Q E h => ?_) (fun cdv A outer s H vs Q E hr h => ?_)
  · obtain ⟨a, d, rfl, _⟩ := h
    rfl
  · obtain ⟨a, d, rfl, ha, hd, hQ⟩ := h
    refine ⟨_, PSs.nox (pss_cons (ps_set (i := 1) sc_l_kinds.nd rfl (.inl rfl) (pe_lst (pa_cons (pe_callB (r := EXW.rIsK K) EXW.call_isK rfl b.isi boot_isinstance (pa_cons (pv 0) (pa_cons (pe_glob (v := .ref (He.ga K "NoKind")) rfl (T.gl "NoKind" (by decide +kernel)) rfl) pa_nil))) (pa_cons (pe_callB (r := EXW.rIsK K) EXW.call_isK rfl b.isi boot_isinstance (pa_cons (pv 0) (pa_cons (pe_glob (v := .ref (He.ga K "Nought")) rfl (T.gl "Nought" (by decide +kernel)) rfl) pa_nil))) (pa_cons (pe_callB (r := EXW.rIsK K) EXW.call_isK rfl b.isi boot_isinstance (pa_cons (pv 0) (pa_cons (pe_glob (v := .ref (He.ga K "NoShare")) rfl (T.gl "NoShare" (by decide +kernel)) rfl) pa_nil))) (pa_cons (pe_callB (r := EXW.rIsK K) EXW.call_isK rfl b.isi boot_isinstance (pa_cons (pv 0) (pa_cons (pe_glob (v := .ref (He.ga K "Uneven")) rfl (T.gl "Uneven" (by decide +kernel)) rfl) pa_nil))) pa_nil))))))
      (pss_cons (ps_set (i := 1) sc_l_kinds.nd rfl (.inl rfl) (pe_op op_cat (pv 1) (pe_lst (pa_cons (pe_callB (r := EXW.rIsK K) EXW.call_isK rfl b.isi boot_isinstance (pa_cons (pv 0) (pa_cons (pe_glob (v := .ref (He.ga K "BadName")) rfl (T.gl "BadName" (by decide +kernel)) rfl) pa_nil))) (pa_cons (pe_callB (r := EXW.rIsK K) EXW.call_isK rfl b.isi boot_isinstance (pa_cons (pv 0) (pa_cons (pe_glob (v := .ref (He.ga K "NoNumber")) rfl (T.gl "NoNumber" (by decide +kernel)) rfl) pa_nil))) (pa_cons (pe_callB (r := EXW.rIsK K) EXW.call_isK rfl b.isi boot_isinstance (pa_cons (pv 0) (pa_cons (pe_glob (v := .ref (He.ga K "NoRide")) rfl (T.gl "NoRide" (by decide +kernel)) rfl) pa_nil))) pa_nil))))))
      (pss_cons (ps_set (i := 1) sc_l_kinds.nd rfl (.inl rfl) (pe_op op_cat (pv 1) (pe_lst (pa_cons (pe_callB (r := EXW.rIsK K) EXW.call_isK rfl b.isi boot_isinstance (pa_cons (pv 0) (pa_cons (pe_glob (v := .ref (He.ga K "NoText")) rfl (T.gl "NoText" (by decide +kernel)) rfl) pa_nil))) (pa_cons (pe_callB (r := EXW.rIsK K) EXW.call_isK rfl b.isi boot_isinstance (pa_cons (pv 0) (pa_cons (pe_glob (v := .ref (He.ga K "NoName")) rfl (T.gl "NoName" (by decide +kernel)) rfl) pa_nil))) (pa_cons (pe_callB (r := EXW.rIsK K) EXW.call_isK rfl b.isi boot_isinstance (pa_cons (pv 0) (pa_cons (pe_glob (v := .ref (He.ga K "NoDay")) rfl (T.gl "NoDay" (by decide +kernel)) rfl) pa_nil))) pa_nil))))))
      (pss_cons (ps_set (i := 1) sc_l_kinds.nd rfl (.inl rfl) (pe_op op_cat (pv 1) (pe_lst (pa_cons (pe_callB (r := EXW.rIsK K) EXW.call_isK rfl b.isi boot_isinstance (pa_cons (pv 0) (pa_cons (pe_glob (v := .ref (He.ga K "NoSeats")) rfl (T.gl "NoSeats" (by decide +kernel)) rfl) pa_nil))) (pa_cons (pe_callB (r := EXW.rIsK K) EXW.call_isK rfl b.isi boot_isinstance (pa_cons (pv 0) (pa_cons (pe_glob (v := .ref (He.ga K "TooMany")) rfl (T.gl "TooMany" (by decide +kernel)) rfl) pa_nil))) (pa_cons (pe_callB (r := EXW.rIsK K) EXW.call_isK rfl b.isi boot_isinstance (pa_cons (pv 0) (pa_cons (pe_glob (v := .ref (He.ga K "Taken")) rfl (T.gl "Taken" (by decide +kernel)) rfl) pa_nil))) pa_nil))))))
      (pss_cons (ps_set (i := 1) sc_l_kinds.nd rfl (.inl rfl) (pe_op op_cat (pv 1) (pe_lst (pa_cons (pe_callB (r := EXW.rIsK K) EXW.call_isK rfl b.isi boot_isinstance (pa_cons (pv 0) (pa_cons (pe_glob (v := .ref (He.ga K "NoRule")) rfl (T.gl "NoRule" (by decide +kernel)) rfl) pa_nil))) (pa_cons (pe_callB (r := EXW.rIsK K) EXW.call_isK rfl b.isi boot_isinstance (pa_cons (pv 0) (pa_cons (pe_glob (v := .ref (He.ga K "NothingDone")) rfl (T.gl "NothingDone" (by decide +kernel)) rfl) pa_nil))) (pa_cons (pe_callB (r := EXW.rIsK K) EXW.call_isK rfl b.isi boot_isinstance (pa_cons (pv 0) (pa_cons (pe_glob (v := .ref (He.ga K "NoRow")) rfl (T.gl "NoRow" (by decide +kernel)) rfl) pa_nil))) pa_nil))))))
      (pss_cons (ps_set (i := 2) sc_l_kinds.nd rfl (.inl rfl) (pe_bm PySem.F.plainAttrs_str PySem.F.slot_str_split PySem.F.type_str_split mt_split pe_str (pa_cons pe_str pa_nil)))
      (pss_cons (ps_setLc (i := 3) (own := [("_law_word", 5), ("_law_so", 6)]) (g := gTup K 2 (gCons (gName 5) (gCons (gName 6) gNil))) rfl sc_l_kinds.nd rfl rfl (sw_true rfl rfl rfl (by decide +kernel)) (RZ.pi_zipA rfl bz (pa_cons (pv 2) (pa_cons (pv 1) pa_nil))) (blkOk_by (N := N_l_kinds) (sc := defScope s_l_kinds) (by decide +kernel))
          (fun _ _ _ _ _ => pg_tup rfl (pgs_cons (pg_name (i := 5) sc_l_kinds.nd rfl (.inl rfl)) (pgs_cons (pg_name (i := 6) sc_l_kinds.nd rfl (.inl rfl)) pgs_nil))) (fun _ _ _ _ _ => pts_one (pt_val (pv 6))) (fun _ _ _ _ _ => pv 5))
      (pss_cons (ps_set (i := 4) sc_l_kinds.nd rfl (.inl rfl) (pe_lst (pa_cons (pe_callB (r := EXW.rIsK K) EXW.call_isK rfl b.isi boot_isinstance (pa_cons (pv 0) (pa_cons (pe_bltn (v := .ty "TypeError") rfl (T.bt "TypeError" (by decide +kernel)) PyProof.Rows.Boot.«TypeError» rfl) pa_nil))) (pa_cons (pe_callB (r := EXW.rIsK K) EXW.call_isK rfl b.isi boot_isinstance (pa_cons (pv 0) (pa_cons (pe_bltn (v := .ty "ZeroDivisionError") rfl (T.bt "ZeroDivisionError" (by decide +kernel)) PyProof.Rows.Boot.«ZeroDivisionError» rfl) pa_nil))) (pa_cons (pe_callB (r := EXW.rIsK K) EXW.call_isK rfl b.isi boot_isinstance (pa_cons (pv 0) (pa_cons (pe_bltn (v := .ty "ArithmeticError") rfl (T.bt "ArithmeticError" (by decide +kernel)) PyProof.Rows.Boot.«ArithmeticError» rfl) pa_nil))) pa_nil)))))
      (pss_cons (ps_set (i := 4) sc_l_kinds.nd rfl (.inl rfl) (pe_op op_cat (pv 4) (pe_lst (pa_cons (pe_callB (r := EXW.rIsK K) EXW.call_isK rfl b.isi boot_isinstance (pa_cons (pv 0) (pa_cons (pe_bltn (v := .ty "ValueError") rfl (T.bt "ValueError" (by decide +kernel)) PyProof.Rows.Boot.«ValueError» rfl) pa_nil))) (pa_cons (pe_callB (r := EXW.rIsK K) EXW.call_isK rfl b.isi boot_isinstance (pa_cons (pv 0) (pa_cons (pe_bltn (v := .ty "KeyError") rfl (T.bt "KeyError" (by decide +kernel)) PyProof.Rows.Boot.«KeyError» rfl) pa_nil))) (pa_cons (pe_callB (r := EXW.rIsK K) EXW.call_isK rfl b.isi boot_isinstance (pa_cons (pv 0) (pa_cons (pe_bltn (v := .ty "LookupError") rfl (T.bt "LookupError" (by decide +kernel)) PyProof.Rows.Boot.«LookupError» rfl) pa_nil))) pa_nil))))))
      (pss_cons (ps_set (i := 4) sc_l_kinds.nd rfl (.inl rfl) (pe_op op_cat (pv 4) (pe_lst (pa_cons (pe_callB (r := EXW.rIsK K) EXW.call_isK rfl b.isi boot_isinstance (pa_cons (pv 0) (pa_cons (pe_bltn (v := .ty "IndexError") rfl (T.bt "IndexError" (by decide +kernel)) PyProof.Rows.Boot.«IndexError» rfl) pa_nil))) (pa_cons (pe_callB (r := EXW.rIsK K) EXW.call_isK rfl b.isi boot_isinstance (pa_cons (pv 0) (pa_cons (pe_bltn (v := .ty "OverflowError") rfl (T.bt "OverflowError" (by decide +kernel)) PyProof.Rows.Boot.«OverflowError» rfl) pa_nil))) (pa_cons (pe_callB (r := EXW.rIsK K) EXW.call_isK rfl b.isi boot_isinstance (pa_cons (pv 0) (pa_cons (pe_bltn (v := .ty "RuntimeError") rfl (T.bt "RuntimeError" (by decide +kernel)) PyProof.Rows.Boot.«RuntimeError» rfl) pa_nil))) pa_nil))))))
      (pss_one (ps_ret (pe_tup (pa_cons (pv 3) (pa_cons (pe_op op_cat (pv 4) (pe_lst (pa_cons (pe_callB (r := EXW.rIsK K) EXW.call_isK rfl b.isi boot_isinstance (pa_cons (pv 0) (pa_cons (pe_bltn (v := .ty "NotImplementedError") rfl (T.bt "NotImplementedError" (by decide +kernel)) PyProof.Rows.Boot.«NotImplementedError» rfl) pa_nil))) pa_nil))) pa_nil))))))))))))))), ?_⟩
    refine ⟨_, rfl, a, D, d, _, _, _, rfl, ha, hd, T.xc, fun u r => (by cases r; rfl), T.ko "NoKind" (by decide +kernel), ?_⟩
    refine ⟨_, rfl, a, D, d, _, _, _, rfl, ha, hd, T.xc, fun u r => (by cases r; rfl), T.ko "Nought" (by decide +kernel), ?_⟩
    refine ⟨_, rfl, a, D, d, _, _, _, rfl, ha, hd, T.xc, fun u r => (by cases r; rfl), T.ko "NoShare" (by decide +kernel), ?_⟩
    refine ⟨_, rfl, a, D, d, _, _, _, rfl, ha, hd, T.xc, fun u r => (by cases r; rfl), T.ko "Uneven" (by decide +kernel), ?_⟩
    refine ⟨by show 4 ≤ sizeLine; decide, fun p1 f1 => ?_⟩
    have s1 := same_new (o := .lst [V.bl (ow "NoKind"), V.bl (ow "Nought"), V.bl (ow "NoShare"), V.bl (ow "Uneven")]) f1
    have ha := s1 _ _ ha
    have hd := dct_same hd s1
    have hl : _ = some (HO.lst [V.bl (ow "NoKind"), V.bl (ow "Nought"), V.bl (ow "NoShare"), V.bl (ow "Uneven")]) := (upd_same : (upd H p1 (.lst [V.bl (ow "NoKind"), V.bl (ow "Nought"), V.bl (ow "NoShare"), V.bl (ow "Uneven")])) p1 = _)
    generalize upd H p1 (.lst [V.bl (ow "NoKind"), V.bl (ow "Nought"), V.bl (ow "NoShare"), V.bl (ow "Uneven")]) = G1 at s1 ha hd hl ⊢
    have sm := s1
    refine ⟨_, rfl, _, rfl, a, D, d, _, _, _, rfl, ha, hd, T.xc, fun u r => (by cases r; rfl), T.ko "BadName" (by decide +kernel), ?_⟩
    refine ⟨_, rfl, a, D, d, _, _, _, rfl, ha, hd, T.xc, fun u r => (by cases r; rfl), T.ko "NoNumber" (by decide +kernel), ?_⟩
    refine ⟨_, rfl, a, D, d, _, _, _, rfl, ha, hd, T.xc, fun u r => (by cases r; rfl), T.ko "NoRide" (by decide +kernel), ?_⟩
    refine ⟨by show 3 ≤ sizeLine; decide, fun p2 f2 => ?_⟩
    have s2 := same_new (o := .lst [V.bl (ow "BadName"), V.bl (ow "NoNumber"), V.bl (ow "NoRide")]) f2
    have ha := s2 _ _ ha
    have hd := dct_same hd s2
    have hl2 := s2 _ _ hl
    have hm2 : (upd G1 p2 (.lst [V.bl (ow "BadName"), V.bl (ow "NoNumber"), V.bl (ow "NoRide")])) p2 = some (.lst [V.bl (ow "BadName"), V.bl (ow "NoNumber"), V.bl (ow "NoRide")]) := upd_same
    have sm2 := sm.trans s2
    generalize upd G1 p2 (.lst [V.bl (ow "BadName"), V.bl (ow "NoNumber"), V.bl (ow "NoRide")]) = G2 at sm2 ha hd hl2 hm2 ⊢
    refine ⟨p1, p2, _, _, rfl, rfl, hl2, hm2, by show 7 ≤ sizeLine; decide, fun p3 f3 => ?_⟩
    have s3 := same_new (o := .lst [V.bl (ow "NoKind"), V.bl (ow "Nought"), V.bl (ow "NoShare"), V.bl (ow "Uneven"), V.bl (ow "BadName"), V.bl (ow "NoNumber"), V.bl (ow "NoRide")]) f3
    have ha := s3 _ _ ha
    have hd := dct_same hd s3
    have hl : (upd G2 p3 (.lst [V.bl (ow "NoKind"), V.bl (ow "Nought"), V.bl (ow "NoShare"), V.bl (ow "Uneven"), V.bl (ow "BadName"), V.bl (ow "NoNumber"), V.bl (ow "NoRide")])) p3 = some (.lst [V.bl (ow "NoKind"), V.bl (ow "Nought"), V.bl (ow "NoShare"), V.bl (ow "Uneven"), V.bl (ow "BadName"), V.bl (ow "NoNumber"), V.bl (ow "NoRide")]) := upd_same
    have sm := sm2.trans s3
    replace hl : (upd G2 p3 _) p3 = some (.lst [V.bl (ow "NoKind"), V.bl (ow "Nought"), V.bl (ow "NoShare"), V.bl (ow "Uneven"), V.bl (ow "BadName"), V.bl (ow "NoNumber"), V.bl (ow "NoRide")]) := hl
    dsimp only [List.cons_append, List.nil_append] at *
    generalize upd G2 p3 (.lst [V.bl (ow "NoKind"), V.bl (ow "Nought"), V.bl (ow "NoShare"), V.bl (ow "Uneven"), V.bl (ow "BadName"), V.bl (ow "NoNumber"), V.bl (ow "NoRide")]) = G3 at sm ha hd hl ⊢
    clear hl2 hm2 sm2
    refine ⟨_, rfl, _, rfl, a, D, d, _, _, _, rfl, ha, hd, T.xc, fun u r => (by cases r; rfl), T.ko "NoText" (by decide +kernel), ?_⟩
    refine ⟨_, rfl, a, D, d, _, _, _, rfl, ha, hd, T.xc, fun u r => (by cases r; rfl), T.ko "NoName" (by decide +kernel), ?_⟩
    refine ⟨_, rfl, a, D, d, _, _, _, rfl, ha, hd, T.xc, fun u r => (by cases r; rfl), T.ko "NoDay" (by decide +kernel), ?_⟩
    refine ⟨by show 3 ≤ sizeLine; decide, fun p4 f4 => ?_⟩
    have s4 := same_new (o := .lst [V.bl (ow "NoText"), V.bl (ow "NoName"), V.bl (ow "NoDay")]) f4
    have ha := s4 _ _ ha
    have hd := dct_same hd s4
    have hl2 := s4 _ _ hl
    have hm2 : (upd G3 p4 (.lst [V.bl (ow "NoText"), V.bl (ow "NoName"), V.bl (ow "NoDay")])) p4 = some (.lst [V.bl (ow "NoText"), V.bl (ow "NoName"), V.bl (ow "NoDay")]) := upd_same
    have sm2 := sm.trans s4
    generalize upd G3 p4 (.lst [V.bl (ow "NoText"), V.bl (ow "NoName"), V.bl (ow "NoDay")]) = G4 at sm2 ha hd hl2 hm2 ⊢
    refine ⟨p3, p4, _, _, rfl, rfl, hl2, hm2, by show 10 ≤ sizeLine; decide, fun p5 f5 => ?_⟩
    have s5 := same_new (o := .lst [V.bl (ow "NoKind"), V.bl (ow "Nought"), V.bl (ow "NoShare"), V.bl (ow "Uneven"), V.bl (ow "BadName"), V.bl (ow "NoNumber"), V.bl (ow "NoRide"), V.bl (ow "NoText"), V.bl (ow "NoName"), V.bl (ow "NoDay")]) f5
    have ha := s5 _ _ ha
    have hd := dct_same hd s5
    have hl : (upd G4 p5 (.lst [V.bl (ow "NoKind"), V.bl (ow "Nought"), V.bl (ow "NoShare"), V.bl (ow "Uneven"), V.bl (ow "BadName"), V.bl (ow "NoNumber"), V.bl (ow "NoRide"), V.bl (ow "NoText"), V.bl (ow "NoName"), V.bl (ow "NoDay")])) p5 = some (.lst [V.bl (ow "NoKind"), V.bl (ow "Nought"), V.bl (ow "NoShare"), V.bl (ow "Uneven"), V.bl (ow "BadName"), V.bl (ow "NoNumber"), V.bl (ow "NoRide"), V.bl (ow "NoText"), V.bl (ow "NoName"), V.bl (ow "NoDay")]) := upd_same
    have sm := sm2.trans s5
    replace hl : (upd G4 p5 _) p5 = some (.lst [V.bl (ow "NoKind"), V.bl (ow "Nought"), V.bl (ow "NoShare"), V.bl (ow "Uneven"), V.bl (ow "BadName"), V.bl (ow "NoNumber"), V.bl (ow "NoRide"), V.bl (ow "NoText"), V.bl (ow "NoName"), V.bl (ow "NoDay")]) := hl
    dsimp only [List.cons_append, List.nil_append] at *
    generalize upd G4 p5 (.lst [V.bl (ow "NoKind"), V.bl (ow "Nought"), V.bl (ow "NoShare"), V.bl (ow "Uneven"), V.bl (ow "BadName"), V.bl (ow "NoNumber"), V.bl (ow "NoRide"), V.bl (ow "NoText"), V.bl (ow "NoName"), V.bl (ow "NoDay")]) = G5 at sm ha hd hl ⊢
    clear hl2 hm2 sm2
    refine ⟨_, rfl, _, rfl, a, D, d, _, _, _, rfl, ha, hd, T.xc, fun u r => (by cases r; rfl), T.ko "NoSeats" (by decide +kernel), ?_⟩
    refine ⟨_, rfl, a, D, d, _, _, _, rfl, ha, hd, T.xc, fun u r => (by cases r; rfl), T.ko "TooMany" (by decide +kernel), ?_⟩
    refine ⟨_, rfl, a, D, d, _, _, _, rfl, ha, hd, T.xc, fun u r => (by cases r; rfl), T.ko "Taken" (by decide +kernel), ?_⟩
    refine ⟨by show 3 ≤ sizeLine; decide, fun p6 f6 => ?_⟩
    have s6 := same_new (o := .lst [V.bl (ow "NoSeats"), V.bl (ow "TooMany"), V.bl (ow "Taken")]) f6
    have ha := s6 _ _ ha
    have hd := dct_same hd s6
    have hl2 := s6 _ _ hl
    have hm2 : (upd G5 p6 (.lst [V.bl (ow "NoSeats"), V.bl (ow "TooMany"), V.bl (ow "Taken")])) p6 = some (.lst [V.bl (ow "NoSeats"), V.bl (ow "TooMany"), V.bl (ow "Taken")]) := upd_same
    have sm2 := sm.trans s6
    generalize upd G5 p6 (.lst [V.bl (ow "NoSeats"), V.bl (ow "TooMany"), V.bl (ow "Taken")]) = G6 at sm2 ha hd hl2 hm2 ⊢
    refine ⟨p5, p6, _, _, rfl, rfl, hl2, hm2, by show 13 ≤ sizeLine; decide, fun p7 f7 => ?_⟩
    have s7 := same_new (o := .lst [V.bl (ow "NoKind"), V.bl (ow "Nought"), V.bl (ow "NoShare"), V.bl (ow "Uneven"), V.bl (ow "BadName"), V.bl (ow "NoNumber"), V.bl (ow "NoRide"), V.bl (ow "NoText"), V.bl (ow "NoName"), V.bl (ow "NoDay"), V.bl (ow "NoSeats"), V.bl (ow "TooMany"), V.bl (ow "Taken")]) f7
    have ha := s7 _ _ ha
    have hd := dct_same hd s7
    have hl : (upd G6 p7 (.lst [V.bl (ow "NoKind"), V.bl (ow "Nought"), V.bl (ow "NoShare"), V.bl (ow "Uneven"), V.bl (ow "BadName"), V.bl (ow "NoNumber"), V.bl (ow "NoRide"), V.bl (ow "NoText"), V.bl (ow "NoName"), V.bl (ow "NoDay"), V.bl (ow "NoSeats"), V.bl (ow "TooMany"), V.bl (ow "Taken")])) p7 = some (.lst [V.bl (ow "NoKind"), V.bl (ow "Nought"), V.bl (ow "NoShare"), V.bl (ow "Uneven"), V.bl (ow "BadName"), V.bl (ow "NoNumber"), V.bl (ow "NoRide"), V.bl (ow "NoText"), V.bl (ow "NoName"), V.bl (ow "NoDay"), V.bl (ow "NoSeats"), V.bl (ow "TooMany"), V.bl (ow "Taken")]) := upd_same
    have sm := sm2.trans s7
    replace hl : (upd G6 p7 _) p7 = some (.lst [V.bl (ow "NoKind"), V.bl (ow "Nought"), V.bl (ow "NoShare"), V.bl (ow "Uneven"), V.bl (ow "BadName"), V.bl (ow "NoNumber"), V.bl (ow "NoRide"), V.bl (ow "NoText"), V.bl (ow "NoName"), V.bl (ow "NoDay"), V.bl (ow "NoSeats"), V.bl (ow "TooMany"), V.bl (ow "Taken")]) := hl
    dsimp only [List.cons_append, List.nil_append] at *
    generalize upd G6 p7 (.lst [V.bl (ow "NoKind"), V.bl (ow "Nought"), V.bl (ow "NoShare"), V.bl (ow "Uneven"), V.bl (ow "BadName"), V.bl (ow "NoNumber"), V.bl (ow "NoRide"), V.bl (ow "NoText"), V.bl (ow "NoName"), V.bl (ow "NoDay"), V.bl (ow "NoSeats"), V.bl (ow "TooMany"), V.bl (ow "Taken")]) = G7 at sm ha hd hl ⊢
    clear hl2 hm2 sm2
    refine ⟨_, rfl, _, rfl, a, D, d, _, _, _, rfl, ha, hd, T.xc, fun u r => (by cases r; rfl), T.ko "NoRule" (by decide +kernel), ?_⟩
    refine ⟨_, rfl, a, D, d, _, _, _, rfl, ha, hd, T.xc, fun u r => (by cases r; rfl), T.ko "NothingDone" (by decide +kernel), ?_⟩
    refine ⟨_, rfl, a, D, d, _, _, _, rfl, ha, hd, T.xc, fun u r => (by cases r; rfl), T.ko "NoRow" (by decide +kernel), ?_⟩
    refine ⟨by show 3 ≤ sizeLine; decide, fun p8 f8 => ?_⟩
    have s8 := same_new (o := .lst [V.bl (ow "NoRule"), V.bl (ow "NothingDone"), V.bl (ow "NoRow")]) f8
    have ha := s8 _ _ ha
    have hd := dct_same hd s8
    have hl2 := s8 _ _ hl
    have hm2 : (upd G7 p8 (.lst [V.bl (ow "NoRule"), V.bl (ow "NothingDone"), V.bl (ow "NoRow")])) p8 = some (.lst [V.bl (ow "NoRule"), V.bl (ow "NothingDone"), V.bl (ow "NoRow")]) := upd_same
    have sm2 := sm.trans s8
    generalize upd G7 p8 (.lst [V.bl (ow "NoRule"), V.bl (ow "NothingDone"), V.bl (ow "NoRow")]) = G8 at sm2 ha hd hl2 hm2 ⊢
    refine ⟨p7, p8, _, _, rfl, rfl, hl2, hm2, by show 16 ≤ sizeLine; decide, fun p9 f9 => ?_⟩
    have s9 := same_new (o := .lst [V.bl (ow "NoKind"), V.bl (ow "Nought"), V.bl (ow "NoShare"), V.bl (ow "Uneven"), V.bl (ow "BadName"), V.bl (ow "NoNumber"), V.bl (ow "NoRide"), V.bl (ow "NoText"), V.bl (ow "NoName"), V.bl (ow "NoDay"), V.bl (ow "NoSeats"), V.bl (ow "TooMany"), V.bl (ow "Taken"), V.bl (ow "NoRule"), V.bl (ow "NothingDone"), V.bl (ow "NoRow")]) f9
    have ha := s9 _ _ ha
    have hd := dct_same hd s9
    have hl : (upd G8 p9 (.lst [V.bl (ow "NoKind"), V.bl (ow "Nought"), V.bl (ow "NoShare"), V.bl (ow "Uneven"), V.bl (ow "BadName"), V.bl (ow "NoNumber"), V.bl (ow "NoRide"), V.bl (ow "NoText"), V.bl (ow "NoName"), V.bl (ow "NoDay"), V.bl (ow "NoSeats"), V.bl (ow "TooMany"), V.bl (ow "Taken"), V.bl (ow "NoRule"), V.bl (ow "NothingDone"), V.bl (ow "NoRow")])) p9 = some (.lst [V.bl (ow "NoKind"), V.bl (ow "Nought"), V.bl (ow "NoShare"), V.bl (ow "Uneven"), V.bl (ow "BadName"), V.bl (ow "NoNumber"), V.bl (ow "NoRide"), V.bl (ow "NoText"), V.bl (ow "NoName"), V.bl (ow "NoDay"), V.bl (ow "NoSeats"), V.bl (ow "TooMany"), V.bl (ow "Taken"), V.bl (ow "NoRule"), V.bl (ow "NothingDone"), V.bl (ow "NoRow")]) := upd_same
    have sm := sm2.trans s9
    replace hl : (upd G8 p9 _) p9 = some (.lst [V.bl (ow "NoKind"), V.bl (ow "Nought"), V.bl (ow "NoShare"), V.bl (ow "Uneven"), V.bl (ow "BadName"), V.bl (ow "NoNumber"), V.bl (ow "NoRide"), V.bl (ow "NoText"), V.bl (ow "NoName"), V.bl (ow "NoDay"), V.bl (ow "NoSeats"), V.bl (ow "TooMany"), V.bl (ow "Taken"), V.bl (ow "NoRule"), V.bl (ow "NothingDone"), V.bl (ow "NoRow")]) := hl
    dsimp only [List.cons_append, List.nil_append] at *
    generalize upd G8 p9 (.lst [V.bl (ow "NoKind"), V.bl (ow "Nought"), V.bl (ow "NoShare"), V.bl (ow "Uneven"), V.bl (ow "BadName"), V.bl (ow "NoNumber"), V.bl (ow "NoRide"), V.bl (ow "NoText"), V.bl (ow "NoName"), V.bl (ow "NoDay"), V.bl (ow "NoSeats"), V.bl (ow "TooMany"), V.bl (ow "Taken"), V.bl (ow "NoRule"), V.bl (ow "NothingDone"), V.bl (ow "NoRow")]) = G9 at sm ha hd hl ⊢
    clear hl2 hm2 sm2
    have hl : G9 p9 = some (.lst ((ex16.map ow).map V.bl)) := hl
    refine ⟨rfl, _, _, rfl, rfl, by decide +kernel, by decide +kernel, fun wl fw => ?_⟩
    rw [split16]
    have sw := same_new (o := .lst (kw16.map V.str)) fw
    have hw : (upd G9 wl (.lst (kw16.map V.str))) wl = some (.lst (kw16.map V.str)) := upd_same
    have hl := sw _ _ hl
    have ha := sw _ _ ha
    have hd := dct_same hd sw
    have sm := sm.trans sw
    generalize upd G9 wl (.lst (kw16.map V.str)) = J1 at sm ha hd hl hw ⊢
    clear sw
    refine ⟨_, rfl, _, rfl, wl, p9, _, _, rfl, .inl ⟨SqL.of hw, SqL.of hl, fun D1 hD1 => lc_it (ZL.walk_zipL (by rfl)) (fun i H' => H' D1 = some (.lst ((((kw16.zip (ex16.map ow)).take i).filter (·.2)).map fun q => V.str q.1)) ∧ Same J1 H') ⟨upd_same, same_new hD1⟩ (fun i H' _ z => ⟨SqL.of (z.2 _ _ hw), SqL.of (z.2 _ _ hl)⟩) ?_ ?_⟩⟩
    · rintro i v H2 H3 hi ⟨hdd, s2⟩ ⟨Tp, x, y, rfl, hT, rfl, hx, hy⟩
      rw [List.getElem?_map] at hx hy
      obtain ⟨z, hz, rfl⟩ := Option.map_eq_some_iff.mp hx
      obtain ⟨c, hc, rfl⟩ := Option.map_eq_some_iff.mp hy
      have hzc : (kw16.zip (ex16.map ow))[i]? = some (z, c) := by
        rw [List.getElem?_zip_eq_some]
        exact ⟨hz, hc⟩
      have sT := same_new (o := .tup [V.str z, V.bl c]) hT
      have hdd3 := sT _ _ hdd
      refine ⟨Tp, _, rfl, SqT.of upd_same, rfl, _, _, rfl, _, _, rfl, rfl, rfl, ?_⟩
      have i16 : i < 16 := hi
      refine ⟨_, rfl, c, rfl, ?_⟩
      cases c with
      | true =>
        refine iteT ⟨_, rfl, _, hdd3, ?_, ?_, ?_⟩
        · rw [List.length_map]
          refine line_lt (Nat.le_trans (List.length_filter_le _ _) ?_)
          rw [List.length_take]
          omega
        · rw [upd_same, take_one hzc, List.filter_append, List.map_append]
          rfl
        · intro b o e
          rw [upd_ne (ne_of_none e hD1)]
          exact sT _ _ (s2 _ _ e)
      | false =>
        refine iteF ⟨?_, s2.trans sT⟩
        rw [take_one hzc, List.filter_append, show ([(z, false)] : List (Str × Bool)).filter (·.2) = [] from rfl, List.append_nil]
        exact hdd3
    rintro J2 ⟨hfd, s2⟩
    have hfd : J2 D1 = some (.lst ((fnd ow).map V.str)) := by
      rw [hfd]
      unfold fnd
      rw [List.map_map]
      rfl
    have ha := s2 _ _ ha
    have hd := dct_same hd s2
    have sm := sm.trans s2
    clear s2
    refine ⟨_, rfl, a, D, d, _, _, _, rfl, ha, hd, T.xc, fun u r => (by cases r; rfl), T.kb "TypeError" (by decide +kernel), ?_⟩
    refine ⟨_, rfl, a, D, d, _, _, _, rfl, ha, hd, T.xc, fun u r => (by cases r; rfl), T.kb "ZeroDivisionError" (by decide +kernel), ?_⟩
    refine ⟨_, rfl, a, D, d, _, _, _, rfl, ha, hd, T.xc, fun u r => (by cases r; rfl), T.kb "ArithmeticError" (by decide +kernel), ?_⟩
    refine ⟨by show 3 ≤ sizeLine; decide, fun p10 f10 => ?_⟩
    have s10 := same_new (o := .lst [V.bl (ab "TypeError"), V.bl (ab "ZeroDivisionError"), V.bl (ab "ArithmeticError")]) f10
    have ha := s10 _ _ ha
    have hd := dct_same hd s10
    have hfd := s10 _ _ hfd
    have hl : (upd J2 p10 (.lst [V.bl (ab "TypeError"), V.bl (ab "ZeroDivisionError"), V.bl (ab "ArithmeticError")])) p10 = some (.lst [V.bl (ab "TypeError"), V.bl (ab "ZeroDivisionError"), V.bl (ab "ArithmeticError")]) := upd_same
    have sm := sm.trans s10
    generalize upd J2 p10 (.lst [V.bl (ab "TypeError"), V.bl (ab "ZeroDivisionError"), V.bl (ab "ArithmeticError")]) = G10 at sm ha hd hl hfd ⊢
    clear s10
    refine ⟨_, rfl, _, rfl, a, D, d, _, _, _, rfl, ha, hd, T.xc, fun u r => (by cases r; rfl), T.kb "ValueError" (by decide +kernel), ?_⟩
    refine ⟨_, rfl, a, D, d, _, _, _, rfl, ha, hd, T.xc, fun u r => (by cases r; rfl), T.kb "KeyError" (by decide +kernel), ?_⟩
    refine ⟨_, rfl, a, D, d, _, _, _, rfl, ha, hd, T.xc, fun u r => (by cases r; rfl), T.kb "LookupError" (by decide +kernel), ?_⟩
    refine ⟨by show 3 ≤ sizeLine; decide, fun p11 f11 => ?_⟩
    have s11 := same_new (o := .lst [V.bl (ab "ValueError"), V.bl (ab "KeyError"), V.bl (ab "LookupError")]) f11
    have ha := s11 _ _ ha
    have hd := dct_same hd s11
    have hfd := s11 _ _ hfd
    have hl2 := s11 _ _ hl
    have hm2 : (upd G10 p11 (.lst [V.bl (ab "ValueError"), V.bl (ab "KeyError"), V.bl (ab "LookupError")])) p11 = some (.lst [V.bl (ab "ValueError"), V.bl (ab "KeyError"), V.bl (ab "LookupError")]) := upd_same
    have sm2 := sm.trans s11
    generalize upd G10 p11 (.lst [V.bl (ab "ValueError"), V.bl (ab "KeyError"), V.bl (ab "LookupError")]) = G11 at sm2 ha hd hl2 hm2 hfd ⊢
    clear s11
    refine ⟨p10, p11, _, _, rfl, rfl, hl2, hm2, by show 6 ≤ sizeLine; decide, fun p12 f12 => ?_⟩
    have s12 := same_new (o := .lst [V.bl (ab "TypeError"), V.bl (ab "ZeroDivisionError"), V.bl (ab "ArithmeticError"), V.bl (ab "ValueError"), V.bl (ab "KeyError"), V.bl (ab "LookupError")]) f12
    have ha := s12 _ _ ha
    have hd := dct_same hd s12
    have hfd := s12 _ _ hfd
    have hl : (upd G11 p12 (.lst [V.bl (ab "TypeError"), V.bl (ab "ZeroDivisionError"), V.bl (ab "ArithmeticError"), V.bl (ab "ValueError"), V.bl (ab "KeyError"), V.bl (ab "LookupError")])) p12 = some (.lst [V.bl (ab "TypeError"), V.bl (ab "ZeroDivisionError"), V.bl (ab "ArithmeticError"), V.bl (ab "ValueError"), V.bl (ab "KeyError"), V.bl (ab "LookupError")]) := upd_same
    have sm := sm2.trans s12
    dsimp only [List.cons_append, List.nil_append] at *
    generalize upd G11 p12 (.lst [V.bl (ab "TypeError"), V.bl (ab "ZeroDivisionError"), V.bl (ab "ArithmeticError"), V.bl (ab "ValueError"), V.bl (ab "KeyError"), V.bl (ab "LookupError")]) = G12 at sm ha hd hl hfd ⊢
    clear hl2 hm2 sm2 s12
    refine ⟨_, rfl, _, rfl, a, D, d, _, _, _, rfl, ha, hd, T.xc, fun u r => (by cases r; rfl), T.kb "IndexError" (by decide +kernel), ?_⟩
    refine ⟨_, rfl, a, D, d, _, _, _, rfl, ha, hd, T.xc, fun u r => (by cases r; rfl), T.kb "OverflowError" (by decide +kernel), ?_⟩
    refine ⟨_, rfl, a, D, d, _, _, _, rfl, ha, hd, T.xc, fun u r => (by cases r; rfl), T.kb "RuntimeError" (by decide +kernel), ?_⟩
    refine ⟨by show 3 ≤ sizeLine; decide, fun p13 f13 => ?_⟩
    have s13 := same_new (o := .lst [V.bl (ab "IndexError"), V.bl (ab "OverflowError"), V.bl (ab "RuntimeError")]) f13
    have ha := s13 _ _ ha
    have hd := dct_same hd s13
    have hfd := s13 _ _ hfd
    have hl2 := s13 _ _ hl
    have hm2 : (upd G12 p13 (.lst [V.bl (ab "IndexError"), V.bl (ab "OverflowError"), V.bl (ab "RuntimeError")])) p13 = some (.lst [V.bl (ab "IndexError"), V.bl (ab "OverflowError"), V.bl (ab "RuntimeError")]) := upd_same
    have sm2 := sm.trans s13
    generalize upd G12 p13 (.lst [V.bl (ab "IndexError"), V.bl (ab "OverflowError"), V.bl (ab "RuntimeError")]) = G13 at sm2 ha hd hl2 hm2 hfd ⊢
    clear s13
    refine ⟨p12, p13, _, _, rfl, rfl, hl2, hm2, by show 9 ≤ sizeLine; decide, fun p14 f14 => ?_⟩
    have s14 := same_new (o := .lst [V.bl (ab "TypeError"), V.bl (ab "ZeroDivisionError"), V.bl (ab "ArithmeticError"), V.bl (ab "ValueError"), V.bl (ab "KeyError"), V.bl (ab "LookupError"), V.bl (ab "IndexError"), V.bl (ab "OverflowError"), V.bl (ab "RuntimeError")]) f14
    have ha := s14 _ _ ha
    have hd := dct_same hd s14
    have hfd := s14 _ _ hfd
    have hl : (upd G13 p14 (.lst [V.bl (ab "TypeError"), V.bl (ab "ZeroDivisionError"), V.bl (ab "ArithmeticError"), V.bl (ab "ValueError"), V.bl (ab "KeyError"), V.bl (ab "LookupError"), V.bl (ab "IndexError"), V.bl (ab "OverflowError"), V.bl (ab "RuntimeError")])) p14 = some (.lst [V.bl (ab "TypeError"), V.bl (ab "ZeroDivisionError"), V.bl (ab "ArithmeticError"), V.bl (ab "ValueError"), V.bl (ab "KeyError"), V.bl (ab "LookupError"), V.bl (ab "IndexError"), V.bl (ab "OverflowError"), V.bl (ab "RuntimeError")]) := upd_same
    have sm := sm2.trans s14
    dsimp only [List.cons_append, List.nil_append] at *
    generalize upd G13 p14 (.lst [V.bl (ab "TypeError"), V.bl (ab "ZeroDivisionError"), V.bl (ab "ArithmeticError"), V.bl (ab "ValueError"), V.bl (ab "KeyError"), V.bl (ab "LookupError"), V.bl (ab "IndexError"), V.bl (ab "OverflowError"), V.bl (ab "RuntimeError")]) = G14 at sm ha hd hl hfd ⊢
    clear hl2 hm2 sm2 s14
    refine ⟨_, rfl, _, rfl, _, rfl, a, D, d, _, _, _, rfl, ha, hd, T.xc, fun u r => (by cases r; rfl), T.kb "NotImplementedError" (by decide +kernel), by show 1 ≤ sizeLine; decide, fun pz fz => ?_⟩
    have sz := same_new (o := .lst [V.bl (ab "NotImplementedError")]) fz
    refine ⟨p14, pz, _, _, rfl, rfl, sz _ _ hl, upd_same, by show 10 ≤ sizeLine; decide, fun m fm => ?_⟩
    have hm : (upd (upd G14 pz (.lst [V.bl (ab "NotImplementedError")])) m (.lst (ex10.map fun x => V.bl (ab x)))) m = some (.lst (ex10.map fun x => V.bl (ab x))) := upd_same
    have sm3 := same_new (o := .lst (ex10.map fun x => V.bl (ab x))) fm
    refine ⟨by show 2 ≤ sizeLine; decide, fun t ft => ?_⟩
    have st := same_new (o := .tup [.ref D1, .ref m]) ft
    have sall := (sm.trans sz).trans sm3
    exact hQ t D1 m _ (sall.trans st) (sall.free ft) upd_same (st _ _ (sm3 _ _ (sz _ _ hfd))) (st _ _ hm)
end
end K48
set_option Elab.async false
set_option linter.all false
set_option maxRecDepth 100000
set_option maxHeartbeats 4000000
namespace K48
open PySem PySem.Spec PyProof.Rows L2
open C8 (Cal Mak Met pe_c pe_mk pe_mt pe_mt0)
section
variable {P : Program} {w : World} {K : PySem.W.Frag} {mg : Str → Option Value} {base : Heap} {f C CT D : Addr} {fd : FuncData}
def plc : List (Str × List Int) := [("kind", [0]), ("nought", [1, 2]), ("share", [2]), ("uneven", [2]), ("name", [4, 5]), ("day", [5]), ("seats", [5, 6]), ("many", [2, 7]), ("taken", [8]), ("rule", [8, 9]), ("done", []), ("row", [])]
/-- which of the ten stand above, by the word -/
def abv (l : List Int) (i : Nat) : Bool := inV (.int (i : Int)) (l.map V.int)
def spBa : Sp := fun vs H Q _ => ∃ (wd : Str) (l : List Int), vs = [.str wd] ∧ (wd, l) ∈ plc ∧ ∀ (t : Addr) (H' : Hp), Same H H' → H t = none → H' t = some (.lst ((List.range 10).map fun i => V.bl (abv l i))) → Q (.ref t) H'
theorem ok_ba (F : Dn K d_l_bases f fd) (b : Bl mg) : FnOk P w K mg base CX0 1 f fd ["_law_word"] spBa := by
  refine F.ok sc_l_bases (fun vs H Q E h => ?_) (fun cdv A outer s H vs Q E hr h => ?_)
  · obtain ⟨wd, l, rfl, _⟩ := h
    rfl
  · obtain ⟨wd, l, rfl, hw, hQ⟩ := h
    have hu : (A.deeper (envOfC d_l_bases.qual d_l_bases.scope s.heap.objs.size f cdv)).units + 1 < cLine := hu_of hr
    refine ⟨_, PSs.nox (pss_cons (ps_set (i := 1) sc_l_bases.nd rfl (.inr rfl) (pe_disp (pps_cons pe_str (pe_lst (pa_cons pe_int pa_nil)) (pps_cons pe_str (pe_lst (pa_cons pe_int (pa_cons pe_int pa_nil))) (pps_cons pe_str (pe_lst (pa_cons pe_int pa_nil)) (pps_cons pe_str (pe_lst (pa_cons pe_int pa_nil)) (pps_cons pe_str (pe_lst (pa_cons pe_int (pa_cons pe_int pa_nil))) (pps_cons pe_str (pe_lst (pa_cons pe_int pa_nil)) (pps_cons pe_str (pe_lst (pa_cons pe_int (pa_cons pe_int pa_nil))) pps_nil))))))) rfl rfl (List.cons_ne_nil _ _) (by decide)))
      (pss_cons (ps_expr (pe_bm PySem.F.plainAttrs_dict PySem.F.slot_dict_update PySem.F.type_dict_update DU.mt_upd (pv 1) (pa_cons (pe_disp (pps_cons pe_str (pe_lst (pa_cons pe_int (pa_cons pe_int pa_nil))) (pps_cons pe_str (pe_lst (pa_cons pe_int pa_nil)) (pps_cons pe_str (pe_lst (pa_cons pe_int (pa_cons pe_int pa_nil))) (pps_cons pe_str (pe_lst pa_nil) (pps_cons pe_str (pe_lst pa_nil) pps_nil))))) rfl rfl (List.cons_ne_nil _ _) (by decide)) pa_nil)))
      (pss_one (ps_ret (pe_lc (own := [("_law_k", 2)]) (g := gName 2) (tt := tYes) rfl sc_l_bases.nd (pi_range1 rfl b.range (pa_cons pe_int pa_nil)) (blkOk_by (N := N_l_bases) (sc := defScope s_l_bases) (by decide +kernel))
          (fun _ _ _ _ _ => pg_name (i := 2) sc_l_bases.nd rfl (Or.inl rfl)) (fun _ _ _ _ _ => pts_nil) (fun _ _ _ _ _ => pe_cmpR (r := rIn K false) op_in_seq (pv 2) (pe_dget2 hu (pv 1) (pv 0) (pe_lst (pa_cons pe_int pa_nil)) ⟨rfl, rfl, rfl, rfl⟩) (by rfl))))))), ?_⟩
    have sm := Same.refl H
    intro p1 fp1
    have sp := same_new (o := .dK []) fp1
    have ep1 : (upd H p1 (.dK [])) p1 = some (.dK []) := upd_same
    have sm := sm.trans sp
    generalize upd H p1 (.dK []) = Jp1 at sm ep1 ⊢
    clear sp
    refine ⟨by show 1 ≤ sizeLine; decide, fun q1 g1 => ?_⟩
    have sp := same_new (o := .lst [.int 0]) g1
    have h1 : (upd Jp1 q1 (.lst [.int 0])) q1 = some (.lst [.int 0]) := upd_same
    have ep1 := sp _ _ ep1
    have sm := sm.trans sp
    generalize upd Jp1 q1 (.lst [.int 0]) = J1 at sm ep1 h1 ⊢
    clear sp
    refine ⟨by show 2 ≤ sizeLine; decide, fun q2 g2 => ?_⟩
    have sp := same_new (o := .lst [.int 1, .int 2]) g2
    have h2 : (upd J1 q2 (.lst [.int 1, .int 2])) q2 = some (.lst [.int 1, .int 2]) := upd_same
    have ep1 := sp _ _ ep1
    have h1 := sp _ _ h1
    have sm := sm.trans sp
    generalize upd J1 q2 (.lst [.int 1, .int 2]) = J2 at sm ep1 h1 h2 ⊢
    clear sp
    refine ⟨by show 1 ≤ sizeLine; decide, fun q3 g3 => ?_⟩
    have sp := same_new (o := .lst [.int 2]) g3
    have h3 : (upd J2 q3 (.lst [.int 2])) q3 = some (.lst [.int 2]) := upd_same
    have ep1 := sp _ _ ep1
    have h1 := sp _ _ h1
    have h2 := sp _ _ h2
    have sm := sm.trans sp
    generalize upd J2 q3 (.lst [.int 2]) = J3 at sm ep1 h1 h2 h3 ⊢
    clear sp
    refine ⟨by show 1 ≤ sizeLine; decide, fun q4 g4 => ?_⟩
    have sp := same_new (o := .lst [.int 2]) g4
    have h4 : (upd J3 q4 (.lst [.int 2])) q4 = some (.lst [.int 2]) := upd_same
    have ep1 := sp _ _ ep1
    have h1 := sp _ _ h1
    have h2 := sp _ _ h2
    have h3 := sp _ _ h3
    have sm := sm.trans sp
    generalize upd J3 q4 (.lst [.int 2]) = J4 at sm ep1 h1 h2 h3 h4 ⊢
    clear sp
    refine ⟨by show 2 ≤ sizeLine; decide, fun q5 g5 => ?_⟩
    have sp := same_new (o := .lst [.int 4, .int 5]) g5
    have h5 : (upd J4 q5 (.lst [.int 4, .int 5])) q5 = some (.lst [.int 4, .int 5]) := upd_same
    have ep1 := sp _ _ ep1
    have h1 := sp _ _ h1
    have h2 := sp _ _ h2
    have h3 := sp _ _ h3
    have h4 := sp _ _ h4
    have sm := sm.trans sp
    generalize upd J4 q5 (.lst [.int 4, .int 5]) = J5 at sm ep1 h1 h2 h3 h4 h5 ⊢
    clear sp
    refine ⟨by show 1 ≤ sizeLine; decide, fun q6 g6 => ?_⟩
    have sp := same_new (o := .lst [.int 5]) g6
    have h6 : (upd J5 q6 (.lst [.int 5])) q6 = some (.lst [.int 5]) := upd_same
    have ep1 := sp _ _ ep1
    have h1 := sp _ _ h1
    have h2 := sp _ _ h2
    have h3 := sp _ _ h3
    have h4 := sp _ _ h4
    have h5 := sp _ _ h5
    have sm := sm.trans sp
    generalize upd J5 q6 (.lst [.int 5]) = J6 at sm ep1 h1 h2 h3 h4 h5 h6 ⊢
    clear sp
    refine ⟨by show 2 ≤ sizeLine; decide, fun q7 g7 => ?_⟩
    have sp := same_new (o := .lst [.int 5, .int 6]) g7
    have h7 : (upd J6 q7 (.lst [.int 5, .int 6])) q7 = some (.lst [.int 5, .int 6]) := upd_same
    have ep1 := sp _ _ ep1
    have h1 := sp _ _ h1
    have h2 := sp _ _ h2
    have h3 := sp _ _ h3
    have h4 := sp _ _ h4
    have h5 := sp _ _ h5
    have h6 := sp _ _ h6
    have sm := sm.trans sp
    generalize upd J6 q7 (.lst [.int 5, .int 6]) = J7 at sm ep1 h1 h2 h3 h4 h5 h6 h7 ⊢
    clear sp
    have np1 : H p1 = none := fp1
    refine ⟨ep1, [((Sum.inr "kind" : Key), V.ref q1), ((Sum.inr "nought" : Key), V.ref q2), ((Sum.inr "share" : Key), V.ref q3), ((Sum.inr "uneven" : Key), V.ref q4), ((Sum.inr "name" : Key), V.ref q5), ((Sum.inr "day" : Key), V.ref q6), ((Sum.inr "seats" : Key), V.ref q7)], rfl, (show 7 ≤ 15 by decide), ?_⟩
    have ne1 : ∀ {b : Addr} {ys : List V}, J7 b = some (.lst ys) → b ≠ p1 := fun e z => by rw [z, ep1] at e; cases e
    have h1 : (upd J7 p1 (.dK (mergeK [] [((Sum.inr "kind" : Key), V.ref q1), ((Sum.inr "nought" : Key), V.ref q2), ((Sum.inr "share" : Key), V.ref q3), ((Sum.inr "uneven" : Key), V.ref q4), ((Sum.inr "name" : Key), V.ref q5), ((Sum.inr "day" : Key), V.ref q6), ((Sum.inr "seats" : Key), V.ref q7)]))) q1 = some (.lst [.int 0]) := by rw [upd_ne (ne1 h1)]; exact h1
    have h2 : (upd J7 p1 (.dK (mergeK [] [((Sum.inr "kind" : Key), V.ref q1), ((Sum.inr "nought" : Key), V.ref q2), ((Sum.inr "share" : Key), V.ref q3), ((Sum.inr "uneven" : Key), V.ref q4), ((Sum.inr "name" : Key), V.ref q5), ((Sum.inr "day" : Key), V.ref q6), ((Sum.inr "seats" : Key), V.ref q7)]))) q2 = some (.lst [.int 1, .int 2]) := by rw [upd_ne (ne1 h2)]; exact h2
    have h3 : (upd J7 p1 (.dK (mergeK [] [((Sum.inr "kind" : Key), V.ref q1), ((Sum.inr "nought" : Key), V.ref q2), ((Sum.inr "share" : Key), V.ref q3), ((Sum.inr "uneven" : Key), V.ref q4), ((Sum.inr "name" : Key), V.ref q5), ((Sum.inr "day" : Key), V.ref q6), ((Sum.inr "seats" : Key), V.ref q7)]))) q3 = some (.lst [.int 2]) := by rw [upd_ne (ne1 h3)]; exact h3
    have h4 : (upd J7 p1 (.dK (mergeK [] [((Sum.inr "kind" : Key), V.ref q1), ((Sum.inr "nought" : Key), V.ref q2), ((Sum.inr "share" : Key), V.ref q3), ((Sum.inr "uneven" : Key), V.ref q4), ((Sum.inr "name" : Key), V.ref q5), ((Sum.inr "day" : Key), V.ref q6), ((Sum.inr "seats" : Key), V.ref q7)]))) q4 = some (.lst [.int 2]) := by rw [upd_ne (ne1 h4)]; exact h4
    have h5 : (upd J7 p1 (.dK (mergeK [] [((Sum.inr "kind" : Key), V.ref q1), ((Sum.inr "nought" : Key), V.ref q2), ((Sum.inr "share" : Key), V.ref q3), ((Sum.inr "uneven" : Key), V.ref q4), ((Sum.inr "name" : Key), V.ref q5), ((Sum.inr "day" : Key), V.ref q6), ((Sum.inr "seats" : Key), V.ref q7)]))) q5 = some (.lst [.int 4, .int 5]) := by rw [upd_ne (ne1 h5)]; exact h5
    have h6 : (upd J7 p1 (.dK (mergeK [] [((Sum.inr "kind" : Key), V.ref q1), ((Sum.inr "nought" : Key), V.ref q2), ((Sum.inr "share" : Key), V.ref q3), ((Sum.inr "uneven" : Key), V.ref q4), ((Sum.inr "name" : Key), V.ref q5), ((Sum.inr "day" : Key), V.ref q6), ((Sum.inr "seats" : Key), V.ref q7)]))) q6 = some (.lst [.int 5]) := by rw [upd_ne (ne1 h6)]; exact h6
    have h7 : (upd J7 p1 (.dK (mergeK [] [((Sum.inr "kind" : Key), V.ref q1), ((Sum.inr "nought" : Key), V.ref q2), ((Sum.inr "share" : Key), V.ref q3), ((Sum.inr "uneven" : Key), V.ref q4), ((Sum.inr "name" : Key), V.ref q5), ((Sum.inr "day" : Key), V.ref q6), ((Sum.inr "seats" : Key), V.ref q7)]))) q7 = some (.lst [.int 5, .int 6]) := by rw [upd_ne (ne1 h7)]; exact h7
    have hp1 : (upd J7 p1 (.dK (mergeK [] [((Sum.inr "kind" : Key), V.ref q1), ((Sum.inr "nought" : Key), V.ref q2), ((Sum.inr "share" : Key), V.ref q3), ((Sum.inr "uneven" : Key), V.ref q4), ((Sum.inr "name" : Key), V.ref q5), ((Sum.inr "day" : Key), V.ref q6), ((Sum.inr "seats" : Key), V.ref q7)]))) p1 = some (.dK (mergeK [] [((Sum.inr "kind" : Key), V.ref q1), ((Sum.inr "nought" : Key), V.ref q2), ((Sum.inr "share" : Key), V.ref q3), ((Sum.inr "uneven" : Key), V.ref q4), ((Sum.inr "name" : Key), V.ref q5), ((Sum.inr "day" : Key), V.ref q6), ((Sum.inr "seats" : Key), V.ref q7)])) := upd_same
    have sm2 : Same H (upd J7 p1 (.dK (mergeK [] [((Sum.inr "kind" : Key), V.ref q1), ((Sum.inr "nought" : Key), V.ref q2), ((Sum.inr "share" : Key), V.ref q3), ((Sum.inr "uneven" : Key), V.ref q4), ((Sum.inr "name" : Key), V.ref q5), ((Sum.inr "day" : Key), V.ref q6), ((Sum.inr "seats" : Key), V.ref q7)]))) := fun b o e => by rw [upd_ne (ne_of_none e np1)]; exact sm _ _ e
    clear ne1 ep1 sm
    have sm := sm2
    clear sm2
    generalize upd J7 p1 (.dK (mergeK [] [((Sum.inr "kind" : Key), V.ref q1), ((Sum.inr "nought" : Key), V.ref q2), ((Sum.inr "share" : Key), V.ref q3), ((Sum.inr "uneven" : Key), V.ref q4), ((Sum.inr "name" : Key), V.ref q5), ((Sum.inr "day" : Key), V.ref q6), ((Sum.inr "seats" : Key), V.ref q7)])) = Ja at sm hp1 h1 h2 h3 h4 h5 h6 h7 ⊢
    have smJ := sm
    have hp1J := hp1
    refine ⟨_, rfl, .inr (.inr (.inl ⟨rfl, .inl ⟨_, hp1⟩⟩)), fun p2 fp2 => ?_⟩
    have sp := same_new (o := .dK []) fp2
    have ep2 : (upd Ja p2 (.dK [])) p2 = some (.dK []) := upd_same
    have h1 := sp _ _ h1
    have h2 := sp _ _ h2
    have h3 := sp _ _ h3
    have h4 := sp _ _ h4
    have h5 := sp _ _ h5
    have h6 := sp _ _ h6
    have h7 := sp _ _ h7
    have hp1 := sp _ _ hp1
    have sm := sm.trans sp
    generalize upd Ja p2 (.dK []) = Jp2 at sm h1 h2 h3 h4 h5 h6 h7 hp1 ep2 ⊢
    clear sp
    refine ⟨by show 2 ≤ sizeLine; decide, fun q8 g8 => ?_⟩
    have sp := same_new (o := .lst [.int 2, .int 7]) g8
    have h8 : (upd Jp2 q8 (.lst [.int 2, .int 7])) q8 = some (.lst [.int 2, .int 7]) := upd_same
    have h1 := sp _ _ h1
    have h2 := sp _ _ h2
    have h3 := sp _ _ h3
    have h4 := sp _ _ h4
    have h5 := sp _ _ h5
    have h6 := sp _ _ h6
    have h7 := sp _ _ h7
    have hp1 := sp _ _ hp1
    have ep2 := sp _ _ ep2
    have sm := sm.trans sp
    generalize upd Jp2 q8 (.lst [.int 2, .int 7]) = J8 at sm h1 h2 h3 h4 h5 h6 h7 hp1 ep2 h8 ⊢
    clear sp
    refine ⟨by show 1 ≤ sizeLine; decide, fun q9 g9 => ?_⟩
    have sp := same_new (o := .lst [.int 8]) g9
    have h9 : (upd J8 q9 (.lst [.int 8])) q9 = some (.lst [.int 8]) := upd_same
    have h1 := sp _ _ h1
    have h2 := sp _ _ h2
    have h3 := sp _ _ h3
    have h4 := sp _ _ h4
    have h5 := sp _ _ h5
    have h6 := sp _ _ h6
    have h7 := sp _ _ h7
    have hp1 := sp _ _ hp1
    have ep2 := sp _ _ ep2
    have h8 := sp _ _ h8
    have sm := sm.trans sp
    generalize upd J8 q9 (.lst [.int 8]) = J9 at sm h1 h2 h3 h4 h5 h6 h7 hp1 ep2 h8 h9 ⊢
    clear sp
    refine ⟨by show 2 ≤ sizeLine; decide, fun q10 g10 => ?_⟩
    have sp := same_new (o := .lst [.int 8, .int 9]) g10
    have h10 : (upd J9 q10 (.lst [.int 8, .int 9])) q10 = some (.lst [.int 8, .int 9]) := upd_same
    have h1 := sp _ _ h1
    have h2 := sp _ _ h2
    have h3 := sp _ _ h3
    have h4 := sp _ _ h4
    have h5 := sp _ _ h5
    have h6 := sp _ _ h6
    have h7 := sp _ _ h7
    have hp1 := sp _ _ hp1
    have ep2 := sp _ _ ep2
    have h8 := sp _ _ h8
    have h9 := sp _ _ h9
    have sm := sm.trans sp
    generalize upd J9 q10 (.lst [.int 8, .int 9]) = J10 at sm h1 h2 h3 h4 h5 h6 h7 hp1 ep2 h8 h9 h10 ⊢
    clear sp
    refine ⟨by show 0 ≤ sizeLine; decide, fun q11 g11 => ?_⟩
    have sp := same_new (o := .lst []) g11
    have h11 : (upd J10 q11 (.lst [])) q11 = some (.lst []) := upd_same
    have h1 := sp _ _ h1
    have h2 := sp _ _ h2
    have h3 := sp _ _ h3
    have h4 := sp _ _ h4
    have h5 := sp _ _ h5
    have h6 := sp _ _ h6
    have h7 := sp _ _ h7
    have hp1 := sp _ _ hp1
    have ep2 := sp _ _ ep2
    have h8 := sp _ _ h8
    have h9 := sp _ _ h9
    have h10 := sp _ _ h10
    have sm := sm.trans sp
    generalize upd J10 q11 (.lst []) = J11 at sm h1 h2 h3 h4 h5 h6 h7 hp1 ep2 h8 h9 h10 h11 ⊢
    clear sp
    refine ⟨by show 0 ≤ sizeLine; decide, fun q12 g12 => ?_⟩
    have sp := same_new (o := .lst []) g12
    have h12 : (upd J11 q12 (.lst [])) q12 = some (.lst []) := upd_same
    have h1 := sp _ _ h1
    have h2 := sp _ _ h2
    have h3 := sp _ _ h3
    have h4 := sp _ _ h4
    have h5 := sp _ _ h5
    have h6 := sp _ _ h6
    have h7 := sp _ _ h7
    have hp1 := sp _ _ hp1
    have ep2 := sp _ _ ep2
    have h8 := sp _ _ h8
    have h9 := sp _ _ h9
    have h10 := sp _ _ h10
    have h11 := sp _ _ h11
    have sm := sm.trans sp
    generalize upd J11 q12 (.lst []) = J12 at sm h1 h2 h3 h4 h5 h6 h7 hp1 ep2 h8 h9 h10 h11 h12 ⊢
    clear sp
    have n12 : p1 ≠ p2 := ne_of_none hp1J fp2
    refine ⟨ep2, [((Sum.inr "many" : Key), V.ref q8), ((Sum.inr "taken" : Key), V.ref q9), ((Sum.inr "rule" : Key), V.ref q10), ((Sum.inr "done" : Key), V.ref q11), ((Sum.inr "row" : Key), V.ref q12)], rfl, (show 5 ≤ 15 by decide), ?_⟩
    have ne1 : ∀ {b : Addr} {ys : List V}, J12 b = some (.lst ys) → b ≠ p2 := fun e z => by rw [z, ep2] at e; cases e
    have np2 : H p2 = none := smJ.free fp2
    have h1 : (upd J12 p2 (.dK (mergeK [] [((Sum.inr "many" : Key), V.ref q8), ((Sum.inr "taken" : Key), V.ref q9), ((Sum.inr "rule" : Key), V.ref q10), ((Sum.inr "done" : Key), V.ref q11), ((Sum.inr "row" : Key), V.ref q12)]))) q1 = some (.lst [.int 0]) := by rw [upd_ne (ne1 h1)]; exact h1
    have h2 : (upd J12 p2 (.dK (mergeK [] [((Sum.inr "many" : Key), V.ref q8), ((Sum.inr "taken" : Key), V.ref q9), ((Sum.inr "rule" : Key), V.ref q10), ((Sum.inr "done" : Key), V.ref q11), ((Sum.inr "row" : Key), V.ref q12)]))) q2 = some (.lst [.int 1, .int 2]) := by rw [upd_ne (ne1 h2)]; exact h2
    have h3 : (upd J12 p2 (.dK (mergeK [] [((Sum.inr "many" : Key), V.ref q8), ((Sum.inr "taken" : Key), V.ref q9), ((Sum.inr "rule" : Key), V.ref q10), ((Sum.inr "done" : Key), V.ref q11), ((Sum.inr "row" : Key), V.ref q12)]))) q3 = some (.lst [.int 2]) := by rw [upd_ne (ne1 h3)]; exact h3
    have h4 : (upd J12 p2 (.dK (mergeK [] [((Sum.inr "many" : Key), V.ref q8), ((Sum.inr "taken" : Key), V.ref q9), ((Sum.inr "rule" : Key), V.ref q10), ((Sum.inr "done" : Key), V.ref q11), ((Sum.inr "row" : Key), V.ref q12)]))) q4 = some (.lst [.int 2]) := by rw [upd_ne (ne1 h4)]; exact h4
    have h5 : (upd J12 p2 (.dK (mergeK [] [((Sum.inr "many" : Key), V.ref q8), ((Sum.inr "taken" : Key), V.ref q9), ((Sum.inr "rule" : Key), V.ref q10), ((Sum.inr "done" : Key), V.ref q11), ((Sum.inr "row" : Key), V.ref q12)]))) q5 = some (.lst [.int 4, .int 5]) := by rw [upd_ne (ne1 h5)]; exact h5
    have h6 : (upd J12 p2 (.dK (mergeK [] [((Sum.inr "many" : Key), V.ref q8), ((Sum.inr "taken" : Key), V.ref q9), ((Sum.inr "rule" : Key), V.ref q10), ((Sum.inr "done" : Key), V.ref q11), ((Sum.inr "row" : Key), V.ref q12)]))) q6 = some (.lst [.int 5]) := by rw [upd_ne (ne1 h6)]; exact h6
    have h7 : (upd J12 p2 (.dK (mergeK [] [((Sum.inr "many" : Key), V.ref q8), ((Sum.inr "taken" : Key), V.ref q9), ((Sum.inr "rule" : Key), V.ref q10), ((Sum.inr "done" : Key), V.ref q11), ((Sum.inr "row" : Key), V.ref q12)]))) q7 = some (.lst [.int 5, .int 6]) := by rw [upd_ne (ne1 h7)]; exact h7
    have hp1 := (upd_ne n12 : (upd J12 p2 (.dK (mergeK [] [((Sum.inr "many" : Key), V.ref q8), ((Sum.inr "taken" : Key), V.ref q9), ((Sum.inr "rule" : Key), V.ref q10), ((Sum.inr "done" : Key), V.ref q11), ((Sum.inr "row" : Key), V.ref q12)]))) p1 = _).trans hp1
    have h8 : (upd J12 p2 (.dK (mergeK [] [((Sum.inr "many" : Key), V.ref q8), ((Sum.inr "taken" : Key), V.ref q9), ((Sum.inr "rule" : Key), V.ref q10), ((Sum.inr "done" : Key), V.ref q11), ((Sum.inr "row" : Key), V.ref q12)]))) q8 = some (.lst [.int 2, .int 7]) := by rw [upd_ne (ne1 h8)]; exact h8
    have h9 : (upd J12 p2 (.dK (mergeK [] [((Sum.inr "many" : Key), V.ref q8), ((Sum.inr "taken" : Key), V.ref q9), ((Sum.inr "rule" : Key), V.ref q10), ((Sum.inr "done" : Key), V.ref q11), ((Sum.inr "row" : Key), V.ref q12)]))) q9 = some (.lst [.int 8]) := by rw [upd_ne (ne1 h9)]; exact h9
    have h10 : (upd J12 p2 (.dK (mergeK [] [((Sum.inr "many" : Key), V.ref q8), ((Sum.inr "taken" : Key), V.ref q9), ((Sum.inr "rule" : Key), V.ref q10), ((Sum.inr "done" : Key), V.ref q11), ((Sum.inr "row" : Key), V.ref q12)]))) q10 = some (.lst [.int 8, .int 9]) := by rw [upd_ne (ne1 h10)]; exact h10
    have h11 : (upd J12 p2 (.dK (mergeK [] [((Sum.inr "many" : Key), V.ref q8), ((Sum.inr "taken" : Key), V.ref q9), ((Sum.inr "rule" : Key), V.ref q10), ((Sum.inr "done" : Key), V.ref q11), ((Sum.inr "row" : Key), V.ref q12)]))) q11 = some (.lst []) := by rw [upd_ne (ne1 h11)]; exact h11
    have h12 : (upd J12 p2 (.dK (mergeK [] [((Sum.inr "many" : Key), V.ref q8), ((Sum.inr "taken" : Key), V.ref q9), ((Sum.inr "rule" : Key), V.ref q10), ((Sum.inr "done" : Key), V.ref q11), ((Sum.inr "row" : Key), V.ref q12)]))) q12 = some (.lst []) := by rw [upd_ne (ne1 h12)]; exact h12
    have hp2 : (upd J12 p2 (.dK (mergeK [] [((Sum.inr "many" : Key), V.ref q8), ((Sum.inr "taken" : Key), V.ref q9), ((Sum.inr "rule" : Key), V.ref q10), ((Sum.inr "done" : Key), V.ref q11), ((Sum.inr "row" : Key), V.ref q12)]))) p2 = some (.dK (mergeK [] [((Sum.inr "many" : Key), V.ref q8), ((Sum.inr "taken" : Key), V.ref q9), ((Sum.inr "rule" : Key), V.ref q10), ((Sum.inr "done" : Key), V.ref q11), ((Sum.inr "row" : Key), V.ref q12)])) := upd_same
    have sm2 : Same H (upd J12 p2 (.dK (mergeK [] [((Sum.inr "many" : Key), V.ref q8), ((Sum.inr "taken" : Key), V.ref q9), ((Sum.inr "rule" : Key), V.ref q10), ((Sum.inr "done" : Key), V.ref q11), ((Sum.inr "row" : Key), V.ref q12)]))) := fun b o e => by rw [upd_ne (ne_of_none e np2)]; exact sm _ _ e
    clear ne1 ep2 sm
    have sm := sm2
    clear sm2
    generalize upd J12 p2 (.dK (mergeK [] [((Sum.inr "many" : Key), V.ref q8), ((Sum.inr "taken" : Key), V.ref q9), ((Sum.inr "rule" : Key), V.ref q10), ((Sum.inr "done" : Key), V.ref q11), ((Sum.inr "row" : Key), V.ref q12)])) = Jb at sm hp2 h1 h2 h3 h4 h5 h6 h7 hp1 h8 h9 h10 h11 h12 ⊢
    refine ⟨p1, p2, _, _, rfl, rfl, n12, hp1, hp2, Nat.le_trans (Nat.add_le_add (DU.mergeK_len _ _) (DU.mergeK_len _ _)) (line_of (by simp)), ?_⟩
    have ne1 : ∀ {b : Addr} {ys : List V}, Jb b = some (.lst ys) → b ≠ p1 := fun e z => by rw [z, hp1] at e; cases e
    have h1 : (upd Jb p1 (.dK (mergeK (mergeK [] [((Sum.inr "kind" : Key), V.ref q1), ((Sum.inr "nought" : Key), V.ref q2), ((Sum.inr "share" : Key), V.ref q3), ((Sum.inr "uneven" : Key), V.ref q4), ((Sum.inr "name" : Key), V.ref q5), ((Sum.inr "day" : Key), V.ref q6), ((Sum.inr "seats" : Key), V.ref q7)]) (mergeK [] [((Sum.inr "many" : Key), V.ref q8), ((Sum.inr "taken" : Key), V.ref q9), ((Sum.inr "rule" : Key), V.ref q10), ((Sum.inr "done" : Key), V.ref q11), ((Sum.inr "row" : Key), V.ref q12)])))) q1 = some (.lst [.int 0]) := by rw [upd_ne (ne1 h1)]; exact h1
    have h2 : (upd Jb p1 (.dK (mergeK (mergeK [] [((Sum.inr "kind" : Key), V.ref q1), ((Sum.inr "nought" : Key), V.ref q2), ((Sum.inr "share" : Key), V.ref q3), ((Sum.inr "uneven" : Key), V.ref q4), ((Sum.inr "name" : Key), V.ref q5), ((Sum.inr "day" : Key), V.ref q6), ((Sum.inr "seats" : Key), V.ref q7)]) (mergeK [] [((Sum.inr "many" : Key), V.ref q8), ((Sum.inr "taken" : Key), V.ref q9), ((Sum.inr "rule" : Key), V.ref q10), ((Sum.inr "done" : Key), V.ref q11), ((Sum.inr "row" : Key), V.ref q12)])))) q2 = some (.lst [.int 1, .int 2]) := by rw [upd_ne (ne1 h2)]; exact h2
    have h3 : (upd Jb p1 (.dK (mergeK (mergeK [] [((Sum.inr "kind" : Key), V.ref q1), ((Sum.inr "nought" : Key), V.ref q2), ((Sum.inr "share" : Key), V.ref q3), ((Sum.inr "uneven" : Key), V.ref q4), ((Sum.inr "name" : Key), V.ref q5), ((Sum.inr "day" : Key), V.ref q6), ((Sum.inr "seats" : Key), V.ref q7)]) (mergeK [] [((Sum.inr "many" : Key), V.ref q8), ((Sum.inr "taken" : Key), V.ref q9), ((Sum.inr "rule" : Key), V.ref q10), ((Sum.inr "done" : Key), V.ref q11), ((Sum.inr "row" : Key), V.ref q12)])))) q3 = some (.lst [.int 2]) := by rw [upd_ne (ne1 h3)]; exact h3
    have h4 : (upd Jb p1 (.dK (mergeK (mergeK [] [((Sum.inr "kind" : Key), V.ref q1), ((Sum.inr "nought" : Key), V.ref q2), ((Sum.inr "share" : Key), V.ref q3), ((Sum.inr "uneven" : Key), V.ref q4), ((Sum.inr "name" : Key), V.ref q5), ((Sum.inr "day" : Key), V.ref q6), ((Sum.inr "seats" : Key), V.ref q7)]) (mergeK [] [((Sum.inr "many" : Key), V.ref q8), ((Sum.inr "taken" : Key), V.ref q9), ((Sum.inr "rule" : Key), V.ref q10), ((Sum.inr "done" : Key), V.ref q11), ((Sum.inr "row" : Key), V.ref q12)])))) q4 = some (.lst [.int 2]) := by rw [upd_ne (ne1 h4)]; exact h4
    have h5 : (upd Jb p1 (.dK (mergeK (mergeK [] [((Sum.inr "kind" : Key), V.ref q1), ((Sum.inr "nought" : Key), V.ref q2), ((Sum.inr "share" : Key), V.ref q3), ((Sum.inr "uneven" : Key), V.ref q4), ((Sum.inr "name" : Key), V.ref q5), ((Sum.inr "day" : Key), V.ref q6), ((Sum.inr "seats" : Key), V.ref q7)]) (mergeK [] [((Sum.inr "many" : Key), V.ref q8), ((Sum.inr "taken" : Key), V.ref q9), ((Sum.inr "rule" : Key), V.ref q10), ((Sum.inr "done" : Key), V.ref q11), ((Sum.inr "row" : Key), V.ref q12)])))) q5 = some (.lst [.int 4, .int 5]) := by rw [upd_ne (ne1 h5)]; exact h5
    have h6 : (upd Jb p1 (.dK (mergeK (mergeK [] [((Sum.inr "kind" : Key), V.ref q1), ((Sum.inr "nought" : Key), V.ref q2), ((Sum.inr "share" : Key), V.ref q3), ((Sum.inr "uneven" : Key), V.ref q4), ((Sum.inr "name" : Key), V.ref q5), ((Sum.inr "day" : Key), V.ref q6), ((Sum.inr "seats" : Key), V.ref q7)]) (mergeK [] [((Sum.inr "many" : Key), V.ref q8), ((Sum.inr "taken" : Key), V.ref q9), ((Sum.inr "rule" : Key), V.ref q10), ((Sum.inr "done" : Key), V.ref q11), ((Sum.inr "row" : Key), V.ref q12)])))) q6 = some (.lst [.int 5]) := by rw [upd_ne (ne1 h6)]; exact h6
    have h7 : (upd Jb p1 (.dK (mergeK (mergeK [] [((Sum.inr "kind" : Key), V.ref q1), ((Sum.inr "nought" : Key), V.ref q2), ((Sum.inr "share" : Key), V.ref q3), ((Sum.inr "uneven" : Key), V.ref q4), ((Sum.inr "name" : Key), V.ref q5), ((Sum.inr "day" : Key), V.ref q6), ((Sum.inr "seats" : Key), V.ref q7)]) (mergeK [] [((Sum.inr "many" : Key), V.ref q8), ((Sum.inr "taken" : Key), V.ref q9), ((Sum.inr "rule" : Key), V.ref q10), ((Sum.inr "done" : Key), V.ref q11), ((Sum.inr "row" : Key), V.ref q12)])))) q7 = some (.lst [.int 5, .int 6]) := by rw [upd_ne (ne1 h7)]; exact h7
    have h8 : (upd Jb p1 (.dK (mergeK (mergeK [] [((Sum.inr "kind" : Key), V.ref q1), ((Sum.inr "nought" : Key), V.ref q2), ((Sum.inr "share" : Key), V.ref q3), ((Sum.inr "uneven" : Key), V.ref q4), ((Sum.inr "name" : Key), V.ref q5), ((Sum.inr "day" : Key), V.ref q6), ((Sum.inr "seats" : Key), V.ref q7)]) (mergeK [] [((Sum.inr "many" : Key), V.ref q8), ((Sum.inr "taken" : Key), V.ref q9), ((Sum.inr "rule" : Key), V.ref q10), ((Sum.inr "done" : Key), V.ref q11), ((Sum.inr "row" : Key), V.ref q12)])))) q8 = some (.lst [.int 2, .int 7]) := by rw [upd_ne (ne1 h8)]; exact h8
    have h9 : (upd Jb p1 (.dK (mergeK (mergeK [] [((Sum.inr "kind" : Key), V.ref q1), ((Sum.inr "nought" : Key), V.ref q2), ((Sum.inr "share" : Key), V.ref q3), ((Sum.inr "uneven" : Key), V.ref q4), ((Sum.inr "name" : Key), V.ref q5), ((Sum.inr "day" : Key), V.ref q6), ((Sum.inr "seats" : Key), V.ref q7)]) (mergeK [] [((Sum.inr "many" : Key), V.ref q8), ((Sum.inr "taken" : Key), V.ref q9), ((Sum.inr "rule" : Key), V.ref q10), ((Sum.inr "done" : Key), V.ref q11), ((Sum.inr "row" : Key), V.ref q12)])))) q9 = some (.lst [.int 8]) := by rw [upd_ne (ne1 h9)]; exact h9
    have h10 : (upd Jb p1 (.dK (mergeK (mergeK [] [((Sum.inr "kind" : Key), V.ref q1), ((Sum.inr "nought" : Key), V.ref q2), ((Sum.inr "share" : Key), V.ref q3), ((Sum.inr "uneven" : Key), V.ref q4), ((Sum.inr "name" : Key), V.ref q5), ((Sum.inr "day" : Key), V.ref q6), ((Sum.inr "seats" : Key), V.ref q7)]) (mergeK [] [((Sum.inr "many" : Key), V.ref q8), ((Sum.inr "taken" : Key), V.ref q9), ((Sum.inr "rule" : Key), V.ref q10), ((Sum.inr "done" : Key), V.ref q11), ((Sum.inr "row" : Key), V.ref q12)])))) q10 = some (.lst [.int 8, .int 9]) := by rw [upd_ne (ne1 h10)]; exact h10
    have h11 : (upd Jb p1 (.dK (mergeK (mergeK [] [((Sum.inr "kind" : Key), V.ref q1), ((Sum.inr "nought" : Key), V.ref q2), ((Sum.inr "share" : Key), V.ref q3), ((Sum.inr "uneven" : Key), V.ref q4), ((Sum.inr "name" : Key), V.ref q5), ((Sum.inr "day" : Key), V.ref q6), ((Sum.inr "seats" : Key), V.ref q7)]) (mergeK [] [((Sum.inr "many" : Key), V.ref q8), ((Sum.inr "taken" : Key), V.ref q9), ((Sum.inr "rule" : Key), V.ref q10), ((Sum.inr "done" : Key), V.ref q11), ((Sum.inr "row" : Key), V.ref q12)])))) q11 = some (.lst []) := by rw [upd_ne (ne1 h11)]; exact h11
    have h12 : (upd Jb p1 (.dK (mergeK (mergeK [] [((Sum.inr "kind" : Key), V.ref q1), ((Sum.inr "nought" : Key), V.ref q2), ((Sum.inr "share" : Key), V.ref q3), ((Sum.inr "uneven" : Key), V.ref q4), ((Sum.inr "name" : Key), V.ref q5), ((Sum.inr "day" : Key), V.ref q6), ((Sum.inr "seats" : Key), V.ref q7)]) (mergeK [] [((Sum.inr "many" : Key), V.ref q8), ((Sum.inr "taken" : Key), V.ref q9), ((Sum.inr "rule" : Key), V.ref q10), ((Sum.inr "done" : Key), V.ref q11), ((Sum.inr "row" : Key), V.ref q12)])))) q12 = some (.lst []) := by rw [upd_ne (ne1 h12)]; exact h12
    have sm2 : Same H (upd Jb p1 (.dK (mergeK (mergeK [] [((Sum.inr "kind" : Key), V.ref q1), ((Sum.inr "nought" : Key), V.ref q2), ((Sum.inr "share" : Key), V.ref q3), ((Sum.inr "uneven" : Key), V.ref q4), ((Sum.inr "name" : Key), V.ref q5), ((Sum.inr "day" : Key), V.ref q6), ((Sum.inr "seats" : Key), V.ref q7)]) (mergeK [] [((Sum.inr "many" : Key), V.ref q8), ((Sum.inr "taken" : Key), V.ref q9), ((Sum.inr "rule" : Key), V.ref q10), ((Sum.inr "done" : Key), V.ref q11), ((Sum.inr "row" : Key), V.ref q12)])))) := fun b o e => by rw [upd_ne (ne_of_none e np1)]; exact sm _ _ e
    have hp1 : (upd Jb p1 (.dK (mergeK (mergeK [] [((Sum.inr "kind" : Key), V.ref q1), ((Sum.inr "nought" : Key), V.ref q2), ((Sum.inr "share" : Key), V.ref q3), ((Sum.inr "uneven" : Key), V.ref q4), ((Sum.inr "name" : Key), V.ref q5), ((Sum.inr "day" : Key), V.ref q6), ((Sum.inr "seats" : Key), V.ref q7)]) (mergeK [] [((Sum.inr "many" : Key), V.ref q8), ((Sum.inr "taken" : Key), V.ref q9), ((Sum.inr "rule" : Key), V.ref q10), ((Sum.inr "done" : Key), V.ref q11), ((Sum.inr "row" : Key), V.ref q12)])))) p1 = some (.dK (mergeK (mergeK [] [((Sum.inr "kind" : Key), V.ref q1), ((Sum.inr "nought" : Key), V.ref q2), ((Sum.inr "share" : Key), V.ref q3), ((Sum.inr "uneven" : Key), V.ref q4), ((Sum.inr "name" : Key), V.ref q5), ((Sum.inr "day" : Key), V.ref q6), ((Sum.inr "seats" : Key), V.ref q7)]) (mergeK [] [((Sum.inr "many" : Key), V.ref q8), ((Sum.inr "taken" : Key), V.ref q9), ((Sum.inr "rule" : Key), V.ref q10), ((Sum.inr "done" : Key), V.ref q11), ((Sum.inr "row" : Key), V.ref q12)]))) := upd_same
    clear ne1 hp2 sm
    generalize upd Jb p1 (.dK (mergeK (mergeK [] [((Sum.inr "kind" : Key), V.ref q1), ((Sum.inr "nought" : Key), V.ref q2), ((Sum.inr "share" : Key), V.ref q3), ((Sum.inr "uneven" : Key), V.ref q4), ((Sum.inr "name" : Key), V.ref q5), ((Sum.inr "day" : Key), V.ref q6), ((Sum.inr "seats" : Key), V.ref q7)]) (mergeK [] [((Sum.inr "many" : Key), V.ref q8), ((Sum.inr "taken" : Key), V.ref q9), ((Sum.inr "rule" : Key), V.ref q10), ((Sum.inr "done" : Key), V.ref q11), ((Sum.inr "row" : Key), V.ref q12)]))) = Jc at sm2 hp1 h1 h2 h3 h4 h5 h6 h7 h8 h9 h10 h11 h12 ⊢
    -- which list it is
    obtain ⟨qw, hqw, hv⟩ : ∃ qw, Jc qw = some (.lst (l.map V.int)) ∧ valV (mergeK (mergeK [] [((Sum.inr "kind" : Key), V.ref q1), ((Sum.inr "nought" : Key), V.ref q2), ((Sum.inr "share" : Key), V.ref q3), ((Sum.inr "uneven" : Key), V.ref q4), ((Sum.inr "name" : Key), V.ref q5), ((Sum.inr "day" : Key), V.ref q6), ((Sum.inr "seats" : Key), V.ref q7)]) (mergeK [] [((Sum.inr "many" : Key), V.ref q8), ((Sum.inr "taken" : Key), V.ref q9), ((Sum.inr "rule" : Key), V.ref q10), ((Sum.inr "done" : Key), V.ref q11), ((Sum.inr "row" : Key), V.ref q12)])) (Sum.inr wd : Key) = some (.ref qw) := by
      unfold plc at hw
      simp only [List.mem_cons, List.not_mem_nil, or_false, Prod.mk.injEq] at hw
      rcases hw with ⟨rfl, rfl⟩ | ⟨rfl, rfl⟩ | ⟨rfl, rfl⟩ | ⟨rfl, rfl⟩ | ⟨rfl, rfl⟩ | ⟨rfl, rfl⟩ | ⟨rfl, rfl⟩ | ⟨rfl, rfl⟩ | ⟨rfl, rfl⟩ | ⟨rfl, rfl⟩ | ⟨rfl, rfl⟩ | ⟨rfl, rfl⟩
      · exact ⟨q1, h1, by kernel_rfl⟩
      · exact ⟨q2, h2, by kernel_rfl⟩
      · exact ⟨q3, h3, by kernel_rfl⟩
      · exact ⟨q4, h4, by kernel_rfl⟩
      · exact ⟨q5, h5, by kernel_rfl⟩
      · exact ⟨q6, h6, by kernel_rfl⟩
      · exact ⟨q7, h7, by kernel_rfl⟩
      · exact ⟨q8, h8, by kernel_rfl⟩
      · exact ⟨q9, h9, by kernel_rfl⟩
      · exact ⟨q10, h10, by kernel_rfl⟩
      · exact ⟨q11, h11, by kernel_rfl⟩
      · exact ⟨q12, h12, by kernel_rfl⟩
    have dg : ∀ H', Same Jc H' → DGet H' p1 (.str wd) (some (.ref qw)) := fun H' s' => by
      have := DGet.k (k := Sum.inr wd) (s' _ _ hp1)
      rw [hv] at this
      exact this
    refine ⟨_, rfl, by decide, by decide, ?_⟩
    intro E1 hE1
    refine lc_range (n := 10) (fun i H' => H' E1 = some (.lst ((List.range i).map fun i => V.bl (abv l i))) ∧ Same Jc H') ⟨upd_same, same_new hE1⟩ ?_ ?_
    · rintro i H2 hi ⟨he, s2⟩
      refine ⟨rfl, ?_⟩
      refine ⟨_, rfl, _, rfl, p1, rfl, .inl ⟨_, .inl (s2 _ _ hp1)⟩, _, rfl, by show 1 ≤ sizeLine; decide, fun q fq => ?_⟩
      have sq := same_new (o := .lst [.int 3]) fq
      have s3 := s2.trans sq
      have fl : (l.map V.int).all flatV = true := by
        rw [List.all_eq_true]
        intro x hx
        obtain ⟨y, _, rfl⟩ := List.mem_map.mp hx
        rfl
      refine ⟨some (.ref qw), dg _ s3, qw, _, rfl, .inl (SqL.of (s3 _ _ hqw)), rfl, fl, ?_⟩
      have he3 := sq _ _ he
      refine ⟨_, he3, by rw [List.length_map, List.length_range]; exact line_lt (by omega), ?_, fun b o e => ?_⟩
      · rw [upd_same, List.range_succ, List.map_append]
        simp only [Bool.false_eq_true, if_false]
        unfold abv
        rw [show (0 : Int) + (i : Nat) = (i : Int) by omega]
        rfl
      · rw [upd_ne (ne_of_none e hE1)]
        exact s3 _ _ e
    · rintro H2 ⟨he, s2⟩
      exact hQ E1 H2 (sm2.trans s2) (sm2.free hE1) he
end
end K48
set_option Elab.async false
set_option linter.all false
set_option maxRecDepth 100000
set_option maxHeartbeats 4000000
/-! a call that may raise, of a def with defaults, within a try -/
namespace CSD
open PySem PySem.Spec PyProof.Rows L2
section
variable {X : Cx} {CX : CXT} {k : Nat} {f : Addr} {fd : FuncData} {ps : List Str} {ds : List Value} {dvs : List V} {sp : Sp} {E : L2.St → XK} {x : Str} {p pos : Pos} {e : Expr} {es : List Expr} {t : TA}
theorem pe_callSD (F : FnOk X.prog X.w X.K X.mg X.base CX k f fd ps sp) (hr : Room k X.A) (hg : Gl X x) (hm : X.mg x = some (.ref f)) (hk : PySem.W.keepIn X.K (.ref f) = true) (hb : Binds X.K fd ps ds) (hd : Vals dvs ds) (hx : ∀ σ, PassesAt CX X σ (E σ)) (ha : PA X (e :: es) t)
    (hdb : (x == ("__debug__" : Str)) = false := by decide) (he : starEach (e :: es) X.env = (false, eval e X.env) :: starEach es X.env := by rfl) (hpl : (backTo pos (starEach es X.env)).any (·.1) = false := by rfl) :
    PE X (.Call (.Name x p) (e :: es) [] pos) (fun σ H Q => t σ H fun vs H1 => sp (vs ++ dvs) H1 Q (E σ)) := by
  refine ⟨fun pins s σ H Q I h => wpAny_Call_Name_kw (ld_glob I hg hm (PySem.W.callWith_K (h₀ := X.base) I.ok.mod.kin hk (thn (ha.run pos pins s σ H _ I h) fun us s1 ⟨vs, H1, I1, r, q⟩ => ⟨I1.kIn, ?_⟩) he hpl) hdb)⟩
  have r2 := r.append hd
  refine wpAny_call (codeAny_mono (F.run X.A X.stack s1 H1 ⟨us, []⟩ (us ++ ds) (vs ++ dvs) Q (E σ) hr I1.env0 (hb s1 us I1.kIn (r2.length.symm.trans (F.len _ _ _ _ q))) r2 q) fun r s' hq => ?_)
  match r, hq with
  | .error er, hq => exact hx σ pins H1 s1 er s' I1 hq
  | .ok (.ret u), hq => exact I1.after hq
  | .ok .next, hq => exact hq.elim
  | .ok .brk, hq => exact hq.elim
  | .ok .cont, hq => exact hq.elim
end
end CSD
set_option Elab.async false
set_option linter.all false
set_option maxRecDepth 100000
set_option maxHeartbeats 4000000
namespace K48
open PySem PySem.Spec PyProof.Rows L2
open C8 (Cal Mak Met pe_c pe_mk pe_mt pe_mt0)
open EXV (Xc)
open EXW (Dct)
open KM (pr Sz)
abbrev aeT : List Value := [.type "ArithmeticError", .type "Exception", .type "BaseException", .type "object"]
/-- what is known of Uneven -/
structure Ku (K : PySem.W.Frag) (mg : Str → Option Value) (N fN : Addr) : Prop where
  gx : GX.Gx K N aeT "ArithmeticError.__new__"
  iC : PySem.W.findIn K (.ref N) "__init__" = some (some (.ref fN))
  tI : PySem.W.typeIn K (.ref fN) = some (.type "function")
  vV : PySem.W.findCls K (.type "ArithmeticError") (.type "type") "__init__" = some (.val (.builtin "ArithmeticError.__init__"))
  no : PySem.W.findIn K (.ref N) "rest" = some none
  g : mg "Uneven" = some (.ref N)
  zb : mg "ArithmeticError" = none
  xf : XfC K N
  te : PySem.W.exmOne K (.ref N) (.ref N) = some true
theorem typAe : typeOf (.type "ArithmeticError") = pure (.type "type") := by kernel_rfl
section
variable {P : Program} {w : World} {K : PySem.W.Frag} {mg : Str → Option Value} {base : Heap} {f C N fN : Addr} {fd fdN : FuncData}
def spUI (N : Addr) : Sp := fun vs H Q _ => ∃ (a : Addr) (v : V), vs = [.ref a, v] ∧ H a = some (exo a N none) ∧ ∀ dx, H dx = none → dx ≠ a → Q .non (upd (upd H dx (exd dx [("rest", v)])) a (exo a N (some dx)))
theorem ok_UI (F : Dn K d_Uneven_init f fd) (T : Ku K mg N fN) : FnOk P w K mg base CX0 1 f fd ["self", "rest"] (spUI N) := by
  refine F.ok sc_Uneven_init (fun vs H Q E h => ?_) (fun cdv A outer s H vs Q E hr h => ?_)
  · obtain ⟨a, v, rfl, _⟩ := h
    rfl
  · obtain ⟨a, v, rfl, ha, hQ⟩ := h
    refine ⟨_, PSs.nox (pss_cons (ps_expr (GX.pe_bi PySem.F.excBase_ArithmeticError rfl T.zb PyProof.Rows.Boot.«ArithmeticError» typAe T.vV (by decide +kernel) (by decide +kernel) (pa_cons (pv 0) (pa_cons pe_str pa_nil))))
      (pss_one (GX.ps_pf PySem.F.store_ArithmeticError (nid := "ArithmeticError.__new__") (pv 0) (pv 1)))), ?_⟩
    refine ⟨_, rfl, a, N, _, rfl, by show 1 ≤ 1000; decide, T.gx, ha, ?_⟩
    exact ⟨_, rfl, _, rfl, a, N, rfl, T.gx, T.no, ha, hQ⟩
/-- credits that are not nought together: refused, of what they are together -/
def spUX (C N : Addr) (n : Nat) : Sp := fun vs H _ E => ∃ (d : Addr) (ws : List V) (L : List Str) (c : Str → Rat), vs = .ref d :: ws ∧ ws.length = n ∧ SDc C H d L c ∧ L.length ≤ 20 ∧ (∀ x ∈ L, Sz 150 (c x)) ∧ sumR (L.map c) ≠ 0 ∧
  ∀ x t H', Same H H' → H x = none → H' x = some (.xd [("rest", .ref t)]) → Sh C H' t (pr (sumR (L.map c))) → E (.ref N) (some x) H'
theorem ok_ceX (F : Dn K d_check_even f fd) (bl : Bl mg) (T : Cl K mg C) (TU : Ku K mg N fN) (FN : FnOk P w K mg base CX0 1 fN fdN ["self", "rest"] (spUI N)) (bN : Binds K fdN ["self", "rest"] []) (cT : Cal P w K mg base 5 "total" (spTotal K C) [.int 0]) : FnOk P w K mg base (L2.CX P w) 6 f fd ["standing"] (spUX C N 0) := by
  refine F.ok sc_check_even (fun vs H Q E h => ?_) (fun cdv A outer s H vs Q E hr h => ?_)
  · obtain ⟨_, ws, _, _, rfl, hw, _⟩ := h
    rw [List.length_cons, hw]
    rfl
  · obtain ⟨d, ws, L, c, rfl, hw, ⟨ad, hd, hv⟩, ll, hz, h0, hE⟩ := h
    obtain rfl := List.length_eq_zero_iff.mp hw
    refine ⟨_, pss_cons (ps_set (i := 1) sc_check_even.nd rfl (.inl rfl) (pe_c cT hr (by decide) rfl (pa_cons (VL.pe_listVals rfl rfl bl.list (pv 0)) pa_nil)))
      (pss_one (ps_if (pt_cmpR op_ne (pe_fld (pv 1) rfl) pe_int (nomark _)) (pss_one (ps_raise rfl (takes_of rfl rfl rfl rfl) (GX.pmk_gx PySem.F.excBase_ArithmeticError TU.gx TU.iC TU.tI FN (hr.mono (by decide)) bN .nil pass0 rfl TU.g (pa_cons (pv 1) pa_nil)))) pss_nil)), ?_⟩
    refine ⟨_, rfl, d, _, rfl, hd, fun l fl => ?_⟩
    have sl := same_new (o := .lst ((L.map fun x => ((Sum.inr x : Key), V.ref (ad x))).map (·.2))) fl
    have el : ((L.map fun x => ((Sum.inr x : Key), V.ref (ad x))).map (·.2)) = (L.map fun x => (ad x, c x)).map fun y => V.ref y.1 := by rw [List.map_map, List.map_map]; rfl
    refine ⟨l, L.map fun x => (ad x, c x), 150, rfl, ⟨by rw [← el]; exact SqL.of upd_same, fun y hy => ?_⟩, fun y hy => ?_, by rw [List.length_map]; omega, by decide, fun t H2 s2 ft ht => ?_⟩
    · obtain ⟨x, hx, rfl⟩ := List.mem_map.mp hy
      exact (hv x hx).keep sl
    · obtain ⟨x, hx, rfl⟩ := List.mem_map.mp hy
      exact hz x hx
    · have e : ratsOf (L.map fun x => (ad x, c x)) = L.map c := by unfold ratsOf; rw [List.map_map]; rfl
      rw [e] at ht
      obtain ⟨dt, ht⟩ := ht
      refine ⟨_, rfl, t, C, dt, _, _, rfl, ht, T.cl, T.nt, shF_top _, rfl, _, rfl, ?_⟩
      have e0 : (!decide (V.int (pr (sumR (L.map c))).1 = V.int 0)) = true := by
        have : ¬ (V.int (pr (sumR (L.map c))).1 = V.int 0) := fun z => h0 (num0.mp (V.int.inj z))
        simp [this]
      rw [e0]
      refine iteT ?_
      have sH := sl.trans s2
      refine ⟨_, rfl, by show 1 ≤ 1000; decide, fun a ha => ⟨a, _, rfl, upd_same, fun x hx ne => ⟨rfl, x, _, upd_same, (by rw [upd_ne ne]; exact upd_same), ?_, ?_⟩⟩⟩
      · rw [upd_ne ne] at hx
        exact hx
      · have hx0 : H2 x = none := by
          rw [upd_ne ne] at hx
          exact hx
        have kp : ∀ b o, H2 b = some o → (upd (del (upd (upd (upd H2 a (exo a N none)) x (exd x [("rest", .ref t)])) a (exo a N (some x))) a) x (.xd [("rest", .ref t)])) b = some o := fun b o e => by
          have b1 : b ≠ x := ne_of_none e hx0
          have b2 : b ≠ a := ne_of_none e ha
          rw [upd_ne b1, del_ne b2, upd_ne b2, upd_ne b1, upd_ne b2]
          exact e
        exact hE x t _ (fun b o e => kp b o (sH b o e)) (sH.free hx0) upd_same ⟨dt, kp _ _ ht⟩
section
variable {fE : Addr} {fdE : FuncData}
theorem ok_waX (F : Dn K d_wanted f fd) (gE : mg "check_even" = some (.ref fE)) (kE : PySem.W.keepIn K (.ref fE) = true) (FE : FnOk P w K mg base (L2.CX P w) 6 fE fdE ["standing"] (spUX C N 0)) (bE : Binds K fdE ["standing"] []) :
    FnOk P w K mg base (L2.CX P w) 7 f fd ["standing", "days"] (spUX C N 1) := by
  refine F.ok sc_wanted (fun vs H Q E h => ?_) (fun cdv A outer s H vs Q E hr h => ?_)
  · obtain ⟨_, ws, _, _, rfl, hw, _⟩ := h
    rw [List.length_cons, hw]
    rfl
  · obtain ⟨d, ws, L, c, rfl, hw, hS, ll, hz, h0, hE⟩ := h
    obtain ⟨v, rfl⟩ := List.length_eq_one_iff.mp hw
    refine ⟨_, pss_cons (ps_expr (pe_callS (E := fun σ cls d H => E cls d H) FE (hr.mono (by decide)) rfl gE kE bE (fun σ => passAt (takes_of rfl rfl rfl rfl) σ) (pa_cons (pv 0) pa_nil))) pss_never, ?_⟩
    exact ⟨_, rfl, d, [], L, c, rfl, rfl, hS, ll, hz, h0, hE⟩
theorem ok_soX (F : Dn K d_soonest f fd) (gE : mg "check_even" = some (.ref fE)) (kE : PySem.W.keepIn K (.ref fE) = true) (FE : FnOk P w K mg base (L2.CX P w) 6 fE fdE ["standing"] (spUX C N 0)) (bE : Binds K fdE ["standing"] []) :
    FnOk P w K mg base (L2.CX P w) 7 f fd ["standing", "days", "slack"] (spUX C N 2) := by
  refine F.ok sc_soonest (fun vs H Q E h => ?_) (fun cdv A outer s H vs Q E hr h => ?_)
  · obtain ⟨_, ws, _, _, rfl, hw, _⟩ := h
    rw [List.length_cons, hw]
    rfl
  · obtain ⟨d, ws, L, c, rfl, hw, hS, ll, hz, h0, hE⟩ := h
    match ws, hw with
    | [u, v], _ =>
      refine ⟨_, pss_cons (ps_expr (pe_callS (E := fun σ cls d H => E cls d H) FE (hr.mono (by decide)) rfl gE kE bE (fun σ => passAt (takes_of rfl rfl rfl rfl) σ) (pa_cons (pv 0) pa_nil))) pss_never, ?_⟩
      exact ⟨_, rfl, d, [], L, c, rfl, rfl, hS, ll, hz, h0, hE⟩
theorem ok_seX (F : Dn K d_search f fd) (gE : mg "wanted" = some (.ref fE)) (kE : PySem.W.keepIn K (.ref fE) = true) (FE : FnOk P w K mg base (L2.CX P w) 7 fE fdE ["standing", "days"] (spUX C N 1)) (bE : Binds K fdE ["standing", "days"] []) :
    FnOk P w K mg base (L2.CX P w) 8 f fd ["standing", "days", "slack"] (spUX C N 2) := by
  refine F.ok sc_search (fun vs H Q E h => ?_) (fun cdv A outer s H vs Q E hr h => ?_)
  · obtain ⟨_, ws, _, _, rfl, hw, _⟩ := h
    rw [List.length_cons, hw]
    rfl
  · obtain ⟨d, ws, L, c, rfl, hw, hS, ll, hz, h0, hE⟩ := h
    match ws, hw with
    | [u, v], _ =>
      refine ⟨_, pss_cons (ps_set (i := 3) sc_search.nd rfl (.inr rfl) (pe_callS (E := fun σ cls d H => E cls d H) FE (hr.mono (by decide)) rfl gE kE bE (fun σ => passAt (takes_of rfl rfl rfl rfl) σ) (pa_cons (pv 0) (pa_cons (pv 1) pa_nil)))) pss_never, ?_⟩
      exact ⟨_, rfl, _, rfl, d, [u], L, c, rfl, rfl, hS, ll, hz, h0, hE⟩
theorem ok_shX (F : Dn K d_shows_uneven f fd) (gE : mg "wanted" = some (.ref fE)) (kE : PySem.W.keepIn K (.ref fE) = true) (FE : FnOk P w K mg base (L2.CX P w) 7 fE fdE ["standing", "days"] (spUX C N 1)) (bE : Binds K fdE ["standing", "days"] []) :
    FnOk P w K mg base (L2.CX P w) 8 f fd ["standing", "days", "thing", "slack"] (spUX C N 3) := by
  refine F.ok sc_shows_uneven (fun vs H Q E h => ?_) (fun cdv A outer s H vs Q E hr h => ?_)
  · obtain ⟨_, ws, _, _, rfl, hw, _⟩ := h
    rw [List.length_cons, hw]
    rfl
  · obtain ⟨d, ws, L, c, rfl, hw, hS, ll, hz, h0, hE⟩ := h
    match ws, hw with
    | [u, v, y], _ =>
      refine ⟨_, pss_cons (ps_set (i := 4) sc_shows_uneven.nd rfl (.inl rfl) (pe_callS (E := fun σ cls d H => E cls d H) FE (hr.mono (by decide)) rfl gE kE bE (fun σ => passAt (takes_of rfl rfl rfl rfl) σ) (pa_cons (pv 0) (pa_cons (pv 1) pa_nil)))) pss_never, ?_⟩
      exact ⟨_, rfl, _, rfl, d, [u], L, c, rfl, rfl, hS, ll, hz, h0, hE⟩
theorem ok_evX (F : Dn K d_evened f fd) (gE : mg "search" = some (.ref fE)) (kE : PySem.W.keepIn K (.ref fE) = true) (FE : FnOk P w K mg base (L2.CX P w) 8 fE fdE ["standing", "days", "slack"] (spUX C N 2)) (bE : Binds K fdE ["standing", "days", "slack"] []) :
    FnOk P w K mg base (L2.CX P w) 9 f fd ["standing", "days", "slack"] (spUX C N 2) := by
  refine F.ok sc_evened (fun vs H Q E h => ?_) (fun cdv A outer s H vs Q E hr h => ?_)
  · obtain ⟨_, ws, _, _, rfl, hw, _⟩ := h
    rw [List.length_cons, hw]
    rfl
  · obtain ⟨d, ws, L, c, rfl, hw, hS, ll, hz, h0, hE⟩ := h
    match ws, hw with
    | [u, v], _ =>
      refine ⟨_, pss_cons (ps_asg (pe_callS (E := fun σ cls d H => E cls d H) FE (hr.mono (by decide)) rfl gE kE bE (fun σ => passAt (takes_of rfl rfl rfl rfl) σ) (pa_cons (pv 0) (pa_cons (pv 1) (pa_cons (pv 2) pa_nil)))) (pg_tup rfl (pgs_cons (pg_name (i := 3) sc_evened.nd rfl (.inl rfl)) (pgs_cons (pg_name (i := 4) sc_evened.nd rfl (.inl rfl)) pgs_nil)))) pss_never, ?_⟩
      exact ⟨_, rfl, _, rfl, _, rfl, d, [u, v], L, c, rfl, rfl, hS, ll, hz, h0, hE⟩
theorem ok_wyX (F : Dn K d_why_uneven f fd) (gE : mg "search" = some (.ref fE)) (kE : PySem.W.keepIn K (.ref fE) = true) (FE : FnOk P w K mg base (L2.CX P w) 8 fE fdE ["standing", "days", "slack"] (spUX C N 2)) (bE : Binds K fdE ["standing", "days", "slack"] []) :
    FnOk P w K mg base (L2.CX P w) 9 f fd ["standing", "days", "slack"] (spUX C N 2) := by
  refine F.ok sc_why_uneven (fun vs H Q E h => ?_) (fun cdv A outer s H vs Q E hr h => ?_)
  · obtain ⟨_, ws, _, _, rfl, hw, _⟩ := h
    rw [List.length_cons, hw]
    rfl
  · obtain ⟨d, ws, L, c, rfl, hw, hS, ll, hz, h0, hE⟩ := h
    match ws, hw with
    | [u, v], _ =>
      refine ⟨_, pss_cons (ps_asg (pe_callS (E := fun σ cls d H => E cls d H) FE (hr.mono (by decide)) rfl gE kE bE (fun σ => passAt (takes_of rfl rfl rfl rfl) σ) (pa_cons (pv 0) (pa_cons (pv 1) (pa_cons (pv 2) pa_nil)))) (pg_tup rfl (pgs_cons (pg_name (i := 3) sc_why_uneven.nd rfl (.inl rfl)) (pgs_cons (pg_name (i := 4) sc_why_uneven.nd rfl (.inl rfl)) pgs_nil)))) pss_never, ?_⟩
      exact ⟨_, rfl, _, rfl, _, rfl, d, [u, v], L, c, rfl, rfl, hS, ll, hz, h0, hE⟩
end
end
end K48
set_option Elab.async false
set_option linter.all false
set_option maxRecDepth 100000
set_option maxHeartbeats 4000000
namespace K48
open PySem PySem.Spec PyProof.Rows L2
open C8 (Cal Mak Met pe_c pe_mk pe_mt pe_mt0)
open KM (pr Sz)
/-- a day that comes: where it stands, who rides, who is able to drive -/
structure Dy where
  a : Addr
  ra : Addr
  ba : Addr
  R : List Str
  B : List Str
structure DyOk (H : Hp) (d : Dy) : Prop where
  t : H d.a = some (.tup [.ref d.ra, .ref d.ba])
  r : H d.ra = some (.tup (d.R.map V.str))
  b : H d.ba = some (.tup (d.B.map V.str))
  nd : d.R.Nodup
  ne : d.R ≠ []
  l12 : d.R.length ≤ 12
  lb : d.B.length ≤ 12
theorem DyOk.same {H H' : Hp} {d : Dy} (h : DyOk H d) (s : Same H H') : DyOk H' d := ⟨s _ _ h.t, s _ _ h.r, s _ _ h.b, h.nd, h.ne, h.l12, h.lb⟩
def DyL (H : Hp) (l : Addr) (ds : List Dy) : Prop := H l = some (.lst (ds.map fun d => V.ref d.a)) ∧ ∀ d ∈ ds, DyOk H d
theorem DyL.same {H H' : Hp} {l : Addr} {ds : List Dy} (h : DyL H l ds) (s : Same H H') : DyL H' l ds := ⟨s _ _ h.1, fun d hd => (h.2 d hd).same s⟩
/-- a part of a day -/
def prt (R : List Str) : Rat := Rat.divInt 1 (R.length : Nat)
/-- the puts of the days -/
def fr (ds : List Dy) : List (Str × Rat) := ds.flatMap fun d => d.R.map fun x => (x, prt d.R)
theorem fr_len {ds : List Dy} (h : ∀ d ∈ ds, d.R.length ≤ 12) : (fr ds).length ≤ 12 * ds.length := by
  induction ds with
  | nil => exact Nat.le_refl _
  | cons d ds ih =>
    have h1 := h d List.mem_cons_self
    have h2 := ih fun e he => h e (List.mem_cons_of_mem _ he)
    unfold fr at h2 ⊢
    rw [List.flatMap_cons, List.length_append, List.length_map, List.length_cons]
    omega
theorem sz_prt {R : List Str} (ne : R ≠ []) (l : R.length ≤ 12) : Sz 4 (prt R) := by
  have p := List.length_pos_iff.mpr ne
  have e : (2 : Nat) ^ 4 = 16 := by decide
  exact KM.sz_of_low (by omega) (by rw [e]; decide) (by rw [e, Int.natAbs_natCast]; omega)
theorem fr_sz {ds : List Dy} (h : ∀ d ∈ ds, d.R ≠ [] ∧ d.R.length ≤ 12) : ∀ p ∈ fr ds, Sz 4 p.2 := fun p hp => by
  obtain ⟨d, hd, h2⟩ := List.mem_flatMap.mp hp
  obtain ⟨x, hx, rfl⟩ := List.mem_map.mp h2
  exact sz_prt (h d hd).1 (h d hd).2
/-- what is wanted, as data -/
def wnt (ds : List Dy) (L : List Str) (c : Str → Rat) : List Str × (Str → Rat) := mvL (mvL ([], fun _ => 0) (fr ds)) (L.map fun x => (x, -(c x)))
section
variable {P : Program} {w : World} {K : PySem.W.Frag} {mg : Str → Option Value} {base : Heap} {f C N fN : Addr} {fd fdN : FuncData}
def spWa (C : Addr) : Sp := fun vs H Q _ => ∃ (d l : Addr) (L : List Str) (c : Str → Rat) (ds : List Dy), vs = [.ref d, .ref l] ∧ SDc C H d L c ∧ L.Nodup ∧ L.length ≤ 20 ∧ (∀ x ∈ L, Sz 100 (c x)) ∧ sumR (L.map c) = 0 ∧ DyL H l ds ∧ ds.length ≤ 30 ∧
  ∀ D H', Same H H' → H D = none → SDc C H' D (wnt ds L c).1 (wnt ds L c).2 → Q (.ref D) H'
theorem ok_wa (F : Dn K d_wanted f fd) (b : Bl mg) (MS : MakS P w K mg base C) (cE : Cal P w K mg base 6 "check_even" (spCE C) []) (cJ : Cal P w K mg base 5 "joined" (spJo C) []) (cT : Cal P w K mg base 5 "turned" (spTu C) []) :
    FnOk P w K mg base CX0 7 f fd ["standing", "days"] (spWa C) := by
  refine F.ok sc_wanted (fun vs H Q E h => ?_) (fun cdv A outer s H vs Q E hr h => ?_)
  · obtain ⟨_, _, _, _, _, rfl, _⟩ := h
    rfl
  · obtain ⟨d, l, L, c, ds, rfl, hS, nd, ll, hz, h0, hD, dl, hQ⟩ := h
    refine ⟨_, PSs.nox (pss_cons (ps_expr (pe_c cE hr (by decide) rfl (pa_cons (pv 0) pa_nil)))
      (pss_cons (ps_set (i := 2) sc_wanted.nd rfl (.inl rfl) (pe_c cJ hr (by decide) rfl (pa_cons pe_dnewK (pa_cons
        (pe_lc (own := [("riders", 3), ("able", 4)]) (g := gTup K 2 (gCons (gName 3) (gCons (gName 4) gNil))) (tt := tYes)
          (te := tDc (iTup K (tVar 3)) (gName 5) tYes (tVar 5) (tMake C (spInit C) [] C8.E0 (tCons (tC (.int 1)) (tCons (tCB (TI.rLen K) (tCons (tVar 3) tNil)) tNil))) [5])
          rfl sc_wanted.nd (pi_list (pv 1)) (blkOk_by (N := N_wanted) (sc := defScope s_wanted) (by decide +kernel))
          (fun _ _ _ _ _ => pg_tup rfl (pgs_cons (pg_name (i := 3) sc_wanted.nd rfl (.inr rfl)) (pgs_cons (pg_name (i := 4) sc_wanted.nd rfl (.inl rfl)) pgs_nil))) (fun _ _ _ _ _ => pts_nil)
          (fun _ _ _ _ _ => pe_dc (own := [("name", 5)]) (g := gName 5) (tt := tYes) rfl sc_wanted.nd (pi_tup (pv 3)) (blkOk_by (N := N_wanted) (sc := { kind := .function, names := [((".0" : Str), .local), ("riders", .cell), ("able", .local)], isGenerator := false, isCoroutine := false }) (by decide +kernel))
            (fun _ _ _ _ _ => pg_name (i := 5) sc_wanted.nd rfl (.inl rfl)) (fun _ _ _ _ _ => pts_nil) (fun _ _ _ _ _ => pv 5)
            (fun _ _ _ _ _ => pe_mk MS hr (by decide) rfl (pa_cons pe_int (pa_cons (pe_callB TI.call_lenK rfl b.len boot_len (pa_cons (pv 3) pa_nil)) pa_nil)))))
        pa_nil))))
      (pss_one (ps_ret (pe_c cJ hr (by decide) rfl (pa_cons (pv 2) (pa_cons (pe_lst (pa_cons (pe_c cT hr (by decide) rfl (pa_cons (pv 0) pa_nil)) pa_nil)) pa_nil))))))), ?_⟩
    have Sz20 : ∀ x ∈ L, Sz 150 (c x) := fun x hx => (hz x hx).mono (by decide)
    refine ⟨_, rfl, d, L, c, rfl, hS, ll, Sz20, h0, fun H1 s1 => ?_⟩
    have hD1 := hD.same s1
    intro e0 he0
    have se0 := same_new (o := .dK []) he0
    have hD2 := hD1.same se0
    have s2 := s1.trans se0
    have S0 : SDc C (upd H1 e0 (.dK [])) e0 [] (fun _ => 0) := ⟨fun _ => 0, upd_same, fun x hx => nomatch hx⟩
    generalize upd H1 e0 (.dK []) = H2 at hD2 s2 S0
    refine ⟨_, rfl, l, rfl, ⟨_, SqL.of hD2.1⟩, fun O hO => lc_list (K := K) (xs := ds.map fun d => V.ref d.a) (fun i H' => ∃ ms : List (Addr × List Str × (Str → Rat)), H' O = some (.lst (ms.map fun m => V.ref m.1)) ∧ (∀ m ∈ ms, SDc C H' m.1 m.2.1 m.2.2) ∧ puts ms = fr (ds.take i) ∧ ms.length = i ∧ Same H2 H')
      ⟨[], upd_same, fun m h => (nomatch h), rfl, rfl, same_new hO⟩ (fun i H' _ z => by obtain ⟨_, _, _, _, _, z⟩ := z; exact SqL.of (z _ _ hD2.1)) ?_ ?_⟩
    · rintro i v H3 hi ⟨ms, hO3, hms, ep, el, s3⟩
      rw [List.getElem?_map] at hi
      obtain ⟨y, hy, rfl⟩ := Option.map_eq_some_iff.mp hi
      have hym := List.mem_of_getElem? hy
      have il := (List.getElem?_eq_some_iff.mp hy).1
      have oy := (hD2.2 y hym).same s3
      have yp := List.length_pos_iff.mpr oy.ne
      refine ⟨y.a, _, rfl, SqT.of oy.t, rfl, _, _, rfl, _, _, rfl, rfl, rfl, ?_⟩
      refine ⟨_, rfl, y.ra, rfl, ⟨_, SqT.of oy.r⟩, fun D hDn => dc_tup (K := K) (xs := y.R.map V.str) (fun j H' => SDc C H' D (y.R.take j) (fun _ => prt y.R) ∧ Same H3 H') ⟨⟨fun _ => 0, upd_same, fun x hx => by simp at hx⟩, same_new hDn⟩ (fun j H' _ z => SqT.of (z.2 _ _ oy.r)) ?_ ?_⟩
      · rintro j v H4 hj ⟨⟨a4, hD4, hv4⟩, s4⟩
        rw [List.getElem?_map] at hj
        obtain ⟨z, hz0, rfl⟩ := Option.map_eq_some_iff.mp hj
        refine ⟨rfl, _, rfl, ?_⟩
        refine ⟨_, rfl, y.ra, _, rfl, .inr (SqT.of (s4 _ _ oy.r)), ?_⟩
        intro t dt nt ndt ne
        have lm : ((y.R.map V.str).length) = y.R.length := List.length_map _
        have e16 : (2 : Nat) ^ 4 = 16 := by decide
        have l12 := oy.l12
        refine mk_in (n := 4) (t := 1) (b := (((y.R.map V.str).length : Nat) : Int)) nt ndt (by rw [lm]; omega) (by rw [e16, lm, Int.natAbs_natCast]; omega) (by decide) (by decide) fun H5 s5 ht => ⟨rfl, ?_⟩
        rw [lm] at ht
        have hD5 := s5 _ _ hD4
        refine ⟨_, Sum.inr z, rfl, hD5, by rw [List.length_map, List.length_take]; exact line_lt (by have := oy.l12; omega), SDc.more (c := fun _ => prt y.R) oy.nd hz0 hD5 (fun x hx => (hv4 x hx).keep s5) ht, fun b o e => ?_⟩
        rw [upd_ne (ne_of_none e hDn)]
        exact s5 _ _ (s4 _ _ e)
      rintro H4 ⟨S4, s4⟩
      rw [List.length_map, List.take_length] at S4
      have hO4 := s4 _ _ hO3
      refine ⟨_, hO4, by rw [List.length_map, el]; exact line_lt (by omega), ms ++ [(D, y.R, fun _ => prt y.R)], ?_, fun m hm => ?_, ?_, by rw [List.length_append, el]; rfl, fun b o e => ?_⟩
      · rw [upd_same, List.map_append]
        rfl
      · rcases List.mem_append.mp hm with hm | hm
        · exact ((hms m hm).same s4).un hO4
        · rw [List.mem_singleton.mp hm]
          exact S4.un hO4
      · rw [puts_app, ep, puts_one, take_one hy]
        unfold fr
        rw [List.flatMap_append]
        simp
      · rw [upd_ne (ne_of_none e hO)]
        exact s4 _ _ (s3 _ _ e)
    rintro H3 ⟨ms, hO3, hms, ep, el, s3⟩
    rw [List.length_map, List.take_length] at ep
    have fl := fr_len fun y hy => (hD.2 y hy).l12
    have fz := fr_sz fun y hy => ⟨(hD.2 y hy).ne, (hD.2 y hy).l12⟩
    refine ⟨e0, O, [], fun _ => 0, ms, 1, 4, rfl, S0.same s3, List.nodup_nil, ⟨hO3, hms⟩, fun x hx => (nomatch hx), by decide, by rw [ep]; exact fz, by rw [ep]; omega, by decide, by rw [ep]; show 0 + _ ≤ _; omega, fun D1 H4 s4 f4 S1 => ?_⟩
    rw [ep] at S1
    have g0 : ∀ x, Sz 1 (get0 [] (fun _ => (0 : Rat)) x) := fun x => sz0 (by decide)
    have gz := mvL_sz (fr ds) ([], fun _ => 0) 1 g0 fz
    have nd1 : (mvL ([], fun _ => 0) (fr ds)).1.Nodup := mvL_nd _ _ List.nodup_nil
    have l1 : (mvL ([], fun _ => 0) (fr ds)).1.length ≤ 0 + (fr ds).length := mvL_len _ _
    have s24 := s3.trans s4
    have s04 := s2.trans s24
    refine ⟨_, rfl, _, rfl, d, L, c, rfl, hS.same s04, nd, by omega, fun x hx => (hz x hx).mono (by decide), fun D2 H5 s5 f5 S2 => ?_⟩
    refine ⟨by show 1 ≤ sizeLine; decide, fun M fM => ?_⟩
    have sM := same_new (o := .lst [V.ref D2]) fM
    have zn : ∀ x ∈ L, Sz 100 (-(c x)) := fun x hx => sz_neg (hz x hx)
    refine ⟨D1, M, _, _, [(D2, L, fun x => -(c x))], 1801, 100, rfl, (S1.same s5).same sM, nd1, ⟨upd_same, fun m hm => ?_⟩, fun x hx => ?_, by decide, fun p hp => ?_, ?_, by decide, ?_, fun D3 H6 s6 f6 S3 => ?_⟩
    · rw [List.mem_singleton.mp hm]
      exact S2.same sM
    · have := gz x
      rw [get0_in hx] at this
      exact this.mono (by omega)
    · rw [puts_one] at hp
      obtain ⟨x, hx, rfl⟩ := List.mem_map.mp hp
      exact zn x hx
    · rw [puts_one, List.length_map]
      show 1801 + (100 + 1) * L.length ≤ 3900
      omega
    · rw [puts_one, List.length_map]
      show _ + L.length ≤ 3000
      omega
    · rw [puts_one] at S3
      have s56 := (s5.trans sM).trans s6
      exact hQ D3 H6 (s04.trans s56) (s04.free ((s5.trans sM).free f6)) S3
end
end K48
set_option linter.all false
set_option Elab.async false
/-! IO: names put in order by worths, one behind another. -/
namespace IO
open PySem
/-- x is ahead of y, as texts -/
def slt (x y : Str) : Prop := x.cps.toList < y.cps.toList
instance (x y : Str) : Decidable (slt x y) := inferInstanceAs (Decidable (x.cps.toList < y.cps.toList))
theorem slt_trans_not {x y z : Str} (h1 : ¬ slt y x) (h2 : ¬ slt z y) : ¬ slt z x := by
  have a : x.cps.toList ≤ y.cps.toList := h1
  have b : y.cps.toList ≤ z.cps.toList := h2
  exact List.le_trans a b
theorem slt_antisymm {x y : Str} (h1 : ¬ slt y x) (h2 : ¬ slt x y) : x = y := by
  have a : x.cps.toList ≤ y.cps.toList := h1
  have b : y.cps.toList ≤ x.cps.toList := h2
  exact TL.ext_tl (List.le_antisymm a b)
theorem rising : ∀ (l : List Str) (p : Str), PyProof.Rows.risingS p l = true → (p :: l).Pairwise fun a b => ¬ slt b a
  | [], p, _ => List.pairwise_singleton ..
  | x :: r, p, h => by
    have h' : (!PySem.Spec.ltCps x.cps.toList p.cps.toList && PyProof.Rows.risingS x r) = true := h
    rw [Bool.and_eq_true, PyProof.Rows.ltCps_eq] at h'
    have h1 : ¬ slt x p := by
      have := h'.1
      simpa [slt] using this
    have ih := rising r x h'.2
    refine List.pairwise_cons.mpr ⟨fun y hy => ?_, ih⟩
    rcases List.mem_cons.mp hy with e | hy
    · rw [e]; exact h1
    · exact slt_trans_not h1 ((List.pairwise_cons.mp ih).1 y hy)
theorem sorted_pw {l : List Str} (h : PyProof.Rows.sortedS l = true) : l.Pairwise fun a b => ¬ slt b a := by
  cases l with
  | nil => exact List.Pairwise.nil
  | cons x r => exact rising r x h
/-- two lists in order, of the same texts, are one -/
theorem sorted_same {l m : List Str} (h1 : l.Pairwise fun a b => ¬ slt b a) (h2 : m.Pairwise fun a b => ¬ slt b a) (p : l.Perm m) : l = m :=
  List.Perm.eq_of_pairwise (le := fun a b => ¬ slt b a) (fun a b _ _ x y => slt_antisymm x y) h1 h2 p
/-- by worths, alike ones by names -/
def le (ρ : Str → Rat) (x y : Str) : Prop := ρ x < ρ y ∨ (ρ x = ρ y ∧ ¬ slt y x)
theorem le_rat {ρ : Str → Rat} {x y : Str} (h : le ρ x y) : ρ x ≤ ρ y := by
  rcases h with h | h
  · exact Rat.le_of_lt h
  · rw [h.1]; exact Rat.le_refl
theorem put_in {ρ : Str → Rat} {zs : List Str} {x : Str} {j : Nat} (hz : zs.Pairwise (le ρ)) (hx : ∀ z ∈ zs, ¬ slt x z) (hj : j ≤ zs.length) (hi : ∀ z ∈ zs.drop j, ρ x < ρ z) (lo : ∀ z ∈ zs.take j, ρ z ≤ ρ x) :
    (zs.take j ++ [x] ++ zs.drop j).Pairwise (le ρ) := by
  have h0 := hz
  rw [← List.take_append_drop j zs] at h0
  obtain ⟨h1, h2, h3⟩ := List.pairwise_append.mp h0
  rw [List.append_assoc]
  refine List.pairwise_append.mpr ⟨h1, ?_, fun a ha b hb => ?_⟩
  · exact List.pairwise_cons.mpr ⟨fun b hb => .inl (hi b hb), h2⟩
  · rcases List.mem_cons.mp hb with e | hb
    · subst e
      rcases Rat.le_iff_lt_or_eq.mp (lo a ha) with h | h
      · exact .inl h
      · exact .inr ⟨h, hx a (List.mem_of_mem_take ha)⟩
    · exact h3 a ha b hb
theorem put_perm {zs : List Str} {x : Str} (j : Nat) : (zs.take j ++ [x] ++ zs.drop j).Perm (x :: zs) := by
  rw [List.append_assoc]
  have h : (zs.take j ++ ([x] ++ zs.drop j)).Perm (x :: (zs.take j ++ zs.drop j)) := List.perm_middle
  rw [List.take_append_drop] at h
  exact h
end IO
set_option Elab.async false
set_option linter.all false
set_option maxRecDepth 100000
set_option maxHeartbeats 4000000
namespace K48
open PySem PySem.Spec PyProof.Rows L2
open C8 (Cal Mak Met pe_c pe_mk pe_mt pe_mt0)
open KM (pr Sz)
theorem map_eraseIdx' {α β : Type} {g : α → β} : ∀ {xs : List α} {q : Nat}, (xs.map g).eraseIdx q = (xs.eraseIdx q).map g
  | [], _ => rfl
  | _ :: _, 0 => rfl
  | x :: xs, q + 1 => by simp [map_eraseIdx' (xs := xs) (q := q)]
theorem perm_eraseIdx {α : Type} : ∀ {xs : List α} {q : Nat} (h : q < xs.length), xs.Perm (xs[q] :: xs.eraseIdx q)
  | x :: xs, 0, _ => by simp
  | x :: xs, q + 1, h => by
    have hq : q < xs.length := by simpa using h
    simp only [List.getElem_cons_succ, List.eraseIdx_cons_succ]
    exact ((perm_eraseIdx hq).cons x).trans (List.Perm.swap _ _ _)
theorem Kp.free {h t : Addr} {H H' : Hp} {c : Nat} (k : Kp h H H') (pn : Held H' h c) (f : H' t = none) : H t = none := by
  cases e : H t with
  | none => rfl
  | some o =>
    by_cases z : t = h
    · rw [z] at f
      obtain ⟨l, ns, n, m, h1, _⟩ := pn
      rw [h1] at f
      cases f
    · rw [k.1 t o e z] at f
      cases f
theorem kp_tup {h : Addr} {H H' : Hp} {n : Nat} (k : Kp h H H') (x : Held H h n) : ∀ b vs, H b = some (.tup vs) → H' b = some (.tup vs) := fun b vs e => k.1 _ _ e fun z => by
  obtain ⟨l, ns, a, b, h1, _⟩ := x
  rw [z, h1] at e
  cases e
theorem kp_lst {h : Addr} {H H' : Hp} {n : Nat} (k : Kp h H H') (x : Held H h n) : ∀ b vs, H b = some (.lst vs) → H' b = some (.lst vs) := fun b vs e => k.1 _ _ e fun z => by
  obtain ⟨l, ns, a, b, h1, _⟩ := x
  rw [z, h1] at e
  cases e
theorem DyOk.tup {H H' : Hp} {d : Dy} (h : DyOk H d) (k : ∀ b vs, H b = some (.tup vs) → H' b = some (.tup vs)) : DyOk H' d := ⟨k _ _ h.t, k _ _ h.r, k _ _ h.b, h.nd, h.ne, h.l12, h.lb⟩
theorem eqv_nil (ds : List PyData) : (!PyData.eqv (.list ds) (.list [])) = !ds.isEmpty := by cases ds <;> simp [PyData.eqv, PyData.eqvAll]
theorem dp_ss {K : PySem.W.Frag} {H : Hp} : ∀ xs : List Str, DpAll K H (xs.map V.str) (xs.map PyData.str)
  | [] => .nil
  | x :: xs => .cons (.str x) (dp_ss xs)
/-- what stands while the days are drawn -/
def CmI (h nl O : Addr) (m c : Nat) (xs : List Str) (H : Hp) (i : Nat) (σ : L2.St) (H5 : Hp) : Prop := ∃ (v4 v5 v6 v7 v8 : Option V) (ds : List Dy), σ = [some (.ref h), some (.ref nl), some (.int (m : Nat)), some (.ref O), v4, v5, v6, v7, v8, none] ∧ Held H5 h (c + 30 * (m - i)) ∧ Kp h H H5 ∧ Cel h O H5 ∧ DyL H5 O ds ∧ ds.length = i ∧ (∀ d ∈ ds, (∀ y ∈ d.R, y ∈ xs) ∧ (∀ y ∈ d.B, y ∈ xs))
theorem CmI.add {h nl O tp t2 ta : Addr} {m c i : Nat} {xs : List Str} {H Hz : Hp} {v4 v5 v6 v7 v8 : Option V} {ds : List Dy} {R B : List Str} (hd : Held Hz h (c + 30 * (m - (i + 1)))) (k : Kp h H Hz) (ce : Cel h O Hz) (D : DyL Hz O ds) (l : ds.length = i) (dm : ∀ d ∈ ds, (∀ y ∈ d.R, y ∈ xs) ∧ (∀ y ∈ d.B, y ∈ xs)) (fO : H O = none)
    (h1 : Hz tp = some (.tup (R.map V.str))) (h2 : Hz t2 = some (.tup (B.map V.str))) (h3 : Hz ta = some (.tup [.ref tp, .ref t2])) (nd : R.Nodup) (ne : R ≠ []) (l12 : R.length ≤ 12) (lb : B.length ≤ 12) (sR : ∀ y ∈ R, y ∈ xs) (sB : ∀ y ∈ B, y ∈ xs) :
    CmI h nl O m c xs H (i + 1) [some (.ref h), some (.ref nl), some (.int (m : Nat)), some (.ref O), v4, v5, v6, v7, v8, none] (upd Hz O (.lst ((ds.map fun d => V.ref d.a) ++ [.ref ta]))) := by
  have kt : ∀ b vs, Hz b = some (.tup vs) → (upd Hz O (.lst ((ds.map fun d => V.ref d.a) ++ [.ref ta]))) b = some (.tup vs) := fun b vs e => by rw [upd_ne (ne_of e D.1 (by intro z; cases z))]; exact e
  refine ⟨_, _, _, _, _, ds ++ [⟨ta, tp, t2, R, B⟩], rfl, hd.put ce, k.new fO, ce.put ce.ne.symm, ⟨by rw [upd_same, List.map_append]; rfl, fun d hd => ?_⟩, by rw [List.length_append, l]; rfl, fun d hd => ?_⟩
  · rcases List.mem_append.mp hd with q | q
    · exact (D.2 d q).tup kt
    · rw [List.mem_singleton.mp q]
      exact ⟨kt _ _ h3, kt _ _ h1, kt _ _ h2, nd, ne, l12, lb⟩
  · rcases List.mem_append.mp hd with q | q
    · exact dm d q
    · rw [List.mem_singleton.mp q]
      exact ⟨sR, sB⟩
section
variable {P : Program} {w : World} {K : PySem.W.Frag} {mg : Str → Option Value} {base : Heap} {f C : Addr} {fd : FuncData}
def spCm : Sp := fun vs H Q _ => ∃ (h nl : Addr) (c m : Nat) (xs : List Str), vs = [.ref h, .ref nl, .int (m : Nat)] ∧ Held H h (c + 30 * m) ∧ H nl = some (.lst (xs.map V.str)) ∧ xs ≠ [] ∧ xs.Nodup ∧ xs.length ≤ 12 ∧ m ≤ 30 ∧ (∀ x ∈ xs, PyData.strOk x = true) ∧
  ∀ (o : Addr) (ds : List Dy) (H' : Hp), Held H' h c → Kp h H H' → H o = none → DyL H' o ds → ds.length = m → (∀ d ∈ ds, (∀ y ∈ d.R, y ∈ xs) ∧ (∀ y ∈ d.B, y ∈ xs)) → Q (.ref o) H'
theorem ok_cm (F : Dn K d_l_coming f fd) (bl : Bl mg) (bmin : mg "min" = none) (btup : mg "tuple" = none) (cD : CalD P w K mg base) : FnOk P w K mg base CX0 2 f fd ["_law_held_here", "_law_names_here", "_law_many"] spCm := by
  refine F.ok sc_l_coming (fun vs H Q E h => ?_) (fun cdv A outer s H vs Q E hr h => ?_)
  · obtain ⟨_, _, _, _, _, rfl, _⟩ := h
    rfl
  · obtain ⟨h, nl, c, m, xs, rfl, hld, hnl, xne, xnd, xl, ml, oks, hQ⟩ := h
    have hu64 : (A.deeper (envOfC d_l_coming.qual d_l_coming.scope s.heap.objs.size f cdv)).units + 64 < cLine := by have := hr.un; omega
    refine ⟨_, PSs.nox (pss_cons (ps_set (i := 3) sc_l_coming.nd rfl (.inl rfl) (pe_lst pa_nil))
      (pss_cons (ps_for PassesOwn.never rfl (pi_range1 rfl bl.range (pa_cons (pv 2) pa_nil)) (pg_name (i := 4) sc_l_coming.nd rfl (.inl rfl))
        (pss_cons (ps_par (i := 5) (j := 6) rfl sc_l_coming.nd rfl rfl (by decide) rfl rfl (pa_cons (pe_callTy call_list_of rfl bl.list boot_list (pa_cons (pv 1) pa_nil)) (pa_cons (pe_lst pa_nil) pa_nil)) rfl)
        (pss_cons (ps_for PassesOwn.never rfl (pi_range1 rfl bl.range (pa_cons (pe_op op_add pe_int (pe_c cD hr (by decide) rfl (pa_cons (pv 0) (pa_cons
              (pe_ix (r := rIxL K) ix_list (pe_lst (pa_cons (pe_callB (call_min2 rfl) rfl bmin boot_min (pa_cons (pe_callB call_len_seq rfl bl.len boot_len (pa_cons (pv 1) pa_nil)) (pa_cons pe_int pa_nil))) (pa_cons (pe_callB call_len_seq rfl bl.len boot_len (pa_cons (pv 1) pa_nil)) pa_nil)))
                (pe_c cD hr (by decide) rfl (pa_cons (pv 0) (pa_cons pe_int pa_nil))) (fun _ _ => rfl)) pa_nil)))) pa_nil)) (pg_name (i := 7) sc_l_coming.nd rfl (.inl rfl))
          (pss_one (ps_expr (pe_bm PySem.F.plainAttrs_list PySem.F.slot_list_append PySem.F.type_list_append mt_append (pv 6) (pa_cons (pe_bm PySem.F.plainAttrs_list PySem.F.slot_list_pop PySem.F.type_list_pop mt_popAt (pv 5) (pa_cons (pe_c cD hr (by decide) rfl (pa_cons (pv 0) (pa_cons (pe_callB call_len_seq rfl bl.len boot_len (pa_cons (pv 5) pa_nil)) pa_nil))) pa_nil)) pa_nil)))))
        (pss_cons (ps_setLc (i := 8) (own := [("_law_name", 9)]) (g := gName 9) rfl sc_l_coming.nd rfl rfl (sw_true rfl rfl rfl (by decide +kernel)) (pi_list (pv 6)) (blkOk_by (N := N_l_coming) (sc := defScope s_l_coming) (by decide +kernel))
            (fun _ _ _ _ _ => pg_name (i := 9) sc_l_coming.nd rfl (Or.inl rfl)) (fun _ _ _ _ _ => pts_one (pt_cmpR op_gt (pe_c cD hr (by decide) rfl (pa_cons (pv 0) (pa_cons pe_int pa_nil))) pe_int (nomark _))) (fun _ _ _ _ _ => pv 9))
        (pss_one (ps_expr (pe_bm PySem.F.plainAttrs_list PySem.F.slot_list_append PySem.F.type_list_append mt_append (pv 3) (pa_cons (pe_tup (pa_cons (pe_callTy call_tuple_of rfl btup boot_tuple (pa_cons (pv 6) pa_nil)) (pa_cons
            (pe_ifExp (pt_cmpR (op_neD hu64) (pv 8) (pe_lst pa_nil) (nomark _)) (pe_callTy call_tuple_of rfl btup boot_tuple (pa_cons (pv 8) pa_nil)) (pe_callTy call_tuple_of rfl btup boot_tuple (pa_cons (pe_slice sl_list (pv 6) po_none (po_some pe_int)) pa_nil))) pa_nil))) pa_nil))))))))
      (pss_one (ps_ret (pv 3))))), ?_⟩
    have xpos : 0 < xs.length := List.length_pos_iff.mpr xne
    refine ⟨by show 0 ≤ sizeLine; decide, fun O fO => ?_⟩
    have sO := same_new (o := .lst []) fO
    refine ⟨_, rfl, _, rfl, by omega, by omega, ?_⟩
    rw [Int.toNat_natCast]
    refine for_range (n := m) (CmI h nl O m c xs H)
      ⟨_, _, _, _, _, [], rfl, (hld.same sO).weak (by omega), Kp.same sO, (Cel.of hld fO).kp (Kp.same sO), ⟨upd_same, fun d hd => nomatch hd⟩, rfl, fun d hd => nomatch hd⟩ ?_ ?_
    · rintro i σ H5 hi ⟨v4, v5, v6, v7, v8, ds, rfl, held5, k5, cO5, D5, dl5, dm5⟩
      have hnl5 := kp_lst k5 hld _ _ hnl
      refine ⟨_, rfl, nl, _, rfl, .inl (SqL.of hnl5), fun ll fll => ⟨by show 0 ≤ sizeLine; decide, fun o fo => ⟨_, _, rfl, ?_⟩⟩⟩
      have sl := same_new (o := .lst (xs.map V.str)) fll
      have so := same_new (o := .lst []) fo
      have slo := sl.trans so
      have nlo : ll ≠ o := ne_of_none upd_same fo
      have fo5 : H5 o = none := sl.free fo
      have hll6 : (upd (upd H5 ll (.lst (xs.map V.str))) o (.lst [])) ll = some (.lst (xs.map V.str)) := by rw [upd_ne nlo]; exact upd_same
      have ho6 : (upd (upd H5 ll (.lst (xs.map V.str))) o (.lst [])) o = some (.lst []) := upd_same
      have k56 : Kp h H5 (upd (upd H5 ll (.lst (xs.map V.str))) o (.lst [])) := Kp.same slo
      have held6 := held5.same slo
      have cll6 := (Cel.of held5 fll).kp k56
      have co6 := (Cel.of held5 fo5).kp k56
      have D6 := D5.same slo
      have cO6 := cO5.kp k56
      have nOl : O ≠ ll := ne_of_none D5.1 fll
      have nOo : O ≠ o := ne_of_none D5.1 fo5
      have hnl6 := slo _ _ hnl5
      have nnl : nl ≠ ll := ne_of_none hnl5 fll
      have nno : nl ≠ o := ne_of_none hnl5 fo5
      generalize upd (upd H5 ll (.lst (xs.map V.str))) o (.lst []) = H6 at hll6 ho6 k56 held6 cll6 co6 D6 cO6 hnl6
      refine ⟨_, rfl, _, rfl, nl, _, rfl, .inl (SqL.of hnl6), _, _, rfl, ?_⟩
      rw [List.length_map]
      refine ⟨_, rfl, nl, _, rfl, .inl (SqL.of hnl6), by show 2 ≤ sizeLine; decide, fun pl fpl => ?_⟩
      rw [List.length_map]
      obtain ⟨m5, hm5, p5, q5⟩ : ∃ m5 : Nat, (if (5 : Int) < (xs.length : Nat) then (5 : Int) else (xs.length : Nat)) = (m5 : Nat) ∧ 1 ≤ m5 ∧ m5 ≤ xs.length := by
        by_cases z : 5 < xs.length
        · exact ⟨5, if_pos (by omega), by decide, by omega⟩
        · exact ⟨xs.length, if_neg (by omega), xpos, Nat.le_refl _⟩
      rw [hm5]
      have sp := same_new (o := .lst [V.int (m5 : Nat), V.int (xs.length : Nat)]) fpl
      have hpl : (upd H6 pl (.lst [V.int (m5 : Nat), V.int (xs.length : Nat)])) pl = some (.lst [V.int (m5 : Nat), V.int (xs.length : Nat)]) := upd_same
      have k6p : Kp h H6 (upd H6 pl (.lst [V.int (m5 : Nat), V.int (xs.length : Nat)])) := Kp.same sp
      have held6p := held6.same sp
      generalize upd H6 pl (.lst [V.int (m5 : Nat), V.int (xs.length : Nat)]) = H7 at hpl k6p held6p
      refine ⟨_, rfl, h, c + 30 * (m - i) - 1, 2, rfl, held6p.weak (by omega), by decide, by decide, fun r H8 r0 r2 held8 k8 => ?_⟩
      have hpl8 := kp_lst k8 held6p _ _ hpl
      obtain ⟨n0, hn0, n01, n0x⟩ : ∃ n0 : Nat, atI [V.int (m5 : Nat), V.int (xs.length : Nat)] r = some (V.int (n0 : Nat)) ∧ 1 ≤ n0 ∧ n0 ≤ xs.length := by
        have : r = 0 ∨ r = 1 := by omega
        rcases this with rfl | rfl
        · exact ⟨m5, rfl, p5, q5⟩
        · exact ⟨xs.length, rfl, xpos, Nat.le_refl _⟩
      refine ⟨pl, _, _, _, rfl, rfl, SqL.of hpl8, hn0, h, c + 30 * (m - i) - 2, _, rfl, held8.weak (by omega), by omega, by omega, fun r9 H9 r90 r9n held9 k9 => ?_⟩
      refine ⟨_, _, rfl, rfl, _, rfl, by omega, by omega, ?_⟩
      obtain ⟨rn, rfl⟩ := Int.eq_ofNat_of_zero_le r90
      obtain ⟨n, hn⟩ : ∃ n : Nat, n = 1 + rn := ⟨_, rfl⟩
      have en : (1 + (rn : Int)).toNat = n := by omega
      rw [en]
      have n1 : 1 ≤ n := by omega
      have nx : n ≤ xs.length := by omega
      have k69 := (k6p.trans k8).trans k9
      have hll9 := k69.1 _ _ hll6 cll6.ne
      have ho9 := k69.1 _ _ ho6 co6.ne
      refine for_range (n := n) (fun j σ Hj => ∃ (L R : List Str) (v7 : Option V), σ = [some (.ref h), some (.ref nl), some (.int (m : Nat)), some (.ref O), some (.int (0 + (i : Int))), some (.ref ll), some (.ref o), v7, v8, none] ∧ Hj ll = some (.lst (L.map V.str)) ∧ Hj o = some (.lst (R.map V.str)) ∧ (R ++ L).Perm xs ∧ R.length = j ∧ Held Hj h (c + 30 * (m - i) - 2 - j) ∧ Cel h ll Hj ∧ Cel h o Hj ∧ Cel h O Hj ∧ (∀ b x, H5 b = some x → b ≠ h → Hj b = some x) ∧ Kp h H5 Hj)
        ⟨xs, [], _, rfl, hll9, ho9, List.Perm.refl _, rfl, held9, cll6.kp k69, co6.kp k69, cO6.kp k69, fun b x e ne => k69.1 _ _ (k56.1 _ _ e ne) ne, k56.trans k69⟩ ?_ ?_
      · rintro j σ Hj hj ⟨L, R, v7, rfl, hL, hR, pm, rl, heldj, clj, coj, cOj, old, kj⟩
        have lenL : L.length = xs.length - j := by
          have := pm.length_eq
          rw [List.length_append] at this
          omega
        refine ⟨_, rfl, Or.inl ⟨rfl, _, SqL.of hR⟩, _, rfl, Or.inl ⟨rfl, _, SqL.of hL⟩, _, rfl, _, rfl, ll, _, rfl, .inl (SqL.of hL), h, c + 30 * (m - i) - 2 - (j + 1), _, rfl, heldj.weak (by omega), by rw [List.length_map]; omega, by rw [List.length_map]; omega, fun r Hk a6 b6 heldk kk => ?_⟩
        rw [List.length_map] at b6
        obtain ⟨q, rfl⟩ := Int.eq_ofNat_of_zero_le a6
        have hq : q < L.length := by omega
        have hLk := kk.1 _ _ hL clj.ne
        have hRk := kk.1 _ _ hR coj.ne
        have clk := clj.kp kk
        have cok := coj.kp kk
        have cOk := cOj.kp kk
        refine ⟨ll, _, _, q, .str L[q], rfl, rfl, hLk, by omega, by omega, ?_, ?_, ?_⟩
        · rw [List.length_map]
          unfold seqIndex?
          have z : ¬ ((q : Int) < 0) := by omega
          simp [hq, z]
        · rw [List.getElem?_map, List.getElem?_eq_getElem hq]
          rfl
        have hR7 : (upd Hk ll (.lst ((L.map V.str).eraseIdx q))) o = some (.lst (R.map V.str)) := by rw [upd_ne nlo.symm]; exact hRk
        have oldk : ∀ b x, H5 b = some x → b ≠ h → (upd (upd Hk ll (.lst ((L.map V.str).eraseIdx q))) o (.lst (R.map V.str ++ [V.str L[q]]))) b = some x := fun b x e ne => by
          rw [upd_ne (ne_of_none e fo5), upd_ne (ne_of_none e fll)]
          exact kk.1 _ _ (old b x e ne) ne
        refine ⟨o, _, _, rfl, rfl, hR7, ?_, L.eraseIdx q, R ++ [L[q]], _, rfl, ?_, ?_, ?_, by simp [rl], (heldk.put clk).put (cok.put clk.ne.symm), (clk.put clk.ne.symm).put cok.ne.symm, (cok.put clk.ne.symm).put cok.ne.symm, (cOk.put clk.ne.symm).put cok.ne.symm, oldk, ((kj.trans kk).new fll).new fo5⟩
        · rw [List.length_map, rl]
          exact Nat.lt_of_lt_of_le (by omega : j < 64) (by decide)
        · rw [upd_ne nlo, upd_same, map_eraseIdx']
        · rw [upd_same, List.map_append]
          rfl
        · have e1 : L.Perm (L[q] :: L.eraseIdx q) := perm_eraseIdx hq
          rw [List.append_assoc]
          exact (List.Perm.append_left R e1.symm).trans pm
      rintro σ Hj ⟨L, R, v7, rfl, hL, hR, pm, rl, heldj, clj, coj, cOj, old, kj⟩
      have ndRL := pm.nodup_iff.mpr xnd
      have ndR := (List.nodup_append.mp ndRL).1
      have subR : ∀ y ∈ R, y ∈ xs := fun y hy => pm.mem_iff.mp (List.mem_append_left _ hy)
      have neR : R ≠ [] := fun z => by rw [z] at rl; simp at rl; omega
      -- who is able
      refine ⟨_, rfl, o, rfl, ⟨_, SqL.of hR⟩, fun B0 hB0 => lc_list (K := K) (xs := R.map V.str) (fun j H' => ∃ B : List Str, H' B0 = some (.lst (B.map V.str)) ∧ B.length ≤ j ∧ (∀ y ∈ B, y ∈ R) ∧ Held H' h (c + 30 * (m - i) - 14 - j) ∧ Kp h Hj H' ∧ Cel h B0 H')
        ⟨[], upd_same, Nat.le_refl _, fun y hy => (nomatch hy), (heldj.same (same_new hB0)).weak (by omega), Kp.same (same_new hB0), (Cel.of heldj hB0).kp (Kp.same (same_new hB0))⟩ (fun j H' _ z => by obtain ⟨_, _, _, _, _, z, _⟩ := z; exact SqL.of (z.1 _ _ hR coj.ne)) ?_ ?_⟩
      · rintro j v Hk hj ⟨B, hB, bl, bs, heldk, kk, cBk⟩
        rw [List.getElem?_map] at hj
        obtain ⟨z, hz, rfl⟩ := Option.map_eq_some_iff.mp hj
        have hzR := List.mem_of_getElem? hz
        have jl := (List.getElem?_eq_some_iff.mp hz).1
        refine ⟨rfl, ?_⟩
        refine ⟨_, rfl, h, c + 30 * (m - i) - 14 - (j + 1), 3, rfl, heldk.weak (by omega), by decide, by decide, fun r Hm r0 r3 heldm km => ?_⟩
        have hBm := km.1 _ _ hB cBk.ne
        refine ⟨_, _, rfl, rfl, _, rfl, ?_⟩
        refine ite2 (fun _ => ?_) (fun _ => ⟨B, hBm, by omega, bs, heldm, kk.trans km, cBk.kp km⟩)
        refine ⟨_, rfl, _, hBm, by rw [List.length_map]; exact line_lt (by omega), B ++ [z], by rw [upd_same, List.map_append]; rfl, by rw [List.length_append]; show B.length + 1 ≤ j + 1; omega, fun y hy => ?_, heldm.put (cBk.kp km), (kk.trans km).new hB0, (cBk.kp km).put cBk.ne.symm⟩
        rcases List.mem_append.mp hy with q | q
        · exact bs y q
        · rw [List.mem_singleton.mp q]; exact hzR
      rintro Hk ⟨B, hB, bl2, bs, heldk, kk, cBk⟩
      rw [List.length_map] at bl2 heldk
      have hRk := kk.1 _ _ hR coj.ne
      have kjk := kj.trans kk
      have cOk := cOj.kp kk
      have DOk : DyL Hk O ds := ⟨kk.1 _ _ (old _ _ D5.1 cO5.ne) cO5.ne, fun d hd => (D5.2 d hd).tup (kp_tup kjk held5)⟩
      have oksB : ∀ x ∈ B, PyData.strOk x = true := fun x hx => oks x (subR x (bs x hx))
      refine ⟨_, rfl, Or.inl ⟨rfl, _, SqL.of DOk.1⟩, _, rfl, o, _, rfl, .inl ⟨SqL.of hRk, fun tp ftp => ?_⟩⟩
      have st := same_new (o := .tup (R.map V.str)) ftp
      have htp : (upd Hk tp (.tup (R.map V.str))) tp = some (.tup (R.map V.str)) := upd_same
      generalize upd Hk tp (.tup (R.map V.str)) = Hl at st htp
      refine ⟨_, rfl, by show 0 ≤ sizeLine; decide, fun e fe => ?_⟩
      have se := same_new (o := .lst []) fe
      have sle := st.trans se
      have htp2 := se _ _ htp
      refine ⟨.list (B.map .str), .list [], Dp.lst (SqL.of (sle _ _ hB)) (dp_ss B), Dp.lst (SqL.of upd_same) .nil, DQ.sh_strs oksB, by decide, ?_⟩
      generalize upd Hl e (.lst []) = Hm at sle htp2
      rw [eqv_nil]
      refine ⟨_, rfl, ?_⟩
      refine ite2 (fun _ => ?_) (fun _ => ?_)
      · refine ⟨_, rfl, B0, _, rfl, .inl ⟨SqL.of (sle _ _ hB), fun t2 ft2 => ⟨by show 2 ≤ sizeLine; decide, fun ta fta => ?_⟩⟩⟩
        have s2 := same_new (o := .tup (B.map V.str)) ft2
        have sa := same_new (o := .tup [.ref tp, .ref t2]) fta
        have sz := (sle.trans s2).trans sa
        have DZ := DOk.same sz
        refine ⟨O, _, _, rfl, rfl, DZ.1, by rw [List.length_map, dl5]; exact line_lt (by omega), CmI.add ((heldk.same sz).weak (by omega)) ((k5.trans kjk).trans (Kp.same sz)) (cOk.kp (Kp.same sz)) DZ dl5 dm5 fO (sa _ _ (s2 _ _ htp2)) (sa _ _ upd_same) upd_same ndR neR (by omega) (by omega) subR fun y hy => subR y (bs y hy)⟩
      · refine ⟨_, rfl, _, rfl, o, _, rfl, SqL.of (sle _ _ hRk), fun q0 fq0 => ?_⟩
        have ec : cutV (R.map V.str) none (some 1) = (R.take 1).map V.str := by
          unfold cutV HT.sIx
          cases R with
          | nil => rfl
          | cons y R => simp
        have sq0 := same_new (o := .lst (cutV (R.map V.str) none (some 1))) fq0
        have hq0 : (upd Hm q0 (.lst (cutV (R.map V.str) none (some 1)))) q0 = some (.lst (cutV (R.map V.str) none (some 1))) := upd_same
        generalize upd Hm q0 (.lst (cutV (R.map V.str) none (some 1))) = Hn at sq0 hq0
        rw [ec] at hq0
        have s0 := sle.trans sq0
        refine ⟨q0, _, rfl, .inl ⟨SqL.of hq0, fun t2 ft2 => ⟨by show 2 ≤ sizeLine; decide, fun ta fta => ?_⟩⟩⟩
        have s2 := same_new (o := .tup ((R.take 1).map V.str)) ft2
        have sa := same_new (o := .tup [.ref tp, .ref t2]) fta
        have sz := (s0.trans s2).trans sa
        have DZ := DOk.same sz
        refine ⟨O, _, _, rfl, rfl, DZ.1, by rw [List.length_map, dl5]; exact line_lt (by omega), CmI.add ((heldk.same sz).weak (by omega)) ((k5.trans kjk).trans (Kp.same sz)) (cOk.kp (Kp.same sz)) DZ dl5 dm5 fO (sa _ _ (s2 _ _ (sq0 _ _ htp2))) (sa _ _ upd_same) upd_same ndR neR (by omega) (by rw [List.length_take]; omega) subR fun y hy => subR y (List.mem_of_mem_take hy)⟩
    · rintro σ H5 ⟨v4, v5, v6, v7, v8, ds, rfl, held5, k5, cO5, D5, dl5, dm5⟩
      exact ⟨_, rfl, hQ O ds H5 (held5.weak (by omega)) k5 fO D5 dl5 dm5⟩
end
end K48
set_option Elab.async false
set_option linter.all false
set_option maxRecDepth 100000
set_option maxHeartbeats 4000000
namespace K48
open PySem PySem.Spec PyProof.Rows L2
open C8 (Cal Mak Met pe_c pe_mk pe_mt pe_mt0)
open KM (pr Sz)
theorem paired_map {α : Type} {R : Addr → Key × V → Prop} {g : α → Addr} {k : α → Key × V} : ∀ {l : List α}, (∀ x ∈ l, R (g x) (k x)) → Paired R (l.map g) (l.map k)
  | [], _ => .nil
  | x :: l, h => .cons (h x List.mem_cons_self) (paired_map fun y hy => h y (List.mem_cons_of_mem _ hy))
theorem pr_neg (v : Rat) : (0 - (pr v).1, (pr v).2) = pr (-v) := by
  show (0 - v.num, (v.den : Int)) = ((-v).num, ((-v).den : Int))
  rw [Rat.neg_num, Rat.neg_den, Int.zero_sub]
/-- hand-overs of fractions in a list -/
def TL (H : Hp) (l : Addr) (rows : List Ro) : Prop := H l = some (.lst (rows.map fun r => V.ref r.a)) ∧ ∀ r ∈ rows, H r.a = some (.tup [.str r.p, .str r.t, .ref r.s]) ∧ H r.s = some (tupP (pr r.v))
theorem TL.same {H H' : Hp} {l : Addr} {rows : List Ro} (h : TL H l rows) (s : Same H H') : TL H' l rows := ⟨s _ _ h.1, fun r hr => ⟨s _ _ (h.2 r hr).1, s _ _ (h.2 r hr).2⟩⟩
theorem mvs_pre {rows : List Ro} {i : Nat} {r : Ro} (h : rows[i]? = some r) : mvs (rows.take i) <+: mvs rows ∧ (mvs (rows.take i) ++ [(r.p, r.v)]) <+: mvs rows := by
  have e : rows = rows.take i ++ r :: rows.drop (i + 1) := by
    have h2 := List.getElem?_eq_some_iff.mp h
    obtain ⟨hl, e⟩ := h2
    rw [← e, List.getElem_cons_drop, List.take_append_drop]
  have e2 : mvs rows = mvs (rows.take i) ++ ([(r.p, r.v), (r.t, -r.v)] ++ mvs (rows.drop (i + 1))) := by
    conv => lhs; rw [e]
    unfold mvs
    rw [List.flatMap_append, List.flatMap_cons]
  refine ⟨⟨_, e2.symm⟩, ⟨(r.t, -r.v) :: mvs (rows.drop (i + 1)), ?_⟩⟩
  rw [e2]
  simp
section
variable {P : Program} {w : World} {K : PySem.W.Frag} {mg : Str → Option Value} {base : Heap} {f C CT : Addr} {fd : FuncData}
def spLS (C : Addr) : Sp := fun vs H Q _ => ∃ (d : Addr) (L : List Str) (c : Str → Rat), vs = [.ref d] ∧ TDc H d L c ∧ L.Nodup ∧ L.length ≤ 30 ∧ (∀ x ∈ L, Sz 150 (c x)) ∧ ∀ D H', Same H H' → H D = none → SDc C H' D L c → Q (.ref D) H'
theorem ok_ls (F : Dn K d_l_shares f fd) (bd : mg "dict" = none) (MS : MakS P w K mg base C) : FnOk P w K mg base CX0 4 f fd ["_law_standing_here"] (spLS C) := by
  refine F.ok sc_l_shares (fun vs H Q E h => ?_) (fun cdv A outer s H vs Q E hr h => ?_)
  · obtain ⟨d, L, c, rfl, _⟩ := h
    rfl
  · obtain ⟨d, L, c, rfl, ⟨ad, hd, hv⟩, nd, ll, hz, hQ⟩ := h
    have hu := hu_of hr
    refine ⟨_, PSs.nox (pss_one (ps_ret (pe_callTy (call_dictP rfl) rfl bd boot_dict (pa_cons (pe_lock (pe_lc (own := [("_law_name", 1)]) (g := gName 1) (tt := tYes) rfl sc_l_shares.nd (pi_keys (pv 0)) (blkOk_by (N := N_l_shares) (sc := defScope s_l_shares) (by decide +kernel))
        (fun _ _ _ _ _ => pg_name (i := 1) sc_l_shares.nd rfl (Or.inl rfl)) (fun _ _ _ _ _ => pts_nil)
        (fun _ _ _ _ _ => pe_tup (pa_cons (pv 1) (pa_cons (pe_mk MS hr (by decide) rfl (pa_cons (pe_ix (r := rIxT K) ix_tup (pe_dget hu (pv 0) (pv 1) (fun _ _ => rfl)) pe_int (fun _ _ => rfl)) (pa_cons (pe_ix (r := rIxT K) ix_tup (pe_dget hu (pv 0) (pv 1) (fun _ _ => rfl)) pe_int (fun _ _ => rfl)) pa_nil))) pa_nil))))) pa_nil)))), ?_⟩
    refine ⟨d, _, hd, trivial, fun od => ?_⟩
    obtain ⟨hd1, kp1, new1, back1⟩ := lockf (C := C) hd od
    have hv1 : ∀ x ∈ L, (upd H d (.frz od (dctO L fun x => .ref (ad x)))) (ad x) = some (tupP (pr (c x))) := fun x hx => kp1 _ _ (hv x hx) fun z => by have := hv x hx; rw [z, hd] at this; cases this
    generalize upd H d (.frz od (dctO L fun x => .ref (ad x))) = H1 at hd1 kp1 new1 back1 hv1
    refine ⟨_, rfl, d, od, rfl, .inl ⟨_, hd1, fun D hD => lc_it walk_keys (fun i H2 => ∃ (pa sa : Str → Addr), H2 D = some (.lst ((L.take i).map fun x => V.ref (pa x))) ∧ (∀ x ∈ L.take i, H2 (pa x) = some (.tup [.str x, .ref (sa x)]) ∧ Sh C H2 (sa x) (pr (c x))) ∧ Same H1 H2)
      ⟨fun _ => 0, fun _ => 0, upd_same, fun x hx => by simp at hx, same_new hD⟩ (fun i H2 _ z => by obtain ⟨_, _, _, _, sm⟩ := z; exact sm _ _ hd1) ?_ ?_⟩⟩
    · rintro i x H2 H3 hi ⟨pa, sa, hdd, hval, sm⟩ ⟨eH, kk, v, hkk, rfl⟩
      have eH := eH.symm
      subst eH
      rw [List.length_map] at hi
      rw [List.getElem?_map] at hkk
      obtain ⟨z, hz0, e0⟩ := Option.map_eq_some_iff.mp hkk
      cases e0
      have hzL := List.mem_of_getElem? hz0
      have nz := nin_take nd hz0
      refine ⟨rfl, ?_⟩
      have dg : DGet H2 d (.str z) (some (.ref (ad z))) := .inl ⟨_, Sum.inr z, .inr ⟨od, sm _ _ hd1⟩, rfl, by rw [val_dct, if_pos hzL]⟩
      have hvz := sm _ _ (hv1 z hzL)
      refine ⟨_, rfl, _, rfl, _, rfl, d, _, rfl, dg, ad z, _, _, _, rfl, rfl, SqT.of hvz, atI_nat (j := 0) rfl, _, rfl, _, rfl, d, _, rfl, dg, ad z, _, _, _, rfl, rfl, SqT.of hvz, atI_nat (j := 1) rfl, ?_⟩
      intro t dt nt ndt ne
      refine mk_in (n := 150) nt ndt (by have := KM.den_pos (c z); show ((c z).den : Int) ≠ 0; omega) (by have := (hz z hzL).2; show ((c z).den : Int).natAbs < 2 ^ 150; omega) (by decide) (by decide) fun H4 s4 ht => ⟨rfl, ?_⟩
      have ht : Sh C H4 t (pr (c z)) := by
        have e : Rat.divInt (c z).num ((c z).den : Int) = c z := Rat.num_divInt_den _
        have ht : Sh C H4 t (pr (Rat.divInt (c z).num ((c z).den : Int))) := ht
        rw [e] at ht
        exact ht
      refine ⟨by show 2 ≤ sizeLine; decide, fun q fq => ?_⟩
      have sq := same_new (o := .tup [.str z, .ref t]) fq
      have s24 := s4.trans sq
      have hD4 := s24 _ _ hdd
      refine ⟨_, hD4, by rw [List.length_map, List.length_take]; exact line_lt (by omega), fun x => if x = z then q else pa x, fun x => if x = z then t else sa x, ?_, fun x hx => ?_, fun b o e => ?_⟩
      · rw [upd_same, take_one hz0, List.map_append]
        have e1 : (L.take i).map (fun x => V.ref (pa x)) = (L.take i).map fun x => V.ref (if x = z then q else pa x) := List.map_congr_left fun x hx => by rw [if_neg (show ¬ x = z from fun e => nz (e ▸ hx))]
        rw [e1]
        simp
      · have nD : ∀ {p : Addr} {o : HO}, (upd H4 q (.tup [.str z, .ref t])) p = some o → (∀ ys, o ≠ .lst ys) → p ≠ D := fun {p o} e n zz => by
          rw [zz, hD4] at e
          exact n _ (Option.some.inj e).symm
        rw [take_one hz0] at hx
        by_cases e : x = z
        · subst e
          dsimp only
          rw [if_pos rfl, if_pos rfl]
          refine ⟨?_, ?_⟩
          · rw [upd_ne (nD upd_same (fun ys e => by cases e))]
            exact upd_same
          · obtain ⟨dx, e⟩ := ht
            have e2 := sq _ _ e
            exact ⟨dx, by rw [upd_ne (nD e2 (fun ys e => by cases e))]; exact e2⟩
        · have hx' : x ∈ L.take i := by
            rcases List.mem_append.mp hx with q' | q'
            · exact q'
            · exact absurd (List.mem_singleton.mp q') e
          obtain ⟨h1, dx, h2⟩ := hval x hx'
          dsimp only
          rw [if_neg e, if_neg e]
          have g1 := s24 _ _ h1
          have g2 := s24 _ _ h2
          exact ⟨by rw [upd_ne (nD g1 (fun ys e => by cases e))]; exact g1, dx, by rw [upd_ne (nD g2 (fun ys e => by cases e))]; exact g2⟩
      · rw [upd_ne (ne_of_none e hD)]
        exact s24 _ _ (sm _ _ e)
    rintro H2 ⟨pa, sa, hdd, hval, sm⟩
    rw [List.length_map, List.take_length] at hdd hval
    obtain ⟨nD, nDd⟩ := new1 D hD
    have hd2 := sm _ _ hd1
    have s02 := back1 H2 sm
    refine ⟨hd2, ?_⟩
    have g0 : (upd H2 d (dctO L fun x => .ref (ad x))) D = some (.lst (L.map fun x => V.ref (pa x))) := by rw [upd_ne nDd]; exact hdd
    have g1 : ∀ x ∈ L, (upd H2 d (dctO L fun x => .ref (ad x))) (pa x) = some (.tup [.str x, .ref (sa x)]) ∧ Sh C (upd H2 d (dctO L fun x => .ref (ad x))) (sa x) (pr (c x)) := fun x hx => by
      obtain ⟨h1, h2⟩ := hval x hx
      exact ⟨by rw [upd_ne fun z => by rw [z, hd2] at h1; cases h1]; exact h1, h2.un (h2.at_frz hd2)⟩
    generalize upd H2 d (dctO L fun x => .ref (ad x)) = H3 at s02 g0 g1
    refine ⟨D, L.map pa, L.map fun x => ((Sum.inr x : Key), V.ref (sa x)), rfl, by rw [List.map_map]; exact SqL.of g0, paired_map fun x hx => SqT.of (g1 x hx).1, fun q fq => ?_⟩
    have em : mergeK [] (L.map fun x => ((Sum.inr x : Key), V.ref (sa x))) = L.map fun x => ((Sum.inr x : Key), V.ref (sa x)) := DQ.merge_map (fun x => V.ref (sa x)) (l := L) (m := []) nd
    rw [em]
    have sq := same_new (o := .dK (L.map fun x => ((Sum.inr x : Key), V.ref (sa x)))) fq
    exact hQ q _ (s02.trans sq) (s02.free fq) ⟨sa, upd_same, fun x hx => (g1 x hx).2.keep sq⟩
end
end K48
set_option Elab.async false
set_option linter.all false
set_option maxRecDepth 100000
set_option maxHeartbeats 4000000
namespace K48
open PySem PySem.Spec PyProof.Rows L2
open C8 (Cal Mak Met pe_c pe_mk pe_mt pe_mt0)
open KM (pr Sz)
theorem pr_prt {R : List Str} (ne : R ≠ []) : pr (prt R) = (1, ((R.length : Nat) : Int)) := by
  have p := List.length_pos_iff.mpr ne
  unfold prt
  rw [← KM.low_eq (by omega)]
  unfold KM.low KM.sg
  have g : Int.gcd 1 ((R.length : Nat) : Int) = 1 := by simp
  rw [g, if_neg (by omega)]
  simp
theorem fr_snoc (ds : List Dy) (d : Dy) : fr (ds ++ [d]) = fr ds ++ d.R.map fun x => (x, prt d.R) := by
  unfold fr
  rw [List.flatMap_append]
  simp
section
variable {P : Program} {w : World} {K : PySem.W.Frag} {mg : Str → Option Value} {base : Heap} {f C : Addr} {fd : FuncData}
def spWn : Sp := fun vs H Q _ => ∃ (d l : Addr) (L : List Str) (c : Str → Rat) (ds : List Dy), vs = [.ref d, .ref l] ∧ TDc H d L c ∧ L.Nodup ∧ L.length ≤ 20 ∧ (∀ x ∈ L, Sz 100 (c x)) ∧ DyL H l ds ∧ ds.length ≤ 30 ∧
  ∀ D H', Same H H' → H D = none → TDc H' D (mvL (L, fun x => -(c x)) (fr ds)).1 (mvL (L, fun x => -(c x)) (fr ds)).2 → Q (.ref D) H'
theorem ok_wn (F : Dn K d_l_wants f fd) (bl : Bl mg) (bd : mg "dict" = none) (cA : Cal P w K mg base 2 "_law_add" spAdd []) : FnOk P w K mg base CX0 4 f fd ["_law_standing_here", "_law_days"] spWn := by
  refine F.ok sc_l_wants (fun vs H Q E h => ?_) (fun cdv A outer s H vs Q E hr h => ?_)
  · obtain ⟨_, _, _, _, _, rfl, _⟩ := h
    rfl
  · obtain ⟨d, l, L, c, ds, rfl, ⟨ad, hd, hv⟩, nd, ll, hz, hDL, dl, hQ⟩ := h
    have hu := hu_of hr
    refine ⟨_, PSs.nox (pss_cons (ps_set (i := 3) sc_l_wants.nd rfl (.inl rfl) (pe_callTy (call_dictP rfl) rfl bd boot_dict (pa_cons (pe_lock (pe_lc (own := [("_law_name", 2)]) (g := gName 2) (tt := tYes) rfl sc_l_wants.nd (pi_keys (pv 0)) (blkOk_by (N := N_l_wants) (sc := defScope s_l_wants) (by decide +kernel))
        (fun _ _ _ _ _ => pg_name (i := 2) sc_l_wants.nd rfl (Or.inl rfl)) (fun _ _ _ _ _ => pts_nil)
        (fun _ _ _ _ _ => pe_tup (pa_cons (pv 2) (pa_cons (pe_tup (pa_cons (pe_op op_sub pe_int (pe_ix (r := rIxT K) ix_tup (pe_dget hu (pv 0) (pv 2) (fun _ _ => rfl)) pe_int (fun _ _ => rfl))) (pa_cons (pe_ix (r := rIxT K) ix_tup (pe_dget hu (pv 0) (pv 2) (fun _ _ => rfl)) pe_int (fun _ _ => rfl)) pa_nil))) pa_nil))))) pa_nil)))
      (pss_cons (ps_for PassesOwn.never rfl (pi_list (pv 1)) (pg_tup rfl (pgs_cons (pg_name (i := 4) sc_l_wants.nd rfl (.inl rfl)) (pgs_cons (pg_name (i := 5) sc_l_wants.nd rfl (.inl rfl)) pgs_nil)))
        (pss_one (ps_for PassesOwn.never rfl (pi_tup (pv 4)) (pg_name (i := 2) sc_l_wants.nd rfl (.inl rfl))
          (pss_one (ps_dput hu (pv 3) (pv 2) (pe_c cA hr (by decide) rfl (pa_cons (pe_dget2 hu (pv 3) (pv 2) (pe_tup (pa_cons pe_int (pa_cons pe_int pa_nil))) ⟨rfl, rfl, rfl, rfl⟩) (pa_cons (pe_tup (pa_cons pe_int (pa_cons (pe_callB call_len_seq rfl bl.len boot_len (pa_cons (pv 4) pa_nil)) pa_nil))) pa_nil))) rfl)))))
      (pss_one (ps_ret (pv 3))))), ?_⟩
    refine ⟨d, _, hd, trivial, fun od => ?_⟩
    obtain ⟨hd1, kp1, new1, back1⟩ := lockf (C := 0) hd od
    have hv1 : ∀ x ∈ L, (upd H d (.frz od (dctO L fun x => .ref (ad x)))) (ad x) = some (tupP (pr (c x))) := fun x hx => kp1 _ _ (hv x hx) fun z => by have := hv x hx; rw [z, hd] at this; cases this
    generalize upd H d (.frz od (dctO L fun x => .ref (ad x))) = H1 at hd1 kp1 new1 back1 hv1
    refine ⟨_, rfl, d, od, rfl, .inl ⟨_, hd1, fun D hD => lc_it walk_keys (fun i H2 => ∃ (pa sa : Str → Addr), H2 D = some (.lst ((L.take i).map fun x => V.ref (pa x))) ∧ (∀ x ∈ L.take i, H2 (pa x) = some (.tup [.str x, .ref (sa x)]) ∧ H2 (sa x) = some (tupP (pr (-(c x))))) ∧ Same H1 H2)
      ⟨fun _ => 0, fun _ => 0, upd_same, fun x hx => by simp at hx, same_new hD⟩ (fun i H2 _ z => by obtain ⟨_, _, _, _, sm⟩ := z; exact sm _ _ hd1) ?_ ?_⟩⟩
    · rintro i x H2 H3 hi ⟨pa, sa, hdd, hval, sm⟩ ⟨eH, kk, v, hkk, rfl⟩
      have eH := eH.symm
      subst eH
      rw [List.length_map] at hi
      rw [List.getElem?_map] at hkk
      obtain ⟨z, hz0, e0⟩ := Option.map_eq_some_iff.mp hkk
      cases e0
      have hzL := List.mem_of_getElem? hz0
      have nz := nin_take nd hz0
      refine ⟨rfl, ?_⟩
      have dg : DGet H2 d (.str z) (some (.ref (ad z))) := .inl ⟨_, Sum.inr z, .inr ⟨od, sm _ _ hd1⟩, rfl, by rw [val_dct, if_pos hzL]⟩
      have hvz := sm _ _ (hv1 z hzL)
      refine ⟨_, rfl, _, rfl, _, rfl, d, _, rfl, dg, ad z, _, _, _, rfl, rfl, SqT.of hvz, atI_nat (j := 0) rfl, _, _, rfl, rfl, _, rfl, _, rfl, d, _, rfl, dg, ad z, _, _, _, rfl, rfl, SqT.of hvz, atI_nat (j := 1) rfl, by show 2 ≤ sizeLine; decide, fun t ft => ⟨by show 2 ≤ sizeLine; decide, fun q fq => ?_⟩⟩
      have et : (HO.tup [V.int (0 - (pr (c z)).1), V.int (pr (c z)).2]) = tupP (pr (-(c z))) := by rw [← pr_neg]; rfl
      rw [et] at fq ⊢
      have s4 := same_new (o := tupP (pr (-(c z)))) ft
      have ht : (upd H2 t (tupP (pr (-(c z))))) t = some (tupP (pr (-(c z)))) := upd_same
      generalize upd H2 t (tupP (pr (-(c z)))) = H4 at s4 ht fq ⊢
      have sq := same_new (o := .tup [.str z, .ref t]) fq
      have s24 := s4.trans sq
      have hD4 := s24 _ _ hdd
      refine ⟨_, hD4, by rw [List.length_map, List.length_take]; exact line_lt (by omega), fun x => if x = z then q else pa x, fun x => if x = z then t else sa x, ?_, fun x hx => ?_, fun b o e => ?_⟩
      · rw [upd_same, take_one hz0, List.map_append]
        have e1 : (L.take i).map (fun x => V.ref (pa x)) = (L.take i).map fun x => V.ref (if x = z then q else pa x) := List.map_congr_left fun x hx => by rw [if_neg (show ¬ x = z from fun e => nz (e ▸ hx))]
        rw [e1]
        simp
      · have nD : ∀ {p : Addr} {o : HO}, (upd H4 q (.tup [.str z, .ref t])) p = some o → (∀ ys, o ≠ .lst ys) → p ≠ D := fun {p o} e n zz => by
          rw [zz, hD4] at e
          exact n _ (Option.some.inj e).symm
        rw [take_one hz0] at hx
        by_cases e : x = z
        · subst e
          dsimp only
          rw [if_pos rfl, if_pos rfl]
          refine ⟨?_, ?_⟩
          · rw [upd_ne (nD upd_same (fun ys e => by cases e))]
            exact upd_same
          · have e2 := sq _ _ ht
            rw [upd_ne (nD e2 (fun ys e => by cases e))]
            exact e2
        · have hx' : x ∈ L.take i := by
            rcases List.mem_append.mp hx with q' | q'
            · exact q'
            · exact absurd (List.mem_singleton.mp q') e
          obtain ⟨h1, h2⟩ := hval x hx'
          dsimp only
          rw [if_neg e, if_neg e]
          have g1 := s24 _ _ h1
          have g2 := s24 _ _ h2
          exact ⟨by rw [upd_ne (nD g1 (fun ys e => by cases e))]; exact g1, by rw [upd_ne (nD g2 (fun ys e => by cases e))]; exact g2⟩
      · rw [upd_ne (ne_of_none e hD)]
        exact s24 _ _ (sm _ _ e)
    rintro H2 ⟨pa, sa, hdd, hval, sm⟩
    rw [List.length_map, List.take_length] at hdd hval
    obtain ⟨nD, nDd⟩ := new1 D hD
    have hd2 := sm _ _ hd1
    have s02 := back1 H2 sm
    refine ⟨hd2, ?_⟩
    have g0 : (upd H2 d (dctO L fun x => .ref (ad x))) D = some (.lst (L.map fun x => V.ref (pa x))) := by rw [upd_ne nDd]; exact hdd
    have g1 : ∀ x ∈ L, (upd H2 d (dctO L fun x => .ref (ad x))) (pa x) = some (.tup [.str x, .ref (sa x)]) ∧ (upd H2 d (dctO L fun x => .ref (ad x))) (sa x) = some (tupP (pr (-(c x)))) := fun x hx => by
      obtain ⟨h1, h2⟩ := hval x hx
      exact ⟨by rw [upd_ne fun z => by rw [z, hd2] at h1; cases h1]; exact h1, by rw [upd_ne fun z => by rw [z, hd2] at h2; cases h2]; exact h2⟩
    generalize upd H2 d (dctO L fun x => .ref (ad x)) = H3 at s02 g0 g1
    refine ⟨D, L.map pa, L.map fun x => ((Sum.inr x : Key), V.ref (sa x)), rfl, by rw [List.map_map]; exact SqL.of g0, paired_map fun x hx => SqT.of (g1 x hx).1, fun q fq => ?_⟩
    have em : mergeK [] (L.map fun x => ((Sum.inr x : Key), V.ref (sa x))) = L.map fun x => ((Sum.inr x : Key), V.ref (sa x)) := DQ.merge_map (fun x => V.ref (sa x)) (l := L) (m := []) nd
    rw [em]
    have sq := same_new (o := .dK (L.map fun x => ((Sum.inr x : Key), V.ref (sa x)))) fq
    have T0 : TDc (upd H3 q (.dK (L.map fun x => ((Sum.inr x : Key), V.ref (sa x))))) q L (fun x => -(c x)) := ⟨sa, upd_same, fun x hx => sq _ _ (g1 x hx).2⟩
    have s04 := s02.trans sq
    have fq0 : H q = none := s02.free fq
    generalize upd H3 q (.dK (L.map fun x => ((Sum.inr x : Key), V.ref (sa x)))) = H4 at T0 s04
    clear g0 g1 em sq s02 hdd hval sm hd1 kp1 new1 back1 hv1 fq hd2
    -- the days
    have gz0 : ∀ x, Sz 100 (get0 L (fun x => -(c x)) x) := fun x => by
      unfold get0
      split
      · rename_i hx
        exact sz_neg (hz x hx)
      · exact sz0 (by decide)
    have fz : ∀ p ∈ fr ds, Sz 4 p.2 := fr_sz fun y hy => ⟨(hDL.2 y hy).ne, (hDL.2 y hy).l12⟩
    refine ⟨_, rfl, l, rfl, ⟨_, SqL.of (s04 _ _ hDL.1)⟩, for_list (K := K) (xs := ds.map fun d => V.ref d.a) (fun i σ H' => ∃ (v2 v4 v5 : Option V), σ = [some (.ref d), some (.ref l), v2, some (.ref q), v4, v5] ∧ Same H H' ∧ TDc H' q (mvL (L, fun x => -(c x)) (fr (ds.take i))).1 (mvL (L, fun x => -(c x)) (fr (ds.take i))).2)
      ⟨_, _, _, rfl, s04, T0⟩ (fun i σ H' _ z => by obtain ⟨_, _, _, _, sm, _⟩ := z; exact SqL.of (sm _ _ hDL.1)) ?_ ?_⟩
    · rintro i v σ H5 hi ⟨v2, v4, v5, rfl, s5, T5⟩
      rw [List.getElem?_map] at hi
      obtain ⟨y, hy, rfl⟩ := Option.map_eq_some_iff.mp hi
      have hym := List.mem_of_getElem? hy
      have il := (List.getElem?_eq_some_iff.mp hy).1
      have oy := (hDL.2 y hym).same s5
      have fl := fr_len (ds := ds.take i) fun z hz => (hDL.2 z (List.mem_of_mem_take hz)).l12
      have tl : (ds.take i).length ≤ 29 := by rw [List.length_take]; omega
      refine ⟨y.a, _, rfl, SqT.of oy.t, rfl, _, _, rfl, _, _, rfl, rfl, ?_⟩
      refine ⟨_, rfl, y.ra, rfl, ⟨_, SqT.of oy.r⟩, for_tup (K := K) (xs := y.R.map V.str) (fun j σ H' => ∃ (v2 : Option V), σ = [some (.ref d), some (.ref l), v2, some (.ref q), some (.ref y.ra), some (.ref y.ba)] ∧ Same H H' ∧ (∀ b ys, H5 b = some (.tup ys) → H' b = some (.tup ys)) ∧ TDc H' q (mvL (L, fun x => -(c x)) (fr (ds.take i) ++ (y.R.take j).map fun x => (x, prt y.R))).1 (mvL (L, fun x => -(c x)) (fr (ds.take i) ++ (y.R.take j).map fun x => (x, prt y.R))).2)
        ⟨_, rfl, s5, fun _ _ e => e, by rw [List.take_zero, List.map_nil, List.append_nil]; exact T5⟩ (fun j σ H' _ z => by obtain ⟨_, _, _, z, _⟩ := z; exact SqT.of (z _ _ oy.r)) ?_ ?_⟩
      · rintro j v σ H6 hj ⟨v2, rfl, s6, k6, a6, hd6, hv6⟩
        rw [List.getElem?_map] at hj
        obtain ⟨z, hz0, rfl⟩ := Option.map_eq_some_iff.mp hj
        have jl := (List.getElem?_eq_some_iff.mp hz0).1
        obtain ⟨ms, hms⟩ : ∃ ms, ms = fr (ds.take i) ++ (y.R.take j).map fun x => (x, prt y.R) := ⟨_, rfl⟩
        have ml : ms.length ≤ 360 := by
          rw [hms, List.length_append, List.length_map, List.length_take]
          have := oy.l12
          omega
        have mz : ∀ p ∈ ms, Sz 4 p.2 := fun p hp => by
          rw [hms] at hp
          rcases List.mem_append.mp hp with hp | hp
          · exact fr_sz (ds := ds.take i) (fun w hw => ⟨(hDL.2 w (List.mem_of_mem_take hw)).ne, (hDL.2 w (List.mem_of_mem_take hw)).l12⟩) p hp
          · obtain ⟨x, _, rfl⟩ := List.mem_map.mp hp
            exact sz_prt oy.ne oy.l12
        have gz := mvL_sz ms (L, fun x => -(c x)) 100 gz0 mz
        have ul := mvL_len ms (L, fun x => -(c x))
        have en : mvL (L, fun x => -(c x)) (fr (ds.take i) ++ (y.R.take (j + 1)).map fun x => (x, prt y.R)) = mv (mvL (L, fun x => -(c x)) ms) (z, prt y.R) := by
          rw [take_one hz0, List.map_append, ← List.append_assoc, ← hms]
          exact mvL_snoc _ _ _
        rw [en]
        rw [← hms] at hd6 hv6
        generalize mvL (L, fun x => -(c x)) ms = u at hd6 hv6 gz ul en
        have ul : u.1.length ≤ L.length + ms.length := ul
        refine ⟨_, rfl, q, rfl, .inl ⟨_, .inl hd6⟩, _, rfl, by show 2 ≤ sizeLine; decide, fun t2 ft2 => ?_⟩
        have st := same_new (o := .tup [.int 0, .int 1]) ft2
        have dg : DGet (upd H6 t2 (.tup [.int 0, .int 1])) q (.str z) (valV (u.1.map fun y => ((Sum.inr y : Key), V.ref (a6 y))) (Sum.inr z)) := DGet.k (k := Sum.inr z) (st _ _ hd6)
        rw [val_dct] at dg
        obtain ⟨w0, hw0, hw1⟩ : ∃ w0, ((if z ∈ u.1 then some (V.ref (a6 z)) else none).getD (.ref t2)) = .ref w0 ∧ (upd H6 t2 (.tup [.int 0, .int 1])) w0 = some (tupP (pr (get0 u.1 u.2 z))) := by
          unfold get0
          by_cases hzu : z ∈ u.1
          · rw [if_pos hzu, if_pos hzu]
            exact ⟨_, rfl, st _ _ (hv6 z hzu)⟩
          · rw [if_neg hzu, if_neg hzu]
            exact ⟨_, rfl, upd_same⟩
        generalize upd H6 t2 (.tup [.int 0, .int 1]) = H7 at st dg hw1
        refine ⟨_, dg, _, rfl, y.ra, _, rfl, .inr (SqT.of (st _ _ (k6 _ _ oy.r))), by show 2 ≤ sizeLine; decide, fun t8 ft8 => ?_⟩
        have s8 := same_new (o := .tup [.int 1, .int (((y.R.map V.str).length : Nat) : Int)]) ft8
        have h8 : (upd H7 t8 (.tup [.int 1, .int (((y.R.map V.str).length : Nat) : Int)])) t8 = some (tupP (pr (prt y.R))) := by
          rw [upd_same, pr_prt oy.ne, List.length_map]
          rfl
        generalize upd H7 t8 (.tup [.int 1, .int (((y.R.map V.str).length : Nat) : Int)]) = H8 at s8 h8
        refine ⟨w0, t8, _, _, 3900, (by rw [hw0]; rfl), s8 _ _ hw1, h8, ⟨bd_of ((gz z).mono (by omega)), bd_of ((sz_prt oy.ne oy.l12).mono (by decide)), by decide, by decide⟩, fun r1 fr1 => ?_⟩
        rw [KM.pr_plus]
        have sr := same_new (o := tupP (pr (get0 u.1 u.2 z + prt y.R))) fr1
        have s69 := (st.trans s8).trans sr
        have hd9 := s69 _ _ hd6
        have P1 := TDc.put (x := z) (v := get0 u.1 u.2 z + prt y.R) hd9 (fun y hy => s69 _ _ (hv6 y hy)) upd_same
        refine ⟨_, rfl, _, rfl, q, _, rfl, DPut.k (k := Sum.inr z) hd9 (by rw [List.length_map]; exact line_lt (by omega)), _, rfl, fun b o e => ?_, fun b ys e => ?_, P1⟩
        · rw [upd_ne (ne_of_none e fq0)]
          exact s69 _ _ (s6 _ _ e)
        · rw [upd_ne (ne_of (s69 _ _ (k6 _ _ e)) hd9 (by intro z; cases z))]
          exact s69 _ _ (k6 _ _ e)
      · rintro σ H6 ⟨v2, rfl, s6, k6, T6⟩
        rw [List.length_map, List.take_length] at T6
        refine ⟨_, _, _, rfl, s6, ?_⟩
        rw [take_one hy, fr_snoc]
        exact T6
    · rintro σ H5 ⟨v2, v4, v5, rfl, s5, T5⟩
      rw [List.length_map, List.take_length] at T5
      exact ⟨_, rfl, hQ q H5 s5 fq0 T5⟩
end
end K48
set_option Elab.async false
set_option linter.all false
set_option maxRecDepth 100000
set_option maxHeartbeats 4000000
namespace K48
open PySem PySem.Spec PyProof.Rows L2
open C8 (Cal Mak Met pe_c pe_mk pe_mt pe_mt0)
open KM (pr Sz)
theorem TDc.kp {h D : Addr} {H H' : Hp} {n : Nat} {L : List Str} {c : Str → Rat} (t : TDc H D L c) (k : Kp h H H') (x : Held H h n) (ne : D ≠ h) : TDc H' D L c := by
  obtain ⟨ad, h1, h2⟩ := t
  exact ⟨ad, k.1 _ _ h1 ne, fun x hx => kp_tup k ‹_› _ _ (h2 x hx)⟩
theorem addK_new {L : List Str} {x : Str} (h : x ∉ L) : addK L x = L ++ [x] := if_neg h
theorem sum_put {L : List Str} {c : Str → Rat} {x : Str} {v : Rat} (h : x ∉ L) : sumR ((L ++ [x]).map (setc c x v)) = sumR (L.map c) + v := by
  rw [List.map_append, sumR_app]
  have e : L.map (setc c x v) = L.map c := List.map_congr_left fun y hy => by
    unfold setc
    rw [if_neg (show ¬ y = x from fun z => h (z ▸ hy))]
  rw [e]
  show _ + sumR [setc c x v x] = _
  unfold setc
  rw [if_pos rfl]
  show _ + (0 + v) = _
  rw [Rat.zero_add]
theorem TDc.add {H : Hp} {D r : Addr} {L : List Str} {c : Str → Rat} {x : Str} {v : Rat} (t : TDc H D L c) (hr : H r = some (tupP (pr v))) : ∃ kvs : List (Key × V), H D = some (.dK kvs) ∧ kvs.length = L.length ∧ TDc (upd H D (.dK (putK kvs (Sum.inr x) (.ref r)))) D (addK L x) (setc c x v) := by
  obtain ⟨ad, h1, h2⟩ := t
  exact ⟨_, h1, by rw [List.length_map], TDc.put h1 h2 hr⟩
theorem TDc.dg {H : Hp} {D : Addr} {L : List Str} {c : Str → Rat} {x : Str} (t : TDc H D L c) (hx : x ∈ L) : ∃ a, DGet H D (.str x) (some (.ref a)) ∧ H a = some (tupP (pr (c x))) := by
  obtain ⟨ad, h1, h2⟩ := t
  refine ⟨ad x, ?_, h2 x hx⟩
  have dg : DGet H D (.str x) (valV (L.map fun y => ((Sum.inr y : Key), V.ref (ad y))) (Sum.inr x)) := DGet.k (k := Sum.inr x) h1
  rw [val_dct, if_pos hx] at dg
  exact dg
theorem cut1 (x : Str) (xs : List Str) : cutV ((x :: xs).map V.str) (some 1) none = xs.map V.str := by
  unfold cutV HT.sIx
  rw [List.length_map, List.length_cons]
  have e1 : ((1 : Int) < 0) = False := by simp
  simp only [e1, if_false]
  have e2 : min (1 : Int).toNat (xs.length + 1) = 1 := by show min 1 (xs.length + 1) = 1; omega
  simp [e2]
  exact List.take_of_length_le (by simp)
/-- what stands while credits are drawn -/
structure SgI (H0 : Hp) (h D r : Addr) (ys : List Str) (L : List Str) (c : Str → Rat) (n : Nat) (H : Hp) : Prop where
  held : Held H h n
  k : Kp h H0 H
  ce : Cel h D H
  t : TDc H D L c
  r : H r = some (tupP (pr (-(sumR (L.map c)))))
  nd : L.Nodup
  sub : ∀ x ∈ L, x ∈ ys
  sz : ∀ x ∈ L, Sz 8 (c x)
  l11 : L.length ≤ 11
section
variable {P : Program} {w : World} {K : PySem.W.Frag} {mg : Str → Option Value} {base : Heap} {f C : Addr} {fd : FuncData}
def spSg : Sp := fun vs H Q _ => ∃ (h nl : Addr) (n : Nat) (xs : List Str), vs = [.ref h, .ref nl] ∧ Held H h (n + 80) ∧ H nl = some (.lst (xs.map V.str)) ∧ xs ≠ [] ∧ xs.Nodup ∧ xs.length ≤ 12 ∧
  ∀ (D : Addr) (L : List Str) (c : Str → Rat) (H' : Hp), Held H' h n → Kp h H H' → H D = none → Cel h D H' → TDc H' D L c → L.Nodup → L.length ≤ 12 → (∀ x ∈ L, x ∈ xs ∧ Sz 100 (c x)) → sumR (L.map c) = 0 → Q (.ref D) H'
theorem ok_sg (F : Dn K d_l_standing f fd) (bl : Bl mg) (cD : CalD P w K mg base) (cL : CalL P w K mg base) (cA : Cal P w K mg base 2 "_law_add" spAdd []) : FnOk P w K mg base CX0 4 f fd ["_law_held_here", "_law_names_here"] spSg := by
  refine F.ok sc_l_standing (fun vs H Q E h => ?_) (fun cdv A outer s H vs Q E hr h => ?_)
  · obtain ⟨_, _, _, _, rfl, _⟩ := h
    rfl
  · obtain ⟨h, nl, n, xs, rfl, hld, hnl, xne, xnd, xl, hQ⟩ := h
    have hu := hu_of hr
    refine ⟨_, PSs.nox (pss_cons (ps_par (i := 2) (j := 3) rfl sc_l_standing.nd rfl rfl (by decide) rfl rfl (pa_cons pe_dnewK (pa_cons (pe_tup (pa_cons pe_int (pa_cons pe_int pa_nil))) pa_nil)) rfl)
      (pss_cons (ps_for PassesOwn.never rfl (pi_list (pe_slice sl_list (pv 1) (po_some pe_int) po_none)) (pg_name (i := 4) sc_l_standing.nd rfl (.inl rfl))
        (pss_one (ps_if (pt_cmpR op_gt (pe_c cD hr (by decide) rfl (pa_cons (pv 0) (pa_cons pe_int pa_nil))) pe_int (nomark _))
          (pss_cons (ps_set (i := 5) sc_l_standing.nd rfl (.inl rfl) (pe_op op_add pe_int (pe_ix (r := rIxL K) ix_list (pe_lst (pa_cons (pe_c cD hr (by decide) rfl (pa_cons (pv 0) (pa_cons pe_int pa_nil))) (pa_cons (pe_c cD hr (by decide) rfl (pa_cons (pv 0) (pa_cons pe_int pa_nil))) pa_nil))) (pe_c cD hr (by decide) rfl (pa_cons (pv 0) (pa_cons pe_int pa_nil))) (fun _ _ => rfl))))
          (pss_cons (ps_dput hu (pv 2) (pv 4) (pe_c cL hr (by decide) rfl (pa_cons (pe_op op_sub (pe_c cD hr (by decide) rfl (pa_cons (pv 0) (pa_cons pe_int pa_nil))) pe_int) (pa_cons (pv 5) pa_nil))) rfl)
          (pss_one (ps_set (i := 3) sc_l_standing.nd rfl (.inl rfl) (pe_c cA hr (by decide) rfl (pa_cons (pv 3) (pa_cons (pe_tup (pa_cons (pe_op op_sub pe_int (pe_ix (r := rIxT K) ix_tup (pe_dget hu (pv 2) (pv 4) (fun _ _ => rfl)) pe_int (fun _ _ => rfl))) (pa_cons (pe_ix (r := rIxT K) ix_tup (pe_dget hu (pv 2) (pv 4) (fun _ _ => rfl)) pe_int (fun _ _ => rfl)) pa_nil))) pa_nil))))))) pss_nil)))
      (C8.pss_cut (ps_if (PW.pt (pw_or (pt_cmpR op_ne (pe_ix (r := rIxT K) ix_tup (pv 3) pe_int (fun _ _ => rfl)) pe_int (nomark _)) (pw_or1 (pt_cmpR op_eq (pe_c cD hr (by decide) rfl (pa_cons (pv 0) (pa_cons pe_int pa_nil))) pe_int (nomark _)))))
          (pss_one (ps_dput hu (pv 2) (pe_ix (r := rIxL K) ix_list (pv 1) pe_int (fun _ _ => rfl)) (pv 3) rfl)) pss_nil)
      (pss_one (ps_ret (pv 2)))))), ?_⟩
    obtain ⟨x0, xs, rfl⟩ : ∃ x0 ys, xs = x0 :: ys := by
      cases xs with
      | nil => exact absurd rfl xne
      | cons a b => exact ⟨a, b, rfl⟩
    obtain ⟨x0n, xnd2⟩ := List.nodup_cons.mp xnd
    rw [List.length_cons] at xl
    intro D fD
    have sD := same_new (o := .dK []) fD
    have T0 : TDc (upd H D (.dK [])) D [] (fun _ => 0) := ⟨fun _ => 0, upd_same, fun x hx => nomatch hx⟩
    have ce0 := (Cel.of hld fD).kp (Kp.same sD)
    have held0 := hld.same sD
    generalize upd H D (.dK []) = H1 at sD T0 ce0 held0 ⊢
    refine ⟨by show 2 ≤ sizeLine; decide, fun r fr => ⟨_, _, rfl, ?_⟩⟩
    have sr := same_new (o := .tup [.int 0, .int 1]) fr
    have I0 : SgI H h D r xs [] (fun _ => 0) (n + 80) (upd H1 r (.tup [.int 0, .int 1])) := ⟨held0.same sr, (Kp.same sD).trans (Kp.same sr), ce0.kp (Kp.same sr), T0.same sr, upd_same, List.nodup_nil, fun x hx => (nomatch hx), fun x hx => (nomatch hx), Nat.zero_le _⟩
    have hnl2 := sr _ _ (sD _ _ hnl)
    generalize upd H1 r (.tup [.int 0, .int 1]) = H2 at I0 hnl2
    refine ⟨_, rfl, _, rfl, nl, _, rfl, SqL.of hnl2, fun sl fsl => ?_⟩
    rw [cut1]
    have ss := same_new (o := .lst (xs.map V.str)) fsl
    have I1 : SgI H h D r xs [] (fun _ => 0) (n + 80) (upd H2 sl (.lst (xs.map V.str))) := ⟨I0.held.same ss, I0.k.trans (Kp.same ss), I0.ce.kp (Kp.same ss), I0.t.same ss, ss _ _ I0.r, I0.nd, I0.sub, I0.sz, I0.l11⟩
    have hsl : (upd H2 sl (.lst (xs.map V.str))) sl = some (.lst (xs.map V.str)) := upd_same
    have nDs : sl ≠ D := fun z => by
      obtain ⟨ad, e, _⟩ := I0.t
      exact ne_of_none e fsl z.symm
    generalize upd H2 sl (.lst (xs.map V.str)) = H3 at I1 hsl
    refine ⟨sl, rfl, ⟨_, SqL.of hsl⟩, for_list (K := K) (xs := xs.map V.str) (fun i σ H' => ∃ (v4 v5 : Option V) (r : Addr) (L : List Str) (c : Str → Rat), σ = [some (.ref h), some (.ref nl), some (.ref D), some (.ref r), v4, v5] ∧ SgI H h D r (xs.take i) L c (n + 80 - 6 * i) H' ∧ H' sl = some (.lst (xs.map V.str)) ∧ L.length ≤ i)
      ⟨_, _, r, [], fun _ => 0, rfl, ⟨I1.held, I1.k, I1.ce, I1.t, I1.r, I1.nd, fun x hx => (nomatch hx), I1.sz, I1.l11⟩, hsl, Nat.le_refl _⟩ (fun i σ H' _ z => by obtain ⟨_, _, _, _, _, _, _, z, _⟩ := z; exact SqL.of z) ?_ ?_⟩
    · rintro i v σ Ha hi ⟨v4, v5, r, L, c, rfl, I, hsa, li⟩
      rw [List.getElem?_map] at hi
      obtain ⟨x, hx, rfl⟩ := Option.map_eq_some_iff.mp hi
      have il := (List.getElem?_eq_some_iff.mp hx).1
      have xnT : x ∉ xs.take i := nin_take xnd2 hx
      have xnL : x ∉ L := fun z => xnT (I.sub x z)
      have heldA := I.held
      refine ⟨_, rfl, h, n + 80 - 6 * i - 1, 4, rfl, heldA.weak (by omega), by decide, by decide, fun a1 Hb a10 a11 heldb kb => ⟨_, _, rfl, rfl, _, rfl, ?_⟩⟩
      have subN : ∀ y ∈ L, y ∈ xs.take (i + 1) := fun y hy => by rw [take_one hx]; exact List.mem_append_left _ (I.sub y hy)
      have slne : sl ≠ h := by
        obtain ⟨l', ns, m1, m2, e1, _⟩ := heldA
        intro z
        rw [z, e1] at hsa
        cases hsa
      refine ite2 (fun _ => ?_) (fun _ => ⟨_, _, r, L, c, rfl, ⟨heldb.weak (by omega), I.k.trans kb, I.ce.kp kb, I.t.kp kb heldA I.ce.ne, kp_tup kb heldA _ _ I.r, I.nd, subN, I.sz, I.l11⟩, kb.1 _ _ hsa slne, by omega⟩)
      refine ⟨_, rfl, h, n + 80 - 6 * i - 2, 6, rfl, heldb.weak (by omega), by decide, by decide, fun b1 Hc b10 b11 heldc kc => ⟨_, rfl, h, n + 80 - 6 * i - 3, 200, rfl, heldc.weak (by omega), by decide, by decide, fun b2 Hd b20 b21 heldd kd => ⟨by show 2 ≤ sizeLine; decide, fun pl fpl => ?_⟩⟩⟩
      have sp := same_new (o := .lst [V.int b1, V.int b2]) fpl
      have hpl : (upd Hd pl (.lst [V.int b1, V.int b2])) pl = some (.lst [V.int b1, V.int b2]) := upd_same
      have held1 := heldd.same sp
      have k1 := ((kb.trans kc).trans kd).trans (Kp.same sp)
      generalize upd Hd pl (.lst [V.int b1, V.int b2]) = He at hpl held1 k1
      refine ⟨_, rfl, h, n + 80 - 6 * i - 4, 2, rfl, held1.weak (by omega), by decide, by decide, fun e1 Hf e10 e11 heldf kf => ?_⟩
      have hplf := kp_lst kf held1 _ _ hpl
      obtain ⟨bv, hbv, bv0, bv1⟩ : ∃ bv : Int, atI [V.int b1, V.int b2] e1 = some (V.int bv) ∧ 0 ≤ bv ∧ bv < 200 := by
        have : e1 = 0 ∨ e1 = 1 := by omega
        rcases this with rfl | rfl
        · exact ⟨b1, rfl, b10, by omega⟩
        · exact ⟨b2, rfl, b20, b21⟩
      refine ⟨pl, _, _, _, rfl, rfl, SqL.of hplf, hbv, _, _, rfl, rfl, ?_⟩
      refine ⟨_, rfl, h, n + 80 - 6 * i - 5, 41, rfl, heldf.weak (by omega), by decide, by decide, fun t1 Hg t10 t11 heldg kg => ⟨_, _, rfl, rfl, _, rfl, ?_⟩⟩
      have kA := (k1.trans kf).trans kg
      have e8 : (2 : Nat) ^ 8 = 256 := by decide
      refine ⟨t1 - 20, 1 + bv, 8, rfl, by omega, by rw [e8]; omega, by decide, by decide, fun q fq => ?_⟩
      rw [KM.low_eq (show (1 + bv : Int) ≠ 0 by omega)]
      have zv : Sz 8 (Rat.divInt (t1 - 20) (1 + bv)) := KM.sz_of_low (by omega) (by rw [e8]; omega) (by rw [e8]; omega)
      obtain ⟨v0, hv0⟩ : ∃ v0, v0 = Rat.divInt (t1 - 20) (1 + bv) := ⟨_, rfl⟩
      rw [← hv0] at zv ⊢
      have sq := same_new (o := tupP (pr v0)) fq
      have hq : (upd Hg q (tupP (pr v0))) q = some (tupP (pr v0)) := upd_same
      have kQ := kA.trans (Kp.same sq)
      have heldq := heldg.same sq
      generalize upd Hg q (tupP (pr v0)) = Hh at hq kQ heldq
      have ceq := I.ce.kp kQ
      have Tq := I.t.kp kQ heldA I.ce.ne
      obtain ⟨kvs, hDk, lk, Tn⟩ := Tq.add (x := x) hq
      have hrq := kp_tup kQ heldA _ _ I.r
      have hsq := kQ.1 _ _ hsa slne
      refine ⟨_, rfl, _, rfl, D, _, rfl, DPut.k (k := Sum.inr x) hDk (by rw [lk]; exact line_lt (by omega)), ?_⟩
      rw [addK_new xnL] at Tn
      have heldn := heldq.put (o := .dK (putK kvs (Sum.inr x) (.ref q))) ceq
      have cen := ceq.put (o := .dK (putK kvs (Sum.inr x) (.ref q))) ceq.ne.symm
      have kn : Kp h H (upd Hh D (.dK (putK kvs (Sum.inr x) (.ref q)))) := (I.k.trans kQ).new fD
      have hrn : (upd Hh D (.dK (putK kvs (Sum.inr x) (.ref q)))) r = some (tupP (pr (-(sumR (L.map c))))) := by rw [upd_ne (ne_of hrq hDk (by intro z; cases z))]; exact hrq
      have hsn : (upd Hh D (.dK (putK kvs (Sum.inr x) (.ref q)))) sl = some (.lst (xs.map V.str)) := by rw [upd_ne nDs]; exact hsq
      generalize upd Hh D (.dK (putK kvs (Sum.inr x) (.ref q))) = Hi at Tn heldn cen kn hrn hsn
      obtain ⟨a9, dg, h9⟩ := Tn.dg (x := x) (List.mem_append_right _ (List.mem_singleton.mpr rfl))
      have ecx : setc c x v0 x = v0 := if_pos rfl
      rw [ecx] at h9
      refine ⟨_, rfl, _, rfl, _, rfl, D, _, rfl, dg, a9, _, _, _, rfl, rfl, SqT.of h9, atI_nat (j := 0) rfl, _, _, rfl, rfl, _, rfl, _, rfl, D, _, rfl, dg, a9, _, _, _, rfl, rfl, SqT.of h9, atI_nat (j := 1) rfl, by show 2 ≤ sizeLine; decide, fun t8 ft8 => ?_⟩
      have et : (HO.tup [V.int (0 - (pr v0).1), V.int (pr v0).2]) = tupP (pr (-v0)) := by rw [← pr_neg]; rfl
      rw [et]
      have s8 := same_new (o := tupP (pr (-v0))) ft8
      have h8 : (upd Hi t8 (tupP (pr (-v0)))) t8 = some (tupP (pr (-v0))) := upd_same
      generalize upd Hi t8 (tupP (pr (-v0))) = Hj at s8 h8
      have zs := sz_neg (sz_sum (k := 8) (rs := L.map c) fun y hy => by
        obtain ⟨u, hu, rfl⟩ := List.mem_map.mp hy
        exact I.sz u hu)
      rw [List.length_map] at zs
      have l11 := I.l11
      refine ⟨r, t8, _, _, 3900, rfl, s8 _ _ hrn, h8, ⟨bd_of (zs.mono (by omega)), bd_of ((sz_neg zv).mono (by decide)), by decide, by decide⟩, fun r1 fr1 => ?_⟩
      rw [KM.pr_plus]
      have s9 := same_new (o := tupP (pr (-(sumR (L.map c)) + -v0))) fr1
      have s10 := s8.trans s9
      have en : -(sumR ((L ++ [x]).map (setc c x v0))) = -(sumR (L.map c)) + -v0 := by rw [sum_put xnL, Rat.neg_add]
      refine ⟨_, _, r1, L ++ [x], setc c x v0, rfl, ⟨(heldn.same s10).weak (by omega), kn.trans (Kp.same s10), cen.kp (Kp.same s10), Tn.same s10, by rw [en]; exact upd_same, ?_, fun y hy => ?_, fun y hy => ?_, by rw [List.length_append]; show L.length + 1 ≤ 11; omega⟩, s10 _ _ hsn, by rw [List.length_append]; show L.length + 1 ≤ i + 1; omega⟩
      · rw [← addK_new xnL]
        exact addK_nd I.nd
      · rcases List.mem_append.mp hy with z | z
        · exact subN y z
        · rw [List.mem_singleton.mp z, take_one hx]
          exact List.mem_append_right _ (List.mem_singleton.mpr rfl)
      · unfold setc
        split
        · exact zv
        · rename_i ne
          rcases List.mem_append.mp hy with z | z
          · exact I.sz y z
          · exact absurd (List.mem_singleton.mp z) ne
    rintro σ Ha ⟨v4, v5, r, L, c, rfl, I, hsa, li⟩
    rw [List.length_map, List.take_length] at I
    rw [List.length_map] at li
    have x0L : x0 ∉ L := fun z => x0n (I.sub x0 z)
    have zc : ∀ x ∈ L, x ∈ x0 :: xs ∧ Sz 100 (c x) := fun x hx => ⟨List.mem_cons_of_mem _ (I.sub x hx), (I.sz x hx).mono (by decide)⟩
    have zs := sz_neg (sz_sum (k := 8) (rs := L.map c) fun y hy => by
      obtain ⟨u, hu, rfl⟩ := List.mem_map.mp hy
      exact I.sz u hu)
    rw [List.length_map] at zs
    have l11 := I.l11
    have heldA := I.held
    -- the rest put in
    have putR : ∀ {Hz : Hp} {m : Nat}, Kp h Ha Hz → Held Hz h m → n ≤ m → ∃ kvs : List (Key × V), Hz D = some (.dK kvs) ∧ kvs.length = L.length ∧ Hz nl = some (.lst ((x0 :: xs).map V.str)) ∧ Q (.ref D) (upd Hz D (.dK (putK kvs (Sum.inr x0) (.ref r)))) := fun {Hz m} kz hz nm => by
      have Tz := I.t.kp kz heldA I.ce.ne
      have rz := kp_tup kz heldA _ _ I.r
      obtain ⟨kvs, e1, e2, T⟩ := Tz.add (x := x0) rz
      rw [addK_new x0L] at T
      have cz := I.ce.kp kz
      refine ⟨kvs, e1, e2, kp_lst (I.k.trans kz) hld _ _ hnl, hQ D _ _ _ ((hz.put cz).weak nm) ((I.k.trans kz).new fD) fD (cz.put cz.ne.symm) T ?_ ?_ (fun y hy => ?_) ?_⟩
      · rw [← addK_new x0L]
        exact addK_nd I.nd
      · rw [List.length_append]
        show L.length + 1 ≤ 12
        omega
      · unfold setc
        rcases List.mem_append.mp hy with z | z
        · rw [if_neg (show ¬ y = x0 from fun e => x0L (e ▸ z))]
          exact zc y z
        · rw [if_pos (List.mem_singleton.mp z), List.mem_singleton.mp z]
          exact ⟨List.mem_cons_self, zs.mono (by omega)⟩
      · rw [sum_put x0L]
        exact Rat.add_neg_cancel _
    have sI := I
    refine ⟨fun σ' H' => ∃ v4 v5 : Option V, σ' = [some (.ref h), some (.ref nl), some (.ref D), some (.ref r), v4, v5] ∧ Q (.ref D) H', ?_, ?_⟩
    · refine ⟨_, rfl, r, _, _, _, rfl, rfl, SqT.of I.r, atI_nat (j := 0) rfl, rfl, _, rfl, ?_⟩
      refine ite2 (fun g => ?_) (fun g => ?_)
      · refine iteT ?_
        obtain ⟨kvs, e1, e2, e3, q⟩ := putR (Kp.refl h Ha) heldA (by omega)
        exact ⟨_, rfl, _, rfl, _, rfl, nl, _, _, _, rfl, rfl, SqL.of e3, atI_nat (j := 0) rfl, D, _, rfl, DPut.k (k := Sum.inr x0) e1 (by rw [e2]; exact line_lt (by omega)), _, _, rfl, q⟩
      · have n0 : sumR (L.map c) = 0 := by
          have g1 : (pr (-(sumR (L.map c)))).1 = 0 := by simpa using g
          have g2 := num0.mp g1
          rw [← Rat.neg_neg (sumR (L.map c)), g2]
          rfl
        refine ⟨_, rfl, h, n, 2, rfl, heldA.weak (by omega), by decide, by decide, fun e He e0 e2 helde ke => ⟨rfl, _, rfl, ?_⟩⟩
        refine ite2 (fun _ => ?_) (fun _ => ?_)
        · obtain ⟨kvs, e1, e2, e3, q⟩ := putR ke helde (by omega)
          exact ⟨_, rfl, _, rfl, _, rfl, nl, _, _, _, rfl, rfl, SqL.of e3, atI_nat (j := 0) rfl, D, _, rfl, DPut.k (k := Sum.inr x0) e1 (by rw [e2]; exact line_lt (by omega)), _, _, rfl, q⟩
        · exact ⟨_, _, rfl, hQ D L c He helde (I.k.trans ke) fD (I.ce.kp ke) (I.t.kp ke heldA I.ce.ne) I.nd (by omega) zc n0⟩
    · rintro σ' H' ⟨v4, v5, rfl, q⟩
      exact ⟨_, rfl, q⟩
end
end K48
set_option Elab.async false
set_option linter.all false
set_option maxRecDepth 100000
set_option maxHeartbeats 4000000
namespace K48
open PySem PySem.Spec PyProof.Rows L2
open KM (pr Sz)
/-! the mathematics of what is wanted -/
theorem few_of {α : Type} [DecidableEq α] {l m : List α} (nd : l.Nodup) (h : ∀ x ∈ l, x ∈ m) : l.length ≤ m.length := by
  induction l generalizing m with
  | nil => exact Nat.zero_le _
  | cons x l ih =>
    obtain ⟨n1, n2⟩ := List.nodup_cons.mp nd
    have hx := h x List.mem_cons_self
    have e := ih (m := m.erase x) n2 fun y hy => (List.mem_erase_of_ne (fun e => n1 (by rw [← e]; exact hy))).mpr (h y (List.mem_cons_of_mem _ hy))
    rw [List.length_erase_of_mem hx] at e
    have := List.length_pos_of_mem hx
    rw [List.length_cons]
    omega
abbrev due (ds : List Dy) (L : List Str) (c : Str → Rat) : List Str × (Str → Rat) := mvL (L, fun x => -(c x)) (fr ds)
theorem wnt_nd {ds : List Dy} {L : List Str} {c : Str → Rat} : (wnt ds L c).1.Nodup := mvL_nd _ _ (mvL_nd _ _ List.nodup_nil)
theorem due_nd {ds : List Dy} {L : List Str} {c : Str → Rat} (nd : L.Nodup) : (due ds L c).1.Nodup := mvL_nd _ _ nd
theorem mem_both {ds : List Dy} {L : List Str} {c : Str → Rat} (x : Str) : x ∈ (wnt ds L c).1 ↔ x ∈ (due ds L c).1 := by
  unfold wnt due
  rw [mem_mvL, mem_mvL, mem_mvL]
  have e : (L.map fun x => (x, -(c x))).map (·.1) = L := by rw [List.map_map]; exact List.map_id _
  rw [e]
  simp only [List.not_mem_nil, false_or]
  exact or_comm
theorem mem_due {ds : List Dy} {L : List Str} {c : Str → Rat} {x : Str} (h : x ∈ (due ds L c).1) : x ∈ L ∨ ∃ d ∈ ds, x ∈ d.R := by
  unfold due at h
  rw [mem_mvL] at h
  rcases h with h | h
  · exact .inl h
  · obtain ⟨p, hp, rfl⟩ := List.mem_map.mp h
    obtain ⟨d, hd, h2⟩ := List.mem_flatMap.mp hp
    obtain ⟨y, hy, rfl⟩ := List.mem_map.mp h2
    exact .inr ⟨d, hd, hy⟩
theorem wnt_due {ds : List Dy} {L : List Str} {c : Str → Rat} (nd : L.Nodup) : (wnt ds L c).1.Perm (due ds L c).1 := (List.perm_ext_iff_of_nodup wnt_nd (due_nd nd)).mpr fun x => mem_both x
theorem wnt_val {ds : List Dy} {L : List Str} {c : Str → Rat} {x : Str} (nd : L.Nodup) (h : x ∈ (due ds L c).1) : (wnt ds L c).2 x = (due ds L c).2 x := by
  have h2 := (mem_both (ds := ds) (L := L) (c := c) x).mpr h
  have e1 := mvL_val x (L.map fun x => (x, -(c x))) (mvL ([], fun _ => 0) (fr ds))
  rw [mvL_val x (fr ds) ([], fun _ => 0), at_map nd] at e1
  have e2 := mvL_val x (fr ds) (L, fun x => -(c x))
  have e3 : get0 (wnt ds L c).1 (wnt ds L c).2 x = get0 [] (fun _ => (0 : Rat)) x + at_ x (fr ds) + get0 L (fun x => -(c x)) x := e1
  have e4 : get0 (due ds L c).1 (due ds L c).2 x = get0 L (fun x => -(c x)) x + at_ x (fr ds) := e2
  rw [get0_in h2, get0_out (by simp), Rat.zero_add] at e3
  rw [get0_in h] at e4
  rw [e3, e4, Rat.add_comm]
/-- one more put in: what all are together -/
theorem sum_mv {L : List Str} {c : Str → Rat} {x : Str} {v : Rat} (nd : L.Nodup) : sumR ((addK L x).map (setc c x (get0 L c x + v))) = sumR (L.map c) + v := by
  by_cases h : x ∈ L
  · have ea : addK L x = L := if_pos h
    rw [ea, get0_in h]
    clear ea
    induction L with
    | nil => exact absurd h (by simp)
    | cons y L ih =>
      obtain ⟨n1, n2⟩ := List.nodup_cons.mp nd
      rw [List.map_cons, List.map_cons, sumR_cons, sumR_cons]
      by_cases e : y = x
      · subst e
        have e1 : L.map (setc c y (c y + v)) = L.map c := List.map_congr_left fun z hz => by
          unfold setc
          rw [if_neg (show ¬ z = y from fun q => n1 (q ▸ hz))]
        rw [e1]
        have e2 : setc c y (c y + v) y = c y + v := if_pos rfl
        rw [e2, Rat.add_assoc, Rat.add_comm v, ← Rat.add_assoc]
      · have e2 : setc c x (c x + v) y = c y := if_neg e
        rw [e2, ih n2 ((List.mem_cons.mp h).resolve_left fun q => e q.symm), Rat.add_assoc]
  · rw [addK_new h, get0_out h, Rat.zero_add, sum_put h]
end K48
set_option Elab.async false
set_option linter.all false
set_option maxRecDepth 100000
set_option maxHeartbeats 4000000
namespace K48
open PySem PySem.Spec PyProof.Rows L2
open C8 (Cal Mak Met pe_c pe_mk pe_mt pe_mt0)
open EXV (Xc)
open EXW (Dct)
open KM (pr Sz)
theorem dp_bls {K : PySem.W.Frag} {H : Hp} : ∀ bs : List Bool, DpAll K H (bs.map V.bl) (bs.map .bool)
  | [] => .nil
  | b :: bs => .cons (.bl b) (dp_bls bs)
theorem bls_same : ∀ bs : List Bool, PyData.eqvAll (bs.map .bool) (bs.map .bool) = true
  | [] => by simp [PyData.eqvAll]
  | b :: bs => by
    rw [List.map_cons, PySem.W.eqv_all_cons, bls_same bs]
    cases b <;> simp [PyData.eqv]
section
variable {P : Program} {w : World} {K : PySem.W.Frag} {mg : Str → Option Value} {base : Heap} {f C N fN : Addr} {fd fdN : FuncData} {ow : Str → Bool} {ab : String → Bool}
def spRf (C : Addr) : Sp := fun vs H Q _ => ∃ (k : Nat) (d : Addr) (v : V) (L : List Str) (c : Str → Rat), vs = [.int k, .ref d, v] ∧ k ≤ 4 ∧ SDc C H d L c ∧ L.length ≤ 20 ∧ (∀ x ∈ L, Sz 150 (c x)) ∧ sumR (L.map c) ≠ 0 ∧
  ∀ (t l r : Addr) (H' : Hp), Same H H' → H' t = some (.tup [.ref l, .ref r, .bl true]) → H' l = some (.lst [.str "uneven"]) → H' r = some (tupP (pr (sumR (L.map c)))) → Q (.ref t) H'
theorem ok_rf {f0 f1 f2 f3 f4 : Addr} {fd0 fd1 fd2 fd3 fd4 : FuncData} {pl : List Int} {v1 v3 v4 : List Value} (F : Dn K d_l_refused f fd) (T : Ku K mg N fN)
    (g0 : mg "wanted" = some (.ref f0)) (k0 : PySem.W.keepIn K (.ref f0) = true) (F0 : FnOk P w K mg base (L2.CX P w) 7 f0 fd0 ["standing", "days"] (spUX C N 1)) (b0 : Binds K fd0 ["standing", "days"] [])
    (g1 : mg "evened" = some (.ref f1)) (k1 : PySem.W.keepIn K (.ref f1) = true) (F1 : FnOk P w K mg base (L2.CX P w) 9 f1 fd1 ["standing", "days", "slack"] (spUX C N 2)) (b1 : Binds K fd1 ["standing", "days", "slack"] v1) (e1 : Vals [.int 0] v1)
    (g2 : mg "why_uneven" = some (.ref f2)) (k2 : PySem.W.keepIn K (.ref f2) = true) (F2 : FnOk P w K mg base (L2.CX P w) 9 f2 fd2 ["standing", "days", "slack"] (spUX C N 2)) (b2 : Binds K fd2 ["standing", "days", "slack"] [])
    (g3 : mg "soonest" = some (.ref f3)) (k3 : PySem.W.keepIn K (.ref f3) = true) (F3 : FnOk P w K mg base (L2.CX P w) 7 f3 fd3 ["standing", "days", "slack"] (spUX C N 2)) (b3 : Binds K fd3 ["standing", "days", "slack"] v3) (e3 : Vals [.int 0] v3)
    (g4 : mg "shows_uneven" = some (.ref f4)) (k4 : PySem.W.keepIn K (.ref f4) = true) (F4 : FnOk P w K mg base (L2.CX P w) 8 f4 fd4 ["standing", "days", "thing", "slack"] (spUX C N 3)) (b4 : Binds K fd4 ["standing", "days", "thing", "slack"] v4) (e4 : Vals [.int 0] v4)
    (cK : Cal P w K mg base 1 "_law_kinds" (spKi N ow ab) []) (cB : Cal P w K mg base 1 "_law_bases" spBa []) (cP : Cal P w K mg base 1 "_law_pair" (spPair C) []) (hf : fnd ow = [("uneven" : Str)]) (hp : (("uneven" : Str), pl) ∈ plc) (ha : (ex10.map fun x => ab x) = (List.range 10).map (abv pl)) :
    FnOk P w K mg base CX0 10 f fd ["_law_way", "_law_shares_here", "_law_days"] (spRf C) := by
  refine F.ok sc_l_refused (fun vs H Q E h => ?_) (fun cdv A outer s H vs Q E hr h => ?_)
  · obtain ⟨_, _, _, _, _, rfl, _⟩ := h
    rfl
  · obtain ⟨k, d, v, L, c, rfl, hk, hS, ll, hz, h0, hQ⟩ := h
    have hu64 : (A.deeper (envOfC d_l_refused.qual d_l_refused.scope s.heap.objs.size f cdv)).units + 64 < cLine := by have := hr.un; omega
    refine ⟨_, PSs.nox (pss_cons (ps_set (i := 3) sc_l_refused.nd rfl (.inl rfl) pe_non)
      (pss_cons (EXV.ps_try_keep (i := 4) rfl rfl sc_l_refused.nd rfl rfl ⟨rfl, by decide, .inl T.g⟩ takes0
          (fun W pn xe tk _ => pss_one (ps_if (pt_cmpR op_eq (pv 0) pe_int (nomark _)) (pss_one (ps_expr (pe_callS (E := fun σ cls d H => W cls d σ H) F0 (hr.mono (by decide)) rfl g0 k0 b0 (fun σ => passAt tk σ) (pa_cons (pv 1) (pa_cons (pv 2) pa_nil)))))
            (pss_one (ps_if (pt_cmpR op_eq (pv 0) pe_int (nomark _)) (pss_one (ps_expr (CSD.pe_callSD (E := fun σ cls d H => W cls d σ H) F1 (hr.mono (by decide)) rfl g1 k1 b1 e1 (fun σ => passAt tk σ) (pa_cons (pv 1) (pa_cons (pv 2) pa_nil)))))
            (pss_one (ps_if (pt_cmpR op_eq (pv 0) pe_int (nomark _)) (pss_one (ps_expr (pe_callS (E := fun σ cls d H => W cls d σ H) F2 (hr.mono (by decide)) rfl g2 k2 b2 (fun σ => passAt tk σ) (pa_cons (pv 1) (pa_cons (pv 2) (pa_cons pe_int pa_nil))))))
            (pss_one (ps_if (pt_cmpR op_eq (pv 0) pe_int (nomark _)) (pss_one (ps_expr (CSD.pe_callSD (E := fun σ cls d H => W cls d σ H) F3 (hr.mono (by decide)) rfl g3 k3 b3 e3 (fun σ => passAt tk σ) (pa_cons (pv 1) (pa_cons (pv 2) pa_nil)))))
            (pss_one (ps_expr (CSD.pe_callSD (E := fun σ cls d H => W cls d σ H) F4 (hr.mono (by decide)) rfl g4 k4 b4 e4 (fun σ => passAt tk σ) (pa_cons (pv 1) (pa_cons (pv 2) (pa_cons pe_non pa_nil))))))))))))))
          (fun a cls d pn => pss_one (ps_set (i := 3) sc_l_refused.nd rfl (.inl rfl) (pv 4))))
      (pss_cons (ps_if (pt_cmpR op_isN1 (pv 3) pe_non (nomark _)) pss_never pss_nil)
      (pss_cons (ps_asg (pe_c cK hr (by decide) rfl (pa_cons (pv 3) pa_nil)) (pg_tup rfl (pgs_cons (pg_name (i := 5) sc_l_refused.nd rfl (.inl rfl)) (pgs_cons (pg_name (i := 6) sc_l_refused.nd rfl (.inl rfl)) pgs_nil))))
      (pss_one (ps_ret (pe_tup (pa_cons (pv 5) (pa_cons (pe_c cP hr (by decide) rfl (pa_cons (EXW.pe_xk (pv 3)) pa_nil)) (pa_cons (pe_cmpR (op_eqD hu64) (pv 6) (pe_c cB hr (by decide) rfl (pa_cons pe_str pa_nil)) (nomark _)) pa_nil)))))))))), ?_⟩
    have kc : k = 0 ∨ k = 1 ∨ k = 2 ∨ k = 3 ∨ k = 4 := by omega
    rcases kc with rfl | rfl | rfl | rfl | rfl
    refine ⟨_, rfl, rfl, _, rfl, iteT ⟨_, rfl, _, rfl, d, [v], L, c, rfl, rfl, hS, ll, hz, h0, fun x u H1 s1 fx hx hs => ?_⟩⟩
    rotate_left
    refine ⟨_, rfl, rfl, _, rfl, iteF ⟨_, rfl, rfl, _, rfl, iteT ⟨_, rfl, _, rfl, d, [v, .int 0], L, c, rfl, rfl, hS, ll, hz, h0, fun x u H1 s1 fx hx hs => ?_⟩⟩⟩
    rotate_left
    refine ⟨_, rfl, rfl, _, rfl, iteF ⟨_, rfl, rfl, _, rfl, iteF ⟨_, rfl, rfl, _, rfl, iteT ⟨_, rfl, _, rfl, d, [v, .int 1], L, c, rfl, rfl, hS, ll, hz, h0, fun x u H1 s1 fx hx hs => ?_⟩⟩⟩⟩
    rotate_left
    refine ⟨_, rfl, rfl, _, rfl, iteF ⟨_, rfl, rfl, _, rfl, iteF ⟨_, rfl, rfl, _, rfl, iteF ⟨_, rfl, rfl, _, rfl, iteT ⟨_, rfl, _, rfl, d, [v, .int 0], L, c, rfl, rfl, hS, ll, hz, h0, fun x u H1 s1 fx hx hs => ?_⟩⟩⟩⟩⟩
    rotate_left
    refine ⟨_, rfl, rfl, _, rfl, iteF ⟨_, rfl, rfl, _, rfl, iteF ⟨_, rfl, rfl, _, rfl, iteF ⟨_, rfl, rfl, _, rfl, iteF ⟨_, rfl, _, rfl, d, [v, .non, .int 0], L, c, rfl, rfl, hS, ll, hz, h0, fun x u H1 s1 fx hx hs => ?_⟩⟩⟩⟩⟩
    rotate_left
    all_goals
      refine ⟨true, T.te, fun _ a ha1 => ?_, fun z => nomatch z⟩
      refine ⟨_, rfl, ?_⟩
      have nda : x ≠ a := ne_of_none hx ha1
      have sx := same_new (o := Xc (.ref N) (some x) a) ha1
      have hxa : (upd H1 a (Xc (.ref N) (some x) a)) a = some (Xc (.ref N) (some x) a) := upd_same
      have hd2 := sx _ _ hx
      have s2 := s1.trans sx
      have hs2 := hs.keep sx
      generalize upd H1 a (Xc (.ref N) (some x) a) = H2 at s2 hxa hd2 hs2
      refine ⟨_, rfl, rfl, _, rfl, iteF ?_⟩
      refine ⟨_, rfl, a, some x, rfl, hxa, .inr ⟨x, _, rfl, hd2⟩, fun t l m H3 s3 ft ht hl hm => ?_⟩
      refine ⟨t, _, rfl, SqT.of ht, rfl, _, _, rfl, _, _, rfl, rfl, ?_⟩
      refine ⟨_, rfl, _, rfl, a, N, x, _, .ref u, rfl, s3 _ _ hxa, s3 _ _ hd2, T.xf, T.no, rfl, u, _, rfl, hs2.keep s3, fun r H4 s4 fr hr4 => ?_⟩
      refine ⟨_, rfl, "uneven", pl, rfl, hp, fun q H5 s5 fq hq => ?_⟩
      have e1 : (ex10.map fun x => V.bl (ab x)) = ((List.range 10).map (abv pl)).map V.bl := by
        rw [← ha, List.map_map]
        rfl
      have e2 : ((List.range 10).map fun i => V.bl (abv pl i)) = ((List.range 10).map (abv pl)).map V.bl := by
        rw [List.map_map]
        rfl
      have hm5 := s5 _ _ (s4 _ _ hm)
      rw [e1] at hm5
      rw [e2] at hq
      have shp : SeqAt.shaped (.list (((List.range 10).map (abv pl)).map .bool)) = true := by rfl
      refine ⟨.list (((List.range 10).map (abv pl)).map .bool), .list (((List.range 10).map (abv pl)).map .bool), Dp.lst (SqL.of hm5) (dp_bls _), Dp.lst (SqL.of hq) (dp_bls _), shp, shp, ?_⟩
      have ev : PyData.eqv (.list (((List.range 10).map (abv pl)).map .bool)) (.list (((List.range 10).map (abv pl)).map .bool)) = true := by
        rw [show ∀ a b : List PyData, PyData.eqv (.list a) (.list b) = PyData.eqvAll a b from fun a b => by rw [PyData.eqv]]
        exact bls_same _
      rw [ev]
      refine ⟨by show 3 ≤ sizeLine; decide, fun z fz => ?_⟩
      have su := same_new (o := .tup [.ref l, .ref r, .bl true]) fz
      have s35 := (s4.trans s5).trans su
      refine hQ z l r _ ((s2.trans s3).trans s35) upd_same (s35 _ _ ?_) (su _ _ (s5 _ _ hr4))
      rw [hl, hf]
      rfl
end
end K48
set_option Elab.async false
set_option linter.all false
set_option maxRecDepth 100000
set_option maxHeartbeats 4000000
/-! SD: small data (short texts, ints below a million and a bit, lists and tuples of such): what repr and == ask of it. -/
namespace SD
open PySem PySem.Spec PyProof.Rows L2
/-- small: its weight at most n, its depth at most k -/
structure Sm (n k : Nat) (d : PyData) : Prop where
  sh : d.showable = true
  nd : d.hasDict = false
  dp : d.depth ≤ k
  ls : d.leavesShort 13 = true
  wt : d.weight ≤ n
  cl : d.canLay0 = true
structure SmA (n k : Nat) (ds : List PyData) : Prop where
  sh : PyData.showableAll ds = true
  nd : PyData.hasDictAll ds = false
  dp : PyData.depthAll ds ≤ k
  ls : PyData.leavesShortAll 13 ds = true
  wt : PyData.weightAll ds ≤ n
  cl : PyData.canLayAll0 ds = true
theorem Sm.mono {n n' k k' : Nat} {d : PyData} (h : Sm n k d) (hn : n ≤ n') (hk : k ≤ k') : Sm n' k' d := ⟨h.sh, h.nd, Nat.le_trans h.dp hk, h.ls, Nat.le_trans h.wt hn, h.cl⟩
theorem SmA.mono {n n' k k' : Nat} {ds : List PyData} (h : SmA n k ds) (hn : n ≤ n') (hk : k ≤ k') : SmA n' k' ds := ⟨h.sh, h.nd, Nat.le_trans h.dp hk, h.ls, Nat.le_trans h.wt hn, h.cl⟩
theorem Sm.int {i : Int} (h : i.natAbs < 2 ^ 20) : Sm 20 0 (.int i) := by
  have h1 : i.natAbs.log2 < 20 := by
    by_cases z : i.natAbs = 0
    · rw [z]; decide
    · exact (Nat.log2_lt z).mpr h
  refine ⟨by simp only [PyData.showable]; exact decide_eq_true (by omega), by simp only [PyData.hasDict], by simp only [PyData.depth]; omega, ?_, ?_, by simp only [PyData.canLay0]⟩
  · simp only [PyData.leavesShort]
    exact decide_eq_true (PyData.shown_int_le (Nat.lt_of_lt_of_le h (by decide)))
  · simp only [PyData.weight]
    split <;> omega
theorem Sm.str {x : Str} {n : Nat} (h : PyData.strOk x = true) (hn : x.length ≤ n) : Sm n 0 (.str x) := by
  have hn' : x.cps.size ≤ n := hn
  have hc : x.cps.toList.all (fun c => decide (c < 16 ^ 8)) = true := by
    unfold PyData.strOk at h
    rw [← Array.all_toList, List.all_eq_true] at h
    rw [List.all_eq_true]
    intro c hc
    have := of_decide_eq_true (h c hc)
    exact decide_eq_true (by omega)
  exact ⟨by simp only [PyData.showable], by simp only [PyData.hasDict], by simp only [PyData.depth]; omega, by simp only [PyData.leavesShort]; exact hc, by simp only [PyData.weight]; exact hn', by simp only [PyData.canLay0]; exact h⟩
theorem SmA.nil {k : Nat} : SmA 0 k [] := ⟨by simp only [PyData.showableAll], by simp only [PyData.hasDictAll], by simp only [PyData.depthAll]; omega, by simp only [PyData.leavesShortAll], by simp only [PyData.weightAll]; omega, by simp only [PyData.canLayAll0]⟩
theorem SmA.cons {n m k : Nat} {d : PyData} {ds : List PyData} (a : Sm n k d) (b : SmA m k ds) : SmA (n + 1 + m) k (d :: ds) := by
  refine ⟨by simp only [PyData.showableAll, a.sh, b.sh, Bool.and_self], by simp only [PyData.hasDictAll, a.nd, b.nd, Bool.or_self], ?_, by simp only [PyData.leavesShortAll, a.ls, b.ls, Bool.and_self], ?_, by simp only [PyData.canLayAll0, a.cl, b.cl, Bool.and_self]⟩
  · simp only [PyData.depthAll]
    have := a.dp
    have := b.dp
    omega
  · simp only [PyData.weightAll]
    have := a.wt
    have := b.wt
    omega
theorem SmA.map {α : Type} {n k : Nat} {g : α → PyData} : ∀ {xs : List α}, (∀ x ∈ xs, Sm n k (g x)) → SmA ((n + 1) * xs.length) k (xs.map g)
  | [], _ => SmA.nil.mono (Nat.zero_le _) (Nat.le_refl _)
  | x :: xs, h => by
    refine (SmA.cons (h x List.mem_cons_self) (SmA.map fun y hy => h y (List.mem_cons_of_mem _ hy))).mono ?_ (Nat.le_refl _)
    rw [List.length_cons, Nat.mul_add]
    omega
theorem Sm.lst {n k : Nat} {ds : List PyData} (a : SmA n k ds) : Sm n (k + 1) (.list ds) :=
  ⟨by simp only [PyData.showable]; exact a.sh, by simp only [PyData.hasDict]; exact a.nd, by simp only [PyData.depth]; have := a.dp; omega, by simp only [PyData.leavesShort]; exact a.ls, by simp only [PyData.weight]; exact a.wt, by simp only [PyData.canLay0]; exact a.cl⟩
theorem Sm.tup {n k : Nat} {ds : List PyData} (a : SmA n k ds) : Sm n (k + 1) (.tuple ds) :=
  ⟨by simp only [PyData.showable]; exact a.sh, by simp only [PyData.hasDict]; exact a.nd, by simp only [PyData.depth]; have := a.dp; omega, by simp only [PyData.leavesShort]; exact a.ls, by simp only [PyData.weight]; exact a.wt, by simp only [PyData.canLay0]; exact a.cl⟩
theorem Sm.shown {n k : Nat} {d : PyData} (a : Sm n k d) (h : 15 * n + 13 ≤ sizeLine) : d.shown.length ≤ sizeLine := by
  have := PyData.shown_le 13 (by decide) d a.ls
  have := a.wt
  omega
theorem Sm.shaped {n k : Nat} {d : PyData} (a : Sm n k d) (h : k ≤ 64) : SeqAt.shaped d = true := by
  simp only [SeqAt.shaped, a.cl, Bool.true_and]
  exact decide_eq_true (Nat.le_trans a.dp h)
theorem Sm.same {n k : Nat} {d : PyData} (a : Sm n k d) : PyData.eqv d d = true := PySem.SeqAt.eqv_refl d a.cl
theorem Sm.four {n k : Nat} {d : PyData} (a : Sm n k d) (hn : 15 * n + 13 ≤ sizeLine) (hk : k ≤ 60) : d.showable = true ∧ d.hasDict = false ∧ d.depth ≤ 60 ∧ d.shown.length ≤ sizeLine :=
  ⟨a.sh, a.nd, Nat.le_trans a.dp hk, a.shown hn⟩
end SD
set_option Elab.async false
set_option linter.all false
set_option maxRecDepth 100000
set_option maxHeartbeats 4000000
/-! sorted(xs), xs a list of data at any depth -/
namespace SRT
open PySem PySem.Spec PyProof.Rows L2
/-- p stands not behind q -/
def leD (p q : V × PyData) : Bool := !PySem.W.dataLt q.2 p.2
/-- the sorted list -/
def srt (xs : List V) (ds : List PyData) : List V := ((xs.zip ds).mergeSort leD).map Prod.fst
theorem len_of {K : PySem.W.Frag} {H : Hp} : ∀ {xs : List V} {ds : List PyData}, DpAll K H xs ds → xs.length = ds.length
  | _, _, .nil => rfl
  | _, _, .cons _ t => congrArg (· + 1) (len_of t)
theorem srt_perm {xs : List V} {ds : List PyData} (h : xs.length = ds.length) : (srt xs ds).Perm xs := by
  unfold srt
  refine ((List.mergeSort_perm _ _).map Prod.fst).trans ?_
  rw [List.map_fst_zip (by omega)]
theorem vals_each : ∀ {xs : List V} {us : List Value} {ds : List PyData}, Vals xs us → xs.length = ds.length → PySem.W.EachIs (fun v (b : V × PyData) => RelV b.1 v) us (xs.zip ds)
  | [], _, [], .nil, _ => .nil
  | x :: xs, _, d :: ds, .cons r rs, h => .cons r (vals_each rs (by simpa using h))
theorem each_vals : ∀ {us : List Value} {bs : List (V × PyData)}, PySem.W.EachIs (fun v (b : V × PyData) => RelV b.1 v) us bs → Vals (bs.map Prod.fst) us
  | _, _, .nil => .nil
  | _, _, .cons r rs => .cons r (each_vals rs)
def rSortedD (K : PySem.W.Frag) : List V → Hp → VK → Prop := fun vs H Q => ∃ (a : Addr) (xs : List V) (ds : List PyData), vs = [V.ref a] ∧ (SqL K H a xs ∨ SqT K H a xs) ∧ DpAll K H xs ds ∧ PySem.W.AllAlike ds ∧ PySem.W.Sortable ds ∧ (∀ d ∈ ds, d.depth ≤ 60) ∧
  ∀ p : Addr, H p = none → Q (.ref p) (upd H p (.lst (srt xs ds)))
/-! sorted of a tuple -/
section
variable {prog : Program} {w : World} {A : Around} {E : Value → Shared → Prop} {s : Shared} {κ : KeyKind}
theorem gather_tup {b : Addr} {us : List Value} {R : List Value → Shared → Prop} (ht : s.heap.IsTuple b us.toArray) (hz : us.length ≤ sizeLine)
    (h : R us { s with heap := (s.heap.push (seqObj "list" #[] 0)).update s.heap.objs.size (Obj.mapSeq (· ++ us.toArray)) }) : wpAny (model prog w) A (collect (.ref b)) R E s := by
  obtain ⟨ob, e1, e2, k, e3⟩ := id ht
  have e4 : (s.heap.push (seqObj "list" #[] 0)).get? b = some ob := Heap.get?_push_of_some _ e1
  have em : (s.heap.push (seqObj "list" #[] 0)).get? s.heap.objs.size = some (seqObj "list" #[] 0) := Heap.get?_push_size _ rfl
  unfold collect
  refine wpAny_bind (wpAny_runValue (codeAny_builtin entry_proto_collect' ?_))
  show wpAny _ _ (do again (.builtin "list.__iadd__" ⟨[← newList [], .ref b], []⟩)) _ _ s
  refine wpAny_bind (wpAny_newList (wpAny_pure ⟨Code.quiet_builtin _ (by decide +kernel), codeAny_builtin entry_list_iadd' ?_⟩))
  show wpAny _ _ (Builtin.List.listExtendWith (.ref s.heap.objs.size) (.ref b) (.ref s.heap.objs.size)) _ _ { s with heap := s.heap.push (seqObj "list" #[] 0) }
  unfold Builtin.List.listExtendWith
  refine wpAny_bind (wpAny_typeOf (T := "tuple") ⟨ob, e4, e2⟩ ?_)
  have et : (Value.type "tuple" == Value.type "tuple") = true := by rfl
  rw [if_pos (by rw [et]; simp)]
  refine wpAny_bind (listItems_at e4 e3 (wpAny_bind (listItems_at em rfl ?_)))
  rw [if_neg (by simp)]
  refine wpAny_bind (listUpdate_at em rfl ?_ (Nat.zero_le _) (by simp only [Array.size_append, List.size_toArray, List.length_nil]; omega))
  refine wpAny_pure ?_
  show wpAny (model prog w) A (load s.heap.objs.size >>= fun o => match o.data with | .seq xs _ => pure xs.toList | _ => unsupported "internal:collect") R E _
  refine wpAny_bind (wpAny_load (get?_update_seq em _) ?_)
  show wpAny _ _ (pure ((#[] : Array Value) ++ us.toArray).toList) R E _
  have e5 : ((#[] : Array Value) ++ us.toArray).toList = us := by simp
  rw [e5]
  exact wpAny_pure h
theorem sorted_tupV {b : Addr} {us : List Value} {R : Value → Shared → Prop} (ht : s.heap.IsTuple b us.toArray) (hz : us.length ≤ sizeLine)
    (S : PySem.W.SortsAt prog w A.in1.in1 { s with heap := PySem.W.sortingHeap (PySem.W.copyHeap s.heap us) (s.heap.objs.size + 1) us } κ us)
    (h : R (.ref (s.heap.objs.size + 1)) { s with heap := sortedAll s.heap us (PySem.W.sortVals κ false us us).toArray }) : wpAny (model prog w) A (call (.builtin "sorted") [.ref b]) R E s := by
  refine Calls.call_function_entry kind_sorted plain_sorted entry_sorted (args_sorted1 _) ?_
  unfold Builtin.«sorted»
  refine wpAny_bind (m := checkCount "sorted" 1 1 _) (wpAny_pure (wpAny_bind (gather_tup ht hz (wpAny_bind (wpAny_newList ?_ hz)))))
  have e : ((s.heap.push (seqObj "list" #[] 0)).update s.heap.objs.size (Obj.mapSeq (· ++ us.toArray))).objs.size = s.heap.objs.size + 1 := (Heap.size_update ..).trans (size_push' ..)
  show wpAny _ _ _ _ _ { s with heap := PySem.W.copyHeap s.heap us }
  rw [e]
  refine wpAny_bind (wpAny_holding (wpAny_call_entry slot_list_sort ⟨_, PySem.W.copyHeap_at s.heap us, rfl⟩ entry_list_sort ?_ (args_list_sort _)))
  exact PySem.W.list_sort_vals (s := { s with heap := PySem.W.copyHeap s.heap us }) (PySem.W.copyHeap_at s.heap us) S hz ⟨_, rfl, wpAny_pure ⟨_, rfl, h⟩⟩
end
section
variable {X : Cx} {pins : List (Addr × Obj)} {σ : L2.St} {H : Hp} {s : Shared}
theorem reads_each (I : Inv X pins σ H s) : ∀ {ds : List PyData} {vs : List V} {us : List Value}, DpAll X.K H vs ds → Vals vs us → PySem.W.EachIs (fun v d => ∃ as, Reads s.heap v d as) us ds
  | [], _, _, h, r => by
    cases h
    cases r
    exact .nil
  | d :: ds, _, _, h, r => by
    cases h with
    | cons h1 h2 =>
      cases r with
      | cons r1 r2 => exact .cons (Dp.reads I d _ _ h1 r1) (reads_each I h2 r2)
theorem cr_sortedD (hu : X.A.units + 64 < cLine) : CallR X (.builtin "sorted") (rSortedD X.K) := by
  intro pins s σ H vs us Q I r h
  obtain ⟨a, xs, ds, rfl, hs, hd, al, so, dp, q⟩ := h
  rw [Vals.ref1 r]
  have ln := len_of hd
  have main : ∀ its : List Value, Vals xs its → xs.length ≤ sizeLine → ∃ κ : KeyKind, PySem.W.SortsAt X.prog X.w X.A.in1.in1 { s with heap := PySem.W.sortingHeap (PySem.W.copyHeap s.heap its) (s.heap.objs.size + 1) its } κ its ∧
      EP X pins σ Q (.ref (s.heap.objs.size + 1)) { s with heap := sortedAll s.heap its (PySem.W.sortVals κ false its its).toArray } := fun its rv hz => by
    have e := reads_each I hd rv
    have e2 : PySem.W.EachIs (fun v d => ∃ as, Reads (PySem.W.sortingHeap (PySem.W.copyHeap s.heap its) (s.heap.objs.size + 1) its) v d as) its ds := e.mono fun v d ⟨as, h⟩ => ⟨as, Reads.keeps (fun b o z => PySem.W.sorting_copy_old z) h⟩
    have S := PySem.W.SortsAt.data (prog := X.prog) (w := X.w) (A := X.A.in1.in1) (s := { s with heap := PySem.W.sortingHeap (PySem.W.copyHeap s.heap its) (s.heap.objs.size + 1) its }) e2 al so (fun d hd => by have := dp d hd; show X.A.units + 1 + 1 + d.depth < cLine; omega)
    refine ⟨_, S, ?_⟩
    have ek : PySem.W.EachIs (fun v (b : V × PyData) => (PySem.W.dataKind (PySem.W.sortingHeap (PySem.W.copyHeap s.heap its) (s.heap.objs.size + 1) its) ds).keyOf v = some (PySem.W.keyToks b.2)) its (xs.zip ds) := by
      have f := PySem.W.each_keys al e2
      have mz : (xs.zip ds).map Prod.snd = ds := List.map_snd_zip (by omega)
      rw [← mz] at f
      have f' := PySem.W.each_of_map (fun b : V × PyData => b.2) f
      rw [mz] at f'
      exact f'
    have eo := PySem.W.sortVals_each (κ := PySem.W.dataKind (PySem.W.sortingHeap (PySem.W.copyHeap s.heap its) (s.heap.objs.size + 1) its) ds) (rev := false) (fun b : V × PyData => PySem.W.keyToks b.2) (vals_each rv ln) ek
    have vo := each_vals eo
    generalize PySem.W.sortVals _ false its its = out at vo ⊢
    obtain ⟨ep, he'⟩ := PyProof.Rows.sortedAll_at s.heap its out.toArray
    have hlen : (srt xs ds).length ≤ sizeLine := by rw [(srt_perm ln).length_eq]; exact hz
    exact ⟨.ref _, upd H (s.heap.objs.size + 1) (.lst (srt xs ds)), I.laid (t' := s.toks) (fun _ _ => PyProof.Rows.sortedAll_old) (Nat.le_succ _) ⟨hlen, out, ep, vo, he'⟩, rfl, q _ (I.hok.fresh (Nat.le_succ _))⟩
  rcases hs with hs | hs
  · obtain ⟨its, rv, hl, hz⟩ := I.list hs
    obtain ⟨κ, S, k⟩ := main its rv hz
    exact PySem.W.sorted_vals hl.isList S (by rw [← rv.length]; exact hz) k
  · obtain ⟨its, rv, hl, hz⟩ := I.tuple hs
    obtain ⟨κ, S, k⟩ := main its rv hz
    exact sorted_tupV hl (by rw [← rv.length]; exact hz) S k
/-- texts -/
def leS (x y : Str) : Prop := ¬ y.cps.toList < x.cps.toList
theorem dpS {H : Hp} : ∀ xs : List Str, DpAll X.K H (xs.map V.str) (xs.map PyData.str)
  | [] => .nil
  | x :: xs => .cons (.str x) (dpS xs)
theorem srtS (xs : List Str) : ∃ ys : List Str, srt (xs.map V.str) (xs.map PyData.str) = ys.map V.str ∧ ys.Perm xs ∧ ys.Pairwise leS := by
  have tot := PySem.W.sortLe_total (listOrd itemOrd) false (fun p : V × PyData => PySem.W.keyToks p.2)
  have pw := PySem.W.sort_pairwise tot ((xs.map V.str).zip (xs.map PyData.str))
  have pm := List.mergeSort_perm ((xs.map V.str).zip (xs.map PyData.str)) leD
  have mem : ∀ p ∈ ((xs.map V.str).zip (xs.map PyData.str)).mergeSort leD, ∃ x, p = (V.str x, PyData.str x) := fun p hp => by
    have := pm.mem_iff.mp hp
    rw [List.zip_map'] at this
    obtain ⟨x, _, e⟩ := List.mem_map.mp this
    exact ⟨x, e.symm⟩
  have pw' : (((xs.map V.str).zip (xs.map PyData.str)).mergeSort leD).Pairwise fun a b => leD a b = true := pw
  unfold srt
  generalize ((xs.map V.str).zip (xs.map PyData.str)).mergeSort leD = L at pm mem pw'
  have : ∃ ys : List Str, L = ys.map fun x => (V.str x, PyData.str x) := by
    clear pm pw'
    induction L with
    | nil => exact ⟨[], rfl⟩
    | cons p L ih =>
      obtain ⟨x, e⟩ := mem p List.mem_cons_self
      obtain ⟨ys, e2⟩ := ih fun q hq => mem q (List.mem_cons_of_mem _ hq)
      exact ⟨x :: ys, by rw [e, e2]; rfl⟩
  obtain ⟨ys, rfl⟩ := this
  refine ⟨ys, ?_, ?_, ?_⟩
  · rw [List.map_map]
    rfl
  · have p2 := pm.map fun p : V × PyData => match p.1 with | .str x => x | _ => ""
    rw [List.map_map, List.zip_map', List.map_map] at p2
    simpa [Function.comp_def] using p2
  · refine (List.pairwise_map.mp pw').imp fun {a b} h => ?_
    have h' : (!PySem.W.dataLt (.str b) (.str a)) = true := h
    rw [PySem.W.dataLt_str] at h'
    simpa [leS] using h'
/-- sorted of texts, a list or a tuple -/
def rSortedTx (K : PySem.W.Frag) : List V → Hp → VK → Prop := fun vs H Q => ∃ (a : Addr) (xs : List Str), vs = [V.ref a] ∧ (SqL K H a (xs.map V.str) ∨ SqT K H a (xs.map V.str)) ∧
  ∀ (ys : List Str) (p : Addr), ys.Perm xs → ys.Pairwise leS → H p = none → Q (.ref p) (upd H p (.lst (ys.map V.str)))
theorem cr_sortedTx (hu : X.A.units + 64 < cLine) : CallR X (.builtin "sorted") (rSortedTx X.K) := by
  intro pins s σ H vs us Q I r h
  obtain ⟨a, xs, rfl, hs, q⟩ := h
  obtain ⟨ys, e, pm, pw⟩ := srtS xs
  refine cr_sortedD hu pins s σ H _ us Q I r ⟨a, _, xs.map PyData.str, rfl, hs, dpS xs, fun d h1 d' h2 => ?_, .inr fun d h1 => ?_, fun d h1 => ?_, fun p fp => ?_⟩
  · obtain ⟨x, _, rfl⟩ := List.mem_map.mp h1
    obtain ⟨y, _, rfl⟩ := List.mem_map.mp h2
    rfl
  · obtain ⟨x, _, rfl⟩ := List.mem_map.mp h1
    refine ⟨fun z => ?_, fun l z => ?_⟩ <;> cases z
  · obtain ⟨x, _, rfl⟩ := List.mem_map.mp h1
    show 0 ≤ 60
    decide
  · rw [e]
    exact q ys p pm pw fp
end
end SRT
set_option Elab.async false
set_option linter.all false
set_option maxRecDepth 100000
set_option maxHeartbeats 4000000
namespace K48
open PySem PySem.Spec PyProof.Rows L2
open C8 (Cal Mak Met pe_c pe_mk pe_mt pe_mt0)
open KM (pr Sz)
open SX (S)
theorem S_inj {a b : List Nat} (h : S a = S b) : a = b := by
  have := congrArg (fun s : Str => s.cps.toList) h
  simpa [SX.S] using this
theorem strOk_nm {l : List Nat} (ok : NM.ok l) : PyData.strOk (S l) = true ∧ (S l).length ≤ 8 := by
  refine ⟨?_, by rw [SX.S_len]; exact ok.2.1⟩
  unfold PyData.strOk
  rw [← Array.all_toList, List.all_eq_true]
  intro c hc
  have := ok.2.2 c hc
  exact decide_eq_true (by omega)
theorem cutk {xs : List Str} {k : Nat} (h : k ≤ xs.length) : cutV (xs.map V.str) none (some (k : Int)) = (xs.take k).map V.str := by
  unfold cutV HT.sIx
  rw [List.length_map]
  have e1 : ((k : Int) < 0) = False := by simp
  have e2 : min ((k : Int).toNat) xs.length = k := by rw [Int.toNat_natCast]; omega
  simp only [e1, if_false, e2, List.drop_zero, Nat.sub_zero]
  rw [List.map_take]
theorem SDc.kp {C h D : Addr} {H H' : Hp} {n : Nat} {L : List Str} {c : Str → Rat} (t : SDc C H D L c) (k : Kp h H H') (x : Held H h n) (ne : D ≠ h) : SDc C H' D L c := by
  obtain ⟨ad, h1, h2⟩ := t
  refine ⟨ad, k.1 _ _ h1 ne, fun y hy => ?_⟩
  obtain ⟨dx, e⟩ := h2 y hy
  refine ⟨dx, k.1 _ _ e fun z => ?_⟩
  obtain ⟨l', ns, n', m', e1, _⟩ := x
  rw [z, e1] at e
  cases e
theorem DyL.kp {h l : Addr} {H H' : Hp} {n : Nat} {ds : List Dy} (t : DyL H l ds) (k : Kp h H H') (x : Held H h n) : DyL H' l ds := ⟨kp_lst k x _ _ t.1, fun d hd => (t.2 d hd).tup (kp_tup k x)⟩
/-- the days as data -/
def dyD (d : Dy) : PyData := .tuple [.tuple (d.R.map .str), .tuple (d.B.map .str)]
theorem dp_dys {K : PySem.W.Frag} {H : Hp} : ∀ {ds : List Dy}, (∀ d ∈ ds, DyOk H d) → DpAll K H (ds.map fun d => V.ref d.a) (ds.map dyD)
  | [], _ => .nil
  | d :: ds, h => by
    have o := h d List.mem_cons_self
    exact .cons (Dp.tup (SqT.of o.t) (.cons (Dp.tup (SqT.of o.r) (dp_ss d.R)) (.cons (Dp.tup (SqT.of o.b) (dp_ss d.B)) .nil))) (dp_dys fun e he => h e (List.mem_cons_of_mem _ he))
theorem sm_names {R : List Str} (h : ∀ y ∈ R, PyData.strOk y = true ∧ y.length ≤ 8) (l : R.length ≤ 12) : SD.Sm 108 1 (.tuple (R.map .str)) :=
  (SD.Sm.tup (SD.SmA.map (n := 8) (k := 0) fun x hx => SD.Sm.str (h x hx).1 (h x hx).2)).mono (by omega) (Nat.le_refl _)
theorem sm_days {ds : List Dy} (h : ∀ d ∈ ds, (∀ y ∈ d.R, PyData.strOk y = true ∧ y.length ≤ 8) ∧ (∀ y ∈ d.B, PyData.strOk y = true ∧ y.length ≤ 8) ∧ d.R.length ≤ 12 ∧ d.B.length ≤ 12) : SD.Sm (219 * ds.length) 3 (.list (ds.map dyD)) :=
  SD.Sm.lst (SD.SmA.map (n := 218) (k := 2) fun d hd => by
    obtain ⟨a, b, c, e⟩ := h d hd
    exact SD.Sm.tup (SD.SmA.cons (sm_names a c) (SD.SmA.cons (sm_names b e) SD.SmA.nil)))
theorem sm_bl (b : Bool) : SD.Sm 5 0 (.bool b) := ⟨by simp only [PyData.showable], by simp only [PyData.hasDict], by simp only [PyData.depth]; omega, by simp only [PyData.leavesShort], by simp only [PyData.weight]; omega, by simp only [PyData.canLay0]⟩
theorem rp_un {q : Int × Int} (h1 : q.1.natAbs < 2 ^ 20) (h2 : q.2.natAbs < 2 ^ 20) : (PyData.tuple [.list [.str "uneven"], DQ.pD q, .bool true]).showable = true ∧ (PyData.tuple [.list [.str "uneven"], DQ.pD q, .bool true]).hasDict = false ∧ (PyData.tuple [.list [.str "uneven"], DQ.pD q, .bool true]).depth ≤ 60 ∧ (PyData.tuple [.list [.str "uneven"], DQ.pD q, .bool true]).shown.length ≤ sizeLine := by
  have a1 := SD.Sm.lst (SD.SmA.cons (SD.Sm.str (x := "uneven") (n := 6) (by decide +kernel) (by decide +kernel)) SD.SmA.nil)
  have a2 : SD.Sm _ 1 (DQ.pD q) := SD.Sm.tup (SD.SmA.cons (SD.Sm.int h1) (SD.SmA.cons (SD.Sm.int h2) SD.SmA.nil))
  have a := SD.Sm.tup (SD.SmA.cons a1 (SD.SmA.cons a2 (SD.SmA.cons ((sm_bl true).mono (Nat.le_refl _) (by decide : 0 ≤ 1)) SD.SmA.nil)))
  exact a.four (by have := sizeLine_eq; omega) (by decide)
section
variable {P : Program} {w : World} {K : PySem.W.Frag} {mg : Str → Option Value} {base : Heap} {f C : Addr} {fd : FuncData}
def spLaw (K : PySem.W.Frag) : Sp := fun vs H Q _ => ∃ (a : Addr) (ns : List Int), vs = [.ref a] ∧ SqL K H a (ns.map V.int) ∧ ns.length ≤ 63 ∧ ∀ H', Q (.bl true) H'
theorem ok_law (F : Dn K d_law f fd) (bl : Bl mg) (bd : mg "dict" = none) (bsrt : mg "sorted" = none) (brep : mg "repr" = none) (T : Cl K mg C) (MS : MakS P w K mg base C) (M1 : MakS1 P w K mg base C) (mP : Met P w K mg base 4 C "plus" (sp2 C (· + ·)) [])
    (cH : Cal P w K mg base 1 "_law_held" (spHeld K) []) (cD : CalD P w K mg base) (cNm : Cal P w K mg base 2 "_law_names" spNames []) (cL : CalL P w K mg base) (cP : Cal P w K mg base 1 "_law_pair" (spPair C) []) (cSg : Cal P w K mg base 4 "_law_standing" spSg []) (cCm : Cal P w K mg base 2 "_law_coming" spCm [])
    (cLS : Cal P w K mg base 4 "_law_shares" (spLS C) []) (cWn : Cal P w K mg base 4 "_law_wants" spWn []) (cWa : Cal P w K mg base 7 "wanted" (spWa C) []) (cRf : Cal P w K mg base 10 "_law_refused" (spRf C) []) :
    GL.FnG P w K mg base 11 f fd ["_law_script"] (spLaw K) := by
  refine GL.okG F sc_law (fun vs H Q E h => ?_) (fun cdv A outer s H vs Q E hgd hr h => ?_)
  · obtain ⟨a, ns, rfl, _⟩ := h
    rfl
  · obtain ⟨s0, ns, rfl, hS, hlen, hQ⟩ := h
    have hu := hu_of hr
    have hu64 : (A.deeper (envOfC d_law.qual d_law.scope s.heap.objs.size f cdv)).units + 64 < cLine := by have := hr.un; omega
    refine ⟨_, PSs.nox (pss_cons (ps_set (i := 1) sc_law.nd rfl (.inl rfl) (pe_c cH hr (by decide) rfl (pa_cons (pv 0) pa_nil)))
      (pss_cons (ps_set (i := 2) sc_law.nd rfl (.inl rfl) (pe_c cNm hr (by decide) rfl (pa_cons (pv 1) (pa_cons pe_int pa_nil))))
      (pss_cons (ps_set (i := 3) sc_law.nd rfl (.inr rfl) (pe_c cSg hr (by decide) rfl (pa_cons (pv 1) (pa_cons (pe_slice sl_list (pv 2) po_none (po_some (pe_op op_add pe_int (pe_c cD hr (by decide) rfl (pa_cons (pv 1) (pa_cons pe_int pa_nil)))))) pa_nil))))
      (pss_cons (ps_set (i := 4) sc_law.nd rfl (.inl rfl) (pe_ix (r := rIxL K) ix_list (pe_lst (pa_cons (pe_c cD hr (by decide) rfl (pa_cons (pv 1) (pa_cons pe_int pa_nil))) (pa_cons (pe_c cD hr (by decide) rfl (pa_cons (pv 1) (pa_cons pe_int pa_nil))) pa_nil))) (pe_c cD hr (by decide) rfl (pa_cons (pv 1) (pa_cons pe_int pa_nil))) (fun _ _ => rfl)))
      (pss_cons (ps_set (i := 5) sc_law.nd rfl (.inl rfl) (pe_c cCm hr (by decide) rfl (pa_cons (pv 1) (pa_cons (pe_slice sl_list (pv 2) po_none (po_some (pe_op op_add pe_int (pe_c cD hr (by decide) rfl (pa_cons (pv 1) (pa_cons pe_int pa_nil)))))) (pa_cons (pv 4) pa_nil)))))
      (pss_cons (ps_asg (pe_tup (pa_cons (pe_c cLS hr (by decide) rfl (pa_cons (pv 3) pa_nil)) (pa_cons (pe_callTy call_list_of rfl bl.list boot_list (pa_cons (pv 5) pa_nil)) pa_nil))) (pg_tup rfl (pgs_cons (pg_name (i := 6) sc_law.nd rfl (.inr rfl)) (pgs_cons (pg_name (i := 7) sc_law.nd rfl (.inl rfl)) pgs_nil))))
      (pss_cons (ps_set (i := 8) sc_law.nd rfl (.inr rfl) (pe_c cWn hr (by decide) rfl (pa_cons (pv 3) (pa_cons (pv 5) pa_nil))))
      (pss_cons (ps_for PassesOwn.never rfl (pi_range1 rfl bl.range (pa_cons pe_int pa_nil)) (pg_name (i := 9) sc_law.nd rfl (.inl rfl))
        (pss_cons (ps_set (i := 10) sc_law.nd rfl (.inr rfl) (pe_c cWa hr (by decide) rfl (pa_cons (pv 6) (pa_cons (pv 7) pa_nil))))
        (pss_cons (ps_if (PW.pt (pw_or (pt_not (pt_val (pe_callB call_isi rfl bl.isi boot_isinstance (pa_cons (pv 10) (pa_cons (pe_bltn (v := .ty "dict") rfl bd boot_dict rfl) pa_nil)))))
          (pw_or1 (pt_cmpR (op_neD hu64) (pe_callB (call_sortedD rfl) rfl bsrt boot_sorted (pa_cons (pv 10) pa_nil)) (pe_callB (call_sortedD rfl) rfl bsrt boot_sorted (pa_cons (pv 8) pa_nil)) (nomark _))))) pss_never pss_nil)
        (pss_cons (ps_if (pt_cmpR (op_neD hu64) (pe_lock (pe_lc (own := [("_law_name", 11)]) (g := gName 11) rfl sc_law.nd (pi_keys (pv 8)) (blkOk_by (N := N_law) (sc := defScope s_law) (by decide +kernel))
            (fun _ _ _ _ _ => pg_name (i := 11) sc_law.nd rfl (Or.inl rfl)) (fun _ _ _ _ _ => pts_one (pt_cmpR (r := rNeD K) (op_neD hu64) (pe_c cP hr (by decide) rfl (pa_cons (pe_dget hu (pv 10) (pv 11) (fun _ _ => rfl)) pa_nil)) (pe_dget hu (pv 8) (pv 11) (fun _ _ => rfl)) (nomark _))) (fun _ _ _ _ _ => pv 11))) (pe_lst pa_nil) (nomark _)) pss_never pss_nil)
        (pss_one (ps_dput hu (pv 10) (pe_ix (r := rIxL K) ix_list (pv 2) pe_int (fun _ _ => rfl)) (pe_mk M1 hr (by decide) rfl (pa_cons pe_int pa_nil)) rfl))))))
      (pss_cons (ps_lock (ps_setLc (i := 12) (own := [("_law_name", 11)]) (g := gName 11) rfl sc_law.nd rfl rfl (sw_true rfl rfl rfl (by decide +kernel)) (pi_keys (pv 3)) (blkOk_by (N := N_law) (sc := defScope s_law) (by decide +kernel))
            (fun _ _ _ _ _ => pg_name (i := 11) sc_law.nd rfl (Or.inl rfl)) (fun _ _ _ _ _ => pts_one (pt_cmpR (r := rNeD K) (op_neD hu64) (pe_c cP hr (by decide) rfl (pa_cons (pe_dget hu (pv 6) (pv 11) (fun _ _ => rfl)) pa_nil)) (pe_dget hu (pv 3) (pv 11) (fun _ _ => rfl)) (nomark _))) (fun _ _ _ _ _ => pv 11)))
      (pss_cons (ps_if (PW.pt (pw_or (pt_cmpR (op_neD hu64) (pv 7) (pv 5) (nomark _)) (pw_or1 (pt_cmpR (op_neD hu64) (pv 12) (pe_lst pa_nil) (nomark _))))) pss_never pss_nil)
      (pss_cons (ps_set (i := 13) sc_law.nd rfl (.inl rfl) (pe_c cL hr (by decide) rfl (pa_cons (pe_ix (r := rIxL K) ix_list (pe_lst (pa_cons (pe_un un_neg pe_int) (pa_cons pe_int (pa_cons pe_int pa_nil)))) (pe_c cD hr (by decide) rfl (pa_cons (pv 1) (pa_cons pe_int pa_nil))) (fun _ _ => rfl)) (pa_cons (pe_op op_add pe_int (pe_c cD hr (by decide) rfl (pa_cons (pv 1) (pa_cons pe_int pa_nil)))) pa_nil))))
      (pss_cons (ps_set (i := 11) sc_law.nd rfl (.inl rfl) (pe_ix (r := rIxL K) ix_list (pv 2) (pe_c cD hr (by decide) rfl (pa_cons (pv 1) (pa_cons pe_int pa_nil))) (fun _ _ => rfl)))
      (pss_cons (ps_dput hu (pv 6) (pv 11) (pe_mt mP hr (by decide) (pe_dget2 hu (pv 6) (pv 11) (pe_mk M1 hr (by decide) rfl (pa_cons pe_int pa_nil)) ⟨rfl, rfl, rfl, rfl⟩) (pa_cons (pe_mk MS hr (by decide) rfl (pa_cons (pe_ix (r := rIxT K) ix_tup (pv 13) pe_int (fun _ _ => rfl)) (pa_cons (pe_ix (r := rIxT K) ix_tup (pv 13) pe_int (fun _ _ => rfl)) pa_nil))) pa_nil)) rfl)
      (pss_cons (ps_for PassesOwn.never rfl (pi_range1 rfl bl.range (pa_cons pe_int pa_nil)) (pg_name (i := 14) sc_law.nd rfl (.inl rfl))
        (pss_one (ps_if (pt_cmpR op_ne (pe_callB (GL.call_reprD hgd hu64) rfl brep boot_repr (pa_cons (pe_c cRf hr (by decide) rfl (pa_cons (pv 14) (pa_cons (pv 6) (pa_cons (pe_callTy call_list_of rfl bl.list boot_list (pa_cons (pv 5) pa_nil)) pa_nil)))) pa_nil))
          (pe_callB (GL.call_reprD hgd hu64) rfl brep boot_repr (pa_cons (pe_tup (pa_cons (pe_lst (pa_cons pe_str pa_nil)) (pa_cons (pv 13) (pa_cons pe_bl pa_nil)))) pa_nil)) (nomark _)) pss_never pss_nil)))
      (pss_one (ps_ret pe_bl)))))))))))))))), ?_⟩
    refine ⟨_, rfl, s0, ns, rfl, hS, hlen, fun h H1 s1 f1 held1 => ?_⟩
    refine ⟨_, rfl, h, 899999960, 12, rfl, held1.weak (by decide), by decide, fun nl zs H2 held2 k2 f2 hnl0 zl zok zpw => ?_⟩
    have xnd : (zs.map S).Nodup := by
      rw [List.nodup_iff_pairwise_ne, List.pairwise_map]
      exact zpw.imp fun ne e => ne (S_inj e)
    have xok : ∀ x ∈ zs.map S, PyData.strOk x = true ∧ x.length ≤ 8 := fun x hx => by
      obtain ⟨l, hl, rfl⟩ := List.mem_map.mp hx
      exact strOk_nm (zok l hl)
    have xl : (zs.map S).length = 12 := by rw [List.length_map, zl]
    have hnl : H2 nl = some (.lst ((zs.map S).map V.str)) := by rw [hnl0, List.map_map]; rfl
    generalize zs.map S = xs at xnd xok xl hnl
    clear hnl0 zl zok zpw zs
    -- the credits
    refine ⟨_, rfl, _, rfl, _, rfl, h, 899999959, 12, rfl, held2.weak (by decide), by decide, by decide, fun r3 H3 r30 r31 held3 k3 => ⟨_, _, rfl, rfl, _, rfl, nl, _, rfl, SqL.of (kp_lst k3 held2 _ _ hnl), fun p3 fp3 => ?_⟩⟩
    obtain ⟨n3, en3, n31, n312⟩ : ∃ n3 : Nat, (1 + r3 : Int) = (n3 : Nat) ∧ 1 ≤ n3 ∧ n3 ≤ 12 := ⟨(1 + r3).toNat, by omega, by omega, by omega⟩
    have hnl3 := kp_lst k3 held2 _ _ hnl
    rw [en3, cutk (by omega)]
    have s3 := same_new (o := .lst ((xs.take n3).map V.str)) fp3
    have hp3 : (upd H3 p3 (.lst ((xs.take n3).map V.str))) p3 = some (.lst ((xs.take n3).map V.str)) := upd_same
    have held3' := held3.same s3
    have hnl3' := s3 _ _ hnl3
    generalize upd H3 p3 (.lst ((xs.take n3).map V.str)) = H3' at hp3 held3' hnl3'
    refine ⟨h, p3, 899999000, xs.take n3, rfl, held3'.weak (by decide), hp3, (by intro e; have e2 : min n3 xs.length = 0 := (by rw [← List.length_take, e]; rfl); omega), xnd.sublist (List.take_sublist _ _), by rw [List.length_take]; omega, fun sd L c H4 held4 k4 f4 ce4 T4 nd ll cz sz0' => ?_⟩
    have hnl4 := kp_lst k4 held3' _ _ hnl3'
    -- how many
    refine ⟨_, rfl, h, 899998999, 5, rfl, held4.weak (by decide), by decide, by decide, fun b1 H5 b10 b11 held5 k5 => ⟨_, rfl, h, 899998998, 31, rfl, held5.weak (by decide), by decide, by decide, fun b2 H6 b20 b21 held6 k6 => ⟨by show 2 ≤ sizeLine; decide, fun pl fpl => ?_⟩⟩⟩
    have spl := same_new (o := .lst [V.int b1, V.int b2]) fpl
    have hpl : (upd H6 pl (.lst [V.int b1, V.int b2])) pl = some (.lst [V.int b1, V.int b2]) := upd_same
    have held6' := held6.same spl
    have k46 := (k5.trans k6).trans (Kp.same spl)
    generalize upd H6 pl (.lst [V.int b1, V.int b2]) = H7 at hpl held6' k46
    refine ⟨_, rfl, h, 899998997, 2, rfl, held6'.weak (by decide), by decide, by decide, fun e1 H8 e10 e11 held8 k8 => ?_⟩
    have hpl8 := kp_lst k8 held6' _ _ hpl
    obtain ⟨m, hm, m30⟩ : ∃ m : Nat, atI [V.int b1, V.int b2] e1 = some (V.int (m : Nat)) ∧ m ≤ 30 := by
      have : e1 = 0 ∨ e1 = 1 := by omega
      rcases this with rfl | rfl
      · exact ⟨b1.toNat, by rw [Int.toNat_of_nonneg b10]; rfl, by omega⟩
      · exact ⟨b2.toNat, by rw [Int.toNat_of_nonneg b20]; rfl, by omega⟩
    refine ⟨pl, _, _, _, rfl, rfl, SqL.of hpl8, hm, ?_⟩
    have k48 := k46.trans k8
    have hnl8 := kp_lst k48 held4 _ _ hnl4
    have T8 := T4.kp k48 held4 ce4.ne
    have ce8 := ce4.kp k48
    clear hpl8 hpl spl fpl held6' k46 hm k8 k6 k5 held5 held6 T4 hnl4
    -- the days
    refine ⟨_, rfl, _, rfl, _, rfl, h, 899998996, 12, rfl, held8.weak (by decide), by decide, by decide, fun r9 H9 r90 r91 held9 k9 => ⟨_, _, rfl, rfl, _, rfl, nl, _, rfl, SqL.of (kp_lst k9 held8 _ _ hnl8), fun p9 fp9 => ?_⟩⟩
    obtain ⟨n9, en9, n91, n912⟩ : ∃ n9 : Nat, (1 + r9 : Int) = (n9 : Nat) ∧ 1 ≤ n9 ∧ n9 ≤ 12 := ⟨(1 + r9).toNat, by omega, by omega, by omega⟩
    have hnl9 := kp_lst k9 held8 _ _ hnl8
    rw [en9, cutk (by omega)]
    have s9 := same_new (o := .lst ((xs.take n9).map V.str)) fp9
    have hp9 : (upd H9 p9 (.lst ((xs.take n9).map V.str))) p9 = some (.lst ((xs.take n9).map V.str)) := upd_same
    have held9' := held9.same s9
    have k89 := k9.trans (Kp.same s9)
    generalize upd H9 p9 (.lst ((xs.take n9).map V.str)) = H9' at hp9 held9' k89
    refine ⟨_, rfl, h, p9, 899997000, m, xs.take n9, rfl, held9'.weak (by omega), hp9, (by intro e; have e2 : min n9 xs.length = 0 := (by rw [← List.length_take, e]; rfl); omega), xnd.sublist (List.take_sublist _ _), by rw [List.length_take]; omega, m30, fun x hx => (xok x (List.mem_of_mem_take hx)).1, fun dl ds H10 held10 k10 f10 D10 dsl dsm => ?_⟩
    have k810 := k89.trans k10
    have hnl10 := kp_lst k810 held8 _ _ hnl8
    have T10 := T8.kp k810 held8 ce8.ne
    have ce10 := ce8.kp k810
    have dsx : ∀ d ∈ ds, (∀ y ∈ d.R, y ∈ xs) ∧ (∀ y ∈ d.B, y ∈ xs) := fun d hd => ⟨fun y hy => List.mem_of_mem_take ((dsm d hd).1 y hy), fun y hy => List.mem_of_mem_take ((dsm d hd).2 y hy)⟩
    have lx : ∀ x ∈ L, x ∈ xs := fun x hx => List.mem_of_mem_take (cz x hx).1
    have lz : ∀ x ∈ L, Sz 100 (c x) := fun x hx => (cz x hx).2
    clear hp9 held9' k89 k10 s9 held9 k9 hnl9 hnl8 T8 ce8 held8 k48 dsm cz hp3 held3' hnl3' s3 hnl3 en3 en9 fp9 fp3
    -- Shares, the list
    refine ⟨_, rfl, sd, L, c, rfl, T10, nd, by omega, fun x hx => (lz x hx).mono (by decide), fun sh H11 s11 f11 S11 => ⟨_, rfl, dl, _, rfl, .inl (SqL.of (s11 _ _ D10.1)), fun hl fhl => ⟨by show 2 ≤ sizeLine; decide, fun t2 ft2 => ?_⟩⟩⟩
    have nss : sh ≠ sd := by
      obtain ⟨_, e, _⟩ := T10
      exact (ne_of_none e f11).symm
    have nsh : sh ≠ h := held10.ne_new f11
    have sh1 := same_new (o := .lst (ds.map fun d => V.ref d.a)) fhl
    have hhl : (upd H11 hl (.lst (ds.map fun d => V.ref d.a))) hl = some (.lst (ds.map fun d => V.ref d.a)) := upd_same
    generalize upd H11 hl (.lst (ds.map fun d => V.ref d.a)) = H12 at sh1 hhl ft2 ⊢
    have st2 := same_new (o := .tup [.ref sh, .ref hl]) ft2
    have ht2 : (upd H12 t2 (.tup [.ref sh, .ref hl])) t2 = some (.tup [.ref sh, .ref hl]) := upd_same
    have hhl := st2 _ _ hhl
    have s113 := (sh1.trans st2)
    generalize upd H12 t2 (.tup [.ref sh, .ref hl]) = H13 at st2 ht2 hhl s113
    refine ⟨t2, _, rfl, SqT.of ht2, rfl, _, _, rfl, _, _, rfl, rfl, ?_⟩
    have s1013 := s11.trans s113
    have T13 := T10.same s1013
    have D13 := D10.same s1013
    have S13 := S11.same s113
    have hnl13 := s1013 _ _ hnl10
    have held13 := held10.same s1013
    have DH13 : DyL H13 hl ds := ⟨hhl, D13.2⟩
    clear s1013 s113 st2 ht2 hhl sh1 T10 D10 S11 hnl10 held10 s11
    refine ⟨_, rfl, _, rfl, sd, dl, L, c, ds, rfl, T13, nd, by omega, lz, D13, by omega, fun du H14 s14 f14 TD14 => ?_⟩
    have T14 := T13.same s14
    have D14 := D13.same s14
    have S14 := S13.same s14
    have hnl14 := s14 _ _ hnl13
    have held14 := held13.same s14
    have DH14 := DH13.same s14
    clear T13 D13 S13 hnl13 held13 DH13
    obtain ⟨x0, hx0⟩ : ∃ x0, xs[0]? = some x0 := ⟨_, List.getElem?_eq_getElem (by omega)⟩
    have e0 : atI (xs.map V.str) 0 = some (.str x0) := atI_nat (j := 0) (by rw [List.getElem?_map, hx0]; rfl)
    have keysx : ∀ x ∈ (due ds L c).1, x ∈ xs := fun x hx => by
      rcases mem_due hx with q | ⟨d, hd, q⟩
      · exact lx x q
      · exact (dsx d hd).1 x q
    have lw : (wnt ds L c).1.length ≤ 12 := by
      rw [← xl]
      exact few_of wnt_nd fun x hx => keysx x ((mem_both x).mp hx)
    have ld : (due ds L c).1.length ≤ 12 := by
      rw [← (wnt_due nd).length_eq]
      exact lw
    -- twice told
    refine ⟨2, rfl, by decide, by decide, for_range (n := 2) (fun i σ H' => ∃ (v9 v10 : Option V), σ = [some (.ref s0), some (.ref h), some (.ref nl), some (.ref sd), some (.int (m : Nat)), some (.ref dl), some (.ref sh), some (.ref hl), some (.ref du), v9, v10, none, none, none, none] ∧ Same H14 H')
      ⟨_, _, rfl, Same.refl _⟩ ?_ ?_⟩
    · rintro i σ H15 hi ⟨v9, v10, rfl, s15⟩
      refine ⟨_, rfl, _, rfl, sh, hl, L, c, ds, rfl, S14.same s15, nd, by omega, lz, sz0', DH14.same s15, by omega, fun fd H16 s16 f16 S16 => ?_⟩
      obtain ⟨ad, hfd, hval⟩ := S16
      refine ⟨_, rfl, _, _, _, _, true, rfl, ClsV.ty _, TyX.base (TyOf.dK hfd), kit_ty (by decide +kernel), true, rfl, iteF ?_⟩
      have s1416 := s15.trans s16
      refine ⟨_, rfl, fd, _, (wnt ds L c).1, rfl, .inl hfd, by rw [List.map_map]; rfl, by omega, fun ys p pm so fp => ?_⟩
      have sp := same_new (o := .lst (ys.map V.str)) fp
      obtain ⟨au, hdu, huv⟩ := (TD14.same s1416).same sp
      refine ⟨_, rfl, du, _, (due ds L c).1, rfl, .inl hdu, by rw [List.map_map]; rfl, by omega, fun zs p2 pm2 so2 fp2 => ?_⟩
      have sp2 := same_new (o := .lst (zs.map V.str)) fp2
      have ez : ys = zs := IO.sorted_same (IO.sorted_pw so) (IO.sorted_pw so2) ((pm.trans (wnt_due nd)).trans pm2.symm)
      subst ez
      have yok : ∀ x ∈ ys, PyData.strOk x = true := fun x hx => (xok x (keysx x (pm2.mem_iff.mp hx))).1
      refine ⟨_, _, Dp.lst (SqL.of (sp2 _ _ upd_same)) (DQ.dp_strs ys), Dp.lst (SqL.of upd_same) (DQ.dp_strs ys), DQ.sh_strs yok, DQ.sh_strs yok, _, rfl, ?_⟩
      rw [DQ.eq_strs]
      refine iteF ?_
      have s3 := sp.trans sp2
      have hdu := sp2 _ _ hdu
      have huv : ∀ x ∈ (due ds L c).1, (upd (upd H16 p (.lst (ys.map V.str))) p2 (.lst (ys.map V.str))) (au x) = some (tupP (pr ((due ds L c).2 x))) := fun x hx => sp2 _ _ (huv x hx)
      generalize upd (upd H16 p (.lst (ys.map V.str))) p2 (.lst (ys.map V.str)) = H17 at s3 hdu huv ⊢
      have hfd17 := s3 _ _ hfd
      refine ⟨du, _, hdu, trivial, fun od => ?_⟩
      obtain ⟨hd1, kp1, new1, back1⟩ := lockf (C := C) hdu od
      have huv1 : ∀ x ∈ (due ds L c).1, (upd H17 du (.frz od (dctO (due ds L c).1 fun x => .ref (au x)))) (au x) = some (tupP (pr ((due ds L c).2 x))) := fun x hx => kp1 _ _ (huv x hx) fun z => by have := huv x hx; rw [z, hdu] at this; cases this
      have ndf : fd ≠ du := by
        obtain ⟨_, e, _⟩ := TD14.same s15
        exact (ne_of_none e f16).symm
      have hfd18 := kp1 _ _ hfd17 ndf
      have hval1 : ∀ x ∈ (wnt ds L c).1, Sh C (upd H17 du (.frz od (dctO (due ds L c).1 fun x => .ref (au x)))) (ad x) (pr ((wnt ds L c).2 x)) := fun x hx => by
        have q := (hval x hx).keep s3
        exact q.un (q.at_ne hdu)
      generalize upd H17 du (.frz od (dctO (due ds L c).1 fun x => .ref (au x))) = H18 at hd1 kp1 new1 back1 huv1 hfd18 hval1
      refine ⟨_, rfl, du, od, rfl, .inl ⟨_, hd1, fun E2 hE2 => lc_it walk_keys (fun j H' => H' E2 = some (.lst []) ∧ Same H18 H') ⟨upd_same, same_new hE2⟩ (fun j H' _ z => z.2 _ _ hd1) ?_ ?_⟩⟩
      · rintro j x Hj Hj2 hj ⟨hej, sj⟩ ⟨eH, kk, v, hkk, rfl⟩
        have eH := eH.symm
        subst eH
        rw [List.getElem?_map] at hkk
        obtain ⟨z, hz0, e9⟩ := Option.map_eq_some_iff.mp hkk
        cases e9
        have hzd := List.mem_of_getElem? hz0
        have hzw := (mem_both z).mpr hzd
        have dg : DGet Hj fd (.str z) (some (.ref (ad z))) := by
          have := DGet.k (k := Sum.inr z) (sj _ _ hfd18)
          rw [val_dct, if_pos hzw] at this
          exact this
        refine ⟨rfl, ?_⟩
        refine ⟨_, rfl, _, rfl, fd, _, rfl, dg, ad z, _, rfl, (hval1 z hzw).keep sj, fun pt Hk sk fk hpt => ?_⟩
        have dg2 : DGet Hk du (.str z) (some (.ref (au z))) := .inl ⟨_, Sum.inr z, .inr ⟨od, sk _ _ (sj _ _ hd1)⟩, rfl, by rw [val_dct, if_pos hzd]⟩
        rw [wnt_val nd hzd] at hpt
        refine ⟨_, rfl, _, rfl, du, _, rfl, dg2, _, _, DQ.dp_pair hpt, DQ.dp_pair (sk _ _ (sj _ _ (huv1 z hzd))), DQ.sh_pair _, DQ.sh_pair _, _, rfl, ?_⟩
        rw [DQ.eq_pair]
        exact ⟨sk _ _ hej, sj.trans sk⟩
      rintro Hj ⟨hej, sj⟩
      obtain ⟨nE, nEd⟩ := new1 E2 hE2
      have hd2 := sj _ _ hd1
      have s17 := back1 Hj sj
      refine ⟨hd2, ?_⟩
      have hej2 : (upd Hj du (dctO (due ds L c).1 fun x => .ref (au x))) E2 = some (.lst []) := by rw [upd_ne nEd]; exact hej
      generalize upd Hj du (dctO (due ds L c).1 fun x => .ref (au x)) = H19 at s17 hej2
      refine ⟨by show 0 ≤ sizeLine; decide, fun e fe => ?_⟩
      have se := same_new (o := .lst []) fe
      refine ⟨.list [], .list [], Dp.lst (SqL.of (se _ _ hej2)) .nil, Dp.lst (SqL.of upd_same) .nil, by decide, by decide, _, rfl, ?_⟩
      rw [eqv_nil]
      refine iteF ?_
      have s20 := (s3.trans s17).trans se
      generalize upd H19 e (.lst []) = H20 at s20
      have s1420 := s1416.trans s20
      intro q dq nq ndq ne
      refine mk_in (n := 1) nq ndq (by decide) (by decide) (by decide) (by decide) fun H21 s21 hq => ⟨rfl, ?_⟩
      have hfd21 := s21 _ _ (s20 _ _ hfd)
      refine ⟨_, rfl, _, rfl, nl, _, _, _, rfl, rfl, SqL.of (s21 _ _ (s1420 _ _ hnl14)), e0, fd, _, rfl, DPut.k (k := Sum.inr x0) hfd21 (by rw [List.length_map]; exact line_lt (by omega)), _, _, rfl, fun b o eb => ?_⟩
      rw [upd_ne (ne_of_none (s15 _ _ eb) f16)]
      exact s21 _ _ (s1420 _ _ eb)
    · rintro σ H15 ⟨v9, v10, rfl, s15⟩
      have T15 := T14.same s15
      have S15 := S14.same s15
      have D15 := D14.same s15
      have DH15 := DH14.same s15
      have hnl15 := s15 _ _ hnl14
      have held15 := held14.same s15
      clear T14 D14 S14 hnl14 held14 DH14 TD14
      -- the credits stay
      obtain ⟨at_, hsd, htv⟩ := T15
      obtain ⟨as, hsh, hsv⟩ := id S15
      refine ⟨sd, _, hsd, trivial, fun od => ?_⟩
      obtain ⟨hd1, kp1, new1, back1⟩ := lockf (C := C) hsd od
      have htv1 : ∀ x ∈ L, (upd H15 sd (.frz od (dctO L fun x => .ref (at_ x)))) (at_ x) = some (tupP (pr (c x))) := fun x hx => kp1 _ _ (htv x hx) fun z => by have := htv x hx; rw [z, hsd] at this; cases this
      have hsh1 := kp1 _ _ hsh nss
      have hsv1 : ∀ x ∈ L, Sh C (upd H15 sd (.frz od (dctO L fun x => .ref (at_ x)))) (as x) (pr (c x)) := fun x hx => (hsv x hx).un ((hsv x hx).at_ne hsd)
      generalize upd H15 sd (.frz od (dctO L fun x => .ref (at_ x))) = H16 at hd1 kp1 new1 back1 htv1 hsh1 hsv1
      refine ⟨_, rfl, sd, od, rfl, .inl ⟨_, hd1, fun E2 hE2 => lc_it walk_keys (fun j H' => H' E2 = some (.lst []) ∧ Same H16 H') ⟨upd_same, same_new hE2⟩ (fun j H' _ z => z.2 _ _ hd1) ?_ ?_⟩⟩
      · rintro j x Hj Hj2 hj ⟨hej, sj⟩ ⟨eH, kk, v, hkk, rfl⟩
        have eH := eH.symm
        subst eH
        rw [List.getElem?_map] at hkk
        obtain ⟨z, hz0, e9⟩ := Option.map_eq_some_iff.mp hkk
        cases e9
        have hzd := List.mem_of_getElem? hz0
        have dg : DGet Hj sh (.str z) (some (.ref (as z))) := by
          have := DGet.k (k := Sum.inr z) (sj _ _ hsh1)
          rw [val_dct, if_pos hzd] at this
          exact this
        refine ⟨rfl, ?_⟩
        refine ⟨_, rfl, _, rfl, sh, _, rfl, dg, as z, _, rfl, (hsv1 z hzd).keep sj, fun pt Hk sk fk hpt => ?_⟩
        have dg2 : DGet Hk sd (.str z) (some (.ref (at_ z))) := .inl ⟨_, Sum.inr z, .inr ⟨od, sk _ _ (sj _ _ hd1)⟩, rfl, by rw [val_dct, if_pos hzd]⟩
        refine ⟨_, rfl, _, rfl, sd, _, rfl, dg2, _, _, DQ.dp_pair hpt, DQ.dp_pair (sk _ _ (sj _ _ (htv1 z hzd))), DQ.sh_pair _, DQ.sh_pair _, _, rfl, ?_⟩
        rw [DQ.eq_pair]
        exact ⟨sk _ _ hej, sj.trans sk⟩
      rintro Hj ⟨hej, sj⟩
      obtain ⟨nE, nEd⟩ := new1 E2 hE2
      have hd2 := sj _ _ hd1
      have s17 := back1 Hj sj
      refine ⟨hd2, ?_⟩
      have hej2 : (upd Hj sd (dctO L fun x => .ref (at_ x))) E2 = some (.lst []) := by rw [upd_ne nEd]; exact hej
      generalize upd Hj sd (dctO L fun x => .ref (at_ x)) = H17 at s17 hej2
      have smd := sm_days (ds := ds) fun d hd => ⟨fun y hy => xok y ((dsx d hd).1 y hy), fun y hy => xok y ((dsx d hd).2 y hy), (D15.2 d hd).l12, (D15.2 d hd).lb⟩
      refine ⟨_, rfl, _, rfl, .list (ds.map dyD), .list (ds.map dyD), Dp.lst (SqL.of (s17 _ _ DH15.1)) (dp_dys (DH15.same s17).2), Dp.lst (SqL.of (s17 _ _ D15.1)) (dp_dys (D15.same s17).2), smd.shaped (by decide), smd.shaped (by decide), _, rfl, ?_⟩
      rw [smd.same]
      refine iteF ?_
      refine ⟨_, rfl, by show 0 ≤ sizeLine; decide, fun e fe => ?_⟩
      have se := same_new (o := .lst []) fe
      refine ⟨.list [], .list [], Dp.lst (SqL.of (se _ _ hej2)) .nil, Dp.lst (SqL.of upd_same) .nil, by decide, by decide, _, rfl, ?_⟩
      rw [eqv_nil]
      refine iteF ?_
      have s18 := s17.trans se
      generalize upd H17 e (.lst []) = H18 at s18
      have S18 := S15.same s18
      have D18 := D15.same s18
      have hnl18 := s18 _ _ hnl15
      have held18 := held15.same s18
      clear hej2 se s17 hd2 sj hej hE2 nE nEd hd1 kp1 new1 back1 htv1 hsh1 hsv1 S15 D15 DH15 hnl15 held15 hsd htv hsh hsv s15
      -- the share that they are off by
      refine ⟨_, rfl, by show 3 ≤ sizeLine; decide, fun ql fql => ?_⟩
      have sq := same_new (o := .lst [V.int (-1), V.int 1, V.int 7]) fql
      have hql : (upd H18 ql (.lst [V.int (-1), V.int 1, V.int 7])) ql = some (.lst [V.int (-1), V.int 1, V.int 7]) := upd_same
      have held19 := held18.same sq
      have S19 := S18.same sq
      have D19 := D18.same sq
      have hnl19 := sq _ _ hnl18
      generalize upd H18 ql (.lst [V.int (-1), V.int 1, V.int 7]) = H19 at sq hql held19 S19 D19 hnl19
      clear S18 D18 hnl18 held18
      refine ⟨_, rfl, h, 899996000, 3, rfl, held19.weak (by decide), by decide, by decide, fun r20 H20 r200 r203 held20 k20 => ?_⟩
      have hql20 := kp_lst k20 held19 _ _ hql
      obtain ⟨t0, ht0, t0n, t0l⟩ : ∃ t0 : Int, atI [V.int (-1), V.int 1, V.int 7] r20 = some (V.int t0) ∧ t0 ≠ 0 ∧ t0.natAbs < 2 ^ 4 := by
        have : r20 = 0 ∨ r20 = 1 ∨ r20 = 2 := by omega
        rcases this with rfl | rfl | rfl
        · exact ⟨-1, rfl, by decide, by decide⟩
        · exact ⟨1, rfl, by decide, by decide⟩
        · exact ⟨7, rfl, by decide, by decide⟩
      refine ⟨ql, _, _, _, rfl, rfl, SqL.of hql20, ht0, _, rfl, h, 899995999, 9, rfl, held20.weak (by decide), by decide, by decide, fun r21 H21 r210 r219 held21 k21 => ⟨_, _, rfl, rfl, t0, 1 + r21, 4, rfl, by omega, by have e16 : (2 : Nat) ^ 4 = 16 := (by decide); rw [e16]; omega, by decide, by decide, fun rq frq => ?_⟩⟩
      rw [KM.low_eq (show (1 + r21 : Int) ≠ 0 by omega)]
      obtain ⟨ρ, hρ⟩ : ∃ ρ, ρ = Rat.divInt t0 (1 + r21) := ⟨_, rfl⟩
      have ρz : Sz 4 ρ := by
        rw [hρ]
        exact KM.sz_of_low (by omega) t0l (by have e16 : (2 : Nat) ^ 4 = 16 := (by decide); rw [e16]; omega)
      have ρ0 : ρ ≠ 0 := by
        rw [hρ]
        intro z
        have e1 := KM.low_top (t := t0) (b := 1 + r21)
        rw [KM.low_eq (show (1 + r21 : Int) ≠ 0 by omega), z] at e1
        have e2 : (pr (0 : Rat)).1 = 0 := rfl
        rw [e2, Int.mul_zero] at e1
        exact t0n e1.symm
      rw [← hρ]
      clear hρ
      have k1921 := k20.trans k21
      have srq := same_new (o := tupP (pr ρ)) frq
      have hrq : (upd H21 rq (tupP (pr ρ))) rq = some (tupP (pr ρ)) := upd_same
      have k1922 := k1921.trans (Kp.same srq)
      have held22 := held21.same srq
      generalize upd H21 rq (tupP (pr ρ)) = H22 at hrq k1922 held22
      -- whose credit
      refine ⟨_, rfl, _, rfl, h, 899995998, 12, rfl, held22.weak (by decide), by decide, by decide, fun r23 H23 r230 r2312 held23 k23 => ?_⟩
      have k1923 := k1922.trans k23
      have hnl23 := kp_lst k1923 held19 _ _ hnl19
      have S23 := S19.kp k1923 held19 nsh
      have D23 := D19.kp k1923 held19
      have hrq23 := kp_tup k23 held22 _ _ hrq
      obtain ⟨x, hxx, hx⟩ := pick V.str (L := xs) r230 (by rw [xl]; exact r2312)
      refine ⟨nl, _, _, _, rfl, rfl, SqL.of hnl23, hx, ?_⟩
      clear k1923 k23 k1922 k1921 srq hrq hql20 k20 k21 hql sq S19 D19 hnl19 held22 held21 held20 held19
      obtain ⟨as, hsh, hsv⟩ := S23
      refine ⟨_, rfl, sh, rfl, .inl ⟨_, .inl hsh⟩, _, rfl, ?_⟩
      intro t dt nt ndt ne
      refine mk_in (n := 10) nt ndt (by decide) (by decide) (by decide) (by decide) fun H24 s24 ht => ⟨rfl, ?_⟩
      have d01 : Rat.divInt 0 1 = 0 := rfl
      rw [d01] at ht
      have hsh24 := s24 _ _ hsh
      have dg : DGet H24 sh (.str x) (valV (L.map fun y => ((Sum.inr y : Key), V.ref (as y))) (Sum.inr x)) := DGet.k (k := Sum.inr x) hsh24
      rw [val_dct] at dg
      obtain ⟨w0, hw0, sw0⟩ : ∃ w0, ((if x ∈ L then some (V.ref (as x)) else none).getD (.ref t)) = .ref w0 ∧ Sh C H24 w0 (pr (get0 L c x)) := by
        unfold get0
        by_cases hzu : x ∈ L
        · rw [if_pos hzu, if_pos hzu]
          exact ⟨_, rfl, (hsv x hzu).keep s24⟩
        · rw [if_neg hzu, if_neg hzu]
          exact ⟨_, rfl, ht⟩
      have gz : Sz 100 (get0 L c x) := by
        unfold get0
        split
        · rename_i q
          exact lz x q
        · exact sz0 (by decide)
      obtain ⟨dw, hw1⟩ := id sw0
      have hrq24 := s24 _ _ hrq23
      refine ⟨_, dg, w0, dw, _, hw0, hw1, shF_no _ (by decide +kernel) (by decide +kernel), _, rfl, rq, _, _, _, rfl, rfl, SqT.of hrq24, atI_nat (j := 0) rfl, _, rfl, rq, _, _, _, rfl, rfl, SqT.of hrq24, atI_nat (j := 1) rfl, ?_⟩
      intro t3 dt3 nt3 ndt3 ne3
      have dp := KM.den_pos ρ
      have d16 := ρz.2
      refine mk_in (n := 4) (t := (pr ρ).1) (b := (pr ρ).2) nt3 ndt3 (by show ((ρ.den : Nat) : Int) ≠ 0; omega) (by show ((ρ.den : Nat) : Int).natAbs < 2 ^ 4; rw [Int.natAbs_natCast]; exact d16) (by decide) (by decide) fun H25 s25 ht3 => ⟨rfl, ?_⟩
      have er : Rat.divInt (pr ρ).1 (pr ρ).2 = ρ := Rat.num_divInt_den ρ
      rw [er] at ht3
      refine ⟨w0, t3, get0 L c x, ρ, 100, (by rw [hw0]; rfl), sw0.keep s25, ht3, gz, ρz.mono (by decide), by decide, by decide, fun t4 H26 s26 ft4 ht4 => ?_⟩
      have s2326 := (s24.trans s25).trans s26
      have hsh26 := s2326 _ _ hsh
      have S27 := SDc.put (C := C) (x := x) (v := get0 L c x + ρ) hsh26 (fun y hy => (hsv y hy).keep s2326) ht4
      have D26 := D23.same s2326
      have kt : ∀ b ys, H26 b = some (.tup ys) → (upd H26 sh (.dK (putK (L.map fun y => ((Sum.inr y : Key), V.ref (as y))) (Sum.inr x) (.ref t4)))) b = some (.tup ys) := fun b ys e => by rw [upd_ne (ne_of e hsh26 (by intro z; cases z))]; exact e
      have hrq27 := kt _ _ (s2326 _ _ hrq23)
      have D27 : DyL (upd H26 sh (.dK (putK (L.map fun y => ((Sum.inr y : Key), V.ref (as y))) (Sum.inr x) (.ref t4)))) dl ds := ⟨by rw [upd_ne (ne_of D26.1 hsh26 (by intro z; cases z))]; exact D26.1, fun d hd => (D26.2 d hd).tup kt⟩
      refine ⟨_, rfl, _, rfl, sh, _, rfl, DPut.k (k := Sum.inr x) hsh26 (by rw [List.length_map]; exact line_lt (by omega)), ?_⟩
      generalize upd H26 sh (.dK (putK (L.map fun y => ((Sum.inr y : Key), V.ref (as y))) (Sum.inr x) (.ref t4))) = H27 at S27 hrq27 D27
      have sN : sumR ((addK L x).map (setc c x (get0 L c x + ρ))) = ρ := by rw [sum_mv nd, sz0', Rat.zero_add]
      have lN := addK_len L x
      have zN : ∀ y ∈ addK L x, Sz 150 (setc c x (get0 L c x + ρ) y) := fun y hy => by
        unfold setc
        split
        · exact ((KM.sz_plus gz ρz).1).mono (by decide)
        · rename_i q
          exact (lz y ((addK_sub hy).resolve_right q)).mono (by decide)
      generalize addK L x = L2 at S27 sN lN zN
      generalize setc c x (get0 L c x + ρ) = c2 at S27 sN zN
      clear ht4 ft4 s26 ht3 er s25 hw1 sw0 gz dg hw0 hsh24 ht s24 ne nt ndt ne3 nt3 ndt3 D26 kt hsh26 s2326 hsv hsh hrq24 hrq23 D23
      have rq1 : (pr ρ).1.natAbs < 2 ^ 20 := Nat.lt_of_lt_of_le ρz.1 (by decide)
      have rq2 : (pr ρ).2.natAbs < 2 ^ 20 := by
        show ((ρ.den : Nat) : Int).natAbs < 2 ^ 20
        rw [Int.natAbs_natCast]
        exact Nat.lt_of_lt_of_le d16 (by decide)
      obtain ⟨r1, r2, r3, r4⟩ := rp_un rq1 rq2
      -- refused
      refine ⟨5, rfl, by decide, by decide, for_range (n := 5) (fun i σ H' => ∃ (v14 : Option V), σ = [some (.ref s0), some (.ref h), some (.ref nl), some (.ref sd), some (.int (m : Nat)), some (.ref dl), some (.ref sh), some (.ref hl), some (.ref du), v9, v10, some (.str x), some (.ref E2), some (.ref rq), v14] ∧ Same H27 H')
        ⟨_, rfl, Same.refl _⟩ ?_ ?_⟩
      · rintro i σ H28 hi ⟨v14, rfl, s28⟩
        refine ⟨_, rfl, _, rfl, _, rfl, dl, _, rfl, .inl (SqL.of (s28 _ _ D27.1)), fun l9 fl9 => ?_⟩
        have s9 := same_new (o := .lst (ds.map fun d => V.ref d.a)) fl9
        refine ⟨i, sh, .ref l9, L2, c2, (by show [V.int (0 + (i : Int)), _, _] = [V.int (i : Int), _, _]; rw [Int.zero_add]), by omega, (S27.same s28).same s9, by omega, zN, by rw [sN]; exact ρ0, fun tt ll' rr H29 s29 ht hl' hr' => ?_⟩
        rw [sN] at hr'
        refine ⟨_, _, rfl, Dp.tup (SqT.of ht) (.cons (Dp.lst (SqL.of hl') (.cons (.str _) .nil)) (.cons (DQ.dp_pair hr') (.cons (.bl _) .nil))), r1, r2, r3, r4, ?_⟩
        refine ⟨by show 1 ≤ sizeLine; decide, fun l2 fl2 => ?_⟩
        have sl2 := same_new (o := .lst [.str "uneven"]) fl2
        have s2829 := (s9.trans s29).trans sl2
        refine ⟨_, rfl, by show 3 ≤ sizeLine; decide, fun t2 ft2 => ?_⟩
        have st2 := same_new (o := .tup [.ref l2, .ref rq, .bl true]) ft2
        refine ⟨_, _, rfl, Dp.tup (SqT.of upd_same) (.cons (Dp.lst (SqL.of (st2 _ _ upd_same)) (.cons (.str _) .nil)) (.cons (DQ.dp_pair (st2 _ _ (s2829 _ _ (s28 _ _ hrq27)))) (.cons (.bl _) .nil))), r1, r2, r3, r4, rfl, _, rfl, ?_⟩
        rw [ne_same]
        exact iteF ⟨_, rfl, ((s28.trans s2829).trans st2)⟩
      · rintro σ H28 ⟨v14, rfl, s28⟩
        exact hQ _
end
end K48
set_option Elab.async false
set_option linter.all false
set_option maxRecDepth 100000
set_option maxHeartbeats 4000000
/-! GE: a law's end by a promise that is asked only where no repr is under way. -/
namespace GL
open PySem PySem.Spec PyProof.Rows L2
theorem lawG {P : Program} {w : World} {K : PySem.W.Frag} {mg mb : Str → Option Value} {k : Nat} {fa a : Addr} {fd : FuncData} {x : Str} {sp : Sp} {s₁ : Shared} {vs : List Value} {ns : List Int}
    (KX : K.In s₁.heap) (hns : s₁.heap.Ns mainGlobals mg) (hb : s₁.heap.Ns builtinsNs mb) (hbb : ∀ x : Str, x ≠ "__name__" → mb x = bootBuiltins x) (hlim : s₁.heap.NoLimit) (hg : s₁.gens = #[])
    (ha : s₁.heap.get? a = some { cls := .type "list", data := .seq vs.toArray }) (hi : IntsAre vs ns) (hl : ns.length ≤ sizeLine) (hr : Room k callerA)
    (F : ∀ base : Heap, K.In base → base.Ns mainGlobals mg → FnG P w K mg base k fa fd [x] sp) (hbind : ∀ (s : Shared) (u : Value), BindsTo s fd ⟨[u], []⟩ [(x, u)])
    (hsp : ∀ H : Hp, SqL K H a (ns.map V.int) → sp [.ref a] H (fun v _ => v = .bl true) fun _ _ _ => False) :
    codeAny (model P w) callerA (.call (.ref fa) ⟨[.ref a], []⟩) (fun r s' => r = .ok (.ret (.bool true)) ∧ OldK s₁.heap s'.heap ∧ s'.os = s₁.os ∧ AllBare s'.gens) s₁ := by
  -- the script alone is tracked, as it is, or nothing
  have from_ : ∀ H : Hp, SqL K H a (ns.map V.int) → HOk P w H s₁.heap → (∀ b u, H b = some u → b = a ∧ K.lookup a = none ∧ ∃ o xs, u = .frz o (.lst xs)) →
      codeAny (model P w) callerA (.call (.ref fa) ⟨[.ref a], []⟩) (fun r s' => r = .ok (.ret (.bool true)) ∧ OldK s₁.heap s'.heap ∧ s'.os = s₁.os ∧ AllBare s'.gens) s₁ := by
    intro H hS hok hA
    have off : ∀ b, (b = a → K.lookup a ≠ none) → H b = none := fun b n => by
      cases q : H b with
      | none => rfl
      | some u => exact absurd (hA b u q).2.1 (n (hA b u q).1)
    have nsK : ∀ {b : Addr} {m : Str → Option Value}, s₁.heap.Ns b m → (hidT s₁.heap H).Ns b m := by
      rintro b m ⟨o, es, ep, e, d, r⟩
      refine ⟨o, es, ep, hidT_get e (off b fun z => ?_), d, r⟩
      subst z
      rw [ha] at e
      cases e
      cases d
    have inK : K.In (hidT s₁.heap H) := fun b o e => hidT_get (KX b o e) (off b fun z => by rw [← z, e]; simp)
    have hM : Mod K mg (hidT s₁.heap H) := ⟨inK, nsK hns, ⟨mb, nsK hb, hbb⟩, by obtain ⟨mc, h1, h2⟩ := hlim; exact ⟨mc, nsK h1, h2⟩⟩
    have nofr : ∀ b : Addr, b ∉ frs ([] : List Env) := fun b z => nomatch z
    have e0 : Env0 P w K mg (hidT s₁.heap H) callerA [] s₁ H := ⟨rfl, hM, fun b o e => of_hidT e, Nat.le_of_eq (hidT_size _ _), trivial, fun b z => absurd z (nofr b), hok, .of_eq hg⟩
    refine codeAny_mono ((F _ inK (nsK hns)).run callerA [] s₁ H ⟨[.ref a], []⟩ [.ref a] [.ref a] _ _ rfl hr e0 (hbind s₁ (.ref a)) (.cons rfl .nil) (hsp H hS)) fun r s' h => ?_
    match r, h with
    | .error e, h => exact False.elim h
    | .ok .next, h => exact False.elim h
    | .ok .brk, h => exact False.elim h
    | .ok .cont, h => exact False.elim h
    | .ok (.ret u), ⟨v, H', os, bare, un, hok', r', q⟩ =>
      cases (show v = .bl true from q)
      cases (show u = Value.bool true from r')
      refine ⟨rfl, OldK.of_keep fun b o e => ?_, os, bare⟩
      cases q : H b with
      | none => exact un.keep b o e q (nofr b) (by simp)
      | some u =>
        obtain ⟨_, _, ob, xs, rfl⟩ := hA b u q
        have e1 := (hok b _ q).1
        have e2 := (hok' b _ (un.frzs b ob _ q)).1
        rw [e] at e1
        cases e1
        exact e2
  have rv := vals_ints hi
  cases hk : K.lookup a with
  | some o =>
    have e := KX a o hk
    rw [ha] at e
    cases e
    exact from_ (fun _ => none) (.inr ⟨_, vs.toArray, _, hk, rfl, rfl, rfl, by rw [List.size_toArray, hi.length]; exact hl, by simpa using rv⟩) (fun b u z => nomatch z) (fun b u z => nomatch z)
  | none =>
    have at_ : ∀ (b : Addr) (u : HO), (if b = a then some (HO.frz { cls := .type "list", data := .seq vs.toArray } (.lst (ns.map V.int))) else none) = some u → b = a ∧ u = HO.frz { cls := .type "list", data := .seq vs.toArray } (.lst (ns.map V.int)) := fun b u z => by
      by_cases h : b = a
      · rw [if_pos h] at z
        exact ⟨h, (Option.some.inj z).symm⟩
      · rw [if_neg h] at z
        cases z
    refine from_ (fun b => if b = a then some (.frz { cls := .type "list", data := .seq vs.toArray } (.lst (ns.map V.int))) else none) (.inl (.inr ⟨{ cls := .type "list", data := .seq vs.toArray }, if_pos rfl⟩)) (fun b u z => ?_) (fun b u z => ?_)
    · obtain ⟨rfl, rfl⟩ := at_ b u z
      exact ⟨ha, by rw [List.length_map]; exact hl, vs, _, rv, ha⟩
    · obtain ⟨rfl, rfl⟩ := at_ b u z
      exact ⟨rfl, hk, _, _, rfl⟩
/-- a law: F gives the written part, the function object, the promise over every base -/
theorem walkG {l : PySem.W.OpenLaw} {n k : Nat} {q : Program} {loose : List Str} {XP : (Str → Option Value) → Heap → Prop} {YP : World → Heap → Prop} {d : DefRec} {x : Str} (hn : l.most = some n) (hn2 : n ≤ sizeLine) (hdf : d.params.defaults = []) (hr : Room k callerA)
    (F : ∀ (w : World) (mg : Str → Option Value) (fa : Addr) (h : Heap), YP w h → h.Ns mainGlobals mg → mg d.name = some (.ref fa) →
      ∃ (K : PySem.W.Frag) (fd : FuncData) (sp : Sp), K.In h ∧ (∀ (s : Shared) (u : Value), BindsTo s fd ⟨[u], []⟩ [(x, u)]) ∧
        (∀ (H : Hp) (a : Addr) (ns : List Int), ns.length ≤ n → SqL K H a (ns.map V.int) → sp [.ref a] H (fun v _ => v = .bl true) fun _ _ _ => False) ∧
        ∀ base : Heap, K.In base → base.Ns mainGlobals mg → FnG l.prog w K mg base k fa fd [x] sp) : PySem.W.WalkO q loose XP YP l.row.toRowW d [] (fun f vs => PySem.call f vs) := by
  refine Att.attach_call hn hdf fun w s₀ s₁ mg mb fa o pm cd doc a vs ns G Y ho hd hcd hmg hobj hints hlen hg => ?_
  obtain ⟨K, fd, sp, KX, hb, hsp, hF⟩ := F w mg fa _ Y G.T.g hmg
  exact lawG KX G.T.g G.T.b G.T.builtins G.T.nolimit hg hobj hints (Nat.le_trans hlen hn2) hr hF hb fun H hS => hsp H a ns hlen hS
end GL
set_option Elab.async false
set_option linter.all false
set_option maxRecDepth 100000
set_option maxHeartbeats 4000000
namespace K48
open PySem PySem.Spec PyProof.Rows L2
/-! what the head asks of Uneven -/
theorem isB_ok {K : PySem.W.Frag} {C : Addr} (h : GX.isB K C = true) : PySem.W.findIn K (.ref C) "__class__" = some (some (.builtin "object.__class__")) ∧ PySem.W.specialIn K (.builtin "object.__class__") "__get__" = some (some (.builtin "getset_descriptor.__get__")) ∧ PySem.W.takesIn K (.builtin "object.__class__") = some true ∧ PySem.W.mroIn K C (.type "object") = some true := by
  unfold GX.isB at h
  simp only [Bool.and_eq_true, decide_eq_true_eq] at h
  exact ⟨He.eqO_ok h.1, He.eqO_ok h.2.1, h.2.2.1, h.2.2.2⟩
theorem exc_of {K : PySem.W.Frag} {C : Addr} (h : GX.isB K C = true) (x : XfC K C) : ExcC K C := by
  obtain ⟨a, b, c, d⟩ := isB_ok h
  exact ⟨x.ga, x.gg, x.exC, x.hdC, a, b, c, d⟩
theorem xkC_ok {K : PySem.W.Frag} {C : Addr} {bs : List Value} {nid vi ty : String} {ow : Str → Bool} {ab : String → Bool} (h : xkC K C bs nid vi ty ow ab = true) : GX.Gx K C bs nid ∧ PySem.W.findCls K (.type ty) (.type "type") "__init__" = some (.val (.builtin vi)) ∧ XfC K C ∧
    PySem.W.exmOne K (.ref C) (.ref C) = some true ∧ ExcC K C ∧ (∀ x ∈ ex16, PySem.W.kitOne K (.ref C) (.ref (He.ga K x)) = some (ow x)) ∧ ∀ x ∈ ex10, PySem.W.kitOne K (.ref C) (.type x) = some (ab x) := by
  unfold xkC at h
  obtain ⟨h2, h⟩ := Bool.and_eq_true_iff.mp h
  obtain ⟨h3, h⟩ := Bool.and_eq_true_iff.mp h
  obtain ⟨h4, h⟩ := Bool.and_eq_true_iff.mp h
  obtain ⟨h5, h⟩ := Bool.and_eq_true_iff.mp h
  obtain ⟨h6, h⟩ := Bool.and_eq_true_iff.mp h
  obtain ⟨h7, h8⟩ := Bool.and_eq_true_iff.mp h
  exact ⟨GX.gxB_ok h2, GX.vvB_ok h3, xfB_ok h4, of_decide_eq_true h5, exc_of h6 (xfB_ok h4), fun x hx => of_decide_eq_true (List.all_eq_true.mp h7 x hx), fun x hx => of_decide_eq_true (List.all_eq_true.mp h8 x hx)⟩
theorem fndU : fnd owU = [("uneven" : Str)] := by decide +kernel
theorem abvU : (ex10.map fun x => abU x) = (List.range 10).map (abv [2]) := by decide +kernel
theorem plcU : (("uneven" : Str), ([2] : List Int)) ∈ plc := by decide +kernel
end K48
set_option Elab.async false
set_option linter.all false
set_option maxRecDepth 100000
set_option maxHeartbeats 0
namespace K48
open PySem PySem.Spec PyProof.Rows L2
abbrev hk : PySem.W.Hook := He.hookX 6 fa fn [] [] xk
def ob (s : PySem.W.SharedT) : He.AlX := He.obsX 6 fa fn [] [] xk (HandSHeadRun.getT s)
theorem ob_eq (s : PySem.W.SharedT) : ob s = hk.obs s.abs := He.obsX_eq (HandSHeadRun.getT_eq s)
theorem glue {α β γ δ : Type} {x : Option α} {f : α → β} {g : α → γ} {h : α → δ} {b : β} {c : γ} {d : δ} (e1 : x.map f = some b) (e2 : x.map g = some c) (e3 : x.map h = some d) : x.map (fun s => (f s, g s, h s)) = some (b, c, d) := by
  cases x with
  | none => cases e1
  | some z =>
    have a1 : f z = b := Option.some.inj e1
    have a2 : g z = c := Option.some.inj e2
    have a3 : h z = d := Option.some.inj e3
    show some (f z, g z, h z) = _
    rw [a1, a2, a3]
theorem ob_z (z : PySem.W.SharedT) : ob z = ((((fa.all fun f => f.ok (Kf z)) && (fn.all fun d => d.ok (Kf z)), fn.map fun d => He.fnW (Kf z) d.at_), []), xk (Kf z) && He.tabsB (HandSHeadRun.getT z) [] (Kf z)) := by
  unfold ob He.obsX He.obsT He.obsD
  rw [List.map_nil]
theorem runO (w : World) (os : PySem.OsState) : (eN w os).map ob = some (((true, fn.map He.DefD.val), []), true) := by
  have b := runB w os
  have c := runC w os
  revert b c
  generalize eN w os = x
  intro b c
  cases x with
  | none => exact absurd b (by simp)
  | some z =>
    rw [Option.map_some] at b c ⊢
    have b := Option.some.inj b
    have c := Option.some.inj c
    rw [Prod.mk.injEq, Prod.mk.injEq] at c
    rw [ob_z, b, c.1, c.2.1, c.2.2]
    rfl
theorem run_ (w : World) : HandSHeadRun.RunEq R (PySem.W.view R.prog [64]) hk ob 8000 loose w := by
  intro os
  have q := glue (runL w os) (runS w os) (runO w os)
  unfold eN at q
  exact q
end K48
set_option Elab.async false
set_option linter.all false
set_option maxRecDepth 100000
set_option maxHeartbeats 0
namespace K48
open PySem PySem.Spec PyProof.Rows L2
open C8 (Cal Mak Met pe_c pe_mk pe_mt pe_mt0)
theorem cal_of {P : Program} {w : World} {K : PySem.W.Frag} {mg : Str → Option Value} {base : Heap} {f : Addr} {fd : FuncData} {ps : List Str} {k : Nat} {x : Str} {sp : Sp} (F : FnOk P w K mg base CX0 k f fd ps sp) (g : mg x = some (.ref f)) (kp : PySem.W.keepIn K (.ref f) = true) (b : Binds K fd ps []) : Cal P w K mg base k x sp [] :=
  ⟨f, fd, ps, [], F, g, kp, b, .nil⟩
theorem met_of {P : Program} {w : World} {K : PySem.W.Frag} {mg : Str → Option Value} {base : Heap} {f C : Addr} {fd : FuncData} {ps : List Str} {k : Nat} {m : Str} {sp : Sp} (c : Cls K C) (h : Meth K C m f) (F : FnOk P w K mg base CX0 k f fd ps sp) (b : Binds K fd ps []) : Met P w K mg base k C m sp [] :=
  ⟨f, fd, ps, [], c, h, F, b, .nil⟩
theorem facts {P : Program} {w : World} {K : PySem.W.Frag} {h h0 : Heap} {mg : Str → Option Value} {f : Addr} (X : K.In h) (G : h.Ns mainGlobals mg) (hfa : mg ("law" : Str) = some (.ref f)) (c : He.SaysX fa fn [] [] xk w h0 K) :
    ∃ fd : FuncData, (∀ (s : Shared) (v : Value), BindsTo s fd ⟨[v], []⟩ [("_law_script", v)]) ∧ ∀ base : Heap, K.In base → base.Ns mainGlobals mg → GL.FnG P w K mg base 11 f fd ["_law_script"] (spLaw K) := by
  have d := c.t.d
  have x := c.more
  have gl : ∀ (i : Nat) (x : Str), fa[i]? = some (.glo x) → mg x = some (.ref (He.ga K x)) := fun i x e => He.glo_ok X G (d.fact i e)
  have fr : ∀ (i : Nat) (x : Str), fa[i]? = some (.free x) → mg x = none := fun i x e => He.free_ok X G (d.fact i e)
  have me : ∀ (i : Nat) (C m : Str), fa[i]? = some (.meth C m) → Meth K (He.ga K C) m (He.ma K (He.ga K C) m) := fun i C m e => He.meth_ok (d.fact i e)
  have gl_is_whole := gl 0 "is_whole" rfl
  have gl_common_part := gl 1 "common_part" rfl
  have gl_same_share := gl 2 "same_share" rfl
  have gl_total := gl 3 "total" rfl
  have gl_check_even := gl 4 "check_even" rfl
  have gl_joined := gl 5 "joined" rfl
  have gl_turned := gl 6 "turned" rfl
  have gl_wanted := gl 7 "wanted" rfl
  have gl_search := gl 8 "search" rfl
  have gl_evened := gl 9 "evened" rfl
  have gl_why_uneven := gl 10 "why_uneven" rfl
  have gl_soonest := gl 11 "soonest" rfl
  have gl_shows_uneven := gl 12 "shows_uneven" rfl
  have gl__law_held := gl 13 "_law_held" rfl
  have gl__law_draw := gl 14 "_law_draw" rfl
  have gl__law_names := gl 15 "_law_names" rfl
  have gl__law_low := gl 16 "_law_low" rfl
  have gl__law_add := gl 17 "_law_add" rfl
  have gl__law_pair := gl 18 "_law_pair" rfl
  have gl__law_kinds := gl 19 "_law_kinds" rfl
  have gl__law_bases := gl 20 "_law_bases" rfl
  have gl__law_coming := gl 21 "_law_coming" rfl
  have gl__law_wants := gl 22 "_law_wants" rfl
  have gl__law_shares := gl 23 "_law_shares" rfl
  have gl__law_standing := gl 24 "_law_standing" rfl
  have gl__law_refused := gl 25 "_law_refused" rfl
  have gl_law := gl 26 "law" rfl
  have fr_isinstance := fr 27 "isinstance" rfl
  have fr_int := fr 28 "int" rfl
  have fr_bool := fr 29 "bool" rfl
  have fr_abs := fr 30 "abs" rfl
  have fr_list := fr 31 "list" rfl
  have fr_range := fr 32 "range" rfl
  have fr_len := fr 33 "len" rfl
  have fr_repr := fr 34 "repr" rfl
  have fr_sorted := fr 35 "sorted" rfl
  have fr_dict := fr 36 "dict" rfl
  have fr_str := fr 37 "str" rfl
  have fr_tuple := fr 38 "tuple" rfl
  have fr_min := fr 39 "min" rfl
  have fr_zip := fr 40 "zip" rfl
  have fr_TypeError := fr 41 "TypeError" rfl
  have fr_ZeroDivisionError := fr 42 "ZeroDivisionError" rfl
  have fr_ArithmeticError := fr 43 "ArithmeticError" rfl
  have fr_ValueError := fr 44 "ValueError" rfl
  have fr_KeyError := fr 45 "KeyError" rfl
  have fr_LookupError := fr 46 "LookupError" rfl
  have fr_IndexError := fr 47 "IndexError" rfl
  have fr_OverflowError := fr 48 "OverflowError" rfl
  have fr_RuntimeError := fr 49 "RuntimeError" rfl
  have fr_NotImplementedError := fr 50 "NotImplementedError" rfl
  have gl_Share := gl 51 "Share" rfl
  have cls_Share := He.cls_ok (d.fact 52 (f := .cls "Share") rfl)
  have mk_Share := He.mkr_ok (d.fact 53 (f := .mkr "Share") rfl)
  have gl_NoKind := gl 54 "NoKind" rfl
  have gl_Nought := gl 55 "Nought" rfl
  have gl_NoShare := gl 56 "NoShare" rfl
  have gl_Uneven := gl 57 "Uneven" rfl
  have gl_BadName := gl 58 "BadName" rfl
  have gl_NoNumber := gl 59 "NoNumber" rfl
  have gl_NoRide := gl 60 "NoRide" rfl
  have gl_NoText := gl 61 "NoText" rfl
  have gl_NoName := gl 62 "NoName" rfl
  have gl_NoDay := gl 63 "NoDay" rfl
  have gl_NoSeats := gl 64 "NoSeats" rfl
  have gl_TooMany := gl 65 "TooMany" rfl
  have gl_Taken := gl 66 "Taken" rfl
  have gl_NoRule := gl 67 "NoRule" rfl
  have gl_NothingDone := gl 68 "NothingDone" rfl
  have gl_NoRow := gl 69 "NoRow" rfl
  have no_Share_top := He.noat_ok (d.fact 70 (f := .noat "Share" "top") rfl)
  have no_Share_bottom := He.noat_ok (d.fact 71 (f := .noat "Share" "bottom") rfl)
  have no_Uneven_rest := He.noat_ok (d.fact 72 (f := .noat "Uneven" "rest") rfl)
  have me_Share_plus := me 73 "Share" "plus" rfl
  have me_Share_less := me 74 "Share" "less" rfl
  have me_Uneven_init := me 75 "Uneven" "__init__" rfl
  obtain ⟨fd_Uneven_init, D_Uneven_init⟩ := d.def_ 4 (d := d_Uneven_init) rfl
  obtain ⟨fd_is_whole, D_is_whole⟩ := d.def_ 17 (d := d_is_whole) rfl
  obtain ⟨fd_common_part, D_common_part⟩ := d.def_ 18 (d := d_common_part) rfl
  obtain ⟨fd_Share_init, D_Share_init⟩ := d.def_ 19 (d := d_Share_init) rfl
  obtain ⟨fd_Share_plus, D_Share_plus⟩ := d.def_ 23 (d := d_Share_plus) rfl
  obtain ⟨fd_Share_less, D_Share_less⟩ := d.def_ 24 (d := d_Share_less) rfl
  obtain ⟨fd_same_share, D_same_share⟩ := d.def_ 29 (d := d_same_share) rfl
  obtain ⟨fd_total, D_total⟩ := d.def_ 30 (d := d_total) rfl
  obtain ⟨fd_check_even, D_check_even⟩ := d.def_ 31 (d := d_check_even) rfl
  obtain ⟨fd_joined, D_joined⟩ := d.def_ 32 (d := d_joined) rfl
  obtain ⟨fd_turned, D_turned⟩ := d.def_ 33 (d := d_turned) rfl
  obtain ⟨fd_wanted, D_wanted⟩ := d.def_ 34 (d := d_wanted) rfl
  obtain ⟨fd_search, D_search⟩ := d.def_ 45 (d := d_search) rfl
  obtain ⟨fd_evened, D_evened⟩ := d.def_ 46 (d := d_evened) rfl
  obtain ⟨fd_why_uneven, D_why_uneven⟩ := d.def_ 47 (d := d_why_uneven) rfl
  obtain ⟨fd_soonest, D_soonest⟩ := d.def_ 48 (d := d_soonest) rfl
  obtain ⟨fd_shows_uneven, D_shows_uneven⟩ := d.def_ 52 (d := d_shows_uneven) rfl
  obtain ⟨fd_l_held, D_l_held⟩ := d.def_ 53 (d := d_l_held) rfl
  obtain ⟨fd_l_draw, D_l_draw⟩ := d.def_ 54 (d := d_l_draw) rfl
  obtain ⟨fd_l_names, D_l_names⟩ := d.def_ 55 (d := d_l_names) rfl
  obtain ⟨fd_l_low, D_l_low⟩ := d.def_ 56 (d := d_l_low) rfl
  obtain ⟨fd_l_add, D_l_add⟩ := d.def_ 57 (d := d_l_add) rfl
  obtain ⟨fd_l_pair, D_l_pair⟩ := d.def_ 58 (d := d_l_pair) rfl
  obtain ⟨fd_l_kinds, D_l_kinds⟩ := d.def_ 59 (d := d_l_kinds) rfl
  obtain ⟨fd_l_bases, D_l_bases⟩ := d.def_ 60 (d := d_l_bases) rfl
  obtain ⟨fd_l_coming, D_l_coming⟩ := d.def_ 61 (d := d_l_coming) rfl
  obtain ⟨fd_l_wants, D_l_wants⟩ := d.def_ 62 (d := d_l_wants) rfl
  obtain ⟨fd_l_shares, D_l_shares⟩ := d.def_ 63 (d := d_l_shares) rfl
  obtain ⟨fd_l_standing, D_l_standing⟩ := d.def_ 64 (d := d_l_standing) rfl
  obtain ⟨fd_l_refused, D_l_refused⟩ := d.def_ 65 (d := d_l_refused) rfl
  obtain ⟨fd_law, D_law⟩ := d.def_ 66 (d := d_law) rfl
  have e := hfa.symm.trans gl_law
  cases e
  have bL := FunD.bindsA (ps := ["_law_script"]) D_law fun _ _ _ _ _ _ us hl => match us, hl with | [_], _ => rfl
  refine ⟨fd_law, fun s v => bL s [v] rfl, fun base _ _ => ?_⟩
  have b_Uneven_init : Binds K fd_Uneven_init ["self", "rest"] [] := D_Uneven_init.bindsN fun _ _ _ _ _ _ us hl => match us, hl with | [_, _], _ => rfl
  have b_is_whole : Binds K fd_is_whole ["thing"] [] := D_is_whole.bindsN fun _ _ _ _ _ _ us hl => match us, hl with | [_], _ => rfl
  have b_common_part : Binds K fd_common_part ["one", "other"] [] := D_common_part.bindsN fun _ _ _ _ _ _ us hl => match us, hl with | [_, _], _ => rfl
  have b_Share_init : Binds K fd_Share_init ["self", "top", "bottom"] [] := by
    obtain ⟨ds, h1, h2⟩ := D_Share_init.binds1 (ps := ["self", "top", "bottom"]) 3 1 (List.cons_ne_nil _ _) rfl (fun T kV doc pm an cdv ct us its hl h1 => match us, hl, its, h1 with | [_, _, _], _, [_], _ => ⟨_, rfl, rfl⟩)
    cases h1
    exact h2
  obtain ⟨ds1_Share_init, v1_Share_init, b1_Share_init⟩ := D_Share_init.binds1 (ps := ["self", "top", "bottom"]) 2 0 (List.cons_ne_nil _ _) rfl (fun T kV doc pm an cdv ct us its hl h1 => match us, hl, its, h1 with | [_, _], _, [_], _ => ⟨_, rfl, rfl⟩)
  have b_Share_plus : Binds K fd_Share_plus ["self", "other"] [] := D_Share_plus.bindsN fun _ _ _ _ _ _ us hl => match us, hl with | [_, _], _ => rfl
  have b_Share_less : Binds K fd_Share_less ["self", "other"] [] := D_Share_less.bindsN fun _ _ _ _ _ _ us hl => match us, hl with | [_, _], _ => rfl
  have b_same_share : Binds K fd_same_share ["share"] [] := D_same_share.bindsN fun _ _ _ _ _ _ us hl => match us, hl with | [_], _ => rfl
  have b_total : Binds K fd_total ["shares", "start"] [] := by
    obtain ⟨ds, h1, h2⟩ := D_total.binds1 (ps := ["shares", "start"]) 2 1 (List.cons_ne_nil _ _) rfl (fun T kV doc pm an cdv ct us its hl h1 => match us, hl, its, h1 with | [_, _], _, [_], _ => ⟨_, rfl, rfl⟩)
    cases h1
    exact h2
  obtain ⟨ds1_total, v1_total, b1_total⟩ := D_total.binds1 (ps := ["shares", "start"]) 1 0 (List.cons_ne_nil _ _) rfl (fun T kV doc pm an cdv ct us its hl h1 => match us, hl, its, h1 with | [_], _, [_], _ => ⟨_, rfl, rfl⟩)
  have b_check_even : Binds K fd_check_even ["standing"] [] := D_check_even.bindsN fun _ _ _ _ _ _ us hl => match us, hl with | [_], _ => rfl
  have b_joined : Binds K fd_joined ["standing", "moves"] [] := D_joined.bindsN fun _ _ _ _ _ _ us hl => match us, hl with | [_, _], _ => rfl
  have b_turned : Binds K fd_turned ["standing"] [] := D_turned.bindsN fun _ _ _ _ _ _ us hl => match us, hl with | [_], _ => rfl
  have b_wanted : Binds K fd_wanted ["standing", "days"] [] := D_wanted.bindsN fun _ _ _ _ _ _ us hl => match us, hl with | [_, _], _ => rfl
  have b_search : Binds K fd_search ["standing", "days", "slack"] [] := D_search.bindsN fun _ _ _ _ _ _ us hl => match us, hl with | [_, _, _], _ => rfl
  have b_evened : Binds K fd_evened ["standing", "days", "slack"] [] := by
    obtain ⟨ds, h1, h2⟩ := D_evened.binds1 (ps := ["standing", "days", "slack"]) 3 1 (List.cons_ne_nil _ _) rfl (fun T kV doc pm an cdv ct us its hl h1 => match us, hl, its, h1 with | [_, _, _], _, [_], _ => ⟨_, rfl, rfl⟩)
    cases h1
    exact h2
  obtain ⟨ds1_evened, v1_evened, b1_evened⟩ := D_evened.binds1 (ps := ["standing", "days", "slack"]) 2 0 (List.cons_ne_nil _ _) rfl (fun T kV doc pm an cdv ct us its hl h1 => match us, hl, its, h1 with | [_, _], _, [_], _ => ⟨_, rfl, rfl⟩)
  have b_why_uneven : Binds K fd_why_uneven ["standing", "days", "slack"] [] := by
    obtain ⟨ds, h1, h2⟩ := D_why_uneven.binds1 (ps := ["standing", "days", "slack"]) 3 1 (List.cons_ne_nil _ _) rfl (fun T kV doc pm an cdv ct us its hl h1 => match us, hl, its, h1 with | [_, _, _], _, [_], _ => ⟨_, rfl, rfl⟩)
    cases h1
    exact h2
  obtain ⟨ds1_why_uneven, v1_why_uneven, b1_why_uneven⟩ := D_why_uneven.binds1 (ps := ["standing", "days", "slack"]) 2 0 (List.cons_ne_nil _ _) rfl (fun T kV doc pm an cdv ct us its hl h1 => match us, hl, its, h1 with | [_, _], _, [_], _ => ⟨_, rfl, rfl⟩)
  have b_soonest : Binds K fd_soonest ["standing", "days", "slack"] [] := by
    obtain ⟨ds, h1, h2⟩ := D_soonest.binds1 (ps := ["standing", "days", "slack"]) 3 1 (List.cons_ne_nil _ _) rfl (fun T kV doc pm an cdv ct us its hl h1 => match us, hl, its, h1 with | [_, _, _], _, [_], _ => ⟨_, rfl, rfl⟩)
    cases h1
    exact h2
  obtain ⟨ds1_soonest, v1_soonest, b1_soonest⟩ := D_soonest.binds1 (ps := ["standing", "days", "slack"]) 2 0 (List.cons_ne_nil _ _) rfl (fun T kV doc pm an cdv ct us its hl h1 => match us, hl, its, h1 with | [_, _], _, [_], _ => ⟨_, rfl, rfl⟩)
  have b_shows_uneven : Binds K fd_shows_uneven ["standing", "days", "thing", "slack"] [] := by
    obtain ⟨ds, h1, h2⟩ := D_shows_uneven.binds1 (ps := ["standing", "days", "thing", "slack"]) 4 1 (List.cons_ne_nil _ _) rfl (fun T kV doc pm an cdv ct us its hl h1 => match us, hl, its, h1 with | [_, _, _, _], _, [_], _ => ⟨_, rfl, rfl⟩)
    cases h1
    exact h2
  obtain ⟨ds1_shows_uneven, v1_shows_uneven, b1_shows_uneven⟩ := D_shows_uneven.binds1 (ps := ["standing", "days", "thing", "slack"]) 3 0 (List.cons_ne_nil _ _) rfl (fun T kV doc pm an cdv ct us its hl h1 => match us, hl, its, h1 with | [_, _, _], _, [_], _ => ⟨_, rfl, rfl⟩)
  have b_l_held : Binds K fd_l_held ["_law_script"] [] := D_l_held.bindsN fun _ _ _ _ _ _ us hl => match us, hl with | [_], _ => rfl
  have b_l_draw : Binds K fd_l_draw ["_law_held_here", "_law_many"] [] := D_l_draw.bindsN fun _ _ _ _ _ _ us hl => match us, hl with | [_, _], _ => rfl
  have b_l_names : Binds K fd_l_names ["_law_held_here", "_law_many"] [] := D_l_names.bindsN fun _ _ _ _ _ _ us hl => match us, hl with | [_, _], _ => rfl
  have b_l_low : Binds K fd_l_low ["_law_top", "_law_bottom"] [] := D_l_low.bindsN fun _ _ _ _ _ _ us hl => match us, hl with | [_, _], _ => rfl
  have b_l_add : Binds K fd_l_add ["_law_one", "_law_other"] [] := D_l_add.bindsN fun _ _ _ _ _ _ us hl => match us, hl with | [_, _], _ => rfl
  have b_l_pair : Binds K fd_l_pair ["_law_share"] [] := D_l_pair.bindsN fun _ _ _ _ _ _ us hl => match us, hl with | [_], _ => rfl
  have b_l_kinds : Binds K fd_l_kinds ["_law_error"] [] := D_l_kinds.bindsN fun _ _ _ _ _ _ us hl => match us, hl with | [_], _ => rfl
  have b_l_bases : Binds K fd_l_bases ["_law_word"] [] := D_l_bases.bindsN fun _ _ _ _ _ _ us hl => match us, hl with | [_], _ => rfl
  have b_l_coming : Binds K fd_l_coming ["_law_held_here", "_law_names_here", "_law_many"] [] := D_l_coming.bindsN fun _ _ _ _ _ _ us hl => match us, hl with | [_, _, _], _ => rfl
  have b_l_wants : Binds K fd_l_wants ["_law_standing_here", "_law_days"] [] := D_l_wants.bindsN fun _ _ _ _ _ _ us hl => match us, hl with | [_, _], _ => rfl
  have b_l_shares : Binds K fd_l_shares ["_law_standing_here"] [] := D_l_shares.bindsN fun _ _ _ _ _ _ us hl => match us, hl with | [_], _ => rfl
  have b_l_standing : Binds K fd_l_standing ["_law_held_here", "_law_names_here"] [] := D_l_standing.bindsN fun _ _ _ _ _ _ us hl => match us, hl with | [_, _], _ => rfl
  have b_l_refused : Binds K fd_l_refused ["_law_way", "_law_shares_here", "_law_days"] [] := D_l_refused.bindsN fun _ _ _ _ _ _ us hl => match us, hl with | [_, _, _], _ => rfl
  have b_law : Binds K fd_law ["_law_script"] [] := D_law.bindsN fun _ _ _ _ _ _ us hl => match us, hl with | [_], _ => rfl
  obtain ⟨y0, yU⟩ := Bool.and_eq_true_iff.mp (show (_ && _) = true from x)
  obtain ⟨xG, xV, xF, xE, xC, x16, x10⟩ := xkC_ok yU
  obtain ⟨y1, y2, y3, y4⟩ := isB_ok y0
  have IC : IsC K (He.ga K "Share") := ⟨y1, y2, y3, y4, by unfold PySem.W.kitOne; rw [if_pos (beq_self_eq_true _)]⟩
  have B : Bl mg := ⟨fr_isinstance, fr_int, fr_bool, fr_abs, fr_list, fr_range, fr_len⟩
  have T : Cl K mg (He.ga K "Share") := ⟨cls_Share, no_Share_top, no_Share_bottom, gl_Share⟩
  have cW : CalW P w K mg base := cal_of (ok_whole D_is_whole B) gl_is_whole D_is_whole.kp b_is_whole
  have cG : CalG P w K mg base := cal_of (ok_gcd D_common_part B) gl_common_part D_common_part.kp b_common_part
  have MS : MakS P w K mg base (He.ga K "Share") := ⟨_, _, _, _, mk_Share, ok_init D_Share_init cW cG T, T.g, b_Share_init, .nil⟩
  have M1 : MakS1 P w K mg base (He.ga K "Share") := ⟨_, _, _, _, mk_Share, ok_init D_Share_init cW cG T, T.g, b1_Share_init, v1_Share_init⟩
  have mP : Met P w K mg base 4 (He.ga K "Share") "plus" (sp2 (He.ga K "Share") (· + ·)) [] := met_of T.cl me_Share_plus ((ok_plus D_Share_plus MS T).imp fun _ _ _ _ => plusR) b_Share_plus
  have mL : Met P w K mg base 4 (He.ga K "Share") "less" (sp2 (He.ga K "Share") (· - ·)) [] := met_of T.cl me_Share_less ((ok_less D_Share_less MS T).imp fun _ _ _ _ => lessR) b_Share_less
  have cS := cal_of (ok_ss D_same_share T M1) gl_same_share D_same_share.kp b_same_share
  have cT : Cal P w K mg base 5 "total" (spTotal K (He.ga K "Share")) [.int 0] := ⟨_, _, _, _, ok_total D_total M1 mP, gl_total, D_total.kp, b1_total, v1_total⟩
  have cCE := cal_of (ok_ce D_check_even B T cT) gl_check_even D_check_even.kp b_check_even
  have cTu := cal_of (ok_tu D_turned M1 mL) gl_turned D_turned.kp b_turned
  have cJ := cal_of (ok_jo D_joined M1 mP cS) gl_joined D_joined.kp b_joined
  have cWa := cal_of (ok_wa D_wanted B MS cCE cJ cTu) gl_wanted D_wanted.kp b_wanted
  have cH := cal_of (P := P) (w := w) (base := base) (ok_held D_l_held B) gl__law_held D_l_held.kp b_l_held
  have cD : CalD P w K mg base := cal_of (ok_draw D_l_draw B) gl__law_draw D_l_draw.kp b_l_draw
  have cNm := cal_of (ok_names D_l_names B cD) gl__law_names D_l_names.kp b_l_names
  have cLo : CalL P w K mg base := cal_of (ok_low D_l_low B) gl__law_low D_l_low.kp b_l_low
  have cA := cal_of (ok_add D_l_add cLo) gl__law_add D_l_add.kp b_l_add
  have cPr := cal_of (P := P) (w := w) (base := base) (ok_pair D_l_pair B T IC) gl__law_pair D_l_pair.kp b_l_pair
  have cLS := cal_of (ok_ls D_l_shares fr_dict MS) gl__law_shares D_l_shares.kp b_l_shares
  have cCm := cal_of (ok_cm D_l_coming B fr_min fr_tuple cD) gl__law_coming D_l_coming.kp b_l_coming
  have cWn := cal_of (ok_wn D_l_wants B fr_dict cA) gl__law_wants D_l_wants.kp b_l_wants
  have cSg := cal_of (ok_sg D_l_standing B cD cLo cA) gl__law_standing D_l_standing.kp b_l_standing
  have KU : Ku K mg (He.ga K "Uneven") (He.ma K (He.ga K "Uneven") "__init__") := ⟨xG, me_Uneven_init.1, eq_of_beq me_Uneven_init.2, xV, no_Uneven_rest, gl_Uneven, fr_ArithmeticError, xF, xE⟩
  have EG : ∀ x ∈ ex16, mg x = some (.ref (He.ga K x)) := fun x hx => by
    simp only [List.mem_cons, List.not_mem_nil, or_false] at hx
    rcases hx with rfl | rfl | rfl | rfl | rfl | rfl | rfl | rfl | rfl | rfl | rfl | rfl | rfl | rfl | rfl | rfl
    · exact gl_NoKind
    · exact gl_Nought
    · exact gl_NoShare
    · exact gl_Uneven
    · exact gl_BadName
    · exact gl_NoNumber
    · exact gl_NoRide
    · exact gl_NoText
    · exact gl_NoName
    · exact gl_NoDay
    · exact gl_NoSeats
    · exact gl_TooMany
    · exact gl_Taken
    · exact gl_NoRule
    · exact gl_NothingDone
    · exact gl_NoRow
  have ET : ∀ x ∈ ex10, mg (Str.ofString x) = none := fun x hx => by
    simp only [List.mem_cons, List.not_mem_nil, or_false] at hx
    rcases hx with rfl | rfl | rfl | rfl | rfl | rfl | rfl | rfl | rfl | rfl
    · exact fr_TypeError
    · exact fr_ZeroDivisionError
    · exact fr_ArithmeticError
    · exact fr_ValueError
    · exact fr_KeyError
    · exact fr_LookupError
    · exact fr_IndexError
    · exact fr_OverflowError
    · exact fr_RuntimeError
    · exact fr_NotImplementedError
  have EN : Ex K mg (He.ga K "Uneven") owU abU := ⟨EG, ET, xC, x16, x10⟩
  have cKU := cal_of (P := P) (w := w) (base := base) (ok_ki D_l_kinds B fr_zip EN) gl__law_kinds D_l_kinds.kp b_l_kinds
  have cBa := cal_of (P := P) (w := w) (base := base) (ok_ba D_l_bases B) gl__law_bases D_l_bases.kp b_l_bases
  have FU := ok_UI (P := P) (w := w) (base := base) D_Uneven_init KU
  have FC := ok_ceX D_check_even B T KU FU b_Uneven_init cT
  have FW := ok_waX D_wanted gl_check_even D_check_even.kp FC b_check_even
  have FSo := ok_soX D_soonest gl_check_even D_check_even.kp FC b_check_even
  have FSe := ok_seX D_search gl_wanted D_wanted.kp FW b_wanted
  have FSh := ok_shX D_shows_uneven gl_wanted D_wanted.kp FW b_wanted
  have FEv := ok_evX D_evened gl_search D_search.kp FSe b_search
  have FWy := ok_wyX D_why_uneven gl_search D_search.kp FSe b_search
  have cRf := cal_of (ok_rf D_l_refused KU gl_wanted D_wanted.kp FW b_wanted gl_evened D_evened.kp FEv b1_evened v1_evened gl_why_uneven D_why_uneven.kp FWy b_why_uneven gl_soonest D_soonest.kp FSo b1_soonest v1_soonest gl_shows_uneven D_shows_uneven.kp FSh b1_shows_uneven v1_shows_uneven cKU cBa cPr fndU plcU abvU) gl__law_refused D_l_refused.kp b_l_refused
  exact ok_law D_law B fr_dict fr_sorted fr_repr T MS M1 mP cH cD cNm cLo cPr cSg cCm cLS cWn cWa cRf
end K48
open PySem PySem.W PySem.Calls PyProof.Rows
set_option maxRecDepth 100000 in
set_option maxHeartbeats 0 in
theorem PySem.Challenge.cw_rideturns_k48_drives_wanted_holds : PySem.Challenge.rw_rideturns_k48_drives_wanted.Holds := by
  w_on; o_law
  refine HandSHeadRun.head_any (r := OpenLaw.row PySem.Challenge.rw_rideturns_k48_drives_wanted) (q := view (OpenLaw.row PySem.Challenge.rw_rideturns_k48_drives_wanted).prog [64]) (H := K48.hk) (ob := K48.ob) (M := 8000) (loose := K48.loose) (d := HandSHeadRun.topDef (OpenLaw.row PySem.Challenge.rw_rideturns_k48_drives_wanted).prog 64) (kwd := []) K48.ob_eq
    (by kernel_rfl) (fun s => by kernel_rfl) K48.run_ (by kernel_rfl) (by kernel_rfl) (by kernel_rfl) (by rfl) (by first | assumption | decide +kernel) (by decide +kernel) ⟨rfl, rfl, rfl, rfl, rfl, by decide +kernel⟩ ?hw ?hc
  case hw => w_witness2
  case hc =>
    refine GL.walkG (l := PySem.Challenge.rw_rideturns_k48_drives_wanted) (n := 63) (k := 11) (x := "_law_script") rfl (by decide) (by kernel_rfl) ⟨rfl, by decide, by decide⟩ ?F
    intro w mg fa h Y G hmg0
    obtain ⟨K, KX, c⟩ := Y
    have hmg : mg ("law" : PySem.Str) = some (.ref fa) := by
      have e : (HandSHeadRun.topDef (OpenLaw.row PySem.Challenge.rw_rideturns_k48_drives_wanted).prog 64).name = ("law" : PySem.Str) := by kernel_rfl
      rw [← e]
      exact hmg0
    obtain ⟨fd, hb, hF⟩ := K48.facts (P := (PySem.Challenge.rw_rideturns_k48_drives_wanted).prog) (w := w) KX G hmg c
    exact ⟨K, fd, K48.spLaw K, KX, hb, fun H a ns hl hS => ⟨a, ns, rfl, hS, hl, fun _ => rfl⟩, hF⟩
