import PyProof.Rows.All
import Wide.All
import OpenK.AllK
import Wide.FinOn
import HandS.ForMost
import HandS.ForExc
import HandS.Defaults
import HandS.Codes
import HandS.IsInst
import HandS.Wide
import HandS.Flow
import HandS.Evl
import HandS.Steps
import HandS.ExcField
import HandS.Head0
import HandS.Head1
import HandS.Head2
import HandS.HeadEnd
import HandS.HeadHook1
import HandS.HeadHook2
import HandS.HeadHook3
import HandS.HeadHook4
import KE.KExcInit
import HandS.ExcInit
import HandS.Style
import HandS.Comp
import HandS.Text
import HandS.More
import PyProof.StrOps2
import HandS.Walk
import HandS.StrMore
import HandS.Strs
import HandS.List
import HandS.Call
import KE.SortCalls
import KE.SortKeyed
import KE.KCallOwn
import HandS.Deep
import HandS.Dict
import KE.LtData
import HandS.DictComp
import HandS.NoneIn
import HandS.Words
import HandS.MakeKw
import HandS.MakeKwOnly
import HandS.OwnEq
import HandS.Iter
import KE.KEqDict
import HandS.Sort
import KE.KDictList
import PyProof.ListRange
import PyProof.RangeFor
import HandS.Conv
import PySem.Challenge.RW_rideturns_k26_whole_what_a_ride_gives_is
set_option Elab.async false
set_option linter.all false
set_option maxRecDepth 100000
set_option maxHeartbeats 4000000
namespace K26
open PySem PySem.Spec PyProof.Rows L2
def top (i : Nat) : Stmt := PySem.Challenge.pw_rideturns_k26_whole_what_a_ride_gives_is.main.body.getD i (.Pass ⟨0, 0, 0, 0⟩)
abbrev s_NoKind_init : Stmt := inClass (top 1) 0
abbrev N_NoKind_init : List Str := ["self", "thing"]
theorem sc_NoKind_init : FnScope N_NoKind_init ["self", "thing"] (defScope s_NoKind_init) := ⟨rfl, rfl, rfl, by decide +kernel, rfl, by decide +kernel, by decide +kernel⟩
def d_NoKind_init : He.DefD := ⟨("NoKind", some "__init__"), "__init__", "NoKind.__init__", defArgs s_NoKind_init, defBody s_NoKind_init, defScope s_NoKind_init, [], []⟩
abbrev s_Nought_init : Stmt := inClass (top 2) 0
abbrev N_Nought_init : List Str := ["self", "top"]
theorem sc_Nought_init : FnScope N_Nought_init ["self", "top"] (defScope s_Nought_init) := ⟨rfl, rfl, rfl, by decide +kernel, rfl, by decide +kernel, by decide +kernel⟩
def d_Nought_init : He.DefD := ⟨("Nought", some "__init__"), "__init__", "Nought.__init__", defArgs s_Nought_init, defBody s_Nought_init, defScope s_Nought_init, [], []⟩
abbrev s_NoRide_init : Stmt := inClass (top 3) 0
abbrev N_NoRide_init : List Str := ["self", "reason"]
theorem sc_NoRide_init : FnScope N_NoRide_init ["self", "reason"] (defScope s_NoRide_init) := ⟨rfl, rfl, rfl, by decide +kernel, rfl, by decide +kernel, by decide +kernel⟩
def d_NoRide_init : He.DefD := ⟨("NoRide", some "__init__"), "__init__", "NoRide.__init__", defArgs s_NoRide_init, defBody s_NoRide_init, defScope s_NoRide_init, [], []⟩
abbrev s_is_whole : Stmt := top 7
abbrev N_is_whole : List Str := ["thing"]
theorem sc_is_whole : FnScope N_is_whole ["thing"] (defScope s_is_whole) := ⟨rfl, rfl, rfl, by decide +kernel, rfl, by decide +kernel, by decide +kernel⟩
def d_is_whole : He.DefD := ⟨("is_whole", none), "is_whole", "is_whole", defArgs s_is_whole, defBody s_is_whole, defScope s_is_whole, [], []⟩
abbrev s_is_between : Stmt := top 8
abbrev N_is_between : List Str := ["thing", "low", "high"]
theorem sc_is_between : FnScope N_is_between ["thing", "low", "high"] (defScope s_is_between) := ⟨rfl, rfl, rfl, by decide +kernel, rfl, by decide +kernel, by decide +kernel⟩
def d_is_between : He.DefD := ⟨("is_between", none), "is_between", "is_between", defArgs s_is_between, defBody s_is_between, defScope s_is_between, [], []⟩
abbrev s_is_name : Stmt := top 9
abbrev N_is_name : List Str := ["thing", "sign"]
theorem sc_is_name : FnScope N_is_name ["thing"] (defScope s_is_name) := ⟨rfl, rfl, rfl, by decide +kernel, rfl, by decide +kernel, by decide +kernel⟩
def d_is_name : He.DefD := ⟨("is_name", none), "is_name", "is_name", defArgs s_is_name, defBody s_is_name, defScope s_is_name, [], []⟩
abbrev s_is_day : Stmt := top 10
abbrev N_is_day : List Str := ["thing"]
theorem sc_is_day : FnScope N_is_day ["thing"] (defScope s_is_day) := ⟨rfl, rfl, rfl, by decide +kernel, rfl, by decide +kernel, by decide +kernel⟩
def d_is_day : He.DefD := ⟨("is_day", none), "is_day", "is_day", defArgs s_is_day, defBody s_is_day, defScope s_is_day, [], []⟩
abbrev s_common_part : Stmt := top 12
abbrev N_common_part : List Str := ["one", "other"]
theorem sc_common_part : FnScope N_common_part ["one", "other"] (defScope s_common_part) := ⟨rfl, rfl, rfl, by decide +kernel, rfl, by decide +kernel, by decide +kernel⟩
def d_common_part : He.DefD := ⟨("common_part", none), "common_part", "common_part", defArgs s_common_part, defBody s_common_part, defScope s_common_part, [], []⟩
abbrev s_Share_init : Stmt := inClass (top 13) 0
abbrev N_Share_init : List Str := ["self", "top", "bottom", "thing", "common"]
theorem sc_Share_init : FnScope N_Share_init ["self", "top", "bottom"] (defScope s_Share_init) := ⟨rfl, rfl, rfl, by decide +kernel, rfl, by decide +kernel, by decide +kernel⟩
def d_Share_init : He.DefD := ⟨("Share", some "__init__"), "__init__", "Share.__init__", defArgs s_Share_init, defBody s_Share_init, defScope s_Share_init, [.int 1], []⟩
abbrev s_Share_eq : Stmt := inClass (top 13) 1
abbrev N_Share_eq : List Str := ["self", "other"]
theorem sc_Share_eq : FnScope N_Share_eq ["self", "other"] (defScope s_Share_eq) := ⟨rfl, rfl, rfl, by decide +kernel, rfl, by decide +kernel, by decide +kernel⟩
def d_Share_eq : He.DefD := ⟨("Share", some "__eq__"), "__eq__", "Share.__eq__", defArgs s_Share_eq, defBody s_Share_eq, defScope s_Share_eq, [], []⟩
abbrev s_Share_str : Stmt := inClass (top 13) 2
abbrev N_Share_str : List Str := ["self"]
theorem sc_Share_str : FnScope N_Share_str ["self"] (defScope s_Share_str) := ⟨rfl, rfl, rfl, by decide +kernel, rfl, by decide +kernel, by decide +kernel⟩
def d_Share_str : He.DefD := ⟨("Share", some "__str__"), "__str__", "Share.__str__", defArgs s_Share_str, defBody s_Share_str, defScope s_Share_str, [], []⟩
abbrev s_Share_repr : Stmt := inClass (top 13) 3
abbrev N_Share_repr : List Str := ["self"]
theorem sc_Share_repr : FnScope N_Share_repr ["self"] (defScope s_Share_repr) := ⟨rfl, rfl, rfl, by decide +kernel, rfl, by decide +kernel, by decide +kernel⟩
def d_Share_repr : He.DefD := ⟨("Share", some "__repr__"), "__repr__", "Share.__repr__", defArgs s_Share_repr, defBody s_Share_repr, defScope s_Share_repr, [], []⟩
abbrev s_Share_plus : Stmt := inClass (top 13) 4
abbrev N_Share_plus : List Str := ["self", "other"]
theorem sc_Share_plus : FnScope N_Share_plus ["self", "other"] (defScope s_Share_plus) := ⟨rfl, rfl, rfl, by decide +kernel, rfl, by decide +kernel, by decide +kernel⟩
def d_Share_plus : He.DefD := ⟨("Share", some "plus"), "plus", "Share.plus", defArgs s_Share_plus, defBody s_Share_plus, defScope s_Share_plus, [], []⟩
abbrev s_Share_less : Stmt := inClass (top 13) 5
abbrev N_Share_less : List Str := ["self", "other"]
theorem sc_Share_less : FnScope N_Share_less ["self", "other"] (defScope s_Share_less) := ⟨rfl, rfl, rfl, by decide +kernel, rfl, by decide +kernel, by decide +kernel⟩
def d_Share_less : He.DefD := ⟨("Share", some "less"), "less", "Share.less", defArgs s_Share_less, defBody s_Share_less, defScope s_Share_less, [], []⟩
abbrev s_Share_times : Stmt := inClass (top 13) 6
abbrev N_Share_times : List Str := ["self", "many"]
theorem sc_Share_times : FnScope N_Share_times ["self", "many"] (defScope s_Share_times) := ⟨rfl, rfl, rfl, by decide +kernel, rfl, by decide +kernel, by decide +kernel⟩
def d_Share_times : He.DefD := ⟨("Share", some "times"), "times", "Share.times", defArgs s_Share_times, defBody s_Share_times, defScope s_Share_times, [], []⟩
abbrev s_Share_over : Stmt := inClass (top 13) 7
abbrev N_Share_over : List Str := ["self", "many"]
theorem sc_Share_over : FnScope N_Share_over ["self", "many"] (defScope s_Share_over) := ⟨rfl, rfl, rfl, by decide +kernel, rfl, by decide +kernel, by decide +kernel⟩
def d_Share_over : He.DefD := ⟨("Share", some "over"), "over", "Share.over", defArgs s_Share_over, defBody s_Share_over, defScope s_Share_over, [], []⟩
abbrev s_Share_below : Stmt := inClass (top 13) 8
abbrev N_Share_below : List Str := ["self", "other"]
theorem sc_Share_below : FnScope N_Share_below ["self", "other"] (defScope s_Share_below) := ⟨rfl, rfl, rfl, by decide +kernel, rfl, by decide +kernel, by decide +kernel⟩
def d_Share_below : He.DefD := ⟨("Share", some "below"), "below", "Share.below", defArgs s_Share_below, defBody s_Share_below, defScope s_Share_below, [], []⟩
abbrev s_Share_whole : Stmt := inClass (top 13) 9
abbrev N_Share_whole : List Str := ["self"]
theorem sc_Share_whole : FnScope N_Share_whole ["self"] (defScope s_Share_whole) := ⟨rfl, rfl, rfl, by decide +kernel, rfl, by decide +kernel, by decide +kernel⟩
def d_Share_whole : He.DefD := ⟨("Share", some "whole"), "whole", "Share.whole", defArgs s_Share_whole, defBody s_Share_whole, defScope s_Share_whole, [], []⟩
abbrev s_total : Stmt := top 14
abbrev N_total : List Str := ["shares", "start", "summed", "share"]
theorem sc_total : FnScope N_total ["shares", "start"] (defScope s_total) := ⟨rfl, rfl, rfl, by decide +kernel, rfl, by decide +kernel, by decide +kernel⟩
def d_total : He.DefD := ⟨("total", none), "total", "total", defArgs s_total, defBody s_total, defScope s_total, [.int 0], []⟩
abbrev s_is_rider : Stmt := top 20
abbrev N_is_rider : List Str := ["thing", "legs"]
theorem sc_is_rider : FnScope N_is_rider ["thing", "legs"] (defScope s_is_rider) := ⟨rfl, rfl, rfl, by decide +kernel, rfl, by decide +kernel, by decide +kernel⟩
def d_is_rider : He.DefD := ⟨("is_rider", none), "is_rider", "is_rider", defArgs s_is_rider, defBody s_is_rider, defScope s_is_rider, [], []⟩
abbrev s_are_riders : Stmt := top 21
abbrev N_are_riders : List Str := ["thing", "driver", "legs", "names", "rider"]
theorem sc_are_riders : FnScope N_are_riders ["thing", "driver", "legs"] (defScope s_are_riders) := ⟨rfl, rfl, rfl, by decide +kernel, rfl, by decide +kernel, by decide +kernel⟩
def d_are_riders : He.DefD := ⟨("are_riders", none), "are_riders", "are_riders", defArgs s_are_riders, defBody s_are_riders, defScope s_are_riders, [], []⟩
abbrev s_are_late : Stmt := top 22
abbrev N_are_late : List Str := ["thing", "riders", "names", "rider", "name"]
theorem sc_are_late : FnScope N_are_late ["thing", "riders"] (defScope s_are_late) := ⟨rfl, rfl, rfl, by decide +kernel, rfl, by decide +kernel, by decide +kernel⟩
def d_are_late : He.DefD := ⟨("are_late", none), "are_late", "are_late", defArgs s_are_late, defBody s_are_late, defScope s_are_late, [], []⟩
abbrev s_first_wrong : Stmt := top 23
abbrev N_first_wrong : List Str := ["day", "driver", "riders", "legs", "worth", "late"]
theorem sc_first_wrong : FnScope N_first_wrong ["day", "driver", "riders", "legs", "worth", "late"] (defScope s_first_wrong) := ⟨rfl, rfl, rfl, by decide +kernel, rfl, by decide +kernel, by decide +kernel⟩
def d_first_wrong : He.DefD := ⟨("first_wrong", none), "first_wrong", "first_wrong", defArgs s_first_wrong, defBody s_first_wrong, defScope s_first_wrong, [], []⟩
abbrev s_Ride_init : Stmt := inClass (top 24) 0
abbrev N_Ride_init : List Str := ["self", "day", "driver", "riders", "legs", "worth", "late", "reason"]
theorem sc_Ride_init : FnScope N_Ride_init ["self", "day", "driver", "riders", "legs", "worth", "late"] (defScope s_Ride_init) := ⟨rfl, rfl, rfl, by decide +kernel, rfl, by decide +kernel, by decide +kernel⟩
def d_Ride_init : He.DefD := ⟨("Ride", some "__init__"), "__init__", "Ride.__init__", defArgs s_Ride_init, defBody s_Ride_init, defScope s_Ride_init, [.non, .int 1, .int 1, .non], []⟩
abbrev s_Ride_len : Stmt := inClass (top 24) 1
abbrev N_Ride_len : List Str := ["self"]
theorem sc_Ride_len : FnScope N_Ride_len ["self"] (defScope s_Ride_len) := ⟨rfl, rfl, rfl, by decide +kernel, rfl, by decide +kernel, by decide +kernel⟩
def d_Ride_len : He.DefD := ⟨("Ride", some "__len__"), "__len__", "Ride.__len__", defArgs s_Ride_len, defBody s_Ride_len, defScope s_Ride_len, [], []⟩
abbrev s_Ride_eq : Stmt := inClass (top 24) 2
abbrev N_Ride_eq : List Str := ["self", "other"]
theorem sc_Ride_eq : FnScope N_Ride_eq ["self", "other"] (defScope s_Ride_eq) := ⟨rfl, rfl, rfl, by decide +kernel, rfl, by decide +kernel, by decide +kernel⟩
def d_Ride_eq : He.DefD := ⟨("Ride", some "__eq__"), "__eq__", "Ride.__eq__", defArgs s_Ride_eq, defBody s_Ride_eq, defScope s_Ride_eq, [], []⟩
abbrev s_Ride_str : Stmt := inClass (top 24) 3
abbrev N_Ride_str : List Str := ["self", "pieces", "name", "on", "off"]
theorem sc_Ride_str : FnScope N_Ride_str ["self"] (defScope s_Ride_str) := ⟨rfl, rfl, rfl, by decide +kernel, rfl, by decide +kernel, by decide +kernel⟩
def d_Ride_str : He.DefD := ⟨("Ride", some "__str__"), "__str__", "Ride.__str__", defArgs s_Ride_str, defBody s_Ride_str, defScope s_Ride_str, [], []⟩
abbrev s_Ride_repr : Stmt := inClass (top 24) 4
abbrev N_Ride_repr : List Str := ["self"]
theorem sc_Ride_repr : FnScope N_Ride_repr ["self"] (defScope s_Ride_repr) := ⟨rfl, rfl, rfl, by decide +kernel, rfl, by decide +kernel, by decide +kernel⟩
def d_Ride_repr : He.DefD := ⟨("Ride", some "__repr__"), "__repr__", "Ride.__repr__", defArgs s_Ride_repr, defBody s_Ride_repr, defScope s_Ride_repr, [], []⟩
abbrev s_Ride_riders : Stmt := inClass (top 24) 5
abbrev N_Ride_riders : List Str := ["self"]
theorem sc_Ride_riders : FnScope N_Ride_riders ["self"] (defScope s_Ride_riders) := ⟨rfl, rfl, rfl, by decide +kernel, rfl, by decide +kernel, by decide +kernel⟩
def d_Ride_riders : He.DefD := ⟨("Ride", some "riders"), "riders", "Ride.riders", defArgs s_Ride_riders, defBody s_Ride_riders, defScope s_Ride_riders, [], []⟩
abbrev s_Ride_late : Stmt := inClass (top 24) 6
abbrev N_Ride_late : List Str := ["self"]
theorem sc_Ride_late : FnScope N_Ride_late ["self"] (defScope s_Ride_late) := ⟨rfl, rfl, rfl, by decide +kernel, rfl, by decide +kernel, by decide +kernel⟩
def d_Ride_late : He.DefD := ⟨("Ride", some "late"), "late", "Ride.late", defArgs s_Ride_late, defBody s_Ride_late, defScope s_Ride_late, [], []⟩
abbrev s_Ride_folk : Stmt := inClass (top 24) 7
abbrev N_Ride_folk : List Str := ["self", "name", "on", "off"]
theorem sc_Ride_folk : FnScope N_Ride_folk ["self"] (defScope s_Ride_folk) := ⟨rfl, rfl, rfl, by decide +kernel, rfl, by decide +kernel, by decide +kernel⟩
def d_Ride_folk : He.DefD := ⟨("Ride", some "folk"), "folk", "Ride.folk", defArgs s_Ride_folk, defBody s_Ride_folk, defScope s_Ride_folk, [], []⟩
abbrev s_Ride_parts : Stmt := inClass (top 24) 8
abbrev N_Ride_parts : List Str := ["self", "name", "parts", "leg", "aboard", "part", "on", "off"]
theorem sc_Ride_parts : FnScope N_Ride_parts ["self"] (defScope s_Ride_parts) := ⟨rfl, rfl, rfl, by decide +kernel, rfl, by decide +kernel, by decide +kernel⟩
def d_Ride_parts : He.DefD := ⟨("Ride", some "parts"), "parts", "Ride.parts", defArgs s_Ride_parts, defBody s_Ride_parts, defScope s_Ride_parts, [], []⟩
abbrev s_Ride_gives : Stmt := inClass (top 24) 9
abbrev N_Ride_gives : List Str := ["self", "parts", "name", "gives", "late", "fee", "others"]
theorem sc_Ride_gives : FnScope N_Ride_gives ["self"] (defScope s_Ride_gives) := ⟨rfl, rfl, rfl, by decide +kernel, rfl, by decide +kernel, by decide +kernel⟩
def d_Ride_gives : He.DefD := ⟨("Ride", some "gives"), "gives", "Ride.gives", defArgs s_Ride_gives, defBody s_Ride_gives, defScope s_Ride_gives, [], []⟩
abbrev s_l_pen : Stmt := top 26
abbrev N_l_pen : List Str := ["_law_script"]
theorem sc_l_pen : FnScope N_l_pen ["_law_script"] (defScope s_l_pen) := ⟨rfl, rfl, rfl, by decide +kernel, rfl, by decide +kernel, by decide +kernel⟩
def d_l_pen : He.DefD := ⟨("_law_pen", none), "_law_pen", "_law_pen", defArgs s_l_pen, defBody s_l_pen, defScope s_l_pen, [], []⟩
abbrev s_l_draw : Stmt := top 27
abbrev N_l_draw : List Str := ["_law_pen_here", "_law_many", "_law_found", "_law_at", "_law_cell", "_law_number"]
theorem sc_l_draw : FnScope N_l_draw ["_law_pen_here", "_law_many"] (defScope s_l_draw) := ⟨rfl, rfl, rfl, by decide +kernel, rfl, by decide +kernel, by decide +kernel⟩
def d_l_draw : He.DefD := ⟨("_law_draw", none), "_law_draw", "_law_draw", defArgs s_l_draw, defBody s_l_draw, defScope s_l_draw, [], []⟩
abbrev s_l_names : Stmt := top 28
abbrev N_l_names : List Str := ["_law_pen_here", "_law_many", "_law_letters", "_law_words", "_law_size", "_law_k", "_law_base", "_law_at", "_law_spot", "_law_way_here", "_law_found", "_law_word"]
theorem sc_l_names : FnScope N_l_names ["_law_pen_here", "_law_many"] (defScope s_l_names) := ⟨rfl, rfl, rfl, by decide +kernel, rfl, by decide +kernel, by decide +kernel⟩
def d_l_names : He.DefD := ⟨("_law_names", none), "_law_names", "_law_names", defArgs s_l_names, defBody s_l_names, defScope s_l_names, [], []⟩
abbrev s_l_way : Stmt := top 29
abbrev N_l_way : List Str := ["_law_pen_here", "_law_known", "_law_legs_told", "_law_today", "_law_folk", "_law_slow", "_law_called", "_law_begin", "_law_price"]
theorem sc_l_way : FnScope N_l_way ["_law_pen_here"] (defScope s_l_way) := ⟨rfl, rfl, rfl, by decide +kernel, rfl, by decide +kernel, by decide +kernel⟩
def d_l_way : He.DefD := ⟨("_law_way", none), "_law_way", "_law_way", defArgs s_l_way, defBody s_l_way, defScope s_l_way, [], []⟩
abbrev s_l_made : Stmt := top 30
abbrev N_l_made : List Str := ["_law_way_here"]
theorem sc_l_made : FnScope N_l_made ["_law_way_here"] (defScope s_l_made) := ⟨rfl, rfl, rfl, by decide +kernel, rfl, by decide +kernel, by decide +kernel⟩
def d_l_made : He.DefD := ⟨("_law_made", none), "_law_made", "_law_made", defArgs s_l_made, defBody s_l_made, defScope s_l_made, [], []⟩
abbrev s_l_legs : Stmt := top 31
abbrev N_l_legs : List Str := ["_law_way_here", "_law_called", "_law_one", "_law_begin", "_law_end"]
theorem sc_l_legs : FnScope N_l_legs ["_law_way_here", "_law_called"] (defScope s_l_legs) := ⟨rfl, rfl, rfl, by decide +kernel, rfl, by decide +kernel, by decide +kernel⟩
def d_l_legs : He.DefD := ⟨("_law_legs", none), "_law_legs", "_law_legs", defArgs s_l_legs, defBody s_l_legs, defScope s_l_legs, [], []⟩
abbrev s_l_parts_right : Stmt := top 32
abbrev N_l_parts_right : List Str := ["_law_ride", "_law_way_here", "_law_told", "_law_one", "_law_other", "_law_here", "_law_there", "_law_leg"]
theorem sc_l_parts_right : FnScope N_l_parts_right ["_law_ride", "_law_way_here"] (defScope s_l_parts_right) := ⟨rfl, rfl, rfl, by decide +kernel, rfl, by decide +kernel, by decide +kernel⟩
def d_l_parts_right : He.DefD := ⟨("_law_parts_right", none), "_law_parts_right", "_law_parts_right", defArgs s_l_parts_right, defBody s_l_parts_right, defScope s_l_parts_right, [], []⟩
abbrev s_l_gives_right : Stmt := top 33
abbrev N_l_gives_right : List Str := ["_law_ride", "_law_way_here", "_law_told", "_law_plain", "_law_parts_told", "_law_called", "_law_due", "_law_one", "_law_late_one", "_law_more", "_law_each"]
theorem sc_l_gives_right : FnScope N_l_gives_right ["_law_ride", "_law_way_here"] (defScope s_l_gives_right) := ⟨rfl, rfl, rfl, by decide +kernel, rfl, by decide +kernel, by decide +kernel⟩
def d_l_gives_right : He.DefD := ⟨("_law_gives_right", none), "_law_gives_right", "_law_gives_right", defArgs s_l_gives_right, defBody s_l_gives_right, defScope s_l_gives_right, [], []⟩
abbrev s_l_times_right : Stmt := top 34
abbrev N_l_times_right : List Str := ["_law_pen_here", "_law_ride", "_law_way_here", "_law_many", "_law_greater", "_law_called", "_law_twice", "_law_folk", "_law_wide", "_law_begin", "_law_end"]
theorem sc_l_times_right : FnScope N_l_times_right ["_law_pen_here", "_law_ride", "_law_way_here"] (defScope s_l_times_right) := ⟨rfl, rfl, rfl, by decide +kernel, rfl, by decide +kernel, by decide +kernel⟩
def d_l_times_right : He.DefD := ⟨("_law_times_right", none), "_law_times_right", "_law_times_right", defArgs s_l_times_right, defBody s_l_times_right, defScope s_l_times_right, [], []⟩
abbrev s_law : Stmt := top 35
abbrev N_law : List Str := ["_law_script", "_law_pen_here", "_law_turn", "_law_way_here", "_law_ride", "_law_alone"]
theorem sc_law : FnScope N_law ["_law_script"] (defScope s_law) := ⟨rfl, rfl, rfl, by decide +kernel, rfl, by decide +kernel, by decide +kernel⟩
def d_law : He.DefD := ⟨("law", none), "law", "law", defArgs s_law, defBody s_law, defScope s_law, [], []⟩
def fn : List He.DefD := [d_NoKind_init, d_Nought_init, d_NoRide_init, d_is_whole, d_is_between, d_is_name, d_is_day, d_common_part, d_Share_init, d_Share_eq, d_Share_str, d_Share_repr, d_Share_plus, d_Share_less, d_Share_times, d_Share_over, d_Share_below, d_Share_whole, d_total, d_is_rider, d_are_riders, d_are_late, d_first_wrong, d_Ride_init, d_Ride_len, d_Ride_eq, d_Ride_str, d_Ride_repr, d_Ride_riders, d_Ride_late, d_Ride_folk, d_Ride_parts, d_Ride_gives, d_l_pen, d_l_draw, d_l_names, d_l_way, d_l_made, d_l_legs, d_l_parts_right, d_l_gives_right, d_l_times_right, d_law]
end K26
set_option Elab.async false
set_option linter.all false
set_option maxRecDepth 100000
set_option maxHeartbeats 4000000
/-! GX: own exceptions over any built-in base, whose own __init__ calls the base's and stores a field. -/
namespace GX
open PySem PySem.Spec PyProof.Rows L2

/-- what the written part tells of the class -/
structure Gx (K : PySem.W.Frag) (C : Addr) (bmB : List Value) (nid : String) : Prop where
  over : PySem.W.excOver K C bmB = true
  made : PySem.W.excInitIn K C bmB nid = true
  hasd : ∃ cd, PySem.W.clsIn K C = some cd ∧ cd.hasDict = true
  sets : PySem.W.findIn K (.ref C) "__setattr__" = some (some (.builtin "object.__setattr__"))
  base : PySem.W.subIn K (.ref C) (.type "BaseException") = some true
  typ : PySem.W.typeIn K (.ref C) = some (.type "type")
  keep : PySem.W.keepIn K (.ref C) = true

section
open Builtin Builtin.ObjectAttr
variable {prog : Program} {w : World} {A : Around} {R : Result → Shared → Prop} {hp : Heap} {g : Array GenState} {d : Drawn} {t : Nat} {os : OsState} {B : String} {bmB : List Value}
theorem first_store {K : PySem.W.Frag} {name : Str} {tk : Tok} {v : Value} {x C : Addr} {fv : Array Value} {cd : ClassData} (SF : StoreFacts B bmB "object.__setattr__" "object")
    (X : K.In hp) (hx : hp.get? x = some { cls := .ref C, data := .fields fv }) (ho : PySem.W.excOver K C bmB = true) (hc : PySem.W.clsIn K C = some cd) (hd : cd.hasDict = true)
    (hf : PySem.W.findIn K (.ref C) name = some none)
    (post : ∀ h' tk' dx, (∀ b o, b ≠ x → hp.get? b = some o → h'.get? b = some o) → hp.objs.size ≤ dx → dx ≠ x →
      h'.get? x = some { cls := .ref C, dict := some dx, data := .fields fv } → h'.Ns1 dx (fun y => if y = name then some v else none) → R (.ok (.ret .none)) ⟨h', g, d, tk', os⟩) :
    codeAny (model prog w) A (.call (.builtin "object.__setattr__") ⟨[.ref x, .str name tk, v], []⟩) R ⟨hp, g, d, t, os⟩ := by
  have inst : PySem.W.InstAt hp x { cls := .ref C, data := .fields fv } C none := ⟨hx, rfl, rfl, trivial⟩
  have far : x ≠ hp.objs.size := Nat.ne_of_lt (Heap.lt_size hx)
  have lc : PySem.W.Looks (model prog w) hp (classData C) cd := PySem.W.looks_clsIn X hc
  refine PySem.W.osa_openX (r := none) SF X inst ho (by unfold PySem.W.takerIn; rw [hf]; rfl) fun b => ?_
  dsimp only
  obtain ⟨n1, n2, n3, n4, n5, n6, n7, n8, n9, n10, n11⟩ := cd
  dsimp only at hd
  subst hd
  unfold storeInOwnDict ownDictForStores
  repeat (first | with_reducible refine PySem.HandSPX.store_in_new ?_ ?_ | with_reducible refine wpAny_loadPart_at hx ?_ | with_reducible refine lc.at ?_ | wp_step)
  · exact ⟨_, #[], _, (Heap.get?_update_ne _ _ _ _ far.symm).trans (Heap.get?_push_at rfl rfl), rfl, fun e he => absurd he (by simp), fun _ => rfl⟩
  · intro h' tk' hn hs
    have hx1 : (hp.push { cls := .type "dict", data := .dict #[] }).get? x = some { cls := .ref C, data := .fields fv } := Heap.get?_push_of_some _ hx
    refine post h' tk' hp.objs.size (fun b o hb hob => ?_) (Nat.le_refl _) far.symm ?_ hn
    · have e1 := hs.2 b (Nat.ne_of_lt (Heap.lt_size hob))
      rw [e1, Heap.get?_update_ne _ _ _ _ hb]
      exact Heap.get?_push_of_some _ hob
    · rw [hs.2 x far]
      exact Heap.get?_update_self _ hx1 rfl
end

section
variable {X : Cx} {pins : List (Addr × Obj)} {σ : L2.St} {H : Hp} {s : Shared} {a C dx : Addr} {f : Str} {y : V} {u : Value} {Q : Unit → Shared → Prop} {E : Value → Shared → Prop} {A : Around} {B : String} {bmB : List Value} {nid iid : String}
/-- self.f = y, the first store -/
theorem put_first (SF : StoreFacts B bmB "object.__setattr__" "object") (T : Gx X.K C bmB nid) (I : Inv X pins σ H s) (e : H a = some (exo a C none)) (hno : PySem.W.findIn X.K (.ref C) f = some none) (ry : RelV y u)
    (post : ∀ dx s', H dx = none → dx ≠ a → Inv X pins σ (upd (upd H dx (exd dx [(f, y)])) a (exo a C (some dx))) s' → Q () s') : wpAny (model X.prog X.w) A (setAttr (.ref a) f u) Q E s := by
  obtain ⟨cd, hcd, hdd⟩ := T.hasd
  obtain ⟨t1, at1⟩ := exo_at I.hok e
  obtain ⟨hp, g, d, t, os⟩ := s
  refine PySem.W.set_plain I.kIn (ox := { cls := .ref C, dict := none, data := .fields #[.ref t1, .none, .none, .none, .bool false, .none] }) (od := none) ⟨at1, rfl, rfl, trivial⟩ T.sets ?_
  refine first_store SF I.kIn at1 T.over hcd hdd hno (fun h' tk' dx kp dn dne hx hn => ?_)
  have fresh : H dx = none := I.hok.fresh dn
  have old : ∀ {b : Addr} {o : Obj}, hp.get? b = some o → b ≠ dx := fun {b o} q => Nat.ne_of_lt (Nat.lt_of_lt_of_le (Heap.lt_size q) dn)
  have other : ∀ {b : Addr}, H b = none → b ≠ a := fun {b} n z => by
    rw [z, e] at n
    cases n
  have un : Un X.fs [] H (upd (upd H dx (exd dx [(f, y)])) a (exo a C (some dx))) hp h' := {
    keep := fun b o q n _ _ => kp b o (other n) q
    slot := fun b o q n _ _ => ⟨o.slots, kp b o (other n) q⟩
    free := fun b o q n _ => by rw [upd_ne (other n), upd_ne (old q)]; exact n
    there := fun b o q _ => by
      by_cases hb : b = a
      · exact ⟨_, hb ▸ hx⟩
      · exact ⟨o, kp b o hb q⟩
    tups := fun b xs q => by rw [upd_ne (at_ne e q exo_tup), upd_ne (ne_of_none q fresh)]; exact q
    frzs := fun b o v q => by rw [upd_ne (at_ne e q exo_frz), upd_ne (ne_of_none q fresh)]; exact q
    tbls := fun b ps q => ⟨#[], by rw [upd_ne (at_ne e q exo_tbl), upd_ne (ne_of_none q fresh), q]; simp⟩ }
  refine post dx _ fresh dne (I.un (t' := tk') un fun b o q => ?_)
  by_cases hb : b = a
  · subst hb
    rw [upd_same] at q
    cases q
    exact exo_ok hx
  · rw [upd_ne hb] at q
    by_cases hd : b = dx
    · subst hd
      rw [upd_same] at q
      cases q
      exact exd_ok hn (relO_put (fs := []) ry fun g => True.intro)
    · rw [upd_ne hd] at q
      refine (I.hok b o q).stay (fun c v hc z => kp c v ?_ z) (fun c hc => ?_) (fun c xs hc => ?_)
      · rcases hc with hc | hc
        · exact hc ▸ hb
        · exact at_ne e hc exo_own
      · rw [upd_ne (at_ne e hc exo_own), upd_ne (ne_of_none hc fresh)]; exact hc
      · rw [upd_ne (at_ne e hc exo_tup), upd_ne (ne_of_none hc fresh)]; exact hc
/-- Base.__init__(self, ..) -/
theorem base_init {us : List Value} {Q : Value → Shared → Prop} (FB : ExcBaseFacts B nid iid bmB) (T : Gx X.K C bmB nid) (I : Inv X pins σ H s) (e : H a = some (exo a C none)) (hl : us.length ≤ sizeLine) (post : ∀ s', Inv X pins σ H s' → Q .none s') :
    wpAny (model X.prog X.w) A (call (.builtin iid) (.ref a :: us)) Q E s := by
  obtain ⟨nm, N, qn, bs, bm, hdct, sn, sub, ab, col, dd, k0, k1, k2, k3, k5, hC, hT⟩ := PySem.W.excInit_of I.kIn T.made
  obtain ⟨t1, at1⟩ := exo_at I.hok e
  obtain ⟨hp, g, d, t, os⟩ := s
  refine wpAny_call (PySem.HandSPX.init_base FB hT hC at1 hl fun h' t2 kp hx => ?_)
  have J := I.write (t' := t) (x := a) (e := a) (o := exo a C none) (by rw [e]; exact True.intro) (.inl rfl) kp ⟨_, hx⟩ (exo_ok hx)
  have same : upd H a (exo a C none) = H := funext fun b => by
    by_cases hb : b = a
    · rw [hb, upd_same, e]
    · rw [upd_ne hb]
  rw [same] at J
  exact post _ J
end

/-! ### readings and rules -/
/-- Base.__init__(self, ..) -/
def tBi (K : PySem.W.Frag) (bmB : List Value) (nid : String) (ta : TA) : TE := fun σ H Q => ta σ H fun vs H1 => ∃ (a C : Addr) (ws : List V), vs = .ref a :: ws ∧ ws.length ≤ 1000 ∧ Gx K C bmB nid ∧ H1 a = some (exo a C none) ∧ Q .non H1
/-- self.f = e, the first one -/
def tPf (K : PySem.W.Frag) (bmB : List Value) (nid : String) (f : Str) (to te : TE) : TS := fun D σ H => te σ H fun y H1 => to σ H1 fun x H2 => ∃ a C : Addr, x = .ref a ∧ Gx K C bmB nid ∧ PySem.W.findIn K (.ref C) f = some none ∧
  H2 a = some (exo a C none) ∧ ∀ dx, H2 dx = none → dx ≠ a → D.nx σ (upd (upd H2 dx (exd dx [(f, y)])) a (exo a C (some dx)))
section
variable {X : Cx} {o e : Expr} {es : List Expr} {to te : TE} {ta : TA} {f : Str} {p p' p1 p2 pos : Pos} {B nid iid : String} {bmB : List Value} {x : Str}
theorem pe_bi {pl : Sem Bool} (FB : ExcBaseFacts B nid iid bmB) (hg : Gl X x) (hm : X.mg x = none) (hv : bootBuiltins x = some (.type B)) (ty : typeOf (.type B) = pure (.type "type"))
    (vV : PySem.W.findCls X.K (.type B) (.type "type") "__init__" = some (.val (.builtin iid))) (hb : PySem.W.handedIn (.builtin iid) = true) (hst : Manifest.isStub B = false) (ha : PA X (e :: es) ta)
    (hc : eval (.Call (.Attribute (.Name x p1) "__init__" p2) (e :: es) [] pos) X.env = (do
      let ov ← eval (.Name x p1) X.env
      standAt p2.atName
      let (f, first) ← holding [ov] (getMethod ov "__init__" pl)
      callWith pos f first (backTo pos (starEach (e :: es) X.env)) (backToKw pos (keywordEach [] X.env))) := by rfl)
    (hn : x ≠ "__name__" := by decide) (hd : (x == ("__debug__" : Str)) = false := by decide)
    (he : starEach (e :: es) X.env = (false, eval e X.env) :: starEach es X.env := by rfl) (hpl : (backTo pos (starEach es X.env)).any (·.1) = false := by rfl) :
    PE X (.Call (.Attribute (.Name x p1) "__init__" p2) (e :: es) [] pos) (tBi X.K bmB nid ta) := by
  refine ⟨fun pins s σ H Q I h => ?_⟩
  refine PySem.W.methodCall_KW (ld_blt I hg hm hv ?_ hn hd) hc
  obtain ⟨m, fr⟩ := I.fr
  refine PySem.W.method_type fr I.ok.mod.kin ty hst vV hb ?_
  show wpAny _ _ (callWith pos (Value.builtin iid) [] (backTo pos (starEach (e :: es) X.env)) []) _ _ _
  refine PyProof.Rows.callWith_method1 (thn (ha.run pos pins _ σ H _ (I.tok _) h) fun us s1 hh => ?_) he hpl
  obtain ⟨vs, H1, I1, r1, a, C, ws, ev, hl, T, ea, q⟩ := hh
  subst ev
  cases r1 with
  | @cons _ u0 _ ur ra rw' =>
    obtain rfl : u0 = Value.ref a := ra
    have hlen : ur.length ≤ sizeLine := by
      have := Paired.length rw'
      rw [sizeLine_eq]
      omega
    exact base_init FB T I1 ea hlen fun s' J => ⟨.non, H1, J, rfl, q⟩
theorem ps_pf (SF : StoreFacts B bmB "object.__setattr__" "object") (ho : PE X o to) (he : PE X e te) (hs : swapsWith e (some (.Attribute o f p')) pos.line X.env = pure false := by rfl) : PS X (.Assign [.Attribute o f p'] e pos) (tPf X.K bmB nid f to te) := by
  refine ⟨fun pins s σ H D I h => ?_⟩
  refine plainObj_wpAny_Assign_Attribute (thn (he.run pins s σ H _ I h) fun v s1 h1 => ?_) hs
  obtain ⟨y, H1, I1, r1, q1⟩ := h1
  refine thn (ho.run pins s1 σ H1 _ I1 q1) fun u s2 h2 => ?_
  obtain ⟨z, H2, I2, r2, a, C, ex, T, hno, ea, q⟩ := h2
  subst ex
  obtain rfl : u = Value.ref a := r2
  exact put_first SF T I2 ea hno r1 fun dx s' n ne J => ⟨σ, _, J, q dx n ne⟩
/-- C(e, ..) as what is raised, C's own __init__ keeping sp -/
theorem pmk_gx {CX : CXT} {C fI : Addr} {k : Nat} {fd : FuncData} {ps : List Str} {sp : Sp} {ds : List Value} {dvs : List V} (FB : ExcBaseFacts B nid iid bmB) (T : Gx X.K C bmB nid) (iC : PySem.W.findIn X.K (.ref C) "__init__" = some (some (.ref fI)))
    (tI : PySem.W.typeIn X.K (.ref fI) = some (.type "function"))
    (F1 : FnOk X.prog X.w X.K X.mg X.base CX k fI fd ps sp) (hr : Room (k + 1) X.A) (hb : Binds X.K fd ps ds) (hd : Vals dvs ds) (hx : Passes CX X (fun _ _ _ => False)) (hg : Gl X x) (hm : X.mg x = some (.ref C)) (ha : PA X (e :: es) ta)
    (hdb : (x == ("__debug__" : Str)) = false := by decide) (he : starEach (e :: es) X.env = (false, eval e X.env) :: starEach es X.env := by rfl) (hpl : (backTo pos (starEach es X.env)).any (·.1) = false := by rfl) :
    PMk X (.Call (.Name x p) (e :: es) [] pos) (tMkO C sp dvs ta) := by
  intro pins s σ H Q I h
  refine wpAny_Call_Name_kw (ld_glob I hg hm ?_ hdb)
  refine PySem.W.callWith_K (h₀ := X.base) I.ok.mod.kin T.keep (thn (ha.run pos pins s σ H _ I h) fun us s1 hh => ?_) he hpl
  obtain ⟨vs, H1, I1, r1, hz, q1⟩ := hh
  refine ⟨I1.kIn, ?_⟩
  show wpAny _ _ (call (.ref C) us) _ _ _
  obtain ⟨nm, N, qn, bs, bm, hdct, sn, sub, ab, col, dd, k0, k1, k2, k3, k5, hC, hT⟩ := PySem.W.excInit_of I1.kIn T.made
  obtain ⟨hp, g, dr, tk, os⟩ := s1
  have big : hp.objs.size ≤ hp.objs.size + 1 := Nat.le_succ _
  have hq := q1 (hp.objs.size + 1) (I1.hok.fresh big)
  have kk : ∀ b o, hp.get? b = some o → ((hp.push (PySem.W.kdv_tup us)).push (PySem.HandSPX.excO C hp.objs.size)).get? b = some o := fun b o z =>
    Heap.get?_push_of_some _ (Heap.get?_push_of_some _ z)
  have there : ((hp.push (PySem.W.kdv_tup us)).push (PySem.HandSPX.excO C hp.objs.size)).get? (hp.objs.size + 1) = some (PySem.HandSPX.excO C hp.objs.size) := by heap_get
  have I2 := I1.laid (t' := tk) (a := hp.objs.size + 1) (o := exo (hp.objs.size + 1) C none) (h' := (hp.push (PySem.W.kdv_tup us)).push (PySem.HandSPX.excO C hp.objs.size)) kk big (exo_ok there)
  have r2 : Vals (V.ref (hp.objs.size + 1) :: (vs ++ dvs)) (Value.ref (hp.objs.size + 1) :: (us ++ ds)) := .cons rfl (r1.append hd)
  have hl : (Value.ref (hp.objs.size + 1) :: us ++ ds).length = ps.length := by
    have e1 := r2.length
    rw [F1.len _ _ _ _ hq] at e1
    exact e1.symm
  have few : us.length ≤ sizeLine := by
    have := Paired.length r1
    rw [sizeLine_eq]
    omega
  refine wpAny_call (PySem.HandSPX.call_own FB hT hC (PySem.W.looks_findIn I1.kIn iC) (fun self => PySem.W.bind_fn I1.kIn self tI) few (codeAny_mono
    (F1.run _ X.stack _ _ ⟨Value.ref (hp.objs.size + 1) :: us, []⟩ (Value.ref (hp.objs.size + 1) :: (us ++ ds)) _ _ (fun _ _ _ => False) (hr.make C us []) (I2.env0.make C us []) (hb _ (Value.ref (hp.objs.size + 1) :: us) I2.kIn hl) r2 hq) fun r s' hq' => ?_))
  cases r with
  | error er => exact hx pins σ _ _ er s' I2 hq'
  | ok fl =>
    cases fl with
    | ret u =>
      obtain ⟨v, H2, os2, bare2, un2, hok2, rv, ev, d, fs, ea, ed, hd1, q2⟩ := hq'
      subst ev
      obtain ⟨h2, g2, d2, t2, os'⟩ := s'
      exact ⟨rv, mk_end (raises_own T.base T.typ) I1 big kk un2 hok2 os2 bare2 ea ed hd1 q2⟩
    | next => exact False.elim hq'
    | brk => exact False.elim hq'
    | cont => exact False.elim hq'
end
/-! ### the head's look at such a class -/
def hasDB (K : PySem.W.Frag) (C : Addr) : Bool := match PySem.W.clsIn K C with
  | some cd => cd.hasDict
  | none => false
/-- Base.__init__, read off the class Base -/
def vvB (K : PySem.W.Frag) (B iid : String) : Bool := match PySem.W.findCls K (.type B) (.type "type") "__init__" with
  | some (.val (.builtin n)) => n == iid
  | _ => false
theorem vvB_ok {K : PySem.W.Frag} {B iid : String} (h : vvB K B iid = true) : PySem.W.findCls K (.type B) (.type "type") "__init__" = some (.val (.builtin iid)) := by
  unfold vvB at h
  split at h
  · rename_i n e
    rw [e, eq_of_beq h]
  · cases h
/-- what isinstance asks of an own class -/
def isB (K : PySem.W.Frag) (C : Addr) : Bool := He.eqO (PySem.W.findIn K (.ref C) "__class__") (some (some (.builtin "object.__class__"))) && (He.eqO (PySem.W.specialIn K (.builtin "object.__class__") "__get__") (some (some (.builtin "getset_descriptor.__get__"))) &&
  (decide (PySem.W.takesIn K (.builtin "object.__class__") = some true) && decide (PySem.W.mroIn K C (.type "object") = some true)))
def gxB (K : PySem.W.Frag) (C : Addr) (bmB : List Value) (nid : String) : Bool := PySem.W.excOver K C bmB && (PySem.W.excInitIn K C bmB nid && (hasDB K C &&
  (He.eqO (PySem.W.findIn K (.ref C) "__setattr__") (some (some (.builtin "object.__setattr__"))) && (decide (PySem.W.subIn K (.ref C) (.type "BaseException") = some true) &&
  (decide (PySem.W.typeIn K (.ref C) = some (.type "type")) && PySem.W.keepIn K (.ref C))))))
theorem gxB_ok {K : PySem.W.Frag} {C : Addr} {bmB : List Value} {nid : String} (h : gxB K C bmB nid = true) : Gx K C bmB nid := by
  unfold gxB at h
  simp only [Bool.and_eq_true, decide_eq_true_eq] at h
  obtain ⟨h1, h2, h3, h4, h5, h6, h7⟩ := h
  refine ⟨h1, h2, ?_, He.eqO_ok h4, h5, h6, h7⟩
  unfold hasDB at h3
  split at h3
  · rename_i cd e
    exact ⟨cd, e, h3⟩
  · cases h3
end GX
set_option Elab.async false
set_option linter.all false
set_option maxRecDepth 100000
set_option maxHeartbeats 4000000
namespace K26
open PySem PySem.Spec PyProof.Rows L2
open C8 (Cal Mak Met pe_c pe_mk pe_mt pe_mt0)
/-- a def of the text -/
abbrev Dn (K : PySem.W.Frag) (d : He.DefD) (f : Addr) (fd : FuncData) : Prop := FunD K d.name d.qual d.params d.body d.scope (d.dvs K) (d.kws K) f fd
/-- what the module's names are -/
structure Bl (mg : Str → Option Value) : Prop where
  isi : mg "isinstance" = none
  int : mg "int" = none
  bool : mg "bool" = none
  str : mg "str" = none
  list : mg "list" = none
  range : mg "range" = none
  len : mg "len" = none
  all : mg "all" = none
  any : mg "any" = none
  max : mg "max" = none
  min : mg "min" = none
theorem same_new {H : Hp} {p : Addr} {o : HO} (h : H p = none) : Same H (upd H p o) := fun a u e => by
  rw [upd_ne (ne_of_none e h)]
  exact e
theorem dpInts {K : PySem.W.Frag} {H : Hp} : ∀ ns : List Int, DpAll K H (ns.map V.int) (ns.map PyData.int)
  | [] => .nil
  | n :: ns => .cons (.int n) (dpInts ns)
theorem cb_l {i j : Int} (h1 : -(2 ^ 64) < i) (h2 : i < 2 ^ 64) : CMul i j := .inl ⟨h1, h2⟩
theorem cb_r {i j : Int} (h1 : -(2 ^ 64) < j) (h2 : j < 2 ^ 64) : CMul i j := .inr ⟨h1, h2⟩
/-- the pen at p, good for c draws more -/
def penL (l : Addr) (n m : Int) : List V := [.ref l, .int n, .int m]
def Pen (H : Hp) (p : Addr) (c : Nat) : Prop := ∃ (l : Addr) (ns : List Int) (n m : Int), H p = some (.lst (penL l n m)) ∧ H l = some (.lst (ns.map V.int)) ∧ l ≠ p ∧ 0 ≤ n ∧ n + c ≤ 1000000000
theorem Pen.weak {H : Hp} {p : Addr} {c c' : Nat} (hc : c' ≤ c) (x : Pen H p c) : Pen H p c' := by
  obtain ⟨l, ns, n, m, h1, h2, h3, h4, h5⟩ := x
  exact ⟨l, ns, n, m, h1, h2, h3, h4, by omega⟩
theorem Pen.same {H H' : Hp} {p : Addr} {c : Nat} (s : Same H H') (x : Pen H p c) : Pen H' p c := by
  obtain ⟨l, ns, n, m, h1, h2, h3⟩ := x
  exact ⟨l, ns, n, m, s _ _ h1, s _ _ h2, h3⟩
/-- all but the pen is kept, its cells stay where they are -/
def Kp (p : Addr) (H H' : Hp) : Prop := (∀ b o, H b = some o → b ≠ p → H' b = some o) ∧ ∀ l n m, H p = some (.lst (penL l n m)) → ∃ n' m', H' p = some (.lst (penL l n' m'))
theorem Kp.refl (p : Addr) (H : Hp) : Kp p H H := ⟨fun _ _ e _ => e, fun _ n m e => ⟨n, m, e⟩⟩
theorem Kp.trans {p : Addr} {H H1 H2 : Hp} (a : Kp p H H1) (b : Kp p H1 H2) : Kp p H H2 := ⟨fun c o e n => b.1 c o (a.1 c o e n) n, fun l n m e => let ⟨n', m', e'⟩ := a.2 l n m e; b.2 l n' m' e'⟩
theorem Kp.same {p : Addr} {H H1 : Hp} (a : Same H H1) : Kp p H H1 := ⟨fun c o e _ => a c o e, fun _ n m e => ⟨n, m, a _ _ e⟩⟩
theorem pen_inj {l l' : Addr} {n m n' m' : Int} (h : HO.lst (penL l n m) = HO.lst (penL l' n' m')) : l = l' := by
  injection h with h
  injection h with h _
  injection h
theorem Kp.put {p l : Addr} {H : Hp} {n m : Int} (n' m' : Int) (e : H p = some (.lst (penL l n m))) : Kp p H (upd H p (.lst (penL l n' m'))) := by
  refine ⟨fun c o z ne => by rw [upd_ne ne]; exact z, fun l' n1 m1 z => ⟨n', m', ?_⟩⟩
  rw [upd_same, pen_inj (Option.some.inj (z.symm.trans e))]
theorem Kp.new {p st : Addr} {H1 H2 : Hp} {o : HO} (k : Kp p H1 H2) (f : H1 st = none) : Kp p H1 (upd H2 st o) :=
  ⟨fun b u e ne => by rw [upd_ne (ne_of_none e f)]; exact k.1 b u e ne, fun l n m e => by
    obtain ⟨n', m', e'⟩ := k.2 l n m e
    exact ⟨n', m', by rw [upd_ne (ne_of_none e f)]; exact e'⟩⟩
/-- D is neither the pen nor its cells -/
def Off (p D : Addr) (H : Hp) : Prop := ∃ l n m, H p = some (.lst (penL l n m)) ∧ l ≠ D ∧ p ≠ D
theorem Off.kp {p D : Addr} {H H' : Hp} (x : Off p D H) (k : Kp p H H') : Off p D H' := by
  obtain ⟨la, n, m, e, n1, n2⟩ := x
  obtain ⟨n', m', e'⟩ := k.2 _ _ _ e
  exact ⟨la, n', m', e', n1, n2⟩
theorem Off.of {p D : Addr} {H : Hp} {c : Nat} (x : Pen H p c) (f : H D = none) : Off p D H := by
  obtain ⟨la, ns, n, m, e1, e2, _⟩ := x
  exact ⟨la, n, m, e1, ne_of_none e2 f, ne_of_none e1 f⟩
theorem Off.ne {p D : Addr} {H : Hp} (x : Off p D H) : D ≠ p := by
  obtain ⟨_, _, _, _, _, n⟩ := x
  exact n.symm
theorem Off.put {p D D' : Addr} {H : Hp} {o : HO} (x : Off p D H) (n : p ≠ D') : Off p D (upd H D' o) := by
  obtain ⟨la', n', m', e', n1, n2⟩ := x
  exact ⟨la', n', m', by rw [upd_ne n]; exact e', n1, n2⟩
theorem Pen.put {p D : Addr} {H : Hp} {o : HO} {c : Nat} (x : Pen H p c) (y : Off p D H) : Pen (upd H D o) p c := by
  obtain ⟨la, ns, n, m, e1, e2, e3⟩ := x
  obtain ⟨la', n', m', e', n1, n2⟩ := y
  cases pen_inj (Option.some.inj (e1.symm.trans e'))
  exact ⟨la, ns, n, m, by rw [upd_ne n2]; exact e1, by rw [upd_ne n1]; exact e2, e3⟩
section
variable {P : Program} {w : World} {K : PySem.W.Frag} {mg : Str → Option Value} {base : Heap} {f C : Addr} {fd : FuncData}
def spPen (K : PySem.W.Frag) : Sp := fun vs H Q _ => ∃ (a : Addr) (ns : List Int), vs = [.ref a] ∧ SqL K H a (ns.map V.int) ∧ ns.length ≤ 63 ∧ ∀ p H', Same H H' → H p = none → Pen H' p 900000000 → Q (.ref p) H'
theorem ok_pen (F : Dn K d_l_pen f fd) (b : Bl mg) : FnOk P w K mg base CX0 1 f fd ["_law_script"] (spPen K) := by
  refine F.ok sc_l_pen (fun vs H Q E h => ?_) (fun cdv A outer s H vs Q E hr h => ?_)
  · obtain ⟨a, ns, rfl, _⟩ := h
    rfl
  · obtain ⟨a, ns, rfl, hS, hlen, hQ⟩ := h
    refine ⟨_, PSs.nox (pss_one (ps_ret (pe_lst (pa_cons (pe_callTy call_list_of rfl b.list boot_list (pa_cons (pe_slice sl_list (pv 0) po_none (po_some pe_int)) pa_nil)) (pa_cons pe_int (pa_cons pe_int pa_nil)))))), ?_⟩
    refine ⟨_, rfl, 63, rfl, a, _, rfl, hS, fun q hq => ⟨q, _, rfl, Or.inl (SqL.of upd_same), fun l hl => ?_⟩⟩
    refine ⟨by show 3 ≤ sizeLine; decide, fun p hp => ?_⟩
    have e : cutV (ns.map V.int) none (some 63) = (ns.take 63).map V.int := by
      unfold cutV
      simp [HT.sIx, List.map_take]
    have s1 := same_new (o := .lst (cutV (ns.map V.int) none (some 63))) hq
    have s2 := same_new (o := .lst (cutV (ns.map V.int) none (some 63))) hl
    have s3 := same_new (o := .lst (penL l 0 0)) hp
    refine hQ p _ ((s1.trans s2).trans s3) ((s1.trans s2).free hp) ⟨l, ns.take 63, 0, 0, upd_same, ?_, ?_, by decide, by decide⟩
    · rw [← e]
      exact s3 _ _ upd_same
    · exact ne_of_none upd_same hp
def spDraw : Sp := fun vs H Q _ => ∃ (p : Addr) (c : Nat) (k : Int), vs = [.ref p, .int k] ∧ Pen H p (c + 1) ∧ 0 < k ∧ k < 1073741824 ∧
  ∀ r H', 0 ≤ r → r < k → Pen H' p c → Kp p H H' → Q (.int r) H'
theorem ok_draw (F : Dn K d_l_draw f fd) (b : Bl mg) : FnOk P w K mg base CX0 1 f fd ["_law_pen_here", "_law_many"] spDraw := by
  refine F.ok sc_l_draw (fun vs H Q E h => ?_) (fun cdv A outer s H vs Q E hr h => ?_)
  · obtain ⟨p, c, k, rfl, _⟩ := h
    rfl
  · obtain ⟨p, c, k, rfl, ⟨l, ns, n, m, hp, hl, nlp, hn, hc⟩, hk0, hk1, hQ⟩ := h
    have hu64 : (A.deeper (envOfC d_l_draw.qual d_l_draw.scope s.heap.objs.size f cdv)).units + 64 < cLine := by have := hr.un; omega
    refine ⟨_, PSs.nox (pss_cons (ps_if (pt_cmpR op_gt (pe_ix ix_list (pv 0) pe_int (fun _ _ => rfl)) pe_int (nomark _))
         (pss_cons (ps_set (i := 2) sc_l_draw.nd rfl (.inl rfl) (pe_op op_mod (pe_ix ix_list (pv 0) pe_int (fun _ _ => rfl)) (pv 1)))
         (pss_cons (ps_asg (pe_op op_fdiv (pe_ix ix_list (pv 0) pe_int (fun _ _ => rfl)) (pv 1)) (pg_sub (pv 0) pe_int set_list))
         (pss_one (ps_ret (pv 2))))) pss_nil)
      (pss_cons (ps_set (i := 3) sc_l_draw.nd rfl (.inl rfl) (pe_ix ix_list (pv 0) pe_int (fun _ _ => rfl)))
      (pss_cons (ps_asg (pe_op op_add (pv 3) pe_int) (pg_sub (pv 0) pe_int set_list))
      (pss_cons (ps_set (i := 4) sc_l_draw.nd rfl (.inl rfl) pe_int)
      (C8.pss_cut (ps_if (pt_cmpR (op_neD hu64) (pe_ix ix_list (pv 0) pe_int (fun _ _ => rfl)) (pe_lst pa_nil) (nomark _))
        (pss_one (ps_set (i := 4) sc_l_draw.nd rfl (.inl rfl) (pe_ix ix_list (pe_ix ix_list (pv 0) pe_int (fun _ _ => rfl)) (pe_op op_mod (pv 3) (pe_callB call_len_seq rfl b.len boot_len (pa_cons (pe_ix ix_list (pv 0) pe_int (fun _ _ => rfl)) pa_nil))) (fun _ _ => rfl)))) pss_nil)
      (pss_cons (ps_if (PW.pt (pw_and (pt_cmpR op_ge (pv 4) (pe_op op_pow pe_int pe_int) (nomark _)) (pw_and1 (pt_cmpR op_lt (pv 3) (pe_callB call_len_seq rfl b.len boot_len (pa_cons (pe_ix ix_list (pv 0) pe_int (fun _ _ => rfl)) pa_nil)) (nomark _)))))
         (pss_cons (ps_asg (pe_op op_fdiv (pv 4) (pv 1)) (pg_sub (pv 0) pe_int set_list))
         (pss_one (ps_ret (pe_op op_mod (pv 4) (pv 1))))) pss_nil)
      (pss_cons (ps_set (i := 5) sc_l_draw.nd rfl (.inl rfl) (pe_op op_mod (pe_op op_add (pe_op op_add (pe_op op_add (pe_op op_mul (pe_op op_mod (pv 4) pe_int) pe_int) (pe_op op_mul (pe_op op_mul pe_int (pv 3)) (pv 3))) (pe_op op_mul pe_int (pv 3))) pe_int) pe_int))
      (pss_cons (ps_set (i := 5) sc_l_draw.nd rfl (.inl rfl) (pe_op op_mod (pe_op op_mul (pv 5) (pe_op op_add (pe_op op_mod (pv 5) pe_int) pe_int)) pe_int))
      (pss_one (ps_ret (pe_op op_mod (pe_op op_fdiv (pe_op op_mod (pe_op op_add (pe_op op_mul (pv 5) pe_int) (pv 3)) pe_int) pe_int) (pv 1)))))))))))), ?_⟩
    have cM : ∀ x y : Int, 0 < y → (0 ≤ x % y ∧ x % y < y) := fun x y hy => ⟨Int.emod_nonneg _ (by omega), Int.emod_lt_of_pos _ hy⟩
    have i2 : ∀ {n m : Int}, atI (penL l n m) 2 = some (.int m) := atI_nat (j := 2) rfl
    have i1 : ∀ {n m : Int}, atI (penL l n m) 1 = some (.int n) := atI_nat (j := 1) rfl
    have i0 : ∀ {n m : Int}, atI (penL l n m) 0 = some (.ref l) := atI_nat (j := 0) rfl
    refine ⟨_, rfl, p, _, _, _, rfl, rfl, SqL.of hp, i2, _, _, rfl, rfl, _, rfl, ?_⟩
    refine ite2 (fun h1 => ?_) (fun h1 => ?_)
    · refine ⟨_, rfl, p, _, _, _, rfl, rfl, SqL.of hp, i2, _, rfl, _, _, rfl, rfl, hk0, ?_⟩
      refine ⟨_, rfl, p, _, _, _, rfl, rfl, SqL.of hp, i2, _, rfl, _, _, rfl, rfl, ⟨hk0, hk1⟩, _, rfl, p, _, _, 2, rfl, rfl, hp, rfl, ?_⟩
      refine ⟨_, rfl, hQ _ _ (cM _ _ hk0).1 (cM _ _ hk0).2 ⟨l, ns, n, m / k, upd_same, ?_, nlp, hn, by omega⟩ (Kp.put n (m / k) hp)⟩
      rw [upd_ne nlp]
      exact hl
    · refine ⟨_, rfl, p, _, _, _, rfl, rfl, SqL.of hp, i1, ?_⟩
      refine ⟨_, rfl, _, _, rfl, rfl, _, rfl, p, _, _, 1, rfl, rfl, hp, rfl, ?_⟩
      have hp1 : (upd H p (.lst (penL l (n + 1) m))) p = some (.lst (penL l (n + 1) m)) := upd_same
      have hl1 : (upd H p (.lst (penL l (n + 1) m))) l = some (.lst (ns.map V.int)) := by rw [upd_ne nlp]; exact hl
      have kp1 : Kp p H (upd H p (.lst (penL l (n + 1) m))) := Kp.put _ _ hp
      refine ⟨fun σ' H' => ∃ (cell : Int), σ' = [some (.ref p), some (.int k), none, some (.int n), some (.int cell), none] ∧ H' p = some (.lst (penL l (n + 1) m)) ∧ H' l = some (.lst (ns.map V.int)) ∧ Kp p H H', ?_, ?_⟩
      · refine ⟨_, rfl, p, _, _, _, rfl, rfl, SqL.of hp1, i0, (by show 0 ≤ sizeLine; decide), fun e he => ?_⟩
        have s2 := same_new (o := .lst []) he
        have hp2 := s2 _ _ hp1
        have hl2 := s2 _ _ hl1
        have kp2 := kp1.trans (Kp.same s2)
        refine ⟨.list (ns.map .int), .list [], Dp.lst (SqL.of hl2) (dpInts ns), Dp.lst (SqL.of upd_same) .nil, PySem.W.ke_shaped_ints ns, by decide, _, rfl, ?_⟩
        cases ns with
        | nil => exact iteF ⟨5, rfl, hp2, hl2, kp2⟩
        | cons z zs =>
          refine iteT ?_
          have hlen : (0 : Int) < (((z :: zs).map V.int).length : Int) := by simp
          refine ⟨_, rfl, p, _, _, _, rfl, rfl, SqL.of hp2, i0, _, rfl, _, rfl, p, _, _, _, rfl, rfl, SqL.of hp2, i0, l, _, rfl, Or.inl (SqL.of hl2), _, _, rfl, rfl, hlen, ?_⟩
          obtain ⟨q, hq⟩ := Int.eq_ofNat_of_zero_le (cM n _ hlen).1
          have hq2 := (cM n _ hlen).2
          rw [hq] at hq2
          have hq3 : q < (z :: zs).length := by rw [List.length_map] at hq2; omega
          refine ⟨l, _, _, .int ((z :: zs)[q]), rfl, rfl, SqL.of hl2, (by rw [hq]; exact atI_nat (by rw [List.getElem?_map, List.getElem?_eq_getElem hq3]; rfl)), ?_⟩
          exact ⟨_, rfl, hp2, hl2, kp2⟩
      · rintro σ' H' ⟨cell, rfl, hp2, hl2, kp2⟩
        have stay0 : Pen H' p c := ⟨l, ns, n + 1, m, hp2, hl2, nlp, by omega, by omega⟩
        have last : ∀ D : Ends, D.rt = Q → tSeq (tAsg (tOp (rI (fun _ j => 0 < j) fun i j => .int (i % j)) (tOp (rI0 fun i j => .int (i + j)) (tOp (rI0 fun i j => .int (i + j)) (tOp (rI0 fun i j => .int (i + j))
            (tOp (rI CMul fun i j => .int (i * j)) (tOp (rI (fun _ j => 0 < j) fun i j => .int (i % j)) (tVar 4) (tC (.int 2147483629))) (tC (.int 40503))) (tOp (rI CMul fun i j => .int (i * j)) (tOp (rI CMul fun i j => .int (i * j)) (tC (.int 7919)) (tVar 3)) (tVar 3)))
            (tOp (rI CMul fun i j => .int (i * j)) (tC (.int 104729)) (tVar 3))) (tC (.int 29))) (tC (.int 2147483647))) (gName 5))
          (tSeq (tAsg (tOp (rI (fun _ j => 0 < j) fun i j => .int (i % j)) (tOp (rI CMul fun i j => .int (i * j)) (tVar 5) (tOp (rI0 fun i j => .int (i + j)) (tOp (rI (fun _ j => 0 < j) fun i j => .int (i % j)) (tVar 5) (tC (.int 65003))) (tC (.int 3)))) (tC (.int 2147483587))) (gName 5))
          (tRet (tOp (rI (fun _ j => 0 < j) fun i j => .int (i % j)) (tOp (rI CDiv fun i j => .int (i / j)) (tOp (rI (fun _ j => 0 < j) fun i j => .int (i % j)) (tOp (rI0 fun i j => .int (i + j)) (tOp (rI CMul fun i j => .int (i * j)) (tVar 5) (tC (.int 69621))) (tVar 3)) (tC (.int 2147483563))) (tC (.int 16))) (tVar 1)))) D [some (.ref p), some (.int k), none, some (.int n), some (.int cell), none] H' := by
          intro D hD
          refine ⟨_, rfl, _, _, rfl, rfl, (by decide : (0 : Int) < 2147483629), _, _, rfl, rfl, cb_r (by decide) (by decide), _, rfl, _, _, rfl, rfl, cb_l (by decide) (by decide), _, rfl, _, _, rfl, rfl, cb_r (by omega) (by omega), _, _, rfl, rfl, ?_⟩
          refine ⟨_, rfl, _, _, rfl, rfl, cb_l (by decide) (by decide), _, _, rfl, rfl, _, _, rfl, rfl, _, _, rfl, rfl, (by decide : (0 : Int) < 2147483647), ?_⟩
          refine ⟨_, rfl, _, rfl, _, _, rfl, rfl, (by decide : (0 : Int) < 65003), _, _, rfl, rfl, _, _, rfl, rfl, ?_, _, _, rfl, rfl, (by decide : (0 : Int) < 2147483587), ?_⟩
          · refine cb_l ?_ ?_
            · exact Int.lt_of_lt_of_le (by decide) (cM _ 2147483647 (by decide)).1
            · exact Int.lt_trans (cM _ 2147483647 (by decide)).2 (by decide)
          refine ⟨_, rfl, _, _, rfl, rfl, cb_r (by decide) (by decide), _, rfl, _, _, rfl, rfl, _, _, rfl, rfl, (by decide : (0 : Int) < 2147483563), _, _, rfl, rfl, ⟨by decide, by decide⟩, _, rfl, _, _, rfl, rfl, hk0, ?_⟩
          rw [hD]
          exact hQ _ _ (cM _ _ hk0).1 (cM _ _ hk0).2 stay0 kp2
        refine ⟨_, rfl, _, _, rfl, rfl, ⟨by decide, by decide, by decide⟩, _, _, rfl, rfl, _, rfl, ?_⟩
        refine ite2 (fun g1 => ?_) (fun g1 => iteF (last _ rfl))
        refine ⟨_, rfl, _, rfl, p, _, _, _, rfl, rfl, SqL.of hp2, i0, l, _, rfl, Or.inl (SqL.of hl2), _, _, rfl, rfl, _, rfl, ?_⟩
        refine ite2 (fun g2 => ?_) (fun g2 => last _ rfl)
        refine ⟨_, rfl, _, rfl, _, _, rfl, rfl, ⟨hk0, hk1⟩, _, rfl, p, _, _, 2, rfl, rfl, hp2, rfl, ?_⟩
        refine ⟨_, rfl, _, rfl, _, _, rfl, rfl, hk0, ?_⟩
        refine hQ _ _ (cM _ _ hk0).1 (cM _ _ hk0).2 ⟨l, ns, n + 1, cell / k, upd_same, ?_, nlp, by omega, by omega⟩ (kp2.trans (Kp.put (n + 1) (cell / k) hp2))
        rw [upd_ne nlp]
        exact hl2
end
end K26
set_option Elab.async false
set_option linter.all false
set_option maxRecDepth 100000
set_option maxHeartbeats 4000000
/-! NM: the names that a law draws: words by a base, a place, a spot and a way. -/
namespace NM
open PySem PySem.Spec
def ok (l : List Nat) : Prop := 1 ≤ l.length ∧ l.length ≤ 8 ∧ ∀ c ∈ l, 97 ≤ c ∧ c ≤ 122
def words : List (List Nat) := [[108, 97, 116, 101], [105, 110], [111, 117, 116], [114, 105, 100, 101], [104, 97, 110, 100], [108, 97, 99, 107], [121, 101, 115], [110, 111], [110, 97, 109, 101, 115], [103, 111, 110, 101], [116, 101, 120, 116], [112, 108, 97, 110], [117, 110, 100, 111], [117, 115, 117, 97, 108], [98, 97, 99, 107], [108, 101, 97, 118, 101]]
def lets : List Nat := (List.range 26).map (97 + ·)
def w0 (bs : List Nat) (at_ spot k : Nat) : List Nat := bs.take at_ ++ [97 + (spot + 5 * k) % 26] ++ bs.drop (at_ + 1)
def w1 (bs : List Nat) (at_ spot k : Nat) : List Nat := (w0 bs at_ spot k).take (bs.length - k % (bs.length - at_))
def w2 (spot k : Nat) : List Nat := (List.replicate 8 (97 + (spot + k / 8) % 26)).take (k % 8 + 1)
def w3 (spot k : Nat) : List Nat := words.getD ((spot + k) % 16) []
def word (bs : List Nat) (at_ spot way k : Nat) : List Nat := if way = 1 then w1 bs at_ spot k else if way = 2 then w2 spot k else if way = 3 then w3 spot k else w0 bs at_ spot k
theorem words_ok : ∀ i, i < 16 → ok (words.getD i []) := by
  have : ∀ i : Fin 16, 1 ≤ (words.getD i.1 []).length ∧ (words.getD i.1 []).length ≤ 8 ∧ (words.getD i.1 []).all (fun c => decide (97 ≤ c ∧ c ≤ 122)) = true := by decide +kernel
  intro i hi
  obtain ⟨h1, h2, h3⟩ := this ⟨i, hi⟩
  refine ⟨h1, h2, fun c hc => ?_⟩
  have := List.all_eq_true.mp h3 c hc
  exact of_decide_eq_true this
theorem words_inj : ∀ i j, i < 16 → j < 16 → words.getD i [] = words.getD j [] → i = j := by
  have : ∀ i j : Fin 16, words.getD i.1 [] = words.getD j.1 [] → i = j := by decide +kernel
  intro i j hi hj e
  exact congrArg Fin.val (this ⟨i, hi⟩ ⟨j, hj⟩ e)
section
variable {bs : List Nat} {at_ spot k : Nat}
theorem w0_len (h : at_ < bs.length) : (w0 bs at_ spot k).length = bs.length := by
  unfold w0
  simp only [List.length_append, List.length_take, List.length_drop, List.length_cons, List.length_nil]
  omega
theorem w0_at (h : at_ < bs.length) : (w0 bs at_ spot k)[at_]? = some (97 + (spot + 5 * k) % 26) := by
  unfold w0
  rw [List.append_assoc, List.getElem?_append_right (by rw [List.length_take]; omega), List.length_take, Nat.min_eq_left (by omega), Nat.sub_self]
  rfl
theorem w0_mem (hb : ∀ c ∈ bs, 97 ≤ c ∧ c ≤ 122) : ∀ c ∈ w0 bs at_ spot k, 97 ≤ c ∧ c ≤ 122 := by
  intro c hc
  unfold w0 at hc
  rcases List.mem_append.mp hc with hc | hc
  · rcases List.mem_append.mp hc with hc | hc
    · exact hb c (List.mem_of_mem_take hc)
    · rw [List.mem_singleton] at hc
      omega
  · exact hb c (List.mem_of_mem_drop hc)
theorem w1_len (h : at_ < bs.length) : at_ + 1 ≤ (w1 bs at_ spot k).length ∧ (w1 bs at_ spot k).length ≤ bs.length := by
  unfold w1
  rw [List.length_take, w0_len h]
  have := Nat.mod_lt k (show 0 < bs.length - at_ by omega)
  omega
theorem w1_at (h : at_ < bs.length) : (w1 bs at_ spot k)[at_]? = some (97 + (spot + 5 * k) % 26) := by
  have h1 := (w1_len (spot := spot) (k := k) h).1
  unfold w1 at h1 ⊢
  rw [List.length_take, w0_len h] at h1
  rw [List.getElem?_take_of_lt (by omega)]
  exact w0_at h
theorem spot_inj {i j : Nat} (hi : i < 16) (hj : j < 16) (e : 97 + (spot + 5 * i) % 26 = 97 + (spot + 5 * j) % 26) : i = j := by omega
theorem word_ok (hb0 : 1 ≤ bs.length) (hb8 : bs.length ≤ 8) (hb : ∀ c ∈ bs, 97 ≤ c ∧ c ≤ 122) (h : at_ < bs.length) (way : Nat) : ok (word bs at_ spot way k) := by
  unfold word
  split
  · have := w1_len (spot := spot) (k := k) h
    exact ⟨by omega, by omega, fun c hc => w0_mem hb c (List.mem_of_mem_take hc)⟩
  split
  · unfold w2
    refine ⟨by rw [List.length_take, List.length_replicate]; omega, by rw [List.length_take, List.length_replicate]; omega, fun c hc => ?_⟩
    have := List.eq_of_mem_replicate (List.mem_of_mem_take hc)
    omega
  split
  · exact words_ok _ (Nat.mod_lt _ (by decide))
  · exact ⟨by rw [w0_len h]; exact hb0, by rw [w0_len h]; exact hb8, w0_mem hb⟩
theorem word_inj (h : at_ < bs.length) (way : Nat) {i j : Nat} (hi : i < 16) (hj : j < 16) (e : word bs at_ spot way i = word bs at_ spot way j) : i = j := by
  unfold word at e
  split at e
  · have h1 := w1_at (spot := spot) (k := i) h
    rw [e, w1_at h] at h1
    exact (spot_inj hj hi (Option.some.inj h1)).symm
  split at e
  · unfold w2 at e
    have hl := congrArg List.length e
    rw [List.length_take, List.length_take, List.length_replicate, List.length_replicate] at hl
    have h0 : ((List.replicate 8 (97 + (spot + i / 8) % 26)).take (i % 8 + 1))[0]? = ((List.replicate 8 (97 + (spot + j / 8) % 26)).take (j % 8 + 1))[0]? := by rw [e]
    rw [List.getElem?_take_of_lt (by omega), List.getElem?_take_of_lt (by omega), List.getElem?_replicate, List.getElem?_replicate, if_pos (by decide), if_pos (by decide)] at h0
    have := Option.some.inj h0
    omega
  split at e
  · have := words_inj _ _ (Nat.mod_lt _ (by decide)) (Nat.mod_lt _ (by decide)) e
    omega
  · have h1 := w0_at (spot := spot) (k := i) h
    rw [e, w0_at h] at h1
    exact (spot_inj hj hi (Option.some.inj h1)).symm
/-- as many as are asked: unlike ones -/
theorem all_unlike (h : at_ < bs.length) (way n : Nat) (hn : n ≤ 16) : ((List.range n).map (word bs at_ spot way)).Pairwise (· ≠ ·) := by
  rw [List.pairwise_map]
  refine (List.pairwise_lt_range (n := n)).imp_of_mem fun {a b} ha hb hlt e => ?_
  have := word_inj h way (by have := List.mem_range.mp ha; omega) (by have := List.mem_range.mp hb; omega) e
  omega
end
end NM
set_option Elab.async false
set_option linter.all false
set_option maxRecDepth 100000
set_option maxHeartbeats 4000000
namespace K26
open PySem PySem.Spec PyProof.Rows L2
open C8 (Cal Mak Met pe_c pe_mk pe_mt pe_mt0)
open SX (S)
theorem lets_S : (Str.ofString "abcdefghijklmnopqrstuvwxyz").cps.toList = NM.lets := by decide +kernel
theorem words_S : Txt.split (Str.ofString "late in out ride hand lack yes no names gone text plan undo usual back leave") (Str.ofString " ") = NM.words.map S := by decide +kernel
theorem at_lets {x : Int} {j : Nat} (e : x = (j : Int)) (hj : j < 26) : atI (Str.ofString "abcdefghijklmnopqrstuvwxyz").cps.toList x = some (97 + j) := by
  rw [e, lets_S]
  refine atI_nat ?_
  unfold NM.lets
  rw [List.getElem?_map, List.getElem?_range hj]
  rfl
theorem cut_t {l : List Nat} {x : Int} {j : Nat} (e : x = (j : Int)) (h : j ≤ l.length) : cutS (S l) none (some x) = S (l.take j) := by
  rw [e]
  unfold cutS
  rw [HT.sIx_nat, HT.sIx_none, SX.S_len, Nat.min_eq_left h]
  simp [S]
theorem cut_d {l : List Nat} {x : Int} {j : Nat} (e : x = (j : Int)) (h : j ≤ l.length) : cutS (S l) (some x) none = S (l.drop j) := by
  rw [e]
  unfold cutS
  rw [HT.sIx_nat, HT.sIx_none, SX.S_len, Nat.min_eq_left h]
  simp [S, List.take_of_length_le]
theorem ones : ∀ bs : List Nat, ((bs.map fun c => S [c]).map (·.length)).sum = bs.length
  | [] => rfl
  | b :: bs => by
    rw [List.map_cons, List.map_cons, List.sum_cons, ones bs, List.length_cons, SX.S_len]
    simp
    omega
theorem joined : ∀ bs : List Nat, TL.joinL [] (bs.map fun c => [c]) = bs
  | [] => rfl
  | [b] => rfl
  | b :: d :: bs => by
    have := joined (d :: bs)
    simp only [List.map_cons, TL.joinL] at this ⊢
    simp [this]
/-- a sign eight times -/
theorem op_eight {X : Cx} : OpR X (binaryOp .Mult) (fun x y H Q => ∃ c : Nat, x = .str ⟨#[c]⟩ ∧ y = .int 8 ∧ Q (.str (S (List.replicate 8 c))) H) := by
  intro pins s σ H x y v u Q I rx ry h
  obtain ⟨c, rfl, rfl, q⟩ := h
  obtain ⟨t, rfl⟩ := rx
  obtain ⟨t', rfl⟩ := ry
  refine PySem.P.mul_str (by decide) (fun _ _ => by show ¬ ((1 : Int) > (2 ^ 63 - 1) / 8); decide) (fun _ _ => by show Builtin.Str.tooLong 8 = false; decide) ?_
  rw [if_neg (by decide), if_neg (by show ¬ ((8 : Int) == 1 || (1 : Nat) == 0) = true; decide)]
  exact ⟨by show 8 ≤ _; decide, ⟨.str (S (List.replicate 8 c)), H, I.tok _, ⟨_, rfl⟩, q⟩⟩
section
variable {P : Program} {w : World} {K : PySem.W.Frag} {mg : Str → Option Value} {base : Heap} {f C : Addr} {fd : FuncData}
abbrev CalD (P : Program) (w : World) (K : PySem.W.Frag) (mg : Str → Option Value) (base : Heap) : Prop := Cal P w K mg base 1 "_law_draw" spDraw []
def spNames : Sp := fun vs H Q _ => ∃ (p : Addr) (c n : Nat), vs = [.ref p, .int n] ∧ Pen H p (c + 40) ∧ n ≤ 16 ∧
  ∀ (o : Addr) (zs : List (List Nat)) (H' : Hp), Pen H' p c → Kp p H H' → H o = none → Off p o H' → H' o = some (.lst (zs.map fun l => V.str (S l))) → zs.length = n → (∀ z ∈ zs, NM.ok z) → zs.Pairwise (· ≠ ·) → Q (.ref o) H'
theorem ok_names (F : Dn K d_l_names f fd) (bl : Bl mg) (cD : CalD P w K mg base) : FnOk P w K mg base CX0 2 f fd ["_law_pen_here", "_law_many"] spNames := by
  refine F.ok sc_l_names (fun vs H Q E h => ?_) (fun cdv A outer s H vs Q E hr h => ?_)
  · obtain ⟨p, c, n, rfl, _⟩ := h
    rfl
  · obtain ⟨p, c, n, rfl, pen, hn, hQ⟩ := h
    refine ⟨_, PSs.nox (pss_cons (ps_set (i := 2) sc_l_names.nd rfl (.inr rfl) pe_str)
      (pss_cons (ps_set (i := 3) sc_l_names.nd rfl (.inl rfl) (pe_split pe_str pe_str))
      (pss_cons (ps_set (i := 4) sc_l_names.nd rfl (.inl rfl) (pe_op op_add pe_int (pe_c cD hr (by decide) rfl (pa_cons (pv 0) (pa_cons pe_int pa_nil)))))
      (C8.pss_cut (ps_set (i := 6) sc_l_names.nd rfl (.inl rfl) (pe_join pe_str (pe_lc (own := [("_law_k", 5)]) (g := gName 5) (tt := tYes) rfl sc_l_names.nd (pi_range1 rfl bl.range (pa_cons (pv 4) pa_nil)) (blkOk_by (N := N_l_names) (sc := defScope s_l_names) (by decide +kernel))
          (fun _ _ _ _ _ => pg_name (i := 5) sc_l_names.nd rfl (Or.inl rfl)) (fun _ _ _ _ _ => pts_nil) (fun _ _ _ _ _ => pe_ix ix_str (pv 2) (pe_c cD hr (by decide) rfl (pa_cons (pv 0) (pa_cons pe_int pa_nil))) (fun _ _ => rfl)))))
      (pss_cons (ps_par3 (i := 7) (j := 8) (l := 9) rfl sc_l_names.nd rfl rfl rfl (by decide) (by decide) (by decide) rfl rfl rfl (pa_cons (pe_c cD hr (by decide) rfl (pa_cons (pv 0) (pa_cons (pv 4) pa_nil))) (pa_cons (pe_c cD hr (by decide) rfl (pa_cons (pv 0) (pa_cons pe_int pa_nil)))
          (pa_cons (pe_op op_mod (pe_c cD hr (by decide) rfl (pa_cons (pv 0) (pa_cons pe_int pa_nil))) pe_int) pa_nil))) rfl)
      (pss_cons (ps_set (i := 10) sc_l_names.nd rfl (.inl rfl) (pe_lst pa_nil))
      (pss_cons (ps_for PassesOwn.never rfl (pi_range1 rfl bl.range (pa_cons (pv 1) pa_nil)) (pg_name (i := 5) sc_l_names.nd rfl (.inl rfl))
        (pss_cons (ps_set (i := 11) sc_l_names.nd rfl (.inl rfl) (pe_op op_add_str (pe_op op_add_str (pe_slice sl_str (pv 6) po_none (po_some (pv 7))) (pe_ix ix_str (pv 2) (pe_op op_mod (pe_op op_add (pv 8) (pe_op op_mul pe_int (pv 5))) pe_int) (fun _ _ => rfl)))
            (pe_slice sl_str (pv 6) (po_some (pe_op op_add (pv 7) pe_int)) po_none)))
        (C8.pss_cut (ps_if (pt_cmpR op_eq (pv 9) pe_int (nomark _)) (pss_one (ps_set (i := 11) sc_l_names.nd rfl (.inl rfl) (pe_slice sl_str (pv 11) po_none (po_some (pe_op op_sub (pv 4) (pe_op op_mod (pv 5) (pe_op op_sub (pv 4) (pv 7)))))))) pss_nil)
        (C8.pss_cut (ps_if (pt_cmpR op_eq (pv 9) pe_int (nomark _)) (pss_one (ps_set (i := 11) sc_l_names.nd rfl (.inl rfl) (pe_slice sl_str (pe_op op_eight (pe_ix ix_str (pv 2) (pe_op op_mod (pe_op op_add (pv 8) (pe_op op_fdiv (pv 5) pe_int)) pe_int) (fun _ _ => rfl)) pe_int) po_none
            (po_some (pe_op op_add (pe_op op_mod (pv 5) pe_int) pe_int))))) pss_nil)
        (C8.pss_cut (ps_if (pt_cmpR op_eq (pv 9) pe_int (nomark _)) (pss_one (ps_set (i := 11) sc_l_names.nd rfl (.inl rfl) (pe_ix ix_list (pv 3) (pe_op op_mod (pe_op op_add (pv 8) (pv 5)) pe_int) (fun _ _ => rfl)))) pss_nil)
        (pss_one (ps_expr (pe_bm PySem.F.plainAttrs_list PySem.F.slot_list_insert PySem.F.type_list_insert mt_insert (pv 10) (pa_cons (pe_c cD hr (by decide) rfl (pa_cons (pv 0) (pa_cons (pe_op op_add (pe_callB call_len_seq rfl bl.len boot_len (pa_cons (pv 10) pa_nil)) pe_int) pa_nil))) (pa_cons (pv 11) pa_nil))))))))))
      (pss_one (ps_ret (pv 10)))))))))), ?_⟩
    -- the words
    refine ⟨⟨_, rfl⟩, _, _, rfl, rfl, by decide +kernel, by decide +kernel, fun wl fwl => ?_⟩
    rw [words_S]
    have s1 := same_new (o := .lst ((NM.words.map S).map V.str)) fwl
    have hwl := upd_same (H := H) (a := wl) (o := .lst ((NM.words.map S).map V.str))
    have pen1 := pen.same s1
    have off1 : Off p wl (upd H wl (.lst ((NM.words.map S).map V.str))) := (Off.of pen fwl).kp (Kp.same s1)
    generalize upd H wl (.lst ((NM.words.map S).map V.str)) = H1 at s1 hwl pen1 off1 ⊢
    -- the size
    refine ⟨_, rfl, p, c + 39, _, rfl, pen1, by decide, by decide, fun z0 H2 a2 b2 pen2 k2 => ?_⟩
    refine ⟨_, _, rfl, rfl, ?_⟩
    obtain ⟨sz, hsz⟩ := Int.eq_ofNat_of_zero_le (show 0 ≤ 1 + z0 by omega)
    have sz1 : 1 ≤ sz := by omega
    have sz8 : sz ≤ 8 := by omega
    have hwl2 := k2.1 _ _ hwl off1.ne
    have off2 := off1.kp k2
    -- the base
    refine ⟨fun σ' H' => ∃ bs : List Nat, σ' = [some (.ref p), some (.int n), some (.str (Str.ofString "abcdefghijklmnopqrstuvwxyz")), some (.ref wl), some (.int (sz : Int)), none, some (.str (S bs)), none, none, none, none, none] ∧ bs.length = sz ∧ (∀ c ∈ bs, 97 ≤ c ∧ c ≤ 122) ∧
      Pen H' p (c + 30) ∧ Kp p H H' ∧ H' wl = some (.lst ((NM.words.map S).map V.str)) ∧ Off p wl H', ?_, ?_⟩
    · refine ⟨⟨_, rfl⟩, _, rfl, _, rfl, by omega, by omega, ?_⟩
      rw [hsz, Int.toNat_natCast]
      intro D hD
      have offD := Off.of pen2 hD
      have sD := same_new (o := .lst []) hD
      refine lc_range (n := sz) (fun i H3 => ∃ bs : List Nat, bs.length = i ∧ (∀ c ∈ bs, 97 ≤ c ∧ c ≤ 122) ∧ H3 D = some (.lst (bs.map fun c => V.str (S [c]))) ∧ Pen H3 p (c + 39 - i) ∧ Kp p H2 H3 ∧ Off p D H3) ?_ ?_ ?_
      · exact ⟨[], rfl, by simp, upd_same, pen2.same sD, Kp.same sD, offD.kp (Kp.same sD)⟩
      · rintro i H3 hi ⟨bs, hbl, hbc, hd, pen3, k3, off3⟩
        refine ⟨rfl, ?_⟩
        refine ⟨_, rfl, _, rfl, p, c + 39 - (i + 1), _, rfl, pen3.weak (by omega), by decide, by decide, fun r H4 r0 r1 pen4 k4 => ?_⟩
        obtain ⟨rn, rfl⟩ := Int.eq_ofNat_of_zero_le r0
        have hd4 := k4.1 _ _ hd off3.ne
        have off4 := off3.kp k4
        refine ⟨_, _, 97 + rn, rfl, rfl, by decide +kernel, at_lets rfl (by omega), _, hd4, ?_, bs ++ [97 + rn], by simp [hbl], ?_, ?_, pen4.put off4, (k3.trans k4).new hD, ?_⟩
        · rw [List.length_map, hbl]
          exact Nat.lt_of_lt_of_le (by omega : i < 64) (by decide)
        · intro c' hc'
          rcases List.mem_append.mp hc' with hc' | hc'
          · exact hbc c' hc'
          · rw [List.mem_singleton] at hc'
            omega
        · rw [upd_same]
          simp [S]
        · exact off4.put (by obtain ⟨_, _, _, _, _, z⟩ := off4; exact z)
      · rintro H3 ⟨bs, hbl, hbc, hd, pen3, k3, off3⟩
        have ey : (bs.map fun c => V.str (S [c])) = (bs.map fun c => S [c]).map V.str := by rw [List.map_map]; rfl
        refine ⟨_, D, bs.map fun c => S [c], rfl, rfl, .inl (by rw [← ey]; exact SqL.of hd), ?_, bs, ?_, hbl, hbc, pen3.weak (by omega), ((Kp.same s1).trans k2).trans k3, k3.1 _ _ hwl2 off2.ne, off2.kp k3⟩
        · have e1 : ((bs.map fun c => S [c]).map (·.length)).sum = bs.length := by
            exact ones bs
          rw [e1, List.length_map]
          have e2 : (Str.ofString "").length = 0 := by decide +kernel
          rw [e2, hbl]
          omega
        · have e3 : Txt.join (Str.ofString "") (bs.map fun c => S [c]) = S bs := by
            have e4 : Str.ofString "" = S [] := by decide +kernel
            have e5 : (bs.map fun c => S [c]) = (bs.map fun c => [c]).map S := by rw [List.map_map]; rfl
            rw [e4, e5, SX.join_S]
            rw [joined]
          rw [e3]
          rw [← hsz]
          rfl
    clear pen pen1 pen2 k2 hwl hwl2 off1 off2 s1
    rintro σ' H3 ⟨bs, rfl, hbl, hbc, pen3, k3, hwl3, offw3⟩
    refine ⟨_, rfl, _, rfl, p, c + 29, _, rfl, pen3, by omega, by omega, fun at_ H4 a4 b4 pen4 k4 => ?_⟩
    refine ⟨_, rfl, p, c + 28, _, rfl, pen4, by decide, by decide, fun spot H5 a5 b5 pen5 k5 => ?_⟩
    refine ⟨_, rfl, p, c + 27, _, rfl, pen5, by decide, by decide, fun way0 H6 a6 b6 pen6 k6 => ?_⟩
    refine ⟨_, _, rfl, rfl, (by decide : (0 : Int) < 4), _, _, _, rfl, ?_⟩
    obtain ⟨at_, rfl⟩ := Int.eq_ofNat_of_zero_le a4
    obtain ⟨spot, rfl⟩ := Int.eq_ofNat_of_zero_le a5
    obtain ⟨way, hway⟩ := Int.eq_ofNat_of_zero_le (show 0 ≤ way0 % 4 by omega)
    have hat : at_ < bs.length := by omega
    have k36 := (k4.trans k5).trans k6
    have k06 := k3.trans k36
    have hwl6 := k36.1 _ _ hwl3 offw3.ne
    have offw6 := offw3.kp k36
    clear k4 k5 k6 pen4 pen5
    refine ⟨by show 0 ≤ sizeLine; decide, fun o fo => ?_⟩
    have so := same_new (o := .lst []) fo
    refine ⟨_, rfl, _, rfl, by omega, by omega, ?_⟩
    rw [Int.toNat_natCast]
    refine for_range (n := n) (fun i σ H7 => ∃ (zs : List (List Nat)) (v5 v11 : Option V), σ = [some (.ref p), some (.int n), some (.str (Str.ofString "abcdefghijklmnopqrstuvwxyz")), some (.ref wl), some (.int (sz : Int)), v5, some (.str (S bs)), some (.int (at_ : Int)), some (.int (spot : Int)), some (.int (way0 % 4)), some (.ref o), v11] ∧
        H7 o = some (.lst (zs.map fun l => V.str (S l))) ∧ zs.Perm ((List.range i).map (NM.word bs at_ spot way)) ∧ Pen H7 p (c + 27 - i) ∧ Kp p H6 H7 ∧ Off p o H7)
      ⟨[], none, none, rfl, upd_same, List.Perm.refl _, pen6.same so, Kp.same so, (Off.of pen6 fo).kp (Kp.same so)⟩ ?_ ?_
    · rintro i σ H7 hi ⟨zs, v5, v11, rfl, ho7, perm7, pen7, k7, off7⟩
      have hwl7 := k7.1 _ _ hwl6 offw6.ne
      have zl : zs.length = i := by rw [perm7.length_eq, List.length_map, List.length_range]
      have len0 : (S bs).length ≤ sizeLine := by rw [SX.S_len]; exact Nat.le_trans (by omega : bs.length ≤ 8) (by decide)
      have lets_len : (Str.ofString "abcdefghijklmnopqrstuvwxyz").length ≤ sizeLine := by decide +kernel
      have e5 : ((spot : Int) + 5 * (0 + (i : Int))) % 26 = (((spot + 5 * i) % 26 : Nat) : Int) := by omega
      -- the word
      refine ⟨_, rfl, _, rfl, _, rfl, _, rfl, len0, ?_⟩
      rw [cut_t rfl (by omega)]
      refine ⟨_, rfl, _, rfl, _, rfl, _, _, rfl, rfl, cb_l (by decide) (by decide), _, _, rfl, rfl, _, _, rfl, rfl, (by decide : (0 : Int) < 26), _, _, _, rfl, rfl, lets_len, at_lets e5 (Nat.mod_lt _ (by decide)), _, _, rfl, rfl, ?_, ?_⟩
      · rw [SX.S_len, List.length_take]
        exact Nat.le_trans (by show min at_ bs.length + 1 ≤ 64; omega) (by decide)
      refine ⟨_, rfl, _, rfl, _, _, rfl, rfl, _, rfl, _, rfl, len0, ?_⟩
      rw [cut_d (j := at_ + 1) (by omega) (by omega)]
      have ec : S (bs.take at_) ++ (⟨#[97 + (spot + 5 * i) % 26]⟩ : Str) = S (bs.take at_ ++ [97 + (spot + 5 * i) % 26]) := SX.S_cat _ _
      rw [ec]
      refine ⟨_, _, rfl, rfl, ?_, ?_⟩
      · rw [SX.S_len, SX.S_len, List.length_append, List.length_take, List.length_drop]
        exact Nat.le_trans (by show min at_ bs.length + 1 + (bs.length - (at_ + 1)) ≤ 64; omega) (by decide)
      rw [SX.S_cat]
      have ew0 : bs.take at_ ++ [97 + (spot + 5 * i) % 26] ++ bs.drop (at_ + 1) = NM.w0 bs at_ spot i := rfl
      rw [ew0]
      -- cut short
      refine ⟨fun σ' H' => H' = H7 ∧ σ' = [some (.ref p), some (.int n), some (.str (Str.ofString "abcdefghijklmnopqrstuvwxyz")), some (.ref wl), some (.int (sz : Int)), some (.int (0 + i)), some (.str (S bs)), some (.int (at_ : Int)), some (.int (spot : Int)), some (.int (way0 % 4)), some (.ref o), some (.str (S (if way = 1 then NM.w1 bs at_ spot i else NM.w0 bs at_ spot i)))], ?_, ?_⟩
      · refine ⟨_, rfl, rfl, _, rfl, ?_⟩
        refine ite2 (fun c1 => ?_) (fun c1 => ?_)
        · have e1 : way = 1 := by have := V.int.inj (of_decide_eq_true c1); omega
          refine ⟨_, rfl, _, rfl, _, rfl, _, rfl, _, rfl, _, _, rfl, rfl, _, _, rfl, rfl, (by omega : (0 : Int) < (sz : Int) - (at_ : Int)), _, _, rfl, rfl, _, rfl, _, rfl, by rw [SX.S_len, NM.w0_len hat]; exact Nat.le_trans (by omega : bs.length ≤ 8) (by decide), ?_⟩
          have em : (sz : Int) - (0 + (i : Int)) % ((sz : Int) - (at_ : Int)) = ((bs.length - i % (bs.length - at_) : Nat) : Int) := by
            have h1 : ((sz : Int) - (at_ : Int)) = ((bs.length - at_ : Nat) : Int) := by omega
            rw [h1, Int.zero_add, ← Int.natCast_emod]
            have := Nat.mod_lt i (show 0 < bs.length - at_ by omega)
            omega
          rw [cut_t em (by rw [NM.w0_len hat]; omega)]
          rw [if_pos e1]
          exact ⟨rfl, rfl⟩
        · have e1 : ¬ way = 1 := fun z => c1 (decide_eq_true (by rw [hway, z]; rfl))
          rw [if_neg e1]
          exact ⟨rfl, rfl⟩
      rintro σ' H' ⟨rfl, rfl⟩
      -- one sign again and again
      refine ⟨fun σ' H'' => H'' = H' ∧ σ' = [some (.ref p), some (.int n), some (.str (Str.ofString "abcdefghijklmnopqrstuvwxyz")), some (.ref wl), some (.int (sz : Int)), some (.int (0 + i)), some (.str (S bs)), some (.int (at_ : Int)), some (.int (spot : Int)), some (.int (way0 % 4)), some (.ref o), some (.str (S (if way = 1 then NM.w1 bs at_ spot i else if way = 2 then NM.w2 spot i else NM.w0 bs at_ spot i)))], ?_, ?_⟩
      · refine ⟨_, rfl, rfl, _, rfl, ?_⟩
        refine ite2 (fun c1 => ?_) (fun c1 => ?_)
        · have e1 : way = 2 := by have := V.int.inj (of_decide_eq_true c1); omega
          have e6 : ((spot : Int) + (0 + (i : Int)) / 8) % 26 = (((spot + i / 8) % 26 : Nat) : Int) := by omega
          refine ⟨_, rfl, _, rfl, _, rfl, _, _, rfl, rfl, ⟨by decide, by decide⟩, _, _, rfl, rfl, _, _, rfl, rfl, (by decide : (0 : Int) < 26), _, _, _, rfl, rfl, lets_len, at_lets e6 (Nat.mod_lt _ (by decide)), _, rfl, rfl, ?_⟩
          refine ⟨_, rfl, _, _, rfl, rfl, (by decide : (0 : Int) < 8), _, _, rfl, rfl, _, rfl, _, rfl, by rw [SX.S_len, List.length_replicate]; decide, ?_⟩
          rw [cut_t (j := i % 8 + 1) (by omega) (by rw [List.length_replicate]; omega)]
          subst e1
          exact ⟨rfl, rfl⟩
        · have e1 : ¬ way = 2 := fun z => c1 (decide_eq_true (by rw [hway, z]; rfl))
          rw [if_neg e1]
          exact ⟨rfl, rfl⟩
      rintro σ' H'' ⟨rfl, rfl⟩
      -- a word of the list
      refine ⟨fun σ' H' => H' = H'' ∧ σ' = [some (.ref p), some (.int n), some (.str (Str.ofString "abcdefghijklmnopqrstuvwxyz")), some (.ref wl), some (.int (sz : Int)), some (.int (0 + i)), some (.str (S bs)), some (.int (at_ : Int)), some (.int (spot : Int)), some (.int (way0 % 4)), some (.ref o), some (.str (S (NM.word bs at_ spot way i)))], ?_, ?_⟩
      · refine ⟨_, rfl, rfl, _, rfl, ?_⟩
        refine ite2 (fun c1 => ?_) (fun c1 => ?_)
        · have e1 : way = 3 := by have := V.int.inj (of_decide_eq_true c1); omega
          have e7 : ((spot : Int) + (0 + (i : Int))) % 16 = (((spot + i) % 16 : Nat) : Int) := by omega
          have hw16 : (spot + i) % 16 < NM.words.length := Nat.mod_lt _ (by decide)
          refine ⟨_, rfl, _, rfl, _, rfl, _, _, rfl, rfl, _, _, rfl, rfl, (by decide : (0 : Int) < 16), wl, _, _, .str (S (NM.w3 spot i)), rfl, rfl, SqL.of hwl7, ?_, ?_⟩
          · rw [e7]
            refine atI_nat ?_
            rw [List.getElem?_map, List.getElem?_map, List.getElem?_eq_getElem hw16]
            unfold NM.w3
            rw [List.getD_eq_getElem?_getD, List.getElem?_eq_getElem hw16]
            rfl
          · subst e1
            exact ⟨rfl, rfl⟩
        · have e1 : ¬ way = 3 := fun z => c1 (decide_eq_true (by rw [hway, z]; rfl))
          refine ⟨rfl, ?_⟩
          unfold NM.word
          rw [if_neg e1]
      rintro σ' H' ⟨rfl, rfl⟩
      -- put in
      refine ⟨_, rfl, Or.inl ⟨rfl, _, SqL.of ho7⟩, _, rfl, _, rfl, o, _, rfl, .inl (SqL.of ho7), _, _, rfl, rfl, p, c + 27 - (i + 1), _, rfl, pen7.weak (by omega), by omega, by rw [List.length_map]; omega, fun r H8 r0 r1 pen8 k8 => ?_⟩
      have off8 := off7.kp k8
      have ho8 := k8.1 _ _ ho7 off7.ne
      refine ⟨_, rfl, o, _, _, _, rfl, rfl, ho8, ?_, r0, by rw [List.length_map] at r1; omega, ?_⟩
      · rw [List.length_map, zl]
        exact Nat.lt_of_lt_of_le (by omega : i < 64) (by decide)
      · refine ⟨zs.take r.toNat ++ [NM.word bs at_ spot way i] ++ zs.drop r.toNat, _, _, rfl, ?_, ?_, pen8.put off8, (k7.trans k8).new fo, ?_⟩
        · rw [upd_same]
          simp [List.map_append, List.map_take, List.map_drop]
        · have hp1 : (zs.take r.toNat ++ [NM.word bs at_ spot way i] ++ zs.drop r.toNat).Perm (NM.word bs at_ spot way i :: zs) := by
            rw [List.append_assoc]
            have := List.perm_middle (a := NM.word bs at_ spot way i) (l₁ := zs.take r.toNat) (l₂ := zs.drop r.toNat)
            rw [List.take_append_drop] at this
            exact this
          refine hp1.trans ?_
          rw [List.range_succ, List.map_append]
          exact (List.Perm.cons _ perm7).trans (List.perm_append_singleton _ _).symm
        · exact off8.put (by obtain ⟨_, _, _, _, _, z⟩ := off8; exact z)
    · rintro σ H7 ⟨zs, v5, v11, rfl, ho7, perm7, pen7, k7, off7⟩
      refine ⟨_, rfl, hQ o zs H7 (pen7.weak (by omega)) (k06.trans k7) ?_ off7 ho7 (by rw [perm7.length_eq, List.length_map, List.length_range]) (fun z hz => ?_) ?_⟩
      · cases q : H o with
        | none => rfl
        | some u =>
          have z := k06.1 _ _ q (Off.of pen6 fo).ne
          rw [fo] at z
          cases z
      · obtain ⟨k, _, rfl⟩ := List.mem_map.mp (perm7.subset hz)
        exact NM.word_ok (by omega) (by omega) hbc hat way
      · exact (perm7.symm.pairwise_iff (fun h => Ne.symm h)).mp (NM.all_unlike hat way n hn)
end
end K26
set_option Elab.async false
set_option linter.all false
set_option maxRecDepth 100000
set_option maxHeartbeats 4000000
namespace K26
open PySem PySem.Spec PyProof.Rows L2
open C8 (Cal Mak Met pe_c pe_mk pe_mt pe_mt0)
open SX (S)
section
variable {P : Program} {w : World} {K : PySem.W.Frag} {mg : Str → Option Value} {base : Heap} {f C : Addr} {fd : FuncData}
def spWhole : Sp := fun vs H Q _ => ∃ n : Int, vs = [.int n] ∧ Q (.bl true) H
theorem ok_whole (F : Dn K d_is_whole f fd) (b : Bl mg) : FnOk P w K mg base CX0 1 f fd ["thing"] spWhole := by
  refine F.ok sc_is_whole (fun vs H Q E h => ?_) (fun cdv A outer s H vs Q E hr h => ?_)
  · obtain ⟨n, rfl, _⟩ := h
    rfl
  · obtain ⟨n, rfl, hQ⟩ := h
    refine ⟨_, PSs.nox (pss_one (ps_ret (pe_and
      (pe_callB call_isi rfl b.isi boot_isinstance (pa_cons (pv 0) (pa_cons (pe_bltn (v := .ty "int") rfl b.int boot_int rfl) pa_nil)))
      (pe_one (pe_not (pe_callB call_isi rfl b.isi boot_isinstance (pa_cons (pv 0) (pa_cons (pe_bltn (v := .ty "bool") rfl b.bool boot_bool rfl) pa_nil)))))))), ?_⟩
    refine ⟨_, rfl, _, _, _, _, true, rfl, ClsV.ty _, TyX.base (TyOf.int n), kit_ty (by decide +kernel), true, rfl, ?_⟩
    refine iteT ?_
    exact ⟨_, rfl, _, _, _, _, false, rfl, ClsV.ty _, TyX.base (TyOf.int n), kit_ty (by decide +kernel), false, rfl, hQ⟩
abbrev CalW (P : Program) (w : World) (K : PySem.W.Frag) (mg : Str → Option Value) (base : Heap) : Prop := Cal P w K mg base 1 "is_whole" spWhole []
def spBetween : Sp := fun vs H Q _ => ∃ n lo hi : Int, vs = [.int n, .int lo, .int hi] ∧ Q (.bl (decide (lo ≤ n ∧ n ≤ hi))) H
theorem ok_between (F : Dn K d_is_between f fd) (cW : CalW P w K mg base) : FnOk P w K mg base CX0 2 f fd ["thing", "low", "high"] spBetween := by
  refine F.ok sc_is_between (fun vs H Q E h => ?_) (fun cdv A outer s H vs Q E hr h => ?_)
  · obtain ⟨n, lo, hi, rfl, _⟩ := h
    rfl
  · obtain ⟨n, lo, hi, rfl, hQ⟩ := h
    refine ⟨_, PSs.nox (pss_one (ps_ret (pe_and (pe_c cW hr (by decide) rfl (pa_cons (pv 0) pa_nil)) (pe_one (pe_chain op_le op_le (pv 1) (pv 0) (pv 2)))))), ?_⟩
    refine ⟨_, rfl, n, rfl, true, rfl, iteT ?_⟩
    refine ⟨_, rfl, _, rfl, _, _, rfl, rfl, _, rfl, ?_⟩
    refine ite2 (fun h1 => ?_) (fun h1 => ?_)
    · have h1' : lo ≤ n := of_decide_eq_true h1
      refine ⟨_, rfl, _, _, rfl, rfl, ?_⟩
      have e : decide (n ≤ hi) = decide (lo ≤ n ∧ n ≤ hi) := decide_eq_decide.mpr ⟨fun z => ⟨h1', z⟩, fun z => z.2⟩
      show Q (.bl (decide (n ≤ hi))) H
      rw [e]
      exact hQ
    · have h1' : ¬ lo ≤ n := fun z => h1 (decide_eq_true z)
      have e : decide (lo ≤ n ∧ n ≤ hi) = false := decide_eq_false fun z => h1' z.1
      rw [e] at hQ
      exact hQ
abbrev CalB (P : Program) (w : World) (K : PySem.W.Frag) (mg : Str → Option Value) (base : Heap) : Prop := Cal P w K mg base 2 "is_between" spBetween []
def spDay : Sp := fun vs H Q _ => ∃ n : Int, vs = [.int n] ∧ Q (.bl (decide (0 ≤ n ∧ n ≤ 1000000))) H
theorem ok_day (F : Dn K d_is_day f fd) (cB : CalB P w K mg base) (g : ∃ t, mg "LAST_DAY" = some (.int 1000000 t)) : FnOk P w K mg base CX0 3 f fd ["thing"] spDay := by
  refine F.ok sc_is_day (fun vs H Q E h => ?_) (fun cdv A outer s H vs Q E hr h => ?_)
  · obtain ⟨n, rfl, _⟩ := h
    rfl
  · obtain ⟨n, rfl, hQ⟩ := h
    obtain ⟨t, g⟩ := g
    refine ⟨_, PSs.nox (pss_one (ps_ret (pe_c cB hr (by decide) rfl (pa_cons (pv 0) (pa_cons pe_int (pa_cons (pe_glob (v := .int 1000000) rfl g ⟨t, rfl⟩) pa_nil)))))), ?_⟩
    exact ⟨_, rfl, n, 0, 1000000, rfl, hQ⟩
/-- what is a name -/
def spName : Sp := fun vs H Q _ => ∃ l : List Nat, vs = [.str (S l)] ∧ NM.ok l ∧ ∀ H', Same H H' → Q (.bl true) H'
theorem ok_name (F : Dn K d_is_name f fd) (b : Bl mg) (g : ∃ t, mg "LONGEST_NAME" = some (.int 8 t)) : FnOk P w K mg base CX0 1 f fd ["thing"] spName := by
  refine F.ok sc_is_name (fun vs H Q E h => ?_) (fun cdv A outer s H vs Q E hr h => ?_)
  · obtain ⟨l, rfl, _⟩ := h
    rfl
  · obtain ⟨l, rfl, ⟨l1, l8, lc⟩, hQ⟩ := h
    obtain ⟨t, g⟩ := g
    have hz : (S l).length ≤ sizeLine := by rw [SX.S_len]; exact Nat.le_trans l8 (by decide)
    refine ⟨_, PSs.nox (pss_cons (ps_if (PW.pt (pw_or (pt_not (pt_val (pe_callB call_isi rfl b.isi boot_isinstance (pa_cons (pv 0) (pa_cons (pe_bltn (v := .ty "str") rfl b.str boot_str rfl) pa_nil)))))
        (pw_or1 (pt_not (pt_chain op_le op_le pe_int (pe_callB call_len_str rfl b.len boot_len (pa_cons (pv 0) pa_nil)) (pe_glob (v := .int 8) rfl g ⟨t, rfl⟩)))))) pss_never pss_nil)
      (pss_one (ps_ret (pe_callB (cr_all rfl) rfl b.all boot_all (pa_cons (pe_lc (own := [("sign", 1)]) (g := gName 1) (tt := tYes) rfl sc_is_name.nd (pi_str (pv 0)) (blkOk_by (N := N_is_name) (sc := defScope s_is_name) (by decide +kernel))
          (fun _ _ _ _ _ => pg_name (i := 1) sc_is_name.nd rfl (Or.inl rfl)) (fun _ _ _ _ _ => pts_nil) (fun _ _ _ _ _ => pe_chain op_le_str op_le_str pe_str (pv 1) pe_str)) pa_nil))))), ?_⟩
    refine ⟨_, rfl, _, _, _, _, true, rfl, ClsV.ty _, TyX.base (TyOf.str _), kit_ty (by decide +kernel), true, rfl, iteF ?_⟩
    refine ⟨_, rfl, _, rfl, hz, _, _, rfl, rfl, _, rfl, ?_⟩
    rw [SX.S_len]
    refine ite2 (fun _ => ?_) (fun z => absurd (decide_eq_true (by omega)) z)
    refine ⟨_, _, rfl, rfl, _, rfl, ?_⟩
    have e8 : decide ((l.length : Int) ≤ 8) = true := decide_eq_true (by omega)
    rw [e8]
    refine iteF ?_
    refine ⟨_, rfl, _, rfl, fun D hD => lc_it walk_str (fun i H2 => H2 D = some (.lst ((List.replicate i true).map V.bl)) ∧ Same H H2) ⟨upd_same, same_new hD⟩ (fun _ _ _ _ => trivial) ?_ ?_⟩
    · rintro i x H2 H3 hi ⟨hd, sm⟩ ⟨rfl, c', hc', rfl⟩
      have hi' : i < l.length := by simpa [S] using hi
      have hmem : c' ∈ l := by
        have : l[i]? = some c' := by simpa [S] using hc'
        exact List.mem_of_getElem? this
      have hcc := lc c' hmem
      refine ⟨rfl, ?_⟩
      refine ⟨_, rfl, _, _, rfl, rfl, _, rfl, ?_⟩
      have ea : (!decide ((⟨#[c']⟩ : Str).cps.toList < (Str.ofString "a").cps.toList)) = true := by
        have e1 : (Str.ofString "a").cps.toList = [97] := by decide +kernel
        rw [e1]
        have : ¬ (([c'] : List Nat) < [97]) := by
          rw [List.cons_lt_cons_iff]
          rintro (z | ⟨z, z'⟩)
          · omega
          · exact absurd z' (by simp)
        simp [this]
      have ez : (!decide ((Str.ofString "z").cps.toList < (⟨#[c']⟩ : Str).cps.toList)) = true := by
        have e1 : (Str.ofString "z").cps.toList = [122] := by decide +kernel
        rw [e1]
        have : ¬ (([122] : List Nat) < [c']) := by
          rw [List.cons_lt_cons_iff]
          rintro (z | ⟨z, z'⟩)
          · omega
          · exact absurd z' (by simp)
        simp [this]
      rw [ea]
      refine iteT ⟨_, _, rfl, rfl, ?_⟩
      rw [ez]
      refine ⟨_, hd, ?_, ?_, ?_⟩
      · rw [List.length_map, List.length_replicate]
        exact Nat.lt_of_lt_of_le (by omega : i < 64) (by decide)
      · rw [upd_same]
        simp [List.replicate_succ']
      · intro a o e
        rw [upd_ne (ne_of_none e hD)]
        exact sm a o e
    · rintro H2 ⟨hd, sm⟩
      refine ⟨D, _, rfl, SqL.of hd, ?_⟩
      have e3 : (List.replicate (S l).cps.size true).all id = true := by simp
      rw [e3]
      exact hQ H2 sm
end
end K26
set_option linter.all false
namespace KM
/-- the signed common part -/
def sg (t b : Int) : Int := if b < 0 then -(Int.gcd t b : Int) else (Int.gcd t b : Int)
/-- a fraction in lowest terms -/
def low (t b : Int) : Int × Int := (t.fdiv (sg t b), b.fdiv (sg t b))
theorem gcd_pos {t b : Int} (h : b ≠ 0) : 0 < Int.gcd t b := Int.gcd_pos_of_ne_zero_right t h
theorem sg_ne {t b : Int} (h : b ≠ 0) : sg t b ≠ 0 := by
  have := gcd_pos (t := t) h
  unfold sg
  split <;> omega
theorem sg_dvd_left (t b : Int) : sg t b ∣ t := by
  unfold sg
  split
  · exact Int.neg_dvd.mpr (Int.gcd_dvd_left ..)
  · exact Int.gcd_dvd_left ..
theorem sg_dvd_right (t b : Int) : sg t b ∣ b := by
  unfold sg
  split
  · exact Int.neg_dvd.mpr (Int.gcd_dvd_right ..)
  · exact Int.gcd_dvd_right ..
theorem low_top {t b : Int} : sg t b * (low t b).1 = t := by
  show sg t b * t.fdiv (sg t b) = t
  rw [Int.fdiv_eq_ediv_of_dvd (sg_dvd_left t b)]
  exact Int.mul_ediv_cancel' (sg_dvd_left t b)
theorem low_bot {t b : Int} : sg t b * (low t b).2 = b := by
  show sg t b * b.fdiv (sg t b) = b
  rw [Int.fdiv_eq_ediv_of_dvd (sg_dvd_right t b)]
  exact Int.mul_ediv_cancel' (sg_dvd_right t b)
theorem sg_abs (t b : Int) : (sg t b).natAbs = Int.gcd t b := by
  unfold sg
  split <;> simp
theorem low_pos {t b : Int} (h : b ≠ 0) : 0 < (low t b).2 := by
  have e := low_bot (t := t) (b := b)
  have g := gcd_pos (t := t) h
  by_cases hb : b < 0
  · have hs : sg t b < 0 := by unfold sg; rw [if_pos hb]; omega
    refine Int.lt_of_not_ge fun hc => ?_
    have := Int.mul_nonneg_of_nonpos_of_nonpos (Int.le_of_lt hs) hc
    omega
  · have hs : 0 < sg t b := by unfold sg; rw [if_neg hb]; omega
    refine Int.lt_of_not_ge fun hc => ?_
    have := Int.mul_nonpos_of_nonneg_of_nonpos (Int.le_of_lt hs) hc
    omega
theorem low_cop {t b : Int} (h : b ≠ 0) : Int.gcd (low t b).1 (low t b).2 = 1 := by
  have e : Int.gcd (sg t b * (low t b).1) (sg t b * (low t b).2) = (sg t b).natAbs * Int.gcd (low t b).1 (low t b).2 := Int.gcd_mul_left ..
  rw [low_top, low_bot, sg_abs] at e
  have g := gcd_pos (t := t) h
  have : Int.gcd t b * Int.gcd (low t b).1 (low t b).2 = Int.gcd t b * 1 := by omega
  exact Nat.eq_of_mul_eq_mul_left g this
theorem low_id {t b : Int} (hb : 0 < b) (h : Int.gcd t b = 1) : low t b = (t, b) := by
  have e : sg t b = 1 := by unfold sg; rw [if_neg (by omega), h]; rfl
  unfold low
  rw [e]
  simp
theorem low_low {t b : Int} (h : b ≠ 0) : low (low t b).1 (low t b).2 = low t b := low_id (low_pos h) (low_cop h)
/-- the bottom stays: nothing is taken out -/
theorem low_same {t b : Int} (hb : 0 < b) (h : (low t b).2 = b) : low t b = (t, b) := by
  have e := low_bot (t := t) (b := b)
  rw [h] at e
  have e1 : sg t b * b = 1 * b := by omega
  have e2 := Int.eq_of_mul_eq_mul_right (Int.ne_of_gt hb) e1
  have e3 := low_top (t := t) (b := b)
  rw [e2] at e3
  refine Prod.ext ?_ h
  show (low t b).1 = t
  omega
theorem dvd_le {x y : Int} (h : x * y ≠ 0) : y.natAbs ≤ (x * y).natAbs := by
  rw [Int.natAbs_mul]
  have : x ≠ 0 := fun z => h (by rw [z, Int.zero_mul])
  exact Nat.le_mul_of_pos_left _ (by omega)
theorem low_top_le {t b : Int} (h : b ≠ 0) : (low t b).1.natAbs ≤ t.natAbs := by
  by_cases ht : t = 0
  · subst ht
    have e := low_top (t := 0) (b := b)
    rcases Int.mul_eq_zero.mp e with z | z
    · exact absurd z (sg_ne h)
    · rw [z]; exact Nat.le_refl _
  · have e := low_top (t := t) (b := b)
    have := dvd_le (x := sg t b) (y := (low t b).1) (by omega)
    rw [e] at this
    exact this
theorem low_bot_le {t b : Int} (h : b ≠ 0) : (low t b).2.natAbs ≤ b.natAbs := by
  have e := low_bot (t := t) (b := b)
  have := dvd_le (x := sg t b) (y := (low t b).2) (by omega)
  rw [e] at this
  exact this
theorem sg_le {t b : Int} (h : b ≠ 0) : (sg t b).natAbs ≤ b.natAbs := by
  have e := low_bot (t := t) (b := b)
  have := dvd_le (x := (low t b).2) (y := sg t b) (by rw [Int.mul_comm]; omega)
  rw [Int.mul_comm, e] at this
  exact this
/-- Euclid's turn over whole numbers from 0 on -/
theorem gcd_turn {a b : Int} (ha : 0 ≤ a) (hb : 0 < b) : Int.gcd b (a % b) = Int.gcd a b := by
  obtain ⟨m, rfl⟩ := Int.eq_ofNat_of_zero_le ha
  obtain ⟨n, rfl⟩ := Int.eq_ofNat_of_zero_le (Int.le_of_lt hb)
  show Nat.gcd (Int.natAbs (n : Int)) (Int.natAbs ((m : Int) % (n : Int))) = Nat.gcd (Int.natAbs (m : Int)) (Int.natAbs (n : Int))
  rw [← Int.natCast_emod, Int.natAbs_natCast, Int.natAbs_natCast, Int.natAbs_natCast, Nat.gcd_comm n, Nat.gcd_comm m n]
  exact (Nat.gcd_rec n m).symm
theorem gcd_succ (a : Int) : Int.gcd a (a + 1) = 1 := by
  have : Int.gcd (a + 1) a = Int.gcd 1 a := by
    rw [Int.add_comm, Int.gcd_add_self_left]
  rw [Int.gcd_comm, this, Int.gcd_comm]
  simp
end KM
set_option linter.all false
namespace KM
/-- top and bottom of a rational number -/
def pr (r : Rat) : Int × Int := (r.num, (r.den : Int))
theorem pr_inj {r s : Rat} (h : pr r = pr s) : r = s := by
  have h1 : r.num = s.num := congrArg Prod.fst h
  have h2 : (r.den : Int) = (s.den : Int) := congrArg Prod.snd h
  rw [← Rat.num_divInt_den r, ← Rat.num_divInt_den s, h1, h2]
theorem den_ne (r : Rat) : (r.den : Int) ≠ 0 := by
  have := r.den_nz
  omega
theorem den_pos (r : Rat) : 0 < (r.den : Int) := by
  have := r.den_nz
  omega
theorem low_eq {t b : Int} (h : b ≠ 0) : low t b = pr (Rat.divInt t b) := by
  have hp := low_pos (t := t) h
  have hc := low_cop (t := t) h
  obtain ⟨d, hd⟩ := Int.eq_ofNat_of_zero_le (Int.le_of_lt hp)
  have hd0 : d ≠ 0 := by
    intro z
    rw [z] at hd
    omega
  have hcop : (low t b).1.natAbs.Coprime d := by
    have : Int.gcd (low t b).1 (low t b).2 = 1 := hc
    rw [hd] at this
    exact this
  have e1 : Rat.divInt (low t b).1 (d : Int) = Rat.divInt t b := by
    rw [Rat.divInt_eq_divInt_iff (by omega) h, ← hd]
    have h1 := low_top (t := t) (b := b)
    have h2 := low_bot (t := t) (b := b)
    calc (low t b).1 * b = (low t b).1 * (sg t b * (low t b).2) := by rw [h2]
      _ = sg t b * (low t b).1 * (low t b).2 := by rw [← Int.mul_assoc, Int.mul_comm (low t b).1]
      _ = t * (low t b).2 := by rw [h1]
  have e2 : ({ num := (low t b).1, den := d, den_nz := hd0, reduced := hcop } : Rat) = Rat.divInt t b := by rw [Rat.mk_eq_divInt, e1]
  rw [← e2]
  exact Prod.ext rfl hd
theorem pr_plus (r s : Rat) : low ((pr r).1 * (pr s).2 + (pr s).1 * (pr r).2) ((pr r).2 * (pr s).2) = pr (r + s) := by
  show low (r.num * s.den + s.num * r.den) (r.den * s.den) = _
  rw [low_eq (Int.mul_ne_zero (den_ne r) (den_ne s)), ← Rat.divInt_add_divInt _ _ (den_ne r) (den_ne s), Rat.num_divInt_den, Rat.num_divInt_den]
theorem pr_less (r s : Rat) : low ((pr r).1 * (pr s).2 - (pr s).1 * (pr r).2) ((pr r).2 * (pr s).2) = pr (r - s) := by
  show low (r.num * s.den - s.num * r.den) (r.den * s.den) = _
  rw [low_eq (Int.mul_ne_zero (den_ne r) (den_ne s)), ← Rat.divInt_sub_divInt _ _ (den_ne r) (den_ne s), Rat.num_divInt_den, Rat.num_divInt_den]
theorem pr_times (r : Rat) (k : Int) : low ((pr r).1 * k) (pr r).2 = pr (r * (Rat.divInt k 1)) := by
  show low (r.num * k) r.den = _
  have e : Rat.divInt (r.num * k) (r.den : Int) = Rat.divInt r.num r.den * Rat.divInt k 1 := by rw [Rat.divInt_mul_divInt, Int.mul_one]
  rw [low_eq (den_ne r), e, Rat.num_divInt_den]
theorem pr_over (r : Rat) {k : Int} (h : k ≠ 0) : low (pr r).1 ((pr r).2 * k) = pr (r * (Rat.divInt 1 k)) := by
  show low r.num (r.den * k) = _
  have e : Rat.divInt r.num (r.den * k : Int) = Rat.divInt r.num r.den * Rat.divInt 1 k := by rw [Rat.divInt_mul_divInt, Int.mul_one]
  rw [low_eq (Int.mul_ne_zero (den_ne r) h), e, Rat.num_divInt_den]
theorem inv_k {k : Int} (h : k ≠ 0) : Rat.divInt k 1 * Rat.divInt 1 k = 1 := by
  rw [Rat.divInt_mul_divInt, Int.mul_one, Int.one_mul]
  exact Rat.divInt_self' h
theorem pr_lt (r s : Rat) : ((pr r).1 * (pr s).2 < (pr s).1 * (pr r).2) ↔ r < s := (Rat.lt_iff r s).symm
theorem pr_bot (r : Rat) : 0 < (pr r).2 := den_pos r
theorem add_back (r s : Rat) : r + s - s = r := by
  rw [Rat.sub_eq_add_neg, Rat.add_assoc, Rat.add_neg_cancel, Rat.add_zero]
theorem sub_back (r s : Rat) : r - s + s = r := by
  rw [Rat.sub_eq_add_neg, Rat.add_assoc, Rat.neg_add_cancel, Rat.add_zero]
theorem mul_back (r : Rat) {k : Int} (h : k ≠ 0) : r * Rat.divInt k 1 * Rat.divInt 1 k = r := by
  rw [Rat.mul_assoc, inv_k h, Rat.mul_one]
theorem div_back (r : Rat) {k : Int} (h : k ≠ 0) : r * Rat.divInt 1 k * Rat.divInt k 1 = r := by
  rw [Rat.mul_assoc, Rat.mul_comm (Rat.divInt 1 k), inv_k h, Rat.mul_one]
/-- small -/
def Sz (n : Nat) (r : Rat) : Prop := r.num.natAbs < 2 ^ n ∧ r.den < 2 ^ n
theorem Sz.mono {n m : Nat} {r : Rat} (h : Sz n r) (hm : n ≤ m) : Sz m r := ⟨Nat.lt_of_lt_of_le h.1 (Nat.pow_le_pow_right (by decide) hm), Nat.lt_of_lt_of_le h.2 (Nat.pow_le_pow_right (by decide) hm)⟩
theorem sz_of_low {t b : Int} {n : Nat} (hb : b ≠ 0) (h1 : t.natAbs < 2 ^ n) (h2 : b.natAbs < 2 ^ n) : Sz n (Rat.divInt t b) := by
  have e := low_eq (t := t) hb
  have e1 : (low t b).1 = (Rat.divInt t b).num := congrArg Prod.fst e
  have e2 : (low t b).2 = ((Rat.divInt t b).den : Int) := congrArg Prod.snd e
  have l1 := low_top_le (t := t) hb
  have l2 := low_bot_le (t := t) hb
  constructor
  · rw [← e1]; omega
  · have : ((low t b).2).natAbs < 2 ^ n := by omega
    rw [e2] at this
    simpa using this
theorem two_lt {x y n m : Nat} (h1 : x < 2 ^ n) (h2 : y < 2 ^ m) : x * y < 2 ^ (n + m) := by
  rw [Nat.pow_add]
  exact Nat.mul_lt_mul'' h1 h2
theorem sz_sum {a b c d : Int} {n m : Nat} (h1 : a.natAbs < 2 ^ n) (h2 : d.natAbs < 2 ^ m) (h3 : c.natAbs < 2 ^ m) (h4 : b.natAbs < 2 ^ n) : (a * d + c * b).natAbs < 2 ^ (n + m + 1) ∧ (a * d - c * b).natAbs < 2 ^ (n + m + 1) := by
  have e1 : (a * d).natAbs < 2 ^ (n + m) := by rw [Int.natAbs_mul]; exact two_lt h1 h2
  have e2 : (c * b).natAbs < 2 ^ (n + m) := by rw [Int.natAbs_mul, Nat.add_comm]; exact two_lt h3 h4
  have e3 : 2 ^ (n + m + 1) = 2 * 2 ^ (n + m) := by rw [Nat.pow_succ, Nat.mul_comm]
  omega
theorem sz_plus {n m : Nat} {r s : Rat} (hr : Sz n r) (hs : Sz m s) : Sz (n + m + 1) (r + s) ∧ Sz (n + m + 1) (r - s) := by
  have d1 : ((r.den : Int)).natAbs < 2 ^ n := by simpa using hr.2
  have d2 : ((s.den : Int)).natAbs < 2 ^ m := by simpa using hs.2
  have hd : ((r.den : Int) * s.den).natAbs < 2 ^ (n + m + 1) := by
    have : ((r.den : Int) * s.den).natAbs < 2 ^ (n + m) := by rw [Int.natAbs_mul]; exact two_lt d1 d2
    exact Nat.lt_of_lt_of_le this (Nat.pow_le_pow_right (by decide) (by omega))
  have hn := sz_sum hr.1 d2 hs.1 d1
  have ne := Int.mul_ne_zero (den_ne r) (den_ne s)
  constructor
  · have := sz_of_low ne hn.1 hd
    rw [← Rat.divInt_add_divInt _ _ (den_ne r) (den_ne s), Rat.num_divInt_den, Rat.num_divInt_den] at this
    exact this
  · have := sz_of_low ne hn.2 hd
    rw [← Rat.divInt_sub_divInt _ _ (den_ne r) (den_ne s), Rat.num_divInt_den, Rat.num_divInt_den] at this
    exact this
theorem sz_times {n m : Nat} {r : Rat} {k : Int} (hr : Sz n r) (hk : k.natAbs < 2 ^ m) : Sz (n + m) (r * Rat.divInt k 1) := by
  have e : r * Rat.divInt k 1 = Rat.divInt (r.num * k) r.den := by
    have : Rat.divInt (r.num * k) (r.den : Int) = Rat.divInt r.num r.den * Rat.divInt k 1 := by rw [Rat.divInt_mul_divInt, Int.mul_one]
    rw [this, Rat.num_divInt_den]
  rw [e]
  refine sz_of_low (den_ne r) (by rw [Int.natAbs_mul]; exact two_lt hr.1 hk) ?_
  have d1 : ((r.den : Int)).natAbs < 2 ^ n := by simpa using hr.2
  exact Nat.lt_of_lt_of_le d1 (Nat.pow_le_pow_right (by decide) (by omega))
theorem sz_over {n m : Nat} {r : Rat} {k : Int} (hr : Sz n r) (h : k ≠ 0) (hk : k.natAbs < 2 ^ m) : Sz (n + m) (r * Rat.divInt 1 k) := by
  have e : r * Rat.divInt 1 k = Rat.divInt r.num (r.den * k) := by
    have : Rat.divInt r.num (r.den * k : Int) = Rat.divInt r.num r.den * Rat.divInt 1 k := by rw [Rat.divInt_mul_divInt, Int.mul_one]
    rw [this, Rat.num_divInt_den]
  rw [e]
  have d1 : ((r.den : Int)).natAbs < 2 ^ n := by simpa using hr.2
  refine sz_of_low (Int.mul_ne_zero (den_ne r) h) (Nat.lt_of_lt_of_le hr.1 (Nat.pow_le_pow_right (by decide) (by omega))) ?_
  rw [Int.natAbs_mul]
  exact two_lt d1 hk
end KM
set_option Elab.async false
set_option linter.all false
set_option maxRecDepth 100000
set_option maxHeartbeats 4000000
namespace K26
open PySem PySem.Spec PyProof.Rows L2
open C8 (Cal Mak Met pe_c pe_mk pe_mt pe_mt0)
open KM (pr Sz)
/-- more of the module's names -/
structure Bl2 (mg : Str → Option Value) : Prop where
  abs : mg "abs" = none
  set : mg "set" = none
  dict : mg "dict" = none
  srt : mg "sorted" = none
  tup : mg "tuple" = none
theorem op_fdW {X : Cx} : OpR X (binaryOp .FloorDiv) (rI (fun _ j => j ≠ 0 ∧ j.natAbs.log2 < 9000) fun i j => .int (i.fdiv j)) := opI fun _ _ _ _ _ _ _ hc q => floordiv_int hc.1 q (.inl (PyProof.noPylong_of_log2 hc.2))
/-- the fields of a Share -/
def shF (q : Int × Int) : List (Str × V) := putF "bottom" (.int q.2) (putF "top" (.int q.1) [])
theorem tb : ¬ (("top" : Str) = "bottom") := by decide +kernel
theorem shF_top (q : Int × Int) : (shF q).lookup ("top" : Str) = some (.int q.1) := by
  unfold shF
  rw [lookup_putF, if_neg tb, lookup_putF, if_pos rfl]
theorem shF_bot (q : Int × Int) : (shF q).lookup ("bottom" : Str) = some (.int q.2) := by
  unfold shF
  rw [lookup_putF, if_pos rfl]
theorem shF_no (q : Int × Int) {m : Str} (h1 : ¬ m = "bottom") (h2 : ¬ m = "top") : (shF q).lookup m = none := by
  unfold shF
  rw [lookup_putF, if_neg h1, lookup_putF, if_neg h2]
  all_goals rfl
/-- a Share stands at p -/
def Sh (C : Addr) (H : Hp) (p : Addr) (q : Int × Int) : Prop := ∃ dx, H p = some (.ins C dx (shF q))
/-- small enough, the bottom above nought -/
def Bd (n : Nat) (q : Int × Int) : Prop := q.1.natAbs < 2 ^ n ∧ 0 < q.2 ∧ q.2.natAbs < 2 ^ n
theorem Sh.keep {C : Addr} {H H' : Hp} {p : Addr} {q : Int × Int} (s : Same H H') (h : Sh C H p q) : Sh C H' p q := let ⟨dx, e⟩ := h; ⟨dx, s _ _ e⟩
theorem log_lt {j : Int} {n : Nat} (h : j.natAbs < 2 ^ n) (h0 : 0 < n) (h9 : n ≤ 9000) : j.natAbs.log2 < 9000 := Nat.lt_of_lt_of_le (PySem.Flt.log2_lt_of h0 h) h9
/-- what is known of the class -/
structure Cl (K : PySem.W.Frag) (mg : Str → Option Value) (C : Addr) : Prop where
  cl : Cls K C
  nt : NoAttr K C "top"
  nb : NoAttr K C "bottom"
  g : mg "Share" = some (.ref C)
section
variable {P : Program} {w : World} {K : PySem.W.Frag} {mg : Str → Option Value} {base : Heap} {f C : Addr} {fd : FuncData}
def spGcd : Sp := fun vs H Q _ => ∃ x y : Int, vs = [.int x, .int y] ∧ Q (.int (Int.gcd x y : Int)) H
theorem abs_eq (x : Int) : (if x < 0 then -x else x) = (x.natAbs : Int) := by split <;> omega
theorem ok_gcd (F : Dn K d_common_part f fd) (ba : mg "abs" = none) : FnOk P w K mg base CX0 1 f fd ["one", "other"] spGcd := by
  refine F.ok sc_common_part (fun vs H Q E h => ?_) (fun cdv A outer s H vs Q E hr h => ?_)
  · obtain ⟨x, y, rfl, _⟩ := h
    rfl
  · obtain ⟨x, y, rfl, hQ⟩ := h
    refine ⟨_, PSs.nox (pss_cons (ps_set (i := 0) sc_common_part.nd rfl (.inl rfl) (pe_callB call_abs rfl ba boot_abs (pa_cons (pv 0) pa_nil)))
      (pss_cons (ps_set (i := 1) sc_common_part.nd rfl (.inl rfl) (pe_callB call_abs rfl ba boot_abs (pa_cons (pv 1) pa_nil)))
      (pss_cons (ps_while PassesOwn.never (pt_cmpR op_ne (pv 1) pe_int (nomark _)) (pss_one (ps_par (i := 0) (j := 1) rfl sc_common_part.nd rfl rfl (by decide) rfl rfl (pa_cons (pv 1) (pa_cons (pe_op op_mod (pv 0) (pv 1)) pa_nil)) rfl)))
      (pss_one (ps_ret (pv 0)))))), ?_⟩
    refine ⟨_, rfl, _, rfl, _, rfl, _, rfl, while_by (fun σ H2 => H2 = H ∧ ∃ a c : Int, σ = [some (.int a), some (.int c)] ∧ 0 ≤ a ∧ 0 ≤ c ∧ Int.gcd a c = Int.gcd x y)
      (fun σ _ => match σ with | [_, some (.int c)] => c.toNat | _ => 0) ⟨rfl, _, _, rfl, ?_, ?_, ?_⟩ ?_ ?_⟩
    · split <;> omega
    · split <;> omega
    · rw [abs_eq, abs_eq]
      rfl
    · rintro σ H2 ⟨rfl, a, c, rfl, ha, hc, hg⟩
      refine ⟨_, rfl, rfl, _, rfl, ?_⟩
      by_cases h0 : c = 0
      · subst h0
        refine iteNS rfl ?_
        refine ⟨_, rfl, ?_⟩
        have e : Int.gcd x y = a.natAbs := by rw [← hg]; simp
        have e2 : (Int.gcd x y : Int) = a := by omega
        rw [e2] at hQ
        exact hQ
      · have hne : (!decide (V.int c = V.int 0)) = true := by simp [h0]
        rw [hne]
        refine iteT ?_
        have hp : 0 < c := by omega
        refine ⟨_, rfl, _, rfl, _, rfl, _, _, rfl, rfl, hp, _, _, rfl, ⟨rfl, _, _, rfl, hc, Int.emod_nonneg _ h0, ?_⟩, ?_⟩
        · rw [KM.gcd_turn ha hp, hg]
        · show (a % c).toNat < c.toNat
          have h1 := Int.emod_nonneg a h0
          have h2 := Int.emod_lt_of_pos a hp
          omega
    · rintro σ H2 Q1 Q2 hm ⟨v, hv, h1, k, hk, q⟩
      exact ⟨v, hv, h1, k, hk, hm _ _ q⟩
end
section
variable {P : Program} {w : World} {K : PySem.W.Frag} {mg : Str → Option Value} {base : Heap} {f C : Addr} {fd : FuncData}
abbrev CalG (P : Program) (w : World) (K : PySem.W.Frag) (mg : Str → Option Value) (base : Heap) : Prop := Cal P w K mg base 1 "common_part" spGcd []
/-- __init__: a Share in lowest terms -/
def spInit (C : Addr) : Sp := fun vs H Q _ => ∃ (p dx : Addr) (t b : Int) (n : Nat), vs = [.ref p, .int t, .int b] ∧ b ≠ 0 ∧ b.natAbs < 2 ^ n ∧ 0 < n ∧ n ≤ 9000 ∧ H p = some (.ins C dx []) ∧
  ∀ H', (∀ a o, a ≠ p → H a = some o → H' a = some o) → H' p = some (.ins C dx (shF (KM.low t b))) → Q .non H'
theorem ok_init (F : Dn K d_Share_init f fd) (cW : CalW P w K mg base) (cG : CalG P w K mg base) (T : Cl K mg C) : FnOk P w K mg base CX0 2 f fd ["self", "top", "bottom"] (spInit C) := by
  refine F.ok sc_Share_init (fun vs H Q E h => ?_) (fun cdv A outer s H vs Q E hr h => ?_)
  · obtain ⟨p, dx, t, b, n, rfl, _⟩ := h
    rfl
  · obtain ⟨p, dx, t, b, n, rfl, hb, hn, hn0, hn9, hp, hQ⟩ := h
    refine ⟨_, PSs.nox (pss_cons (ps_for PassesOwn.never rfl (pi_tup (pe_tup (pa_cons (pv 1) (pa_cons (pv 2) pa_nil)))) (pg_name (i := 3) sc_Share_init.nd rfl (.inl rfl))
        (pss_one (ps_if (pt_not (pt_val (pe_c cW hr (by decide) rfl (pa_cons (pv 3) pa_nil)))) pss_never pss_nil)))
      (pss_cons (ps_if (pt_cmpR op_eq (pv 2) pe_int (nomark _)) pss_never pss_nil)
      (pss_cons (ps_set (i := 4) sc_Share_init.nd rfl (.inl rfl) (pe_c cG hr (by decide) rfl (pa_cons (pv 1) (pa_cons (pv 2) pa_nil))))
      (pss_cons (ps_if (pt_cmpR op_lt (pv 2) pe_int (nomark _)) (pss_one (ps_set (i := 4) sc_Share_init.nd rfl (.inl rfl) (pe_un un_neg (pv 4)))) pss_nil)
      (pss_cons (ps_fld (pv 0) (pe_op op_fdW (pv 1) (pv 4)) rfl)
      (pss_one (ps_fld (pv 0) (pe_op op_fdW (pv 2) (pv 4)) rfl))))))), ?_⟩
    refine ⟨_, rfl, _, rfl, by show 2 ≤ sizeLine; decide, fun u hu => ?_⟩
    have npu : p ≠ u := ne_of_none hp hu
    refine ⟨u, rfl, ⟨_, SqT.of upd_same⟩, for_tup (K := K) (xs := [.int t, .int b]) (fun i σ H2 => H2 = upd H u (.tup [.int t, .int b]) ∧ ∃ v, σ = [some (.ref p), some (.int t), some (.int b), v, none])
      ⟨rfl, none, rfl⟩ (fun i σ H2 _ h => by rw [h.1]; exact SqT.of upd_same) ?_ ?_⟩
    · rintro i y σ H2 hi ⟨rfl, v, rfl⟩
      have hy : ∃ n : Int, y = .int n := by
        match i, hi with
        | 0, e => exact ⟨t, (Option.some.inj e).symm⟩
        | 1, e => exact ⟨b, (Option.some.inj e).symm⟩
      obtain ⟨n, rfl⟩ := hy
      refine ⟨_, rfl, n, rfl, true, rfl, ?_⟩
      refine iteF ?_
      exact ⟨rfl, _, rfl⟩
    · rintro σ H2 ⟨rfl, v, rfl⟩
      refine ⟨_, rfl, rfl, _, rfl, ?_⟩
      have hb0 : decide (V.int b = V.int 0) = false := by simp [hb]
      rw [hb0]
      refine iteF ?_
      refine ⟨_, rfl, _, rfl, t, b, rfl, ?_⟩
      refine ⟨_, rfl, _, _, rfl, rfl, _, rfl, ?_⟩
      have hs9 : (KM.sg t b).natAbs.log2 < 9000 := log_lt (Nat.lt_of_le_of_lt (KM.sg_le hb) hn) hn0 hn9
      have fin : ∀ c : Int, c = KM.sg t b → ∀ v, tSeq (sFld K (tVar 0) (tOp (rI (fun _ j => j ≠ 0 ∧ j.natAbs.log2 < 9000) fun i j => .int (i.fdiv j)) (tVar 1) (tVar 4)) "top") (sFld K (tVar 0) (tOp (rI (fun _ j => j ≠ 0 ∧ j.natAbs.log2 < 9000) fun i j => .int (i.fdiv j)) (tVar 2) (tVar 4)) "bottom")
          { nx := fun _ H' => Q .non H', rt := Q } [some (.ref p), some (.int t), some (.int b), v, some (.int c)] (upd H u (.tup [.int t, .int b])) := by
        rintro c rfl v
        refine ⟨_, rfl, _, rfl, _, _, rfl, rfl, ⟨KM.sg_ne hb, hs9⟩, _, rfl, p, C, dx, _, rfl, (by rw [upd_ne npu]; exact hp), T.cl, T.nt, (by show 0 < 1000; decide), ?_⟩
        refine ⟨_, rfl, _, rfl, _, _, rfl, rfl, ⟨KM.sg_ne hb, hs9⟩, _, rfl, p, C, dx, _, rfl, upd_same, T.cl, T.nb, (by show 1 < 1000; decide), ?_⟩
        refine hQ _ (fun a o ha e => ?_) upd_same
        rw [upd_ne ha, upd_ne ha, upd_ne (ne_of_none e hu)]
        exact e
      refine ite2 (fun h => ?_) (fun h => ?_)
      · have h' : b < 0 := of_decide_eq_true h
        refine ⟨_, rfl, _, rfl, ?_⟩
        exact fin _ (by unfold KM.sg; rw [if_pos h']) _
      · have h' : ¬ b < 0 := fun z => h (decide_eq_true z)
        exact fin _ (by unfold KM.sg; rw [if_neg h']) _
end


section
variable {P : Program} {w : World} {K : PySem.W.Frag} {mg : Str → Option Value} {base : Heap} {f C : Addr} {fd : FuncData}
abbrev MakS (P : Program) (w : World) (K : PySem.W.Frag) (mg : Str → Option Value) (base : Heap) (C : Addr) : Prop := Mak P w K mg base 2 "Share" C (spInit C) []
/-- Share(t, b): what is left to show -/
theorem mk_at {H1 : Hp} {t b : Int} {n : Nat} {Q : VK} (hb : b ≠ 0) (hn : b.natAbs < 2 ^ n) (hn0 : 0 < n) (hn9 : n ≤ 9000)
    (hQ : ∀ r H', Same H1 H' → H1 r = none → Sh C H' r (KM.low t b) → Q (.ref r) H') :
    ∀ x dx, H1 x = none → H1 dx = none → dx ≠ x → spInit C (.ref x :: ([V.int t, V.int b] ++ [])) (upd (upd H1 dx (.own x)) x (.ins C dx [])) (fun v H2 => v = .non ∧ Q (.ref x) H2) E0 := by
  intro x dx nx nd ne
  refine ⟨x, dx, t, b, n, rfl, hb, hn, hn0, hn9, upd_same, fun H' kp hp => ⟨rfl, hQ x H' (fun a o e => ?_) nx ⟨dx, hp⟩⟩⟩
  refine kp a o (ne_of_none e nx) ?_
  rw [upd_ne (ne_of_none e nx), upd_ne (ne_of_none e nd)]
  exact e
theorem mul_pos_ne {a b : Int} (ha : 0 < a) (hb : 0 < b) : a * b ≠ 0 := fun z => by
  have := Int.mul_pos ha hb
  omega
def two (n : Nat) (a b : Int × Int) : Prop := Bd n a ∧ Bd n b ∧ 0 < n ∧ n ≤ 4000

def sp_plus (C : Addr) : Sp := fun vs H Q _ => ∃ (p q : Addr) (a b : Int × Int) (n : Nat), vs = [.ref p, .ref q] ∧ Sh C H p a ∧ Sh C H q b ∧ two n a b ∧
  ∀ r H', Same H H' → H r = none → Sh C H' r (KM.low (a.1 * b.2 + b.1 * a.2) (a.2 * b.2)) → Q (.ref r) H'
theorem ok_plus (F : Dn K d_Share_plus f fd) (M : MakS P w K mg base C) (T : Cl K mg C) : FnOk P w K mg base CX0 4 f fd ["self", "other"] (sp_plus C) := by
  refine F.ok sc_Share_plus (fun vs H Q E h => ?_) (fun cdv A outer s H vs Q E hr h => ?_)
  · obtain ⟨p, q, a, b, n, rfl, _⟩ := h
    rfl
  · obtain ⟨p, q, a, b, n, rfl, ⟨dp, hp⟩, ⟨dq, hq⟩, ⟨ba, bb, hn0, hn9⟩, hQ⟩ := h
    refine ⟨_, PSs.nox (pss_one (ps_ret (pe_mk M hr (by decide) rfl (pa_cons (pe_op op_add (pe_op op_mulW (pe_fld (pv 0) rfl) (pe_fld (pv 1) rfl)) (pe_op op_mulW (pe_fld (pv 1) rfl) (pe_fld (pv 0) rfl)))
      (pa_cons (pe_op op_mulW (pe_fld (pv 0) rfl) (pe_fld (pv 1) rfl)) pa_nil))))), ?_⟩
    refine ⟨_, rfl, p, C, dp, _, _, rfl, hp, T.cl, T.nt, shF_top a, _, rfl, q, C, dq, _, _, rfl, hq, T.cl, T.nb, shF_bot b, _, _, rfl, rfl, wide_mul ba.1 bb.2.2 hn0 hn0 (by omega), ?_⟩
    refine ⟨_, rfl, q, C, dq, _, _, rfl, hq, T.cl, T.nt, shF_top b, _, rfl, p, C, dp, _, _, rfl, hp, T.cl, T.nb, shF_bot a, _, _, rfl, rfl, wide_mul bb.1 ba.2.2 hn0 hn0 (by omega), _, _, rfl, rfl, ?_⟩
    refine ⟨_, rfl, p, C, dp, _, _, rfl, hp, T.cl, T.nb, shF_bot a, _, rfl, q, C, dq, _, _, rfl, hq, T.cl, T.nb, shF_bot b, _, _, rfl, rfl, wide_mul ba.2.2 bb.2.2 hn0 hn0 (by omega), ?_⟩
    exact mk_at (n := n + n) (mul_pos_ne ba.2.1 bb.2.1) (wide_lt ba.2.2 bb.2.2) (by omega) (by omega) hQ

end

structure IsC (K : PySem.W.Frag) (C : Addr) : Prop where
  ha : PySem.W.findIn K (.ref C) "__class__" = some (some (.builtin "object.__class__"))
  hn : PySem.W.specialIn K (.builtin "object.__class__") "__get__" = some (some (.builtin "getset_descriptor.__get__"))
  htk : PySem.W.takesIn K (.builtin "object.__class__") = some true
  hm : PySem.W.mroIn K C (.type "object") = some true
  kit : PySem.W.kitOne K (.ref C) (.ref C) = some true
theorem bd_of {n : Nat} {r : Rat} (h : Sz n r) : Bd n (pr r) := ⟨h.1, KM.den_pos r, by simpa [pr] using h.2⟩

section
variable {P : Program} {w : World} {K : PySem.W.Frag} {mg : Str → Option Value} {base : Heap} {f C : Addr} {fd : FuncData}
def tupP (q : Int × Int) : HO := .tup [.int q.1, .int q.2]
def sp2 (C : Addr) (g : Rat → Rat → Rat) : Sp := fun vs H Q _ => ∃ (p q : Addr) (r s : Rat) (n : Nat), vs = [.ref p, .ref q] ∧ Sh C H p (pr r) ∧ Sh C H q (pr s) ∧ Sz n r ∧ Sz n s ∧ 0 < n ∧ n ≤ 4000 ∧
  ∀ t H', Same H H' → H t = none → Sh C H' t (pr (g r s)) → Q (.ref t) H'
theorem plusR {vs : List V} {H : Hp} {Q : VK} {E : XK} (h : sp2 C (· + ·) vs H Q E) : sp_plus C vs H Q E := by
  obtain ⟨p, q, r, s, n, e, hp, hq, sr, ss, n0, n9, k⟩ := h
  refine ⟨p, q, _, _, n, e, hp, hq, ⟨bd_of sr, bd_of ss, n0, n9⟩, fun t H' a b c => k t H' a b ?_⟩
  rw [KM.pr_plus] at c
  exact c
/-- a Share and a whole number in, a Share out -/
abbrev MakS1 (P : Program) (w : World) (K : PySem.W.Frag) (mg : Str → Option Value) (base : Heap) (C : Addr) : Prop := Mak P w K mg base 2 "Share" C (spInit C) [.int 1]
theorem mk_in {C x dx : Addr} {H1 : Hp} {t b : Int} {n : Nat} {Qv : VK} {E : XK} (nx : H1 x = none) (nd : H1 dx = none) (hb : b ≠ 0) (hn : b.natAbs < 2 ^ n) (hn0 : 0 < n) (hn9 : n ≤ 9000)
    (hQ : ∀ H', Same H1 H' → Sh C H' x (pr (Rat.divInt t b)) → Qv .non H') : spInit C [.ref x, .int t, .int b] (upd (upd H1 dx (.own x)) x (.ins C dx [])) Qv E := by
  refine ⟨x, dx, t, b, n, rfl, hb, hn, hn0, hn9, upd_same, fun H' kp hp => hQ H' (fun a o e => ?_) ⟨dx, KM.low_eq hb ▸ hp⟩⟩
  refine kp a o (ne_of_none e nx) ?_
  rw [upd_ne (ne_of_none e nx), upd_ne (ne_of_none e nd)]
  exact e
end
end K26
set_option Elab.async false
set_option linter.all false
set_option maxRecDepth 100000
set_option maxHeartbeats 4000000
namespace K26
open PySem PySem.Spec PyProof.Rows L2
open C8 (Cal Mak Met pe_c pe_mk pe_mt pe_mt0)
open KM (pr Sz)
section
variable {P : Program} {w : World} {K : PySem.W.Frag} {mg : Str → Option Value} {base : Heap} {f C : Addr} {fd : FuncData}
def spLow : Sp := fun vs H Q _ => ∃ (t b : Int) (n : Nat), vs = [.int t, .int b] ∧ 0 < b ∧ b.natAbs < 2 ^ n ∧ 0 < n ∧ n ≤ 9000 ∧ ∀ r, H r = none → Q (.ref r) (upd H r (tupP (KM.low t b)))
def spAdd : Sp := fun vs H Q _ => ∃ (p q : Addr) (a b : Int × Int) (n : Nat), vs = [.ref p, .ref q] ∧ H p = some (tupP a) ∧ H q = some (tupP b) ∧ two n a b ∧
  ∀ r, H r = none → Q (.ref r) (upd H r (tupP (KM.low (a.1 * b.2 + b.1 * a.2) (a.2 * b.2))))
theorem at0 {a b : V} : atI [a, b] 0 = some a := rfl
theorem at1 {a b : V} : atI [a, b] 1 = some b := rfl
/-- by rationals -/
def spAddR : Sp := fun vs H Q _ => ∃ (p q : Addr) (a b : Rat) (n : Nat), vs = [.ref p, .ref q] ∧ H p = some (tupP (pr a)) ∧ H q = some (tupP (pr b)) ∧ Sz n a ∧ Sz n b ∧ 0 < n ∧ n ≤ 4000 ∧ ∀ r, H r = none → Q (.ref r) (upd H r (tupP (pr (a + b))))
theorem addR {vs : List V} {H : Hp} {Q : VK} {E : XK} (h : spAddR vs H Q E) : spAdd vs H Q E := by
  obtain ⟨p, q, a, b, n, rfl, hp, hq, sa, sb, h0, h9, hQ⟩ := h
  refine ⟨p, q, _, _, n, rfl, hp, hq, ⟨bd_of sa, bd_of sb, h0, h9⟩, fun r hr => ?_⟩
  rw [KM.pr_plus]
  exact hQ r hr
end
end K26
set_option Elab.async false
set_option linter.all false
set_option maxRecDepth 100000
set_option maxHeartbeats 4000000
/-! ST: len(set(xs)) of unlike texts, xs a list or a tuple. -/
namespace ST
open PySem PySem.Spec PyProof.Rows
theorem not_yet {xs : List Str} (hn : xs.Nodup) {i : Nat} (h : i < xs.length) : ((xs.take i).any (· == xs.getD i Str.empty)) = false := by
  have e : xs.getD i Str.empty = xs[i] := by rw [List.getD_eq_getElem?_getD, List.getElem?_eq_getElem h]; rfl
  rw [e, List.any_eq_false]
  intro x hx z
  obtain ⟨j, hj, ej⟩ := List.getElem_of_mem hx
  have hji : j < i := by rw [List.length_take] at hj; omega
  rw [List.getElem_take] at ej
  exact List.pairwise_iff_getElem.mp hn j i (by omega) h hji (ej.trans (beq_iff_eq.mp z))
theorem one_more (xs : List Str) {i : Nat} (h : i < xs.length) (k : Str) : ((xs.take i).any (· == k) || decide (k = xs.getD i Str.empty)) = (xs.take (i + 1)).any (· == k) := by
  have e : xs.getD i Str.empty = xs[i] := by rw [List.getD_eq_getElem?_getD, List.getElem?_eq_getElem h]; rfl
  rw [e, List.take_add_one, List.getElem?_eq_getElem h, List.any_append]
  congr 1
  show decide (k = xs[i]) = [xs[i]].any (· == k)
  rw [List.any_cons, List.any_nil, Bool.or_false, Bool.eq_iff_iff, decide_eq_true_eq, beq_iff_eq]
  exact ⟨Eq.symm, Eq.symm⟩
section
variable {prog : Program} {w : World} {A : Around} {R : Result → Shared → Prop} {I S : Addr} {fp wr : List Addr} {G : Array GenState → Array GenState → Prop} {n : Nat} {P : Nat → Value → Prop} {St : Nat → Shared → Prop}
/-- the set of the first i of them stands at S -/
abbrev Has (prog : Program) (w : World) (S : Addr) (xs : List Str) (i : Nat) (h : Heap) : Prop := h.SetOf (PySem.strKind prog w) S (fun k => (xs.take i).any (· == k)) i
theorem Has.to {xs : List Str} {i : Nat} {h h' : Heap} (x : Has prog w S xs i h) (k : ∀ o, h.get? S = some o → h'.get? S = some o) : Has prog w S xs i h' := by
  obtain ⟨o, es, ep, t, ho, r⟩ := x
  exact ⟨o, es, ep, t, k o ho, r⟩
theorem walk (W : WalksS prog w A.in1 I fp wr G n P St) (hf : S ∉ fp) {xs : List Str} (hn : xs.Nodup) (hl : xs.length = n) (hb : n + 1 < scanBound) (hv : ∀ i v, P i v → ∃ t, v = .str (xs.getD i Str.empty) t) :
    ∀ (r i : Nat) (s : Shared), i + r = n → St i s → Has prog w S xs i s.heap → (∀ s', Moved (S :: wr) G s s' → Has prog w S xs n s'.heap → R (.ok (.ret .none)) s') →
      codeAny (model prog w) A (.builtin "set.update.loop" ⟨[.ref S, .ref I], []⟩) R s := by
  have nw : S ∉ wr := fun z => hf (W.sub _ z)
  have up : ∀ b ∈ wr, b ∈ S :: wr := fun b z => List.mem_cons_of_mem _ z
  intro r
  induction r with
  | zero =>
    intro i s e st hs fin
    cases (show i = n from e)
    refine codeAny_builtin PyProof.Rows.F.entry_set_update_loop ?_; rw [Around.under_plainId PyProof.Rows.F.plain_set_update_loop _]
    show wpAny _ A.in1 (pyNext (.ref I) >>= _) _ _ s; refine wpAny_bind (W.done s _ _ st fun s' m => ?_)
    exact wpAny_pure (fin s' (m.mono up) (hs.to fun o => m.heap S o nw))
  | succ r ih =>
    intro i s e st hs fin
    have li : i < n := by omega
    refine codeAny_builtin PyProof.Rows.F.entry_set_update_loop ?_; rw [Around.under_plainId PyProof.Rows.F.plain_set_update_loop _]
    show wpAny _ A.in1 (pyNext (.ref I) >>= _) _ _ s; refine wpAny_bind (W.item i s _ _ li st fun v s' pv st' m => ?_)
    obtain ⟨t, rfl⟩ := hv i v pv
    have hs' := hs.to fun o => m.heap S o nw
    show wpAny _ A.in1 (holding [Value.str (xs.getD i Str.empty) t] (setAdd S (.str (xs.getD i Str.empty) t)) >>= _) _ _ s'; refine wpAny_bind (wpAny_holding ?_)
    unfold setAdd
    refine wpAny_holding (wpAny_bind ((PySem.strKind prog w).pyHash (k := xs.getD i Str.empty) (strKind_is _ _ _ _) ?_))
    refine wpAny_setAddHashed_of (knd := PySem.strKind prog w) (s := { s' with toks := s'.toks + 1 }) (strKind_is _ _ _ _) rfl hs' (by omega) fun h' but h2 => ?_
    have hs2 : Has prog w S xs (i + 1) h' := SetOf_congr h2 (fun k => one_more xs (by omega) k) (by
      have z : (xs.take i).any (· == xs.getD i Str.empty) = false := not_yet hn (by omega)
      show (if (xs.take i).any (· == xs.getD i Str.empty) = true then i else i + 1) = i + 1
      rw [z]; rfl)
    refine wpAny_pure ⟨plainId_quiet PyProof.Rows.F.plain_set_update_loop _, ih (i + 1) _ (by omega) (W.frame _ s' _ _ st' (Nat.le_succ _) fun b hb o eo => ?_) hs2 fun s2 m2 h3 => ?_⟩
    · rw [but.2 b (fun z : b = S => hf (z ▸ hb))]
      exact eo
    · refine fin s2 (Moved.trans W.gtrans ((m.mono up).then_heap (Nat.le_succ _) fun b o hb eo => ?_) m2) h3
      rw [but.2 b (fun z : b = S => hb (z ▸ List.mem_cons_self))]
      exact eo
end
/-- a new set -/
abbrev fresh (led : Bool) : Obj := { cls := .type "set", dict := none, data := .set #[] 0 (.fresh 0 0 led) }
section
variable {prog : Program} {w : World} {A : Around} {E : Value → Shared → Prop} {s : Shared}
/-- how the call of set ends -/
abbrev EndOf (prog : Program) (w : World) (xs : List Str) (s : Shared) (s2 : Shared) : Prop := ∃ h' tk, s2 = { s with heap := h', toks := tk } ∧ Has prog w s.heap.objs.size xs xs.length h' ∧ ∀ b o, s.heap.get? b = some o → h'.get? b = some o
set_option maxHeartbeats 8000000 in
/-- set(xs), given what __init__ does with the new set -/
theorem call_by {l : Addr} {xs : List Str} {Q : Value → Shared → Prop}
    (hi : ∀ led : Bool, wpAny (model prog w) A.in1.in1 (Builtin.«set.__init__» ⟨[.ref s.heap.objs.size, .ref l], []⟩)
      (fun fin s' => match fin with | .done f => wants (fun r s₂ => r = .none ∧ EndOf prog w xs s s₂) E (.ok f) s' | .again c' => c'.quiet = true ∧ codeAny (model prog w) A.in1 c' (wants (fun r s₂ => r = .none ∧ EndOf prog w xs s s₂) E) s')
      (fun e s' => wants (fun r s₂ => r = .none ∧ EndOf prog w xs s s₂) E (.error e) s') { s with heap := s.heap.push (fresh led) })
    (h : ∀ s2, EndOf prog w xs s s2 → Q (.ref s.heap.objs.size) s2) : wpAny (model prog w) A (call (.type "set") [.ref l]) Q E s := by
  obtain ⟨c0, t0, mro0⟩ := PySem.F.called_set.mro
  have made0 := PySem.F.called_set.made; have sub0 := PySem.F.called_set.sub
  refine wpAny_call (codeAny_of_tree ?_); show wpAny _ _ (callAny (.type "set") _) _ _ _
  refine wpAny_pure ⟨Code.quiet_builtin _ (by decide +kernel), codeAny_builtin PySem.F.entry_type_call ?_⟩; rw [Around.under_plain (weight_type_call_type "set" [.ref l] []) rfl]
  have nt0 := PySem.F.called_set.notType; have cc0 := PySem.F.called_set.canCreate; have ct0 := PySem.F.typeCall_set_1 (.ref l)
  (repeat (any_goals (first | assumption | wp_step)))
  refine codeAny_mono (code_set_new_1 (.ref l) (E := E) (Q₁ := fun ob s1 => ∃ led : Bool, ob = .ref s.heap.objs.size ∧ s1 = { s with heap := s.heap.push (fresh led) }) fun led => ⟨led, rfl, rfl⟩) fun r s1 hr => ?_
  match r, hr with
  | .error e, hr => exact hr
  | .ok .next, hr => exact hr.elim
  | .ok .brk, hr => exact hr.elim
  | .ok .cont, hr => exact hr.elim
  | .ok (.ret ob), hr =>
    obtain ⟨led, rfl, rfl⟩ := hr
    have at0 : (s.heap.push (fresh led)).get? s.heap.objs.size = some (fresh led) := Heap.get?_push_size _ rfl
    have ty0 : Shared.TypeIs { s with heap := s.heap.push (fresh led) } (.ref s.heap.objs.size) "set" := ⟨_, at0, rfl⟩
    have lo0 := PySem.F.called_set.init.lookup; have bi0 := PySem.F.called_set.init.bind (.ref s.heap.objs.size)
    (repeat (any_goals (first | assumption | wp_step)))
    refine codeAny_mono (codeAny_call_builtin (R := wants (fun r s₂ => r = .none ∧ EndOf prog w xs s s₂) E) PySem.F.called_set.init.plain PySem.F.entry_set_init (check_set_init_1 ty0 (hi led))) fun r2 s2 hr2 => ?_
    match r2, hr2 with
    | .error e, hr2 => exact hr2
    | .ok .next, hr2 => exact hr2.elim
    | .ok .brk, hr2 => exact hr2.elim
    | .ok .cont, hr2 => exact hr2.elim
    | .ok (.ret v), hr2 =>
      obtain ⟨rfl, en⟩ := hr2
      have q := h s2 en
      obtain ⟨h', tk, rfl, h1, h2⟩ := en
      (repeat (any_goals (first | assumption | wp_step)))
set_option maxHeartbeats 8000000 in
theorem call_tup {l : Addr} {items : Array Value} {xs : List Str} {Q : Value → Shared → Prop} (hh : A.handled = none) (hl : s.heap.IsTuple l items) (hi : PyProof.Rows.StrsAre items.toList xs) (hn : xs.Nodup) (hb : xs.length + 1 < scanBound)
    (h : ∀ s2, EndOf prog w xs s s2 → Q (.ref s.heap.objs.size) s2) : wpAny (model prog w) A (call (.type "set") [.ref l]) Q E s := by
  refine call_by (xs := xs) (fun led => ?_) h
  obtain ⟨ol, ho, hc, nl, hd⟩ := hl
  obtain ⟨cl, dc, dt, sl⟩ := ol
  simp only at hc hd
  subst hc; subst hd
  have o1 : (s.heap.push (fresh led)).get? l = some { cls := .type "tuple", dict := dc, data := .seq items nl, slots := sl } := Heap.get?_push_of_some _ ho
  have l1 : (s.heap.push (fresh led)).IsTuple l items := ⟨_, o1, rfl, nl, rfl⟩
  have at0 : (s.heap.push (fresh led)).get? s.heap.objs.size = some (fresh led) := Heap.get?_push_size _ rfl
  have u1 := PySem.F.sub_tuple_set; have u2 := PySem.F.sub_tuple_frozenset; have u3 : (Value.type "tuple" == Value.type "dict") = false := by decide
  unfold Builtin.«set.__init__» noKeywords Builtin.Frozenset.updateFrom; generalize hp : pyIter = pit
  wp_walk
  subst hp
  refine wpAny_pyIter_tuple l1 (wpAny_bind (wpAny_runValue ?_))
  have ls : l < s.heap.objs.size := Heap.lt_size ho
  have h3 : A.in1.in1.in1.handled = none := by simp [hh]
  have ne1 : l ≠ (s.heap.push (fresh led)).objs.size := by rw [Heap.size_push]; exact Nat.ne_of_lt (Nat.lt_succ_of_lt ls)
  have nf : s.heap.objs.size ∉ [(s.heap.push (fresh led)).objs.size, l] := by
    rw [Heap.size_push]
    intro z
    simp only [List.mem_cons, List.not_mem_nil, or_false] at z
    rcases z with z | z
    · exact Nat.ne_of_lt (Nat.lt_succ_self _) z
    · exact Nat.ne_of_gt ls z
  have sz : xs.length = items.size := by rw [← StrsAre.len_eq hi, Array.length_toList]
  refine walk ((Walks.tuple h3 _ l ne1 items).toS) nf hn sz (by omega) (fun i v hv => SS.strs_at hi i v (by rw [Array.getElem?_toList]; exact hv)) items.size 0 _ (by omega) ⟨⟨_, Heap.get?_push_size _ rfl, rfl, rfl⟩, l1.push _⟩ ?_ ?_
  · exact PyProof.Rows.SetOf_congr ((PyProof.Rows.setObjOf_fresh (knd := PySem.strKind prog w) led).setOf (Heap.get?_push_of_some _ at0) (by unfold scanBound; omega)) (fun _ => rfl) rfl
  · intro s' hm hs'
    obtain ⟨h', g', d', tk', os'⟩ := s'
    cases (show g' = s.gens from hm.gens); cases (show d' = s.drawn from hm.drawn); cases (show os' = s.os from hm.os)
    show wpAny _ _ _ _ _ _
    refine wpAny_pure ?_
    show wpAny _ _ (ret Value.none) _ _ _
    refine wpAny_pure ⟨rfl, h', tk', rfl, by rw [sz]; exact hs', fun b o e => ?_⟩
    have lb : b < s.heap.objs.size := Heap.lt_size e
    refine hm.heap b o (fun z => ?_) (Heap.get?_push_of_some _ (Heap.get?_push_of_some _ e))
    rw [Heap.size_push] at z
    simp only [List.mem_cons, List.not_mem_nil, or_false] at z
    rcases z with z | z
    · exact Nat.ne_of_lt lb z
    · exact Nat.ne_of_lt (Nat.lt_succ_of_lt lb) z
set_option maxHeartbeats 8000000 in
theorem call_lst {l : Addr} {items : Array Value} {xs : List Str} {Q : Value → Shared → Prop} (hh : A.handled = none) (hl : s.heap.IsList l items) (hi : PyProof.Rows.StrsAre items.toList xs) (hn : xs.Nodup) (hb : xs.length + 1 < scanBound)
    (h : ∀ s2, EndOf prog w xs s s2 → Q (.ref s.heap.objs.size) s2) : wpAny (model prog w) A (call (.type "set") [.ref l]) Q E s := by
  refine call_by (xs := xs) (fun led => ?_) h
  obtain ⟨ol, ho, hc, nl, hd⟩ := hl
  obtain ⟨cl, dc, dt, sl⟩ := ol
  simp only at hc hd
  subst hc; subst hd
  have o1 : (s.heap.push (fresh led)).get? l = some { cls := .type "list", dict := dc, data := .seq items nl, slots := sl } := Heap.get?_push_of_some _ ho
  have l1 : (s.heap.push (fresh led)).IsList l items := ⟨_, o1, rfl, nl, rfl⟩
  have at0 : (s.heap.push (fresh led)).get? s.heap.objs.size = some (fresh led) := Heap.get?_push_size _ rfl
  have u1 := PySem.F.sub_list_set; have u2 := PySem.F.sub_list_frozenset; have u3 : (Value.type "list" == Value.type "dict") = false := by decide
  unfold Builtin.«set.__init__» noKeywords Builtin.Frozenset.updateFrom; generalize hp : pyIter = pit
  wp_walk
  subst hp
  refine wpAny_pyIter_list l1 (wpAny_bind (wpAny_runValue ?_))
  have ls : l < s.heap.objs.size := Heap.lt_size ho
  have h3 : A.in1.in1.in1.handled = none := by simp [hh]
  have ne1 : l ≠ (s.heap.push (fresh led)).objs.size := by rw [Heap.size_push]; exact Nat.ne_of_lt (Nat.lt_succ_of_lt ls)
  have nf : s.heap.objs.size ∉ [(s.heap.push (fresh led)).objs.size, l] := by
    rw [Heap.size_push]
    intro z
    simp only [List.mem_cons, List.not_mem_nil, or_false] at z
    rcases z with z | z
    · exact Nat.ne_of_lt (Nat.lt_succ_self _) z
    · exact Nat.ne_of_gt ls z
  have sz : xs.length = items.size := by rw [← StrsAre.len_eq hi, Array.length_toList]
  refine walk ((Walks.list h3 _ l ne1 items).toS) nf hn sz (by omega) (fun i v hv => SS.strs_at hi i v (by rw [Array.getElem?_toList]; exact hv)) items.size 0 _ (by omega) ⟨⟨_, Heap.get?_push_size _ rfl, rfl, rfl⟩, l1.push _⟩ ?_ ?_
  · exact PyProof.Rows.SetOf_congr ((PyProof.Rows.setObjOf_fresh (knd := PySem.strKind prog w) led).setOf (Heap.get?_push_of_some _ at0) (by unfold scanBound; omega)) (fun _ => rfl) rfl
  · intro s' hm hs'
    obtain ⟨h', g', d', tk', os'⟩ := s'
    cases (show g' = s.gens from hm.gens); cases (show d' = s.drawn from hm.drawn); cases (show os' = s.os from hm.os)
    show wpAny _ _ _ _ _ _
    refine wpAny_pure ?_
    show wpAny _ _ (ret Value.none) _ _ _
    refine wpAny_pure ⟨rfl, h', tk', rfl, by rw [sz]; exact hs', fun b o e => ?_⟩
    have lb : b < s.heap.objs.size := Heap.lt_size e
    refine hm.heap b o (fun z => ?_) (Heap.get?_push_of_some _ (Heap.get?_push_of_some _ e))
    rw [Heap.size_push] at z
    simp only [List.mem_cons, List.not_mem_nil, or_false] at z
    rcases z with z | z
    · exact Nat.ne_of_lt lb z
    · exact Nat.ne_of_lt (Nat.lt_succ_of_lt lb) z
end
end ST
namespace ST
open PySem PySem.Spec PyProof.Rows L2
section
variable {X : Cx}
/-- len(set(xs)): unlike texts -/
def tLenSet (K : PySem.W.Frag) (ta : TE) : TE := fun σ H Q => ta σ H fun x H1 => ∃ (l : Addr) (xs : List Str), x = .ref l ∧ (SqL K H1 l (xs.map V.str) ∨ SqT K H1 l (xs.map V.str)) ∧ xs.Nodup ∧ xs.length < 64 ∧ Q (.int xs.length) H1
theorem pe_lenSet {a : Expr} {ta : TE} {p p2 q pos : Pos} (hc : X.calm = true) (hg : Gl X "len") (hm : X.mg "len" = none) (hg2 : Gl X "set") (hm2 : X.mg "set" = none) (ha : PE X a ta)
    (na : starEach [a] X.env = (false, eval a X.env) :: starEach [] X.env := by rfl) : PE X (.Call (.Name "len" p) [.Call (.Name "set" p2) [a] [] q] [] pos) (tLenSet X.K ta) := by
  refine ⟨fun pins s σ H Q I h => Call_ (ld_blt I hg hm boot_len (PyProof.Rows.callWith_builtin1 (PyProof.Rows.args_cons (Call_ (ld_blt I hg2 hm2 boot_set ?_)) rfl) rfl rfl))⟩
  refine PyProof.Rows.callWith_type1 (PyProof.Rows.args_cons (thn (ha.run pins s σ H _ I h) fun v s1 ⟨x, H1, I1, r1, z1⟩ => PyProof.Rows.args_nil ?_) na) na rfl
  obtain ⟨l, xs, rfl, hs, hn, h6, q1⟩ := z1
  cases r1
  have sb : xs.length + 1 < scanBound := by unfold scanBound; omega
  have fin : ∀ s2, EndOf X.prog X.w xs s1 s2 → wpAny (model X.prog X.w) X.A (spliced (backTo pos (starEach [] X.env))) (fun vs s₂ => wpAny (model X.prog X.w) X.A (call (.builtin "len") (Value.ref s1.heap.objs.size :: vs)) (EP X pins σ Q) X.xe s₂) X.xe s2 := by
    rintro _ ⟨h', tk, rfl, hS, hk⟩
    refine PyProof.Rows.args_nil ?_
    obtain ⟨o, es, ep, t, ho, ex, hd, _, _, _, hf, hn⟩ := hS
    have I2 : Inv X pins σ H1 { s1 with heap := h', toks := tk } := I1.kept hk
    exact call_len_set ho ex hd hf (by rw [hn]; omega) ⟨.int xs.length, H1, I2.tok _, ⟨_, by rw [hn]⟩, q1⟩
  rcases hs with hs | hs
  · obtain ⟨its, r, pl, hz⟩ := I1.list hs
    exact call_lst (I1.ok.hd hc) pl.isList (by simpa using strsAre_of r) hn sb fin
  · obtain ⟨its, r, pl, hz⟩ := I1.tuple hs
    exact call_tup (I1.ok.hd hc) pl (by simpa using strsAre_of r) hn sb fin
end
end ST
set_option Elab.async false
set_option linter.all false
set_option maxRecDepth 100000
set_option maxHeartbeats 4000000
/-! sorted(xs), xs a list of data at any depth -/
namespace SRT
open PySem PySem.Spec PyProof.Rows L2
/-- p stands not behind q -/
def leD (p q : V × PyData) : Bool := !PySem.W.dataLt q.2 p.2
/-- the sorted list -/
def srt (xs : List V) (ds : List PyData) : List V := ((xs.zip ds).mergeSort leD).map Prod.fst
theorem len_of {K : PySem.W.Frag} {H : Hp} : ∀ {xs : List V} {ds : List PyData}, DpAll K H xs ds → xs.length = ds.length
  | _, _, .nil => rfl
  | _, _, .cons _ t => congrArg (· + 1) (len_of t)
theorem srt_perm {xs : List V} {ds : List PyData} (h : xs.length = ds.length) : (srt xs ds).Perm xs := by
  unfold srt
  refine ((List.mergeSort_perm _ _).map Prod.fst).trans ?_
  rw [List.map_fst_zip (by omega)]
theorem vals_each : ∀ {xs : List V} {us : List Value} {ds : List PyData}, Vals xs us → xs.length = ds.length → PySem.W.EachIs (fun v (b : V × PyData) => RelV b.1 v) us (xs.zip ds)
  | [], _, [], .nil, _ => .nil
  | x :: xs, _, d :: ds, .cons r rs, h => .cons r (vals_each rs (by simpa using h))
theorem each_vals : ∀ {us : List Value} {bs : List (V × PyData)}, PySem.W.EachIs (fun v (b : V × PyData) => RelV b.1 v) us bs → Vals (bs.map Prod.fst) us
  | _, _, .nil => .nil
  | _, _, .cons r rs => .cons r (each_vals rs)
def rSortedD (K : PySem.W.Frag) : List V → Hp → VK → Prop := fun vs H Q => ∃ (a : Addr) (xs : List V) (ds : List PyData), vs = [V.ref a] ∧ (SqL K H a xs ∨ SqT K H a xs) ∧ DpAll K H xs ds ∧ PySem.W.AllAlike ds ∧ PySem.W.Sortable ds ∧ (∀ d ∈ ds, d.depth ≤ 60) ∧
  ∀ p : Addr, H p = none → Q (.ref p) (upd H p (.lst (srt xs ds)))
/-! sorted of a tuple -/
section
variable {prog : Program} {w : World} {A : Around} {E : Value → Shared → Prop} {s : Shared} {κ : KeyKind}
theorem gather_tup {b : Addr} {us : List Value} {R : List Value → Shared → Prop} (ht : s.heap.IsTuple b us.toArray) (hz : us.length ≤ sizeLine)
    (h : R us { s with heap := (s.heap.push (seqObj "list" #[] 0)).update s.heap.objs.size (Obj.mapSeq (· ++ us.toArray)) }) : wpAny (model prog w) A (collect (.ref b)) R E s := by
  obtain ⟨ob, e1, e2, k, e3⟩ := id ht
  have e4 : (s.heap.push (seqObj "list" #[] 0)).get? b = some ob := Heap.get?_push_of_some _ e1
  have em : (s.heap.push (seqObj "list" #[] 0)).get? s.heap.objs.size = some (seqObj "list" #[] 0) := Heap.get?_push_size _ rfl
  unfold collect
  refine wpAny_bind (wpAny_runValue (codeAny_builtin entry_proto_collect' ?_))
  show wpAny _ _ (do again (.builtin "list.__iadd__" ⟨[← newList [], .ref b], []⟩)) _ _ s
  refine wpAny_bind (wpAny_newList (wpAny_pure ⟨Code.quiet_builtin _ (by decide +kernel), codeAny_builtin entry_list_iadd' ?_⟩))
  show wpAny _ _ (Builtin.List.listExtendWith (.ref s.heap.objs.size) (.ref b) (.ref s.heap.objs.size)) _ _ { s with heap := s.heap.push (seqObj "list" #[] 0) }
  unfold Builtin.List.listExtendWith
  refine wpAny_bind (wpAny_typeOf (T := "tuple") ⟨ob, e4, e2⟩ ?_)
  have et : (Value.type "tuple" == Value.type "tuple") = true := by rfl
  rw [if_pos (by rw [et]; simp)]
  refine wpAny_bind (listItems_at e4 e3 (wpAny_bind (listItems_at em rfl ?_)))
  rw [if_neg (by simp)]
  refine wpAny_bind (listUpdate_at em rfl ?_ (Nat.zero_le _) (by simp only [Array.size_append, List.size_toArray, List.length_nil]; omega))
  refine wpAny_pure ?_
  show wpAny (model prog w) A (load s.heap.objs.size >>= fun o => match o.data with | .seq xs _ => pure xs.toList | _ => unsupported "internal:collect") R E _
  refine wpAny_bind (wpAny_load (get?_update_seq em _) ?_)
  show wpAny _ _ (pure ((#[] : Array Value) ++ us.toArray).toList) R E _
  have e5 : ((#[] : Array Value) ++ us.toArray).toList = us := by simp
  rw [e5]
  exact wpAny_pure h
theorem sorted_tupV {b : Addr} {us : List Value} {R : Value → Shared → Prop} (ht : s.heap.IsTuple b us.toArray) (hz : us.length ≤ sizeLine)
    (S : PySem.W.SortsAt prog w A.in1.in1 { s with heap := PySem.W.sortingHeap (PySem.W.copyHeap s.heap us) (s.heap.objs.size + 1) us } κ us)
    (h : R (.ref (s.heap.objs.size + 1)) { s with heap := sortedAll s.heap us (PySem.W.sortVals κ false us us).toArray }) : wpAny (model prog w) A (call (.builtin "sorted") [.ref b]) R E s := by
  refine Calls.call_function_entry kind_sorted plain_sorted entry_sorted (args_sorted1 _) ?_
  unfold Builtin.«sorted»
  refine wpAny_bind (m := checkCount "sorted" 1 1 _) (wpAny_pure (wpAny_bind (gather_tup ht hz (wpAny_bind (wpAny_newList ?_ hz)))))
  have e : ((s.heap.push (seqObj "list" #[] 0)).update s.heap.objs.size (Obj.mapSeq (· ++ us.toArray))).objs.size = s.heap.objs.size + 1 := (Heap.size_update ..).trans (size_push' ..)
  show wpAny _ _ _ _ _ { s with heap := PySem.W.copyHeap s.heap us }
  rw [e]
  refine wpAny_bind (wpAny_holding (wpAny_call_entry slot_list_sort ⟨_, PySem.W.copyHeap_at s.heap us, rfl⟩ entry_list_sort ?_ (args_list_sort _)))
  exact PySem.W.list_sort_vals (s := { s with heap := PySem.W.copyHeap s.heap us }) (PySem.W.copyHeap_at s.heap us) S hz ⟨_, rfl, wpAny_pure ⟨_, rfl, h⟩⟩
end
section
variable {X : Cx} {pins : List (Addr × Obj)} {σ : L2.St} {H : Hp} {s : Shared}
theorem reads_each (I : Inv X pins σ H s) : ∀ {ds : List PyData} {vs : List V} {us : List Value}, DpAll X.K H vs ds → Vals vs us → PySem.W.EachIs (fun v d => ∃ as, Reads s.heap v d as) us ds
  | [], _, _, h, r => by
    cases h
    cases r
    exact .nil
  | d :: ds, _, _, h, r => by
    cases h with
    | cons h1 h2 =>
      cases r with
      | cons r1 r2 => exact .cons (Dp.reads I d _ _ h1 r1) (reads_each I h2 r2)
theorem cr_sortedD (hu : X.A.units + 64 < cLine) : CallR X (.builtin "sorted") (rSortedD X.K) := by
  intro pins s σ H vs us Q I r h
  obtain ⟨a, xs, ds, rfl, hs, hd, al, so, dp, q⟩ := h
  rw [Vals.ref1 r]
  have ln := len_of hd
  have main : ∀ its : List Value, Vals xs its → xs.length ≤ sizeLine → ∃ κ : KeyKind, PySem.W.SortsAt X.prog X.w X.A.in1.in1 { s with heap := PySem.W.sortingHeap (PySem.W.copyHeap s.heap its) (s.heap.objs.size + 1) its } κ its ∧
      EP X pins σ Q (.ref (s.heap.objs.size + 1)) { s with heap := sortedAll s.heap its (PySem.W.sortVals κ false its its).toArray } := fun its rv hz => by
    have e := reads_each I hd rv
    have e2 : PySem.W.EachIs (fun v d => ∃ as, Reads (PySem.W.sortingHeap (PySem.W.copyHeap s.heap its) (s.heap.objs.size + 1) its) v d as) its ds := e.mono fun v d ⟨as, h⟩ => ⟨as, Reads.keeps (fun b o z => PySem.W.sorting_copy_old z) h⟩
    have S := PySem.W.SortsAt.data (prog := X.prog) (w := X.w) (A := X.A.in1.in1) (s := { s with heap := PySem.W.sortingHeap (PySem.W.copyHeap s.heap its) (s.heap.objs.size + 1) its }) e2 al so (fun d hd => by have := dp d hd; show X.A.units + 1 + 1 + d.depth < cLine; omega)
    refine ⟨_, S, ?_⟩
    have ek : PySem.W.EachIs (fun v (b : V × PyData) => (PySem.W.dataKind (PySem.W.sortingHeap (PySem.W.copyHeap s.heap its) (s.heap.objs.size + 1) its) ds).keyOf v = some (PySem.W.keyToks b.2)) its (xs.zip ds) := by
      have f := PySem.W.each_keys al e2
      have mz : (xs.zip ds).map Prod.snd = ds := List.map_snd_zip (by omega)
      rw [← mz] at f
      have f' := PySem.W.each_of_map (fun b : V × PyData => b.2) f
      rw [mz] at f'
      exact f'
    have eo := PySem.W.sortVals_each (κ := PySem.W.dataKind (PySem.W.sortingHeap (PySem.W.copyHeap s.heap its) (s.heap.objs.size + 1) its) ds) (rev := false) (fun b : V × PyData => PySem.W.keyToks b.2) (vals_each rv ln) ek
    have vo := each_vals eo
    generalize PySem.W.sortVals _ false its its = out at vo ⊢
    obtain ⟨ep, he'⟩ := PyProof.Rows.sortedAll_at s.heap its out.toArray
    have hlen : (srt xs ds).length ≤ sizeLine := by rw [(srt_perm ln).length_eq]; exact hz
    exact ⟨.ref _, upd H (s.heap.objs.size + 1) (.lst (srt xs ds)), I.laid (t' := s.toks) (fun _ _ => PyProof.Rows.sortedAll_old) (Nat.le_succ _) ⟨hlen, out, ep, vo, he'⟩, rfl, q _ (I.hok.fresh (Nat.le_succ _))⟩
  rcases hs with hs | hs
  · obtain ⟨its, rv, hl, hz⟩ := I.list hs
    obtain ⟨κ, S, k⟩ := main its rv hz
    exact PySem.W.sorted_vals hl.isList S (by rw [← rv.length]; exact hz) k
  · obtain ⟨its, rv, hl, hz⟩ := I.tuple hs
    obtain ⟨κ, S, k⟩ := main its rv hz
    exact sorted_tupV hl (by rw [← rv.length]; exact hz) S k
/-- texts -/
def leS (x y : Str) : Prop := ¬ y.cps.toList < x.cps.toList
theorem dpS {H : Hp} : ∀ xs : List Str, DpAll X.K H (xs.map V.str) (xs.map PyData.str)
  | [] => .nil
  | x :: xs => .cons (.str x) (dpS xs)
theorem srtS (xs : List Str) : ∃ ys : List Str, srt (xs.map V.str) (xs.map PyData.str) = ys.map V.str ∧ ys.Perm xs ∧ ys.Pairwise leS := by
  have tot := PySem.W.sortLe_total (listOrd itemOrd) false (fun p : V × PyData => PySem.W.keyToks p.2)
  have pw := PySem.W.sort_pairwise tot ((xs.map V.str).zip (xs.map PyData.str))
  have pm := List.mergeSort_perm ((xs.map V.str).zip (xs.map PyData.str)) leD
  have mem : ∀ p ∈ ((xs.map V.str).zip (xs.map PyData.str)).mergeSort leD, ∃ x, p = (V.str x, PyData.str x) := fun p hp => by
    have := pm.mem_iff.mp hp
    rw [List.zip_map'] at this
    obtain ⟨x, _, e⟩ := List.mem_map.mp this
    exact ⟨x, e.symm⟩
  have pw' : (((xs.map V.str).zip (xs.map PyData.str)).mergeSort leD).Pairwise fun a b => leD a b = true := pw
  unfold srt
  generalize ((xs.map V.str).zip (xs.map PyData.str)).mergeSort leD = L at pm mem pw'
  have : ∃ ys : List Str, L = ys.map fun x => (V.str x, PyData.str x) := by
    clear pm pw'
    induction L with
    | nil => exact ⟨[], rfl⟩
    | cons p L ih =>
      obtain ⟨x, e⟩ := mem p List.mem_cons_self
      obtain ⟨ys, e2⟩ := ih fun q hq => mem q (List.mem_cons_of_mem _ hq)
      exact ⟨x :: ys, by rw [e, e2]; rfl⟩
  obtain ⟨ys, rfl⟩ := this
  refine ⟨ys, ?_, ?_, ?_⟩
  · rw [List.map_map]
    rfl
  · have p2 := pm.map fun p : V × PyData => match p.1 with | .str x => x | _ => ""
    rw [List.map_map, List.zip_map', List.map_map] at p2
    simpa [Function.comp_def] using p2
  · refine (List.pairwise_map.mp pw').imp fun {a b} h => ?_
    have h' : (!PySem.W.dataLt (.str b) (.str a)) = true := h
    rw [PySem.W.dataLt_str] at h'
    simpa [leS] using h'
/-- sorted of texts, a list or a tuple -/
def rSortedTx (K : PySem.W.Frag) : List V → Hp → VK → Prop := fun vs H Q => ∃ (a : Addr) (xs : List Str), vs = [V.ref a] ∧ (SqL K H a (xs.map V.str) ∨ SqT K H a (xs.map V.str)) ∧
  ∀ (ys : List Str) (p : Addr), ys.Perm xs → ys.Pairwise leS → H p = none → Q (.ref p) (upd H p (.lst (ys.map V.str)))
theorem cr_sortedTx (hu : X.A.units + 64 < cLine) : CallR X (.builtin "sorted") (rSortedTx X.K) := by
  intro pins s σ H vs us Q I r h
  obtain ⟨a, xs, rfl, hs, q⟩ := h
  obtain ⟨ys, e, pm, pw⟩ := srtS xs
  refine cr_sortedD hu pins s σ H _ us Q I r ⟨a, _, xs.map PyData.str, rfl, hs, dpS xs, fun d h1 d' h2 => ?_, .inr fun d h1 => ?_, fun d h1 => ?_, fun p fp => ?_⟩
  · obtain ⟨x, _, rfl⟩ := List.mem_map.mp h1
    obtain ⟨y, _, rfl⟩ := List.mem_map.mp h2
    rfl
  · obtain ⟨x, _, rfl⟩ := List.mem_map.mp h1
    refine ⟨fun z => ?_, fun l z => ?_⟩ <;> cases z
  · obtain ⟨x, _, rfl⟩ := List.mem_map.mp h1
    show 0 ≤ 60
    decide
  · rw [e]
    exact q ys p pm pw fp
end
end SRT
set_option linter.all false
set_option Elab.async false
/-! IO: names put in order by worths, one behind another. -/
namespace IO
open PySem
/-- x is ahead of y, as texts -/
def slt (x y : Str) : Prop := x.cps.toList < y.cps.toList
instance (x y : Str) : Decidable (slt x y) := inferInstanceAs (Decidable (x.cps.toList < y.cps.toList))
theorem slt_trans_not {x y z : Str} (h1 : ¬ slt y x) (h2 : ¬ slt z y) : ¬ slt z x := by
  have a : x.cps.toList ≤ y.cps.toList := h1
  have b : y.cps.toList ≤ z.cps.toList := h2
  exact List.le_trans a b
theorem slt_antisymm {x y : Str} (h1 : ¬ slt y x) (h2 : ¬ slt x y) : x = y := by
  have a : x.cps.toList ≤ y.cps.toList := h1
  have b : y.cps.toList ≤ x.cps.toList := h2
  exact TL.ext_tl (List.le_antisymm a b)
theorem rising : ∀ (l : List Str) (p : Str), PyProof.Rows.risingS p l = true → (p :: l).Pairwise fun a b => ¬ slt b a
  | [], p, _ => List.pairwise_singleton ..
  | x :: r, p, h => by
    have h' : (!PySem.Spec.ltCps x.cps.toList p.cps.toList && PyProof.Rows.risingS x r) = true := h
    rw [Bool.and_eq_true, PyProof.Rows.ltCps_eq] at h'
    have h1 : ¬ slt x p := by
      have := h'.1
      simpa [slt] using this
    have ih := rising r x h'.2
    refine List.pairwise_cons.mpr ⟨fun y hy => ?_, ih⟩
    rcases List.mem_cons.mp hy with e | hy
    · rw [e]; exact h1
    · exact slt_trans_not h1 ((List.pairwise_cons.mp ih).1 y hy)
theorem sorted_pw {l : List Str} (h : PyProof.Rows.sortedS l = true) : l.Pairwise fun a b => ¬ slt b a := by
  cases l with
  | nil => exact List.Pairwise.nil
  | cons x r => exact rising r x h
/-- two lists in order, of the same texts, are one -/
theorem sorted_same {l m : List Str} (h1 : l.Pairwise fun a b => ¬ slt b a) (h2 : m.Pairwise fun a b => ¬ slt b a) (p : l.Perm m) : l = m :=
  List.Perm.eq_of_pairwise (le := fun a b => ¬ slt b a) (fun a b _ _ x y => slt_antisymm x y) h1 h2 p
/-- by worths, alike ones by names -/
def le (ρ : Str → Rat) (x y : Str) : Prop := ρ x < ρ y ∨ (ρ x = ρ y ∧ ¬ slt y x)
theorem le_rat {ρ : Str → Rat} {x y : Str} (h : le ρ x y) : ρ x ≤ ρ y := by
  rcases h with h | h
  · exact Rat.le_of_lt h
  · rw [h.1]; exact Rat.le_refl
theorem put_in {ρ : Str → Rat} {zs : List Str} {x : Str} {j : Nat} (hz : zs.Pairwise (le ρ)) (hx : ∀ z ∈ zs, ¬ slt x z) (hj : j ≤ zs.length) (hi : ∀ z ∈ zs.drop j, ρ x < ρ z) (lo : ∀ z ∈ zs.take j, ρ z ≤ ρ x) :
    (zs.take j ++ [x] ++ zs.drop j).Pairwise (le ρ) := by
  have h0 := hz
  rw [← List.take_append_drop j zs] at h0
  obtain ⟨h1, h2, h3⟩ := List.pairwise_append.mp h0
  rw [List.append_assoc]
  refine List.pairwise_append.mpr ⟨h1, ?_, fun a ha b hb => ?_⟩
  · exact List.pairwise_cons.mpr ⟨fun b hb => .inl (hi b hb), h2⟩
  · rcases List.mem_cons.mp hb with e | hb
    · subst e
      rcases Rat.le_iff_lt_or_eq.mp (lo a ha) with h | h
      · exact .inl h
      · exact .inr ⟨h, hx a (List.mem_of_mem_take ha)⟩
    · exact h3 a ha b hb
theorem put_perm {zs : List Str} {x : Str} (j : Nat) : (zs.take j ++ [x] ++ zs.drop j).Perm (x :: zs) := by
  rw [List.append_assoc]
  have h : (zs.take j ++ ([x] ++ zs.drop j)).Perm (x :: (zs.take j ++ zs.drop j)) := List.perm_middle
  rw [List.take_append_drop] at h
  exact h
end IO
set_option Elab.async false
set_option linter.all false
set_option maxRecDepth 100000
set_option maxHeartbeats 4000000
/-! OW: ==, !=, str and repr of instances of an own class by its own __eq__, __str__, __repr__. -/
namespace OW
open PySem PySem.Spec PyProof.Rows L2
/-- what is known of a special def of the class: where it stands, that it keeps its promise -/
structure Spc (P : Program) (w : World) (K : PySem.W.Frag) (mg : Str → Option Value) (base : Heap) (k : Nat) (C : Addr) (m : Str) (sp : Sp) : Prop where
  ex : ∃ (f : Addr) (fd : FuncData) (ps : List Str), PySem.W.findIn K (.ref C) m = some (some (.ref f)) ∧ PySem.W.isFn K (.ref f) = true ∧ FnOk P w K mg base CX0 k f fd ps sp ∧ Binds K fd ps []
section
variable {X : Cx} {pins : List (Addr × Obj)} {σ : L2.St} {H : Hp} {s : Shared} {Q : VK} {k : Nat} {C a b : Addr} {sp : Sp}
/-- a def called at any around with room -/
theorem run_at {f : Addr} {fd : FuncData} {ps : List Str} {A : Around} {us : List Value} {vs : List V} {E' : Value → Shared → Prop} (F : FnOk X.prog X.w X.K X.mg X.base CX0 k f fd ps sp) (hb : Binds X.K fd ps []) (hr : Room k A) (I : Inv X pins σ H s)
    (he : Env0 X.prog X.w X.K X.mg X.base A X.stack s H) (r : Vals vs us) (h : sp vs H Q E0) : wpAny (model X.prog X.w) A (call (.ref f) us) (EP X pins σ Q) E' s := by
  have hl : us.length = ps.length := by rw [← r.length]; exact F.len _ _ _ _ h
  have b := hb s us I.kIn (by rw [List.append_nil]; exact hl)
  rw [List.append_nil] at b
  refine wpAny_call (codeAny_mono (F.run A X.stack s H ⟨us, []⟩ us vs Q E0 hr he b r h) fun r s' hq => ?_)
  cases r with
  | error e => exact False.elim hq
  | ok fl =>
    cases fl with
    | ret u => exact I.after hq
    | next => exact False.elim hq
    | brk => exact False.elim hq
    | cont => exact False.elim hq
theorem same_first : PySem.W.notFirst X.K C (.ref C) = true := by
  unfold PySem.W.notFirst
  rw [beq_self_eq_true, Bool.true_or]
/-- x == y, both of the class -/
def rEqO (C : Addr) (sp : Sp) : R2 := fun x y H Q => ∃ a dx fs b dy gs, x = .ref a ∧ y = .ref b ∧ H a = some (.ins C dx fs) ∧ H b = some (.ins C dy gs) ∧ sp [x, y] H (fun v H' => ∃ z, v = .bl z ∧ Q (.bl z) H') E0
def rNeO (C : Addr) (sp : Sp) : R2 := fun x y H Q => ∃ a dx fs b dy gs, x = .ref a ∧ y = .ref b ∧ H a = some (.ins C dx fs) ∧ H b = some (.ins C dy gs) ∧ sp [x, y] H (fun v H' => ∃ z, v = .bl z ∧ Q (.bl (!z)) H') E0
theorem op_eqO (S : Spc X.prog X.w X.K X.mg X.base k C "__eq__" sp) (hr : Room k X.A) : OpR X (compareOp .Eq) (rEqO C sp) := by
  obtain ⟨f, fd, ps, h1, h2, F, hb⟩ := S.ex
  intro pins s σ H x y v u Q I rx ry h
  obtain ⟨a, dx, fs, b, dy, gs, rfl, rfl, ea, eb, q⟩ := h
  cases (show v = Value.ref a from rx)
  cases (show u = Value.ref b from ry)
  obtain ⟨mA, O, _⟩ := ins_get I.hok ea
  obtain ⟨od, J, _⟩ := O.look
  obtain ⟨mB, O', _⟩ := ins_get I.hok eb
  obtain ⟨od', J', _⟩ := O'.look
  obtain ⟨m, hF⟩ := I.fr
  show wpAny _ _ (richCompare .Eq (.ref a) (.ref b)) _ _ _
  refine PySem.W.cmp_K (op := .Eq) (tb := .ref C) hr.units0 hF I.ok.mod.kin J J'.type same_first h1 h2 ?_
  refine wpAny_mono (run_at (E' := X.xe) (vs := [.ref a, .ref b]) F hb hr I I.env0 (.cons rfl (.cons rfl .nil)) q) (fun w s' z => ?_) fun _ _ x => x
  obtain ⟨z', H', I', rz, z, rfl, qz⟩ := z
  cases (show w = Value.bool z from rz)
  exact ⟨.bl z, H', I', rfl, qz⟩
open Builtin in
theorem op_neO (S : Spc X.prog X.w X.K X.mg X.base (k + 1) C "__eq__" sp) (hn : PySem.W.findIn X.K (.ref C) "__ne__" = some (some (.builtin "object.__ne__"))) (hm : PySem.W.mroIn X.K C (.type "object") = some true) (hr : Room (k + 2) X.A) : OpR X (compareOp .NotEq) (rNeO C sp) := by
  obtain ⟨f, fd, ps, h1, h2, F, hb⟩ := S.ex
  intro pins s σ H x y v u Q I rx ry h
  obtain ⟨a, dx, fs, b, dy, gs, rfl, rfl, ea, eb, q⟩ := h
  cases (show v = Value.ref a from rx)
  cases (show u = Value.ref b from ry)
  obtain ⟨mA, O, _⟩ := ins_get I.hok ea
  obtain ⟨od, J, _⟩ := O.look
  obtain ⟨mB, O', _⟩ := ins_get I.hok eb
  obtain ⟨od', J', _⟩ := O'.look
  have KI := I.kIn
  have callEq : wpAny (model X.prog X.w) X.A.in1 (call (.ref f) [.ref a, .ref b]) (fun v s' => ∃ z, v = .bool z ∧ EP X pins σ Q (.bool (!z)) s') X.xe s := by
    refine wpAny_mono (run_at (E' := X.xe) (vs := [.ref a, .ref b]) F hb hr.in1 I I.env0.in1 (.cons rfl (.cons rfl .nil)) q) (fun w s' z => ?_) fun _ _ x => x
    obtain ⟨z', H', I', rz, z, rfl, qz⟩ := z
    exact ⟨z, rz, .bl (!z), H', I', rfl, qz⟩
  have slot := PySem.F.cmp_object.ne
  have sub : PySem.W.Looks (model X.prog X.w) s.heap (isInstance (.ref a) (.type "object")) true := J.type.andThen (PySem.W.looks_mroIn KI hm)
  have uu : X.A.in1.units < cLine := hr.in1.units0
  have body : wpAny (model X.prog X.w) X.A.in1 (Builtin.«object.__ne__» ⟨[.ref a, .ref b], []⟩) (fun fin s' => match fin with | .done f => (match f with | .ret v => EP X pins σ Q v s' ∧ ∃ z, v = .bool z | _ => False) | .again _ => False) X.xe s := by
    unfold Builtin.«object.__ne__»
    repeat (first
      | with_reducible refine wpAny_cRoomFor uu ?_
      | (refine wpAny_bind (m := callSpecialIfBound? (.ref a) (Str.ofString "__eq__") [.ref b]) (PySem.W.ifBound_K KI J h1 h2 (wpAny_mono callEq (fun r s' hr => by
          obtain ⟨z, rfl, hq⟩ := hr
          repeat (first | exact ⟨hq, _, rfl⟩ | exact wpAny_pure ⟨hq, _, rfl⟩ | (refine wpAny_bind (m := truthy (.bool _)) (wpAny_truthy_bool ?_)) | wp_step)) fun _ _ e => e)))
      | wp_step)
  have callNe : wpAny (model X.prog X.w) X.A (call (.builtin "object.__ne__") [.ref a, .ref b]) (fun v s' => EP X pins σ Q v s' ∧ ∃ z, v = .bool z) X.xe s := by
    refine wpAny_call (codeAny_call_builtin slot.plain PySem.F.cmpEntry_ne (PySem.W.check_slot PySem.F.cmpKind_ne PySem.F.cmpSplit_ne sub (PySem.F.cmpArgs_ne _ _) ?_))
    refine wpAny_mono body (fun fin s' z => ?_) fun _ _ x => x
    cases fin with
    | done fl =>
      cases fl with
      | ret v => exact z
      | next => exact z.elim
      | brk => exact z.elim
      | cont => exact z.elim
    | again c => exact z.elim
  show wpAny _ _ (richCompare .NotEq (.ref a) (.ref b)) _ _ _
  unfold richCompare
  simp only [oneThing_ref]
  refine wpAny_holding (wpAny_bind (wpAny_cRoomFor hr.units0 ?_))
  rw [cmpInfo_NotEq]
  dsimp only
  refine wpAny_bind (J.type.here (wpAny_bind (J'.type.here ?_)))
  rw [show (Value.ref C != Value.ref C) = false from by simp]
  simp only [Bool.false_eq_true, if_false]
  refine wpAny_bind (wpAny_pure ?_)
  simp only [Bool.false_eq_true, if_false, tryCompare]
  have fin : wpAny (model X.prog X.w) X.A (call (.builtin "object.__ne__") ([.ref a] ++ [.ref b]) >>= fun v => pure (some v)) (fun r s' => ∃ v, r = some v ∧ EP X pins σ Q v s' ∧ ∃ z, v = .bool z) X.xe s :=
    wpAny_bind (wpAny_mono callNe (fun v s' h' => wpAny_pure ⟨v, rfl, h'⟩) fun _ _ h' => h')
  have bound : wpAny (model X.prog X.w) X.A (callSpecialIfBound? (.ref a) "__ne__" [.ref b]) (fun r s' => ∃ v, r = some v ∧ EP X pins σ Q v s' ∧ ∃ z, v = .bool z) X.xe s := by
    simp only [callSpecialIfBound?, bindSpecialIfBound?]
    refine wpAny_holding (wpAny_bind (wpAny_bind (wpAny_bind (J.type.here ((PySem.W.looks_findIn KI hn).here ?_)))))
    simp only [slot.bind]
    refine wpAny_bind (wpAny_askSetting (wpAny_ite ?_))
    split
    · exact wpAny_bind (wpAny_pure (wpAny_pure fin))
    · exact wpAny_tryCatch (wpAny_bind (wpAny_pure (wpAny_pure fin)))
  refine wpAny_bind (wpAny_bind (wpAny_mono bound (fun r s' z => ?_) fun _ _ h => h))
  obtain ⟨v, rfl, hq, z, rfl⟩ := z
  first | exact wpAny_pure (wpAny_pure hq) | exact wpAny_pure hq
/-- str(x), repr(x) -/
def rStrO (C : Addr) (sp : Sp) : List V → Hp → VK → Prop := fun xs H Q => ∃ a dx fs, xs = [.ref a] ∧ H a = some (.ins C dx fs) ∧ sp [.ref a] H (fun v H' => ∃ z, v = .str z ∧ Q (.str z) H') E0
theorem call_strO (S : Spc X.prog X.w X.K X.mg X.base k C "__str__" sp) (hr : Room (k + 2) X.A) : CallR X (.type "str") (rStrO C sp) := by
  obtain ⟨f, fd, ps, h1, h2, F, hb⟩ := S.ex
  intro pins s σ H xs us Q I r h
  obtain ⟨a, dx, fs, rfl, ea, q⟩ := h
  obtain ⟨u, rfl, ru⟩ := vals1 r
  cases (show u = Value.ref a from ru)
  obtain ⟨mA, O, _⟩ := ins_get I.hok ea
  obtain ⟨od, J, _⟩ := O.look
  refine PySem.W.kso_call hr.in1.in1.units0 I.kIn J h1 h2 ?_
  refine wpAny_mono (run_at (E' := X.xe) (vs := [.ref a]) F hb hr.in1.in1 I I.env0.in1.in1 (.cons rfl .nil) q) (fun w s' z => ?_) fun _ _ x => x
  obtain ⟨z', H', I', rz, z, rfl, qz⟩ := z
  obtain ⟨t, rfl⟩ := rz
  exact ⟨.str z, H', I', ⟨t, rfl⟩, qz⟩
theorem call_reprO (S : Spc X.prog X.w X.K X.mg X.base k C "__repr__" sp) (hr : Room (k + 1) X.A) : CallR X (.builtin "repr") (rStrO C sp) := by
  obtain ⟨f, fd, ps, h1, h2, F, hb⟩ := S.ex
  intro pins s σ H xs us Q I r h
  obtain ⟨a, dx, fs, rfl, ea, q⟩ := h
  obtain ⟨u, rfl, ru⟩ := vals1 r
  cases (show u = Value.ref a from ru)
  obtain ⟨mA, O, _⟩ := ins_get I.hok ea
  obtain ⟨od, J, _⟩ := O.look
  obtain ⟨m, hF⟩ := I.fr
  refine PySem.W.repr_K hr.in1.units0 hF I.ok.mod.kin J h1 h2 ?_
  refine wpAny_mono (run_at (E' := X.xe) (vs := [.ref a]) F hb hr.in1 I I.env0.in1 (.cons rfl .nil) q) (fun w s' z => ?_) fun _ _ x => x
  obtain ⟨z', H', I', rz, z, rfl, qz⟩ := z
  obtain ⟨t, rfl⟩ := rz
  exact ⟨.str z, H', I', ⟨t, rfl⟩, qz⟩
end
end OW
set_option Elab.async false
set_option linter.all false
set_option maxRecDepth 100000
set_option maxHeartbeats 4000000
/-! data: texts, pairs -/
namespace DQ
open PySem PySem.Spec PyProof.Rows L2
def pD (q : Int × Int) : PyData := .tuple [.int q.1, .int q.2]
theorem all_strs : ∀ xs : List Str, (∀ x ∈ xs, PyData.strOk x = true) → PyData.canLayAll0 (xs.map PyData.str) = true ∧ PyData.depthAll (xs.map PyData.str) = 0
  | [], _ => ⟨rfl, rfl⟩
  | x :: r, h => by
    obtain ⟨h1, h2⟩ := all_strs r fun y hy => h y (List.mem_cons_of_mem _ hy)
    have h3 := h x List.mem_cons_self
    exact ⟨by simp [PyData.canLayAll0, PyData.canLay0, h1, h3], by simp [PyData.depthAll, PyData.depth, h2]⟩
theorem sh_strs {xs : List Str} (h : ∀ x ∈ xs, PyData.strOk x = true) : SeqAt.shaped (.list (xs.map PyData.str)) = true := by
  obtain ⟨h1, h2⟩ := all_strs xs h
  simp [SeqAt.shaped, PyData.canLay0, PyData.depth, h1, h2]
theorem all_pairs : ∀ qs : List (Int × Int), PyData.canLayAll0 (qs.map pD) = true ∧ PyData.depthAll (qs.map pD) ≤ 2
  | [] => ⟨rfl, by decide⟩
  | _ :: r => by
    obtain ⟨h1, h2⟩ := all_pairs r
    refine ⟨by simp [PyData.canLayAll0, PyData.canLay0, pD, h1], ?_⟩
    show max (PyData.depth (pD _)) (PyData.depthAll (r.map pD)) ≤ 2
    have h3 : ∀ q, PyData.depth (pD q) ≤ 2 := fun q => by show 1 ≤ 2; decide
    exact Nat.max_le.mpr ⟨h3 _, h2⟩
theorem sh_pair (q : Int × Int) : SeqAt.shaped (pD q) = true := rfl
theorem sh_pairs (qs : List (Int × Int)) : SeqAt.shaped (.list (qs.map pD)) = true := by
  obtain ⟨h1, h2⟩ := all_pairs qs
  have h3 : PyData.depthAll (qs.map pD) + 1 ≤ 64 := by omega
  simp [SeqAt.shaped, PyData.canLay0, PyData.depth, h1]
  omega
theorem eq_strs (xs : List Str) : PyData.eqv (.list (xs.map PyData.str)) (.list (xs.map PyData.str)) = true := by
  refine PySem.W.eqv_refl_alike _ ?_
  induction xs with
  | nil => rfl
  | cons x xs ih => simpa [PySem.W.alike, PySem.W.alikeAll] using ih
theorem eq_pair (q : Int × Int) : PyData.eqv (pD q) (pD q) = true := PySem.W.eqv_refl_alike _ rfl
theorem eq_pairs (qs : List (Int × Int)) : PyData.eqv (.list (qs.map pD)) (.list (qs.map pD)) = true := by
  refine PySem.W.eqv_refl_alike _ ?_
  induction qs with
  | nil => rfl
  | cons x xs ih => simpa [PySem.W.alike, PySem.W.alikeAll, pD] using ih
theorem dp_strs {K : PySem.W.Frag} {H : Hp} : ∀ xs : List Str, DpAll K H (xs.map V.str) (xs.map PyData.str)
  | [] => .nil
  | x :: xs => .cons (.str x) (dp_strs xs)
theorem dp_pair {K : PySem.W.Frag} {H : Hp} {t : Addr} {q : Int × Int} (h : H t = some (.tup [.int q.1, .int q.2])) : Dp K H (.ref t) (pD q) := .tup (SqT.of h) (.cons (.int _) (.cons (.int _) .nil))
theorem dp_pairs {K : PySem.W.Frag} {H : Hp} : ∀ L : List (Addr × (Int × Int)), (∀ p ∈ L, H p.1 = some (.tup [.int p.2.1, .int p.2.2])) → DpAll K H (L.map fun p => V.ref p.1) ((L.map (·.2)).map pD)
  | [], _ => .nil
  | p :: L, h => .cons (dp_pair (h p List.mem_cons_self)) (dp_pairs L fun q hq => h q (List.mem_cons_of_mem _ hq))
/-- a dict by names -/
theorem val_map (f : Str → V) {y : Str} : ∀ {l : List Str}, y ∈ l → valV (l.map fun x => ((Sum.inr x : Key), f x)) (Sum.inr y) = some (f y)
  | x :: l, h => by
    rw [List.map_cons]
    by_cases e : x = y
    · rw [valV_pos (by rw [e])]
      rw [e]
    · rw [valV_neg (fun z => e (Sum.inr.inj z))]
      exact val_map f ((List.mem_cons.mp h).resolve_left fun z => e z.symm)
theorem val_none (f : Str → V) {y : Str} : ∀ {l : List Str}, y ∉ l → valV (l.map fun x => ((Sum.inr x : Key), f x)) (Sum.inr y) = none
  | [], _ => rfl
  | x :: l, h => by
    rw [List.map_cons, valV_neg (fun z => h (by rw [Sum.inr.inj z]; exact List.mem_cons_self))]
    exact val_none f fun z => h (List.mem_cons_of_mem _ z)
theorem put_new (f : Str → V) {y : Str} {l : List Str} (h : y ∉ l) : putK (l.map fun x => ((Sum.inr x : Key), f x)) (Sum.inr y) (f y) = (l ++ [y]).map fun x => ((Sum.inr x : Key), f x) := by
  rw [putK_new _ (val_none f h), List.map_append]
  rfl
theorem put_old (f : Str → V) {y : Str} {v : V} {l : List Str} (h : y ∈ l) : putK (l.map fun x => ((Sum.inr x : Key), f x)) (Sum.inr y) v = l.map fun x => ((Sum.inr x : Key), if x = y then v else f x) := by
  have a : ((l.map fun x => ((Sum.inr x : Key), f x)).any fun kv => decide (kv.1 = Sum.inr y)) = true := by
    rw [List.any_eq_true]
    exact ⟨(Sum.inr y, f y), List.mem_map.mpr ⟨y, h, rfl⟩, by simp⟩
  unfold putK
  rw [if_pos a, List.map_map]
  refine List.map_congr_left fun x _ => ?_
  show (if (Sum.inr x : Key) = Sum.inr y then ((Sum.inr x : Key), v) else (Sum.inr x, f x)) = _
  by_cases e : x = y
  · rw [if_pos (by rw [e]), if_pos e]
  · rw [if_neg (fun z => e (Sum.inr.inj z)), if_neg e]
theorem merge_map (f : Str → V) : ∀ {l m : List Str}, (m ++ l).Nodup → mergeK (m.map fun x => ((Sum.inr x : Key), f x)) (l.map fun x => ((Sum.inr x : Key), f x)) = (m ++ l).map fun x => ((Sum.inr x : Key), f x)
  | [], m, _ => by rw [List.append_nil]; rfl
  | y :: l, m, h => by
    have h' : (m ++ [y] ++ l).Nodup := by rw [List.append_assoc]; exact h
    have ny : y ∉ m := fun z => by
      have := (List.nodup_append.mp h).2.2 y z y List.mem_cons_self
      exact this rfl
    show mergeK (putK _ (Sum.inr y) (f y)) (l.map fun x => ((Sum.inr x : Key), f x)) = _
    rw [put_new f ny, merge_map f h', List.append_assoc]
    rfl
end DQ
set_option Elab.async false
set_option linter.all false
set_option maxRecDepth 100000
set_option maxHeartbeats 4000000
/-! C3: a op b op c op d, asked from the left. -/
namespace C3
open PySem PySem.Spec PyProof.Rows L2
section
variable {X : Cx} {a b c d : Expr} {ta tb tc td : TE} {pos : Pos}
def tChain3 (r r' r'' : R2) (ta tb tc td : TE) : TE := fun σ H Q => ta σ H fun x H1 => tb σ H1 fun y H2 => r x y H2 fun z H3 => ∃ k, z = .bl k ∧
  (if k = true then tc σ H3 fun w' H4 => r' y w' H4 fun z2 H5 => ∃ k2, z2 = .bl k2 ∧ (if k2 = true then td σ H5 fun w2 H6 => r'' w' w2 H6 Q else Q (.bl false) H5) else Q (.bl false) H3)
theorem pe_chain3 {op op' op'' : CmpOp} {r r' r'' : R2} (ho : OpR X (compareOp op) r) (ho' : OpR X (compareOp op') r') (ho'' : OpR X (compareOp op'') r'') (ha : PE X a ta) (hb : PE X b tb) (hc : PE X c tc) (hd : PE X d td)
    (hm : lastMarks [op, op', op''] [b, c, d] = false := by with_unfolding_all rfl) : PE X (.Compare a [op, op', op''] [b, c, d] pos) (tChain3 r r' r'' ta tb tc td) := by
  refine ⟨fun pins s σ H Q I h => ?_⟩
  refine Compare_chain (thn (ha.run pins s σ H _ I h) fun v s1 ⟨x, H1, I1, r1, q1⟩ => chain_link (thn (hb.run pins s1 σ H1 _ I1 q1) fun u s2 ⟨y, H2, I2, r2, q2⟩ =>
    thn (ho pins s2 σ H2 x y v u _ I2 r1 r2 q2) fun e s3 ⟨z, H3, I3, r3, k, ez, q3⟩ => ?_)) hm
  subst ez
  cases r3
  refine wpAny_truthy_bool ?_
  cases k with
  | false => exact ite_ff ⟨.bl false, H3, I3, rfl, q3⟩
  | true =>
    refine ite_tt (chain_link (thn (hc.run pins s3 σ H3 _ I3 q3) fun w' s4 ⟨z', H4, I4, r4, q4⟩ => thn (ho' pins s4 σ H4 y z' u w' _ I4 r2 r4 q4) fun e s5 ⟨z2, H5, I5, r5, k2, ez, q5⟩ => ?_))
    subst ez
    cases r5
    refine wpAny_truthy_bool ?_
    cases k2 with
    | false => exact ite_ff ⟨.bl false, H5, I5, rfl, q5⟩
    | true => exact ite_tt (chain_last (thn (hd.run pins s5 σ H5 _ I5 q5) fun w2 s6 ⟨z3, H6, I6, r6, q6⟩ => ho'' pins s6 σ H6 z' z3 w' w2 Q I6 r4 r6 q6))
end
end C3
set_option Elab.async false
set_option linter.all false
set_option maxRecDepth 100000
set_option maxHeartbeats 4000000
/-! SDC: a dict comprehension assigned to a plain local on one line; a dict comprehension over a list. -/
namespace SDC
open PySem PySem.Spec PyProof.Rows L2
section
variable {X : Cx}
theorem ps_setDc {i : Nat} {y : Str} {py : Pos} {kx vx tg iter : Expr} {ifs : List Expr} {scope : Scope} {own : List (Str × Nat)} {pos spos : Pos} {wi : TI} {g : TG} {tt : TT} {tk tv : TE} (hc : X.calm = true) (hN : X.N.Nodup) (hy : X.N[i]? = some y) (hyl : X.env.scope.names.lookup y = some .local)
    (hsw : swapsWith (.DictComp kx vx [⟨tg, iter, ifs, 0⟩] scope pos) (some (.Name y py)) spos.line X.env = pure true) (hi : PI X tg iter wi) (ok : BlkOk X.N X.env.scope scope own)
    (hg : ∀ (s : Shared) (H : Hp) (C : Addr) (cl : List (Str × Addr)) (fp : List Addr), PG (X.blk s H scope (compEnvC scope cl C X.env) fp) tg g) (ht : ∀ (s : Shared) (H : Hp) (C : Addr) (cl : List (Str × Addr)) (fp : List Addr), PTs (X.blk s H scope (compEnvC scope cl C X.env) fp) ifs tt)
    (hk : ∀ (s : Shared) (H : Hp) (C : Addr) (cl : List (Str × Addr)) (fp : List Addr), PE (X.blk s H scope (compEnvC scope cl C X.env) fp) kx tk)
    (he : ∀ (s : Shared) (H : Hp) (C : Addr) (cl : List (Str × Addr)) (fp : List Addr), PE (X.blk s H scope (compEnvC scope cl C X.env) fp) vx tv) (hs : ∀ x, foldedSetIterable iter X.env x = pure x := by intro _; rfl) :
    PS X (.Assign [.Name y py] (.DictComp kx vx [⟨tg, iter, ifs, 0⟩] scope pos) spos) (tAsg (tDc wi g tt tk tv (own.map (·.2))) (gName i)) := by
  refine ⟨fun pins s σ H D I h => ?_⟩
  rw [exec_Assign_Name_used _ _ _ _ hsw]
  refine wpAny_bind (wpAny_standAt (wpAny_bind ?_))
  show wpAny _ X.A (do let _ ← comprehension (.DictComp kx vx [⟨tg, iter, ifs, 0⟩] scope pos) scope X.env (firstIterPos [⟨tg, iter, ifs, 0⟩] pos) newDict false (eval iter X.env) (some (assign (.Name y py) X.env))) _ _ s
  have h : tDc wi g tt tk tv (own.map (·.2)) σ H (fun x H1 => gName i x σ H1 D.nx) := h
  refine wpAny_bind (thn (dc_core (Qf := fun _ s' => SP X pins D .next s') hc hN I hi ok hg ht hk he hs h fun L C s' m H' I' q hn f => ?_) fun _ s' hq => wpAny_pure (wpAny_pure hq))
  show wpAny _ _ (assign (.Name y py) X.env (.ref L)) _ _ _
  refine wpAny_assign_Name (store_ok2 (v := V.ref L) I' hN hy (.inl hyl) rfl (fun s2 I2 ⟨a, sb, ha⟩ => ?_) (.inr hyl))
  obtain ⟨f0, f1, f2, f3, f4, f5⟩ := f
  have haC : C ≠ a := by
    rcases ha with z | z
    · rw [z]; exact f1
    · exact fun e => f4 y a z e.symm
  refine ⟨m, hn.sameBut sb haC, fun h3 sb3 => ?_⟩
  exact ⟨_, H', I2.turned (t' := s2.toks) (fun b o hb e => (sb3.2 b hb).trans e) f0 f1 f3 f4 f5, q⟩
theorem sw_true {kx vx : Expr} {gs : List Comprehension} {scope : Scope} {pos py : Pos} {y : Str} {l : Nat} {env : Env} (hk : env.scope.kind = .function) (hy : env.scope.names.lookup y = some .local) (hl : (py.line == pos.line) = true)
    (ha : (scope.names.any fun (n, k) => n == y && (k == .local || k == .cell)) = false) : swapsWith (.DictComp kx vx gs scope pos) (some (.Name y py)) l env = pure true := by
  have ky : env.kindOf y = some .local := hy
  have hb : env.blockKind = .function := by unfold Env.blockKind; rw [hk]; rfl
  unfold swapsWith
  simp only [hb, ky, ha, Expr.pos, hl]
  rfl
end
theorem dc_list {K : PySem.W.Frag} {a : Addr} {xs : List V} {g : TG} {tt : TT} {tk tv : TE} {vs : List Nat} {σ : L2.St} {H1 : Hp} {D : Addr} {Qd : Hp → Prop} (Pv : Nat → Hp → Prop) (h0 : Pv 0 (upd H1 D (.dK []))) (hl : ∀ i H, i ≤ xs.length → Pv i H → SqL K H a xs)
    (hs : ∀ i x H, xs[i]? = some x → Pv i H → g x (wipe σ vs) H fun σ2 H2 => wipe σ2 vs = wipe σ vs ∧ tt σ2 H2 fun b H3 =>
      if b = true then tk σ2 H3 fun y H4 => tv σ2 H4 fun z H5 => ∃ kvs k, y = kV k ∧ H5 D = some (.dK kvs) ∧ kvs.length < sizeLine ∧ Pv (i + 1) (upd H5 D (.dK (putK kvs k z))) else Pv (i + 1) H3) (hd : ∀ H, Pv xs.length H → Qd H) :
    ∃ W : Nat → Nat → Hp → Prop, (∃ m, W 0 m (upd H1 D (.dK []))) ∧ ∀ i m H, W i m H →
      ((Itl K a).stop i H ∧ Qd H) ∨ ((Itl K a).go i H ∧ ∃ Nx : Hp → Prop, (∀ H', Nx H' → ∃ m', m' < m ∧ W (i + 1) m' H') ∧ ∀ x H', (Itl K a).yld i H x H' → g x (wipe σ vs) H' fun σ2 H2 => wipe σ2 vs = wipe σ vs ∧ tt σ2 H2 fun b H3 =>
        if b = true then tk σ2 H3 fun y H4 => tv σ2 H4 fun z H5 => ∃ kvs k, y = kV k ∧ H5 D = some (.dK kvs) ∧ kvs.length < sizeLine ∧ Nx (upd H5 D (.dK (putK kvs k z))) else Nx H3) := by
  refine ⟨fun i m H => m = xs.length - i ∧ i ≤ xs.length ∧ Pv i H, ⟨xs.length, by simp, Nat.zero_le _, h0⟩, ?_⟩
  rintro i m H ⟨rfl, hi, p⟩
  have q := hl i H hi p
  by_cases hlt : i < xs.length
  · refine .inr ⟨⟨xs, xs[i], q, by simp [hlt]⟩, Pv (i + 1), fun H' p' => ⟨xs.length - (i + 1), by omega, rfl, hlt, p'⟩, fun x H' y => ?_⟩
    obtain ⟨e, y⟩ := y
    subst e
    exact hs i x _ (y xs q) p
  · have e : i = xs.length := by omega
    subst e
    exact .inl ⟨⟨xs, q, Nat.le_refl _⟩, hd H p⟩
/-- a row that is put anew comes from one of the row -/
theorem perm_inv {α β : Type} {f : α → β} : ∀ {l' z : List β}, l'.Perm z → ∀ {l : List α}, l.map f = z → ∃ m : List α, m.Perm l ∧ l' = m.map f := by
  intro l' z h
  induction h with
  | nil =>
    intro l e
    cases l with
    | nil => exact ⟨[], .nil, rfl⟩
    | cons _ _ => cases e
  | cons x h ih =>
    intro l e
    cases l with
    | nil => cases e
    | cons a as =>
      simp only [List.map_cons, List.cons.injEq] at e
      obtain ⟨m, p, rfl⟩ := ih e.2
      exact ⟨a :: m, p.cons a, by rw [List.map_cons, e.1]⟩
  | swap x y t =>
    intro l e
    match l, e with
    | a :: b :: t', e =>
      simp only [List.map_cons, List.cons.injEq] at e
      obtain ⟨e1, e2, e3⟩ := e
      exact ⟨b :: a :: t', List.Perm.swap _ _ _, by rw [List.map_cons, List.map_cons, e1, e2, e3]⟩
  | trans h1 h2 ih1 ih2 =>
    intro l e
    obtain ⟨m2, p2, e2⟩ := ih2 e
    obtain ⟨m1, p1, e1⟩ := ih1 e2.symm
    exact ⟨m1, p1.trans p2, e1⟩
end SDC
set_option Elab.async false
set_option linter.all false
set_option maxRecDepth 100000
set_option maxHeartbeats 4000000
namespace K26
open PySem PySem.Spec PyProof.Rows L2
open C8 (Cal Mak Met pe_c pe_mk pe_mt pe_mt0)
open KM (pr Sz)
open SX (S)
/-- a rider: name, on, off -/
abbrev Rd := Str × Int × Int
def rdV (r : Rd) : List V := [.str r.1, .int r.2.1, .int r.2.2]
def rdD (r : Rd) : PyData := .tuple [.str r.1, .int r.2.1, .int r.2.2]
/-- riders stand in a list -/
def Fk (H : Hp) (fl : Addr) (fs : List (Addr × Rd)) : Prop := H fl = some (.lst (fs.map fun z => V.ref z.1)) ∧ ∀ z ∈ fs, H z.1 = some (.tup (rdV z.2))
theorem Fk.same {H H' : Hp} {fl : Addr} {fs : List (Addr × Rd)} (h : Fk H fl fs) (s : Same H H') : Fk H' fl fs := ⟨s _ _ h.1, fun z hz => s _ _ (h.2 z hz)⟩
def nms (fs : List (Addr × Rd)) : List Str := fs.map (·.2.1)
/-- right riders -/
structure RdOk (drv : Str) (legs : Int) (fs : List (Addr × Rd)) : Prop where
  len : fs.length ≤ 11
  nm : ∀ z ∈ fs, ∃ l, z.2.1 = S l ∧ NM.ok l
  ok : ∀ z ∈ fs, 0 ≤ z.2.2.1 ∧ z.2.2.1 < z.2.2.2 ∧ z.2.2.2 ≤ legs
  nd : (drv :: nms fs).Nodup
theorem RdOk.perm {drv : Str} {legs : Int} {fs gs : List (Addr × Rd)} (h : RdOk drv legs fs) (p : gs.Perm fs) : RdOk drv legs gs :=
  ⟨by rw [p.length_eq]; exact h.len, fun z hz => h.nm z (p.mem_iff.mp hz), fun z hz => h.ok z (p.mem_iff.mp hz), (List.Perm.cons _ (p.map _)).nodup_iff.mpr h.nd⟩
/-- a right ride -/
structure WayOk (day : Int) (drv : Str) (fs : List (Addr × Rd)) (legs worth : Int) (lt : List Str) : Prop where
  d0 : 0 ≤ day
  d1 : day ≤ 1000000
  dn : ∃ l, drv = S l ∧ NM.ok l
  l1 : 1 ≤ legs
  l12 : legs ≤ 12
  w1 : 1 ≤ worth
  w9 : worth ≤ 1000
  rd : RdOk drv legs fs
  ltn : lt.Nodup
  lts : ∀ x ∈ lt, x ∈ nms fs
theorem inV_strs (x : Str) : ∀ R : List Str, inV (.str x) (R.map V.str) = decide (x ∈ R)
  | [] => rfl
  | y :: R => by
    have ih := inV_strs x R
    unfold inV at ih ⊢
    rw [List.map_cons, List.any_cons, ih]
    have e : eqV (.str y) (.str x) = decide (x = y) := by
      show decide (y = x) = decide (x = y)
      exact decide_eq_decide.mpr ⟨Eq.symm, Eq.symm⟩
    rw [e]
    simp [Bool.decide_or]
theorem flat_strs (R : List Str) : (R.map V.str).all flatV = true := by
  rw [List.all_eq_true]
  intro v hv
  obtain ⟨y, _, rfl⟩ := List.mem_map.mp hv
  rfl
theorem reps_all (n : Nat) : (List.replicate n true).all id = true := by simp
theorem reps_snoc (i : Nat) : (List.replicate i true).map V.bl ++ [V.bl true] = (List.replicate (i + 1) true).map V.bl := by simp [List.replicate_succ']
section
variable {P : Program} {w : World} {K : PySem.W.Frag} {mg : Str → Option Value} {base : Heap} {f C CR : Addr} {fd : FuncData}
def spRider : Sp := fun vs H Q _ => ∃ (t : Addr) (r : Rd) (legs : Int), vs = [.ref t, .int legs] ∧ H t = some (.tup (rdV r)) ∧ (∃ l, r.1 = S l ∧ NM.ok l) ∧ 0 ≤ r.2.1 ∧ r.2.1 < r.2.2 ∧ r.2.2 ≤ legs ∧ ∀ H', Same H H' → Q (.bl true) H'
theorem ok_rider (F : Dn K d_is_rider f fd) (b : Bl mg) (b2 : Bl2 mg) (cW : CalW P w K mg base) (cN : Cal P w K mg base 1 "is_name" spName []) : FnOk P w K mg base CX0 2 f fd ["thing", "legs"] spRider := by
  refine F.ok sc_is_rider (fun vs H Q E h => ?_) (fun cdv A outer s H vs Q E hr h => ?_)
  · obtain ⟨t, r, legs, rfl, _⟩ := h
    rfl
  · obtain ⟨t, ⟨nm, on, off⟩, legs, rfl, ht, ⟨l, e, okl⟩, h0, h1, h2, hQ⟩ := h
    obtain rfl : nm = S l := e
    have h0 : 0 ≤ on := h0
    have h1 : on < off := h1
    have h2 : off ≤ legs := h2
    have ht : H t = some (.tup [.str (S l), .int on, .int off]) := ht
    refine ⟨_, PSs.nox (pss_cons (ps_if (PW.pt (pw_or (pt_not (pt_val (pe_callB call_isi rfl b.isi boot_isinstance (pa_cons (pv 0) (pa_cons (pe_bltn (v := .ty "tuple") rfl b2.tup boot_tuple rfl) pa_nil)))))
        (pw_or (pt_cmpR op_ne (pe_callB call_len_seq rfl b.len boot_len (pa_cons (pv 0) pa_nil)) pe_int (nomark _))
        (pw_or1 (pt_not (pt_val (pe_c cN hr (by decide) rfl (pa_cons (pe_ix ix_tup (pv 0) pe_int (fun _ _ => rfl)) pa_nil)))))))) pss_never pss_nil)
      (pss_one (ps_ret (pe_and (pe_c cW hr (by decide) rfl (pa_cons (pe_ix ix_tup (pv 0) pe_int (fun _ _ => rfl)) pa_nil)) (pe_and (pe_c cW hr (by decide) rfl (pa_cons (pe_ix ix_tup (pv 0) pe_int (fun _ _ => rfl)) pa_nil))
        (pe_one (C3.pe_chain3 op_le op_lt op_le pe_int (pe_ix ix_tup (pv 0) pe_int (fun _ _ => rfl)) (pe_ix ix_tup (pv 0) pe_int (fun _ _ => rfl)) (pv 1)))))))), ?_⟩
    refine ⟨_, rfl, _, _, _, _, true, rfl, ClsV.ty _, TyX.base (TyOf.tup ht), kit_ty (by decide +kernel), true, rfl, iteF ?_⟩
    refine ⟨_, rfl, t, _, rfl, .inr (SqT.of ht), rfl, _, rfl, iteF ?_⟩
    refine ⟨_, rfl, t, _, _, _, rfl, rfl, SqT.of ht, rfl, l, rfl, okl, fun H2 s2 => ⟨true, rfl, iteF ?_⟩⟩
    have ht2 := s2 _ _ ht
    refine ⟨_, rfl, t, _, _, _, rfl, rfl, SqT.of ht2, rfl, on, rfl, true, rfl, iteT ?_⟩
    refine ⟨_, rfl, t, _, _, _, rfl, rfl, SqT.of ht2, rfl, off, rfl, true, rfl, iteT ?_⟩
    refine ⟨_, rfl, t, _, _, _, rfl, rfl, SqT.of ht2, rfl, _, _, rfl, rfl, _, rfl, ?_⟩
    refine ite2 (fun _ => ?_) (fun z => absurd (decide_eq_true h0) z)
    refine ⟨_, rfl, t, _, _, _, rfl, rfl, SqT.of ht2, rfl, _, _, rfl, rfl, _, rfl, ?_⟩
    refine ite2 (fun _ => ?_) (fun z => absurd (decide_eq_true h1) z)
    refine ⟨_, rfl, _, _, rfl, rfl, ?_⟩
    show Q (.bl (decide (off ≤ legs))) H2
    rw [decide_eq_true h2]
    exact hQ H2 s2
/-- [rider[0] for rider in riders] -/
def spRiders : Sp := fun vs H Q _ => ∃ (fl : Addr) (fs : List (Addr × Rd)) (drv : Str) (legs : Int), vs = [.ref fl, .str drv, .int legs] ∧ Fk H fl fs ∧ RdOk drv legs fs ∧ ∀ H', Same H H' → Q (.bl true) H'
theorem ok_riders (F : Dn K d_are_riders f fd) (b : Bl mg) (b2 : Bl2 mg) (g : ∃ t, mg "MOST_RIDERS" = some (.int 11 t)) (cR : Cal P w K mg base 2 "is_rider" spRider []) : FnOk P w K mg base CX0 3 f fd ["thing", "driver", "legs"] spRiders := by
  refine F.ok sc_are_riders (fun vs H Q E h => ?_) (fun cdv A outer s H vs Q E hr h => ?_)
  · obtain ⟨fl, fs, drv, legs, rfl, _⟩ := h
    rfl
  · obtain ⟨fl, fs, drv, legs, rfl, fk, ok, hQ⟩ := h
    obtain ⟨t, g⟩ := g
    have len := ok.len
    refine ⟨_, PSs.nox (pss_cons (ps_if (PW.pt (pw_or (pt_not (pt_val (pe_callB call_isi rfl b.isi boot_isinstance (pa_cons (pv 0) (pa_cons (pe_bltn (v := .ty "list") rfl b.list boot_list rfl) pa_nil)))))
        (pw_or1 (pt_cmpR op_gt (pe_callB call_len_seq rfl b.len boot_len (pa_cons (pv 0) pa_nil)) (pe_glob (v := .int 11) rfl g ⟨t, rfl⟩) (nomark _))))) pss_never pss_nil)
      (pss_cons (ps_if (pt_not (pt_val (pe_callB (cr_all rfl) rfl b.all boot_all (pa_cons (pe_lc (own := [("rider", 4)]) (g := gName 4) (tt := tYes) rfl sc_are_riders.nd (pi_list (pv 0)) (blkOk_by (N := N_are_riders) (sc := defScope s_are_riders) (by decide +kernel))
          (fun _ _ _ _ _ => pg_name (i := 4) sc_are_riders.nd rfl (Or.inl rfl)) (fun _ _ _ _ _ => pts_nil) (fun _ _ _ _ _ => pe_c cR hr (by decide) rfl (pa_cons (pv 4) (pa_cons (pv 2) pa_nil)))) pa_nil)))) pss_never pss_nil)
      (pss_cons (ps_set (i := 3) sc_are_riders.nd rfl (.inl rfl) (pe_op op_cat (pe_lst (pa_cons (pv 1) pa_nil)) (pe_lc (own := [("rider", 4)]) (g := gName 4) (tt := tYes) rfl sc_are_riders.nd (pi_list (pv 0)) (blkOk_by (N := N_are_riders) (sc := defScope s_are_riders) (by decide +kernel))
          (fun _ _ _ _ _ => pg_name (i := 4) sc_are_riders.nd rfl (Or.inl rfl)) (fun _ _ _ _ _ => pts_nil) (fun _ _ _ _ _ => pe_ix (r := rIxT K) ix_tup (pv 4) pe_int (fun _ _ => rfl)))))
      (pss_one (ps_ret (pe_cmpR op_eq (ST.pe_lenSet rfl rfl b.len rfl b2.set (pv 3)) (pe_callB call_len_seq rfl b.len boot_len (pa_cons (pv 3) pa_nil)) (nomark _))))))), ?_⟩
    refine ⟨_, rfl, _, _, _, _, true, rfl, ClsV.ty _, TyX.base (TyOf.lst fk.1), kit_ty (by decide +kernel), true, rfl, iteF ?_⟩
    refine ⟨_, rfl, fl, _, rfl, .inl (SqL.of fk.1), _, _, rfl, rfl, _, rfl, ?_⟩
    rw [List.length_map]
    refine ite2 (fun z => absurd (of_decide_eq_true z) (by omega)) (fun _ => ?_)
    refine ⟨_, rfl, fl, rfl, ⟨_, SqL.of fk.1⟩, fun D hD => lc_list (K := K) (xs := fs.map fun z => V.ref z.1) (fun i H2 => H2 D = some (.lst ((List.replicate i true).map V.bl)) ∧ Same H H2) ⟨upd_same, same_new hD⟩ (fun _ H2 _ z => SqL.of (z.2 _ _ fk.1)) ?_ ?_⟩
    · rintro i x H2 hx ⟨hd, sm⟩
      have hi' : i < fs.length := by
        have := (List.getElem?_eq_some_iff.mp hx).1
        simpa using this
      rw [List.getElem?_map] at hx
      obtain ⟨y, hy, rfl⟩ := Option.map_eq_some_iff.mp hx
      have hm := List.mem_of_getElem? hy
      refine ⟨rfl, ?_⟩
      refine ⟨_, rfl, _, rfl, y.1, y.2, legs, rfl, sm _ _ (fk.2 y hm), ok.nm y hm, (ok.ok y hm).1, (ok.ok y hm).2.1, (ok.ok y hm).2.2, fun H3 s3 => ⟨_, s3 _ _ hd, ?_, ?_, ?_⟩⟩
      · rw [List.length_map, List.length_replicate]
        exact Nat.lt_of_lt_of_le (by omega : i < 64) (by decide)
      · rw [upd_same, reps_snoc]
      · intro a o e
        rw [upd_ne (ne_of_none e hD)]
        exact s3 a o (sm a o e)
    rintro H2 ⟨hd, sm⟩
    refine ⟨D, _, rfl, SqL.of hd, true, ?_, iteF ?_⟩
    · rw [reps_all]
    have fk2 := fk.same sm
    refine ⟨_, rfl, by show 1 ≤ sizeLine; decide, fun d1 fd1 => ?_⟩
    have s1 := same_new (o := .lst [.str drv]) fd1
    have fk3 := fk2.same s1
    have hd1 : (upd H2 d1 (.lst [.str drv])) d1 = some (.lst [.str drv]) := upd_same
    have s13 := sm.trans s1
    generalize upd H2 d1 (.lst [.str drv]) = H3 at fk3 hd1 s13
    refine ⟨_, rfl, fl, rfl, ⟨_, SqL.of fk3.1⟩, fun D2 hD2 => lc_list (K := K) (xs := fs.map fun z => V.ref z.1) (fun i H4 => H4 D2 = some (.lst ((nms (fs.take i)).map V.str)) ∧ Same H3 H4) ⟨upd_same, same_new hD2⟩ (fun _ H4 _ z => SqL.of (z.2 _ _ fk3.1)) ?_ ?_⟩
    · rintro i x H4 hx ⟨hd, sm⟩
      have hi' : i < fs.length := by
        have := (List.getElem?_eq_some_iff.mp hx).1
        simpa using this
      rw [List.getElem?_map] at hx
      obtain ⟨y, hy, rfl⟩ := Option.map_eq_some_iff.mp hx
      have hm := List.mem_of_getElem? hy
      have et : fs.take (i + 1) = fs.take i ++ [y] := by rw [List.take_succ, hy]; rfl
      refine ⟨rfl, ?_⟩
      refine ⟨_, rfl, y.1, _, _, .str y.2.1, rfl, rfl, SqT.of (sm _ _ (fk3.2 y hm)), rfl, _, hd, ?_, ?_, ?_⟩
      · unfold nms
        rw [List.length_map, List.length_map, List.length_take]
        exact Nat.lt_of_lt_of_le (by omega : min i fs.length < 64) (by decide)
      · rw [upd_same, et]
        unfold nms
        rw [List.map_append, List.map_append]
        rfl
      · intro a o e
        rw [upd_ne (ne_of_none e hD2)]
        exact sm a o e
    rintro H4 ⟨hd2, sm2⟩
    rw [List.length_map, List.take_length] at hd2
    have nl : (nms fs).length = fs.length := by unfold nms; rw [List.length_map]
    refine ⟨d1, D2, _, _, rfl, rfl, sm2 _ _ hd1, hd2, ?_, fun p fp => ?_⟩
    · rw [List.length_map, nl]
      exact Nat.le_trans (by show 1 + fs.length ≤ 64; omega) (by decide)
    have e : [V.str drv] ++ (nms fs).map V.str = (drv :: nms fs).map V.str := rfl
    rw [e]
    refine ⟨_, rfl, p, drv :: nms fs, rfl, .inl (SqL.of upd_same), ok.nd, by rw [List.length_cons, nl]; omega, _, rfl, p, _, rfl, .inl (SqL.of upd_same), ?_⟩
    rw [List.length_map]
    exact ⟨rfl, by simpa using hQ _ ((s13.trans sm2).trans (same_new fp))⟩
def spLate : Sp := fun vs H Q _ => ∃ (ll fl : Addr) (fs : List (Addr × Rd)) (lt : List Str), vs = [.ref ll, .ref fl] ∧ Fk H fl fs ∧ fs.length ≤ 11 ∧ H ll = some (.lst (lt.map V.str)) ∧ lt.Nodup ∧ (∀ x ∈ lt, x ∈ nms fs) ∧ ∀ H', Same H H' → Q (.bl true) H'
theorem nd_len : ∀ {l m : List Str}, l.Nodup → (∀ x ∈ l, x ∈ m) → l.length ≤ m.length
  | [], _, _, _ => Nat.zero_le _
  | x :: l, m, nd, sub => by
    have n2 := List.nodup_cons.mp nd
    have hx := sub x List.mem_cons_self
    have ih := nd_len (m := m.erase x) n2.2 fun y hy => (List.mem_erase_of_ne (show y ≠ x from fun e => n2.1 (e ▸ hy))).mpr (sub y (List.mem_cons_of_mem _ hy))
    rw [List.length_erase_of_mem hx] at ih
    have := List.length_pos_of_mem hx
    rw [List.length_cons]
    omega
theorem lt_len {lt : List Str} {fs : List (Addr × Rd)} (nd : lt.Nodup) (sub : ∀ x ∈ lt, x ∈ nms fs) : lt.length ≤ fs.length := by
  have h := nd_len nd sub
  unfold nms at h
  rwa [List.length_map] at h
theorem ok_late (F : Dn K d_are_late f fd) (b : Bl mg) (b2 : Bl2 mg) : FnOk P w K mg base CX0 1 f fd ["thing", "riders"] spLate := by
  refine F.ok sc_are_late (fun vs H Q E h => ?_) (fun cdv A outer s H vs Q E hr h => ?_)
  · obtain ⟨ll, fl, fs, lt, rfl, _⟩ := h
    rfl
  · obtain ⟨ll, fl, fs, lt, rfl, fk, len, hll, nd, sub, hQ⟩ := h
    have ltl := lt_len nd sub
    refine ⟨_, PSs.nox (pss_cons (ps_set (i := 2) sc_are_late.nd rfl (.inr rfl) (pe_lc (own := [("rider", 3)]) (g := gName 3) (tt := tYes) rfl sc_are_late.nd (pi_list (pv 1)) (blkOk_by (N := N_are_late) (sc := defScope s_are_late) (by decide +kernel))
          (fun _ _ _ _ _ => pg_name (i := 3) sc_are_late.nd rfl (Or.inl rfl)) (fun _ _ _ _ _ => pts_nil) (fun _ _ _ _ _ => pe_ix (r := rIxT K) ix_tup (pv 3) pe_int (fun _ _ => rfl))))
      (pss_cons (ps_if (PW.pt (pw_or (pt_not (pt_val (pe_callB call_isi rfl b.isi boot_isinstance (pa_cons (pv 0) (pa_cons (pe_bltn (v := .ty "list") rfl b.list boot_list rfl) pa_nil)))))
        (pw_or1 (pt_not (pt_val (pe_callB (cr_all rfl) rfl b.all boot_all (pa_cons (pe_lc (own := [("name", 4)]) (g := gName 4) (tt := tYes) rfl sc_are_late.nd (pi_list (pv 0)) (blkOk_by (N := N_are_late) (sc := defScope s_are_late) (by decide +kernel))
          (fun _ _ _ _ _ => pg_name (i := 4) sc_are_late.nd rfl (Or.inl rfl)) (fun _ _ _ _ _ => pts_nil) (fun _ _ _ _ _ => pe_cmpR (r := rIn K false) op_in_seq (pv 4) (pv 2) (by rfl))) pa_nil))))))) pss_never pss_nil)
      (pss_one (ps_ret (pe_cmpR op_eq (ST.pe_lenSet rfl rfl b.len rfl b2.set (pv 0)) (pe_callB call_len_seq rfl b.len boot_len (pa_cons (pv 0) pa_nil)) (nomark _)))))), ?_⟩
    refine ⟨_, rfl, fl, rfl, ⟨_, SqL.of fk.1⟩, fun D2 hD2 => lc_list (K := K) (xs := fs.map fun z => V.ref z.1) (fun i H4 => H4 D2 = some (.lst ((nms (fs.take i)).map V.str)) ∧ Same H H4) ⟨upd_same, same_new hD2⟩ (fun _ H4 _ z => SqL.of (z.2 _ _ fk.1)) ?_ ?_⟩
    · rintro i x H4 hx ⟨hd, sm⟩
      have hi' : i < fs.length := by
        have := (List.getElem?_eq_some_iff.mp hx).1
        simpa using this
      rw [List.getElem?_map] at hx
      obtain ⟨y, hy, rfl⟩ := Option.map_eq_some_iff.mp hx
      have hm := List.mem_of_getElem? hy
      have et : fs.take (i + 1) = fs.take i ++ [y] := by rw [List.take_succ, hy]; rfl
      refine ⟨rfl, ?_⟩
      refine ⟨_, rfl, y.1, _, _, .str y.2.1, rfl, rfl, SqT.of (sm _ _ (fk.2 y hm)), rfl, _, hd, ?_, ?_, ?_⟩
      · unfold nms
        rw [List.length_map, List.length_map, List.length_take]
        exact Nat.lt_of_lt_of_le (by omega : min i fs.length < 64) (by decide)
      · rw [upd_same, et]
        unfold nms
        rw [List.map_append, List.map_append]
        rfl
      · intro a o e
        rw [upd_ne (ne_of_none e hD2)]
        exact sm a o e
    rintro H2 ⟨hn, sm⟩
    rw [List.length_map, List.take_length] at hn
    have hll2 := sm _ _ hll
    refine ⟨_, rfl, _, _, _, _, true, rfl, ClsV.ty _, TyX.base (TyOf.lst hll2), kit_ty (by decide +kernel), true, rfl, iteF ?_⟩
    refine ⟨_, rfl, ll, rfl, ⟨_, SqL.of hll2⟩, fun D hD => lc_list (K := K) (xs := lt.map V.str) (fun i H3 => H3 D = some (.lst ((List.replicate i true).map V.bl)) ∧ Same H2 H3) ⟨upd_same, same_new hD⟩ (fun _ H3 _ z => SqL.of (z.2 _ _ hll2)) ?_ ?_⟩
    · rintro i x H3 hx ⟨hd, sm3⟩
      have hi' : i < lt.length := by
        have := (List.getElem?_eq_some_iff.mp hx).1
        simpa using this
      rw [List.getElem?_map] at hx
      obtain ⟨y, hy, rfl⟩ := Option.map_eq_some_iff.mp hx
      have hm := List.mem_of_getElem? hy
      refine ⟨rfl, ?_⟩
      refine ⟨_, rfl, _, rfl, D2, _, rfl, .inl (SqL.of (sm3 _ _ hn)), rfl, flat_strs _, ?_⟩
      simp only [Bool.false_eq_true, if_false]
      rw [inV_strs, decide_eq_true (sub y hm)]
      refine ⟨_, hd, ?_, ?_, ?_⟩
      · rw [List.length_map, List.length_replicate]
        exact Nat.lt_of_lt_of_le (by omega : i < 64) (by decide)
      · rw [upd_same, reps_snoc]
      · intro a o e
        rw [upd_ne (ne_of_none e hD)]
        exact sm3 a o e
    rintro H3 ⟨hd, sm3⟩
    refine ⟨D, _, rfl, SqL.of hd, true, ?_, iteF ?_⟩
    · rw [reps_all]
    have hll3 := sm3 _ _ hll2
    refine ⟨_, rfl, ll, lt, rfl, .inl (SqL.of hll3), nd, by omega, _, rfl, ll, _, rfl, .inl (SqL.of hll3), ?_⟩
    rw [List.length_map]
    exact ⟨rfl, by simpa using hQ _ (sm.trans sm3)⟩
end
end K26
set_option Elab.async false
set_option linter.all false
set_option maxRecDepth 100000
set_option maxHeartbeats 4000000
namespace K26
open PySem PySem.Spec PyProof.Rows L2
open C8 (Cal Mak Met pe_c pe_mk pe_mt pe_mt0)
open KM (pr Sz)
open SX (S)
/-- the fields of a Ride -/
def rF (d dv l wo st lc : V) : List (Str × V) := putF "latecomers" lc (putF "stretches" st (putF "worth" wo (putF "legs" l (putF "driver" dv (putF "day" d [])))))
section
variable {d dv l wo st lc : V}
theorem r_driver : (rF d dv l wo st lc).lookup ("driver" : Str) = some dv := by kernel_rfl
theorem r_legs : (rF d dv l wo st lc).lookup ("legs" : Str) = some l := by kernel_rfl
theorem r_worth : (rF d dv l wo st lc).lookup ("worth" : Str) = some wo := by kernel_rfl
theorem r_st : (rF d dv l wo st lc).lookup ("stretches" : Str) = some st := by kernel_rfl
theorem r_folk : (rF d dv l wo st lc).lookup ("folk" : Str) = none := by kernel_rfl
theorem r_parts : (rF d dv l wo st lc).lookup ("parts" : Str) = none := by kernel_rfl
end
theorem sh_plus (q : Int × Int) : (shF q).lookup ("plus" : Str) = none := by kernel_rfl
theorem lp (k : Str) (v : V) : ∀ l : List (Str × V), (putF k v l).length ≤ l.length + 1
  | [] => Nat.le_refl _
  | (x, u) :: l => by
    have := lp k v l
    unfold putF
    split
    · simp
    · simp only [List.length_cons]
      omega
theorem ll {k : Str} {v : V} {l : List (Str × V)} {n : Nat} (h : l.length ≤ n) : (putF k v l).length ≤ n + 1 := Nat.le_trans (lp k v l) (by omega)
/-- what is known of the class -/
structure ClR (K : PySem.W.Frag) (mg : Str → Option Value) (CR : Addr) : Prop where
  cl : Cls K CR
  nd : NoAttr K CR "day"
  nv : NoAttr K CR "driver"
  nl : NoAttr K CR "legs"
  nw : NoAttr K CR "worth"
  ns : NoAttr K CR "stretches"
  nt : NoAttr K CR "latecomers"
  g : mg "Ride" = some (.ref CR)
/-- a Ride stands at rp -/
def Rid (CR : Addr) (H : Hp) (rp : Addr) (day : Int) (drv : Str) (gs : List (Addr × Rd)) (legs worth : Int) (ls : List Str) : Prop := ∃ dx sl lc, H rp = some (.ins CR dx (rF (.int day) (.str drv) (.int legs) (.int worth) (.ref sl) (.ref lc))) ∧ Fk H sl gs ∧ H lc = some (.lst (ls.map V.str))
/-- .. its own list of riders is new -/
def RidF (CR : Addr) (H0 H : Hp) (rp : Addr) (day : Int) (drv : Str) (gs : List (Addr × Rd)) (legs worth : Int) (ls : List Str) : Prop := ∃ dx sl lc, H rp = some (.ins CR dx (rF (.int day) (.str drv) (.int legs) (.int worth) (.ref sl) (.ref lc))) ∧ Fk H sl gs ∧ H lc = some (.lst (ls.map V.str)) ∧ H0 sl = none ∧ H0 lc = none
theorem Rid.same {CR : Addr} {H H' : Hp} {rp : Addr} {day : Int} {drv : Str} {gs : List (Addr × Rd)} {legs worth : Int} {ls : List Str} (h : Rid CR H rp day drv gs legs worth ls) (s : Same H H') : Rid CR H' rp day drv gs legs worth ls := by
  obtain ⟨dx, sl, lc, e, fk, e2⟩ := h
  exact ⟨dx, sl, lc, s _ _ e, fk.same s, s _ _ e2⟩
theorem Fk.off {H : Hp} {fl p C dx : Addr} {fs : List (Addr × Rd)} {as : List (Str × V)} {o : HO} (h : Fk H fl fs) (hp : H p = some (.ins C dx as)) : Fk (upd H p o) fl fs :=
  ⟨by rw [upd_ne (fun z => by have := h.1; rw [z, hp] at this; cases this)]; exact h.1, fun z hz => by rw [upd_ne (fun q => by have := h.2 z hz; rw [q, hp] at this; cases this)]; exact h.2 z hz⟩
theorem dp_riders {K : PySem.W.Frag} {H : Hp} : ∀ {fs : List (Addr × Rd)}, (∀ z ∈ fs, H z.1 = some (.tup (rdV z.2))) → DpAll K H (fs.map fun z => V.ref z.1) (fs.map fun z => rdD z.2)
  | [], _ => .nil
  | z :: fs, h => .cons (Dp.tup (SqT.of (h z List.mem_cons_self)) (.cons (.str _) (.cons (.int _) (.cons (.int _) .nil)))) (dp_riders fun y hy => h y (List.mem_cons_of_mem _ hy))
section
variable {P : Program} {w : World} {K : PySem.W.Frag} {mg : Str → Option Value} {base : Heap} {f C CR : Addr} {fd : FuncData}
def spFW : Sp := fun vs H Q _ => ∃ (fl lo : Addr) (day : Int) (drv : Str) (fs : List (Addr × Rd)) (legs worth : Int) (lt : List Str), vs = [.int day, .str drv, .ref fl, .int legs, .int worth, .ref lo] ∧ Fk H fl fs ∧ H lo = some (.lst (lt.map V.str)) ∧ WayOk day drv fs legs worth lt ∧ ∀ H', Same H H' → Q .non H'
theorem ok_fw (F : Dn K d_first_wrong f fd) (gl : ∃ t, mg "MOST_LEGS" = some (.int 12 t)) (gw : ∃ t, mg "MOST_WORTH" = some (.int 1000 t)) (cDy : Cal P w K mg base 3 "is_day" spDay []) (cN : Cal P w K mg base 1 "is_name" spName []) (cB : CalB P w K mg base) (cR : Cal P w K mg base 3 "are_riders" spRiders []) (cL : Cal P w K mg base 1 "are_late" spLate []) :
    FnOk P w K mg base CX0 4 f fd ["day", "driver", "riders", "legs", "worth", "late"] spFW := by
  refine F.ok sc_first_wrong (fun vs H Q E h => ?_) (fun cdv A outer s H vs Q E hr h => ?_)
  · obtain ⟨fl, lo, day, drv, fs, legs, worth, lt, rfl, _⟩ := h
    rfl
  · obtain ⟨fl, lo, day, drv, fs, legs, worth, lt, rfl, fk, hlo, ok, hQ⟩ := h
    obtain ⟨t1, gl⟩ := gl
    obtain ⟨t2, gw⟩ := gw
    obtain ⟨l, rfl, okl⟩ := ok.dn
    refine ⟨_, PSs.nox (pss_cons (ps_if (pt_not (pt_val (pe_c cDy hr (by decide) rfl (pa_cons (pv 0) pa_nil)))) pss_never pss_nil)
      (pss_cons (ps_if (pt_not (pt_val (pe_c cN hr (by decide) rfl (pa_cons (pv 1) pa_nil)))) pss_never pss_nil)
      (pss_cons (ps_if (pt_not (pt_val (pe_c cB hr (by decide) rfl (pa_cons (pv 3) (pa_cons pe_int (pa_cons (pe_glob (v := .int 12) rfl gl ⟨t1, rfl⟩) pa_nil)))))) pss_never pss_nil)
      (pss_cons (ps_if (pt_not (pt_val (pe_c cB hr (by decide) rfl (pa_cons (pv 4) (pa_cons pe_int (pa_cons (pe_glob (v := .int 1000) rfl gw ⟨t2, rfl⟩) pa_nil)))))) pss_never pss_nil)
      (pss_cons (ps_if (pt_not (pt_val (pe_c cR hr (by decide) rfl (pa_cons (pv 2) (pa_cons (pv 1) (pa_cons (pv 3) pa_nil)))))) pss_never pss_nil)
      (pss_cons (ps_if (pt_not (pt_val (pe_c cL hr (by decide) rfl (pa_cons (pv 5) (pa_cons (pv 2) pa_nil))))) pss_never pss_nil)
      (pss_one (ps_ret pe_non)))))))), ?_⟩
    refine ⟨_, rfl, day, rfl, _, rfl, ?_⟩
    rw [decide_eq_true (show 0 ≤ day ∧ day ≤ 1000000 from ⟨ok.d0, ok.d1⟩)]
    refine iteF ?_
    refine ⟨_, rfl, l, rfl, okl, fun H1 s1 => ⟨true, rfl, iteF ?_⟩⟩
    refine ⟨_, rfl, legs, 1, 12, rfl, _, rfl, ?_⟩
    rw [decide_eq_true (show 1 ≤ legs ∧ legs ≤ 12 from ⟨ok.l1, ok.l12⟩)]
    refine iteF ?_
    refine ⟨_, rfl, worth, 1, 1000, rfl, _, rfl, ?_⟩
    rw [decide_eq_true (show 1 ≤ worth ∧ worth ≤ 1000 from ⟨ok.w1, ok.w9⟩)]
    refine iteF ?_
    refine ⟨_, rfl, _, rfl, _, rfl, fl, fs, _, legs, rfl, fk.same s1, ok.rd, fun H2 s2 => ⟨true, rfl, iteF ?_⟩⟩
    have s12 := s1.trans s2
    refine ⟨_, rfl, _, rfl, lo, fl, fs, lt, rfl, fk.same s12, ok.rd.len, s12 _ _ hlo, ok.ltn, ok.lts, fun H3 s3 => ⟨true, rfl, iteF ?_⟩⟩
    exact hQ H3 (s12.trans s3)
def spRI (CR : Addr) : Sp := fun vs H Q _ => ∃ (p dx : Addr) (xr xl : V) (day : Int) (drv : Str) (fs : List (Addr × Rd)) (legs worth : Int) (lt : List Str), vs = [.ref p, .int day, .str drv, xr, .int legs, .int worth, xl] ∧ H p = some (.ins CR dx []) ∧ (xr = .non ∧ fs = [] ∨ ∃ fl, xr = .ref fl ∧ Fk H fl fs) ∧ (xl = .non ∧ lt = [] ∨ ∃ lo, xl = .ref lo ∧ H lo = some (.lst (lt.map V.str))) ∧ WayOk day drv fs legs worth lt ∧
  ∀ (H' : Hp) (gs : List (Addr × Rd)) (ls : List Str), (∀ a o, a ≠ p → H a = some o → H' a = some o) → gs.Perm fs → ls.Perm lt → RidF CR H H' p day drv gs legs worth ls → Q .non H'
theorem ok_ri (F : Dn K d_Ride_init f fd) (b2 : Bl2 mg) (T : ClR K mg CR) (cF : Cal P w K mg base 4 "first_wrong" spFW []) : FnOk P w K mg base CX0 5 f fd ["self", "day", "driver", "riders", "legs", "worth", "late"] (spRI CR) := by
  refine F.ok sc_Ride_init (fun vs H Q E h => ?_) (fun cdv A outer s H vs Q E hr h => ?_)
  · obtain ⟨p, dx, xr, xl, day, drv, fs, legs, worth, lt, rfl, _⟩ := h
    rfl
  · obtain ⟨p, dx, xr, xl, day, drv, fs, legs, worth, lt, rfl, hp00, hr00, hl00, ok, hQ0⟩ := h
    have hu64 : (A.deeper (envOfC d_Ride_init.qual d_Ride_init.scope s.heap.objs.size f cdv)).units + 64 < cLine := by have := hr.un; omega
    refine ⟨_, PSs.nox (C8.pss_cut (ps_set (i := 3) sc_Ride_init.nd rfl (.inl rfl) (pe_ifExp (pt_cmpR op_isN (pv 3) pe_non (nomark _)) (pe_lst pa_nil) (pv 3)))
      (C8.pss_cut (ps_set (i := 6) sc_Ride_init.nd rfl (.inl rfl) (pe_ifExp (pt_cmpR op_isN (pv 6) pe_non (nomark _)) (pe_lst pa_nil) (pv 6)))
      (pss_cons (ps_set (i := 7) sc_Ride_init.nd rfl (.inl rfl) (pe_c cF hr (by decide) rfl (pa_cons (pv 1) (pa_cons (pv 2) (pa_cons (pv 3) (pa_cons (pv 4) (pa_cons (pv 5) (pa_cons (pv 6) pa_nil))))))))
      (pss_cons (ps_if (pt_cmpR op_notN (pv 7) pe_non (nomark _)) pss_never pss_nil)
      (pss_cons (ps_fld (pv 0) (pv 1) rfl) (pss_cons (ps_fld (pv 0) (pv 2) rfl) (pss_cons (ps_fld (pv 0) (pv 4) rfl) (pss_cons (ps_fld (pv 0) (pv 5) rfl)
      (pss_cons (ps_fld (pv 0) (pe_callB (SRT.cr_sortedD hu64) rfl b2.srt boot_sorted (pa_cons (pv 3) pa_nil)) rfl)
      (pss_one (ps_fld (pv 0) (pe_callB (SRT.cr_sortedTx hu64) rfl b2.srt boot_sorted (pa_cons (pv 6) pa_nil)) rfl))))))))))), ?_⟩
    refine ⟨fun σ H1 => ∃ fl, σ = [some (.ref p), some (.int day), some (.str drv), some (.ref fl), some (.int legs), some (.int worth), some xl, none] ∧ Same H H1 ∧ Fk H1 fl fs, ?_, ?_⟩
    · rcases hr00 with ⟨rfl, rfl⟩ | ⟨fl, rfl, fk⟩
      · refine ⟨_, rfl, rfl, _, rfl, ?_⟩
        refine iteT ⟨by show 0 ≤ sizeLine; decide, fun q fq => ⟨q, rfl, same_new fq, upd_same, fun z hz => nomatch hz⟩⟩
      · refine ⟨_, rfl, rfl, _, rfl, ?_⟩
        rw [show decide (V.ref fl = V.non) = false by simp]
        exact iteF ⟨_, rfl, fl, rfl, Same.refl _, fk⟩
    rintro σ H0a ⟨fl, rfl, s0a, fk⟩
    refine ⟨fun σ H1 => ∃ lo, σ = [some (.ref p), some (.int day), some (.str drv), some (.ref fl), some (.int legs), some (.int worth), some (.ref lo), none] ∧ Same H H1 ∧ Fk H1 fl fs ∧ H1 lo = some (.lst (lt.map V.str)), ?_, ?_⟩
    · rcases hl00 with ⟨rfl, rfl⟩ | ⟨lo, rfl, hlo⟩
      · refine ⟨_, rfl, rfl, _, rfl, ?_⟩
        refine iteT ⟨by show 0 ≤ sizeLine; decide, fun q fq => ⟨q, rfl, s0a.trans (same_new fq), fk.same (same_new fq), upd_same⟩⟩
      · refine ⟨_, rfl, rfl, _, rfl, ?_⟩
        rw [show decide (V.ref lo = V.non) = false by simp]
        exact iteF ⟨_, rfl, lo, rfl, s0a, fk, s0a _ _ hlo⟩
    rintro σ H0b ⟨lo, rfl, s0, fk, hlo⟩
    have hp := s0 _ _ hp00
    have hQ : ∀ (H' : Hp) (gs : List (Addr × Rd)) (ls : List Str), (∀ a o, a ≠ p → H0b a = some o → H' a = some o) → gs.Perm fs → ls.Perm lt → RidF CR H0b H' p day drv gs legs worth ls → Q .non H' := fun H' gs ls k p1 p2 rf => by
      obtain ⟨dx', sl, lc, e, fk', e2, f1, f2⟩ := rf
      exact hQ0 H' gs ls (fun a o na e => k a o na (s0 _ _ e)) p1 p2 ⟨dx', sl, lc, e, fk', e2, s0.free f1, s0.free f2⟩
    clear hQ0 hr00 hl00 hp00 s0 s0a
    generalize H0b = H at fk hlo hp hQ
    refine ⟨_, rfl, _, rfl, _, rfl, _, rfl, _, rfl, _, rfl, fl, lo, day, drv, fs, legs, worth, lt, rfl, fk, hlo, ok, fun H1 s1 => ?_⟩
    refine ⟨_, rfl, rfl, _, rfl, iteF ?_⟩
    have hp1 := s1 _ _ hp
    have fk1 := fk.same s1
    have hlo1 := s1 _ _ hlo
    have np : ∀ {a : Addr} {ys : List V}, H1 a = some (.lst ys) → a ≠ p := fun e z => by rw [z, hp1] at e; cases e
    -- the plain fields
    refine ⟨_, rfl, _, rfl, p, CR, dx, _, rfl, hp1, T.cl, T.nd, by show 0 < 1000; decide, ?_⟩
    refine ⟨_, rfl, _, rfl, p, CR, dx, _, rfl, upd_same, T.cl, T.nv, Nat.lt_of_le_of_lt (ll (Nat.le_refl 0)) (by decide), ?_⟩
    refine ⟨_, rfl, _, rfl, p, CR, dx, _, rfl, upd_same, T.cl, T.nl, Nat.lt_of_le_of_lt (ll (ll (Nat.le_refl 0))) (by decide), ?_⟩
    refine ⟨_, rfl, _, rfl, p, CR, dx, _, rfl, upd_same, T.cl, T.nw, Nat.lt_of_le_of_lt (ll (ll (ll (Nat.le_refl 0)))) (by decide), ?_⟩
    have fk2 : Fk (upd (upd (upd (upd H1 p (.ins CR dx (putF "day" (.int day) []))) p (.ins CR dx (putF "driver" (.str drv) (putF "day" (.int day) [])))) p (.ins CR dx (putF "legs" (.int legs) (putF "driver" (.str drv) (putF "day" (.int day) []))))) p (.ins CR dx (putF "worth" (.int worth) (putF "legs" (.int legs) (putF "driver" (.str drv) (putF "day" (.int day) [])))))) fl fs := (((fk1.off hp1).off upd_same).off upd_same).off upd_same
    have hp2 : (upd (upd (upd (upd H1 p (.ins CR dx (putF "day" (.int day) []))) p (.ins CR dx (putF "driver" (.str drv) (putF "day" (.int day) [])))) p (.ins CR dx (putF "legs" (.int legs) (putF "driver" (.str drv) (putF "day" (.int day) []))))) p (.ins CR dx (putF "worth" (.int worth) (putF "legs" (.int legs) (putF "driver" (.str drv) (putF "day" (.int day) [])))))) p = some (.ins CR dx (putF "worth" (.int worth) (putF "legs" (.int legs) (putF "driver" (.str drv) (putF "day" (.int day) []))))) := upd_same
    have keep2 : ∀ a o, a ≠ p → H1 a = some o → (upd (upd (upd (upd H1 p (.ins CR dx (putF "day" (.int day) []))) p (.ins CR dx (putF "driver" (.str drv) (putF "day" (.int day) [])))) p (.ins CR dx (putF "legs" (.int legs) (putF "driver" (.str drv) (putF "day" (.int day) []))))) p (.ins CR dx (putF "worth" (.int worth) (putF "legs" (.int legs) (putF "driver" (.str drv) (putF "day" (.int day) [])))))) a = some o := fun a o na e => by
      rw [upd_ne na, upd_ne na, upd_ne na, upd_ne na]
      exact e
    generalize upd (upd (upd (upd H1 p (.ins CR dx (putF "day" (.int day) []))) p (.ins CR dx (putF "driver" (.str drv) (putF "day" (.int day) [])))) p (.ins CR dx (putF "legs" (.int legs) (putF "driver" (.str drv) (putF "day" (.int day) []))))) p (.ins CR dx (putF "worth" (.int worth) (putF "legs" (.int legs) (putF "driver" (.str drv) (putF "day" (.int day) []))))) = H2 at fk2 hp2 keep2
    refine ⟨_, rfl, fl, _, _, rfl, .inl (SqL.of fk2.1), dp_riders fk2.2, ?_, ?_, ?_, fun sl fsl => ?_⟩
    · intro x hx y hy
      obtain ⟨z, _, rfl⟩ := List.mem_map.mp hx
      obtain ⟨z', _, rfl⟩ := List.mem_map.mp hy
      unfold rdD
      simp [PySem.W.alike, PySem.W.alikeAll]
    · refine .inl fun x hx => ?_
      obtain ⟨z, _, rfl⟩ := List.mem_map.mp hx
      exact ⟨_, _, rfl⟩
    · intro x hx
      obtain ⟨z, _, rfl⟩ := List.mem_map.mp hx
      unfold rdD
      simp [PyData.depth, PyData.depthAll]
    obtain ⟨gs, pm, eg⟩ := SDC.perm_inv (SRT.srt_perm (xs := fs.map fun z => V.ref z.1) (ds := fs.map fun z => rdD z.2) (by simp)) (l := fs) rfl
    rw [eg]
    have fslH : H sl = none := by
      cases e : H sl with
      | none => rfl
      | some o =>
        by_cases q : sl = p
        · rw [q, hp2] at fsl
          cases fsl
        · rw [keep2 sl o q (s1 _ _ e)] at fsl
          cases fsl
    have ss := same_new (o := .lst (gs.map fun z => V.ref z.1)) fsl
    have fk3 : Fk (upd H2 sl (.lst (gs.map fun z => V.ref z.1))) sl gs := ⟨upd_same, fun z hz => ss _ _ (fk2.2 z (pm.mem_iff.mp hz))⟩
    have hp3 := ss _ _ hp2
    have keep3 : ∀ a o, a ≠ p → H1 a = some o → (upd H2 sl (.lst (gs.map fun z => V.ref z.1))) a = some o := fun a o na e => ss _ _ (keep2 a o na e)
    generalize upd H2 sl (.lst (gs.map fun z => V.ref z.1)) = H3 at fk3 hp3 keep3
    refine ⟨_, rfl, p, CR, dx, _, rfl, hp3, T.cl, T.ns, Nat.lt_of_le_of_lt (ll (ll (ll (ll (Nat.le_refl 0))))) (by decide), ?_⟩
    have fk4 := fk3.off (o := .ins CR dx (putF "stretches" (.ref sl) (putF "worth" (.int worth) (putF "legs" (.int legs) (putF "driver" (.str drv) (putF "day" (.int day) [])))))) hp3
    have hlo4 : (upd H3 p (.ins CR dx (putF "stretches" (.ref sl) (putF "worth" (.int worth) (putF "legs" (.int legs) (putF "driver" (.str drv) (putF "day" (.int day) [])))))))  lo = some (.lst (lt.map V.str)) := by
      rw [upd_ne (np hlo1)]
      exact keep3 _ _ (np hlo1) hlo1
    refine ⟨_, rfl, lo, lt, rfl, .inl (SqL.of hlo4), fun ys lc pmy pwy flc => ?_⟩
    have sc := same_new (o := .lst (ys.map V.str)) flc
    have fk5 := fk4.same sc
    have hp5 := sc _ _ (upd_same : (upd H3 p (.ins CR dx (putF "stretches" (.ref sl) (putF "worth" (.int worth) (putF "legs" (.int legs) (putF "driver" (.str drv) (putF "day" (.int day) []))))))) p = _)
    refine ⟨_, rfl, p, CR, dx, _, rfl, hp5, T.cl, T.nt, Nat.lt_of_le_of_lt (ll (ll (ll (ll (ll (Nat.le_refl 0)))))) (by decide), ?_⟩
    have nlp : lc ≠ p := fun q => by rw [q, upd_same] at flc; cases flc
    have flcH : H lc = none := by
      cases e : H lc with
      | none => rfl
      | some o =>
        rw [upd_ne nlp, keep3 lc o nlp (s1 _ _ e)] at flc
        cases flc
    refine hQ _ gs ys (fun a o na e => ?_) pm pmy ⟨dx, sl, lc, upd_same, fk5.off hp5, by rw [upd_ne nlp, upd_same], fslH, flcH⟩
    rw [upd_ne na]
    refine sc _ _ ?_
    rw [upd_ne na]
    exact keep3 a o na (s1 _ _ e)
theorem mk_ride {H : Hp} {day : Int} {drv : Str} {fs : List (Addr × Rd)} {legs worth : Int} {lt : List Str} {xr xl : V} {Q : VK} (h1 : xr = .non ∧ fs = [] ∨ ∃ fl, xr = .ref fl ∧ Fk H fl fs) (h2 : xl = .non ∧ lt = [] ∨ ∃ lo, xl = .ref lo ∧ H lo = some (.lst (lt.map V.str))) (ok : WayOk day drv fs legs worth lt)
    (hQ : ∀ (rp : Addr) (gs : List (Addr × Rd)) (ls : List Str) (H' : Hp), Same H H' → H rp = none → gs.Perm fs → ls.Perm lt → RidF CR H H' rp day drv gs legs worth ls → Q (.ref rp) H') :
    ∀ x dx, H x = none → H dx = none → dx ≠ x → spRI CR (.ref x :: [.int day, .str drv, xr, .int legs, .int worth, xl]) (upd (upd H dx (.own x)) x (.ins CR dx [])) (fun v H2 => v = .non ∧ Q (.ref x) H2) E0 := by
  intro rp dx nrp ndx ne
  have lift : ∀ b o, H b = some o → (upd (upd H dx (.own rp)) rp (.ins CR dx [])) b = some o := fun b o e => by
    rw [upd_ne (ne_of_none e nrp), upd_ne (ne_of_none e ndx)]
    exact e
  refine ⟨rp, dx, xr, xl, day, drv, fs, legs, worth, lt, rfl, upd_same, h1.imp id (fun ⟨fl, e, fk⟩ => ⟨fl, e, fk.same lift⟩), h2.imp id (fun ⟨lo, e, q⟩ => ⟨lo, e, lift _ _ q⟩), ok, fun H' gs ls k pm pl rid => ⟨rfl, ?_⟩⟩
  obtain ⟨dx', st, lc, e1, e2, e3, e4, e5⟩ := rid
  have fr : ∀ a, (upd (upd H dx (.own rp)) rp (.ins CR dx [])) a = none → H a = none := fun a e => by
    cases q : H a with
    | none => rfl
    | some o => rw [lift a o q] at e; cases e
  exact hQ rp gs ls H' (fun a o e => k a o (ne_of_none e nrp) (lift a o e)) nrp pm pl ⟨dx', st, lc, e1, e2, e3, fr _ e4, fr _ e5⟩
def spFo (CR : Addr) : Sp := fun vs H Q _ => ∃ (rp : Addr) (day : Int) (drv : Str) (gs : List (Addr × Rd)) (legs worth : Int) (ls : List Str), vs = [.ref rp] ∧ Rid CR H rp day drv gs legs worth ls ∧ gs.length ≤ 11 ∧
  ∀ (o : Addr) (ys : List Str) (H' : Hp), Same H H' → H o = none → H' o = some (.lst (ys.map V.str)) → ys.Perm (drv :: nms gs) → ys.Pairwise SRT.leS → Q (.ref o) H'
theorem ok_fo (F : Dn K d_Ride_folk f fd) (b2 : Bl2 mg) (T : ClR K mg CR) : FnOk P w K mg base CX0 1 f fd ["self"] (spFo CR) := by
  refine F.ok sc_Ride_folk (fun vs H Q E h => ?_) (fun cdv A outer s H vs Q E hr h => ?_)
  · obtain ⟨rp, day, drv, gs, legs, worth, ls, rfl, _⟩ := h
    rfl
  · obtain ⟨rp, day, drv, gs, legs, worth, ls, rfl, ⟨dx, sl, lc, hrp, fk, hlc⟩, len, hQ⟩ := h
    have hu64 : (A.deeper (envOfC d_Ride_folk.qual d_Ride_folk.scope s.heap.objs.size f cdv)).units + 64 < cLine := by have := hr.un; omega
    refine ⟨_, PSs.nox (pss_one (ps_ret (pe_callB (SRT.cr_sortedTx hu64) rfl b2.srt boot_sorted (pa_cons (pe_op op_cat (pe_lst (pa_cons (pe_fld (pv 0) rfl) pa_nil))
      (pe_lc (own := [("name", 1), ("on", 2), ("off", 3)]) (g := gTup K 3 (gCons (gName 1) (gCons (gName 2) (gCons (gName 3) gNil)))) (tt := tYes) rfl sc_Ride_folk.nd (pi_list (pe_fld (pv 0) rfl)) (blkOk_by (N := N_Ride_folk) (sc := defScope s_Ride_folk) (by decide +kernel))
        (fun _ _ _ _ _ => pg_tup rfl (pgs_cons (pg_name (i := 1) sc_Ride_folk.nd rfl (.inl rfl)) (pgs_cons (pg_name (i := 2) sc_Ride_folk.nd rfl (.inl rfl)) (pgs_cons (pg_name (i := 3) sc_Ride_folk.nd rfl (.inl rfl)) pgs_nil)))) (fun _ _ _ _ _ => pts_nil) (fun _ _ _ _ _ => pv 1))) pa_nil)))), ?_⟩
    refine ⟨_, rfl, rp, CR, dx, _, _, rfl, hrp, T.cl, T.nv, r_driver, by show 1 ≤ sizeLine; decide, fun d1 fd1 => ?_⟩
    have s1 := same_new (o := .lst [.str drv]) fd1
    have fk1 := fk.same s1
    have hrp1 := s1 _ _ hrp
    have hd1 : (upd H d1 (.lst [.str drv])) d1 = some (.lst [.str drv]) := upd_same
    generalize upd H d1 (.lst [.str drv]) = H1 at s1 fk1 hrp1 hd1
    refine ⟨_, rfl, rp, CR, dx, _, _, rfl, hrp1, T.cl, T.ns, r_st, sl, rfl, ⟨_, SqL.of fk1.1⟩, fun D2 hD2 => lc_list (K := K) (xs := gs.map fun z => V.ref z.1) (fun i H4 => H4 D2 = some (.lst ((nms (gs.take i)).map V.str)) ∧ Same H1 H4) ⟨upd_same, same_new hD2⟩ (fun _ H4 _ z => SqL.of (z.2 _ _ fk1.1)) ?_ ?_⟩
    · rintro i x H4 hx ⟨hd, sm⟩
      have hi' : i < gs.length := by
        have := (List.getElem?_eq_some_iff.mp hx).1
        simpa using this
      rw [List.getElem?_map] at hx
      obtain ⟨y, hy, rfl⟩ := Option.map_eq_some_iff.mp hx
      have hm := List.mem_of_getElem? hy
      have et : gs.take (i + 1) = gs.take i ++ [y] := by rw [List.take_succ, hy]; rfl
      refine ⟨y.1, _, rfl, SqT.of (sm _ _ (fk1.2 y hm)), rfl, _, _, rfl, _, _, rfl, _, _, rfl, rfl, rfl, ?_⟩
      refine ⟨_, rfl, _, hd, ?_, ?_, ?_⟩
      · unfold nms
        rw [List.length_map, List.length_map, List.length_take]
        exact Nat.lt_of_lt_of_le (by omega : min i gs.length < 64) (by decide)
      · rw [upd_same, et]
        unfold nms
        rw [List.map_append, List.map_append]
        rfl
      · intro a o e
        rw [upd_ne (ne_of_none e hD2)]
        exact sm a o e
    rintro H4 ⟨hd2, sm2⟩
    rw [List.length_map, List.take_length] at hd2
    have nl : (nms gs).length = gs.length := by unfold nms; rw [List.length_map]
    refine ⟨d1, D2, _, _, rfl, rfl, sm2 _ _ hd1, hd2, ?_, fun p fp => ?_⟩
    · rw [List.length_map, nl]
      exact Nat.le_trans (by show 1 + gs.length ≤ 64; omega) (by decide)
    have e : [V.str drv] ++ (nms gs).map V.str = (drv :: nms gs).map V.str := rfl
    rw [e]
    have sp := same_new (o := .lst ((drv :: nms gs).map V.str)) fp
    refine ⟨p, drv :: nms gs, rfl, .inl (SqL.of upd_same), fun ys o pm pw fo => ?_⟩
    have sa := (s1.trans sm2).trans sp
    exact hQ o ys _ (sa.trans (same_new fo)) (sa.free fo) upd_same pm pw
end
end K26
set_option Elab.async false
set_option linter.all false
set_option maxRecDepth 100000
set_option maxHeartbeats 4000000
namespace K26
open PySem PySem.Spec PyProof.Rows L2
open C8 (Cal Mak Met pe_c pe_mk pe_mt pe_mt0)
open KM (pr Sz)
open SX (S)
/-- who is aboard on a leg, the driver aside -/
def on (l : Int) (z : Addr × Rd) : Bool := decide (z.2.2.1 ≤ l ∧ l < z.2.2.2)
def ab (gs : List (Addr × Rd)) (l : Int) : List Str := nms (gs.filter (on l))
/-- a part of the worth, by the legs that are gone -/
def val (drv : Str) (gs : List (Addr × Rd)) (legs worth : Int) : Nat → Str → Rat
  | 0, _ => 0
  | i + 1, x => val drv gs legs worth i x + (if x ∈ drv :: ab gs i then Rat.divInt worth (legs * ((ab gs i).length + 1 : Nat)) else 0)
theorem ab_perm {gs fs : List (Addr × Rd)} (p : gs.Perm fs) (l : Int) : (ab gs l).Perm (ab fs l) := (p.filter _).map _
theorem val_perm {drv : Str} {gs fs : List (Addr × Rd)} {legs worth : Int} (p : gs.Perm fs) : ∀ (i : Nat) (x : Str), val drv gs legs worth i x = val drv fs legs worth i x
  | 0, _ => rfl
  | i + 1, x => by
    unfold val
    rw [val_perm p i x, (ab_perm p i).length_eq]
    have : (x ∈ drv :: ab gs i) ↔ x ∈ drv :: ab fs i := (List.Perm.cons _ (ab_perm p i)).mem_iff
    simp only [this]
theorem ab_sub {gs : List (Addr × Rd)} {l : Int} : ∀ x ∈ ab gs l, x ∈ nms gs := fun x hx => by
  unfold ab nms at hx
  obtain ⟨z, hz, rfl⟩ := List.mem_map.mp hx
  exact List.mem_map.mpr ⟨z, (List.mem_filter.mp hz).1, rfl⟩
theorem ab_len (gs : List (Addr × Rd)) (l : Int) : (ab gs l).length ≤ gs.length := by
  unfold ab nms
  rw [List.length_map]
  exact List.length_filter_le _ _
theorem ab_nd {drv : Str} {gs : List (Addr × Rd)} {l : Int} (h : (drv :: nms gs).Nodup) : (drv :: ab gs l).Nodup := by
  refine List.Sublist.nodup (List.Sublist.cons_cons _ ?_) h
  exact (List.filter_sublist).map _
theorem div_sz {legs worth : Int} {n : Nat} (l1 : 1 ≤ legs) (l12 : legs ≤ 12) (w1 : 1 ≤ worth) (w9 : worth ≤ 1000) (hn : n ≤ 11) : legs * ((n + 1 : Nat) : Int) ≠ 0 ∧ (legs * ((n + 1 : Nat) : Int)).natAbs < 2 ^ 10 ∧ 0 < legs * ((n + 1 : Nat) : Int) := by
  have h1 : 0 < legs * ((n + 1 : Nat) : Int) := Int.mul_pos (by omega) (by omega)
  have h2 : legs * ((n + 1 : Nat) : Int) ≤ 12 * 12 := Int.mul_le_mul l12 (by omega) (by omega) (by decide)
  exact ⟨by omega, by omega, h1⟩
theorem sz0 {n : Nat} (h : 1 ≤ n) : Sz n 0 := ⟨Nat.lt_of_lt_of_le (by decide : (0 : Rat).num.natAbs < 2 ^ 1) (Nat.pow_le_pow_right (by decide) h), Nat.lt_of_lt_of_le (by decide : (0 : Rat).den < 2 ^ 1) (Nat.pow_le_pow_right (by decide) h)⟩
theorem part_sz {legs worth : Int} {n : Nat} (l1 : 1 ≤ legs) (l12 : legs ≤ 12) (w1 : 1 ≤ worth) (w9 : worth ≤ 1000) (hn : n ≤ 11) : Sz 10 (Rat.divInt worth (legs * ((n + 1 : Nat) : Int))) := by
  obtain ⟨h1, h2, _⟩ := div_sz l1 l12 w1 w9 hn
  exact KM.sz_of_low h1 (by omega) h2
theorem val_sz {drv : Str} {gs : List (Addr × Rd)} {legs worth : Int} (l1 : 1 ≤ legs) (l12 : legs ≤ 12) (w1 : 1 ≤ worth) (w9 : worth ≤ 1000) (hn : gs.length ≤ 11) : ∀ (i : Nat) (x : Str), Sz (1 + 11 * i) (val drv gs legs worth i x)
  | 0, _ => sz0 (by decide)
  | i + 1, x => by
    have ih := val_sz (drv := drv) l1 l12 w1 w9 hn i x
    have hp : Sz 10 (if x ∈ drv :: ab gs i then Rat.divInt worth (legs * ((ab gs i).length + 1 : Nat)) else 0) := by
      split
      · exact part_sz l1 l12 w1 w9 (Nat.le_trans (ab_len gs i) hn)
      · exact sz0 (by decide)
    have := (KM.sz_plus ih hp).1
    unfold val
    have e : 1 + 11 * i + 10 + 1 = 1 + 11 * (i + 1) := by omega
    rw [e] at this
    exact this
/-- amid a leg -/
def vm (drv : Str) (gs : List (Addr × Rd)) (legs worth : Int) (i j : Nat) (x : Str) : Rat := if x ∈ (drv :: ab gs i).take j then val drv gs legs worth (i + 1) x else val drv gs legs worth i x
theorem vm_zero {drv : Str} {gs : List (Addr × Rd)} {legs worth : Int} {i : Nat} (x : Str) : vm drv gs legs worth i 0 x = val drv gs legs worth i x := by
  unfold vm
  rw [List.take_zero, if_neg (by simp)]
theorem vm_end {drv : Str} {gs : List (Addr × Rd)} {legs worth : Int} {i : Nat} (x : Str) : vm drv gs legs worth i (drv :: ab gs i).length x = val drv gs legs worth (i + 1) x := by
  unfold vm
  rw [List.take_length]
  split
  · rfl
  · rename_i h
    show val drv gs legs worth i x = val drv gs legs worth i x + (if x ∈ drv :: ab gs i then _ else 0)
    rw [if_neg h, Rat.add_zero]
theorem vm_step {drv : Str} {gs : List (Addr × Rd)} {legs worth : Int} {i j : Nat} {z : Str} (nd : (drv :: ab gs i).Nodup) (hz : (drv :: ab gs i)[j]? = some z) (x : Str) :
    (if x = z then vm drv gs legs worth i j z + Rat.divInt worth (legs * ((ab gs i).length + 1 : Nat)) else vm drv gs legs worth i j x) = vm drv gs legs worth i (j + 1) x := by
  have et : (drv :: ab gs i).take (j + 1) = (drv :: ab gs i).take j ++ [z] := by rw [List.take_succ, hz]; rfl
  have nz : z ∉ (drv :: ab gs i).take j := fun hm => by
    obtain ⟨k, hk, e⟩ := List.mem_iff_getElem.mp hm
    rw [List.getElem_take] at e
    rw [List.length_take] at hk
    have e3 : (drv :: ab gs i)[k]? = (drv :: ab gs i)[j]? := by rw [hz, List.getElem?_eq_getElem (by omega), e]
    have := (List.getElem?_inj (by omega) nd).mp e3
    omega
  by_cases q : x = z
  · rw [if_pos q, q]
    unfold vm
    rw [if_neg nz, et, if_pos (by simp)]
    show _ = val drv gs legs worth i z + _
    rw [if_pos (List.mem_of_getElem? hz)]
  · rw [if_neg q]
    unfold vm
    rw [et]
    have : (x ∈ (drv :: ab gs i).take j ++ [z]) ↔ x ∈ (drv :: ab gs i).take j := by simp [q]
    simp only [this]
theorem vm_sz {drv : Str} {gs : List (Addr × Rd)} {legs worth : Int} (l1 : 1 ≤ legs) (l12 : legs ≤ 12) (w1 : 1 ≤ worth) (w9 : worth ≤ 1000) (hn : gs.length ≤ 11) (i j : Nat) (x : Str) : Sz (1 + 11 * (i + 1)) (vm drv gs legs worth i j x) := by
  unfold vm
  split
  · exact val_sz l1 l12 w1 w9 hn (i + 1) x
  · exact (val_sz l1 l12 w1 w9 hn i x).mono (by omega)
/-- a dict by names -/
def dctO (l : List Str) (g : Str → V) : HO := .dK (l.map fun x => ((Sum.inr x : Key), g x))
theorem map_ne {l : List Str} {z : Str} (h : z ∉ l) {f g : Str → V} (e : ∀ x, x ≠ z → f x = g x) : (l.map fun x => ((Sum.inr x : Key), f x)) = l.map fun x => ((Sum.inr x : Key), g x) :=
  List.map_congr_left fun x hx => by rw [e x fun q => h (q ▸ hx)]
theorem nin_take {xs : List Str} (nd : xs.Nodup) {i : Nat} {z : Str} (h : xs[i]? = some z) : z ∉ xs.take i := fun hm => by
  obtain ⟨j, hj, e⟩ := List.mem_iff_getElem.mp hm
  rw [List.getElem_take] at e
  rw [List.length_take] at hj
  have e3 : xs[j]? = xs[i]? := by rw [h, List.getElem?_eq_getElem (by omega), e]
  have := (List.getElem?_inj (by omega) nd).mp e3
  omega
/-- Shares by names -/
def DS (C : Addr) (H : Hp) (D : Addr) (xs : List Str) (v : Str → Rat) : Prop := ∃ ad : Str → Addr, H D = some (dctO xs fun x => .ref (ad x)) ∧ ∀ x ∈ xs, Sh C H (ad x) (pr (v x))
theorem DS.same {C : Addr} {H H' : Hp} {D : Addr} {xs : List Str} {v : Str → Rat} (h : DS C H D xs v) (s : Same H H') : DS C H' D xs v := by
  obtain ⟨ad, e, a⟩ := h
  exact ⟨ad, s _ _ e, fun x hx => (a x hx).keep s⟩
theorem DS.congr {C : Addr} {H : Hp} {D : Addr} {xs : List Str} {v u : Str → Rat} (h : DS C H D xs v) (e : ∀ x, v x = u x) : DS C H D xs u := by
  have : v = u := funext e
  rw [← this]
  exact h
/-- one share put over -/
theorem DS.put {C : Addr} {H : Hp} {D q : Addr} {xs : List Str} {v : Str → Rat} {z : Str} {r : Rat} {ad : Str → Addr} (hd : H D = some (dctO xs fun x => .ref (ad x))) (ha : ∀ x ∈ xs, Sh C H (ad x) (pr (v x))) (hz : z ∈ xs) (hq : Sh C H q (pr r)) :
    DS C (upd H D (.dK (putK (xs.map fun x => ((Sum.inr x : Key), V.ref (ad x))) (Sum.inr z) (.ref q)))) D xs (fun x => if x = z then r else v x) := by
  have keep : ∀ {p : Addr} {u : Int × Int} {o : HO}, Sh C H p u → Sh C (upd H D o) p u := fun {p u o} ⟨dp, hp⟩ => ⟨dp, by
    rw [upd_ne (fun e => by rw [e, hd] at hp; cases hp)]
    exact hp⟩
  refine ⟨fun x => if x = z then q else ad x, ?_, fun x hx => ?_⟩
  · rw [upd_same, DQ.put_old (fun x => V.ref (ad x)) hz]
    unfold dctO
    refine congrArg (fun l => some (HO.dK l)) (List.map_congr_left fun x _ => ?_)
    show ((Sum.inr x : Key), if x = z then V.ref q else V.ref (ad x)) = (Sum.inr x, V.ref (if x = z then q else ad x))
    by_cases e : x = z
    · rw [if_pos e, if_pos e]
    · rw [if_neg e, if_neg e]
  · show Sh C _ (if x = z then q else ad x) (pr (if x = z then r else v x))
    by_cases e : x = z
    · rw [if_pos e, if_pos e]
      exact keep hq
    · rw [if_neg e, if_neg e]
      exact keep (ha x hx)
section
variable {P : Program} {w : World} {K : PySem.W.Frag} {mg : Str → Option Value} {base : Heap} {f C CR : Addr} {fd : FuncData}
def spPt (C CR : Addr) : Sp := fun vs H Q _ => ∃ (rp : Addr) (day : Int) (drv : Str) (gs : List (Addr × Rd)) (legs worth : Int) (lt ls : List Str), vs = [.ref rp] ∧ Rid CR H rp day drv gs legs worth ls ∧ WayOk day drv gs legs worth lt ∧
  ∀ (D : Addr) (ys : List Str) (H' : Hp), Same H H' → H D = none → ys.Perm (drv :: nms gs) → DS C H' D ys (val drv gs legs worth legs.toNat) → Q (.ref D) H'
theorem ok_pt (F : Dn K d_Ride_parts f fd) (b : Bl mg) (T : ClR K mg CR) (TS : Cl K mg C) (M1 : MakS1 P w K mg base C) (MS : MakS P w K mg base C) (mF : Met P w K mg base 1 CR "folk" (spFo CR) []) (mP : Met P w K mg base 4 C "plus" (sp2 C (· + ·)) []) : FnOk P w K mg base CX0 5 f fd ["self"] (spPt C CR) := by
  refine F.ok sc_Ride_parts (fun vs H Q E h => ?_) (fun cdv A outer s H vs Q E hr h => ?_)
  · obtain ⟨rp, day, drv, gs, legs, worth, lt, ls, rfl, _⟩ := h
    rfl
  · obtain ⟨rp, day, drv, gs, legs, worth, lt, ls, rfl, rid, ok, hQ⟩ := h
    have hu := hu_of hr
    have len := ok.rd.len
    obtain ⟨l1, l12, w1, w9⟩ := And.intro ok.l1 (And.intro ok.l12 (And.intro ok.w1 ok.w9))
    refine ⟨_, PSs.nox (pss_cons (SDC.ps_setDc (i := 2) (own := [("name", 1)]) (g := gName 1) (tt := tYes) rfl sc_Ride_parts.nd rfl rfl (SDC.sw_true rfl rfl rfl (by decide +kernel)) (pi_list (pe_mt0 mF hr (by decide) (pv 0))) (blkOk_by (N := N_Ride_parts) (sc := defScope s_Ride_parts) (by decide +kernel))
        (fun _ _ _ _ _ => pg_name (i := 1) sc_Ride_parts.nd rfl (.inl rfl)) (fun _ _ _ _ _ => pts_nil) (fun _ _ _ _ _ => pv 1) (fun _ _ _ _ _ => pe_mk M1 hr (by decide) rfl (pa_cons pe_int pa_nil)))
      (pss_cons (ps_for PassesOwn.never rfl (pi_range1 rfl b.range (pa_cons (pe_fld (pv 0) rfl) pa_nil)) (pg_name (i := 3) sc_Ride_parts.nd rfl (.inr rfl))
        (C8.pss_cut (ps_set (i := 4) sc_Ride_parts.nd rfl (.inl rfl) (pe_op op_cat (pe_lst (pa_cons (pe_fld (pv 0) rfl) pa_nil))
          (pe_lc (own := [("name", 1), ("on", 6), ("off", 7)]) (g := gTup K 3 (gCons (gName 1) (gCons (gName 6) (gCons (gName 7) gNil)))) rfl sc_Ride_parts.nd (pi_list (pe_fld (pv 0) rfl)) (blkOk_by (N := N_Ride_parts) (sc := defScope s_Ride_parts) (by decide +kernel))
            (fun _ _ _ _ _ => pg_tup rfl (pgs_cons (pg_name (i := 1) sc_Ride_parts.nd rfl (.inl rfl)) (pgs_cons (pg_name (i := 6) sc_Ride_parts.nd rfl (.inl rfl)) (pgs_cons (pg_name (i := 7) sc_Ride_parts.nd rfl (.inl rfl)) pgs_nil)))) (fun _ _ _ _ _ => pts_one (pt_chain op_le op_lt (pv 6) (pv 3) (pv 7))) (fun _ _ _ _ _ => pv 1))))
        (pss_cons (ps_set (i := 5) sc_Ride_parts.nd rfl (.inl rfl) (pe_mk MS hr (by decide) rfl (pa_cons (pe_fld (pv 0) rfl) (pa_cons (pe_op op_mul (pe_fld (pv 0) rfl) (pe_callB call_len_seq rfl b.len boot_len (pa_cons (pv 4) pa_nil))) pa_nil))))
        (pss_one (ps_for PassesOwn.never rfl (pi_list (pv 4)) (pg_name (i := 1) sc_Ride_parts.nd rfl (.inl rfl))
          (pss_one (ps_dput hu (pv 2) (pv 1) (pe_mt mP hr (by decide) (pe_dget hu (pv 2) (pv 1) (fun _ _ => rfl)) (pa_cons (pv 5) pa_nil)) rfl)))))))
      (pss_one (ps_ret (pv 2))))), ?_⟩
    obtain ⟨dx, sl, lc, hrp, fk, hlc⟩ := id rid
    refine ⟨_, rfl, rp, dx, _, rfl, hrp, r_folk, rp, day, drv, gs, legs, worth, ls, rfl, rid, len, fun o ys H1 s1 fo ho pm _ => ?_⟩
    have ynd : ys.Nodup := pm.nodup_iff.mpr ok.rd.nd
    have yl : ys.length ≤ 12 := by rw [pm.length_eq, List.length_cons]; unfold nms; rw [List.length_map]; omega
    refine ⟨o, rfl, ⟨_, SqL.of ho⟩, fun D hD => SDC.dc_list (K := K) (xs := ys.map V.str) (fun i H2 => DS C H2 D (ys.take i) (fun _ => 0) ∧ Same H1 H2) ⟨⟨fun _ => 0, upd_same, fun x hx => by simp at hx⟩, same_new hD⟩ (fun _ H2 _ z => SqL.of (z.2 _ _ ho)) ?_ ?_⟩
    · rintro i x H2 hx ⟨⟨ad, hdd, hval⟩, sm⟩
      have hi' : i < ys.length := by
        have := (List.getElem?_eq_some_iff.mp hx).1
        simpa using this
      rw [List.getElem?_map] at hx
      obtain ⟨z, hz, rfl⟩ := Option.map_eq_some_iff.mp hx
      have nz := nin_take ynd hz
      have et : ys.take (i + 1) = ys.take i ++ [z] := by rw [List.take_succ, hz]; rfl
      refine ⟨rfl, ?_⟩
      refine ⟨_, rfl, ?_⟩
      intro q dq nq nd ne
      refine mk_in (n := 10) nq nd (by decide) (by decide) (by decide) (by decide) fun H3 s3 hq => ⟨rfl, ?_⟩
      have hD3 := s3 _ _ hdd
      have e0 : Rat.divInt 0 1 = 0 := by decide +kernel
      rw [e0] at hq
      refine ⟨_, Sum.inr z, rfl, hD3, ?_, ⟨fun x => if x = z then q else ad x, ?_, ?_⟩, ?_⟩
      · rw [List.length_map, List.length_take]
        exact Nat.lt_of_lt_of_le (by omega : min i ys.length < 64) (by decide)
      · rw [upd_same, et]
        have e1 : (ys.take i).map (fun x => ((Sum.inr x : Key), V.ref (ad x))) = (ys.take i).map fun x => ((Sum.inr x : Key), V.ref (if x = z then q else ad x)) := map_ne nz fun x n => by rw [if_neg n]
        unfold dctO
        rw [e1]
        have e2 := DQ.put_new (fun x => V.ref (if x = z then q else ad x)) nz
        rw [if_pos rfl] at e2
        rw [e2]
      · have keep : ∀ {p : Addr} {v : Int × Int} {o : HO}, Sh C H3 p v → Sh C (upd H3 D o) p v := fun {p v o} ⟨dp, hp⟩ => ⟨dp, by
          rw [upd_ne (fun e => by rw [e, hD3] at hp; cases hp)]
          exact hp⟩
        intro x hx
        rw [et] at hx
        show Sh C _ (if x = z then q else ad x) (pr 0)
        rcases List.mem_append.mp hx with hx | hx
        · have n : x ≠ z := fun e => nz (e ▸ hx)
          rw [if_neg n]
          exact keep ((hval x hx).keep s3)
        · rw [List.mem_singleton] at hx
          rw [hx, if_pos rfl]
          exact keep hq
      · intro a o e
        rw [upd_ne (ne_of_none e hD)]
        exact s3 a o (sm a o e)
    rintro H2 ⟨ds, sm⟩
    rw [List.length_map, List.take_length] at ds
    have s02 := s1.trans sm
    have fDH : H D = none := s1.free hD
    refine ⟨_, rfl, rp, CR, dx, _, _, rfl, s02 _ _ hrp, T.cl, T.nl, r_legs, _, rfl, by omega, by omega, ?_⟩
    refine for_range (n := legs.toNat) (fun i σ H3 => ∃ (v1 v3 v4 v5 v6 v7 : Option V), σ = [some (.ref rp), v1, some (.ref D), v3, v4, v5, v6, v7] ∧ DS C H3 D ys (val drv gs legs worth i) ∧ Same H H3)
      ⟨_, _, _, _, _, _, rfl, ds, s02⟩ ?_ ?_
    · rintro i σ H3 hi ⟨v1, v3, v4, v5, v6, v7, rfl, ds3, s3⟩
      have hrp3 := s3 _ _ hrp
      have and_ := ab_nd (l := i) ok.rd.nd
      have abl := ab_len gs i
      -- who is aboard
      refine ⟨fun σ' H' => ∃ (v1 v6 v7 : Option V) (al : Addr), σ' = [some (.ref rp), v1, some (.ref D), some (.int (0 + i)), some (.ref al), v5, v6, v7] ∧ H' al = some (.lst ((drv :: ab gs i).map V.str)) ∧ Same H3 H', ?_, ?_⟩
      · refine ⟨_, rfl, rp, CR, dx, _, _, rfl, hrp3, T.cl, T.nv, r_driver, by show 1 ≤ sizeLine; decide, fun d1 fd1 => ?_⟩
        have sd1 := same_new (o := .lst [.str drv]) fd1
        have fk4 := (fk.same s3).same sd1
        have hrp4 := sd1 _ _ hrp3
        have hd1 : (upd H3 d1 (.lst [.str drv])) d1 = some (.lst [.str drv]) := upd_same
        generalize upd H3 d1 (.lst [.str drv]) = H4 at sd1 fk4 hrp4 hd1
        refine ⟨_, rfl, rp, CR, dx, _, _, rfl, hrp4, T.cl, T.ns, r_st, sl, rfl, ⟨_, SqL.of fk4.1⟩, fun D2 hD2 => lc_list (K := K) (xs := gs.map fun z => V.ref z.1) (fun j H5 => H5 D2 = some (.lst ((ab (gs.take j) i).map V.str)) ∧ Same H4 H5) ⟨upd_same, same_new hD2⟩ (fun _ H5 _ z => SqL.of (z.2 _ _ fk4.1)) ?_ ?_⟩
        · rintro j x H5 hx ⟨hd, sm⟩
          have hj' : j < gs.length := by
            have := (List.getElem?_eq_some_iff.mp hx).1
            simpa using this
          rw [List.getElem?_map] at hx
          obtain ⟨y, hy, rfl⟩ := Option.map_eq_some_iff.mp hx
          have hm := List.mem_of_getElem? hy
          have et : gs.take (j + 1) = gs.take j ++ [y] := by rw [List.take_succ, hy]; rfl
          have eab : ab (gs.take (j + 1)) i = ab (gs.take j) i ++ (if on i y then [y.2.1] else []) := by
            rw [et]
            unfold ab nms
            rw [List.filter_append, List.map_append]
            by_cases q : on i y = true
            · rw [if_pos q, List.filter_cons_of_pos q]
              rfl
            · rw [if_neg q, List.filter_cons_of_neg q]
              rfl
          refine ⟨y.1, _, rfl, SqT.of (sm _ _ (fk4.2 y hm)), rfl, _, _, rfl, _, _, rfl, _, _, rfl, rfl, rfl, ?_⟩
          have ei : ((0 : Int) + (i : Int)) = (i : Int) := by omega
          refine ⟨_, rfl, _, rfl, _, _, rfl, rfl, _, rfl, ?_⟩
          have yes : y.2.2.1 ≤ 0 + (i : Int) → 0 + (i : Int) < y.2.2.2 → H5 D2 = some (.lst ((ab (gs.take j) i).map V.str)) → ∃ acc : List V, H5 D2 = some (.lst acc) ∧ acc.length < sizeLine ∧ ((upd H5 D2 (.lst (acc ++ [.str y.2.1]))) D2 = some (.lst ((ab (gs.take (j + 1)) i).map V.str)) ∧ Same H4 (upd H5 D2 (.lst (acc ++ [.str y.2.1])))) := fun q1 q2 hd => by
            have hq : on i y = true := by unfold on; exact decide_eq_true ⟨by omega, by omega⟩
            refine ⟨_, hd, ?_, ?_, ?_⟩
            · rw [List.length_map]
              exact Nat.lt_of_le_of_lt (ab_len _ _) (by rw [List.length_take]; exact Nat.lt_of_lt_of_le (by omega : min j gs.length < 64) (by decide))
            · rw [upd_same, eab, if_pos hq, List.map_append]
              rfl
            · intro a o e
              rw [upd_ne (ne_of_none e hD2)]
              exact sm a o e
          have no : ¬ (y.2.2.1 ≤ 0 + (i : Int) ∧ 0 + (i : Int) < y.2.2.2) → H5 D2 = some (.lst ((ab (gs.take (j + 1)) i).map V.str)) ∧ Same H4 H5 := fun q => by
            have hq : ¬ on i y = true := by unfold on; exact fun z => q (by have := of_decide_eq_true z; exact ⟨by omega, by omega⟩)
            rw [eab, if_neg hq, List.append_nil]
            exact ⟨hd, sm⟩
          refine ite2 (fun q1 => ?_) (fun q1 => ?_)
          · have q1' := of_decide_eq_true q1
            refine ⟨_, rfl, _, _, rfl, rfl, _, rfl, ?_⟩
            refine ite2 (fun q2 => ?_) (fun q2 => ?_)
            · exact ⟨_, rfl, yes q1' (of_decide_eq_true q2) hd⟩
            · exact no fun z => q2 (decide_eq_true z.2)
          · exact ⟨_, rfl, iteF (no fun z => q1 (decide_eq_true z.1))⟩
        rintro H5 ⟨hd2, sm2⟩
        rw [List.length_map, List.take_length] at hd2
        refine ⟨d1, D2, _, _, rfl, rfl, sm2 _ _ hd1, hd2, ?_, fun p fp => ?_⟩
        · rw [List.length_map]
          exact Nat.le_trans (by show 1 + (ab gs i).length ≤ 64; omega) (by decide)
        exact ⟨_, _, _, p, rfl, upd_same, (sd1.trans sm2).trans (same_new fp)⟩
      rintro σ' H4 ⟨v1', v6', v7', al, rfl, hal, s34⟩
      have s4 := s3.trans s34
      have hrp4 := s4 _ _ hrp
      obtain ⟨dn, dsm, dpos⟩ := div_sz (n := (ab gs i).length) l1 l12 w1 w9 (Nat.le_trans abl len)
      refine ⟨_, rfl, rp, CR, dx, _, _, rfl, hrp4, T.cl, T.nw, r_worth, _, rfl, rp, CR, dx, _, _, rfl, hrp4, T.cl, T.nl, r_legs, _, rfl, al, _, rfl, .inl (SqL.of hal), _, _, rfl, rfl, cb_l (by omega) (by omega), ?_⟩
      have elen : ((((drv :: ab gs i).map V.str).length : Nat) : Int) = (((ab gs i).length + 1 : Nat) : Int) := by rw [List.length_map, List.length_cons]
      rw [elen]
      intro q dq nq nd ne
      refine mk_in (n := 10) nq nd dn dsm (by decide) (by decide) fun H5 s5 hq => ⟨rfl, ?_⟩
      have hal5 := s5 _ _ hal
      have nDal : al ≠ D := fun z => by
        obtain ⟨ad, e, _⟩ := (ds3.same (s34.trans s5))
        rw [← z, hal5] at e
        cases e
      refine ⟨_, rfl, al, rfl, ⟨_, SqL.of hal5⟩, for_list (K := K) (xs := (drv :: ab gs i).map V.str) (fun j σ H6 => ∃ (v1 v6 v7 : Option V), σ = [some (.ref rp), v1, some (.ref D), some (.int (0 + i)), some (.ref al), some (.ref q), v6, v7] ∧ DS C H6 D ys (vm drv gs legs worth i j) ∧ (∀ a o, a ≠ D → H5 a = some o → H6 a = some o))
        ⟨_, _, _, rfl, ((ds3.same (s34.trans s5)).congr fun x => (vm_zero x).symm), fun _ _ _ e => e⟩ (fun j σ H6 _ z => by
          obtain ⟨_, _, _, _, _, k⟩ := z
          exact SqL.of (k _ _ nDal hal5)) ?_ ?_⟩
      · rintro j v σ H6 hj ⟨v1, v6, v7, rfl, ⟨ad, hdd, hval⟩, k6⟩
        rw [List.getElem?_map] at hj
        obtain ⟨z, hz, rfl⟩ := Option.map_eq_some_iff.mp hj
        have hzA := List.mem_of_getElem? hz
        have hzy : z ∈ ys := pm.mem_iff.mpr (by
          rcases List.mem_cons.mp hzA with e | e
          · rw [e]; exact List.mem_cons_self
          · exact List.mem_cons_of_mem _ (ab_sub z e))
        have dg : DGet H6 D (.str z) (some (.ref (ad z))) := by
          have := DGet.k (k := Sum.inr z) hdd
          rw [DQ.val_map (fun x => V.ref (ad x)) hzy] at this
          exact this
        obtain ⟨dz, hdz⟩ := id (hval z hzy)
        have nqD : q ≠ D := fun e => by
          obtain ⟨dq', hq'⟩ := hq
          obtain ⟨ad5, e5, _⟩ := ds3.same (s34.trans s5)
          rw [e, e5] at hq'
          cases hq'
        have hq6 : Sh C H6 q (pr (Rat.divInt worth (legs * ((ab gs i).length + 1 : Nat)))) := by
          obtain ⟨dq', hq'⟩ := hq
          exact ⟨dq', k6 _ _ nqD hq'⟩
        refine ⟨_, rfl, _, rfl, D, _, rfl, dg, ad z, dz, _, rfl, hdz, sh_plus _, _, rfl, ad z, q, _, _, 1 + 11 * (i + 1), rfl, hval z hzy, hq6, vm_sz l1 l12 w1 w9 len i j z, (part_sz l1 l12 w1 w9 (Nat.le_trans abl len)).mono (by omega), by omega, by omega, fun t H7 s7 ft ht => ?_⟩
        have hdd7 := s7 _ _ hdd
        refine ⟨_, rfl, _, rfl, D, _, rfl, DPut.k (k := Sum.inr z) hdd7 (by rw [List.length_map]; exact Nat.lt_of_lt_of_le (by omega : ys.length < 64) (by decide)), ?_⟩
        have dsn := DS.put (v := vm drv gs legs worth i j) hdd7 (fun x hx => (hval x hx).keep s7) hzy ht
        refine ⟨_, _, _, rfl, dsn.congr fun x => vm_step and_ hz x, fun a o na e => ?_⟩
        rw [upd_ne na]
        exact s7 _ _ (k6 a o na e)
      · rintro σ H6 ⟨v1, v6, v7, rfl, ds6, k6⟩
        rw [List.length_map] at ds6
        refine ⟨_, _, _, _, _, _, rfl, ds6.congr fun x => vm_end x, fun a o e => ?_⟩
        have na : a ≠ D := ne_of_none e fDH
        exact k6 a o na (s5 _ _ (s4 _ _ e))
    · rintro σ H3 ⟨v1, v3, v4, v5, v6, v7, rfl, ds3, s3⟩
      exact ⟨_, rfl, hQ D ys H3 s3 fDH pm ds3⟩
end
end K26
set_option Elab.async false
set_option linter.all false
set_option maxRecDepth 100000
set_option maxHeartbeats 4000000
namespace K26
open PySem PySem.Spec PyProof.Rows L2
open C8 (Cal Mak Met pe_c pe_mk pe_mt pe_mt0)
open KM (pr Sz)
open SX (S)
/-- pairs by names -/
def DL (H : Hp) (D : Addr) (xs : List Str) (v : Str → Rat) : Prop := ∃ ad : Str → Addr, H D = some (dctO xs fun x => .ref (ad x)) ∧ ∀ x ∈ xs, H (ad x) = some (tupP (pr (v x)))
theorem DL.same {H H' : Hp} {D : Addr} {xs : List Str} {v : Str → Rat} (h : DL H D xs v) (s : Same H H') : DL H' D xs v := by
  obtain ⟨ad, e, a⟩ := h
  exact ⟨ad, s _ _ e, fun x hx => s _ _ (a x hx)⟩
theorem DL.congr {H : Hp} {D : Addr} {xs : List Str} {v u : Str → Rat} (h : DL H D xs v) (e : ∀ x, v x = u x) : DL H D xs u := by
  have : v = u := funext e
  rw [← this]
  exact h
/-- a dict that is another one is written -/
theorem DL.other {H : Hp} {D D' : Addr} {kv : List (Key × V)} {xs : List Str} {v : Str → Rat} {o : HO} (h : DL H D xs v) (n : D ≠ D') (e : H D' = some (.dK kv)) : DL (upd H D' o) D xs v := by
  obtain ⟨ad, e1, a⟩ := h
  refine ⟨ad, by rw [upd_ne n]; exact e1, fun x hx => ?_⟩
  have := a x hx
  rw [upd_ne (fun z => by rw [z, e] at this; cases this)]
  exact this
theorem DS.other {C : Addr} {H : Hp} {D D' : Addr} {kv : List (Key × V)} {xs : List Str} {v : Str → Rat} {o : HO} (h : DS C H D xs v) (n : D ≠ D') (e : H D' = some (.dK kv)) : DS C (upd H D' o) D xs v := by
  obtain ⟨ad, e1, a⟩ := h
  refine ⟨ad, by rw [upd_ne n]; exact e1, fun x hx => ?_⟩
  obtain ⟨dx, hh⟩ := a x hx
  exact ⟨dx, by rw [upd_ne (fun z => by rw [z, e] at hh; cases hh)]; exact hh⟩
/-- one more pair -/
theorem DL.snoc {H : Hp} {D q : Addr} {xs : List Str} {v : Str → Rat} {z : Str} {ad : Str → Addr} (hd : H D = some (dctO xs fun x => .ref (ad x))) (ha : ∀ x ∈ xs, H (ad x) = some (tupP (pr (v x)))) (nz : z ∉ xs) (hq : H q = some (tupP (pr (v z)))) :
    DL (upd H D (.dK (putK (xs.map fun x => ((Sum.inr x : Key), V.ref (ad x))) (Sum.inr z) (.ref q)))) D (xs ++ [z]) v := by
  have keep : ∀ {p : Addr} {u : Int × Int} {o : HO}, H p = some (tupP u) → (upd H D o) p = some (tupP u) := fun {p u o} hp => by
    rw [upd_ne (fun e => by rw [e, hd] at hp; cases hp)]
    exact hp
  refine ⟨fun x => if x = z then q else ad x, ?_, fun x hx => ?_⟩
  · rw [upd_same]
    have e1 : xs.map (fun x => ((Sum.inr x : Key), V.ref (ad x))) = xs.map fun x => ((Sum.inr x : Key), V.ref (if x = z then q else ad x)) := map_ne nz fun x n => by rw [if_neg n]
    rw [e1]
    have e2 := DQ.put_new (fun x => V.ref (if x = z then q else ad x)) nz
    rw [if_pos rfl] at e2
    rw [e2]
    rfl
  · show (upd H D _) (if x = z then q else ad x) = _
    rcases List.mem_append.mp hx with hx | hx
    · rw [if_neg (show x ≠ z from fun e => nz (e ▸ hx))]
      exact keep (ha x hx)
    · rw [List.mem_singleton] at hx
      rw [if_pos hx, hx]
      exact keep hq
/-- one pair put over -/
theorem DL.put {H : Hp} {D q : Addr} {xs : List Str} {v : Str → Rat} {z : Str} {r : Rat} {ad : Str → Addr} (hd : H D = some (dctO xs fun x => .ref (ad x))) (ha : ∀ x ∈ xs, H (ad x) = some (tupP (pr (v x)))) (hz : z ∈ xs) (hq : H q = some (tupP (pr r))) :
    DL (upd H D (.dK (putK (xs.map fun x => ((Sum.inr x : Key), V.ref (ad x))) (Sum.inr z) (.ref q)))) D xs (fun x => if x = z then r else v x) := by
  have keep : ∀ {p : Addr} {u : Int × Int} {o : HO}, H p = some (tupP u) → (upd H D o) p = some (tupP u) := fun {p u o} hp => by
    rw [upd_ne (fun e => by rw [e, hd] at hp; cases hp)]
    exact hp
  refine ⟨fun x => if x = z then q else ad x, ?_, fun x hx => ?_⟩
  · rw [upd_same, DQ.put_old (fun x => V.ref (ad x)) hz]
    unfold dctO
    refine congrArg (fun l => some (HO.dK l)) (List.map_congr_left fun x _ => ?_)
    show ((Sum.inr x : Key), if x = z then V.ref q else V.ref (ad x)) = (Sum.inr x, V.ref (if x = z then q else ad x))
    by_cases e : x = z
    · rw [if_pos e, if_pos e]
    · rw [if_neg e, if_neg e]
  · show (upd H D _) (if x = z then q else ad x) = some (tupP (pr (if x = z then r else v x)))
    by_cases e : x = z
    · rw [if_pos e, if_pos e]
      exact keep hq
    · rw [if_neg e, if_neg e]
      exact keep (ha x hx)
section
variable {P : Program} {w : World} {K : PySem.W.Frag} {mg : Str → Option Value} {base : Heap} {f C CR : Addr} {fd : FuncData}
def spWo (C : Addr) : Sp := fun vs H Q _ => ∃ (D : Addr) (ys : List Str) (v : Str → Rat), vs = [.ref D] ∧ DS C H D ys v ∧ ys.Nodup ∧ ys.length ≤ 12 ∧
  ∀ (E : Addr) (H' : Hp), Same H H' → H E = none → DL H' E ys v → Q (.ref E) H'
end
end K26
set_option Elab.async false
set_option linter.all false
set_option maxRecDepth 100000
set_option maxHeartbeats 4000000
namespace K26
open PySem PySem.Spec PyProof.Rows L2
open C8 (Cal Mak Met pe_c pe_mk pe_mt pe_mt0)
open KM (pr Sz)
open SX (S)
/-- a way as a list -/
def Wy (H : Hp) (wp : Addr) (day : Int) (drv : Str) (fs : List (Addr × Rd)) (legs worth : Int) (lt : List Str) : Prop := ∃ fl sl, H wp = some (.lst [.int day, .str drv, .ref fl, .int legs, .int worth, .ref sl]) ∧ Fk H fl fs ∧ H sl = some (.lst (lt.map V.str))
theorem Wy.same {H H' : Hp} {wp : Addr} {day : Int} {drv : Str} {fs : List (Addr × Rd)} {legs worth : Int} {lt : List Str} (h : Wy H wp day drv fs legs worth lt) (s : Same H H') : Wy H' wp day drv fs legs worth lt := by
  obtain ⟨fl, sl, e, fk, e2⟩ := h
  exact ⟨fl, sl, s _ _ e, fk.same s, s _ _ e2⟩
theorem paired_map {α : Type} {R : Addr → Key × V → Prop} {g : α → Addr} {k : α → Key × V} : ∀ {l : List α}, (∀ x ∈ l, R (g x) (k x)) → Paired R (l.map g) (l.map k)
  | [], _ => .nil
  | x :: l, h => .cons (h x List.mem_cons_self) (paired_map fun y hy => h y (List.mem_cons_of_mem _ hy))
theorem pr0 : pr 0 = (0, 1) := by decide +kernel
section
variable {P : Program} {w : World} {K : PySem.W.Frag} {mg : Str → Option Value} {base : Heap} {f C CR : Addr} {fd : FuncData}
def spLP : Sp := fun vs H Q _ => ∃ (wp : Addr) (day : Int) (drv : Str) (fs : List (Addr × Rd)) (legs worth : Int) (lt : List Str), vs = [.ref wp] ∧ Wy H wp day drv fs legs worth lt ∧ WayOk day drv fs legs worth lt ∧
  ∀ (D : Addr) (H' : Hp), Same H H' → H D = none → DL H' D (drv :: nms fs) (val drv fs legs worth legs.toNat) → Q (.ref D) H'
/-- Ride of a way -/
def spMd (CR : Addr) : Sp := fun vs H Q _ => ∃ (wp : Addr) (day : Int) (drv : Str) (fs : List (Addr × Rd)) (legs worth : Int) (lt : List Str), vs = [.ref wp] ∧ Wy H wp day drv fs legs worth lt ∧ WayOk day drv fs legs worth lt ∧
  ∀ (rp : Addr) (gs : List (Addr × Rd)) (ls : List Str) (H' : Hp), Same H H' → H rp = none → gs.Perm fs → ls.Perm lt → RidF CR H H' rp day drv gs legs worth ls → Q (.ref rp) H'
theorem ok_md (F : Dn K d_l_made f fd) (MR : Mak P w K mg base 5 "Ride" CR (spRI CR) []) : FnOk P w K mg base CX0 7 f fd ["_law_way_here"] (spMd CR) := by
  refine F.ok sc_l_made (fun vs H Q E h => ?_) (fun cdv A outer s H vs Q E hr h => ?_)
  · obtain ⟨wp, day, drv, fs, legs, worth, lt, rfl, _⟩ := h
    rfl
  · obtain ⟨wp, day, drv, fs, legs, worth, lt, rfl, ⟨fl, sl, hw, fk, hsl⟩, ok, hQ⟩ := h
    refine ⟨_, PSs.nox (pss_one (ps_ret (pe_mk MR hr (by decide) rfl (pa_cons (pe_ix ix_list (pv 0) pe_int (fun _ _ => rfl)) (pa_cons (pe_ix ix_list (pv 0) pe_int (fun _ _ => rfl)) (pa_cons (pe_ix ix_list (pv 0) pe_int (fun _ _ => rfl)) (pa_cons (pe_ix ix_list (pv 0) pe_int (fun _ _ => rfl)) (pa_cons (pe_ix ix_list (pv 0) pe_int (fun _ _ => rfl)) (pa_cons (pe_ix ix_list (pv 0) pe_int (fun _ _ => rfl)) pa_nil))))))))), ?_⟩
    refine ⟨_, rfl, wp, _, _, _, rfl, rfl, SqL.of hw, rfl, _, rfl, wp, _, _, _, rfl, rfl, SqL.of hw, rfl, _, rfl, wp, _, _, _, rfl, rfl, SqL.of hw, rfl, _, rfl, wp, _, _, _, rfl, rfl, SqL.of hw, rfl, _, rfl, wp, _, _, _, rfl, rfl, SqL.of hw, rfl, _, rfl, wp, _, _, _, rfl, rfl, SqL.of hw, rfl, ?_⟩
    exact mk_ride (.inr ⟨fl, rfl, fk⟩) (.inr ⟨sl, rfl, hsl⟩) ok hQ
end
end K26
set_option Elab.async false
set_option linter.all false
set_option maxRecDepth 100000
set_option maxHeartbeats 4000000
namespace K26
open PySem PySem.Spec PyProof.Rows L2
open C8 (Cal Mak Met pe_c pe_mk pe_mt pe_mt0)
open KM (pr Sz)
open SX (S)
theorem S_inj {a b : List Nat} (h : S a = S b) : a = b := by
  have := congrArg (fun s : Str => s.cps.toList) h
  simpa [S] using this
theorem at3 {a b c : V} {r : Int} (h0 : 0 ≤ r) (h1 : r < 3) : ∃ v, atI [a, b, c] r = some v ∧ (v = a ∨ v = b ∨ v = c) := by
  rcases (show r = 0 ∨ r = 1 ∨ r = 2 by omega) with rfl | rfl | rfl
  · exact ⟨a, rfl, .inl rfl⟩
  · exact ⟨b, rfl, .inr (.inl rfl)⟩
  · exact ⟨c, rfl, .inr (.inr rfl)⟩
theorem at4 {a b c d : V} {r : Int} (h0 : 0 ≤ r) (h1 : r < 4) : ∃ v, atI [a, b, c, d] r = some v ∧ (v = a ∨ v = b ∨ v = c ∨ v = d) := by
  rcases (show r = 0 ∨ r = 1 ∨ r = 2 ∨ r = 3 by omega) with rfl | rfl | rfl | rfl
  · exact ⟨a, rfl, .inl rfl⟩
  · exact ⟨b, rfl, .inr (.inl rfl)⟩
  · exact ⟨c, rfl, .inr (.inr (.inl rfl))⟩
  · exact ⟨d, rfl, .inr (.inr (.inr rfl))⟩
theorem cut_nat (xs : List V) (a b : Nat) (ha : a ≤ xs.length) (hb : b ≤ xs.length) : cutV xs (some (a : Int)) (some (b : Int)) = (xs.drop a).take (b - a) := by
  unfold cutV
  rw [HT.sIx_nat, HT.sIx_nat, Nat.min_eq_left ha, Nat.min_eq_left hb]
theorem cut_to (xs : List V) (b : Nat) (hb : b ≤ xs.length) : cutV xs none (some (b : Int)) = xs.take b := by
  unfold cutV
  rw [HT.sIx_none, HT.sIx_nat, Nat.min_eq_left hb]
  simp
theorem cut_from (xs : List V) (a : Nat) (ha : a ≤ xs.length) : cutV xs (some (a : Int)) none = xs.drop a := by
  unfold cutV
  rw [HT.sIx_none, HT.sIx_nat, Nat.min_eq_left ha, List.take_of_length_le]
  rw [List.length_drop]
  omega
/-- what is no pen -/
theorem Pen.ne {H : Hp} {p a : Addr} {c : Nat} {o : HO} (x : Pen H p c) (e : H a = some o) (no : ∀ l n m, o ≠ .lst (penL l n m)) : a ≠ p := fun z => by
  obtain ⟨l, ns, n, m, h1, _⟩ := x
  rw [z, h1] at e
  exact no _ _ _ (Option.some.inj e).symm
theorem no_strs (xs : List Str) (l : Addr) (n m : Int) : HO.lst (xs.map V.str) ≠ .lst (penL l n m) := fun e => by
  injection e with e
  cases xs with
  | nil => cases e
  | cons x xs =>
    injection e with e _
    cases e
theorem no_refs (xs : List Addr) (l : Addr) (n m : Int) : HO.lst (xs.map V.ref) ≠ .lst (penL l n m) := fun e => by
  injection e with e
  match xs, e with
  | [], e => cases e
  | [_], e => injection e with _ e; cases e
  | _ :: _ :: _, e =>
    injection e with _ e
    injection e with e _
    cases e
theorem no_fs (fs : List (Addr × Rd)) (l : Addr) (n m : Int) : HO.lst (fs.map fun z => V.ref z.1) ≠ .lst (penL l n m) := by
  have := no_refs (fs.map (·.1)) l n m
  rw [List.map_map] at this
  exact this
theorem no_wy {a b c d e f : V} (l : Addr) (n m : Int) : HO.lst [a, b, c, d, e, f] ≠ .lst (penL l n m) := fun q => by
  injection q with q
  injection q with _ q
  injection q with _ q
  injection q with _ q
  cases q
theorem Fk.kp {H H' : Hp} {p fl : Addr} {fs : List (Addr × Rd)} {c : Nat} (h : Fk H fl fs) (x : Pen H p c) (k : Kp p H H') : Fk H' fl fs :=
  ⟨k.1 _ _ h.1 (x.ne h.1 (no_fs fs)), fun z hz => k.1 _ _ (h.2 z hz) (x.ne (h.2 z hz) fun _ _ _ q => by cases q)⟩
theorem Wy.kp {H H' : Hp} {p wp : Addr} {day : Int} {drv : Str} {fs : List (Addr × Rd)} {legs worth : Int} {lt : List Str} {c : Nat} (h : Wy H wp day drv fs legs worth lt) (x : Pen H p c) (k : Kp p H H') : Wy H' wp day drv fs legs worth lt := by
  obtain ⟨fl, sl, e, fk, e2⟩ := h
  exact ⟨fl, sl, k.1 _ _ e (x.ne e no_wy), fk.kp x k, k.1 _ _ e2 (x.ne e2 (no_strs lt))⟩
theorem Kp.free {p t : Addr} {H H' : Hp} {c : Nat} (k : Kp p H H') (pn : Pen H' p c) (f : H' t = none) : H t = none := by
  cases e : H t with
  | none => rfl
  | some o =>
    by_cases z : t = p
    · rw [z] at f
      obtain ⟨l, ns, n, m, h1, _⟩ := pn
      rw [h1] at f
      cases f
    · rw [k.1 t o e z] at f
      cases f
section
variable {P : Program} {w : World} {K : PySem.W.Frag} {mg : Str → Option Value} {base : Heap} {f C CR : Addr} {fd : FuncData}
/-- a way that is new, its lists too -/
def WyF (H0 H : Hp) (wp : Addr) (day : Int) (drv : Str) (fs : List (Addr × Rd)) (legs worth : Int) (lt : List Str) : Prop := ∃ fl sl, H wp = some (.lst [.int day, .str drv, .ref fl, .int legs, .int worth, .ref sl]) ∧ Fk H fl fs ∧ H sl = some (.lst (lt.map V.str)) ∧ H0 fl = none ∧ H0 sl = none
def spWay : Sp := fun vs H Q _ => ∃ (p : Addr) (c : Nat), vs = [.ref p] ∧ Pen H p (c + 200) ∧
  ∀ (wp : Addr) (day : Int) (drv : Str) (fs : List (Addr × Rd)) (legs worth : Int) (lt : List Str) (H' : Hp), Pen H' p c → Kp p H H' → H wp = none → WyF H H' wp day drv fs legs worth lt → WayOk day drv fs legs worth lt → Q (.ref wp) H'
theorem ok_way (F : Dn K d_l_way f fd) (b : Bl mg) (cD : CalD P w K mg base) (cNm : Cal P w K mg base 2 "_law_names" spNames []) : FnOk P w K mg base CX0 3 f fd ["_law_pen_here"] spWay := by
  refine F.ok sc_l_way (fun vs H Q E h => ?_) (fun cdv A outer s H vs Q E hr h => ?_)
  · obtain ⟨p, c, rfl, _⟩ := h
    rfl
  · obtain ⟨p, c, rfl, pen0, hQ⟩ := h
    refine ⟨_, PSs.nox (C8.pss_cut (ps_par (i := 1) (j := 2) rfl sc_l_way.nd rfl rfl (by decide) rfl rfl (pa_cons (pe_c cNm hr (by decide) rfl (pa_cons (pv 0) (pa_cons pe_int pa_nil))) (pa_cons (pe_ix ix_list (pe_lst (pa_cons pe_int (pa_cons (pe_op op_add pe_int (pe_c cD hr (by decide) rfl (pa_cons (pv 0) (pa_cons pe_int pa_nil)))) (pa_cons pe_int pa_nil)))) (pe_c cD hr (by decide) rfl (pa_cons (pv 0) (pa_cons pe_int pa_nil))) (fun _ _ => rfl)) pa_nil)) rfl)
      (C8.pss_cut (ps_set (i := 3) sc_l_way.nd rfl (.inl rfl) (pe_ix ix_list (pe_lst (pa_cons pe_int (pa_cons pe_int (pa_cons (pe_c cD hr (by decide) rfl (pa_cons (pv 0) (pa_cons pe_int pa_nil))) (pa_cons (pe_c cD hr (by decide) rfl (pa_cons (pv 0) (pa_cons pe_int pa_nil))) pa_nil))))) (pe_c cD hr (by decide) rfl (pa_cons (pv 0) (pa_cons pe_int pa_nil))) (fun _ _ => rfl)))
      (pss_cons (ps_par (i := 4) (j := 5) rfl sc_l_way.nd rfl rfl (by decide) rfl rfl (pa_cons (pe_lst pa_nil) (pa_cons (pe_lst pa_nil) pa_nil)) rfl)
      (C8.pss_cut (ps_for PassesOwn.never rfl (pi_list (pe_slice sl_list (pv 1) (po_some pe_int) (po_some (pe_op op_add pe_int (pe_ix ix_list (pe_lst (pa_cons (pe_c cD hr (by decide) rfl (pa_cons (pv 0) (pa_cons pe_int pa_nil))) (pa_cons (pe_c cD hr (by decide) rfl (pa_cons (pv 0) (pa_cons pe_int pa_nil))) (pa_cons pe_int pa_nil)))) (pe_c cD hr (by decide) rfl (pa_cons (pv 0) (pa_cons pe_int pa_nil))) (fun _ _ => rfl)))))) (pg_name (i := 6) sc_l_way.nd rfl (.inl rfl))
        (pss_cons (ps_set (i := 7) sc_l_way.nd rfl (.inl rfl) (pe_c cD hr (by decide) rfl (pa_cons (pv 0) (pa_cons (pv 2) pa_nil))))
        (pss_cons (ps_expr (pe_bm PySem.F.plainAttrs_list PySem.F.slot_list_insert PySem.F.type_list_insert mt_insert (pv 4) (pa_cons (pe_c cD hr (by decide) rfl (pa_cons (pv 0) (pa_cons (pe_op op_add (pe_callB call_len_seq rfl b.len boot_len (pa_cons (pv 4) pa_nil)) pe_int) pa_nil)))
            (pa_cons (pe_tup (pa_cons (pv 6) (pa_cons (pv 7) (pa_cons (pe_op op_add (pe_op op_add (pv 7) pe_int) (pe_c cD hr (by decide) rfl (pa_cons (pv 0) (pa_cons (pe_op op_sub (pv 2) (pv 7)) pa_nil)))) pa_nil)))) pa_nil))))
        (pss_one (ps_if (pt_cmpR op_eq (pe_c cD hr (by decide) rfl (pa_cons (pv 0) (pa_cons pe_int pa_nil))) pe_int (nomark _))
          (pss_one (ps_expr (pe_bm PySem.F.plainAttrs_list PySem.F.slot_list_insert PySem.F.type_list_insert mt_insert (pv 5) (pa_cons (pe_c cD hr (by decide) rfl (pa_cons (pv 0) (pa_cons (pe_op op_add (pe_callB call_len_seq rfl b.len boot_len (pa_cons (pv 5) pa_nil)) pe_int) pa_nil))) (pa_cons (pv 6) pa_nil))))) pss_nil)))))
      (C8.pss_cut (ps_set (i := 8) sc_l_way.nd rfl (.inl rfl) (pe_ix ix_list (pe_lst (pa_cons pe_int (pa_cons (pe_op op_add pe_int (pe_c cD hr (by decide) rfl (pa_cons (pv 0) (pa_cons pe_int pa_nil)))) (pa_cons pe_int (pa_cons (pe_op op_add pe_int (pe_c cD hr (by decide) rfl (pa_cons (pv 0) (pa_cons pe_int pa_nil)))) pa_nil))))) (pe_c cD hr (by decide) rfl (pa_cons (pv 0) (pa_cons pe_int pa_nil))) (fun _ _ => rfl)))
      (pss_one (ps_ret (pe_lst (pa_cons (pv 3) (pa_cons (pe_ix ix_list (pv 1) pe_int (fun _ _ => rfl)) (pa_cons (pv 4) (pa_cons (pv 2) (pa_cons (pv 8) (pa_cons (pv 5) pa_nil)))))))))))))), ?_⟩
    -- names and legs
    refine ⟨fun σ' H' => ∃ (ko : Addr) (xs : List Str) (legs : Int), σ' = [some (.ref p), some (.ref ko), some (.int legs), none, none, none, none, none, none] ∧ H' ko = some (.lst (xs.map V.str)) ∧ xs.length = 12 ∧ (∀ x ∈ xs, ∃ l, x = S l ∧ NM.ok l) ∧ xs.Nodup ∧ 1 ≤ legs ∧ legs ≤ 12 ∧ Pen H' p (c + 150) ∧ Kp p H H', ?_, ?_⟩
    · refine ⟨_, rfl, p, c + 160, 12, rfl, pen0, by decide, fun ko zs H1 pen1 k1 fko offk hko zl zok zpw => ?_⟩
      refine ⟨_, rfl, p, c + 159, 12, rfl, pen1, by decide, by decide, fun r2 H2 a2 b2 pen2 k2 => ⟨_, _, rfl, rfl, by show 3 ≤ sizeLine; decide, fun u fu => ?_⟩⟩
      have su := same_new (o := .lst [.int 1, .int (1 + r2), .int 12]) fu
      refine ⟨_, rfl, p, c + 158, 3, rfl, pen2.same su, by decide, by decide, fun r3 H3 a3 b3 pen3 k3 => ?_⟩
      have hu3 : H3 u = some (.lst [.int 1, .int (1 + r2), .int 12]) := k3.1 u _ upd_same (Off.of pen2 fu).ne
      obtain ⟨v, hv, hv3⟩ := at3 (a := .int 1) (b := .int (1 + r2)) (c := .int 12) a3 b3
      obtain ⟨lg, rfl, g1, g2⟩ : ∃ x : Int, v = .int x ∧ 1 ≤ x ∧ x ≤ 12 := by
        rcases hv3 with rfl | rfl | rfl
        · exact ⟨_, rfl, by decide, by decide⟩
        · exact ⟨_, rfl, by omega, by omega⟩
        · exact ⟨_, rfl, by decide, by decide⟩
      refine ⟨u, _, _, _, rfl, rfl, SqL.of hu3, hv, _, _, rfl, ko, zs.map S, lg, rfl, ?_, by rw [List.length_map]; exact zl, ?_, ?_, g1, g2, pen3.weak (by omega), ((k1.trans k2).trans (Kp.same su)).trans k3⟩
      · rw [List.map_map]
        have n1 := offk.ne
        exact k3.1 _ _ (su _ _ (k2.1 _ _ hko n1)) n1
      · intro x hx
        obtain ⟨z, hz, rfl⟩ := List.mem_map.mp hx
        exact ⟨z, rfl, zok z hz⟩
      · exact List.pairwise_map.mpr (zpw.imp fun h e => h (S_inj e))
    rintro σ' H1 ⟨ko, xs, legs, rfl, hko, xl, xok, xnd, g1, g2, pen1, k01⟩
    -- the day
    refine ⟨fun σ' H' => ∃ (day : Int), σ' = [some (.ref p), some (.ref ko), some (.int legs), some (.int day), none, none, none, none, none] ∧ H' ko = some (.lst (xs.map V.str)) ∧ 0 ≤ day ∧ day ≤ 1000000 ∧ Pen H' p (c + 145) ∧ Kp p H H', ?_, ?_⟩
    · refine ⟨_, rfl, p, c + 149, 1000001, rfl, pen1, by decide, by decide, fun r2 H2 a2 b2 pen2 k2 => ?_⟩
      refine ⟨_, rfl, p, c + 148, 40, rfl, pen2, by decide, by decide, fun r3 H3 a3 b3 pen3 k3 => ⟨by show 4 ≤ sizeLine; decide, fun u fu => ?_⟩⟩
      have su := same_new (o := .lst [.int 0, .int 1000000, .int r2, .int r3]) fu
      refine ⟨_, rfl, p, c + 147, 4, rfl, pen3.same su, by decide, by decide, fun r4 H4 a4 b4 pen4 k4 => ?_⟩
      have hu4 : H4 u = some (.lst [.int 0, .int 1000000, .int r2, .int r3]) := k4.1 u _ upd_same (Off.of pen3 fu).ne
      obtain ⟨v, hv, hv4⟩ := at4 (a := .int 0) (b := .int 1000000) (c := .int r2) (d := .int r3) a4 b4
      obtain ⟨dy, rfl, d1, d2⟩ : ∃ x : Int, v = .int x ∧ 0 ≤ x ∧ x ≤ 1000000 := by
        rcases hv4 with rfl | rfl | rfl | rfl
        · exact ⟨_, rfl, by decide, by decide⟩
        · exact ⟨_, rfl, by decide, by decide⟩
        · exact ⟨_, rfl, by omega, by omega⟩
        · exact ⟨_, rfl, by omega, by omega⟩
      refine ⟨u, _, _, _, rfl, rfl, SqL.of hu4, hv, dy, rfl, ?_, d1, d2, pen4.weak (by omega), k01.trans (((k2.trans k3).trans (Kp.same su)).trans k4)⟩
      have n1 := pen1.ne hko (no_strs xs)
      exact k4.1 _ _ (su _ _ (k3.1 _ _ (k2.1 _ _ hko n1) n1)) n1
    clear pen1 hko k01
    rintro σ' H2 ⟨day, rfl, hko, d1, d2, pen2, k02⟩
    -- the lists
    refine ⟨by show 0 ≤ sizeLine; decide, fun fl ffl => ⟨by show 0 ≤ sizeLine; decide, fun sl fsl => ?_⟩⟩
    have s1 := same_new (o := .lst []) ffl
    have s2 := same_new (o := .lst []) fsl
    have hfl : (upd (upd H2 fl (.lst [])) sl (.lst [])) fl = some (.lst []) := s2 _ _ upd_same
    have hsl : (upd (upd H2 fl (.lst [])) sl (.lst [])) sl = some (.lst []) := upd_same
    have nfs : fl ≠ sl := ne_of_none upd_same fsl
    have s12 := s1.trans s2
    have off1 : Off p fl (upd (upd H2 fl (.lst [])) sl (.lst [])) := (Off.of pen2 ffl).kp (Kp.same s12)
    have off2 : Off p sl (upd (upd H2 fl (.lst [])) sl (.lst [])) := (Off.of (pen2.same s1) fsl).kp (Kp.same s2)
    have pen3 := pen2.same s12
    have hko3 := s12 _ _ hko
    have k03 := k02.trans (Kp.same (p := p) s12)
    have ffl0 : H fl = none := k02.free pen2 ffl
    have fsl0 : H sl = none := (k02.trans (Kp.same s1)).free (pen2.same s1) fsl
    generalize upd (upd H2 fl (.lst [])) sl (.lst []) = H3 at hfl hsl off1 off2 pen3 hko3 k03
    refine ⟨_, _, rfl, ?_⟩
    -- the riders
    refine ⟨fun σ' H' => ∃ (v6 v7 : Option V) (fs : List (Addr × Rd)) (lt : List Str), σ' = [some (.ref p), some (.ref ko), some (.int legs), some (.int day), some (.ref fl), some (.ref sl), v6, v7, none] ∧ H' ko = some (.lst (xs.map V.str)) ∧ Fk H' fl fs ∧ H' sl = some (.lst (lt.map V.str)) ∧ (∃ k, k ≤ 11 ∧ (nms fs).Perm ((xs.drop 1).take k)) ∧ (∀ z ∈ fs, 0 ≤ z.2.2.1 ∧ z.2.2.1 < z.2.2.2 ∧ z.2.2.2 ≤ legs) ∧ lt.Nodup ∧ (∀ x ∈ lt, x ∈ nms fs) ∧ Pen H' p (c + 50) ∧ Kp p H H', ?_, ?_⟩
    · refine ⟨_, rfl, 1, rfl, ?_⟩
      refine ⟨_, rfl, p, c + 144, 4, rfl, pen3, by decide, by decide, fun r4 H4 a4 b4 pen4 k4 => ?_⟩
      refine ⟨_, rfl, p, c + 143, 12, rfl, pen4, by decide, by decide, fun r5 H5 a5 b5 pen5 k5 => ⟨by show 3 ≤ sizeLine; decide, fun u fu => ?_⟩⟩
      have su := same_new (o := .lst [.int r4, .int r5, .int 11]) fu
      refine ⟨_, rfl, p, c + 142, 3, rfl, pen5.same su, by decide, by decide, fun r6 H6 a6 b6 pen6 k6 => ?_⟩
      have hu6 : H6 u = some (.lst [.int r4, .int r5, .int 11]) := k6.1 u _ upd_same (Off.of pen5 fu).ne
      obtain ⟨v, hv, hv3⟩ := at3 (a := .int r4) (b := .int r5) (c := .int 11) a6 b6
      obtain ⟨k, rfl, k11⟩ : ∃ k : Nat, v = .int (k : Int) ∧ k ≤ 11 := by
        rcases hv3 with rfl | rfl | rfl
        · exact ⟨r4.toNat, by rw [Int.toNat_of_nonneg a4], by omega⟩
        · exact ⟨r5.toNat, by rw [Int.toNat_of_nonneg a5], by omega⟩
        · exact ⟨11, rfl, by decide⟩
      have k36 := ((k4.trans k5).trans (Kp.same su)).trans k6
      have nko := pen3.ne hko3 (no_strs xs)
      have hko6 := k36.1 _ _ hko3 nko
      refine ⟨u, _, _, _, rfl, rfl, SqL.of hu6, hv, _, _, rfl, rfl, _, rfl, ko, _, rfl, SqL.of hko6, fun q fq => ?_⟩
      have ecut : cutV (xs.map V.str) (some 1) (some (1 + (k : Int))) = ((xs.drop 1).take k).map V.str := by
        have := cut_nat (xs.map V.str) 1 (1 + k) (by rw [List.length_map]; omega) (by rw [List.length_map]; omega)
        have e1 : ((1 + k : Nat) : Int) = 1 + (k : Int) := by omega
        rw [e1] at this
        rw [show (1 + k - 1) = k by omega, ← List.map_drop, ← List.map_take] at this
        exact this
      rw [ecut]
      generalize hws : (xs.drop 1).take k = ws
      have wnd : ws.Nodup := by
        rw [← hws]
        exact (xnd.sublist (List.drop_sublist 1 xs)).sublist (List.take_sublist k _)
      have wl : ws.length ≤ 11 := by rw [← hws, List.length_take]; omega
      have sq := same_new (o := .lst (ws.map V.str)) fq
      have hq : (upd H6 q (.lst (ws.map V.str))) q = some (.lst (ws.map V.str)) := upd_same
      have nqf : fl ≠ q := ne_of_none (k36.1 _ _ hfl off1.ne) fq
      have nqs : sl ≠ q := ne_of_none (k36.1 _ _ hsl off2.ne) fq
      have pen7 := pen6.same sq
      have nqp : q ≠ p := pen7.ne hq (no_strs ws)
      have k37 := k36.trans (Kp.same (p := p) sq)
      have off17 := off1.kp k37
      have off27 := off2.kp k37
      have hfl7 := k37.1 _ _ hfl off1.ne
      have hsl7 := k37.1 _ _ hsl off2.ne
      have hko7 := k37.1 _ _ hko3 nko
      have nkf : ko ≠ fl := ne_of_none hko ffl
      have nks : ko ≠ sl := ne_of_none (s1 _ _ hko) fsl
      generalize upd H6 q (.lst (ws.map V.str)) = H7 at hq pen7 k37 off17 off27 hfl7 hsl7 hko7
      refine ⟨q, rfl, ⟨_, SqL.of hq⟩, for_list (K := K) (xs := ws.map V.str) (fun i σ H' => ∃ (v6 v7 : Option V) (fs : List (Addr × Rd)) (lt : List Str), σ = [some (.ref p), some (.ref ko), some (.int legs), some (.int day), some (.ref fl), some (.ref sl), v6, v7, none] ∧ H' ko = some (.lst (xs.map V.str)) ∧ Fk H' fl fs ∧ H' sl = some (.lst (lt.map V.str)) ∧ (nms fs).Perm (ws.take i) ∧ (∀ z ∈ fs, 0 ≤ z.2.2.1 ∧ z.2.2.1 < z.2.2.2 ∧ z.2.2.2 ≤ legs) ∧ lt.Nodup ∧ (∀ x ∈ lt, x ∈ nms fs) ∧ Pen H' p (c + 140 - 5 * i) ∧ Kp p H H' ∧ Off p fl H' ∧ Off p sl H' ∧ H' q = some (.lst (ws.map V.str)))
        ⟨_, _, [], [], rfl, hko7, ⟨hfl7, (fun z hz => by cases hz)⟩, hsl7, List.Perm.refl _, (fun z hz => by cases hz), List.Pairwise.nil, (fun x hx => by cases hx), pen7.weak (by omega), k03.trans k37, off17, off27, hq⟩ (fun i σ H' _ z => by
          obtain ⟨_, _, _, _, _, _, _, _, _, _, _, _, _, _, _, _, e⟩ := z
          exact SqL.of e) ?_ ?_⟩
      · rintro i v σ H8 hi ⟨v6, v7, fs, lt, rfl, hko8, fk8, hsl8, pm8, rok8, ltn8, lts8, pen8, k08, off18, off28, hq8⟩
        rw [List.getElem?_map] at hi
        obtain ⟨z, hz, rfl⟩ := Option.map_eq_some_iff.mp hi
        have hi' : i < ws.length := (List.getElem?_eq_some_iff.mp hz).1
        have nz := nin_take wnd hz
        have et : ws.take (i + 1) = ws.take i ++ [z] := by rw [List.take_succ, hz]; rfl
        have fl8 : fs.length = i := by
          have := pm8.length_eq
          unfold nms at this
          rw [List.length_map, List.length_take] at this
          omega
        have ltl8 := lt_len ltn8 lts8
        refine ⟨_, rfl, _, rfl, p, c + 139 - 5 * i, legs, rfl, pen8.weak (by omega), by omega, by omega, fun bg H9 b0 b1 pen9 k9 => ?_⟩
        have fk9 := fk8.kp pen8 k9
        have off19 := off18.kp k9
        refine ⟨_, rfl, Or.inl ⟨rfl, _, SqL.of fk9.1⟩, _, rfl, _, rfl, fl, _, rfl, .inl (SqL.of fk9.1), _, _, rfl, rfl, p, c + 138 - 5 * i, _, rfl, pen9.weak (by omega), by omega, by rw [List.length_map]; omega, fun r H10 r0 r1 pen10 k10 => ?_⟩
        rw [List.length_map] at r1
        refine ⟨_, rfl, _, rfl, _, rfl, _, _, rfl, rfl, _, rfl, _, rfl, _, rfl, _, _, rfl, rfl, p, c + 137 - 5 * i, _, rfl, pen10.weak (by omega), by omega, by omega, fun r' H11 r0' r1' pen11 k11' => ⟨_, _, rfl, rfl, by show 3 ≤ sizeLine; decide, fun t ft => ?_⟩⟩
        have st := same_new (o := .tup [.str z, .int bg, .int (bg + 1 + r')]) ft
        have fk12 := (((fk9.kp pen9 k10).kp pen10 k11')).same st
        have ht12 : (upd H11 t (.tup [.str z, .int bg, .int (bg + 1 + r')])) t = some (.tup (rdV (z, bg, bg + 1 + r'))) := upd_same
        have k812 := ((k9.trans k10).trans k11').trans (Kp.same (p := p) st)
        have off112 := off18.kp k812
        have off212 := off28.kp k812
        have pen12 := pen11.same st
        have hsl12 := k812.1 _ _ hsl8 off28.ne
        have hko12 := k812.1 _ _ hko8 (pen8.ne hko8 (no_strs xs))
        have hq12 := k812.1 _ _ hq8 nqp
        generalize upd H11 t (.tup [.str z, .int bg, .int (bg + 1 + r')]) = H12 at fk12 ht12 k812 off112 off212 pen12 hsl12 hko12 hq12
        refine ⟨fl, _, r, .ref t, rfl, rfl, fk12.1, by rw [List.length_map]; exact Nat.lt_of_lt_of_le (by omega : fs.length < 64) (by decide), r0, by omega, ?_⟩
        have ntf : ∀ {a : Addr} {ys : List V}, H12 a = some (.tup ys) → a ≠ fl := fun e q => by rw [q, fk12.1] at e; cases e
        have ef : (fs.map fun z => V.ref z.1).take r.toNat ++ [.ref t] ++ (fs.map fun z => V.ref z.1).drop r.toNat = (fs.take r.toNat ++ [(t, (z, bg, bg + 1 + r'))] ++ fs.drop r.toNat).map fun z => V.ref z.1 := by
          simp [List.map_append, List.map_take, List.map_drop]
        rw [ef]
        generalize hgs : fs.take r.toNat ++ [(t, (z, bg, bg + 1 + r'))] ++ fs.drop r.toNat = gs
        have pg : gs.Perm ((t, (z, bg, bg + 1 + r')) :: fs) := by
          rw [← hgs, List.append_assoc]
          have := List.perm_middle (a := ((t, (z, bg, bg + 1 + r')) : Addr × Rd)) (l₁ := fs.take r.toNat) (l₂ := fs.drop r.toNat)
          rw [List.take_append_drop] at this
          exact this
        have fk13 : Fk (upd H12 fl (.lst (gs.map fun z => V.ref z.1))) fl gs := ⟨upd_same, fun y hy => by
          rcases List.mem_cons.mp (pg.mem_iff.mp hy) with e | e
          · rw [e, upd_ne (ntf ht12)]
            exact ht12
          · have := fk12.2 y e
            rw [upd_ne (ntf this)]
            exact this⟩
        have pm13 : (nms gs).Perm (ws.take (i + 1)) := by
          have h1 : (nms gs).Perm (z :: nms fs) := pg.map _
          rw [et]
          exact h1.trans ((List.Perm.cons z pm8).trans (List.perm_append_singleton z _).symm)
        have rok13 : ∀ y ∈ gs, 0 ≤ y.2.2.1 ∧ y.2.2.1 < y.2.2.2 ∧ y.2.2.2 ≤ legs := fun y hy => by
          rcases List.mem_cons.mp (pg.mem_iff.mp hy) with e | e
          · rw [e]
            exact ⟨b0, by show bg < bg + 1 + r'; omega, by show bg + 1 + r' ≤ legs; omega⟩
          · exact rok8 y e
        have lts13 : ∀ x ∈ lt, x ∈ nms gs := fun x hx => (pg.map (·.2.1)).mem_iff.mpr (List.mem_cons_of_mem _ (lts8 x hx))
        have hzg : z ∈ nms gs := (pg.map (·.2.1)).mem_iff.mpr List.mem_cons_self
        have nzl : z ∉ lt := fun hm => nz (pm8.mem_iff.mp (lts8 z hm))
        have pen13 := pen12.put (o := .lst (gs.map fun z => V.ref z.1)) off112
        have k013 : Kp p H (upd H12 fl (.lst (gs.map fun z => V.ref z.1))) := (k08.trans k812).new ffl0
        have npf : p ≠ fl := off112.ne.symm
        have off113 := off112.put (o := .lst (gs.map fun z => V.ref z.1)) npf
        have off213 := off212.put (o := .lst (gs.map fun z => V.ref z.1)) npf
        have hsl13 : (upd H12 fl (.lst (gs.map fun z => V.ref z.1))) sl = some (.lst (lt.map V.str)) := by rw [upd_ne nfs.symm]; exact hsl12
        have hko13 : (upd H12 fl (.lst (gs.map fun z => V.ref z.1))) ko = some (.lst (xs.map V.str)) := by rw [upd_ne nkf]; exact hko12
        have hq13 : (upd H12 fl (.lst (gs.map fun z => V.ref z.1))) q = some (.lst (ws.map V.str)) := by rw [upd_ne nqf.symm]; exact hq12
        generalize upd H12 fl (.lst (gs.map fun z => V.ref z.1)) = H13 at fk13 pen13 k013 off113 off213 hsl13 hko13 hq13
        refine ⟨_, rfl, p, c + 136 - 5 * i, 4, rfl, pen13.weak (by omega), by decide, by decide, fun r4 H14 r40 r41 pen14 k14 => ⟨rfl, _, rfl, ?_⟩⟩
        have fk14 := fk13.kp pen13 k14
        have off114 := off113.kp k14
        have off214 := off213.kp k14
        have hsl14 := k14.1 _ _ hsl13 off213.ne
        have hko14 := k14.1 _ _ hko13 (pen13.ne hko13 (no_strs xs))
        have hq14 := k14.1 _ _ hq13 nqp
        refine ite2 (fun _ => ?_) (fun _ => ?_)
        · refine ⟨_, rfl, Or.inl ⟨rfl, _, SqL.of hsl14⟩, _, rfl, _, rfl, sl, _, rfl, .inl (SqL.of hsl14), _, _, rfl, rfl, p, c + 135 - 5 * i, _, rfl, pen14.weak (by omega), by omega, by rw [List.length_map]; omega, fun r5 H15 r50 r51 pen15 k15 => ?_⟩
          rw [List.length_map] at r51
          have fk15 := fk14.kp pen14 k15
          have off115 := off114.kp k15
          have off215 := off214.kp k15
          have hsl15 := k15.1 _ _ hsl14 off214.ne
          have hko15 := k15.1 _ _ hko14 (pen14.ne hko14 (no_strs xs))
          have hq15 := k15.1 _ _ hq14 nqp
          refine ⟨_, rfl, sl, _, r5, .str z, rfl, rfl, hsl15, by rw [List.length_map]; exact Nat.lt_of_lt_of_le (by omega : lt.length < 64) (by decide), r50, by omega, ?_⟩
          have el : (lt.map V.str).take r5.toNat ++ [.str z] ++ (lt.map V.str).drop r5.toNat = (lt.take r5.toNat ++ [z] ++ lt.drop r5.toNat).map V.str := by
            simp [List.map_append, List.map_take, List.map_drop]
          rw [el]
          have pl : (lt.take r5.toNat ++ [z] ++ lt.drop r5.toNat).Perm (z :: lt) := by
            rw [List.append_assoc]
            have := List.perm_middle (a := z) (l₁ := lt.take r5.toNat) (l₂ := lt.drop r5.toNat)
            rw [List.take_append_drop] at this
            exact this
          generalize lt.take r5.toNat ++ [z] ++ lt.drop r5.toNat = lt2 at pl
          have nps : p ≠ sl := off215.ne.symm
          have fk16 : Fk (upd H15 sl (.lst (lt2.map V.str))) fl gs := ⟨by rw [upd_ne nfs]; exact fk15.1, fun y hy => by
            have := fk15.2 y hy
            rw [upd_ne (fun e => by rw [e, hsl15] at this; cases this)]
            exact this⟩
          refine ⟨_, _, gs, lt2, rfl, ?_, fk16, upd_same, pm13, rok13, pl.nodup_iff.mpr (List.nodup_cons.mpr ⟨nzl, ltn8⟩), fun x hx => ?_, (pen15.put off215).weak (by omega), ((k013.trans k14).trans k15).new fsl0, off115.put nps, off215.put nps, ?_⟩
          · rw [upd_ne nks]
            exact hko15
          · rcases List.mem_cons.mp (pl.mem_iff.mp hx) with e | e
            · rw [e]; exact hzg
            · exact lts13 x e
          · rw [upd_ne nqs.symm]
            exact hq15
        · exact ⟨_, _, gs, lt, rfl, hko14, fk14, hsl14, pm13, rok13, ltn8, lts13, pen14.weak (by omega), k013.trans k14, off114, off214, hq14⟩
      · rintro σ H8 ⟨v6, v7, fs, lt, rfl, hko8, fk8, hsl8, pm8, rok8, ltn8, lts8, pen8, k08, off18, off28, hq8⟩
        rw [List.length_map, List.take_length] at pm8
        rw [List.length_map] at pen8
        exact ⟨_, _, fs, lt, rfl, hko8, fk8, hsl8, ⟨k, k11, by rw [hws]; exact pm8⟩, rok8, ltn8, lts8, pen8.weak (by omega), k08⟩
    clear hfl hsl off1 off2 pen3 hko3 k03
    rintro σ' H4 ⟨v6, v7, fs, lt, rfl, hko4, fk4, hsl4, ⟨k, k11, pm4⟩, rok4, ltn4, lts4, pen4, k04⟩
    -- the worth
    refine ⟨fun σ' H' => ∃ (worth : Int), σ' = [some (.ref p), some (.ref ko), some (.int legs), some (.int day), some (.ref fl), some (.ref sl), v6, v7, some (.int worth)] ∧ 1 ≤ worth ∧ worth ≤ 1000 ∧ H' ko = some (.lst (xs.map V.str)) ∧ Fk H' fl fs ∧ H' sl = some (.lst (lt.map V.str)) ∧ Pen H' p c ∧ Kp p H H', ?_, ?_⟩
    · refine ⟨_, rfl, p, c + 49, 1000, rfl, pen4, by decide, by decide, fun r2 H5 a2 b2 pen5 k5 => ⟨_, _, rfl, rfl, ?_⟩⟩
      refine ⟨_, rfl, p, c + 48, 30, rfl, pen5, by decide, by decide, fun r3 H6 a3 b3 pen6 k6 => ⟨_, _, rfl, rfl, by show 4 ≤ sizeLine; decide, fun u fu => ?_⟩⟩
      have su := same_new (o := .lst [.int 1, .int (1 + r2), .int 1000, .int (1 + r3)]) fu
      refine ⟨_, rfl, p, c + 47, 4, rfl, pen6.same su, by decide, by decide, fun r4 H7 a4 b4 pen7 k7 => ?_⟩
      have hu7 : H7 u = some (.lst [.int 1, .int (1 + r2), .int 1000, .int (1 + r3)]) := k7.1 u _ upd_same (Off.of pen6 fu).ne
      obtain ⟨v, hv, hv4⟩ := at4 (a := .int 1) (b := .int (1 + r2)) (c := .int 1000) (d := .int (1 + r3)) a4 b4
      obtain ⟨wo, rfl, w1, w2⟩ : ∃ x : Int, v = .int x ∧ 1 ≤ x ∧ x ≤ 1000 := by
        rcases hv4 with rfl | rfl | rfl | rfl
        · exact ⟨_, rfl, by decide, by decide⟩
        · exact ⟨_, rfl, by omega, by omega⟩
        · exact ⟨_, rfl, by decide, by decide⟩
        · exact ⟨_, rfl, by omega, by omega⟩
      have k47 := ((k5.trans k6).trans (Kp.same (p := p) su)).trans k7
      exact ⟨u, _, _, _, rfl, rfl, SqL.of hu7, hv, wo, rfl, w1, w2, k47.1 _ _ hko4 (pen4.ne hko4 (no_strs xs)), fk4.kp pen4 k47, k47.1 _ _ hsl4 (pen4.ne hsl4 (no_strs lt)), pen7.weak (by omega), k04.trans k47⟩
    rintro σ' H5 ⟨worth, rfl, w1, w2, hko5, fk5, hsl5, pen5, k05⟩
    obtain ⟨drv, hdrv⟩ : ∃ d, xs[0]? = some d := ⟨xs[0], List.getElem?_eq_getElem (by omega)⟩
    have exs : xs = drv :: xs.drop 1 := by
      cases xs with
      | nil => cases hdrv
      | cons x xs => cases hdrv; rfl
    refine ⟨_, rfl, _, rfl, ko, _, _, .str drv, rfl, rfl, SqL.of hko5, atI_nat (j := 0) (by rw [List.getElem?_map, hdrv]; rfl), _, rfl, _, rfl, _, rfl, _, rfl, by show 6 ≤ sizeLine; decide, fun wp fwp => ?_⟩
    have sw := same_new (o := .lst [.int day, .str drv, .ref fl, .int legs, .int worth, .ref sl]) fwp
    have nsub : ∀ x ∈ nms fs, x ∈ xs := fun x hx => List.mem_of_mem_drop (List.mem_of_mem_take (pm4.mem_iff.mp hx))
    refine hQ wp day drv fs legs worth lt _ (pen5.same sw) (k05.trans (Kp.same sw)) (k05.free pen5 fwp) ⟨fl, sl, upd_same, fk5.same sw, sw _ _ hsl5, ffl0, fsl0⟩ ⟨d1, d2, xok drv (List.mem_of_getElem? hdrv), g1, g2, w1, w2, ⟨?_, fun z hz => ?_, rok4, ?_⟩, ltn4, lts4⟩
    · have := pm4.length_eq
      unfold nms at this
      rw [List.length_map, List.length_take] at this
      omega
    · exact xok _ (nsub _ (List.mem_map.mpr ⟨z, hz, rfl⟩))
    · refine (List.Perm.cons drv pm4).nodup_iff.mpr ?_
      rw [exs] at xnd
      exact List.Sublist.nodup (List.Sublist.cons_cons _ (List.take_sublist k _)) xnd
end
end K26
set_option Elab.async false
set_option linter.all false
/-! MG: sums of shares over names. -/
namespace MG
open PySem
def rs (xs : List Str) (f : Str → Rat) : Rat := xs.foldr (fun x r => f x + r) 0
theorem rs_nil (f : Str → Rat) : rs [] f = 0 := rfl
theorem rs_cons (x : Str) (xs : List Str) (f : Str → Rat) : rs (x :: xs) f = f x + rs xs f := rfl
theorem rs_add (f g : Str → Rat) : ∀ xs : List Str, rs xs (fun x => f x + g x) = rs xs f + rs xs g
  | [] => by rw [rs_nil, rs_nil, rs_nil]; exact (Rat.add_zero 0).symm
  | x :: xs => by
    rw [rs_cons, rs_cons, rs_cons, rs_add f g xs]
    grind
theorem rs_congr {f g : Str → Rat} : ∀ {xs : List Str}, (∀ x ∈ xs, f x = g x) → rs xs f = rs xs g
  | [], _ => rfl
  | x :: xs, h => by rw [rs_cons, rs_cons, h x List.mem_cons_self, rs_congr fun y hy => h y (List.mem_cons_of_mem _ hy)]
theorem rs_ite (A : List Str) (q : Rat) : ∀ xs : List Str, rs xs (fun x => if x ∈ A then q else 0) = ((xs.filter fun x => decide (x ∈ A)).length : Rat) * q
  | [] => by simp [rs_nil]
  | x :: xs => by
    rw [rs_cons, rs_ite A q xs]
    by_cases h : x ∈ A
    · rw [if_pos h, List.filter_cons_of_pos (by simpa using h), List.length_cons]
      have : (((xs.filter fun x => decide (x ∈ A)).length + 1 : Nat) : Rat) = ((xs.filter fun x => decide (x ∈ A)).length : Rat) + 1 := by simp
      rw [this]
      grind
    · rw [if_neg h, List.filter_cons_of_neg (by simpa using h)]
      grind
theorem rs_neg (f : Str → Rat) : ∀ xs : List Str, rs xs (fun x => - f x) = - rs xs f
  | [] => by rw [rs_nil, rs_nil]; rfl
  | x :: xs => by
    rw [rs_cons, rs_cons, rs_neg f xs]
    grind
theorem rs_all (q : Rat) : ∀ xs : List Str, rs xs (fun _ => q) = (xs.length : Rat) * q
  | [] => by simp [rs_nil]
  | x :: xs => by
    rw [rs_cons, rs_all q xs, List.length_cons]
    have : ((xs.length + 1 : Nat) : Rat) = (xs.length : Rat) + 1 := by simp
    rw [this]
    grind
/-- in any order -/
theorem foldl_perm {f : Rat → Str → Rat} (hf : ∀ r a b, f (f r a) b = f (f r b) a) {l m : List Str} (h : l.Perm m) : ∀ r, l.foldl f r = m.foldl f r := by
  induction h with
  | nil => intro r; rfl
  | cons x h ih => intro r; exact ih _
  | swap x y l => intro r; simp only [List.foldl_cons]; rw [hf]
  | trans _ _ i1 i2 => intro r; rw [i1, i2]
theorem divInt_mul_nat (w : Int) (n : Nat) (k : Int) (hn : 0 < n) (hk : k ≠ 0) : (n : Rat) * Rat.divInt w (k * n) = Rat.divInt w k := by
  have e : (n : Rat) = Rat.divInt (n : Int) 1 := (Rat.num_divInt_den (n : Rat)).symm
  rw [e, Rat.divInt_mul_divInt, Rat.divInt_eq_divInt_iff (by simp; omega) hk]
  grind
end MG
set_option Elab.async false
set_option linter.all false
set_option maxRecDepth 100000
set_option maxHeartbeats 4000000
namespace K26
open PySem PySem.Spec PyProof.Rows L2
open C8 (Cal Mak Met pe_c pe_mk pe_mt pe_mt0)
open KM (pr Sz)
section
variable {P : Program} {w : World} {K : PySem.W.Frag} {mg : Str → Option Value} {base : Heap} {f C : Addr} {fd : FuncData}
def sp_less (C : Addr) : Sp := fun vs H Q _ => ∃ (p q : Addr) (a b : Int × Int) (n : Nat), vs = [.ref p, .ref q] ∧ Sh C H p a ∧ Sh C H q b ∧ two n a b ∧
  ∀ r H', Same H H' → H r = none → Sh C H' r (KM.low (a.1 * b.2 - b.1 * a.2) (a.2 * b.2)) → Q (.ref r) H'
theorem ok_less (F : Dn K d_Share_less f fd) (M : MakS P w K mg base C) (T : Cl K mg C) : FnOk P w K mg base CX0 4 f fd ["self", "other"] (sp_less C) := by
  refine F.ok sc_Share_less (fun vs H Q E h => ?_) (fun cdv A outer s H vs Q E hr h => ?_)
  · obtain ⟨p, q, a, b, n, rfl, _⟩ := h
    rfl
  · obtain ⟨p, q, a, b, n, rfl, ⟨dp, hp⟩, ⟨dq, hq⟩, ⟨ba, bb, hn0, hn9⟩, hQ⟩ := h
    refine ⟨_, PSs.nox (pss_one (ps_ret (pe_mk M hr (by decide) rfl (pa_cons (pe_op op_sub (pe_op op_mulW (pe_fld (pv 0) rfl) (pe_fld (pv 1) rfl)) (pe_op op_mulW (pe_fld (pv 1) rfl) (pe_fld (pv 0) rfl)))
      (pa_cons (pe_op op_mulW (pe_fld (pv 0) rfl) (pe_fld (pv 1) rfl)) pa_nil))))), ?_⟩
    refine ⟨_, rfl, p, C, dp, _, _, rfl, hp, T.cl, T.nt, shF_top a, _, rfl, q, C, dq, _, _, rfl, hq, T.cl, T.nb, shF_bot b, _, _, rfl, rfl, wide_mul ba.1 bb.2.2 hn0 hn0 (by omega), ?_⟩
    refine ⟨_, rfl, q, C, dq, _, _, rfl, hq, T.cl, T.nt, shF_top b, _, rfl, p, C, dp, _, _, rfl, hp, T.cl, T.nb, shF_bot a, _, _, rfl, rfl, wide_mul bb.1 ba.2.2 hn0 hn0 (by omega), _, _, rfl, rfl, ?_⟩
    refine ⟨_, rfl, p, C, dp, _, _, rfl, hp, T.cl, T.nb, shF_bot a, _, rfl, q, C, dq, _, _, rfl, hq, T.cl, T.nb, shF_bot b, _, _, rfl, rfl, wide_mul ba.2.2 bb.2.2 hn0 hn0 (by omega), ?_⟩
    exact mk_at (n := n + n) (mul_pos_ne ba.2.1 bb.2.1) (wide_lt ba.2.2 bb.2.2) (by omega) (by omega) hQ

def sp_over (C : Addr) : Sp := fun vs H Q _ => ∃ (p : Addr) (a : Int × Int) (k : Int) (n : Nat), vs = [.ref p, .int k] ∧ Sh C H p a ∧ Bd n a ∧ k ≠ 0 ∧ k.natAbs < 2 ^ n ∧ 0 < n ∧ n ≤ 4000 ∧
  ∀ r H', Same H H' → H r = none → Sh C H' r (KM.low a.1 (a.2 * k)) → Q (.ref r) H'
theorem ok_over (F : Dn K d_Share_over f fd) (M : MakS P w K mg base C) (T : Cl K mg C) : FnOk P w K mg base CX0 4 f fd ["self", "many"] (sp_over C) := by
  refine F.ok sc_Share_over (fun vs H Q E h => ?_) (fun cdv A outer s H vs Q E hr h => ?_)
  · obtain ⟨p, a, k, n, rfl, _⟩ := h
    rfl
  · obtain ⟨p, a, k, n, rfl, ⟨dp, hp⟩, ba, hk0, hk, hn0, hn9, hQ⟩ := h
    refine ⟨_, PSs.nox (pss_one (ps_ret (pe_mk M hr (by decide) rfl (pa_cons (pe_fld (pv 0) rfl) (pa_cons (pe_op op_mulW (pe_fld (pv 0) rfl) (pv 1)) pa_nil))))), ?_⟩
    refine ⟨_, rfl, p, C, dp, _, _, rfl, hp, T.cl, T.nt, shF_top a, ?_⟩
    refine ⟨_, rfl, p, C, dp, _, _, rfl, hp, T.cl, T.nb, shF_bot a, _, rfl, _, _, rfl, rfl, wide_mul ba.2.2 hk hn0 hn0 (by omega), ?_⟩
    exact mk_at (n := n + n) (Int.mul_ne_zero (by have := ba.2.1; omega) hk0) (wide_lt ba.2.2 hk) (by omega) (by omega) hQ
theorem lessR {vs : List V} {H : Hp} {Q : VK} {E : XK} (h : sp2 C (· - ·) vs H Q E) : sp_less C vs H Q E := by
  obtain ⟨p, q, r, s, n, e, hp, hq, sr, ss, n0, n9, k⟩ := h
  refine ⟨p, q, _, _, n, e, hp, hq, ⟨bd_of sr, bd_of ss, n0, n9⟩, fun t H' a b c => k t H' a b ?_⟩
  rw [KM.pr_less] at c
  exact c
def sp1 (C : Addr) (ok : Int → Prop) (g : Rat → Int → Rat) : Sp := fun vs H Q _ => ∃ (p : Addr) (r : Rat) (k : Int) (n : Nat), vs = [.ref p, .int k] ∧ Sh C H p (pr r) ∧ Sz n r ∧ ok k ∧ k.natAbs < 2 ^ n ∧ 0 < n ∧ n ≤ 4000 ∧
  ∀ t H', Same H H' → H t = none → Sh C H' t (pr (g r k)) → Q (.ref t) H'
theorem overR {vs : List V} {H : Hp} {Q : VK} {E : XK} (h : sp1 C (fun k => k ≠ 0) (fun r k => r * Rat.divInt 1 k) vs H Q E) : sp_over C vs H Q E := by
  obtain ⟨p, r, k, n, e, hp, sr, h0, hk, n0, n9, q⟩ := h
  refine ⟨p, _, k, n, e, hp, bd_of sr, h0, hk, n0, n9, fun t H' a b c => q t H' a b ?_⟩
  rw [KM.pr_over r h0] at c
  exact c
end
end K26
set_option Elab.async false
set_option linter.all false
set_option maxRecDepth 100000
set_option maxHeartbeats 4000000
namespace K26
open PySem PySem.Spec PyProof.Rows L2
open KM (pr Sz)
/-- what one who is late moves -/
def de (w : Int) (n : Nat) (y x : Str) : Rat := if x = y then -(Rat.divInt w 10) else Rat.divInt w (10 * n)
/-- credits without late ones -/
def bs (drv : Str) (gs : List (Addr × Rd)) (legs worth : Int) (x : Str) : Rat := (if x = drv then Rat.divInt worth 1 else 0) - val drv gs legs worth legs.toNat x
/-- credits with late ones -/
def gv (drv : Str) (gs : List (Addr × Rd)) (legs worth : Int) (ls : List Str) (x : Str) : Rat := ls.foldl (fun r y => r + de worth (nms gs).length y x) (bs drv gs legs worth x)
theorem gv_nil {drv : Str} {gs : List (Addr × Rd)} {legs worth : Int} (x : Str) : gv drv gs legs worth [] x = bs drv gs legs worth x := rfl
theorem gv_snoc {drv : Str} {gs : List (Addr × Rd)} {legs worth : Int} {ls : List Str} (y x : Str) : gv drv gs legs worth (ls ++ [y]) x = gv drv gs legs worth ls x + de worth (nms gs).length y x := by
  unfold gv
  rw [List.foldl_append]
  rfl
theorem gv_perm {drv : Str} {gs fs : List (Addr × Rd)} {legs worth : Int} {ls lt : List Str} (p : gs.Perm fs) (q : ls.Perm lt) (x : Str) : gv drv gs legs worth ls x = gv drv fs legs worth lt x := by
  unfold gv bs
  have e : (nms gs).length = (nms fs).length := (p.map (fun z : Addr × Rd => z.2.1)).length_eq
  rw [val_perm p, e]
  exact MG.foldl_perm (fun r a b => by grind) q _
theorem fl_len {xs A : List Str} (xnd : xs.Nodup) (and_ : A.Nodup) (sub : ∀ y ∈ A, y ∈ xs) : (xs.filter fun x => decide (x ∈ A)).length = A.length := by
  have h1 : (xs.filter fun x => decide (x ∈ A)).length ≤ A.length := nd_len (xnd.sublist List.filter_sublist) fun y hy => of_decide_eq_true (List.mem_filter.mp hy).2
  have h2 : A.length ≤ (xs.filter fun x => decide (x ∈ A)).length := nd_len and_ fun y hy => List.mem_filter.mpr ⟨sub y hy, decide_eq_true hy⟩
  omega
theorem val_sum {drv : Str} {gs : List (Addr × Rd)} {legs worth : Int} (nd : (drv :: nms gs).Nodup) (l1 : 1 ≤ legs) : ∀ i : Nat, MG.rs (drv :: nms gs) (val drv gs legs worth i) = (i : Rat) * Rat.divInt worth legs
  | 0 => by
    have e : MG.rs (drv :: nms gs) (val drv gs legs worth 0) = MG.rs (drv :: nms gs) (fun _ => 0) := MG.rs_congr fun x _ => rfl
    rw [e, MG.rs_all]
    simp
  | i + 1 => by
    have e : MG.rs (drv :: nms gs) (val drv gs legs worth (i + 1)) = MG.rs (drv :: nms gs) (fun x => val drv gs legs worth i x + (if x ∈ drv :: ab gs i then Rat.divInt worth (legs * ((ab gs i).length + 1 : Nat)) else 0)) := MG.rs_congr fun x _ => rfl
    rw [e, MG.rs_add, val_sum nd l1 i, MG.rs_ite, fl_len nd (ab_nd nd) (fun y hy => by
      rcases List.mem_cons.mp hy with q | q
      · rw [q]; exact List.mem_cons_self
      · exact List.mem_cons_of_mem _ (ab_sub y q)), List.length_cons, MG.divInt_mul_nat worth ((ab gs i).length + 1) legs (by omega) (by omega)]
    have : ((i + 1 : Nat) : Rat) = (i : Rat) + 1 := by simp
    rw [this]
    grind
theorem bs_sum {drv : Str} {gs : List (Addr × Rd)} {legs worth : Int} (nd : (drv :: nms gs).Nodup) (l1 : 1 ≤ legs) : MG.rs (drv :: nms gs) (bs drv gs legs worth) = 0 := by
  have e : MG.rs (drv :: nms gs) (bs drv gs legs worth) = MG.rs (drv :: nms gs) (fun x => (if x ∈ [drv] then Rat.divInt worth 1 else 0) + - val drv gs legs worth legs.toNat x) := MG.rs_congr fun x _ => by
    unfold bs
    rw [Rat.sub_eq_add_neg]
    simp
  rw [e, MG.rs_add, MG.rs_ite, MG.rs_neg, val_sum nd l1, fl_len nd (by simp) (fun y hy => by rw [List.mem_singleton] at hy; rw [hy]; exact List.mem_cons_self)]
  have h := MG.divInt_mul_nat worth legs.toNat 1 (by omega) (by decide)
  have e2 : (1 : Int) * (legs.toNat : Int) = legs := by omega
  rw [e2] at h
  rw [h]
  generalize Rat.divInt worth 1 = W
  have e3 : (([drv] : List Str).length : Rat) = 1 := by simp
  rw [e3]
  grind
theorem de_sum {xs : List Str} {w : Int} {n : Nat} {y : Str} (nd : xs.Nodup) (hy : y ∈ xs) (hl : xs.length = n + 1) (hn : 0 < n) : MG.rs xs (de w n y) = 0 := by
  have e : MG.rs xs (de w n y) = MG.rs xs (fun x => Rat.divInt w (10 * n) + (if x ∈ [y] then -(Rat.divInt w 10) - Rat.divInt w (10 * n) else 0)) := MG.rs_congr fun x _ => by
    unfold de
    by_cases q : x = y
    · rw [if_pos q, if_pos (by simp [q])]
      grind
    · rw [if_neg q, if_neg (by simp [q])]
      grind
  have h := MG.divInt_mul_nat w n 10 hn (by decide)
  rw [e, MG.rs_add, MG.rs_all, MG.rs_ite, fl_len nd (by simp) (fun z hz => by rw [List.mem_singleton] at hz; rw [hz]; exact hy), hl]
  have e1 : ((n + 1 : Nat) : Rat) = (n : Rat) + 1 := by simp
  rw [e1]
  simp only [List.length_cons, List.length_nil]
  have e2 : ((0 + 1 : Nat) : Rat) = 1 := by simp
  rw [e2]
  grind
theorem gv_sum {drv : Str} {gs : List (Addr × Rd)} {legs worth : Int} {ls : List Str} (nd : (drv :: nms gs).Nodup) (l1 : 1 ≤ legs) (sub : ∀ y ∈ ls, y ∈ nms gs) : MG.rs (drv :: nms gs) (gv drv gs legs worth ls) = 0 := by
  have key : ∀ (ls : List Str) (b : Str → Rat), (∀ y ∈ ls, y ∈ nms gs) → MG.rs (drv :: nms gs) b = 0 → MG.rs (drv :: nms gs) (fun x => ls.foldl (fun r y => r + de worth (nms gs).length y x) (b x)) = 0 := by
    intro ls
    induction ls with
    | nil => intro b _ h; exact h
    | cons y ls ih =>
      intro b sub h
      refine ih (fun x => b x + de worth (nms gs).length y x) (fun z hz => sub z (List.mem_cons_of_mem _ hz)) ?_
      have hy := sub y List.mem_cons_self
      rw [MG.rs_add, h, de_sum nd (List.mem_cons_of_mem _ hy) (List.length_cons) (List.length_pos_of_mem hy)]
      grind
  exact key ls _ sub (bs_sum nd l1)
theorem neg_sz {n : Nat} {r : Rat} (h : Sz n r) : Sz n (-r) := ⟨by rw [Rat.neg_num, Int.natAbs_neg]; exact h.1, h.2⟩
theorem de_sz {w : Int} {n : Nat} {y x : Str} (w1 : 1 ≤ w) (w9 : w ≤ 1000) (hn : 0 < n) (h11 : n ≤ 11) : Sz 10 (de w n y x) := by
  unfold de
  split
  · exact neg_sz (KM.sz_of_low (by decide) (by omega) (by decide))
  · exact KM.sz_of_low (by omega) (by omega) (by omega)
theorem bs_sz {drv : Str} {gs : List (Addr × Rd)} {legs worth : Int} {x : Str} (l1 : 1 ≤ legs) (l12 : legs ≤ 12) (w1 : 1 ≤ worth) (w9 : worth ≤ 1000) (hn : gs.length ≤ 11) : Sz 145 (bs drv gs legs worth x) := by
  have hv := (val_sz (drv := drv) l1 l12 w1 w9 hn legs.toNat x).mono (by omega : 1 + 11 * legs.toNat ≤ 133)
  have hw : Sz 10 (if x = drv then Rat.divInt worth 1 else 0) := by
    split
    · exact KM.sz_of_low (by decide) (by omega) (by decide)
    · exact sz0 (by decide)
  exact ((KM.sz_plus hw hv).2).mono (by decide)
theorem gv_sz {drv : Str} {gs : List (Addr × Rd)} {legs worth : Int} {x : Str} (l1 : 1 ≤ legs) (l12 : legs ≤ 12) (w1 : 1 ≤ worth) (w9 : worth ≤ 1000) (hn : gs.length ≤ 11) {ls : List Str} (sub : ∀ y ∈ ls, y ∈ nms gs) : Sz (145 + 11 * ls.length) (gv drv gs legs worth ls x) := by
  have key : ∀ (ls : List Str) (r : Rat) (n : Nat), (∀ y ∈ ls, y ∈ nms gs) → Sz n r → Sz (n + 11 * ls.length) (ls.foldl (fun r y => r + de worth (nms gs).length y x) r) := by
    intro ls
    induction ls with
    | nil => intro r n _ h; exact h
    | cons y ls ih =>
      intro r n sub h
      have hy := sub y List.mem_cons_self
      have hl : (nms gs).length ≤ 11 := by unfold nms; rw [List.length_map]; exact hn
      have h1 := (KM.sz_plus h (de_sz (x := x) (y := y) w1 w9 (List.length_pos_of_mem hy) hl)).1
      have := ih _ _ (fun z hz => sub z (List.mem_cons_of_mem _ hz)) h1
      rw [List.length_cons]
      have e : n + 10 + 1 + 11 * ls.length = n + 11 * (ls.length + 1) := by omega
      rw [e] at this
      exact this
  exact key ls _ _ sub (bs_sz l1 l12 w1 w9 hn)
end K26
set_option Elab.async false
set_option linter.all false
set_option maxRecDepth 100000
set_option maxHeartbeats 4000000
namespace K26
open PySem PySem.Spec PyProof.Rows L2
open C8 (Cal Mak Met pe_c pe_mk pe_mt pe_mt0)
open KM (pr Sz)
open SX (S)
theorem dc_it {J : It} {n : Nat} {G : Hp → Prop} {Y : Nat → Hp → V → Hp → Prop} (w : Walk J n G Y) {g : TG} {tt : TT} {tk tv : TE} {vs : List Nat} {σ : L2.St} {H1 : Hp} {D : Addr} {Qd : Hp → Prop} (Pv : Nat → Hp → Prop) (h0 : Pv 0 (upd H1 D (.dK []))) (hG : ∀ i H, i ≤ n → Pv i H → G H)
    (hs : ∀ i x H H', i < n → Pv i H → Y i H x H' → g x (wipe σ vs) H' fun σ2 H2 => wipe σ2 vs = wipe σ vs ∧ tt σ2 H2 fun b H3 =>
      if b = true then tk σ2 H3 fun y H4 => tv σ2 H4 fun z H5 => ∃ kvs k, y = kV k ∧ H5 D = some (.dK kvs) ∧ kvs.length < sizeLine ∧ Pv (i + 1) (upd H5 D (.dK (putK kvs k z))) else Pv (i + 1) H3) (hd : ∀ H, Pv n H → Qd H) :
    ∃ W : Nat → Nat → Hp → Prop, (∃ m, W 0 m (upd H1 D (.dK []))) ∧ ∀ i m H, W i m H →
      (J.stop i H ∧ Qd H) ∨ (J.go i H ∧ ∃ Nx : Hp → Prop, (∀ H', Nx H' → ∃ m', m' < m ∧ W (i + 1) m' H') ∧ ∀ x H', J.yld i H x H' → g x (wipe σ vs) H' fun σ2 H2 => wipe σ2 vs = wipe σ vs ∧ tt σ2 H2 fun b H3 =>
        if b = true then tk σ2 H3 fun y H4 => tv σ2 H4 fun z H5 => ∃ kvs k, y = kV k ∧ H5 D = some (.dK kvs) ∧ kvs.length < sizeLine ∧ Nx (upd H5 D (.dK (putK kvs k z))) else Nx H3) := by
  refine ⟨fun i m H => m = n - i ∧ i ≤ n ∧ Pv i H, ⟨n, by simp, Nat.zero_le _, h0⟩, ?_⟩
  rintro i m H ⟨rfl, hi, p⟩
  have q := hG i H hi p
  by_cases hlt : i < n
  · refine .inr ⟨w.goes i H hlt q, Pv (i + 1), fun H' p' => ⟨n - (i + 1), by omega, rfl, hlt, p'⟩, fun x H' y => hs i x H H' hlt p (w.yields i H x H' hlt q y)⟩
  · have e : i = n := by omega
    subst e
    exact .inl ⟨w.stops H q, hd H p⟩
section
variable {d dv l wo st lc : V}
theorem r_lc : (rF d dv l wo st lc).lookup ("latecomers" : Str) = some lc := by kernel_rfl
theorem r_gives : (rF d dv l wo st lc).lookup ("gives" : Str) = none := by kernel_rfl
end
theorem sh_less (q : Int × Int) : (shF q).lookup ("less" : Str) = none := by kernel_rfl
theorem sh_over (q : Int × Int) : (shF q).lookup ("over" : Str) = none := by kernel_rfl
theorem DS.on {C : Addr} {H : Hp} {D : Addr} {xs : List Str} {v u : Str → Rat} (h : DS C H D xs v) (e : ∀ x ∈ xs, v x = u x) : DS C H D xs u := by
  obtain ⟨ad, e1, e2⟩ := h
  exact ⟨ad, e1, fun x hx => by rw [← e x hx]; exact e2 x hx⟩
theorem DL.on {H : Hp} {D : Addr} {xs : List Str} {v u : Str → Rat} (h : DL H D xs v) (e : ∀ x ∈ xs, v x = u x) : DL H D xs u := by
  obtain ⟨ad, e1, e2⟩ := h
  exact ⟨ad, e1, fun x hx => by rw [← e x hx]; exact e2 x hx⟩
/-- one more share -/
theorem DS.snoc {C : Addr} {H : Hp} {D q : Addr} {xs : List Str} {v : Str → Rat} {z : Str} {ad : Str → Addr} (hd : H D = some (dctO xs fun x => .ref (ad x))) (ha : ∀ x ∈ xs, Sh C H (ad x) (pr (v x))) (nz : z ∉ xs) (hq : Sh C H q (pr (v z))) :
    DS C (upd H D (.dK (putK (xs.map fun x => ((Sum.inr x : Key), V.ref (ad x))) (Sum.inr z) (.ref q)))) D (xs ++ [z]) v := by
  have keep : ∀ {p : Addr} {u : Int × Int} {o : HO}, Sh C H p u → Sh C (upd H D o) p u := fun {p u o} ⟨dp, hp⟩ => ⟨dp, by
    rw [upd_ne (fun e => by rw [e, hd] at hp; cases hp)]
    exact hp⟩
  refine ⟨fun x => if x = z then q else ad x, ?_, fun x hx => ?_⟩
  · rw [upd_same]
    have e1 : xs.map (fun x => ((Sum.inr x : Key), V.ref (ad x))) = xs.map fun x => ((Sum.inr x : Key), V.ref (if x = z then q else ad x)) := map_ne nz fun x n => by rw [if_neg n]
    rw [e1]
    have e2 := DQ.put_new (fun x => V.ref (if x = z then q else ad x)) nz
    rw [if_pos rfl] at e2
    rw [e2]
    rfl
  · show Sh C _ (if x = z then q else ad x) _
    rcases List.mem_append.mp hx with hx | hx
    · rw [if_neg (show x ≠ z from fun e => nz (e ▸ hx))]
      exact keep (ha x hx)
    · rw [List.mem_singleton] at hx
      rw [if_pos hx, hx]
      exact keep hq
theorem dget_of {H : Hp} {G : Addr} {ys : List Str} {ad : Str → Addr} (h : H G = some (dctO ys fun x => .ref (ad x))) {z : Str} (hz : z ∈ ys) : DGet H G (.str z) (some (.ref (ad z))) := by
  have := DGet.k (k := Sum.inr z) h
  rw [DQ.val_map (fun x => V.ref (ad x)) hz] at this
  exact this
section
variable {P : Program} {w : World} {K : PySem.W.Frag} {mg : Str → Option Value} {base : Heap} {f C CR : Addr} {fd : FuncData}
def spGv (C CR : Addr) : Sp := fun vs H Q _ => ∃ (rp : Addr) (day : Int) (drv : Str) (gs : List (Addr × Rd)) (legs worth : Int) (lt ls : List Str), vs = [.ref rp] ∧ Rid CR H rp day drv gs legs worth ls ∧ WayOk day drv gs legs worth lt ∧ ls.Perm lt ∧
  ∀ (D : Addr) (ys : List Str) (H' : Hp), Same H H' → H D = none → ys.Perm (drv :: nms gs) → DS C H' D ys (gv drv gs legs worth ls) → Q (.ref D) H'
theorem ok_gv (F : Dn K d_Ride_gives f fd) (b : Bl mg) (T : ClR K mg CR) (gp : ∃ t, mg "LATE_PART" = some (.int 10 t)) (M1 : MakS1 P w K mg base C) (MS : MakS P w K mg base C) (mF : Met P w K mg base 1 CR "folk" (spFo CR) []) (mPt : Met P w K mg base 5 CR "parts" (spPt C CR) []) (mP : Met P w K mg base 4 C "plus" (sp2 C (· + ·)) []) (mL : Met P w K mg base 4 C "less" (sp2 C (· - ·)) []) (mO : Met P w K mg base 4 C "over" (sp1 C (fun k => k ≠ 0) (fun r k => r * Rat.divInt 1 k)) []) :
    FnOk P w K mg base CX0 6 f fd ["self"] (spGv C CR) := by
  refine F.ok sc_Ride_gives (fun vs H Q E h => ?_) (fun cdv A outer s H vs Q E hr h => ?_)
  · obtain ⟨rp, day, drv, gs, legs, worth, lt, ls, rfl, _⟩ := h
    rfl
  · obtain ⟨rp, day, drv, gs, legs, worth, lt, ls, rfl, rid, ok, pl, hQ⟩ := h
    have hu := hu_of hr
    have len := ok.rd.len
    obtain ⟨tg, gp⟩ := gp
    obtain ⟨l1, l12, w1, w9⟩ := And.intro ok.l1 (And.intro ok.l12 (And.intro ok.w1 ok.w9))
    have lsub : ∀ y ∈ ls, y ∈ nms gs := fun y hy => ok.lts y (pl.mem_iff.mp hy)
    have lsl : ls.length ≤ 11 := by rw [pl.length_eq]; exact Nat.le_trans (lt_len ok.ltn ok.lts) len
    have nl : (nms gs).length = gs.length := by unfold nms; rw [List.length_map]
    refine ⟨_, PSs.nox (pss_cons (ps_set (i := 1) sc_Ride_gives.nd rfl (.inr rfl) (pe_mt0 mPt hr (by decide) (pv 0)))
      (pss_cons (ps_lock (SDC.ps_setDc (i := 3) (own := [("name", 2)]) (g := gName 2) (tt := tYes) rfl sc_Ride_gives.nd rfl rfl (SDC.sw_true rfl rfl rfl (by decide +kernel)) (pi_keys (pv 1)) (blkOk_by (N := N_Ride_gives) (sc := defScope s_Ride_gives) (by decide +kernel))
        (fun _ _ _ _ _ => pg_name (i := 2) sc_Ride_gives.nd rfl (.inl rfl)) (fun _ _ _ _ _ => pts_nil) (fun _ _ _ _ _ => pv 2) (fun _ _ _ _ _ => pe_mt mL hr (by decide) (pe_mk M1 hr (by decide) rfl (pa_cons pe_int pa_nil)) (pa_cons (pe_dget hu (pv 1) (pv 2) (fun _ _ => rfl)) pa_nil))))
      (pss_cons (ps_dput hu (pv 3) (pe_fld (pv 0) rfl) (pe_mt mP hr (by decide) (pe_dget hu (pv 3) (pe_fld (pv 0) rfl) (fun _ _ => rfl)) (pa_cons (pe_mk M1 hr (by decide) rfl (pa_cons (pe_fld (pv 0) rfl) pa_nil)) pa_nil)) rfl)
      (pss_cons (ps_for PassesOwn.never rfl (pi_list (pe_fld (pv 0) rfl)) (pg_name (i := 4) sc_Ride_gives.nd rfl (.inr rfl))
        (pss_cons (ps_set (i := 5) sc_Ride_gives.nd rfl (.inl rfl) (pe_mk MS hr (by decide) rfl (pa_cons (pe_fld (pv 0) rfl) (pa_cons (pe_glob (v := .int 10) rfl gp ⟨tg, rfl⟩) pa_nil))))
        (pss_cons (ps_setLc (i := 6) (own := [("name", 2)]) (g := gName 2) rfl sc_Ride_gives.nd rfl rfl (sw_true rfl rfl rfl (by decide +kernel)) (pi_list (pe_mt0 mF hr (by decide) (pv 0))) (blkOk_by (N := N_Ride_gives) (sc := defScope s_Ride_gives) (by decide +kernel))
          (fun _ _ _ _ _ => pg_name (i := 2) sc_Ride_gives.nd rfl (Or.inl rfl)) (fun _ _ _ _ _ => pts_one (pt_cmpR (r := rNe) op_ne (pv 2) (pv 4) (nomark _))) (fun _ _ _ _ _ => pv 2))
        (pss_cons (ps_dput hu (pv 3) (pv 4) (pe_mt mL hr (by decide) (pe_dget hu (pv 3) (pv 4) (fun _ _ => rfl)) (pa_cons (pv 5) pa_nil)) rfl)
        (pss_one (ps_for PassesOwn.never rfl (pi_list (pv 6)) (pg_name (i := 2) sc_Ride_gives.nd rfl (.inl rfl))
          (pss_one (ps_dput hu (pv 3) (pv 2) (pe_mt mP hr (by decide) (pe_dget hu (pv 3) (pv 2) (fun _ _ => rfl)) (pa_cons (pe_mt mO hr (by decide) (pv 5) (pa_cons (pe_callB call_len_seq rfl b.len boot_len (pa_cons (pv 6) pa_nil)) pa_nil)) pa_nil)) rfl))))))))
      (pss_one (ps_ret (pv 3))))))), ?_⟩
    obtain ⟨dx, sl, lc, hrp, fk, hlc⟩ := id rid
    refine ⟨_, rfl, rp, dx, _, rfl, hrp, r_parts, rp, day, drv, gs, legs, worth, lt, ls, rfl, rid, ok, fun D ys H1 s1 fD pm ds1 => ?_⟩
    obtain ⟨ad, hD, hv⟩ := ds1
    have ynd : ys.Nodup := pm.nodup_iff.mpr ok.rd.nd
    have yl : ys.length = gs.length + 1 := by rw [pm.length_eq, List.length_cons, nl]
    have vsz : ∀ x, Sz 133 (val drv gs legs worth legs.toNat x) := fun x => (val_sz (drv := drv) l1 l12 w1 w9 len legs.toNat x).mono (by omega)
    have e0 : Rat.divInt 0 1 = 0 := by decide +kernel
    -- the parts taken from nought
    refine ⟨D, _, hD, trivial, fun od => ?_⟩
    refine ⟨_, rfl, D, od, rfl, .inl ⟨_, upd_same, fun G hG => ?_⟩⟩
    have nGD : G ≠ D := (ne_of_none upd_same hG).symm
    have fG1 : H1 G = none := by rw [upd_ne nGD] at hG; exact hG
    refine dc_it walk_keys (fun i H2 => DS C H2 G (ys.take i) (fun x => 0 - val drv gs legs worth legs.toNat x) ∧ H2 D = some (.frz od (dctO ys fun x => .ref (ad x))) ∧ ∀ a o, a ≠ D → H1 a = some o → H2 a = some o) ?_ (fun i H2 _ z => z.2.1) ?_ ?_
    · refine ⟨⟨fun _ => 0, upd_same, fun x hx => by simp at hx⟩, by rw [upd_ne nGD.symm]; exact upd_same, fun a o na e => ?_⟩
      rw [upd_ne (ne_of_none e fG1), upd_ne na]
      exact e
    · rintro i x H2 H3 hi ⟨⟨ag, hG2, hg2⟩, hDz, kp⟩ ⟨rfl, k, u, e, rfl⟩
      rw [List.length_map] at hi
      rw [List.getElem?_map] at e
      obtain ⟨z, hz, ez⟩ := Option.map_eq_some_iff.mp e
      cases ez
      have hzy := List.mem_of_getElem? hz
      have nz := nin_take ynd hz
      have et : ys.take (i + 1) = ys.take i ++ [z] := by rw [List.take_succ, hz]; rfl
      refine ⟨rfl, ?_⟩
      refine ⟨_, rfl, ?_⟩
      intro q dq nq nd ne
      refine mk_in (n := 10) nq nd (by decide) (by decide) (by decide) (by decide) fun H4 s4 hq => ⟨rfl, ?_⟩
      rw [e0] at hq
      obtain ⟨dq2, hq2⟩ := id hq
      have dg : DGet H4 D (.str z) (some (.ref (ad z))) := .inl ⟨_, Sum.inr z, .inr ⟨_, s4 _ _ hDz⟩, rfl, (DQ.val_map (fun x => V.ref (ad x)) hzy).symm⟩
      have hvz : Sh C H4 (ad z) (pr (val drv gs legs worth legs.toNat z)) := by
        obtain ⟨dz, hdz⟩ := hv z hzy
        exact ⟨dz, s4 _ _ (kp _ _ (fun q => by rw [q, hD] at hdz; cases hdz) hdz)⟩
      refine ⟨q, dq2, _, rfl, hq2, sh_less _, _, rfl, _, rfl, D, _, rfl, dg, q, ad z, 0, _, 133, rfl, hq, hvz, sz0 (by decide), vsz z, by decide, by decide, fun t H5 s5 ft ht => ?_⟩
      have s45 := s4.trans s5
      have hG5 := s45 _ _ hG2
      refine ⟨_, Sum.inr z, rfl, hG5, by rw [List.length_map, List.length_take]; exact Nat.lt_of_lt_of_le (by omega : min i ys.length < 64) (by decide), ?_, ?_, fun a o na e => ?_⟩
      · rw [et]
        exact DS.snoc (v := fun x => 0 - val drv gs legs worth legs.toNat x) hG5 (fun x hx => (hg2 x hx).keep s45) nz ht
      · rw [upd_ne nGD.symm]
        exact s45 _ _ hDz
      · rw [upd_ne (ne_of_none e fG1)]
        exact s45 _ _ (kp a o na e)
    rintro H2 ⟨ds2, hDz, kp⟩
    rw [List.length_map, List.take_length] at ds2
    refine ⟨hDz, ?_⟩
    have s13 : Same H1 (upd H2 D (dctO ys fun x => .ref (ad x))) := fun a o e => by
      by_cases q : a = D
      · rw [q] at e ⊢
        rw [upd_same, ← hD]
        exact e
      · rw [upd_ne q]
        exact kp a o q e
    have ds3 : DS C (upd H2 D (dctO ys fun x => .ref (ad x))) G ys (fun x => 0 - val drv gs legs worth legs.toNat x) := by
      obtain ⟨ag, e1, e2⟩ := ds2
      refine ⟨ag, by rw [upd_ne nGD]; exact e1, fun x hx => ?_⟩
      obtain ⟨dz, hdz⟩ := e2 x hx
      exact ⟨dz, by rw [upd_ne (fun q => by rw [q, hDz] at hdz; cases hdz)]; exact hdz⟩
    generalize upd H2 D (dctO ys fun x => .ref (ad x)) = H3 at s13 ds3
    have s03 := s1.trans s13
    have fGH : H G = none := s1.free fG1
    have hrp3 := s03 _ _ hrp
    have hdy : drv ∈ ys := pm.mem_iff.mpr List.mem_cons_self
    obtain ⟨ag, hG3, hg3⟩ := id ds3
    obtain ⟨dz, hdz⟩ := id (hg3 drv hdy)
    -- the driver's worth
    refine ⟨_, rfl, _, rfl, rp, CR, dx, _, _, rfl, hrp3, T.cl, T.nv, r_driver, G, _, rfl, dget_of hG3 hdy, ag drv, dz, _, rfl, hdz, sh_plus _, _, rfl, rp, CR, dx, _, _, rfl, hrp3, T.cl, T.nw, r_worth, ?_⟩
    intro q dq nq nd ne
    refine mk_in (n := 10) nq nd (by decide) (by decide) (by decide) (by decide) fun H4 s4 hq => ⟨rfl, ?_⟩
    have bz : ∀ x, Sz 145 (0 - val drv gs legs worth legs.toNat x) := fun x => ((KM.sz_plus (sz0 (n := 1) (by decide)) (vsz x)).2).mono (by decide)
    refine ⟨ag drv, q, _, _, 145, rfl, (hg3 drv hdy).keep s4, hq, bz drv, (KM.sz_of_low (n := 10) (by decide) (by omega) (by decide)).mono (by decide), by decide, by decide, fun t H5 s5 ft ht => ?_⟩
    have s45 := s4.trans s5
    have hG5 := s45 _ _ hG3
    refine ⟨_, rfl, _, rfl, rp, CR, dx, _, _, rfl, s45 _ _ hrp3, T.cl, T.nv, r_driver, G, _, rfl, DPut.k (k := Sum.inr drv) hG5 (by rw [List.length_map]; exact Nat.lt_of_lt_of_le (by omega : ys.length < 64) (by decide)), ?_⟩
    have ds6 := (DS.put (v := fun x => 0 - val drv gs legs worth legs.toNat x) hG5 (fun x hx => (hg3 x hx).keep s45) hdy ht).congr (u := gv drv gs legs worth (ls.take 0)) fun x => by
      rw [List.take_zero, gv_nil]
      unfold bs
      by_cases e : x = drv
      · rw [if_pos e, if_pos e, e]
        grind
      · rw [if_neg e, if_neg e]
    have s06 : Same H (upd H5 G (.dK (putK (ys.map fun x => ((Sum.inr x : Key), V.ref (ag x))) (Sum.inr drv) (.ref t)))) := fun a o e => by
      rw [upd_ne (ne_of_none e fGH)]
      exact s45 _ _ (s03 _ _ e)
    generalize upd H5 G (.dK (putK (ys.map fun x => ((Sum.inr x : Key), V.ref (ag x))) (Sum.inr drv) (.ref t))) = H6 at ds6 s06
    -- who was late
    refine ⟨_, rfl, rp, CR, dx, _, _, rfl, s06 _ _ hrp, T.cl, T.nt, r_lc, lc, rfl, ⟨_, SqL.of (s06 _ _ hlc)⟩, for_list (K := K) (xs := ls.map V.str) (fun i σ H' => ∃ (v2 v4 v5 v6 : Option V), σ = [some (.ref rp), some (.ref D), v2, some (.ref G), v4, v5, v6] ∧ DS C H' G ys (gv drv gs legs worth (ls.take i)) ∧ Same H H')
      ⟨_, _, _, _, rfl, ds6, s06⟩ (fun i σ H' _ z => by
        obtain ⟨_, _, _, _, _, _, k⟩ := z
        exact SqL.of (k _ _ hlc)) ?_ ?_⟩
    · rintro i v σ H7 hi ⟨v2, v4, v5, v6, rfl, ds7, s07⟩
      rw [List.getElem?_map] at hi
      obtain ⟨z, hz, rfl⟩ := Option.map_eq_some_iff.mp hi
      have hi' : i < ls.length := (List.getElem?_eq_some_iff.mp hz).1
      have hzl := List.mem_of_getElem? hz
      have hzn := lsub z hzl
      have hzy : z ∈ ys := pm.mem_iff.mpr (List.mem_cons_of_mem _ hzn)
      have et : ls.take (i + 1) = ls.take i ++ [z] := by rw [List.take_succ, hz]; rfl
      have npos : 0 < (nms gs).length := List.length_pos_of_mem hzn
      have gsz : ∀ x, Sz 270 (gv drv gs legs worth (ls.take i) x) := fun x => (gv_sz (x := x) l1 l12 w1 w9 len (ls := ls.take i) (fun y hy => lsub y (List.mem_of_mem_take hy))).mono (by rw [List.length_take]; omega)
      have hrp7 := s07 _ _ hrp
      refine ⟨_, rfl, rp, CR, dx, _, _, rfl, hrp7, T.cl, T.nw, r_worth, ?_⟩
      intro q dq nq nd ne
      refine mk_in (n := 10) nq nd (by decide) (by decide) (by decide) (by decide) fun H8 s8 hq => ⟨rfl, ?_⟩
      have fsz : Sz 10 (Rat.divInt worth 10) := KM.sz_of_low (by decide) (by omega) (by decide)
      have s08 := s07.trans s8
      have ds8 := ds7.same s8
      -- the others
      refine ⟨_, rfl, rp, dx, _, rfl, s08 _ _ hrp, r_folk, rp, day, drv, gs, legs, worth, ls, rfl, rid.same s08, len, fun o ys2 H9 s9 fo ho pm2 _ => ?_⟩
      have y2nd : ys2.Nodup := pm2.nodup_iff.mpr ok.rd.nd
      have y2l : ys2.length = gs.length + 1 := by rw [pm2.length_eq, List.length_cons, nl]
      refine ⟨o, rfl, ⟨_, SqL.of ho⟩, fun D2 hD2 => lc_list (K := K) (xs := ys2.map V.str) (fun j H10 => H10 D2 = some (.lst (((ys2.take j).filter fun x => !decide (x = z)).map V.str)) ∧ Same H9 H10) ⟨upd_same, same_new hD2⟩ (fun _ H10 _ q => SqL.of (q.2 _ _ ho)) ?_ ?_⟩
      · rintro j x H10 hx ⟨hd, sm⟩
        have hj' : j < ys2.length := by
          have := (List.getElem?_eq_some_iff.mp hx).1
          simpa using this
        rw [List.getElem?_map] at hx
        obtain ⟨y, hy, rfl⟩ := Option.map_eq_some_iff.mp hx
        have et : ys2.take (j + 1) = ys2.take j ++ [y] := by rw [List.take_succ, hy]; rfl
        refine ⟨rfl, ?_⟩
        refine ⟨_, rfl, _, rfl, rfl, _, rfl, ?_⟩
        by_cases e : y = z
        · have z0 : (!decide (V.str y = V.str z)) = false := by simp [e]
          rw [z0]
          refine iteF ⟨?_, sm⟩
          rw [et, List.filter_append]
          simp [e, hd]
        · have z0 : (!decide (V.str y = V.str z)) = true := by simp [e]
          rw [z0]
          refine iteT ?_
          refine ⟨_, rfl, _, hd, ?_, ?_, ?_⟩
          · rw [List.length_map]
            refine Nat.lt_of_le_of_lt (List.length_filter_le _ _) ?_
            rw [List.length_take]
            exact Nat.lt_of_lt_of_le (by omega : min j ys2.length < 64) (by decide)
          · rw [upd_same, et, List.filter_append, List.map_append]
            simp [e]
          · intro a o e
            rw [upd_ne (ne_of_none e hD2)]
            exact sm a o e
      rintro H10 ⟨hd10, s10⟩
      rw [List.length_map, List.take_length] at hd10
      generalize hos : (ys2.filter fun x => !decide (x = z)) = os at hd10
      have osnd : os.Nodup := by rw [← hos]; exact y2nd.sublist List.filter_sublist
      have osm : ∀ x, x ∈ os ↔ (x ∈ ys ∧ x ≠ z) := fun x => by
        rw [← hos, List.mem_filter]
        have h1 : x ∈ ys2 ↔ x ∈ ys := pm2.mem_iff.trans pm.mem_iff.symm
        simp [h1]
      have osl : os.length = (nms gs).length := by
        have hz2 : z ∈ ys2 := pm2.mem_iff.mpr (List.mem_cons_of_mem _ hzn)
        have h1 : os.Perm (ys2.erase z) := by
          rw [y2nd.erase_eq_filter z, ← hos]
          refine List.Perm.of_eq (List.filter_congr fun x _ => ?_)
          by_cases e : x = z
          · simp [e]
          · simp [e]
        rw [h1.length_eq, List.length_erase_of_mem hz2, y2l, nl]
        rfl
      have s910 := s9.trans s10
      have s0a := s08.trans s910
      obtain ⟨ah, hGa, hga⟩ := ds8.same s910
      have hqa := hq.keep s910
      obtain ⟨dza, hdza⟩ := id (hga z hzy)
      -- the fee
      refine ⟨_, rfl, _, rfl, G, _, rfl, dget_of hGa hzy, ah z, dza, _, rfl, hdza, sh_less _, _, rfl, ah z, q, _, _, 270, rfl, hga z hzy, hqa, gsz z, fsz.mono (by decide), by decide, by decide, fun t2 Hb sb ftb htb => ?_⟩
      have hGb := sb _ _ hGa
      refine ⟨_, rfl, _, rfl, G, _, rfl, DPut.k (k := Sum.inr z) hGb (by rw [List.length_map]; exact Nat.lt_of_lt_of_le (by omega : ys.length < 64) (by decide)), ?_⟩
      have dsc := DS.put (v := gv drv gs legs worth (ls.take i)) hGb (fun x hx => (hga x hx).keep sb) hzy htb
      have nqG : q ≠ G := fun e => by
        obtain ⟨d1, h1⟩ := hqa
        rw [e, hGa] at h1
        cases h1
      have nDG : D2 ≠ G := fun e => by rw [e, hGa] at hd10; cases hd10
      have hqc : Sh C (upd Hb G (.dK (putK (ys.map fun x => ((Sum.inr x : Key), V.ref (ah x))) (Sum.inr z) (.ref t2)))) q (pr (Rat.divInt worth 10)) := by
        obtain ⟨d1, h1⟩ := hqa.keep sb
        exact ⟨d1, by rw [upd_ne nqG]; exact h1⟩
      have hdc : (upd Hb G (.dK (putK (ys.map fun x => ((Sum.inr x : Key), V.ref (ah x))) (Sum.inr z) (.ref t2)))) D2 = some (.lst (os.map V.str)) := by rw [upd_ne nDG]; exact sb _ _ hd10
      have s0c : Same H (upd Hb G (.dK (putK (ys.map fun x => ((Sum.inr x : Key), V.ref (ah x))) (Sum.inr z) (.ref t2)))) := fun a o e => by
        rw [upd_ne (ne_of_none e fGH)]
        exact sb _ _ (s0a _ _ e)
      generalize upd Hb G (.dK (putK (ys.map fun x => ((Sum.inr x : Key), V.ref (ah x))) (Sum.inr z) (.ref t2))) = Hc at dsc hqc hdc s0c
      -- its parts
      have eE : Rat.divInt worth 10 * Rat.divInt 1 (os.length : Int) = Rat.divInt worth (10 * (nms gs).length) := by
        rw [Rat.divInt_mul_divInt, osl, Int.mul_one]
      refine ⟨_, rfl, D2, rfl, ⟨_, SqL.of hdc⟩, for_list (K := K) (xs := os.map V.str) (fun j σ H' => ∃ (v2 : Option V), σ = [some (.ref rp), some (.ref D), v2, some (.ref G), some (.str z), some (.ref q), some (.ref D2)] ∧ DS C H' G ys (fun x => if x = z then gv drv gs legs worth (ls.take i) z - Rat.divInt worth 10 else if x ∈ os.take j then gv drv gs legs worth (ls.take i) x + Rat.divInt worth (10 * (nms gs).length) else gv drv gs legs worth (ls.take i) x) ∧ (∀ a o, a ≠ G → Hc a = some o → H' a = some o))
        ⟨_, rfl, dsc.congr fun x => by
          rw [List.take_zero]
          simp, fun _ _ _ e => e⟩ (fun j σ H' _ z => by
          obtain ⟨_, _, _, k⟩ := z
          exact SqL.of (k _ _ nDG hdc)) ?_ ?_⟩
      · rintro j v σ Hd hj ⟨v2, rfl, ⟨ai, hGd, hgd⟩, kd⟩
        rw [List.getElem?_map] at hj
        obtain ⟨y, hy, rfl⟩ := Option.map_eq_some_iff.mp hj
        have hyo := List.mem_of_getElem? hy
        obtain ⟨hyy, nyz⟩ := (osm y).mp hyo
        have ny := nin_take osnd hy
        have ety : os.take (j + 1) = os.take j ++ [y] := by rw [List.take_succ, hy]; rfl
        have hgy := hgd y hyy
        dsimp only at hgy
        rw [if_neg nyz, if_neg ny] at hgy
        obtain ⟨dy', hdy'⟩ := id hgy
        have hqd : Sh C Hd q (pr (Rat.divInt worth 10)) := by
          obtain ⟨d1, h1⟩ := hqc
          exact ⟨d1, kd _ _ nqG h1⟩
        obtain ⟨dq', hdq'⟩ := id hqd
        have hdd := kd _ _ nDG hdc
        refine ⟨_, rfl, _, rfl, G, _, rfl, dget_of hGd hyy, ai y, dy', _, rfl, hdy', sh_plus _, _, rfl, q, dq', _, rfl, hdq', sh_over _, _, rfl, D2, _, rfl, .inl (SqL.of hdd), q, _, _, 270, rfl, hqd, fsz.mono (by decide), ?_, ?_, by decide, by decide, fun t3 He se fte hte => ?_⟩
        · rw [List.length_map, osl]
          omega
        · rw [List.length_map, osl]
          exact Nat.lt_of_lt_of_le (by omega : ((nms gs).length : Int).natAbs < 2 ^ 10) (Nat.pow_le_pow_right (by decide) (by decide))
        dsimp only at hte
        rw [List.length_map, eE] at hte
        refine ⟨ai y, t3, _, _, 270, rfl, hgy.keep se, hte, gsz y, (KM.sz_of_low (n := 10) (by omega) (by omega) (by omega)).mono (by decide), by decide, by decide, fun t4 Hf sf ftf htf => ?_⟩
        have sef := se.trans sf
        have hGf := sef _ _ hGd
        refine ⟨_, rfl, _, rfl, G, _, rfl, DPut.k (k := Sum.inr y) hGf (by rw [List.length_map]; exact Nat.lt_of_lt_of_le (by omega : ys.length < 64) (by decide)), ?_⟩
        have dsg := DS.put hGf (fun x hx => (hgd x hx).keep sef) hyy htf
        refine ⟨_, rfl, dsg.congr fun x => ?_, fun a o na e => ?_⟩
        · by_cases e1 : x = y
          · rw [if_pos e1, e1, if_neg nyz, ety, if_pos (by simp)]
          · rw [if_neg e1]
            by_cases e2 : x = z
            · rw [if_pos e2, if_pos e2]
            · rw [if_neg e2, if_neg e2, ety]
              have : (x ∈ os.take j ++ [y]) ↔ x ∈ os.take j := by simp [e1]
              simp only [this]
        · rw [upd_ne na]
          exact sef _ _ (kd a o na e)
      · rintro σ Hd ⟨v2, rfl, dsd, kd⟩
        rw [List.length_map, List.take_length] at dsd
        refine ⟨_, _, _, _, rfl, dsd.on fun x hx => ?_, fun a o e => kd a o (ne_of_none e fGH) (s0c _ _ e)⟩
        rw [et, gv_snoc]
        unfold de
        by_cases e2 : x = z
        · rw [if_pos e2, if_pos e2, e2, Rat.sub_eq_add_neg]
        · rw [if_neg e2, if_neg e2, if_pos ((osm x).mpr ⟨hx, e2⟩)]
    · rintro σ H7 ⟨v2, v4, v5, v6, rfl, ds7, s07⟩
      rw [List.length_map, List.take_length] at ds7
      exact ⟨_, rfl, hQ G ys H7 s07 fGH pm ds7⟩
end
end K26
set_option Elab.async false
set_option linter.all false
set_option maxRecDepth 100000
set_option maxHeartbeats 4000000
/-! KW: calls by keywords alone: f(k = v, ..), o.m(k = v, ..). -/
namespace KW
open PySem PySem.Spec PyProof.Rows L2
section
variable {X : Cx} {k j : Nat} {C f : Addr} {fd : FuncData} {ps ks : List Str} {sp : Sp} {x m : Str} {p pos apos : Pos} {o : Expr} {kws : List Keyword} {ta : TE} {tk : TA} {g : List Value → List Value → List Value} {gV : List V → List V → List V}
theorem pe_cK (F : FnOk X.prog X.w X.K X.mg X.base CX0 k f fd ps sp) (hr : Room k X.A) (hg : Gl X x) (hm : X.mg x = some (.ref f)) (hk : PySem.W.keepIn X.K (.ref f) = true) (hb : KBn X.K fd ps 0 ks g gV) (hkw : PK X kws tk)
    (hall : (backToKw pos (keywordEach kws X.env)).all (·.1.isSome) = true := by rfl) (hks : (backToKw pos (keywordEach kws X.env)).filterMap (·.1) = ks := by rfl) (hdb : (x == ("__debug__" : Str)) = false := by decide)
    (hpl : ((backTo pos (starEach [] X.env)).any (·.1) || (backToKw pos (keywordEach kws X.env)).any (·.1.isNone)) = false := by rfl) :
    PE X (.Call (.Name x p) [] kws pos) (fun σ H Q => tk σ H fun zs H1 => zs.length = ks.length ∧ sp (gV [] zs) H1 Q E0) := by
  refine ⟨fun pins s σ H Q I h => wpAny_Call_Name_kw (ld_glob I hg hm (PySem.W.callWith_KW0 (h₀ := X.base) I.ok.mod.kin hk hall ?_ hpl) hdb)⟩
  refine thn (hkw.run pos pins s σ H _ I h) fun ws s2 ⟨zs, H2, I2, rz, l2, q2⟩ => ⟨I2.kIn, ?_⟩
  rw [hks]
  exact run_fnN (us := []) (vs := []) F hr hb (fun _ _ _ _ _ _ _ h => False.elim h) I2 .nil rz rfl l2 q2
theorem pe_mtK {pl : Sem Bool} (he : PE X o ta) (c : Cls X.K C) (hm : Meth X.K C m f) (F : FnOk X.prog X.w X.K X.mg X.base CX0 k f fd ps sp) (hr : Room k X.A) (hb : KBn X.K fd ps 1 ks g gV) (hkw : PK X kws tk)
    (hall : (backToKw pos (keywordEach kws X.env)).all (·.1.isSome) = true := by rfl) (hks : (backToKw pos (keywordEach kws X.env)).filterMap (·.1) = ks := by rfl)
    (hpl : ((backTo pos (starEach [] X.env)).any (·.1) || (backToKw pos (keywordEach kws X.env)).any (·.1.isNone)) = false := by rfl)
    (ht : eval (.Call (.Attribute o m apos) [] kws pos) X.env = (do
      let ov ← eval o X.env
      standAt apos.atName
      let (f, first) ← holding [ov] (getMethod ov m pl)
      callWith pos f first (backTo pos (starEach [] X.env)) (backToKw pos (keywordEach kws X.env))) := by rfl) :
    PE X (.Call (.Attribute o m apos) [] kws pos) (fun σ H Q => ta σ H fun x H1 => ∃ a dx fs, x = .ref a ∧ H1 a = some (.ins C dx fs) ∧ fs.lookup m = none ∧ tk σ H1 fun zs H2 => zs.length = ks.length ∧ sp (gV [.ref a] zs) H2 Q E0) := by
  refine ⟨fun pins s σ H Q I h => ?_⟩
  refine PySem.W.methodCall_KW (pl := pl) (thn (he.run pins s σ H _ I h) fun u s1 ⟨x, H1, I1, rx, a, dx, fs, ex, ea, l, q⟩ => ?_) ht
  subst ex
  obtain rfl : u = Value.ref a := rx
  refine getmeth_ok I1 ea c hm l (PySem.W.callWith_KW0 (first := [.ref a]) (h₀ := X.base) I.ok.mod.kin hm.kp hall ?_ hpl)
  refine thn (hkw.run pos pins s1 σ H1 _ I1 q) fun ws s2 ⟨zs, H2, I2, rz, l2, q2⟩ => ⟨I2.kIn, ?_⟩
  rw [hks]
  exact run_fnN (us := [.ref a]) (vs := [.ref a]) F hr hb (fun _ _ _ _ _ _ _ h => False.elim h) I2 (.cons rfl .nil) rz rfl l2 q2
end
end KW
set_option Elab.async false
set_option linter.all false
set_option maxRecDepth 100000
set_option maxHeartbeats 4000000
/-! KB: what a call by keywords binds, for a def without keyword-only parameters. -/
namespace KW
open PySem PySem.Spec PyProof.Rows L2
section
variable {K : PySem.W.Frag} {x qual : Str} {params : Arguments} {body : List Stmt} {scope : Scope} {dvs : List V} {kws : List (Str × V)} {f : Addr} {fd : FuncData} {ps : List Str}
theorem kb1 (F : FunD K x qual params body scope dvs kws f fd) (n : Nat) (ks : List Str) (g : {α : Type} → List α → List α → List α → List α) (hd : dvs ≠ [])
    (hrel : ∀ {vs ds zs : List V} {us its ws : List Value}, Vals vs us → Vals ds its → Vals zs ws → Vals (g vs ds zs) (g us its ws))
    (h : ∀ (T : Addr) (kV doc pm : Value) (an : Option Addr) (cdv ct : Value) (us its ws : List Value), us.length = n → its.length = dvs.length → ws.length = ks.length →
      ∃ k, bindArgs (PySem.W.fnOf x qual params body scope (.ref T) kV doc pm an cdv ct) ⟨us, ks.zip ws⟩ = seqItems? (.ref T) >>= k ∧ k (some its.toArray) = pure (ps.zip (g us its ws))) :
    ∃ its : List Value, KBn K fd ps n ks (fun us ws => g us its ws) (fun vs zs => g vs dvs zs) := by
  obtain ⟨oc, od, dV, kV, doc, pm, an, cdv, ct, osl, rfl, lk, hcd, hD, hK⟩ := F.ex
  rcases hD with ⟨e, _⟩ | ⟨_, T, o, its, m, rfl, lT, oT, rT⟩
  · exact absurd e hd
  · refine ⟨its, ⟨fun s us ws X l1 l2 => ?_, fun r1 r2 => hrel r1 rT r2⟩⟩
    obtain ⟨k, e1, e2⟩ := h T kV doc pm an cdv ct us its ws l1 rT.length.symm l2
    refine BindsTo.of_looks fun M => ?_
    rw [e1]
    exact looks_items X lT oT (.of_pure e2)
theorem kb0 (F : FunD K x qual params body scope [] kws f fd) (n : Nat) (ks : List Str) (g : {α : Type} → List α → List α → List α)
    (hrel : ∀ {vs zs : List V} {us ws : List Value}, Vals vs us → Vals zs ws → Vals (g vs zs) (g us ws))
    (h : ∀ (kV doc pm : Value) (an : Option Addr) (cdv ct : Value) (us ws : List Value), us.length = n → ws.length = ks.length →
      bindArgs (PySem.W.fnOf x qual params body scope .none kV doc pm an cdv ct) ⟨us, ks.zip ws⟩ = pure (ps.zip (g us ws))) :
    KBn K fd ps n ks (fun us ws => g us ws) (fun vs zs => g vs zs) := by
  obtain ⟨oc, od, dV, kV, doc, pm, an, cdv, ct, osl, rfl, lk, hcd, hD, hK⟩ := F.ex
  rcases hD with ⟨_, rfl⟩ | ⟨e, _⟩
  · exact ⟨fun s us ws X l1 l2 => .of_eq (h kV doc pm an cdv ct us ws l1 l2), fun r1 r2 => hrel r1 r2⟩
  · exact absurd rfl e
end
end KW
set_option Elab.async false
set_option linter.all false
set_option maxRecDepth 100000
set_option maxHeartbeats 4000000
/-! SL: xs[::s], s told as 1 or as -1. -/
namespace SL
open PySem PySem.Spec PyProof.Rows L2
section
variable {X : Cx}
theorem pick1 (items : Array Value) : slicePick items none none (some 1) = slicePick items none none none := rfl
def tStepL (K : PySem.W.Frag) (te ts : TE) : TE := fun σ H Q => te σ H fun x H1 => tPart ts σ H1 fun o H2 => ∃ (a : Addr) (xs : List V), x = .ref a ∧ SqL K H2 a xs ∧
  ((o = some 1 ∧ ∀ p, H2 p = none → Q (.ref p) (upd H2 p (.lst xs))) ∨ (o = some (-1) ∧ ∀ p, H2 p = none → Q (.ref p) (upd H2 p (.lst xs.reverse))))
theorem pe_stepL {e st : Expr} {te ts : TE} {p3 pos : Pos} (he : PE X e te) (hs : PE X st ts) : PE X (.Subscript e (.Slice none none (some st) p3) pos) (tStepL X.K te ts) := by
  refine ⟨fun pins s σ H Q I h => ?_⟩
  refine Subscript_ (thn (he.run pins s σ H _ I h) fun v s1 ⟨x, H1, I1, r1, q1⟩ => ?_)
  have hst : PO X (some st) (tPart ts) := po_some hs
  refine wpAny_Slice (thn (po_none.run pins s1 σ H1 (fun o H2 => o = none ∧ H2 = H1) I1 ⟨rfl, rfl⟩) fun vl s2 ⟨l, H2, I2, pl, el, e2⟩ => ?_)
  subst el e2
  refine thn (po_none.run pins s2 σ H2 (fun o H3 => o = none ∧ H3 = H2) I2 ⟨rfl, rfl⟩) fun vu s3 ⟨u, H3, I3, pu, eu, e3⟩ => ?_
  subst eu e3
  refine thn (hst.run pins s3 σ H3 _ I3 q1) fun vs s4 ⟨o, H4, I4, ps, a, xs, ex, hx, q⟩ => ?_
  subst ex
  cases r1
  have I5 : Inv X pins σ H4 { s4 with heap := s4.heap.push { cls := .type "slice", data := .fields #[vl, vu, vs] } } := I4.kept (t' := s4.toks) fun b ob q => Heap.get?_push_of_some _ q
  obtain ⟨its, r, ht, hz⟩ := I5.list hx
  have hlen := r.length
  show wpAny (model X.prog X.w) X.A (subscriptTail e (.Slice none none (some st) p3) (.ref a) (.ref s4.heap.objs.size)) (EP X pins σ Q) X.xe { s4 with heap := s4.heap.push { cls := .type "slice", data := .fields #[vl, vu, vs] } }
  refine tail_any (ops := [.ref a, .ref s4.heap.objs.size]) ht.isList.typeIs (PySem.slot_list_getitem.lookup) ?_ (by with_unfolding_all rfl)
  rcases q with ⟨rfl, q⟩ | ⟨rfl, q⟩
  · refine wpAny_getItem_list_slice ht.isList (Heap.IsSliceOf.new _ vl vu vs) pl pu ps (by decide) ?_ (by rw [List.size_toArray]; omega)
    rw [pick1, slicePick_cut, HT.sIx_none, HT.sIx_none, List.drop_zero, Nat.sub_zero]
    refine ⟨.ref _, _, I5.laid (t' := s4.toks) (o := .lst xs) (fun b ob q => Heap.get?_push_of_some _ q) (Nat.le_refl _) ?_, rfl, q _ (I5.hok.fresh (Nat.le_refl _))⟩
    refine ⟨hz, _, 0, r, ?_⟩
    rw [List.take_length]
    exact Heap.get?_push_size _ rfl
  · refine wpAny_getItem_list_slice ht.isList (Heap.IsSliceOf.new _ vl vu vs) pl pu ps (by decide) ?_ (by rw [List.size_toArray]; omega)
    rw [PySem.W.krv_pick]
    refine ⟨.ref _, _, I5.laid (t' := s4.toks) (o := .lst xs.reverse) (fun b ob q => Heap.get?_push_of_some _ q) (Nat.le_refl _) ?_, rfl, q _ (I5.hok.fresh (Nat.le_refl _))⟩
    exact ⟨by rw [List.length_reverse]; exact hz, _, 0, r.reverse, Heap.get?_push_size _ rfl⟩
end
end SL
set_option Elab.async false
set_option linter.all false
set_option maxRecDepth 100000
set_option maxHeartbeats 4000000
/-! DO: dicts whose values are compared by whatever == (own __eq__): == and != of equal ones, whatever the order of their keys. -/
namespace DO
open PySem PySem.Spec PyProof.Rows L2
section
variable {prog : Program} {w : World} {K : Type} [DecidableEq K] {knd : KeyKind prog w K} {A : Around} {E : Value → Shared → Prop} {s : Shared}
theorem samePairsG {nm : String} {a b : Addr} {ka kb : List (K × Value)} {I : Nat → Shared → Prop} {oa ob : Obj} {Q : Bool → Shared → Prop} (ha : (a == sysModules) = false) (hb : (b == sysModules) = false)
    (st : ∀ i s, I i s → s.heap.get? a = some oa ∧ s.heap.get? b = some ob)
    (da : s.heap.DictOf knd a ka) (db : s.heap.DictOf knd b kb) (hl : ka.length = kb.length)
    (turn : ∀ i (h : i < ka.length) s, I i s → ∃ y, valueAt kb ka[i].1 = some y ∧ wpAny (model prog w) A (eqBool ka[i].2 y) (fun r s' => r = true ∧ I (i + 1) s') E s)
    (h0 : I 0 s) (fin : ∀ s, I ka.length s → Q true s) :
    wpAny (model prog w) A (Builtin.Dict.samePairs nm a b) Q E s := by
  obtain ⟨oa', es, ep, hoa, _, hda, hka, hpa, _⟩ := da
  obtain ⟨ob', es', ep', hob, _, hdb, hkb, hpb, _⟩ := db
  have eoa : oa' = oa := Option.some.inj (hoa.symm.trans (st 0 s h0).1)
  have eob : ob' = ob := Option.some.inj (hob.symm.trans (st 0 s h0).2)
  subst eoa eob
  have hla : ka.length = es.size := by rw [← hpa.length]; exact Array.length_toList
  have hlb : kb.length = es'.size := by rw [← hpb.length]; exact Array.length_toList
  have hfind : ∀ k, findBy knd.is es' k = valueAt kb k := fun k => by
    rw [← hpb.find k]
    clear hlb hpb hkb hdb hob st
    obtain ⟨l⟩ := es'
    simp [findBy]
  unfold Builtin.Dict.samePairs Builtin.Dict.showsAll
  rw [if_neg (show ¬ (a == sysModules) = true by rw [ha]; exact Bool.false_ne_true), if_neg (show ¬ (b == sysModules) = true by rw [hb]; exact Bool.false_ne_true)]
  refine wpAny_bind (wpAny_pure (wpAny_bind (wpAny_pure ?_)))
  refine wpAny_bind (wpAny_dictEntries hoa hda ?_)
  dsimp only
  refine wpAny_bind (wpAny_dictEntries hob hdb ?_)
  have hsz : es.size = es'.size := by rw [← hla, ← hlb]; exact hl
  rw [if_neg (by rw [hsz]; simp)]
  refine wpAny_bind (wpAny_dictEpoch hoa hda ?_)
  refine wpAny_bind ?_
  rw [Std.Legacy.Range.forIn_eq_forIn_range']
  simp only [Std.Legacy.Range.size, Nat.sub_zero, Nat.add_sub_cancel, Nat.div_one]
  refine wpAny_forIn_list _
    (fun rest q s' => q = (none, ()) ∧ ∃ i, rest = List.range' i (es.size - i) ∧ i ≤ es.size ∧ I i s')
    _ ?_ ?_ _ _ ⟨rfl, 0, by simp, Nat.zero_le _, h0⟩
  · rintro x rest q s' ⟨rfl, i, hr, hi, hpre⟩
    obtain ⟨hoa, hob⟩ := st _ _ hpre
    have hlt : i < es.size := by
      rcases Nat.lt_or_ge i es.size with h | h
      · exact h
      · rw [Nat.sub_eq_zero_of_le h] at hr; simp at hr
    obtain ⟨rfl, hrest⟩ : x = i ∧ rest = List.range' (i + 1) (es.size - (i + 1)) := by
      have e : es.size - i = (es.size - (i + 1)) + 1 := by omega
      rw [e, List.range'_succ] at hr
      injection hr with h1 h2
      exact ⟨h1, h2⟩
    refine wpAny_bind (wpAny_dictEntries hoa hda ?_)
    rw [Array.getElem?_eq_getElem hlt]
    have hlt' : x < ka.length := by rw [hla]; exact hlt
    obtain ⟨y, hy, he⟩ := turn x hlt' s' hpre
    obtain ⟨k, v, hkv⟩ : ∃ k v, ka[x] = (k, v) := ⟨_, _, rfl⟩
    rw [hkv] at hy he
    obtain ⟨hkey, hval⟩ := hpa.get? (i := x) (e := es[x]) (k := k) (v := v) (by rw [Array.getElem?_toList]; exact Array.getElem?_eq_getElem hlt) (by rw [List.getElem?_eq_getElem hlt', hkv])
    obtain ⟨k', hk', hh⟩ := hka es[x] (Array.getElem_mem hlt)
    have ekk : k' = k := knd.inj _ _ _ hk' hkey
    rw [ekk] at hh
    show wpAny _ _ (holding [es[x].key, es[x].val] _ >>= _) _ _ _
    rw [hh]
    refine wpAny_bind (wpAny_holding (wpAny_bind (wpAny_dictFind_of hkey hob hdb hkb ?_)))
    cases hj : es'.findIdx? fun e => knd.is k e.key with
    | none =>
      have hn : valueAt kb k = none := by rw [← hfind k, findBy_of_findIdx?, hj]
      exact absurd (hn.symm.trans hy) (fun z => nomatch z)
    | some j =>
      obtain ⟨hjlt, _, _⟩ := Array.findIdx?_eq_some_iff_getElem.mp hj
      have hv' : valueAt kb k = some es'[j].val := by
        rw [← hfind k, findBy_of_findIdx?, hj]
        simp [Array.getElem?_eq_getElem hjlt]
      refine wpAny_bind (wpAny_dictEntries hob hdb ?_)
      rw [Array.getElem?_eq_getElem hjlt]
      have ey : es'[j].val = y := Option.some.inj (hv'.symm.trans hy)
      rw [← ey, ← hval] at he
      refine wpAny_holding (wpAny_mono he (fun r s2 q => ?_) fun _ _ x => x)
      obtain ⟨rfl, q⟩ := q
      show wpAny _ _ (if (!true) = true then _ else _) _ _ _
      rw [if_neg (by decide)]
      refine wpAny_bind (wpAny_dictEpoch (st _ _ q).1 hda ?_)
      rw [if_neg (by simp)]
      exact wpAny_pure ⟨rfl, x + 1, hrest, hlt, q⟩
  · rintro q s' ⟨rfl, i, hr, hi, hpre⟩
    have hin : i = es.size := by
      rcases Nat.lt_or_ge i es.size with h | h
      · have e : es.size - i = (es.size - (i + 1)) + 1 := by omega
        rw [e, List.range'_succ] at hr; exact nomatch hr
      · exact Nat.le_antisymm hi h
    refine wpAny_pure ?_
    rw [hin, ← hla] at hpre
    exact fin _ hpre
theorem keqG {a b : Addr} {ka kb : List (K × Value)} {I : Nat → Shared → Prop} {oa ob : Obj} {Q : Value → Shared → Prop} (ha : (a == sysModules) = false) (hb : (b == sysModules) = false)
    (st : ∀ i s, I i s → s.heap.get? a = some oa ∧ s.heap.get? b = some ob)
    (da : s.heap.DictOf knd a ka) (db : s.heap.DictOf knd b kb) (hu : A.units < cLine) (hl : ka.length = kb.length)
    (turn : ∀ i (h : i < ka.length) s, I i s → ∃ y, valueAt kb ka[i].1 = some y ∧ wpAny (model prog w) A.in1 (eqBool ka[i].2 y) (fun r s' => r = true ∧ I (i + 1) s') E s)
    (h0 : I 0 s) (fin : ∀ s, I ka.length s → Q (.bool true) s) :
    wpAny (model prog w) A (richCompare .Eq (.ref a) (.ref b)) Q E s := by
  refine wpAny_richCompare_same_room (op := .Eq) da.typeIs db.typeIs PySem.F.slot_dict_eq (wpAny_call_entry PySem.F.slot_dict_eq da.typeIs PySem.F.entry_dict_eq ?_ (PySem.F.args_dict_eq_2 _ _)) hu
  show wpAny _ _ (Builtin.Dict.dictSlotArgs "__eq__" ⟨[.ref a, .ref b], []⟩ >>= _) _ _ s
  refine wpAny_bind ?_
  unfold Builtin.Dict.dictSlotArgs
  refine wpAny_bind (wpAny_notOrdered_dict da.typeIs ?_)
  show wpAny _ _ (pure (Value.ref a, Value.ref b)) _ _ s
  refine wpAny_pure ?_
  refine wpAny_bind (wpAny_isInstance (T := "dict") db.typeIs PySem.F.sub_dict_dict ?_)
  simp only [Bool.not_true, Bool.false_eq_true, if_false]
  refine wpAny_bind (wpAny_pure (wpAny_bind (wpAny_pure ?_)))
  refine wpAny_bind (samePairsG ha hb st da db hl turn h0 fun s' q => ?_)
  refine wpAny_pure ⟨_, rfl, ?_, ?_⟩
  · exact fun x => nomatch x
  · simpa using fin s' q
theorem kneG {a b : Addr} {ka kb : List (K × Value)} {I : Nat → Shared → Prop} {oa ob : Obj} {Q : Value → Shared → Prop} (ha : (a == sysModules) = false) (hb : (b == sysModules) = false)
    (st : ∀ i s, I i s → s.heap.get? a = some oa ∧ s.heap.get? b = some ob)
    (da : s.heap.DictOf knd a ka) (db : s.heap.DictOf knd b kb) (hu : A.units < cLine) (hl : ka.length = kb.length)
    (turn : ∀ i (h : i < ka.length) s, I i s → ∃ y, valueAt kb ka[i].1 = some y ∧ wpAny (model prog w) A.in1 (eqBool ka[i].2 y) (fun r s' => r = true ∧ I (i + 1) s') E s)
    (h0 : I 0 s) (fin : ∀ s, I ka.length s → Q (.bool false) s) :
    wpAny (model prog w) A (richCompare .NotEq (.ref a) (.ref b)) Q E s := by
  refine wpAny_richCompare_same_room (op := .NotEq) da.typeIs db.typeIs PySem.F.slot_dict_ne (wpAny_call_entry PySem.F.slot_dict_ne da.typeIs PySem.F.entry_dict_ne ?_ (PySem.F.args_dict_ne_2 _ _)) hu
  show wpAny _ _ (Builtin.Dict.dictSlotArgs "__ne__" ⟨[.ref a, .ref b], []⟩ >>= _) _ _ s
  refine wpAny_bind ?_
  unfold Builtin.Dict.dictSlotArgs
  refine wpAny_bind (wpAny_notOrdered_dict da.typeIs ?_)
  show wpAny _ _ (pure (Value.ref a, Value.ref b)) _ _ s
  refine wpAny_pure ?_
  refine wpAny_bind (wpAny_isInstance (T := "dict") db.typeIs PySem.F.sub_dict_dict ?_)
  simp only [Bool.not_true, Bool.false_eq_true, if_false]
  refine wpAny_bind (wpAny_pure (wpAny_bind (wpAny_pure ?_)))
  refine wpAny_bind (samePairsG ha hb st da db hl turn h0 fun s' q => ?_)
  refine wpAny_pure ⟨_, rfl, ?_, ?_⟩
  · exact fun x => nomatch x
  · simpa using fin s' q
end
section
variable {X : Cx} {n : Nat} {D : Eqv}
theorem kv_get {ks : List (Key × V)} {va : List (Key × Value)} (ra : KV ks va) : ∀ i (h : i < ks.length) (h' : i < va.length), ks[i].1 = va[i].1 ∧ RelV ks[i].2 va[i].2 := by
  unfold KV at ra
  induction ra with
  | nil => intro i h; exact absurd h (Nat.not_lt_zero _)
  | @cons p q ps qs h t ih =>
    intro i h1 h2
    cases i with
    | zero => exact h
    | succ i => exact ih i (Nat.lt_of_succ_lt_succ h1) (Nat.lt_of_succ_lt_succ h2)
def Lk (D : Eqv) : Prop := ∀ x y H d u o, H d = some (.dK u) → D x y H → D x y (upd H d (.frz o (.dK u)))
def DDict (D : Eqv) : Eqv := fun x y H => ∃ a b ks ls, x = .ref a ∧ y = .ref b ∧ a ≠ b ∧ H a = some (.dK ks) ∧ H b = some (.dK ls) ∧ ks.length = ls.length ∧ ∀ p ∈ ks, ∃ u, valV ls p.1 = some u ∧ D p.2 u H
/-- what is needed of a comparison of two dicts, the two locked -/
theorem frame (hD : Mon D) (hL : Lk D) (h : EqG X n D) {A : Around} {pins : List (Addr × Obj)} {s : Shared} {σ : L2.St} {H : Hp} {a b : Addr} {ks ls : List (Key × V)} (sb : Sub X (n + 1) A) (I : Inv X pins σ H s) (ab : a ≠ b) (ea : H a = some (.dK ks)) (eb : H b = some (.dK ls)) (hl : ks.length = ls.length) (hp : ∀ p ∈ ks, ∃ u, valV ls p.1 = some u ∧ D p.2 u H) :
    ∃ (ka kb : List (Key × Value)) (J : Nat → Shared → Prop) (oa ob : Obj), (a == sysModules) = false ∧ (b == sysModules) = false ∧ (∀ i s, J i s → s.heap.get? a = some oa ∧ s.heap.get? b = some ob) ∧ s.heap.DictOf (mixKind X.prog X.w) a ka ∧ s.heap.DictOf (mixKind X.prog X.w) b kb ∧ ka.length = kb.length ∧
      (∀ i (h : i < ka.length) s, J i s → ∃ y, valueAt kb ka[i].1 = some y ∧ wpAny (model X.prog X.w) A.in1 (eqBool ka[i].2 y) (fun r s' => r = true ∧ J (i + 1) s') X.xe s) ∧ J 0 s ∧ ∀ i s', J i s' → ∃ H', Inv X pins σ H' s' ∧ Ext H H' := by
  have mu : Mut (some (HO.dK ks)) := trivial
  have mu' : Mut (some (HO.dK ls)) := trivial
  obtain ⟨oa, I1⟩ := I.lock ea mu
  have eb1 : upd H a (.frz oa (.dK ks)) b = some (.dK ls) := by rw [upd_ne ab.symm]; exact eb
  obtain ⟨ob, I2⟩ := I1.lock eb1 mu'
  have n1 := I.nofrz ea mu
  have n2 := I1.nofrz eb1 mu'
  generalize hH2 : upd (upd H a (.frz oa (.dK ks))) b (.frz ob (.dK ls)) = H2 at I2
  have e2a : H2 a = some (.frz oa (.dK ks)) := by rw [← hH2, upd_ne ab, upd_same]
  have e2b : H2 b = some (.frz ob (.dK ls)) := by rw [← hH2, upd_same]
  have e2 : ∀ c o, H c = some o → c ≠ a → c ≠ b → H2 c = some o := fun c o e ca cb => by rw [← hH2, upd_ne cb, upd_ne ca]; exact e
  obtain ⟨ga, _, ya, va, ra, da⟩ := (show ObjOk X.prog X.w H2 s.heap a (.frz oa (.dK ks)) from I2.hok a _ e2a)
  obtain ⟨gb, _, yb, vb, rb, db⟩ := (show ObjOk X.prog X.w H2 s.heap b (.frz ob (.dK ls)) from I2.hok b _ e2b)
  refine ⟨va, vb, fun _ s' => ∃ H', Inv X pins σ H' s' ∧ Ext H2 H', oa, ob, ya, yb, ?_, da, db, ?_, ?_, ⟨H2, I2, Ext.rfl'⟩, ?_⟩
  · rintro i s' ⟨H', I', e⟩
    exact ⟨(I'.hok a _ (e _ _ e2a)).1, (I'.hok b _ (e _ _ e2b)).1⟩
  · rw [← ra.length, ← rb.length]; exact hl
  · rintro i hi s' ⟨H', I', e⟩
    have hi' : i < ks.length := by rw [ra.length]; exact hi
    obtain ⟨h1, h2⟩ : ks[i].1 = va[i].1 ∧ RelV ks[i].2 va[i].2 := kv_get ra i hi' hi
    obtain ⟨u, e', d⟩ := hp ks[i] (List.getElem_mem hi')
    have rr : RelO (some u) (valueAt vb ks[i].1) := by rw [← e']; exact rb.val _
    obtain ⟨y, hy, ry⟩ := rr.some_of
    rw [h1] at hy
    refine ⟨y, hy, ?_⟩
    have d2 : D ks[i].2 u H2 := by
      rw [← hH2]
      exact hL _ _ _ _ _ _ eb1 (hL _ _ _ _ _ _ ea d)
    refine wpAny_mono (h A.in1 pins s' σ H' _ _ _ _ sb.in1 I' h2 ry (hD _ _ _ _ e d2)) (fun r s2 q => ?_) fun _ _ x => x
    obtain ⟨hr, H3, I3, e3⟩ := q
    exact ⟨hr, H3, I3, e.trans e3⟩
  · rintro i s' ⟨H', I', e⟩
    have I3 := I'.unlock (e _ _ e2b) (fun o' u' z => n2 o' u' z)
    have I4 := I3.unlock (d := a) (od := oa) (u := .dK ks) (by rw [upd_ne ab]; exact e _ _ e2a) n1
    refine ⟨_, I4, fun c o hc => ?_⟩
    by_cases ca : c = a
    · subst ca
      rw [upd_same, ← hc, ea]
    · rw [upd_ne ca]
      by_cases cb : c = b
      · subst cb
        rw [upd_same, ← hc, eb]
      · rw [upd_ne cb]
        exact e _ _ (e2 _ _ hc ca cb)
theorem rcG_dict (hD : Mon D) (hL : Lk D) (h : EqG X n D) : RcG X (n + 1) (DDict D) := by
  intro A pins s σ H x y u v sb I rx ry d
  obtain ⟨a, b, ks, ls, rfl, rfl, ab, ea, eb, hl, hp⟩ := d
  cases rx
  cases ry
  obtain ⟨ka, kb, J, oa, ob, ya, yb, st, da, db, hl', turn, j0, fin⟩ := frame hD hL h sb I ab ea eb hl hp
  exact keqG (knd := mixKind X.prog X.w) ya yb st da db sb.room.units0 hl' turn j0 fun s' q => ⟨rfl, fin _ _ q⟩
def rNe (D : Eqv) : R2 := fun x y H Q => DDict D x y H ∧ ∀ H', Ext H H' → Q (.bl false) H'
theorem op_eq (hD : Mon D) (hL : Lk D) (h : EqG X n D) (hr : Room (n + 1) X.A) : OpR X (compareOp .Eq) (rEqG (DDict D)) := op_eqG (rcG_dict hD hL h) hr
theorem op_ne (hD : Mon D) (hL : Lk D) (h : EqG X n D) (hr : Room (n + 1) X.A) : OpR X (compareOp .NotEq) (rNe D) := by
  intro pins s σ H x y v u Q I rx ry hq
  obtain ⟨⟨a, b, ks, ls, rfl, rfl, ab, ea, eb, hl, hp⟩, q⟩ := hq
  cases rx
  cases ry
  obtain ⟨ka, kb, J, oa, ob, ya, yb, st, da, db, hl', turn, j0, fin⟩ := frame hD hL h (A := X.A) ⟨hr, rfl⟩ I ab ea eb hl hp
  refine kneG (knd := mixKind X.prog X.w) ya yb st da db hr.units0 hl' turn j0 fun s' z => ?_
  obtain ⟨H', I', e⟩ := fin _ _ z
  exact ⟨.bl false, H', I', rfl, q H' e⟩
end
end DO
set_option Elab.async false
set_option linter.all false
set_option maxRecDepth 100000
set_option maxHeartbeats 4000000
/-! LV: d.values() of a plain dict, and list of it. -/
namespace LV
open PySem PySem.Spec PyProof.Rows L2
def viO (p d : Addr) : HO := .ext fun h => h.IsValuesView p d
theorem viO_ok {P : Program} {w : World} {H : Hp} {h : Heap} {p d : Addr} (e : h.get? p = some { cls := .type "dict_values", data := .fields #[.ref d] }) : ObjOk P w H h p (viO p d) :=
  ⟨⟨_, e, rfl, rfl⟩, ⟨_, e⟩, fun h1 h2 x k => let ⟨o, ho, r⟩ := x; ⟨o, k o ho, r⟩⟩
section
variable {X : Cx}
def rVals : V → List V → Hp → VK → Prop := fun x xs H Q => ∃ (a : Addr) (kvs : List (Key × V)), x = .ref a ∧ xs = [] ∧ H a = some (.dK kvs) ∧ ∀ p, H p = none → Q (.ref p) (upd H p (viO p a))
theorem mt_values : MtR X "dict.values" rVals := by
  intro pins s σ H x xs v us Q I rx rxs h
  obtain ⟨a, kvs, rfl, rfl, ha, q⟩ := h
  cases rx
  cases rxs
  obtain ⟨_, hsys, vs, rel, dof⟩ := dk_of I.hok ha
  refine call_meetsIn F.slot_dict_values dof.typeIs F.entry_dict_values (F.args_dict_values_1 _) (meets_dict_values (mixKind X.prog X.w) a hsys) ⟨⟨vs, dof⟩, ?_⟩
  have hf : H s.heap.objs.size = none := I.hok.fresh (Nat.le_refl _)
  exact ⟨.ref s.heap.objs.size, upd H s.heap.objs.size (viO s.heap.objs.size a), I.laid (t' := s.toks) (fun b u e => Heap.get?_push_of_some _ e) (Nat.le_refl _) (viO_ok (Heap.get?_push_size _ rfl)), rfl, q _ hf⟩
def rList : List V → Hp → VK → Prop := fun xs H Q => ∃ (p a : Addr) (kvs : List (Key × V)), xs = [.ref p] ∧ H p = some (viO p a) ∧ H a = some (.dK kvs) ∧ ∀ q, H q = none → Q (.ref q) (upd H q (.lst (kvs.map (·.2))))
theorem vals_at {kvs : List (Key × V)} {vs : List (Key × Value)} (rel : KV kvs vs) : Vals (kvs.map (·.2)) (vs.map (·.2)) := by
  unfold KV at rel
  induction rel with
  | nil => exact .nil
  | cons h t ih => exact .cons h.2 ih
theorem call_list (hcalm : X.calm = true) : CallR X (.type "list") rList := by
  intro pins s σ H xs us Q I r q
  obtain ⟨p, a, kvs, ex, hp, hd, q⟩ := q
  subst ex
  obtain ⟨u, eu, rx⟩ := vals1 r
  subst eu
  cases rx
  obtain ⟨z, lo, vs, rel, dd⟩ := dk_of I.hok hd
  obtain ⟨ep, hat⟩ := dd.dictAt
  obtain ⟨vw, _⟩ := (show ObjOk X.prog X.w H s.heap p (viO p a) from I.hok p _ hp)
  refine PySem.W.kdl_call (PySem.W.kdl_values (knd := mixKind X.prog X.w) (kvs := vs) (ep := ep) (r := p) (d := a)) (I.ok.hd hcalm) ⟨vw, hat⟩ (by rw [← rel.length]; exact z) fun h' tk acc c' hk hD hacc => ?_
  have ea : acc.toList = vs.map (·.2) := PySem.W.kdl_vals_eq acc.toList (by rw [Array.length_toList]; exact hacc.1) fun j v e => hacc.2 j v (by rw [← Array.getElem?_toList]; exact e)
  have hv : Vals (kvs.map (·.2)) acc.toList := by rw [ea]; exact vals_at rel
  exact ⟨.ref s.heap.objs.size, upd H s.heap.objs.size (.lst (kvs.map (·.2))), I.laid (t' := tk) hk (Nat.le_refl _)
    (show ObjOk X.prog X.w _ _ _ (.lst (kvs.map (·.2))) from ⟨by rw [List.length_map]; exact z, acc.toList, c', hv, by rw [Array.toArray_toList]; exact hD⟩), rfl, q _ (I.hok.fresh (Nat.le_refl _))⟩
end
end LV
set_option Elab.async false
set_option linter.all false
set_option maxRecDepth 100000
set_option maxHeartbeats 4000000
namespace K26
open PySem PySem.Spec PyProof.Rows L2
open C8 (Cal Mak Met pe_c pe_mk pe_mt pe_mt0)
open KM (pr Sz)
section
variable {P : Program} {w : World} {K : PySem.W.Frag} {mg : Str → Option Value} {base : Heap} {f C CR : Addr} {fd : FuncData}
def sp_times (C : Addr) : Sp := fun vs H Q _ => ∃ (p : Addr) (a : Int × Int) (k : Int) (n : Nat), vs = [.ref p, .int k] ∧ Sh C H p a ∧ Bd n a ∧ k.natAbs < 2 ^ n ∧ 0 < n ∧ n ≤ 4000 ∧
  ∀ r H', Same H H' → H r = none → Sh C H' r (KM.low (a.1 * k) a.2) → Q (.ref r) H'
theorem ok_times (F : Dn K d_Share_times f fd) (M : MakS P w K mg base C) (T : Cl K mg C) : FnOk P w K mg base CX0 4 f fd ["self", "many"] (sp_times C) := by
  refine F.ok sc_Share_times (fun vs H Q E h => ?_) (fun cdv A outer s H vs Q E hr h => ?_)
  · obtain ⟨p, a, k, n, rfl, _⟩ := h
    rfl
  · obtain ⟨p, a, k, n, rfl, ⟨dp, hp⟩, ba, hk, hn0, hn9, hQ⟩ := h
    refine ⟨_, PSs.nox (pss_one (ps_ret (pe_mk M hr (by decide) rfl (pa_cons (pe_op op_mulW (pe_fld (pv 0) rfl) (pv 1)) (pa_cons (pe_fld (pv 0) rfl) pa_nil))))), ?_⟩
    refine ⟨_, rfl, p, C, dp, _, _, rfl, hp, T.cl, T.nt, shF_top a, _, rfl, _, _, rfl, rfl, wide_mul ba.1 hk hn0 hn0 (by omega), ?_⟩
    refine ⟨_, rfl, p, C, dp, _, _, rfl, hp, T.cl, T.nb, shF_bot a, ?_⟩
    exact mk_at (n := n) (by have := ba.2.1; omega) ba.2.2 hn0 (by omega) hQ
def sp_below (C : Addr) : Sp := fun vs H Q _ => ∃ (p q : Addr) (a b : Int × Int) (n : Nat), vs = [.ref p, .ref q] ∧ Sh C H p a ∧ Sh C H q b ∧ two n a b ∧ Q (.bl (decide (a.1 * b.2 < b.1 * a.2))) H
theorem ok_below (F : Dn K d_Share_below f fd) (T : Cl K mg C) : FnOk P w K mg base CX0 1 f fd ["self", "other"] (sp_below C) := by
  refine F.ok sc_Share_below (fun vs H Q E h => ?_) (fun cdv A outer s H vs Q E hr h => ?_)
  · obtain ⟨p, q, a, b, n, rfl, _⟩ := h
    rfl
  · obtain ⟨p, q, a, b, n, rfl, ⟨dp, hp⟩, ⟨dq, hq⟩, ⟨ba, bb, hn0, hn9⟩, hQ⟩ := h
    refine ⟨_, PSs.nox (pss_one (ps_ret (pe_cmpR op_lt (pe_op op_mulW (pe_fld (pv 0) rfl) (pe_fld (pv 1) rfl)) (pe_op op_mulW (pe_fld (pv 1) rfl) (pe_fld (pv 0) rfl)) (nomark _)))), ?_⟩
    refine ⟨_, rfl, p, C, dp, _, _, rfl, hp, T.cl, T.nt, shF_top a, _, rfl, q, C, dq, _, _, rfl, hq, T.cl, T.nb, shF_bot b, _, _, rfl, rfl, wide_mul ba.1 bb.2.2 hn0 hn0 (by omega), ?_⟩
    exact ⟨_, rfl, q, C, dq, _, _, rfl, hq, T.cl, T.nt, shF_top b, _, rfl, p, C, dp, _, _, rfl, hp, T.cl, T.nb, shF_bot a, _, _, rfl, rfl, wide_mul bb.1 ba.2.2 hn0 hn0 (by omega), _, _, rfl, rfl, hQ⟩
theorem timesR {vs : List V} {H : Hp} {Q : VK} {E : XK} (h : sp1 C (fun _ => True) (fun r k => r * Rat.divInt k 1) vs H Q E) : sp_times C vs H Q E := by
  obtain ⟨p, r, k, n, e, hp, sr, _, hk, n0, n9, q⟩ := h
  refine ⟨p, _, k, n, e, hp, bd_of sr, hk, n0, n9, fun t H' a b c => q t H' a b ?_⟩
  rw [KM.pr_times] at c
  exact c
def spLt (C : Addr) : Sp := fun vs H Q _ => ∃ (p q : Addr) (r s : Rat) (n : Nat), vs = [.ref p, .ref q] ∧ Sh C H p (pr r) ∧ Sh C H q (pr s) ∧ Sz n r ∧ Sz n s ∧ 0 < n ∧ n ≤ 4000 ∧ Q (.bl (decide (r < s))) H
theorem belowR {vs : List V} {H : Hp} {Q : VK} {E : XK} (h : spLt C vs H Q E) : sp_below C vs H Q E := by
  obtain ⟨p, q, r, s, n, e, hp, hq, sr, ss, n0, n9, k⟩ := h
  refine ⟨p, q, _, _, n, e, hp, hq, ⟨bd_of sr, bd_of ss, n0, n9⟩, ?_⟩
  have : decide ((pr r).1 * (pr s).2 < (pr s).1 * (pr r).2) = decide (r < s) := decide_eq_decide.mpr (KM.pr_lt r s)
  rw [this]
  exact k
def spSEq (C : Addr) : Sp := fun vs H Q _ => ∃ (p q : Addr) (r s : Rat), vs = [.ref p, .ref q] ∧ Sh C H p (pr r) ∧ Sh C H q (pr s) ∧ Q (.bl (decide (r = s))) H
theorem ok_eq (F : Dn K d_Share_eq f fd) (b : Bl mg) (T : Cl K mg C) (S : IsC K C) : FnOk P w K mg base CX0 1 f fd ["self", "other"] (spSEq C) := by
  refine F.ok sc_Share_eq (fun vs H Q E h => ?_) (fun cdv A outer s H vs Q E hr h => ?_)
  · obtain ⟨p, q, r, s, rfl, _⟩ := h
    rfl
  · obtain ⟨p, q, r, t, rfl, ⟨dp, hp⟩, ⟨dq, hq⟩, hQ⟩ := h
    refine ⟨_, PSs.nox (pss_one (ps_ret (pe_and (pe_callB call_isi rfl b.isi boot_isinstance (pa_cons (pv 1) (pa_cons (pe_glob (v := .ref C) rfl T.g rfl) pa_nil)))
      (pe_and (pe_cmpR op_eq (pe_fld (pv 0) rfl) (pe_fld (pv 1) rfl) (nomark _)) (pe_one (pe_cmpR op_eq (pe_fld (pv 0) rfl) (pe_fld (pv 1) rfl) (nomark _))))))), ?_⟩
    refine ⟨_, rfl, _, _, _, _, true, rfl, ClsV.own C, TyX.base (TyOf.ins hq T.cl S.ha S.hn S.htk S.hm), S.kit, true, rfl, iteT ?_⟩
    refine ⟨_, rfl, p, C, dp, _, _, rfl, hp, T.cl, T.nt, shF_top _, _, rfl, q, C, dq, _, _, rfl, hq, T.cl, T.nt, shF_top _, rfl, _, rfl, ?_⟩
    refine ite2 (fun h1 => ?_) (fun h1 => ?_)
    · have e1 : (pr r).1 = (pr t).1 := V.int.inj (of_decide_eq_true h1)
      refine ⟨_, rfl, p, C, dp, _, _, rfl, hp, T.cl, T.nb, shF_bot _, _, rfl, q, C, dq, _, _, rfl, hq, T.cl, T.nb, shF_bot _, rfl, ?_⟩
      have e : decide (V.int (pr r).2 = V.int (pr t).2) = decide (r = t) := by
        refine decide_eq_decide.mpr ⟨fun z => KM.pr_inj (Prod.ext e1 (V.int.inj z)), fun z => by rw [z]⟩
      rw [e]
      exact hQ
    · have e : decide (r = t) = false := decide_eq_false fun z => h1 (by rw [z]; simp)
      rw [e] at hQ
      exact hQ
def sumR (rs : List Rat) : Rat := rs.foldl (· + ·) 0
theorem fold_from (a : Rat) : ∀ rs : List Rat, rs.foldl (· + ·) a = a + sumR rs
  | [] => by show a = a + 0; rw [Rat.add_zero]
  | r :: rs => by
    show rs.foldl (· + ·) (a + r) = a + rs.foldl (· + ·) (0 + r)
    rw [fold_from (a + r) rs, fold_from (0 + r) rs, Rat.zero_add, Rat.add_assoc]
theorem sumR_app (xs ys : List Rat) : sumR (xs ++ ys) = sumR xs + sumR ys := by
  unfold sumR
  rw [List.foldl_append]
  exact fold_from _ ys
theorem sumR_cons (r : Rat) (rs : List Rat) : sumR (r :: rs) = r + sumR rs := by
  have := sumR_app [r] rs
  rw [List.singleton_append] at this
  rw [this]
  show (0 + r) + _ = _
  rw [Rat.zero_add]
theorem sz_sum {k : Nat} : ∀ {rs : List Rat}, (∀ r ∈ rs, Sz k r) → Sz (1 + (k + 1) * rs.length) (sumR rs) := by
  intro rs
  induction rs with
  | nil =>
    intro _
    refine ⟨Nat.two_pow_pos _, ?_⟩
    show 1 < 2 ^ (1 + (k + 1) * 0)
    simp
  | cons r rs ih =>
    intro h
    rw [sumR_cons]
    have h1 := h r (List.mem_cons_self ..)
    have h2 := ih fun x hx => h x (List.mem_cons_of_mem _ hx)
    refine (KM.sz_plus h1 h2).1.mono ?_
    rw [List.length_cons, Nat.mul_add]
    omega
def ShL (K : PySem.W.Frag) (C : Addr) (H : Hp) (l : Addr) (L : List (Addr × Rat)) : Prop := SqL K H l (L.map fun x => V.ref x.1) ∧ ∀ x ∈ L, Sh C H x.1 (pr x.2)
theorem ShL.keep {H H' : Hp} {l : Addr} {L : List (Addr × Rat)} (s : Same H H') (h : ShL K C H l L) : ShL K C H' l L := ⟨s.seq h.1, fun x hx => (h.2 x hx).keep s⟩
def ratsOf (L : List (Addr × Rat)) : List Rat := L.map (·.2)
def spTotal (K : PySem.W.Frag) (C : Addr) : Sp := fun vs H Q _ => ∃ (l : Addr) (L : List (Addr × Rat)), vs = [.ref l, .int 0] ∧ ShL K C H l L ∧ (∀ x ∈ L, Sz 270 x.2) ∧ L.length ≤ 12 ∧
  ∀ t H', Same H H' → H t = none → Sh C H' t (pr (sumR (ratsOf L))) → Q (.ref t) H'
theorem ok_total (F : Dn K d_total f fd) (M1 : MakS1 P w K mg base C) (mp : Met P w K mg base 4 C "plus" (sp2 C (· + ·)) []) : FnOk P w K mg base CX0 5 f fd ["shares", "start"] (spTotal K C) := by
  refine F.ok sc_total (fun vs H Q E h => ?_) (fun cdv A outer s H vs Q E hr h => ?_)
  · obtain ⟨l, L, rfl, _⟩ := h
    rfl
  · obtain ⟨l, L, rfl, hL, hS, hlen, hQ⟩ := h
    refine ⟨_, PSs.nox (pss_cons (ps_set (i := 2) sc_total.nd rfl (.inl rfl) (pe_mk M1 hr (by decide) rfl (pa_cons (pv 1) pa_nil)))
      (pss_cons (ps_for PassesOwn.never rfl (pi_list (pv 0)) (pg_name (i := 3) sc_total.nd rfl (.inl rfl))
        (pss_one (ps_set (i := 2) sc_total.nd rfl (.inl rfl) (pe_mt mp hr (by decide) (pv 2) (pa_cons (pv 3) pa_nil)))))
      (pss_one (ps_ret (pv 2))))), ?_⟩
    refine ⟨_, rfl, ?_⟩
    intro p pd np nd ne
    refine mk_in (n := 1) np nd (by decide) (by decide) (by decide) (by decide) fun H1 s1 hp => ⟨rfl, ?_⟩
    have z0 : Rat.divInt 0 1 = 0 := by rfl
    rw [z0] at hp
    refine ⟨_, rfl, l, rfl, ⟨_, s1.seq hL.1⟩, for_list (K := K) (xs := L.map fun x => V.ref x.1) (fun i σ H2 => ∃ (q : Addr) (v : Option V), σ = [some (.ref l), some (.int 0), some (.ref q), v] ∧ Same H H2 ∧ H q = none ∧ Sh C H2 q (pr (sumR (ratsOf (L.take i)))))
      ⟨p, none, rfl, s1, np, hp⟩ (fun i σ H2 _ z => by obtain ⟨q, v, _, s2, _⟩ := z; exact s2.seq hL.1) ?_ ?_⟩
    · rintro i y σ H2 hi ⟨q, v, rfl, s2, fq, hq⟩
      rw [List.getElem?_map] at hi
      cases hx : L[i]? with
      | none =>
        rw [hx] at hi
        cases hi
      | some x =>
        rw [hx] at hi
        cases (Option.some.inj hi : V.ref x.1 = y)
        have hm : x ∈ L := List.mem_of_getElem? hx
        have hil : i < L.length := (List.getElem?_eq_some_iff.mp hx).1
        have et : L.take (i + 1) = L.take i ++ [x] := by rw [List.take_add_one, hx]; rfl
        have szt : Sz 3600 (sumR (ratsOf (L.take i))) := by
          refine (sz_sum (k := 270) fun r hr => ?_).mono ?_
          · obtain ⟨x', hx', rfl⟩ := List.mem_map.mp hr
            exact hS x' (List.mem_of_mem_take hx')
          · unfold ratsOf
            rw [List.length_map, List.length_take]
            omega
        obtain ⟨dq, hq1⟩ := id hq
        refine ⟨_, rfl, q, dq, _, rfl, hq1, shF_no _ (by decide +kernel) (by decide +kernel), _, rfl, q, x.1, _, x.2, 3600, rfl, hq, (hL.2 x hm).keep s2, szt, (hS x hm).mono (by decide), by decide, by decide, fun t H3 s3 ft ht => ?_⟩
        refine ⟨t, _, rfl, s2.trans s3, s2.free ft, ?_⟩
        have er : sumR (ratsOf (L.take i)) + x.2 = sumR (ratsOf (L.take (i + 1))) := by
          rw [et]
          unfold ratsOf
          rw [List.map_append, sumR_app]
          show _ = _ + (0 + x.2)
          rw [Rat.zero_add]
        rw [← er]
        exact ht
    · rintro σ H2 ⟨q, v, rfl, s2, fq, hq⟩
      rw [List.length_map, List.take_length] at hq
      exact ⟨_, rfl, hQ q H2 s2 fq hq⟩
end
end K26
set_option Elab.async false
set_option linter.all false
set_option maxRecDepth 100000
set_option maxHeartbeats 4000000
namespace K26
open PySem PySem.Spec PyProof.Rows L2
open KM (pr Sz)
theorem rs_perm {f : Str → Rat} {xs ys : List Str} (p : xs.Perm ys) : MG.rs xs f = MG.rs ys f := by
  induction p with
  | nil => rfl
  | cons x _ ih => rw [MG.rs_cons, MG.rs_cons, ih]
  | swap x y l => rw [MG.rs_cons, MG.rs_cons, MG.rs_cons, MG.rs_cons]; grind
  | trans _ _ i1 i2 => rw [i1, i2]
theorem cst_nn {worth legs : Int} {n : Nat} (w1 : 1 ≤ worth) (l1 : 1 ≤ legs) : 0 ≤ Rat.divInt worth (legs * ((n + 1 : Nat) : Int)) :=
  Rat.divInt_nonneg (by omega) (Int.mul_nonneg (by omega) (by omega))
theorem val_le {drv : Str} {gs : List (Addr × Rd)} {legs worth : Int} {x y : Str} (w1 : 1 ≤ worth) (l1 : 1 ≤ legs) : ∀ i : Nat, (∀ j : Nat, j < i → x ∈ drv :: ab gs j → y ∈ drv :: ab gs j) → val drv gs legs worth i x ≤ val drv gs legs worth i y
  | 0, _ => Rat.le_refl
  | i + 1, h => by
    have ih := val_le (x := x) (y := y) w1 l1 i fun j hj => h j (by omega)
    have hi := h i (by omega)
    have c := cst_nn (n := (ab gs i).length) w1 l1
    unfold val
    by_cases hx : x ∈ drv :: ab gs i
    · rw [if_pos hx, if_pos (hi hx)]
      grind
    · rw [if_neg hx]
      split <;> grind
theorem val_same {drv : Str} {gs : List (Addr × Rd)} {legs worth : Int} {x y : Str} (w1 : 1 ≤ worth) (l1 : 1 ≤ legs) (i : Nat) (h : ∀ j : Nat, j < i → (x ∈ drv :: ab gs j ↔ y ∈ drv :: ab gs j)) : val drv gs legs worth i x = val drv gs legs worth i y :=
  Rat.le_antisymm (val_le w1 l1 i fun j hj => (h j hj).mp) (val_le w1 l1 i fun j hj => (h j hj).mpr)
theorem ab_mem {fs : List (Addr × Rd)} {l : Int} {x : Str} : x ∈ ab fs l ↔ ∃ z ∈ fs, (z.2.2.1 ≤ l ∧ l < z.2.2.2) ∧ z.2.1 = x := by
  unfold ab nms on
  simp only [List.mem_map, List.mem_filter, decide_eq_true_eq]
  constructor
  · rintro ⟨z, ⟨h1, h2⟩, h3⟩; exact ⟨z, h1, h2, h3⟩
  · rintro ⟨z, h1, h2, h3⟩; exact ⟨z, ⟨h1, h2⟩, h3⟩
theorem nms_inj : ∀ {fs : List (Addr × Rd)}, (nms fs).Nodup → ∀ {z y}, z ∈ fs → y ∈ fs → z.2.1 = y.2.1 → z = y
  | [], _, _, _, h, _, _ => by cases h
  | a :: fs, nd, z, y, hz, hy, e => by
    unfold nms at nd
    rw [List.map_cons, List.nodup_cons] at nd
    rcases List.mem_cons.mp hz with ea | hz1 <;> rcases List.mem_cons.mp hy with eb | hy1
    · rw [ea, eb]
    · exact absurd (List.mem_map.mpr ⟨y, hy1, by rw [← e, ea]⟩ : a.2.1 ∈ fs.map (·.2.1)) nd.1
    · exact absurd (List.mem_map.mpr ⟨z, hz1, by rw [e, eb]⟩ : a.2.1 ∈ fs.map (·.2.1)) nd.1
    · exact nms_inj (fs := fs) nd.2 hz1 hy1 e
theorem leg_z {drv : Str} {fs : List (Addr × Rd)} {z : Addr × Rd} {j : Int} (nd : (drv :: nms fs).Nodup) (hz : z ∈ fs) : (z.2.2.1 ≤ j ∧ j < z.2.2.2) ↔ z.2.1 ∈ drv :: ab fs j := by
  rw [List.nodup_cons] at nd
  have nx : z.2.1 ≠ drv := fun q => nd.1 (by rw [← q]; exact List.mem_map.mpr ⟨z, hz, rfl⟩)
  rw [List.mem_cons, ab_mem]
  constructor
  · intro h; exact .inr ⟨z, hz, h, rfl⟩
  · rintro (h | ⟨y, hy, h, ey⟩)
    · exact absurd h nx
    · rw [nms_inj nd.2 hz hy ey.symm]
      exact h
theorem divInt_mulr (w k : Int) (d : Int) : Rat.divInt (w * k) d = Rat.divInt w d * Rat.divInt k 1 := by
  rw [Rat.divInt_mul_divInt, Int.mul_one]
theorem val_times {drv : Str} {gs : List (Addr × Rd)} {legs worth : Int} (k : Int) (x : Str) : ∀ i : Nat, val drv gs legs (worth * k) i x = val drv gs legs worth i x * Rat.divInt k 1
  | 0 => by unfold val; rw [Rat.zero_mul]
  | i + 1 => by
    unfold val
    rw [val_times k x i, divInt_mulr]
    split <;> grind
theorem gv_times {drv : Str} {gs : List (Addr × Rd)} {legs worth : Int} {ls : List Str} (k : Int) (x : Str) : gv drv gs legs (worth * k) ls x = gv drv gs legs worth ls x * Rat.divInt k 1 := by
  have hb : bs drv gs legs (worth * k) x = bs drv gs legs worth x * Rat.divInt k 1 := by
    unfold bs
    rw [val_times, divInt_mulr]
    split <;> grind
  have hd : ∀ y, de (worth * k) (nms gs).length y x = de worth (nms gs).length y x * Rat.divInt k 1 := fun y => by
    unfold de
    rw [divInt_mulr, divInt_mulr]
    split <;> grind
  have key : ∀ (ls : List Str) (r s : Rat), r = s * Rat.divInt k 1 → ls.foldl (fun r y => r + de (worth * k) (nms gs).length y x) r = ls.foldl (fun r y => r + de worth (nms gs).length y x) s * Rat.divInt k 1 := by
    intro ls
    induction ls with
    | nil => intro r s h; exact h
    | cons y ls ih =>
      intro r s h
      refine ih _ _ ?_
      dsimp only
      rw [h, hd]
      grind
  exact key ls _ _ hb
/-- legs so many times as many -/
def wide (t : Int) (gs hs : List (Addr × Rd)) : Prop := gs.map (fun z => (z.2.1, z.2.2.1 * t, z.2.2.2 * t)) = hs.map (·.2)
theorem wide_nms {t : Int} {gs hs : List (Addr × Rd)} (h : wide t gs hs) : nms gs = nms hs := by
  have := congrArg (List.map Prod.fst) h
  rw [List.map_map, List.map_map] at this
  exact this
theorem wide_on {t b e : Int} {i j : Nat} (t1 : 1 ≤ t) (jt : (j : Int) < t) : (b * t ≤ (i : Int) * t + j ∧ (i : Int) * t + j < e * t) ↔ (b ≤ i ∧ (i : Int) < e) := by
  have h1 : b * t ≤ (i : Int) * t + j ↔ b ≤ i := by
    constructor
    · intro h
      rcases (show (i : Int) < b ∨ b ≤ i by omega) with q | q
      · have := Int.mul_le_mul_of_nonneg_right (show (i : Int) + 1 ≤ b by omega) (show 0 ≤ t by omega)
        rw [Int.add_mul] at this
        omega
      · exact q
    · intro h
      have := Int.mul_le_mul_of_nonneg_right h (show 0 ≤ t by omega)
      omega
  have h2 : (i : Int) * t + j < e * t ↔ (i : Int) < e := by
    constructor
    · intro h
      rcases (show (i : Int) < e ∨ e ≤ i by omega) with q | q
      · exact q
      · have := Int.mul_le_mul_of_nonneg_right q (show 0 ≤ t by omega)
        omega
    · intro h
      have := Int.mul_le_mul_of_nonneg_right (show (i : Int) + 1 ≤ e by omega) (show 0 ≤ t by omega)
      rw [Int.add_mul] at this
      omega
  rw [h1, h2]
theorem wide_ab {t : Int} {i j : Nat} (t1 : 1 ≤ t) (jt : (j : Int) < t) : ∀ {gs hs : List (Addr × Rd)}, wide t gs hs → ab hs ((i * t.toNat + j : Nat) : Int) = ab gs i
  | [], [], _ => rfl
  | [], _ :: _, h => by cases h
  | _ :: _, [], h => by cases h
  | z :: gs, y :: hs, h => by
    unfold wide at h
    rw [List.map_cons, List.map_cons] at h
    injection h with h1 h2
    have ih := wide_ab (i := i) t1 jt (gs := gs) (hs := hs) h2
    have e : ((i * t.toNat + j : Nat) : Int) = (i : Int) * t + j := by
      rw [Int.natCast_add, Int.natCast_mul]
      have : (t.toNat : Int) = t := by omega
      rw [this]
    have on_e : on ((i * t.toNat + j : Nat) : Int) y = on i z := by
      unfold on
      rw [← h1, e]
      exact decide_eq_decide.mpr (wide_on t1 jt)
    unfold ab nms at ih ⊢
    by_cases q : on i z = true
    · rw [List.filter_cons_of_pos q, List.filter_cons_of_pos (by rw [on_e]; exact q), List.map_cons, List.map_cons, ih, ← h1]
    · rw [List.filter_cons_of_neg q, List.filter_cons_of_neg (by rw [on_e]; exact q), ih]
theorem val_wide {drv : Str} {gs hs : List (Addr × Rd)} {legs worth t : Int} (t1 : 1 ≤ t) (l1 : 1 ≤ legs) (h : wide t gs hs) (x : Str) : ∀ i : Nat, val drv hs (legs * t) worth (i * t.toNat) x = val drv gs legs worth i x
  | 0 => by rw [Nat.zero_mul]; rfl
  | i + 1 => by
    have ih := val_wide (drv := drv) (worth := worth) t1 l1 h x i
    have key : ∀ j : Nat, j ≤ t.toNat → val drv hs (legs * t) worth (i * t.toNat + j) x = val drv gs legs worth i x + (j : Rat) * (if x ∈ drv :: ab gs i then Rat.divInt worth (legs * t * ((ab gs i).length + 1 : Nat)) else 0) := by
      intro j
      induction j with
      | zero => intro _; rw [Nat.add_zero, ih]; simp [Rat.add_zero]
      | succ j ihj =>
        intro hj
        have ea := wide_ab (i := i) (j := j) t1 (by omega) h
        rw [← Nat.add_assoc]
        show val drv hs (legs * t) worth (i * t.toNat + j) x + _ = _
        rw [ihj (by omega), ea]
        have : ((j + 1 : Nat) : Rat) = (j : Rat) + 1 := by simp
        rw [this]
        grind
    rw [Nat.add_mul, Nat.one_mul, key _ (Nat.le_refl _)]
    show _ = val drv gs legs worth i x + _
    by_cases q : x ∈ drv :: ab gs i
    · rw [if_pos q, if_pos q]
      have e : legs * t * (((ab gs i).length + 1 : Nat) : Int) = legs * (((ab gs i).length + 1 : Nat) : Int) * (t.toNat : Int) := by
        have : (t.toNat : Int) = t := by omega
        rw [this]
        grind
      rw [e, MG.divInt_mul_nat worth t.toNat _ (by omega) (by
        have : 0 < legs * (((ab gs i).length + 1 : Nat) : Int) := Int.mul_pos (by omega) (by omega)
        omega)]
    · rw [if_neg q, if_neg q]
      simp
theorem val_wideL {drv : Str} {gs hs : List (Addr × Rd)} {legs worth t : Int} (t1 : 1 ≤ t) (l1 : 1 ≤ legs) (h : wide t gs hs) (x : Str) : val drv hs (legs * t) worth (legs * t).toNat x = val drv gs legs worth legs.toNat x := by
  have : (legs * t).toNat = legs.toNat * t.toNat := Int.toNat_mul (by omega) (by omega)
  rw [this]
  exact val_wide t1 l1 h x _
theorem gv_wide {drv : Str} {gs hs : List (Addr × Rd)} {legs worth t : Int} {ls : List Str} (t1 : 1 ≤ t) (l1 : 1 ≤ legs) (h : wide t gs hs) (x : Str) : gv drv hs (legs * t) worth ls x = gv drv gs legs worth ls x := by
  unfold gv bs
  rw [val_wideL t1 l1 h, wide_nms h]
theorem gv_one {drv : Str} {gs : List (Addr × Rd)} {legs worth : Int} (y x : Str) : gv drv gs legs worth [y] x = bs drv gs legs worth x + de worth (nms gs).length y x := rfl
theorem sumR_map (f : Str → Rat) : ∀ xs : List Str, sumR (xs.map f) = MG.rs xs f
  | [] => rfl
  | x :: xs => by rw [List.map_cons, sumR_cons, MG.rs_cons, sumR_map f xs]
end K26
set_option Elab.async false
set_option linter.all false
set_option maxRecDepth 100000
set_option maxHeartbeats 4000000
/-! LR: list(range(a, b)). -/
namespace LR
open PySem PySem.Spec PyProof.Rows L2
def rLR : List V → Hp → VK → Prop := fun xs H Q => ∃ (p : Addr) (lo : Int) (n : Nat), xs = [.ref p] ∧ H p = some (.rng lo (lo + n)) ∧ n ≤ 10000 ∧ -(2 ^ 60) ≤ lo ∧ lo ≤ 2 ^ 60 ∧ ∀ l, H l = none → Q (.ref l) (upd H l (.lst ((List.range n).map fun i => V.int (lo + (i : Nat)))))
theorem call_list_rng {X : Cx} (hc : X.calm = true) : CallR X (.type "list") rLR := by
  intro pins s σ H xs us Q I r h
  obtain ⟨p, lo, n, rfl, hp, hn, l0, l1, q⟩ := h
  obtain ⟨u, rfl, rx⟩ := vals1 r
  obtain rfl : u = Value.ref p := rx
  obtain ⟨t, u, v, hr⟩ := (show ObjOk X.prog X.w H s.heap p (.rng lo (lo + n)) from I.hok p _ hp)
  have hs : Builtin.Range.small lo (lo + n) 1 = true := PySem.small_one (by omega) (by omega) (by omega) (by omega)
  have hz : Builtin.Range.rangeSize lo (lo + n) 1 = n := by
    unfold Builtin.Range.rangeSize
    simp
    omega
  refine PySem.call_list_range (I.ok.hd hc) hr hs hz (by omega) fun h' tk acc c' hk hS hi => ?_
  refine ⟨.ref s.heap.objs.size, upd H s.heap.objs.size (.lst ((List.range n).map fun i => V.int (lo + (i : Nat)))), I.laid hk (Nat.le_refl _) (show ObjOk X.prog X.w _ _ _ (.lst ((List.range n).map fun i => V.int (lo + (i : Nat)))) from ⟨?_, acc.toList, c', ?_, ?_⟩), rfl, q _ (I.hok.fresh (Nat.le_refl _))⟩
  · rw [List.length_map, List.length_range]
    exact Nat.le_trans hn (by decide)
  · refine vals_of_at ?_ fun j x w h1 h2 => ?_
    · rw [List.length_map, List.length_range, Array.length_toList, hi.1]
    · have hj : j < n := by
        have := (List.getElem?_eq_some_iff.mp h1).1
        rw [List.length_map, List.length_range] at this
        exact this
      rw [List.getElem?_map, List.getElem?_range hj] at h1
      cases h1
      obtain ⟨t', e⟩ := hi.2 j w (by rw [← Array.getElem?_toList]; exact h2)
      exact ⟨t', by rw [e, Int.mul_one]⟩
  · rw [Array.toArray_toList]
    exact hS
end LR
set_option Elab.async false
set_option linter.all false
set_option maxRecDepth 100000
set_option maxHeartbeats 4000000
/-! LR1: range(n) as a value. -/
namespace LR
open PySem PySem.Spec PyProof.Rows L2
theorem cr_range1 {X : Cx} : CallR X (.type "range") (fun vs H Q => ∃ j, vs = [V.int j] ∧ ∀ p, H p = none → Q (.ref p) (upd H p (.rng 0 j))) := by
  intro pins s σ H vs us Q I r h
  obtain ⟨j, rfl, q⟩ := h
  obtain ⟨u1, rfl, rj⟩ := vals1 r
  obtain ⟨u, rfl⟩ := rj
  refine call_range_1 ⟨.ref s.heap.objs.size, upd H s.heap.objs.size (.rng 0 j), I.laid (t' := s.toks + 1 + 1) (fun b o e => Heap.get?_push_of_some _ e) (Nat.le_refl _) ?_, rfl, q _ (I.hok.fresh (Nat.le_refl _))⟩
  exact ⟨s.toks, u, s.toks + 1, Heap.get?_push_size _ rfl⟩
end LR
set_option Elab.async false
set_option linter.all false
set_option maxRecDepth 100000
set_option maxHeartbeats 4000000
/-! len of an instance by its own __len__ -/
namespace OW
open PySem PySem.Spec PyProof.Rows L2
section
variable {X : Cx} {k : Nat} {C : Addr} {sp : Sp}
def rLenO (C : Addr) (sp : Sp) : List V → Hp → VK → Prop := fun xs H Q => ∃ a dx fs, xs = [.ref a] ∧ H a = some (.ins C dx fs) ∧ sp [.ref a] H (fun v H' => ∃ n : Nat, v = .int n ∧ n < 1000000 ∧ Q (.int n) H') E0
theorem call_lenO (S : Spc X.prog X.w X.K X.mg X.base k C "__len__" sp) (hr : Room (k + 1) X.A) : CallR X (.builtin "len") (rLenO C sp) := by
  obtain ⟨f, fd, ps, h1, h2, F, hb⟩ := S.ex
  intro pins s σ H xs us Q I r h
  obtain ⟨a, dx, fs, rfl, ea, q⟩ := h
  obtain ⟨u, rfl, ru⟩ := vals1 r
  cases (show u = Value.ref a from ru)
  obtain ⟨mA, O, _⟩ := ins_get I.hok ea
  obtain ⟨od, J, _⟩ := O.look
  obtain ⟨m, hF⟩ := I.fr
  refine PySem.W.len_K hF I.ok.mod.kin J h1 h2 ?_
  refine wpAny_mono (run_at (E' := X.xe) (vs := [.ref a]) F hb hr.in1 I I.env0.in1 (.cons rfl .nil) q) (fun w s' z => ?_) fun _ _ x => x
  obtain ⟨z', H', I', rz, n, rfl, hn, qz⟩ := z
  obtain ⟨t, rfl⟩ := rz
  exact ⟨⟨by omega, by omega⟩, .int n, H', I'.tok _, ⟨_, rfl⟩, qz⟩
end
end OW
set_option Elab.async false
set_option linter.all false
set_option maxRecDepth 100000
set_option maxHeartbeats 4000000
namespace K26
open PySem PySem.Spec PyProof.Rows L2
open C8 (Cal Mak Met pe_c pe_mk pe_mt pe_mt0)
open KM (pr Sz)
open SX (S)
section
variable {P : Program} {w : World} {K : PySem.W.Frag} {mg : Str → Option Value} {base : Heap} {f C CR : Addr} {fd : FuncData}
def spLn (CR : Addr) : Sp := fun vs H Q _ => ∃ (rp : Addr) (day : Int) (drv : Str) (gs : List (Addr × Rd)) (legs worth : Int) (ls : List Str), vs = [.ref rp] ∧ Rid CR H rp day drv gs legs worth ls ∧ gs.length ≤ 11 ∧ ∀ H', Same H H' → Q (.int ((gs.length + 1 : Nat) : Int)) H'
theorem ok_ln (F : Dn K d_Ride_len f fd) (b : Bl mg) (mF : Met P w K mg base 1 CR "folk" (spFo CR) []) : FnOk P w K mg base CX0 2 f fd ["self"] (spLn CR) := by
  refine F.ok sc_Ride_len (fun vs H Q E h => ?_) (fun cdv A outer s H vs Q E hr h => ?_)
  · obtain ⟨rp, day, drv, gs, legs, worth, ls, rfl, _⟩ := h
    rfl
  · obtain ⟨rp, day, drv, gs, legs, worth, ls, rfl, rid, len, hQ⟩ := h
    refine ⟨_, PSs.nox (pss_one (ps_ret (pe_callB call_len_seq rfl b.len boot_len (pa_cons (pe_mt0 mF hr (by decide) (pv 0)) pa_nil)))), ?_⟩
    obtain ⟨dx, sl, lc, hrp, fk, hlc⟩ := id rid
    refine ⟨_, rfl, rp, dx, _, rfl, hrp, r_folk, rp, day, drv, gs, legs, worth, ls, rfl, rid, len, fun o ys H1 s1 fo ho pm pw => ?_⟩
    refine ⟨o, _, rfl, .inl (SqL.of ho), ?_⟩
    have : ((ys.map V.str).length) = gs.length + 1 := by rw [List.length_map, pm.length_eq, List.length_cons]; unfold nms; rw [List.length_map]
    rw [this]
    exact hQ H1 s1
/-- the legs of one -/
def spLegs : Sp := fun vs H Q _ => ∃ (wp : Addr) (day : Int) (drv : Str) (fs : List (Addr × Rd)) (legs worth : Int) (lt : List Str) (x : Str), vs = [.ref wp, .str x] ∧ Wy H wp day drv fs legs worth lt ∧ WayOk day drv fs legs worth lt ∧ x ∈ drv :: nms fs ∧
  ∀ (l : Addr) (ns : List Int) (H' : Hp), Same H H' → H l = none → H' l = some (.lst (ns.map V.int)) → (∀ j ∈ ns, 0 ≤ j ∧ j < legs) → (∀ j : Int, 0 ≤ j → j < legs → (j ∈ ns ↔ x ∈ drv :: ab fs j)) → ns.length ≤ 12 → Q (.ref l) H'
def rg (lo : Int) (n : Nat) : List Int := (List.range n).map fun i => lo + (i : Nat)
theorem rg_map (lo : Int) (n : Nat) : (rg lo n).map V.int = (List.range n).map fun i => V.int (lo + (i : Nat)) := by unfold rg; rw [List.map_map]; rfl
theorem rg_mem {lo : Int} {n : Nat} {j : Int} : j ∈ rg lo n ↔ lo ≤ j ∧ j < lo + n := by
  unfold rg
  rw [List.mem_map]
  constructor
  · rintro ⟨i, hi, rfl⟩
    rw [List.mem_range] at hi
    omega
  · rintro ⟨h1, h2⟩
    exact ⟨(j - lo).toNat, List.mem_range.mpr (by omega), by omega⟩
theorem rg_len (lo : Int) (n : Nat) : (rg lo n).length = n := by unfold rg; rw [List.length_map, List.length_range]
theorem ok_legs (F : Dn K d_l_legs f fd) (b : Bl mg) : FnOk P w K mg base CX0 1 f fd ["_law_way_here", "_law_called"] spLegs := by
  refine F.ok sc_l_legs (fun vs H Q E h => ?_) (fun cdv A outer s H vs Q E hr h => ?_)
  · obtain ⟨wp, day, drv, fs, legs, worth, lt, x, rfl, _⟩ := h
    rfl
  · obtain ⟨wp, day, drv, fs, legs, worth, lt, x, rfl, ⟨fl, sl, hw, fk, hsl⟩, ok, hx, hQ⟩ := h
    have l1 := ok.l1
    have l12 := ok.l12
    refine ⟨_, PSs.nox (pss_cons (ps_for PassesOwn.never rfl (pi_list (pe_ix ix_list (pv 0) pe_int (fun _ _ => rfl))) (pg_tup rfl (pgs_cons (pg_name (i := 2) sc_l_legs.nd rfl (.inl rfl)) (pgs_cons (pg_name (i := 3) sc_l_legs.nd rfl (.inl rfl)) (pgs_cons (pg_name (i := 4) sc_l_legs.nd rfl (.inl rfl)) pgs_nil))))
        (pss_one (ps_if (pt_cmpR op_eq (pv 2) (pv 1) (nomark _)) (pss_one (ps_ret (pe_callTy (LR.call_list_rng rfl) rfl b.list boot_list (pa_cons (pe_callTy cr_range2 rfl b.range boot_range (pa_cons (pv 3) (pa_cons (pv 4) pa_nil))) pa_nil)))) pss_nil)))
      (pss_one (ps_ret (pe_callTy (LR.call_list_rng rfl) rfl b.list boot_list (pa_cons (pe_callTy LR.cr_range1 rfl b.range boot_range (pa_cons (pe_ix ix_list (pv 0) pe_int (fun _ _ => rfl)) pa_nil)) pa_nil))))), ?_⟩
    refine ⟨_, rfl, wp, _, _, _, rfl, rfl, SqL.of hw, rfl, fl, rfl, ⟨_, SqL.of fk.1⟩, for_list (K := K) (xs := fs.map fun z => V.ref z.1) (fun i σ H' => ∃ (v2 v3 v4 : Option V), σ = [some (.ref wp), some (.str x), v2, v3, v4] ∧ H' = H ∧ ∀ z ∈ fs.take i, z.2.1 ≠ x)
      ⟨_, _, _, rfl, rfl, fun z hz => by simp at hz⟩ (fun i σ H' _ z => by
        obtain ⟨_, _, _, _, rfl, _⟩ := z
        exact SqL.of fk.1) ?_ ?_⟩
    · rintro i v σ H' hi ⟨v2, v3, v4, rfl, rfl, no⟩
      rw [List.getElem?_map] at hi
      obtain ⟨z, hz, rfl⟩ := Option.map_eq_some_iff.mp hi
      have hm := List.mem_of_getElem? hz
      obtain ⟨b0, be, el⟩ := ok.rd.ok z hm
      refine ⟨z.1, _, rfl, SqT.of (fk.2 z hm), rfl, _, _, rfl, _, _, rfl, _, _, rfl, rfl, ?_⟩
      refine ⟨_, rfl, _, rfl, rfl, _, rfl, ?_⟩
      refine ite2 (fun q => ?_) (fun q => ?_)
      · have ex : z.2.1 = x := by have := of_decide_eq_true q; simpa using this
        refine ⟨_, rfl, _, rfl, _, _, rfl, fun p fp => ?_⟩
        refine ⟨p, z.2.2.1, (z.2.2.2 - z.2.2.1).toNat, rfl, ?_, by omega, by omega, by omega, fun l fl' => ?_⟩
        · rw [upd_same]
          exact congrArg (fun k => some (HO.rng z.2.2.1 k)) (by omega)
        · rw [← rg_map]
          refine hQ l _ _ ((same_new fp).trans (same_new fl')) ((same_new fp).free fl') upd_same (fun j hj => ?_) (fun j j0 jl => ?_) ?_
          · rw [rg_mem] at hj
            omega
          · rw [rg_mem, ← ex, ← leg_z ok.rd.nd hm]
            omega
          · rw [rg_len]
            omega
      · have ex : z.2.1 ≠ x := fun e => q (by simp [e])
        refine ⟨_, _, _, rfl, rfl, fun y hy => ?_⟩
        rw [List.take_add_one, hz] at hy
        rcases List.mem_append.mp hy with hy | hy
        · exact no y hy
        · have : y = z := by simpa using hy
          rw [this]
          exact ex
    · rintro σ H' ⟨v2, v3, v4, rfl, rfl, no⟩
      rw [List.length_map, List.take_length] at no
      have ex : x = drv := by
        rcases List.mem_cons.mp hx with h | h
        · exact h
        · obtain ⟨z, hz, ez⟩ := List.mem_map.mp h
          exact absurd ez (no z hz)
      refine ⟨_, rfl, wp, _, _, _, rfl, rfl, SqL.of hw, rfl, _, rfl, fun p fp => ?_⟩
      refine ⟨p, 0, legs.toNat, rfl, ?_, by omega, by omega, by omega, fun l fl' => ?_⟩
      · rw [upd_same]
        exact congrArg (fun k => some (HO.rng 0 k)) (by omega)
      · rw [← rg_map]
        refine hQ l _ _ ((same_new fp).trans (same_new fl')) ((same_new fp).free fl') upd_same (fun j hj => ?_) (fun j j0 jl => ?_) ?_
        · rw [rg_mem] at hj
          omega
        · rw [rg_mem, ex]
          exact ⟨fun _ => List.mem_cons_self, fun _ => by omega⟩
        · rw [rg_len]
          omega
end
end K26
set_option Elab.async false
set_option linter.all false
set_option maxRecDepth 100000
set_option maxHeartbeats 4000000
namespace K26
open PySem PySem.Spec PyProof.Rows L2
open KM (pr Sz)
open SX (S)
theorem strOk_S {l : List Nat} (h : NM.ok l) : PyData.strOk (S l) = true := by
  unfold PyData.strOk
  rw [← Array.all_toList, List.all_eq_true]
  intro x hx
  have := h.2.2 x hx
  exact decide_eq_true (by omega)
theorem eqvA_ints : ∀ ns ms : List Int, PyData.eqvAll (ns.map .int) (ms.map .int) = decide (ns = ms)
  | [], [] => by simp [PyData.eqvAll]
  | [], _ :: _ => by simp [PyData.eqvAll]
  | _ :: _, [] => by simp [PyData.eqvAll]
  | n :: ns, m :: ms => by
    rw [List.map_cons, List.map_cons, PySem.W.eqv_all_cons, eqvA_ints ns ms]
    by_cases e : n = m <;> simp [PyData.eqv, e]
theorem eqv_ints (ns ms : List Int) : PyData.eqv (.list (ns.map .int)) (.list (ms.map .int)) = decide (ns = ms) := by
  rw [show PyData.eqv (.list (ns.map .int)) (.list (ms.map .int)) = PyData.eqvAll (ns.map .int) (ms.map .int) by rw [PyData.eqv], eqvA_ints]
theorem inV_ints (x : Int) : ∀ R : List Int, inV (.int x) (R.map V.int) = decide (x ∈ R)
  | [] => rfl
  | y :: R => by
    have ih := inV_ints x R
    unfold inV at ih ⊢
    rw [List.map_cons, List.any_cons, ih]
    have e : eqV (.int y) (.int x) = decide (x = y) := by
      show decide (y = x) = decide (x = y)
      exact decide_eq_decide.mpr ⟨Eq.symm, Eq.symm⟩
    rw [e]
    simp [Bool.decide_or]
theorem flat_ints (R : List Int) : (R.map V.int).all flatV = true := by
  rw [List.all_eq_true]
  intro v hv
  obtain ⟨y, _, rfl⟩ := List.mem_map.mp hv
  rfl
theorem neS {C a b : Addr} {r s : Rat} {H : Hp} {Q : VK} (ha : Sh C H a (pr r)) (hb : Sh C H b (pr s)) (q : Q (.bl (!decide (r = s))) H) : OW.rNeO C (spSEq C) (.ref a) (.ref b) H Q := by
  obtain ⟨da, ea⟩ := id ha
  obtain ⟨db, eb⟩ := id hb
  exact ⟨a, da, _, b, db, _, rfl, rfl, ea, eb, a, b, r, s, rfl, ha, hb, _, rfl, q⟩
/-- list(told.values()) summed -/
theorem totL {K : PySem.W.Frag} {C D : Addr} {H : Hp} {ys : List Str} {v : Str → Rat} (ds : DS C H D ys v) (sz : ∀ x, Sz 270 (v x)) (yl : ys.length ≤ 12) :
    ∃ ad : Str → Addr, H D = some (dctO ys fun x => .ref (ad x)) ∧ ∀ vp, H vp = none → ∀ p, (upd H vp (LV.viO vp D)) p = none → ∃ L : List (Addr × Rat),
      Same H (upd (upd H vp (LV.viO vp D)) p (.lst ((ys.map fun x => ((Sum.inr x : Key), V.ref (ad x))).map (·.2)))) ∧ ShL K C (upd (upd H vp (LV.viO vp D)) p (.lst ((ys.map fun x => ((Sum.inr x : Key), V.ref (ad x))).map (·.2)))) p L ∧ (∀ x ∈ L, Sz 270 x.2) ∧ L.length ≤ 12 ∧ sumR (ratsOf L) = MG.rs ys v := by
  obtain ⟨ad, hD, hv⟩ := ds
  refine ⟨ad, hD, fun vp fvp p fp => ?_⟩
  have sv := same_new (o := LV.viO vp D) fvp
  have sq := same_new (o := .lst ((ys.map fun x => ((Sum.inr x : Key), V.ref (ad x))).map (·.2))) fp
  have s14 := sv.trans sq
  refine ⟨ys.map fun x => (ad x, v x), s14, ⟨SqL.of (by rw [upd_same, List.map_map, List.map_map]; rfl), fun x hx => ?_⟩, fun x hx => ?_, by rw [List.length_map]; exact yl, ?_⟩
  · obtain ⟨z, hz, rfl⟩ := List.mem_map.mp hx
    exact (hv z hz).keep s14
  · obtain ⟨z, hz, rfl⟩ := List.mem_map.mp hx
    exact sz z
  · unfold ratsOf
    rw [List.map_map]
    exact sumR_map v ys
theorem mk_rideI {CR rp dx : Addr} {H : Hp} {day : Int} {drv : Str} {fs : List (Addr × Rd)} {legs worth : Int} {lt : List Str} {xr xl : V} {Qv : VK} {E : XK} (nrp : H rp = none) (ndx : H dx = none) (h1 : xr = .non ∧ fs = [] ∨ ∃ fl, xr = .ref fl ∧ Fk H fl fs) (h2 : xl = .non ∧ lt = [] ∨ ∃ lo, xl = .ref lo ∧ H lo = some (.lst (lt.map V.str))) (ok : WayOk day drv fs legs worth lt)
    (hQ : ∀ (gs : List (Addr × Rd)) (ls : List Str) (H' : Hp), Same H H' → gs.Perm fs → ls.Perm lt → RidF CR H H' rp day drv gs legs worth ls → Qv .non H') :
    spRI CR [.ref rp, .int day, .str drv, xr, .int legs, .int worth, xl] (upd (upd H dx (.own rp)) rp (.ins CR dx [])) Qv E := by
  have lift : ∀ b o, H b = some o → (upd (upd H dx (.own rp)) rp (.ins CR dx [])) b = some o := fun b o e => by
    rw [upd_ne (ne_of_none e nrp), upd_ne (ne_of_none e ndx)]
    exact e
  refine ⟨rp, dx, xr, xl, day, drv, fs, legs, worth, lt, rfl, upd_same, h1.imp id (fun ⟨fl, e, fk⟩ => ⟨fl, e, fk.same lift⟩), h2.imp id (fun ⟨lo, e, q⟩ => ⟨lo, e, lift _ _ q⟩), ok, fun H' gs ls k pm pl rid => ?_⟩
  obtain ⟨dx', st, lc, e1, e2, e3, e4, e5⟩ := rid
  have fr : ∀ a, (upd (upd H dx (.own rp)) rp (.ins CR dx [])) a = none → H a = none := fun a e => by
    cases q : H a with
    | none => rfl
    | some o => rw [lift a o q] at e; cases e
  exact hQ gs ls H' (fun a o e => k a o (ne_of_none e nrp) (lift a o e)) pm pl ⟨dx', st, lc, e1, e2, e3, fr _ e4, fr _ e5⟩
theorem iteEq {a b : Rat} {X Y : Prop} (e : a = b) (h : Y) : if (!decide (a = b)) = true then X else Y := by
  rw [decide_eq_true e]
  exact iteF h
theorem rs_ne_len {xs : List Str} {z : Str} {n : Nat} (nd : xs.Nodup) (hz : z ∈ xs) (hl : xs.length = n + 1) : (xs.filter fun x => !decide (x = z)).length = n := by
  have h1 : (xs.filter fun x => !decide (x = z)).Perm (xs.erase z) := by
    rw [nd.erase_eq_filter z]
    refine List.Perm.of_eq (List.filter_congr fun x _ => ?_)
    by_cases e : x = z <;> simp [e]
  rw [h1.length_eq, List.length_erase_of_mem hz, hl]
  rfl
end K26
set_option Elab.async false
set_option linter.all false
set_option maxRecDepth 100000
set_option maxHeartbeats 4000000
namespace K26
open PySem PySem.Spec PyProof.Rows L2
open C8 (Cal Mak Met pe_c pe_mk pe_mt pe_mt0)
open KM (pr Sz)
open SX (S)
section
variable {P : Program} {w : World} {K : PySem.W.Frag} {mg : Str → Option Value} {base : Heap} {f C CR : Addr} {fd : FuncData}
/-- what != of Shares needs -/
structure NeS (P : Program) (w : World) (K : PySem.W.Frag) (mg : Str → Option Value) (base : Heap) (C : Addr) : Prop where
  sp : OW.Spc P w K mg base 1 C "__eq__" (spSEq C)
  ne : PySem.W.findIn K (.ref C) "__ne__" = some (some (.builtin "object.__ne__"))
  mr : PySem.W.mroIn K C (.type "object") = some true
/-- a ride and its way -/
def RW (CR : Addr) (H : Hp) (rp wp : Addr) (day : Int) (drv : Str) (gs fs : List (Addr × Rd)) (legs worth : Int) (lt ls : List Str) : Prop :=
  Rid CR H rp day drv gs legs worth ls ∧ Wy H wp day drv fs legs worth lt ∧ WayOk day drv fs legs worth lt ∧ gs.Perm fs ∧ ls.Perm lt
theorem WayOk.perm {day : Int} {drv : Str} {gs fs : List (Addr × Rd)} {legs worth : Int} {lt : List Str} (ok : WayOk day drv fs legs worth lt) (pm : gs.Perm fs) : WayOk day drv gs legs worth lt :=
  ⟨ok.d0, ok.d1, ok.dn, ok.l1, ok.l12, ok.w1, ok.w9, ok.rd.perm pm, ok.ltn, fun y hy => (pm.map (fun q : Addr × Rd => q.2.1)).mem_iff.mpr (ok.lts y hy)⟩
def spPR (C CR : Addr) : Sp := fun vs H Q _ => ∃ (rp wp : Addr) (day : Int) (drv : Str) (gs fs : List (Addr × Rd)) (legs worth : Int) (lt ls : List Str), vs = [.ref rp, .ref wp] ∧ RW CR H rp wp day drv gs fs legs worth lt ls ∧ ∀ H', Same H H' → Q (.bl true) H'
theorem ok_pr (F : Dn K d_l_parts_right f fd) (b : Bl mg) (b2 : Bl2 mg) (T : ClR K mg CR) (TS : Cl K mg C) (M1 : MakS1 P w K mg base C) (N : NeS P w K mg base C) (mF : Met P w K mg base 1 CR "folk" (spFo CR) []) (mPt : Met P w K mg base 5 CR "parts" (spPt C CR) []) (mB : Met P w K mg base 1 C "below" (spLt C) [])
    (cT : Cal P w K mg base 5 "total" (spTotal K C) [.int 0]) (cLe : Cal P w K mg base 1 "_law_legs" spLegs []) : FnOk P w K mg base CX0 6 f fd ["_law_ride", "_law_way_here"] (spPR C CR) := by
  refine F.ok sc_l_parts_right (fun vs H Q E h => ?_) (fun cdv A outer s H vs Q E hr h => ?_)
  · obtain ⟨rp, wp, day, drv, gs, fs, legs, worth, lt, ls, rfl, _⟩ := h
    rfl
  · obtain ⟨rp, wp, day, drv, gs, fs, legs, worth, lt, ls, rfl, ⟨rid, wy, ok, pm, pl⟩, hQ⟩ := h
    have hu := hu_of hr
    have hu64 : (A.deeper (envOfC d_l_parts_right.qual d_l_parts_right.scope s.heap.objs.size f cdv)).units + 64 < cLine := by have := hr.un; omega
    have okg := ok.perm pm
    refine ⟨_, PSs.nox (pss_cons (ps_set (i := 2) sc_l_parts_right.nd rfl (.inl rfl) (pe_mt0 mPt hr (by decide) (pv 0)))
      (pss_cons (ps_if (PW.pt (pw_or (pt_cmpR (op_neD hu64) (pe_callB (call_sortedD rfl) rfl b2.srt boot_sorted (pa_cons (pv 2) pa_nil)) (pe_mt0 mF hr (by decide) (pv 0)) (nomark _))
        (pw_or1 (pt_cmpR (OW.op_neO N.sp N.ne N.mr (hr.mono (by decide))) (pe_c cT hr (by decide) rfl (pa_cons (pe_callTy (LV.call_list rfl) rfl b.list boot_list (pa_cons (pe_bm0 PySem.F.plainAttrs_dict PySem.F.slot_dict_values PySem.F.type_dict_values LV.mt_values (pv 2)) pa_nil)) pa_nil))
          (pe_mk M1 hr (by decide) rfl (pa_cons (pe_ix ix_list (pv 1) pe_int (fun _ _ => rfl)) pa_nil)) (nomark _))))) pss_never pss_nil)
      (pss_cons (ps_lock (ps_for PassesOwn.never rfl (pi_keys (pv 2)) (pg_name (i := 3) sc_l_parts_right.nd rfl (.inl rfl))
        (pss_one (ps_for PassesOwn.never rfl (pi_keys (pv 2)) (pg_name (i := 4) sc_l_parts_right.nd rfl (.inl rfl))
          (pss_cons (ps_asg (pe_tup (pa_cons (pe_c cLe hr (by decide) rfl (pa_cons (pv 1) (pa_cons (pv 3) pa_nil))) (pa_cons (pe_c cLe hr (by decide) rfl (pa_cons (pv 1) (pa_cons (pv 4) pa_nil))) pa_nil)))
            (pg_tup rfl (pgs_cons (pg_name (i := 5) sc_l_parts_right.nd rfl (.inl rfl)) (pgs_cons (pg_name (i := 6) sc_l_parts_right.nd rfl (.inr rfl)) pgs_nil))))
          (C8.pss_cut (ps_if (PW.pt (pw_and (pt_cmpR (op_eqD hu64) (pv 5) (pv 6) (nomark _)) (pw_and1 (pt_cmpR (OW.op_neO N.sp N.ne N.mr (hr.mono (by decide))) (pe_dget hu (pv 2) (pv 3) (fun _ _ => rfl)) (pe_dget hu (pv 2) (pv 4) (fun _ _ => rfl)) (nomark _))))) pss_never pss_nil)
          (pss_one (ps_if (PW.pt (pw_and (pt_cmpR (op_eqD hu64) (pe_lc (own := [("_law_leg", 7)]) (g := gName 7) rfl sc_l_parts_right.nd (pi_list (pv 5)) (blkOk_by (N := N_l_parts_right) (sc := defScope s_l_parts_right) (by decide +kernel))
              (fun _ _ _ _ _ => pg_name (i := 7) sc_l_parts_right.nd rfl (Or.inl rfl)) (fun _ _ _ _ _ => pts_one (pt_cmpR (r := rIn K true) op_notIn_seq (pv 7) (pv 6) (by rfl))) (fun _ _ _ _ _ => pv 7)) (pe_lst pa_nil) (nomark _))
            (pw_and1 (pt_val (pe_mt mB hr (by decide) (pe_dget hu (pv 2) (pv 4) (fun _ _ => rfl)) (pa_cons (pe_dget hu (pv 2) (pv 3) (fun _ _ => rfl)) pa_nil)))))) pss_never pss_nil))))))))
      (pss_one (ps_ret pe_bl))))), ?_⟩
    obtain ⟨dx, sl, lc, hrp, fk, hlc⟩ := id rid
    obtain ⟨fl, sl', hw, fk', hsl⟩ := id wy
    refine ⟨_, rfl, rp, dx, _, rfl, hrp, r_parts, rp, day, drv, gs, legs, worth, lt, ls, rfl, rid, okg, fun D ys H1 s1 fD py ds1 => ?_⟩
    obtain ⟨ad, hD, hv⟩ := id ds1
    have ynd : ys.Nodup := py.nodup_iff.mpr okg.rd.nd
    have yl : ys.length ≤ 12 := by rw [py.length_eq, List.length_cons]; unfold nms; rw [List.length_map]; have := okg.rd.len; omega
    -- told names
    refine ⟨_, rfl, D, _, ys, rfl, .inl hD, (by rw [List.map_map]; rfl), Nat.lt_of_le_of_lt yl (by decide), fun zs p pz sz fp => ?_⟩
    have sp := same_new (o := .lst (zs.map V.str)) fp
    have hp2 : (upd H1 p (.lst (zs.map V.str))) p = some (.lst (zs.map V.str)) := upd_same
    generalize upd H1 p (.lst (zs.map V.str)) = H2 at sp hp2
    refine ⟨_, rfl, rp, dx, _, rfl, sp _ _ (s1 _ _ hrp), r_folk, rp, day, drv, gs, legs, worth, ls, rfl, (rid.same s1).same sp, okg.rd.len, fun o ws H3 s3 fo ho pw srt => ?_⟩
    have ezw : zs = ws := IO.sorted_same (IO.sorted_pw sz) srt (pz.trans (py.trans pw.symm))
    subst ezw
    have zok : ∀ x ∈ zs, PyData.strOk x = true := fun x hx => by
      have hx' := (pw.mem_iff.mp hx)
      rcases List.mem_cons.mp hx' with e | e
      · obtain ⟨l, e2, okl⟩ := okg.dn
        rw [e, e2]
        exact strOk_S okl
      · obtain ⟨z, hz, ez⟩ := List.mem_map.mp e
        obtain ⟨l, e2, okl⟩ := okg.rd.nm z hz
        rw [← ez, e2]
        exact strOk_S okl
    refine ⟨.list (zs.map .str), .list (zs.map .str), Dp.lst (SqL.of (s3 _ _ hp2)) (DQ.dp_strs zs), Dp.lst (SqL.of ho) (DQ.dp_strs zs), DQ.sh_strs zok, DQ.sh_strs zok, _, rfl, ?_⟩
    rw [DQ.eq_strs]
    refine iteF ?_
    -- their sum
    have s13 := sp.trans s3
    have vsz : ∀ x, Sz 270 (val drv gs legs worth legs.toNat x) := fun x => (val_sz (drv := drv) ok.l1 ok.l12 ok.w1 ok.w9 okg.rd.len legs.toNat x).mono (by have := ok.l12; omega)
    obtain ⟨_, hDx, tl⟩ := totL (K := K) (ds1.same s13) vsz yl
    refine ⟨_, rfl, .inr (.inr (.inl ⟨rfl, .inl ⟨_, hDx⟩⟩)), _, _, rfl, rfl, hDx, fun vp fvp => ⟨vp, _, _, rfl, upd_same, same_new fvp _ _ hDx, fun p fp => ?_⟩⟩
    obtain ⟨L, sx, shl, szl, ll, esm⟩ := tl vp fvp p fp
    refine ⟨p, L, rfl, shl, szl, ll, fun t H5 s5' ft ht => ?_⟩
    have s5 := sx.trans s5'
    rw [esm] at ht
    have esum : MG.rs ys (val drv gs legs worth legs.toNat) = Rat.divInt worth 1 := by
      rw [rs_perm py, val_sum okg.rd.nd ok.l1]
      have h := MG.divInt_mul_nat worth legs.toNat 1 (by have := ok.l1; omega) (by decide)
      have e2 : (1 : Int) * (legs.toNat : Int) = legs := by have := ok.l1; omega
      rw [e2] at h
      exact h
    rw [esum] at ht
    have s15 := (s1.trans s13).trans s5
    refine ⟨_, rfl, wp, _, _, _, rfl, rfl, SqL.of (s15 _ _ hw), rfl, ?_⟩
    intro m dm nm nd ne
    refine mk_in (n := 10) nm nd (by decide) (by decide) (by decide) (by decide) fun H6 s6 hm => ⟨rfl, ?_⟩
    refine neS (ht.keep s6) hm ⟨_, rfl, ?_⟩
    rw [decide_eq_true (rfl : Rat.divInt worth 1 = Rat.divInt worth 1)]
    refine iteF ?_
    -- two by two
    have s16 := s15.trans s6
    have s46 := (s13.trans s5).trans s6
    have hD6 := s46 _ _ hD
    have hv6 : ∀ x ∈ ys, Sh C H6 (ad x) (pr (val drv gs legs worth legs.toNat x)) := fun x hx => (hv x hx).keep s46
    have wy6 := wy.same s16
    clear hv hD ds1 s13 sp s3 s5 s15 ht hm s46
    have nDw : ∀ {a : Addr} {o : HO}, H a = some o → a ≠ D := fun e => ne_of_none e fD
    refine ⟨D, _, hD6, trivial, fun od => ?_⟩
    refine ⟨_, rfl, D, od, rfl, .inl ⟨_, upd_same, for_it walk_keys (fun k σ H' => ∃ (v3 v4 v5 v6 v7 : Option V), σ = [some (.ref rp), some (.ref wp), some (.ref D), v3, v4, v5, v6, v7] ∧ H' D = some (.frz od (dctO ys fun x => .ref (ad x))) ∧ ∀ b u, b ≠ D → H6 b = some u → H' b = some u) ⟨_, _, _, _, _, rfl, upd_same, fun b u nb e => by rw [upd_ne nb]; exact e⟩ (fun k σ H' _ z => by
        obtain ⟨_, _, _, _, _, _, e, _⟩ := z
        exact e) ?_ ?_⟩⟩
    · rintro k y σ Ha Hb hk ⟨v3, v4, v5, v6, v7, rfl, hDa, ka⟩ ⟨rfl, kk, u, e, rfl⟩
      rw [List.length_map] at hk
      rw [List.getElem?_map] at e
      obtain ⟨z, hz, ez⟩ := Option.map_eq_some_iff.mp e
      cases ez
      have hzy := List.mem_of_getElem? hz
      refine ⟨_, rfl, D, od, rfl, .inl ⟨_, hDa, for_it walk_keys (fun k σ H' => ∃ (v4 v5 v6 v7 : Option V), σ = [some (.ref rp), some (.ref wp), some (.ref D), some (.str z), v4, v5, v6, v7] ∧ H' D = some (.frz od (dctO ys fun x => .ref (ad x))) ∧ ∀ b u, b ≠ D → H6 b = some u → H' b = some u) ⟨_, _, _, _, rfl, hDa, ka⟩ (fun k σ H' _ z => by
        obtain ⟨_, _, _, _, _, e, _⟩ := z
        exact e) ?_ ?_⟩⟩
      · rintro k2 y2 σ Hc Hd hk2 ⟨v4, v5, v6, v7, rfl, hDc, kc⟩ ⟨rfl, kk2, u2, e2, rfl⟩
        rw [List.length_map] at hk2
        rw [List.getElem?_map] at e2
        obtain ⟨q2, hq2, ez2⟩ := Option.map_eq_some_iff.mp e2
        cases ez2
        have hqy := List.mem_of_getElem? hq2
        have wyc : Wy Hd wp day drv fs legs worth lt := ⟨fl, sl', kc _ _ (nDw hw) (s16 _ _ hw), ⟨kc _ _ (nDw fk'.1) (s16 _ _ fk'.1), fun x hx => kc _ _ (nDw (fk'.2 x hx)) (s16 _ _ (fk'.2 x hx))⟩, kc _ _ (nDw hsl) (s16 _ _ hsl)⟩
        have memF : ∀ x ∈ ys, x ∈ drv :: nms fs := fun x hx => (List.Perm.cons _ (pm.map (fun q : Addr × Rd => q.2.1))).mem_iff.mp (py.mem_iff.mp hx)
        refine ⟨_, rfl, _, rfl, wp, day, drv, fs, legs, worth, lt, z, rfl, wyc, ok, memF z hzy, fun la ns1 H7 s7 f7 hla i1 m1 len1 => ?_⟩
        refine ⟨_, rfl, _, rfl, wp, day, drv, fs, legs, worth, lt, q2, rfl, wyc.same s7, ok, memF q2 hqy, fun lb ns2 H8 s8 f8 hlb i2 m2 len2 => ⟨by show 2 ≤ sizeLine; decide, fun t2 ft2 => ?_⟩⟩
        have st := same_new (o := .tup [.ref la, .ref lb]) ft2
        refine ⟨t2, _, rfl, SqT.of upd_same, rfl, _, _, rfl, _, _, rfl, rfl, ?_⟩
        have sd := (s7.trans s8).trans st
        have hla9 := st _ _ (s8 _ _ hla)
        have hlb9 := st _ _ hlb
        have hD9 := sd _ _ hDc
        have hv9 : ∀ x ∈ ys, Sh C (upd H8 t2 (.tup [.ref la, .ref lb])) (ad x) (pr (val drv gs legs worth legs.toNat x)) := fun x hx => by
          obtain ⟨dd, hh⟩ := hv6 x hx
          exact ⟨dd, sd _ _ (kc _ _ (fun q => by rw [q, hD6] at hh; cases hh) hh)⟩
        have k9 : ∀ b u, b ≠ D → H6 b = some u → (upd H8 t2 (.tup [.ref la, .ref lb])) b = some u := fun b u nb e => sd _ _ (kc b u nb e)
        generalize upd H8 t2 (.tup [.ref la, .ref lb]) = H9 at hla9 hlb9 hD9 hv9 k9
        have dg : ∀ {Hx : Hp} {x : Str}, Hx D = some (.frz od (dctO ys fun x => .ref (ad x))) → x ∈ ys → DGet Hx D (.str x) (some (.ref (ad x))) := fun {Hx x} e hx => .inl ⟨_, Sum.inr x, .inr ⟨_, e⟩, rfl, (DQ.val_map (fun x => V.ref (ad x)) hx).symm⟩
        have abm : ∀ (x : Str) (j : Nat), x ∈ drv :: ab gs j ↔ x ∈ drv :: ab fs j := fun x j => (List.Perm.cons _ (ab_perm pm j)).mem_iff
        have same : ns1 = ns2 → val drv gs legs worth legs.toNat z = val drv gs legs worth legs.toNat q2 := fun e => val_same ok.w1 ok.l1 _ fun j hj => by
          rw [abm, abm, ← m1 j (by omega) (by omega), ← m2 j (by omega) (by omega), e]
        have less : (∀ j ∈ ns1, j ∈ ns2) → val drv gs legs worth legs.toNat z ≤ val drv gs legs worth legs.toNat q2 := fun e => val_le ok.w1 ok.l1 _ fun j hj => by
          rw [abm, abm, ← m1 j (by omega) (by omega), ← m2 j (by omega) (by omega)]
          exact e _
        refine ⟨fun σ' H' => σ' = [some (.ref rp), some (.ref wp), some (.ref D), some (.str z), some (.str q2), some (.ref la), some (.ref lb), v7] ∧ H9 = H', ?_, ?_⟩
        · refine ⟨_, rfl, _, rfl, .list (ns1.map .int), .list (ns2.map .int), Dp.lst (SqL.of hla9) (dpInts ns1), Dp.lst (SqL.of hlb9) (dpInts ns2), PySem.W.ke_shaped_ints ns1, PySem.W.ke_shaped_ints ns2, _, rfl, ?_⟩
          rw [eqv_ints]
          refine ite2 (fun e12 => ?_) (fun e12 => ?_)
          · refine ⟨_, rfl, _, rfl, D, _, rfl, dg hD9 hzy, _, rfl, _, rfl, D, _, rfl, dg hD9 hqy, neS (hv9 z hzy) (hv9 q2 hqy) ⟨_, rfl, ?_⟩⟩
            rw [decide_eq_true (same (of_decide_eq_true e12))]
            exact iteF ⟨rfl, rfl⟩
          · exact iteF ⟨rfl, rfl⟩
        rintro σ' H' ⟨rfl, rfl⟩
        refine ⟨_, rfl, la, rfl, ⟨_, SqL.of hla9⟩, fun Dn hDn => lc_list (K := K) (xs := ns1.map V.int) (fun i H' => H' Dn = some (.lst (((ns1.take i).filter fun j => decide (j ∉ ns2)).map V.int)) ∧ Same H9 H') ⟨upd_same, same_new hDn⟩ (fun _ H' _ z => SqL.of (z.2 _ _ hla9)) ?_ ?_⟩
        · rintro i x H' hx ⟨hd, sm⟩
          have hi' : i < ns1.length := by
            have := (List.getElem?_eq_some_iff.mp hx).1
            simpa using this
          rw [List.getElem?_map] at hx
          obtain ⟨j, hj, rfl⟩ := Option.map_eq_some_iff.mp hx
          have et : ns1.take (i + 1) = ns1.take i ++ [j] := by rw [List.take_succ, hj]; rfl
          refine ⟨rfl, ?_⟩
          refine ⟨_, rfl, _, rfl, lb, _, rfl, .inl (SqL.of (sm _ _ hlb9)), rfl, flat_ints ns2, _, rfl, ?_⟩
          simp only [if_true]
          rw [inV_ints]
          refine ite2 (fun hm => ?_) (fun hm => ?_)
          · have hm' : j ∉ ns2 := by simpa using hm
            refine ⟨_, rfl, _, hd, ?_, ?_, ?_⟩
            · rw [List.length_map]
              refine Nat.lt_of_le_of_lt (List.length_filter_le _ _) ?_
              rw [List.length_take]
              exact Nat.lt_of_lt_of_le (by omega : min i ns1.length < 64) (by decide)
            · rw [upd_same, et, List.filter_append, List.map_append]
              simp [hm']
            · intro a o e
              rw [upd_ne (ne_of_none e hDn)]
              exact sm a o e
          · have hm' : j ∈ ns2 := by simpa using hm
            refine ⟨?_, sm⟩
            rw [et, List.filter_append]
            simp [hm', hd]
        rintro H10 ⟨hd, sm⟩
        rw [List.length_map, List.take_length] at hd
        refine ⟨by show 0 ≤ sizeLine; decide, fun en fen => ?_⟩
        have se := same_new (o := .lst []) fen
        refine ⟨.list ((ns1.filter fun j => decide (j ∉ ns2)).map .int), .list (([] : List Int).map .int), Dp.lst (SqL.of (se _ _ hd)) (dpInts _), Dp.lst (SqL.of upd_same) .nil, PySem.W.ke_shaped_ints _, PySem.W.ke_shaped_ints [], _, rfl, ?_⟩
        rw [eqv_ints]
        have s10 := sm.trans se
        have hD10 := s10 _ _ hD9
        refine ite2 (fun e12 => ?_) (fun e12 => ?_)
        · have e12' := of_decide_eq_true e12
          have sub : ∀ j ∈ ns1, j ∈ ns2 := fun j hj => by
            by_cases q : j ∈ ns2
            · exact q
            · have : j ∈ ns1.filter fun j => decide (j ∉ ns2) := List.mem_filter.mpr ⟨hj, by simpa using q⟩
              rw [e12'] at this
              cases this
          obtain ⟨dq, hdq⟩ := id (hv9 q2 hqy)
          refine ⟨_, rfl, _, rfl, D, _, rfl, dg hD10 hqy, ad q2, dq, _, rfl, s10 _ _ hdq, shF_no _ (by decide +kernel) (by decide +kernel), _, rfl, _, rfl, D, _, rfl, dg hD10 hzy, ad q2, ad z, _, _, 270, rfl, (hv9 q2 hqy).keep s10, (hv9 z hzy).keep s10, vsz q2, vsz z, by decide, by decide, _, rfl, ?_⟩
          rw [decide_eq_false (Rat.not_lt.mpr (less sub))]
          exact iteF ⟨_, _, _, _, rfl, hD10, fun b u nb e => s10 _ _ (k9 b u nb e)⟩
        · exact iteF ⟨_, _, _, _, rfl, hD10, fun b u nb e => s10 _ _ (k9 b u nb e)⟩
      · rintro σ H' ⟨v4, v5, v6, v7, rfl, hDz, kz⟩
        exact ⟨_, _, _, _, _, rfl, hDz, kz⟩
    rintro σ H' ⟨v3, v4, v5, v6, v7, rfl, hDz, kz⟩
    refine ⟨hDz, hQ _ fun b u e => ?_⟩
    rw [upd_ne (nDw e)]
    exact kz b u (nDw e) (s16 b u e)
end
end K26
set_option Elab.async false
set_option linter.all false
set_option maxRecDepth 100000
set_option maxHeartbeats 4000000
namespace K26
open PySem PySem.Spec PyProof.Rows L2
open C8 (Cal Mak Met pe_c pe_mk pe_mt pe_mt0)
open KM (pr Sz)
open SX (S)
theorem WayOk.none {day : Int} {drv : Str} {fs : List (Addr × Rd)} {legs worth : Int} {lt : List Str} (ok : WayOk day drv fs legs worth lt) : WayOk day drv fs legs worth [] :=
  ⟨ok.d0, ok.d1, ok.dn, ok.l1, ok.l12, ok.w1, ok.w9, ok.rd, List.nodup_nil, fun _ h => nomatch h⟩
theorem WayOk.one {day : Int} {drv : Str} {fs : List (Addr × Rd)} {legs worth : Int} {lt : List Str} (ok : WayOk day drv fs legs worth lt) {y : Str} (hy : y ∈ lt) : WayOk day drv fs legs worth [y] :=
  ⟨ok.d0, ok.d1, ok.dn, ok.l1, ok.l12, ok.w1, ok.w9, ok.rd, by simp, fun x h => by rw [List.mem_singleton] at h; rw [h]; exact ok.lts y hy⟩
section
variable {P : Program} {w : World} {K : PySem.W.Frag} {mg : Str → Option Value} {base : Heap} {f C CR : Addr} {fd : FuncData}
theorem ok_gr (F : Dn K d_l_gives_right f fd) (b : Bl mg) (b2 : Bl2 mg) (T : ClR K mg CR) (TS : Cl K mg C) (M1 : MakS1 P w K mg base C) (MS : MakS P w K mg base C) (N : NeS P w K mg base C) (mF : Met P w K mg base 1 CR "folk" (spFo CR) []) (mPt : Met P w K mg base 5 CR "parts" (spPt C CR) []) (mGv : Met P w K mg base 6 CR "gives" (spGv C CR) [])
    (mP : Met P w K mg base 4 C "plus" (sp2 C (· + ·)) []) (mL : Met P w K mg base 4 C "less" (sp2 C (· - ·)) []) (mT : Met P w K mg base 4 C "times" (sp1 C (fun _ => True) (fun r k => r * Rat.divInt k 1)) [])
    (MR : Mak P w K mg base 5 "Ride" CR (spRI CR) []) (MR1 : Mak P w K mg base 5 "Ride" CR (spRI CR) [.non])
    (cT : Cal P w K mg base 5 "total" (spTotal K C) [.int 0]) : FnOk P w K mg base CX0 7 f fd ["_law_ride", "_law_way_here"] (spPR C CR) := by
  refine F.ok sc_l_gives_right (fun vs H Q E h => ?_) (fun cdv A outer s H vs Q E hr h => ?_)
  · obtain ⟨rp, wp, day, drv, gs, fs, legs, worth, lt, ls, rfl, _⟩ := h
    rfl
  · obtain ⟨rp, wp, day, drv, gs, fs, legs, worth, lt, ls, rfl, ⟨rid, wy, ok, pm, pl⟩, hQ⟩ := h
    have hu := hu_of hr
    have hu64 : (A.deeper (envOfC d_l_gives_right.qual d_l_gives_right.scope s.heap.objs.size f cdv)).units + 64 < cLine := by have := hr.un; omega
    have okg := ok.perm pm
    refine ⟨_, PSs.nox (pss_cons (ps_asg (pe_tup (pa_cons (pe_mt0 mGv hr (by decide) (pv 0)) (pa_cons (pe_mt0 mGv hr (by decide) (pe_mk MR1 hr (by decide) rfl (pa_cons (pe_ix ix_list (pv 1) pe_int (fun _ _ => rfl)) (pa_cons (pe_ix ix_list (pv 1) pe_int (fun _ _ => rfl)) (pa_cons (pe_ix ix_list (pv 1) pe_int (fun _ _ => rfl)) (pa_cons (pe_ix ix_list (pv 1) pe_int (fun _ _ => rfl)) (pa_cons (pe_ix ix_list (pv 1) pe_int (fun _ _ => rfl)) pa_nil))))))) pa_nil)))
        (pg_tup rfl (pgs_cons (pg_name (i := 2) sc_l_gives_right.nd rfl (.inl rfl)) (pgs_cons (pg_name (i := 3) sc_l_gives_right.nd rfl (.inr rfl)) pgs_nil))))
      (pss_cons (ps_if (PW.pt (pw_or (pt_cmpR (OW.op_neO N.sp N.ne N.mr (hr.mono (by decide))) (pe_c cT hr (by decide) rfl (pa_cons (pe_callTy (LV.call_list rfl) rfl b.list boot_list (pa_cons (pe_bm0 PySem.F.plainAttrs_dict PySem.F.slot_dict_values PySem.F.type_dict_values LV.mt_values (pv 2)) pa_nil)) pa_nil))
          (pe_mk M1 hr (by decide) rfl (pa_cons pe_int pa_nil)) (nomark _))
        (pw_or (pt_cmpR (OW.op_neO N.sp N.ne N.mr (hr.mono (by decide))) (pe_c cT hr (by decide) rfl (pa_cons (pe_callTy (LV.call_list rfl) rfl b.list boot_list (pa_cons (pe_bm0 PySem.F.plainAttrs_dict PySem.F.slot_dict_values PySem.F.type_dict_values LV.mt_values (pv 3)) pa_nil)) pa_nil))
          (pe_mk M1 hr (by decide) rfl (pa_cons pe_int pa_nil)) (nomark _))
        (pw_or1 (pt_cmpR (op_neD hu64) (pe_callB (call_sortedD rfl) rfl b2.srt boot_sorted (pa_cons (pv 2) pa_nil)) (pe_mt0 mF hr (by decide) (pv 0)) (nomark _)))))) pss_never pss_nil)
      (pss_cons (ps_set (i := 4) sc_l_gives_right.nd rfl (.inl rfl) (pe_mt0 mPt hr (by decide) (pv 0)))
      (pss_cons (ps_lock (ps_for PassesOwn.never rfl (pi_keys (pv 3)) (pg_name (i := 5) sc_l_gives_right.nd rfl (.inl rfl))
        (pss_cons (ps_set (i := 6) sc_l_gives_right.nd rfl (.inl rfl) (pe_mt mL hr (by decide) (pe_mk M1 hr (by decide) rfl (pa_cons (pe_op op_mul (pe_ix ix_list (pv 1) pe_int (fun _ _ => rfl)) (pe_callTy call_int1 rfl b.int boot_int (pa_cons (pe_cmpR op_eq (pv 5) (pe_ix ix_list (pv 1) pe_int (fun _ _ => rfl)) (nomark _)) pa_nil))) pa_nil)) (pa_cons (pe_dget hu (pv 4) (pv 5) (fun _ _ => rfl)) pa_nil)))
        (pss_one (ps_if (pt_cmpR (OW.op_neO N.sp N.ne N.mr (hr.mono (by decide))) (pe_dget hu (pv 3) (pv 5) (fun _ _ => rfl)) (pv 6) (nomark _)) pss_never pss_nil)))))
      (pss_cons (ps_for PassesOwn.never rfl (pi_list (pe_ix ix_list (pv 1) pe_int (fun _ _ => rfl))) (pg_name (i := 7) sc_l_gives_right.nd rfl (.inr rfl))
        (pss_cons (ps_set (i := 8) sc_l_gives_right.nd rfl (.inr rfl) (pe_mt0 mGv hr (by decide) (pe_mk MR hr (by decide) rfl (pa_cons (pe_ix ix_list (pv 1) pe_int (fun _ _ => rfl)) (pa_cons (pe_ix ix_list (pv 1) pe_int (fun _ _ => rfl)) (pa_cons (pe_ix ix_list (pv 1) pe_int (fun _ _ => rfl)) (pa_cons (pe_ix ix_list (pv 1) pe_int (fun _ _ => rfl)) (pa_cons (pe_ix ix_list (pv 1) pe_int (fun _ _ => rfl)) (pa_cons (pe_lst (pa_cons (pv 7) pa_nil)) pa_nil)))))))))
        (pss_cons (ps_lock (ps_set (i := 9) sc_l_gives_right.nd rfl (.inr rfl) (pe_lc (own := [("_law_called", 5)]) (g := gName 5) rfl sc_l_gives_right.nd (pi_keys (pv 3)) (blkOk_by (N := N_l_gives_right) (sc := defScope s_l_gives_right) (by decide +kernel))
            (fun _ _ _ _ _ => pg_name (i := 5) sc_l_gives_right.nd rfl (Or.inl rfl)) (fun _ _ _ _ _ => pts_one (pt_cmpR (r := rNe) op_ne (pv 5) (pv 7) (nomark _))) (fun _ _ _ _ _ => pe_mt mL hr (by decide) (pe_dget hu (pv 8) (pv 5) (fun _ _ => rfl)) (pa_cons (pe_dget hu (pv 3) (pv 5) (fun _ _ => rfl)) pa_nil)))))
        (pss_cons (ps_if (PW.pt (pw_or (pt_cmpR (OW.op_neO N.sp N.ne N.mr (hr.mono (by decide))) (pe_mt mP hr (by decide) (pe_dget hu (pv 8) (pv 7) (fun _ _ => rfl)) (pa_cons (pe_mk MS hr (by decide) rfl (pa_cons (pe_ix ix_list (pv 1) pe_int (fun _ _ => rfl)) (pa_cons pe_int pa_nil))) pa_nil)) (pe_dget hu (pv 3) (pv 7) (fun _ _ => rfl)) (nomark _))
          (pw_or1 (pt_cmpR (op_neD hu64) (pe_lc (own := [("_law_each", 10)]) (g := gName 10) rfl sc_l_gives_right.nd (pi_list (pv 9)) (blkOk_by (N := N_l_gives_right) (sc := defScope s_l_gives_right) (by decide +kernel))
            (fun _ _ _ _ _ => pg_name (i := 10) sc_l_gives_right.nd rfl (Or.inl rfl)) (fun _ _ _ _ _ => pts_one (pt_cmpR (r := OW.rNeO C (spSEq C)) (OW.op_neO N.sp N.ne N.mr (hr.mono (by decide))) (pv 10) (pe_ix (r := rIxL K) ix_list (pv 9) pe_int (fun _ _ => rfl)) (nomark _))) (fun _ _ _ _ _ => pv 10)) (pe_lst pa_nil) (nomark _))))) pss_never pss_nil)
        (pss_one (ps_if (pt_cmpR (OW.op_neO N.sp N.ne N.mr (hr.mono (by decide))) (pe_mt mT hr (by decide) (pe_ix ix_list (pv 9) pe_int (fun _ _ => rfl)) (pa_cons (pe_callB call_len_seq rfl b.len boot_len (pa_cons (pv 9) pa_nil)) pa_nil)) (pe_mk MS hr (by decide) rfl (pa_cons (pe_ix ix_list (pv 1) pe_int (fun _ _ => rfl)) (pa_cons pe_int pa_nil))) (nomark _)) pss_never pss_nil))))))
      (pss_one (ps_ret pe_bl))))))), ?_⟩
    obtain ⟨dx, sl, lc, hrp, fk, hlc⟩ := id rid
    obtain ⟨fl, sl', hw, fk', hsl⟩ := id wy
    obtain ⟨l1, l12, w1, w9⟩ := And.intro ok.l1 (And.intro ok.l12 (And.intro ok.w1 ok.w9))
    have flen := ok.rd.len
    have nd := ok.rd.nd
    have nl : (nms fs).length = fs.length := by unfold nms; rw [List.length_map]
    have pmn : (drv :: nms gs).Perm (drv :: nms fs) := List.Perm.cons _ (pm.map (fun q : Addr × Rd => q.2.1))
    have gsz : ∀ x, Sz 270 (gv drv fs legs worth lt x) := fun x => (gv_sz (x := x) l1 l12 w1 w9 flen ok.lts).mono (by have := lt_len ok.ltn ok.lts; omega)
    have bsz : ∀ x, Sz 145 (bs drv fs legs worth x) := fun x => bs_sz l1 l12 w1 w9 flen
    have vsz : ∀ x, Sz 133 (val drv fs legs worth legs.toNat x) := fun x => (val_sz (drv := drv) l1 l12 w1 w9 flen legs.toNat x).mono (by omega)
    have z0 : Rat.divInt 0 1 = 0 := by decide +kernel
    -- with late ones and without
    refine ⟨_, rfl, rp, dx, _, rfl, hrp, r_gives, rp, day, drv, gs, legs, worth, lt, ls, rfl, rid, okg, pl, fun D ys H1 s1 fD py0 ds1 => ?_⟩
    have py := py0.trans pmn
    have ds1' := ds1.congr fun x => gv_perm pm pl x
    have yl : ys.length ≤ 12 := by rw [py.length_eq, List.length_cons, nl]; omega
    have hw1 := s1 _ _ hw
    refine ⟨_, rfl, wp, _, _, _, rfl, rfl, SqL.of hw1, rfl, _, rfl, wp, _, _, _, rfl, rfl, SqL.of hw1, rfl, _, rfl, wp, _, _, _, rfl, rfl, SqL.of hw1, rfl, _, rfl, wp, _, _, _, rfl, rfl, SqL.of hw1, rfl, _, rfl, wp, _, _, _, rfl, rfl, SqL.of hw1, rfl, ?_⟩
    intro rp2 dq_rp2 f2 nq_rp2 ne_rp2
    refine mk_rideI f2 nq_rp2 (.inr ⟨fl, rfl, fk'.same s1⟩) (.inl ⟨rfl, rfl⟩) ok.none fun gs2 ls2 H2 s2 pm2 pl2 ridf2 => ⟨rfl, ?_⟩
    obtain ⟨dx2, st2, lc2, hrp2, fk2, hlc2, _, _⟩ := ridf2
    refine ⟨rp2, dx2, _, rfl, hrp2, r_gives, rp2, day, drv, gs2, legs, worth, [], ls2, rfl, ⟨dx2, st2, lc2, hrp2, fk2, hlc2⟩, ok.none.perm pm2, pl2, fun E es H3 s3 fE pe0 ds3 => ⟨by show 2 ≤ sizeLine; decide, fun t ft => ?_⟩⟩
    have st := same_new (o := .tup [.ref D, .ref E]) ft
    refine ⟨t, _, rfl, SqT.of upd_same, rfl, _, _, rfl, _, _, rfl, rfl, ?_⟩
    have pe : es.Perm (drv :: nms fs) := pe0.trans (List.Perm.cons _ (pm2.map (fun q : Addr × Rd => q.2.1)))
    have ds3' := (ds3.congr fun x => (gv_perm pm2 pl2 x).trans (gv_nil x)).same st
    have el : es.length = fs.length + 1 := by rw [pe.length_eq, List.length_cons, nl]
    have end_ : es.Nodup := pe.nodup_iff.mpr nd
    have s14 := (s2.trans s3).trans st
    have ds4 := ds1'.same s14
    have s04 := s1.trans s14
    have fEH : H E = none := s1.free (s2.free fE)
    generalize upd H3 t (.tup [.ref D, .ref E]) = H4 at ds3' ds4 s04
    clear st s14 ds1 ds1' ds3 s3 s2 hrp2 fk2 hlc2 hw1 pe0 py0
    -- sums
    obtain ⟨_, hDx, tl⟩ := totL (K := K) ds4 gsz yl
    refine ⟨_, rfl, .inr (.inr (.inl ⟨rfl, .inl ⟨_, hDx⟩⟩)), _, _, rfl, rfl, hDx, fun vp fvp => ⟨vp, _, _, rfl, upd_same, same_new fvp _ _ hDx, fun p fp => ?_⟩⟩
    obtain ⟨L, sx, shl, szl, ll, esm⟩ := tl vp fvp p fp
    refine ⟨p, L, rfl, shl, szl, ll, fun t5 H5 s5' f5 h5 => ?_⟩
    have s5 := sx.trans s5'
    rw [esm] at h5
    clear tl sx shl s5'
    rw [rs_perm py, gv_sum nd l1 ok.lts] at h5
    intro m dm nm ndm nem
    refine mk_in (n := 10) nm ndm (by decide) (by decide) (by decide) (by decide) fun H6 s6 hm => ⟨rfl, ?_⟩
    rw [z0] at hm
    refine neS (h5.keep s6) hm ⟨_, rfl, ?_⟩
    rw [decide_eq_true (rfl : (0 : Rat) = 0)]
    refine iteF ?_
    have s46 := s5.trans s6
    obtain ⟨_, hDx, tl⟩ := totL (K := K) (ds3'.same s46) (fun x => (bsz x).mono (by decide)) (by omega)
    refine ⟨_, rfl, .inr (.inr (.inl ⟨rfl, .inl ⟨_, hDx⟩⟩)), _, _, rfl, rfl, hDx, fun vp fvp => ⟨vp, _, _, rfl, upd_same, same_new fvp _ _ hDx, fun p fp => ?_⟩⟩
    obtain ⟨L, sx, shl, szl, ll, esm⟩ := tl vp fvp p fp
    refine ⟨p, L, rfl, shl, szl, ll, fun t7 H7 s7' f7 h7 => ?_⟩
    have s7 := sx.trans s7'
    rw [esm] at h7
    clear tl sx shl s7'
    rw [rs_perm pe, bs_sum nd l1] at h7
    intro m2 dm2 nm2 ndm2 nem2
    refine mk_in (n := 10) nm2 ndm2 (by decide) (by decide) (by decide) (by decide) fun H8 s8 hm2 => ⟨rfl, ?_⟩
    rw [z0] at hm2
    refine neS (h7.keep s8) hm2 ⟨_, rfl, ?_⟩
    rw [decide_eq_true (rfl : (0 : Rat) = 0)]
    refine iteF ?_
    have s48 := (s46.trans s7).trans s8
    have ds8 := ds4.same s48
    have es8 := ds3'.same s48
    have s08 := s04.trans s48
    clear s46 s48 ds4 ds3' h5 h7 hm hm2 s5 s6 s7 s8
    obtain ⟨ad, hD, hv⟩ := id ds8
    -- told names
    refine ⟨_, rfl, D, _, ys, rfl, .inl hD, (by rw [List.map_map]; rfl), Nat.lt_of_le_of_lt yl (by decide), fun zs p pz sz fp => ?_⟩
    have sp := same_new (o := .lst (zs.map V.str)) fp
    have hp2 : (upd H8 p (.lst (zs.map V.str))) p = some (.lst (zs.map V.str)) := upd_same
    generalize upd H8 p (.lst (zs.map V.str)) = H9 at sp hp2
    refine ⟨_, rfl, rp, dx, _, rfl, sp _ _ (s08 _ _ hrp), r_folk, rp, day, drv, gs, legs, worth, ls, rfl, (rid.same s08).same sp, okg.rd.len, fun o ws H10 s10 fo ho pw srt => ?_⟩
    have ezw : zs = ws := IO.sorted_same (IO.sorted_pw sz) srt (pz.trans (py.trans (pw.trans pmn).symm))
    subst ezw
    have zok : ∀ x ∈ zs, PyData.strOk x = true := fun x hx => by
      have hx' := (pw.mem_iff.mp hx)
      rcases List.mem_cons.mp hx' with e | e
      · obtain ⟨l, e2, okl⟩ := okg.dn
        rw [e, e2]
        exact strOk_S okl
      · obtain ⟨z, hz, ez⟩ := List.mem_map.mp e
        obtain ⟨l, e2, okl⟩ := okg.rd.nm z hz
        rw [← ez, e2]
        exact strOk_S okl
    refine ⟨.list (zs.map .str), .list (zs.map .str), Dp.lst (SqL.of (s10 _ _ hp2)) (DQ.dp_strs zs), Dp.lst (SqL.of ho) (DQ.dp_strs zs), DQ.sh_strs zok, DQ.sh_strs zok, _, rfl, ?_⟩
    rw [DQ.eq_strs]
    refine iteF ?_
    have s8a := sp.trans s10
    have s0a := s08.trans s8a
    have es10 := es8.same s8a
    clear hD hv ds8 es8 sp s10 hp2 ho s8a
    -- parts
    refine ⟨_, rfl, rp, dx, _, rfl, s0a _ _ hrp, r_parts, rp, day, drv, gs, legs, worth, lt, ls, rfl, rid.same s0a, okg, fun G xs H11 s11 fG px0 ds11 => ?_⟩
    have px := px0.trans pmn
    have dg11 := ds11.congr fun x => val_perm pm legs.toNat x
    have es11 := es10.same s11
    have s0b := s0a.trans s11
    have nGE : G ≠ E := fun q => by
      obtain ⟨_, e, _⟩ := es10
      rw [q, e] at fG
      cases fG
    obtain ⟨ae, hE, he⟩ := id es11
    obtain ⟨ag, hG, hg⟩ := id dg11
    have memE : ∀ x, x ∈ es ↔ x ∈ drv :: nms fs := fun x => pe.mem_iff
    have memX : ∀ x, x ∈ xs ↔ x ∈ drv :: nms fs := fun x => px.mem_iff
    have nE : ∀ {a : Addr} {o : HO}, H a = some o → a ≠ E := fun e => ne_of_none e fEH
    clear es10 ds11 px0 s11 s0a
    refine ⟨E, _, hE, trivial, fun od => ?_⟩
    refine ⟨_, rfl, E, od, rfl, .inl ⟨_, upd_same, for_it walk_keys (fun k σ H' => ∃ (v5 v6 v7 v8 v9 v10 : Option V), σ = [some (.ref rp), some (.ref wp), some (.ref D), some (.ref E), some (.ref G), v5, v6, v7, v8, v9, v10] ∧ H' E = some (.frz od (dctO es fun x => .ref (ae x))) ∧ ∀ b u, b ≠ E → H11 b = some u → H' b = some u) ⟨_, _, _, _, _, _, rfl, upd_same, fun b u nb e => by rw [upd_ne nb]; exact e⟩ (fun k σ H' _ z => by
        obtain ⟨_, _, _, _, _, _, _, e, _⟩ := z
        exact e) ?_ ?_⟩⟩
    · rintro k y σ Ha Hb hk ⟨v5, v6, v7, v8, v9, v10, rfl, hEa, ka⟩ ⟨rfl, kk, u, e, rfl⟩
      rw [List.length_map] at hk
      rw [List.getElem?_map] at e
      obtain ⟨z, hz, ez⟩ := Option.map_eq_some_iff.mp e
      cases ez
      have hze := List.mem_of_getElem? hz
      have hzx : z ∈ xs := (memX z).mpr ((memE z).mp hze)
      have hwb := ka _ _ (nE hw) (s0b _ _ hw)
      have hGb := ka _ _ nGE hG
      have heb : ∀ x ∈ es, Sh C Hb (ae x) (pr (bs drv fs legs worth x)) := fun x hx => by
        obtain ⟨dd, hh⟩ := he x hx
        exact ⟨dd, ka _ _ (fun q => by rw [q, hE] at hh; cases hh) hh⟩
      have hgb : ∀ x ∈ xs, Sh C Hb (ag x) (pr (val drv fs legs worth legs.toNat x)) := fun x hx => by
        obtain ⟨dd, hh⟩ := hg x hx
        exact ⟨dd, ka _ _ (fun q => by rw [q, hE] at hh; cases hh) hh⟩
      refine ⟨_, rfl, wp, _, _, _, rfl, rfl, SqL.of hwb, rfl, _, rfl, _, rfl, wp, _, _, _, rfl, rfl, SqL.of hwb, rfl, rfl, .inr ⟨_, rfl, ?_⟩⟩
      have ei : (if decide (kV (Sum.inr z : Key) = V.str drv) = true then (1 : Int) else 0) = if z = drv then 1 else 0 := by simp [kV]
      rw [ei]
      refine ⟨_, _, rfl, rfl, cb_l (by omega) (by omega), ?_⟩
      intro m dm nm ndm nem
      have ew : Rat.divInt (worth * (if z = drv then 1 else 0)) 1 = if z = drv then Rat.divInt worth 1 else 0 := by
        split
        · rw [Int.mul_one]
        · rw [Int.mul_zero]; exact z0
      refine mk_in (n := 10) nm ndm (by decide) (by decide) (by decide) (by decide) fun Hc sc hm => ⟨rfl, ?_⟩
      rw [ew] at hm
      obtain ⟨dm', hm'⟩ := id hm
      have wsz : Sz 10 (if z = drv then Rat.divInt worth 1 else 0) := by
        split
        · exact KM.sz_of_low (by decide) (by omega) (by decide)
        · exact sz0 (by decide)
      refine ⟨m, dm', _, rfl, hm', sh_less _, _, rfl, _, rfl, G, _, rfl, dget_of (sc _ _ hGb) hzx, m, ag z, _, _, 133, rfl, hm, (hgb z hzx).keep sc, wsz.mono (by decide), vsz z, by decide, by decide, fun t2 Hd sd ft2 ht2 => ?_⟩
      have sbd := sc.trans sd
      have hEd := sbd _ _ hEa
      refine ⟨_, rfl, _, rfl, E, _, rfl, .inl ⟨_, Sum.inr z, .inr ⟨_, hEd⟩, rfl, (DQ.val_map (fun x => V.ref (ae x)) hze).symm⟩, _, rfl, neS ((heb z hze).keep sbd) ht2 ⟨_, rfl, ?_⟩⟩
      exact iteEq rfl ⟨_, _, _, _, _, _, rfl, hEd, fun b u nb e => sbd _ _ (ka b u nb e)⟩
    rintro σ Ha ⟨v5, v6, v7, v8, v9, v10, rfl, hEa, ka⟩
    refine ⟨hEa, ?_⟩
    have s0c : Same H (upd Ha E (dctO es fun x => .ref (ae x))) := fun b u e => by
      rw [upd_ne (nE e)]
      exact ka b u (nE e) (s0b b u e)
    have es12 : DS C (upd Ha E (dctO es fun x => .ref (ae x))) E es (bs drv fs legs worth) := ⟨ae, upd_same, fun x hx => by
      obtain ⟨dd, hh⟩ := he x hx
      have n : ae x ≠ E := fun q => by rw [q, hE] at hh; cases hh
      exact ⟨dd, by rw [upd_ne n]; exact ka _ _ n hh⟩⟩
    clear hE he hG hg dg11 es11 s0b ka hEa
    generalize upd Ha E (dctO es fun x => .ref (ae x)) = H12 at s0c es12
    -- one by one
    refine ⟨_, rfl, wp, _, _, _, rfl, rfl, SqL.of (s0c _ _ hw), rfl, sl', rfl, ⟨_, SqL.of (s0c _ _ hsl)⟩, for_list (K := K) (xs := lt.map V.str) (fun i σ H' => ∃ (v5 v6 v7 v8 v9 v10 : Option V), σ = [some (.ref rp), some (.ref wp), some (.ref D), some (.ref E), some (.ref G), v5, v6, v7, v8, v9, v10] ∧ DS C H' E es (bs drv fs legs worth) ∧ Same H H')
      ⟨_, _, _, _, _, _, rfl, es12, s0c⟩ (fun i σ H' _ z => by
        obtain ⟨_, _, _, _, _, _, _, _, k⟩ := z
        exact SqL.of (k _ _ hsl)) ?_ ?_⟩
    · rintro i v σ H13 hi ⟨v5, v6, v7, v8, v9, v10, rfl, es13, s13⟩
      rw [List.getElem?_map] at hi
      obtain ⟨z, hz, rfl⟩ := Option.map_eq_some_iff.mp hi
      have hzl := List.mem_of_getElem? hz
      have hzn := ok.lts z hzl
      have npos : 0 < (nms fs).length := List.length_pos_of_mem hzn
      have ok1 := ok.one hzl
      have g1sz : ∀ x, Sz 270 (gv drv fs legs worth [z] x) := fun x => (gv_sz (x := x) l1 l12 w1 w9 flen ok1.lts).mono (by simp)
      have hw13 := s13 _ _ hw
      refine ⟨_, rfl, wp, _, _, _, rfl, rfl, SqL.of hw13, rfl, _, rfl, wp, _, _, _, rfl, rfl, SqL.of hw13, rfl, _, rfl, wp, _, _, _, rfl, rfl, SqL.of hw13, rfl, _, rfl, wp, _, _, _, rfl, rfl, SqL.of hw13, rfl, _, rfl, wp, _, _, _, rfl, rfl, SqL.of hw13, rfl, _, rfl, by show 1 ≤ sizeLine; decide, fun q fq => ?_⟩
      have sq := same_new (o := .lst [.str z]) fq
      intro rp3 dq_rp3 f14 nq_rp3 ne_rp3
      refine mk_rideI f14 nq_rp3 (.inr ⟨fl, rfl, (fk'.same s13).same sq⟩) (.inr ⟨q, rfl, upd_same⟩) ok1 fun gs3 ls3 H14 s14 pm3 pl3 ridf3 => ⟨rfl, ?_⟩
      obtain ⟨dx3, st3, lc3, hrp3, fk3, hlc3, _, _⟩ := ridf3
      refine ⟨rp3, dx3, _, rfl, hrp3, r_gives, rp3, day, drv, gs3, legs, worth, [z], ls3, rfl, ⟨dx3, st3, lc3, hrp3, fk3, hlc3⟩, ok1.perm pm3, pl3, fun F1 ws H15 s15 fF pw0 ds15 => ?_⟩
      have pw2 : ws.Perm (drv :: nms fs) := pw0.trans (List.Perm.cons _ (pm3.map (fun q : Addr × Rd => q.2.1)))
      have df15 := ds15.congr fun x => gv_perm pm3 pl3 x
      have s1315 := (sq.trans s14).trans s15
      have es15 := es13.same s1315
      have s015 := s13.trans s1315
      have nFE : F1 ≠ E := fun q2 => by
        obtain ⟨_, e, _⟩ := (es13.same (sq.trans s14))
        rw [q2, e] at fF
        cases fF
      have memW : ∀ x, x ∈ ws ↔ x ∈ drv :: nms fs := fun x => pw2.mem_iff
      obtain ⟨ae, hE, he⟩ := id es15
      obtain ⟨af, hF, hf⟩ := id df15
      have hze : z ∈ es := (memE z).mpr (List.mem_cons_of_mem _ hzn)
      have hzw : z ∈ ws := (memW z).mpr (List.mem_cons_of_mem _ hzn)
      clear ds15 hrp3 fk3 hlc3 s14 s15 sq s1315 es13
      -- how much more
      refine ⟨E, _, hE, trivial, fun od => ?_⟩
      refine ⟨_, rfl, E, od, rfl, .inl ⟨_, upd_same, fun Dn hDn => ?_⟩⟩
      have nDE : Dn ≠ E := (ne_of_none upd_same hDn).symm
      have fDn : H15 Dn = none := by rw [upd_ne nDE] at hDn; exact hDn
      have c0 : ∀ x, x ≠ z → gv drv fs legs worth [z] x - bs drv fs legs worth x = Rat.divInt worth (10 * (nms fs).length) := fun x nx => by
        rw [gv_one]
        unfold de
        rw [if_neg nx]
        grind
      refine lc_it walk_keys (fun j H' => ∃ as : List Addr, H' Dn = some (.lst (as.map V.ref)) ∧ as.length = ((es.take j).filter fun x => !decide (x = z)).length ∧ (∀ a ∈ as, Sh C H' a (pr (Rat.divInt worth (10 * (nms fs).length)))) ∧ H' E = some (.frz od (dctO es fun x => .ref (ae x))) ∧ ∀ a o, a ≠ E → H15 a = some o → H' a = some o) ?_ (fun j H' _ z => by
        obtain ⟨_, _, _, _, e, _⟩ := z
        exact e) ?_ ?_
      · refine ⟨[], upd_same, rfl, (fun a h => nomatch h), by rw [upd_ne nDE.symm]; exact upd_same, fun a o na e => ?_⟩
        rw [upd_ne (ne_of_none e fDn), upd_ne na]
        exact e
      · rintro j y Ha Hb hj ⟨as, hdn, hlen, has, hEa, ka⟩ ⟨rfl, kk, u, e, rfl⟩
        rw [List.length_map] at hj
        rw [List.getElem?_map] at e
        obtain ⟨x, hx, ex⟩ := Option.map_eq_some_iff.mp e
        cases ex
        have hxe := List.mem_of_getElem? hx
        have hxw : x ∈ ws := (memW x).mpr ((memE x).mp hxe)
        have et : es.take (j + 1) = es.take j ++ [x] := by rw [List.take_succ, hx]; rfl
        refine ⟨rfl, ?_⟩
        refine ⟨_, rfl, _, rfl, rfl, _, rfl, ?_⟩
        by_cases e : x = z
        · have z0 : (!decide (kV (Sum.inr x : Key) = V.str z)) = false := by simp [kV, e]
          rw [z0]
          refine iteF ⟨as, hdn, ?_, has, hEa, ka⟩
          rw [hlen, et, List.filter_append]
          simp [e]
        · have z0 : (!decide (kV (Sum.inr x : Key) = V.str z)) = true := by simp [kV, e]
          rw [z0]
          refine iteT ?_
          have heb : Sh C Hb (ae x) (pr (bs drv fs legs worth x)) := by
            obtain ⟨dd, hh⟩ := he x hxe
            exact ⟨dd, ka _ _ (fun q => by rw [q, hE] at hh; cases hh) hh⟩
          have hfb : Sh C Hb (af x) (pr (gv drv fs legs worth [z] x)) := by
            obtain ⟨dd, hh⟩ := hf x hxw
            exact ⟨dd, ka _ _ (fun q => by rw [q, hE] at hh; cases hh) hh⟩
          obtain ⟨dfx, hfx⟩ := id hfb
          refine ⟨_, rfl, _, rfl, F1, _, rfl, dget_of (ka _ _ nFE hF) hxw, af x, dfx, _, rfl, hfx, sh_less _, _, rfl, _, rfl, E, _, rfl, .inl ⟨_, Sum.inr x, .inr ⟨_, hEa⟩, rfl, (DQ.val_map (fun x => V.ref (ae x)) hxe).symm⟩, af x, ae x, _, _, 270, rfl, hfb, heb, g1sz x, (bsz x).mono (by decide), by decide, by decide, fun t2 Hc sc ft2 ht2 => ?_⟩
          dsimp only at ht2
          rw [c0 x e] at ht2
          have hdc := sc _ _ hdn
          have nt : t2 ≠ Dn := fun q => by rw [q, hdn] at ft2; cases ft2
          refine ⟨_, hdc, ?_, as ++ [t2], ?_, ?_, ?_, ?_, ?_⟩
          · rw [List.length_map, hlen]
            refine Nat.lt_of_le_of_lt (List.length_filter_le _ _) ?_
            rw [List.length_take]
            exact Nat.lt_of_lt_of_le (by omega : min j es.length < 64) (by decide)
          · rw [upd_same, List.map_append]
            rfl
          · rw [List.length_append, hlen, et, List.filter_append]
            simp [e]
          · intro a ha
            rcases List.mem_append.mp ha with ha | ha
            · obtain ⟨dd, hh⟩ := (has a ha).keep sc
              exact ⟨dd, by rw [upd_ne (fun q => by rw [q, hdc] at hh; cases hh)]; exact hh⟩
            · rw [List.mem_singleton] at ha
              subst ha
              obtain ⟨dd, hh⟩ := ht2
              exact ⟨dd, by rw [upd_ne nt]; exact hh⟩
          · rw [upd_ne nDE.symm]
            exact sc _ _ hEa
          · intro a o na e2
            rw [upd_ne (ne_of_none e2 fDn)]
            exact sc _ _ (ka a o na e2)
      rintro Ha ⟨as, hdn, hlen, has, hEa, ka⟩
      rw [List.length_map, List.take_length, rs_ne_len end_ hze el, ← nl] at hlen
      refine ⟨hEa, ?_⟩
      have s0d : Same H (upd Ha E (dctO es fun x => .ref (ae x))) := fun b u e => by
        rw [upd_ne (nE e)]
        exact ka b u (nE e) (s015 b u e)
      have mvE : ∀ {a : Addr} {q : Int × Int}, Sh C Ha a q → Sh C (upd Ha E (dctO es fun x => .ref (ae x))) a q := fun {a q} ⟨dd, hh⟩ => ⟨dd, by rw [upd_ne (fun q => by rw [q, hEa] at hh; cases hh)]; exact hh⟩
      have es16 : ∀ x ∈ es, Sh C (upd Ha E (dctO es fun x => .ref (ae x))) (ae x) (pr (bs drv fs legs worth x)) := fun x hx => by
        obtain ⟨dd, hh⟩ := he x hx
        exact mvE ⟨dd, ka _ _ (fun q => by rw [q, hE] at hh; cases hh) hh⟩
      have ef16 : ∀ x ∈ ws, Sh C (upd Ha E (dctO es fun x => .ref (ae x))) (af x) (pr (gv drv fs legs worth [z] x)) := fun x hx => by
        obtain ⟨dd, hh⟩ := hf x hx
        exact mvE ⟨dd, ka _ _ (fun q => by rw [q, hE] at hh; cases hh) hh⟩
      have hE16 : (upd Ha E (dctO es fun x => .ref (ae x))) E = some (dctO es fun x => .ref (ae x)) := upd_same
      have hF16 : (upd Ha E (dctO es fun x => .ref (ae x))) F1 = some (dctO ws fun x => .ref (af x)) := by
        rw [upd_ne nFE]
        exact ka _ _ nFE hF
      have has16 := fun a ha => mvE (has a ha)
      have hdn16 : (upd Ha E (dctO es fun x => .ref (ae x))) Dn = some (.lst (as.map V.ref)) := by
        rw [upd_ne nDE]
        exact hdn
      clear has hdn ka hEa mvE hE he hF hf es15 df15 s015
      generalize upd Ha E (dctO es fun x => .ref (ae x)) = H16 at s0d es16 ef16 hE16 hF16 has16 hdn16
      -- the late one loses a tenth
      obtain ⟨dz, hdz⟩ := id (ef16 z hzw)
      refine ⟨_, rfl, _, rfl, F1, _, rfl, dget_of hF16 hzw, af z, dz, _, rfl, hdz, sh_plus _, _, rfl, wp, _, _, _, rfl, rfl, SqL.of (s0d _ _ hw), rfl, ?_⟩
      intro m dm nm ndm nem
      refine mk_in (n := 10) nm ndm (by decide) (by decide) (by decide) (by decide) fun Hb sb hm => ⟨rfl, ?_⟩
      have tsz : Sz 10 (Rat.divInt worth 10) := KM.sz_of_low (by decide) (by omega) (by decide)
      refine ⟨af z, m, _, _, 270, rfl, (ef16 z hzw).keep sb, hm, g1sz z, tsz.mono (by decide), by decide, by decide, fun t2 Hc sc ft2 ht2 => ?_⟩
      have sbc := sb.trans sc
      refine ⟨_, rfl, _, rfl, E, _, rfl, dget_of (sbc _ _ hE16) hze, neS ht2 ((es16 z hze).keep sbc) ⟨_, rfl, ?_⟩⟩
      have ez : gv drv fs legs worth [z] z + Rat.divInt worth 10 = bs drv fs legs worth z := by
        rw [gv_one]
        unfold de
        rw [if_pos rfl]
        grind
      refine iteEq ez ?_
      have hdnc := sbc _ _ hdn16
      obtain ⟨a0, ar, eas⟩ : ∃ a0 ar, as = a0 :: ar := by
        cases as with
        | nil => rw [← hlen] at npos; exact absurd npos (by decide)
        | cons a0 ar => exact ⟨a0, ar, rfl⟩
      have ha0 : a0 ∈ as := by rw [eas]; exact List.mem_cons_self
      have at0 : atI (as.map V.ref) 0 = some (.ref a0) := by rw [eas]; exact atI_nat (xs := (a0 :: ar).map V.ref) (j := 0) rfl
      refine ⟨_, rfl, Dn, rfl, ⟨_, SqL.of hdnc⟩, fun D2 hD2 => lc_list (K := K) (xs := as.map V.ref) (fun j H' => H' D2 = some (.lst []) ∧ Same Hc H') ⟨upd_same, same_new hD2⟩ (fun _ H' _ z => SqL.of (z.2 _ _ hdnc)) ?_ ?_⟩
      · rintro j x H' hx ⟨hd, sm⟩
        rw [List.getElem?_map] at hx
        obtain ⟨a, ha, rfl⟩ := Option.map_eq_some_iff.mp hx
        have hm := List.mem_of_getElem? ha
        refine ⟨rfl, ?_⟩
        refine ⟨_, rfl, _, rfl, Dn, _, _, _, rfl, rfl, SqL.of (sm _ _ hdnc), at0, neS (((has16 a hm).keep sbc).keep sm) (((has16 a0 ha0).keep sbc).keep sm) ⟨_, rfl, ?_⟩⟩
        exact iteEq rfl ⟨hd, sm⟩
      rintro Hd ⟨hd, sm⟩
      refine ⟨by show 0 ≤ sizeLine; decide, fun en fen => ?_⟩
      have se := same_new (o := .lst []) fen
      refine ⟨.list [], .list [], Dp.lst (SqL.of (se _ _ hd)) .nil, Dp.lst (SqL.of upd_same) .nil, by decide, by decide, _, rfl, ?_⟩
      rw [show (!PyData.eqv (.list []) (.list [])) = false by decide]
      refine iteF ?_
      have s1e := (sbc.trans sm).trans se
      generalize upd Hd en (.lst []) = He at s1e
      have hdne := s1e _ _ hdn16
      obtain ⟨da, hda⟩ := id ((has16 a0 ha0).keep s1e)
      have csz : Sz 10 (Rat.divInt worth (10 * (nms fs).length)) := KM.sz_of_low (by omega) (by omega) (by omega)
      refine ⟨_, rfl, Dn, _, _, _, rfl, rfl, SqL.of hdne, at0, a0, da, _, rfl, hda, shF_no _ (by decide +kernel) (by decide +kernel), _, rfl, Dn, _, rfl, .inl (SqL.of hdne), a0, _, _, 10, rfl, (has16 a0 ha0).keep s1e, csz, trivial, ?_, by decide, by decide, fun t3 Hf sf ft3 ht3 => ?_⟩
      · rw [List.length_map, hlen]
        omega
      rw [List.length_map, hlen] at ht3
      refine ⟨_, rfl, wp, _, _, _, rfl, rfl, SqL.of (sf _ _ (s1e _ _ (s0d _ _ hw))), rfl, ?_⟩
      intro m2 dm2 nm2 ndm2 nem2
      refine mk_in (n := 10) nm2 ndm2 (by decide) (by decide) (by decide) (by decide) fun Hg sg hm2 => ⟨rfl, ?_⟩
      have ec : Rat.divInt worth (10 * (nms fs).length) * Rat.divInt ((nms fs).length : Int) 1 = Rat.divInt worth 10 := by
        have h := MG.divInt_mul_nat worth (nms fs).length 10 npos (by decide)
        have e : (((nms fs).length : Nat) : Rat) = Rat.divInt ((nms fs).length : Int) 1 := (Rat.num_divInt_den (((nms fs).length : Nat) : Rat)).symm
        rw [← e, Rat.mul_comm]
        exact h
      refine neS (ht3.keep sg) hm2 ⟨_, rfl, ?_⟩
      have s1g := (s1e.trans sf).trans sg
      exact iteEq ec ⟨_, _, _, _, _, _, rfl, ⟨ae, s1g _ _ hE16, fun x hx => (es16 x hx).keep s1g⟩, s0d.trans s1g⟩
    · rintro σ H' ⟨v5, v6, v7, v8, v9, v10, rfl, _, s0e⟩
      exact hQ H' s0e
end
end K26
set_option Elab.async false
set_option linter.all false
set_option maxRecDepth 100000
set_option maxHeartbeats 4000000
namespace K26
open PySem PySem.Spec PyProof.Rows L2
open C8 (Cal Mak Met pe_c pe_mk pe_mt pe_mt0)
open KM (pr Sz)
open SX (S)
def RSh (C : Addr) : Addr → Addr → Hp → Prop := fun a b H => ∃ r, Sh C H a (pr r) ∧ Sh C H b (pr r)
theorem monS {C : Addr} : Mon (DIns C (RSh C)) := mon_ins fun a b H H' e ⟨r, ⟨da, h1⟩, ⟨db, h2⟩⟩ => ⟨r, ⟨da, e _ _ h1⟩, ⟨db, e _ _ h2⟩⟩
theorem lkS {C : Addr} : DO.Lk (DIns C (RSh C)) := fun x y H d u o hd h => by
  obtain ⟨a, b, dx, dy, fs, gs, hx, hy, h1, h2, r, ⟨da, h3⟩, ⟨db, h4⟩⟩ := h
  have n1 : a ≠ d := fun q => by rw [q, hd] at h1; cases h1
  have n2 : b ≠ d := fun q => by rw [q, hd] at h2; cases h2
  exact ⟨a, b, dx, dy, fs, gs, hx, hy, by rw [upd_ne n1]; exact h1, by rw [upd_ne n2]; exact h2, r, ⟨da, by rw [upd_ne n1]; exact h3⟩, ⟨db, by rw [upd_ne n2]; exact h4⟩⟩
theorem eqS {X : Cx} {C : Addr} (N : NeS X.prog X.w X.K X.mg X.base C) : EqG X 1 (DIns C (RSh C)) := by
  obtain ⟨f, fd, ps, h1, h2, F, hb⟩ := N.sp.ex
  refine eqG_ins (CX := CX0) (E := E0) (F.imp fun vs H Q E h => ?_) h1 h2 hb (fun _ _ _ _ _ _ _ h => False.elim h)
  obtain ⟨a, b, rfl, ⟨r, ha, hb⟩, q⟩ := h
  refine ⟨a, b, r, r, rfl, ha, hb, ?_⟩
  rw [decide_eq_true (rfl : r = r)]
  exact q H fun _ _ e => e
theorem dictS {C D E : Addr} {H : Hp} {ys xs : List Str} {v : Str → Rat} (hD : DS C H D ys v) (hE : DS C H E xs v) (ne : D ≠ E) (pm : ys.Perm xs) : DO.DDict (DIns C (RSh C)) (.ref D) (.ref E) H := by
  obtain ⟨ad, hD, hv⟩ := hD
  obtain ⟨ae, hE, he⟩ := hE
  refine ⟨D, E, _, _, rfl, rfl, ne, hD, hE, by rw [List.length_map, List.length_map, pm.length_eq], fun p hp => ?_⟩
  obtain ⟨x, hx, rfl⟩ := List.mem_map.mp hp
  have hx' := pm.mem_iff.mp hx
  refine ⟨.ref (ae x), DQ.val_map (fun x => V.ref (ae x)) hx', ?_⟩
  obtain ⟨da, ea⟩ := id (hv x hx)
  obtain ⟨db, eb⟩ := id (he x hx')
  exact ⟨ad x, ae x, da, db, _, _, rfl, rfl, ea, eb, v x, hv x hx, he x hx'⟩
theorem Rid.kp {CR : Addr} {H H' : Hp} {rp p : Addr} {day : Int} {drv : Str} {gs : List (Addr × Rd)} {legs worth : Int} {ls : List Str} {c : Nat} (h : Rid CR H rp day drv gs legs worth ls) (x : Pen H p c) (k : Kp p H H') : Rid CR H' rp day drv gs legs worth ls := by
  obtain ⟨dx, sl, lc, e, fk, e2⟩ := h
  exact ⟨dx, sl, lc, k.1 _ _ e (x.ne e fun _ _ _ q => nomatch q), fk.kp x k, k.1 _ _ e2 (x.ne e2 (no_strs ls))⟩
theorem RW.kp {CR : Addr} {H H' : Hp} {rp wp p : Addr} {day : Int} {drv : Str} {gs fs : List (Addr × Rd)} {legs worth : Int} {lt ls : List Str} {c : Nat} (h : RW CR H rp wp day drv gs fs legs worth lt ls) (x : Pen H p c) (k : Kp p H H') : RW CR H' rp wp day drv gs fs legs worth lt ls :=
  ⟨h.1.kp x k, h.2.1.kp x k, h.2.2⟩
theorem RW.same {CR : Addr} {H H' : Hp} {rp wp : Addr} {day : Int} {drv : Str} {gs fs : List (Addr × Rd)} {legs worth : Int} {lt ls : List Str} (h : RW CR H rp wp day drv gs fs legs worth lt ls) (s : Same H H') : RW CR H' rp wp day drv gs fs legs worth lt ls :=
  ⟨h.1.same s, h.2.1.same s, h.2.2⟩
theorem WayOk.worth {day : Int} {drv : Str} {fs : List (Addr × Rd)} {legs worth w2 : Int} {lt : List Str} (ok : WayOk day drv fs legs worth lt) (h1 : 1 ≤ w2) (h2 : w2 ≤ 1000) : WayOk day drv fs legs w2 lt :=
  ⟨ok.d0, ok.d1, ok.dn, ok.l1, ok.l12, h1, h2, ok.rd, ok.ltn, ok.lts⟩
theorem draw_mul {x n r : Int} (x1 : 1 ≤ x) (xn : x ≤ n) (r0 : 0 ≤ r) (rn : r < n / x) : 1 ≤ x * (1 + r) ∧ x * (1 + r) ≤ n := by
  have h1 : x * (1 + r) ≤ x * (n / x) := Int.mul_le_mul_of_nonneg_left (by omega) (by omega)
  have h2 : x * (n / x) ≤ n := Int.mul_ediv_self_le (by omega)
  have h3 : 0 < x * (1 + r) := Int.mul_pos (by omega) (by omega)
  omega
theorem wide_ok {drv : Str} {legs t : Int} {fs hs : List (Addr × Rd)} (ok : RdOk drv legs fs) (t1 : 1 ≤ t) (wd : wide t fs hs) : RdOk drv (legs * t) hs := by
  have ex : ∀ z ∈ hs, ∃ y ∈ fs, z.2 = (y.2.1, y.2.2.1 * t, y.2.2.2 * t) := fun z hz => by
    have : z.2 ∈ hs.map (·.2) := List.mem_map.mpr ⟨z, hz, rfl⟩
    rw [← wd] at this
    obtain ⟨y, hy, e⟩ := List.mem_map.mp this
    exact ⟨y, hy, e.symm⟩
  refine ⟨?_, fun z hz => ?_, fun z hz => ?_, by rw [← wide_nms wd]; exact ok.nd⟩
  · have := congrArg List.length wd
    rw [List.length_map, List.length_map] at this
    rw [← this]
    exact ok.len
  · obtain ⟨y, hy, e⟩ := ex z hz
    rw [e]
    exact ok.nm y hy
  · obtain ⟨y, hy, e⟩ := ex z hz
    obtain ⟨h0, h1, h2⟩ := ok.ok y hy
    rw [e]
    refine ⟨Int.mul_nonneg h0 (by omega), Int.mul_lt_mul_of_pos_right h1 (by omega), Int.mul_le_mul_of_nonneg_right h2 (by omega)⟩
section
variable {P : Program} {w : World} {K : PySem.W.Frag} {mg : Str → Option Value} {base : Heap} {f C CR : Addr} {fd : FuncData}
def spTR (C CR : Addr) : Sp := fun vs H Q _ => ∃ (p rp wp : Addr) (day : Int) (drv : Str) (gs fs : List (Addr × Rd)) (legs worth : Int) (lt ls : List Str) (c : Nat), vs = [.ref p, .ref rp, .ref wp] ∧ Pen H p (c + 10) ∧ RW CR H rp wp day drv gs fs legs worth lt ls ∧ ∀ H', Pen H' p c → Kp p H H' → Q (.bl true) H'
theorem ok_tr (F : Dn K d_l_times_right f fd) (b : Bl mg) (b2 : Bl2 mg) (T : ClR K mg CR) (TS : Cl K mg C) (N : NeS P w K mg base C) (mF : Met P w K mg base 1 CR "folk" (spFo CR) []) (mPt : Met P w K mg base 5 CR "parts" (spPt C CR) []) (mGv : Met P w K mg base 6 CR "gives" (spGv C CR) [])
    (mT : Met P w K mg base 4 C "times" (sp1 C (fun _ => True) (fun r k => r * Rat.divInt k 1)) []) (MR : Mak P w K mg base 5 "Ride" CR (spRI CR) []) (cD : CalD P w K mg base) : FnOk P w K mg base CX0 7 f fd ["_law_pen_here", "_law_ride", "_law_way_here"] (spTR C CR) := by
  refine F.ok sc_l_times_right (fun vs H Q E h => ?_) (fun cdv A outer s H vs Q E hr h => ?_)
  · obtain ⟨p, rp, wp, day, drv, gs, fs, legs, worth, lt, ls, c, rfl, _⟩ := h
    rfl
  · obtain ⟨p, rp, wp, day, drv, gs, fs, legs, worth, lt, ls, c, rfl, pen0, rw0, hQ⟩ := h
    have hu := hu_of hr
    refine ⟨_, PSs.nox (pss_cons (ps_set (i := 3) sc_l_times_right.nd rfl (.inl rfl) (pe_op op_add pe_int (pe_c cD hr (by decide) rfl (pa_cons (pv 0) (pa_cons (pe_op op_fdiv pe_int (pe_ix ix_list (pv 2) pe_int (fun _ _ => rfl))) pa_nil)))))
      (pss_cons (ps_set (i := 4) sc_l_times_right.nd rfl (.inl rfl) (pe_mk MR hr (by decide) rfl (pa_cons (pe_ix ix_list (pv 2) pe_int (fun _ _ => rfl)) (pa_cons (pe_ix ix_list (pv 2) pe_int (fun _ _ => rfl)) (pa_cons (pe_ix ix_list (pv 2) pe_int (fun _ _ => rfl)) (pa_cons (pe_ix ix_list (pv 2) pe_int (fun _ _ => rfl)) (pa_cons (pe_op op_mul (pe_ix ix_list (pv 2) pe_int (fun _ _ => rfl)) (pv 3)) (pa_cons (pe_ix ix_list (pv 2) pe_int (fun _ _ => rfl)) pa_nil))))))))
      (pss_cons (ps_for PassesOwn.never rfl (pi_list (pe_mt0 mF hr (by decide) (pv 1))) (pg_name (i := 5) sc_l_times_right.nd rfl (.inl rfl))
        (pss_one (ps_if (pt_cmpR (OW.op_neO N.sp N.ne N.mr (hr.mono (by decide))) (pe_dget hu (pe_mt0 mGv hr (by decide) (pv 4)) (pv 5) (fun _ _ => rfl)) (pe_mt mT hr (by decide) (pe_dget hu (pe_mt0 mGv hr (by decide) (pv 1)) (pv 5) (fun _ _ => rfl)) (pa_cons (pv 3) pa_nil)) (nomark _)) pss_never pss_nil)))
      (pss_cons (ps_set (i := 6) sc_l_times_right.nd rfl (.inr rfl) (pe_op op_add pe_int (pe_c cD hr (by decide) rfl (pa_cons (pv 0) (pa_cons (pe_op op_fdiv pe_int (pe_ix ix_list (pv 2) pe_int (fun _ _ => rfl))) pa_nil)))))
      (pss_cons (ps_setLc (i := 7) (own := [("_law_called", 5), ("_law_begin", 9), ("_law_end", 10)]) (g := gTup K 3 (gCons (gName 5) (gCons (gName 9) (gCons (gName 10) gNil)))) (tt := tYes) rfl sc_l_times_right.nd rfl rfl (sw_true rfl rfl rfl (by decide +kernel)) (pi_list (pe_ix ix_list (pv 2) pe_int (fun _ _ => rfl))) (blkOk_by (N := N_l_times_right) (sc := defScope s_l_times_right) (by decide +kernel))
          (fun _ _ _ _ _ => pg_tup rfl (pgs_cons (pg_name (i := 5) sc_l_times_right.nd rfl (.inl rfl)) (pgs_cons (pg_name (i := 9) sc_l_times_right.nd rfl (.inl rfl)) (pgs_cons (pg_name (i := 10) sc_l_times_right.nd rfl (.inl rfl)) pgs_nil)))) (fun _ _ _ _ _ => pts_nil)
          (fun _ _ _ _ _ => pe_tup (pa_cons (pv 5) (pa_cons (pe_op op_mul (pv 9) (pv 6)) (pa_cons (pe_op op_mul (pv 10) (pv 6)) pa_nil)))))
      (pss_cons (ps_set (i := 8) sc_l_times_right.nd rfl (.inl rfl) (pe_mk MR hr (by decide) rfl (pa_cons (pe_ix ix_list (pv 2) pe_int (fun _ _ => rfl)) (pa_cons (pe_ix ix_list (pv 2) pe_int (fun _ _ => rfl)) (pa_cons (pv 7) (pa_cons (pe_op op_mul (pe_ix ix_list (pv 2) pe_int (fun _ _ => rfl)) (pv 6)) (pa_cons (pe_ix ix_list (pv 2) pe_int (fun _ _ => rfl)) (pa_cons (pe_ix ix_list (pv 2) pe_int (fun _ _ => rfl)) pa_nil))))))))
      (pss_one (ps_ret (pe_and (pe_cmpR (DO.op_eq monS lkS (eqS N) (hr.mono (by decide))) (pe_mt0 mPt hr (by decide) (pv 8)) (pe_mt0 mPt hr (by decide) (pv 1)) (nomark _))
        (pe_one (pe_cmpR (DO.op_eq monS lkS (eqS N) (hr.mono (by decide))) (pe_mt0 mGv hr (by decide) (pv 8)) (pe_mt0 mGv hr (by decide) (pv 1)) (nomark _)))))))))))), ?_⟩
    have ok := rw0.2.2.1
    obtain ⟨l1, l12, w1, w9⟩ := And.intro ok.l1 (And.intro ok.l12 (And.intro ok.w1 ok.w9))
    have flen := ok.rd.len
    have nd := ok.rd.nd
    have gsz : ∀ x, Sz 270 (gv drv fs legs worth lt x) := fun x => (gv_sz (x := x) l1 l12 w1 w9 flen ok.lts).mono (by have := lt_len ok.ltn ok.lts; omega)
    obtain ⟨fl, sl', hw, fk', hsl⟩ := id rw0.2.1
    -- worth so many times
    have d1 : 0 < (1000 : Int) / worth := by
      have := Int.le_ediv_of_mul_le (a := 1) (b := 1000) (c := worth) (by omega) (by omega)
      omega
    have d2 : (1000 : Int) / worth ≤ 1000 := Int.ediv_le_self _ (by decide)
    refine ⟨_, rfl, _, rfl, wp, _, _, _, rfl, rfl, SqL.of hw, rfl, _, _, rfl, rfl, ⟨by omega, by omega⟩, p, c + 9, _, rfl, pen0, by omega, by omega, fun r1 H1 a1 b1 pen1 k1 => ?_⟩
    obtain ⟨m1, m2⟩ := draw_mul w1 w9 a1 b1
    have rw1 := rw0.kp pen0 k1
    obtain ⟨rid1, wy1, _, pm, pl⟩ := id rw1
    obtain ⟨fl1, sl1, hw1, fk1, hsl1⟩ := id wy1
    obtain ⟨dx, sl, lc, hrp, fk, hlc⟩ := id rid1
    have okg := ok.perm pm
    refine ⟨_, _, rfl, rfl, ?_⟩
    refine ⟨_, rfl, wp, _, _, _, rfl, rfl, SqL.of hw1, rfl, _, rfl, wp, _, _, _, rfl, rfl, SqL.of hw1, rfl, _, rfl, wp, _, _, _, rfl, rfl, SqL.of hw1, rfl, _, rfl, wp, _, _, _, rfl, rfl, SqL.of hw1, rfl, _, rfl, wp, _, _, _, rfl, rfl, SqL.of hw1, rfl, _, rfl, _, _, rfl, rfl, cb_l (by omega) (by omega), _, rfl, wp, _, _, _, rfl, rfl, SqL.of hw1, rfl, ?_⟩
    have okw := ok.worth m1 m2
    intro rg dq_rg f2 nq_rg ne_rg
    refine mk_rideI f2 nq_rg (.inr ⟨fl1, rfl, fk1⟩) (.inr ⟨sl1, rfl, hsl1⟩) okw fun gs2 ls2 H2 s2 pm2 pl2 ridf2 => ⟨rfl, ?_⟩
    obtain ⟨dx2, st2, lc2, hrp2, fk2, hlc2, _, _⟩ := ridf2
    have rid2 : Rid CR H2 rg day drv gs2 legs (worth * (1 + r1)) ls2 := ⟨dx2, st2, lc2, hrp2, fk2, hlc2⟩
    have rw2 := rw1.same s2
    have pen2 := pen1.same s2
    have k2 := k1.trans (Kp.same s2)
    clear rw1 wy1 hw1 fk1 hsl1 fk hlc k1 s2 rid1
    obtain ⟨rid0, wy0, _, _, _⟩ := id rw2
    obtain ⟨dx', sl2', lc2', hrp', fk2', hlc'⟩ := id rid0
    clear hrp
    have pmn : (drv :: nms gs).Perm (drv :: nms fs) := List.Perm.cons _ (pm.map (fun q : Addr × Rd => q.2.1))
    refine ⟨_, rfl, rp, dx', _, rfl, hrp', r_folk, rp, day, drv, gs, legs, worth, ls, rfl, rid0, okg.rd.len, fun o ys H3 s3 fo ho pf _ => ?_⟩
    refine ⟨o, rfl, ⟨_, SqL.of ho⟩, for_list (K := K) (xs := ys.map V.str) (fun i σ H' => ∃ (v5 v6 v7 v8 v9 v10 : Option V), σ = [some (.ref p), some (.ref rp), some (.ref wp), some (.int (1 + r1)), some (.ref rg), v5, v6, v7, v8, v9, v10] ∧ Same H3 H')
      ⟨_, _, _, _, _, _, rfl, Same.refl _⟩ (fun i σ H' _ z => by
        obtain ⟨_, _, _, _, _, _, _, k⟩ := z
        exact SqL.of (k _ _ ho)) ?_ ?_⟩
    · rintro i v σ H4 hi ⟨v5, v6, v7, v8, v9, v10, rfl, s4⟩
      rw [List.getElem?_map] at hi
      obtain ⟨z, hz, rfl⟩ := Option.map_eq_some_iff.mp hi
      have hzf : z ∈ drv :: nms fs := pmn.mem_iff.mp (pf.mem_iff.mp (List.mem_of_getElem? hz))
      have s24 := s3.trans s4
      refine ⟨_, rfl, rg, dx2, _, rfl, s24 _ _ hrp2, r_gives, rg, day, drv, gs2, legs, worth * (1 + r1), lt, ls2, rfl, rid2.same s24, okw.perm pm2, pl2, fun D1 y1 H5 s5 f5 py1 ds5 => ?_⟩
      have ds5' := ds5.congr fun x => (gv_perm pm2 pl2 x).trans (gv_times (1 + r1) x)
      obtain ⟨a1', hD1, hv1⟩ := id ds5'
      have hz1 : z ∈ y1 := py1.mem_iff.mpr ((List.Perm.cons _ (pm2.map (fun q : Addr × Rd => q.2.1))).mem_iff.mpr hzf)
      refine ⟨_, rfl, D1, _, rfl, dget_of hD1 hz1, ?_⟩
      have s25 := s24.trans s5
      refine ⟨_, rfl, rp, dx', _, rfl, s25 _ _ hrp', r_gives, rp, day, drv, gs, legs, worth, lt, ls, rfl, rid0.same s25, okg, pl, fun D2 y2 H6 s6 f6 py2 ds6 => ?_⟩
      have ds6' := ds6.congr fun x => gv_perm pm pl x
      obtain ⟨a2', hD2, hv2⟩ := id ds6'
      have hz2 : z ∈ y2 := py2.mem_iff.mpr (pmn.mem_iff.mpr hzf)
      obtain ⟨dz, hdz⟩ := id (hv2 z hz2)
      refine ⟨_, rfl, D2, _, rfl, dget_of hD2 hz2, a2' z, dz, _, rfl, hdz, shF_no _ (by decide +kernel) (by decide +kernel), _, rfl, a2' z, _, _, 270, rfl, hv2 z hz2, gsz z, trivial, ?_, by decide, by decide, fun t H7 s7 ft ht => ?_⟩
      · exact Nat.lt_of_lt_of_le (by omega : (1 + r1).natAbs < 2 ^ 10) (by decide)
      refine neS (((hv1 z hz1).keep s6).keep s7) ht ⟨_, rfl, ?_⟩
      exact iteEq rfl ⟨_, _, _, _, _, _, rfl, ((s4.trans s5).trans s6).trans s7⟩
    rintro σ H4 ⟨v5, v6, v7, v8, v9, v10, rfl, s4⟩
    have s24 := s3.trans s4
    have rw4 := rw2.same s24
    have pen4 := pen2.same s24
    have k4 := k2.trans (Kp.same s24)
    clear ho s3 s4 s24 rw2 pen2 k2 rid2 hrp2 fk2 hlc2 rid0 wy0 hrp' fk2' hlc'
    -- legs so many times
    obtain ⟨fl4, sl4, hw4, fk4, hsl4⟩ := id rw4.2.1
    have e1 : 0 < (12 : Int) / legs := by
      have := Int.le_ediv_of_mul_le (a := 1) (b := 12) (c := legs) (by omega) (by omega)
      omega
    have e2 : (12 : Int) / legs ≤ 12 := Int.ediv_le_self _ (by decide)
    refine ⟨_, rfl, _, rfl, wp, _, _, _, rfl, rfl, SqL.of hw4, rfl, _, _, rfl, rfl, ⟨by omega, by omega⟩, p, c + 8, _, rfl, pen4, by omega, by omega, fun r2 H5 a2 b2 pen5 k5 => ?_⟩
    obtain ⟨n1, n2⟩ := draw_mul l1 l12 a2 b2
    refine ⟨_, _, rfl, rfl, ?_⟩
    have rw5 := rw4.kp pen4 k5
    have k5' := k4.trans k5
    obtain ⟨fl5, sl5, hw5, fk5, hsl5⟩ := id rw5.2.1
    refine ⟨_, rfl, wp, _, _, _, rfl, rfl, SqL.of hw5, rfl, fl5, rfl, ⟨_, SqL.of fk5.1⟩, fun Dn hDn => lc_list (K := K) (xs := fs.map fun z => V.ref z.1) (fun i H' => ∃ hs : List (Addr × Rd), H' Dn = some (.lst (hs.map fun z => V.ref z.1)) ∧ (∀ z ∈ hs, H' z.1 = some (.tup (rdV z.2))) ∧ wide (1 + r2) (fs.take i) hs ∧ Same H5 H') ⟨[], upd_same, (fun z hz => nomatch hz), rfl, same_new hDn⟩ (fun _ H' _ z => by
        obtain ⟨_, _, _, _, k⟩ := z
        exact SqL.of (k _ _ fk5.1)) ?_ ?_⟩
    · rintro i x H6 hx ⟨hs, hd, hh, wd, sm⟩
      have hi' : i < fs.length := by
        have := (List.getElem?_eq_some_iff.mp hx).1
        simpa using this
      rw [List.getElem?_map] at hx
      obtain ⟨y, hy, rfl⟩ := Option.map_eq_some_iff.mp hx
      have hm := List.mem_of_getElem? hy
      have et : fs.take (i + 1) = fs.take i ++ [y] := by rw [List.take_succ, hy]; rfl
      have hl : hs.length = i := by
        have := congrArg List.length wd
        rw [List.length_map, List.length_map, List.length_take] at this
        omega
      obtain ⟨b0, be, el⟩ := ok.rd.ok y hm
      refine ⟨y.1, _, rfl, SqT.of (sm _ _ (fk5.2 y hm)), rfl, _, _, rfl, _, _, rfl, _, _, rfl, rfl, rfl, ?_⟩
      refine ⟨_, rfl, _, rfl, _, rfl, _, _, rfl, rfl, cb_l (by omega) (by omega), _, rfl, _, rfl, _, _, rfl, rfl, cb_l (by omega) (by omega), by show 3 ≤ sizeLine; decide, fun t ft => ?_⟩
      have st := same_new (o := .tup [.str y.2.1, .int (y.2.2.1 * (1 + r2)), .int (y.2.2.2 * (1 + r2))]) ft
      have hdt := st _ _ hd
      have nt : t ≠ Dn := fun q => by rw [q, hd] at ft; cases ft
      refine ⟨_, hdt, ?_, hs ++ [(t, y.2.1, y.2.2.1 * (1 + r2), y.2.2.2 * (1 + r2))], ?_, ?_, ?_, ?_⟩
      · rw [List.length_map, hl]
        exact Nat.lt_of_lt_of_le (by omega : i < 64) (by decide)
      · rw [upd_same, List.map_append]
        rfl
      · intro z hz
        rcases List.mem_append.mp hz with hz | hz
        · have q := st _ _ (hh z hz)
          rw [upd_ne (fun e => by rw [e, hdt] at q; cases q)]
          exact q
        · rw [List.mem_singleton] at hz
          subst hz
          rw [upd_ne nt, upd_same]
          rfl
      · unfold wide at wd ⊢
        rw [et, List.map_append, List.map_append, wd]
        rfl
      · intro a o e
        rw [upd_ne (ne_of_none e hDn)]
        exact st _ _ (sm a o e)
    rintro H6 ⟨hs, hd, hh, wd, sm⟩
    rw [List.length_map, List.take_length] at wd
    have rw6 := rw5.same sm
    have pen6 := pen5.same sm
    have k6 := k5'.trans (Kp.same sm)
    obtain ⟨rid6, ⟨fl6, sl6, hw6, fk6, hsl6⟩, _, _, _⟩ := id rw6
    have okq : WayOk day drv hs (legs * (1 + r2)) worth lt := ⟨ok.d0, ok.d1, ok.dn, n1, n2, w1, w9, wide_ok ok.rd (by omega) wd, ok.ltn, fun y hy => by rw [← wide_nms wd]; exact ok.lts y hy⟩
    refine ⟨_, rfl, wp, _, _, _, rfl, rfl, SqL.of hw6, rfl, _, rfl, wp, _, _, _, rfl, rfl, SqL.of hw6, rfl, _, rfl, _, rfl, wp, _, _, _, rfl, rfl, SqL.of hw6, rfl, _, rfl, _, _, rfl, rfl, cb_l (by omega) (by omega), _, rfl, wp, _, _, _, rfl, rfl, SqL.of hw6, rfl, _, rfl, wp, _, _, _, rfl, rfl, SqL.of hw6, rfl, ?_⟩
    intro rq dq nrq ndq neq
    refine mk_rideI nrq ndq (.inr ⟨Dn, rfl, hd, hh⟩) (.inr ⟨sl6, rfl, hsl6⟩) okq fun gs3 ls3 H7 s7 pm3 pl3 ridf3 => ⟨rfl, ?_⟩
    obtain ⟨dx3, st3, lc3, hrp3, fk3, hlc3, _, _⟩ := ridf3
    have rid3 : Rid CR H7 rq day drv gs3 (legs * (1 + r2)) worth ls3 := ⟨dx3, st3, lc3, hrp3, fk3, hlc3⟩
    have rid7 := rid6.same s7
    obtain ⟨dx7, sl7, lc7, hrp7, fk7, hlc7⟩ := id rid7
    have pmh : (drv :: nms gs3).Perm (drv :: nms fs) := by
      rw [wide_nms wd]
      exact List.Perm.cons _ (pm3.map (fun q : Addr × Rd => q.2.1))
    have t1 : 1 ≤ 1 + r2 := by omega
    refine ⟨_, rfl, rq, dx3, _, rfl, hrp3, r_parts, rq, day, drv, gs3, legs * (1 + r2), worth, lt, ls3, rfl, rid3, okq.perm pm3, fun D1 y1 H8 s8 f8 py1 ds1 => ?_⟩
    have ds1' := ds1.congr fun x => (val_perm pm3 _ x).trans (val_wideL t1 l1 wd x)
    refine ⟨_, rfl, rp, dx7, _, rfl, s8 _ _ hrp7, r_parts, rp, day, drv, gs, legs, worth, lt, ls, rfl, rid7.same s8, okg, fun D2 y2 H9 s9 f9 py2 ds2 => ?_⟩
    have ds2' := ds2.congr fun x => val_perm pm _ x
    have ne1 : D1 ≠ D2 := fun q => by
      obtain ⟨_, e, _⟩ := ds1
      rw [q, f9] at e
      cases e
    refine ⟨dictS (ds1'.same s9) ds2' ne1 ((py1.trans pmh).trans (py2.trans pmn).symm), fun Ha ea => ⟨true, rfl, iteT ?_⟩⟩
    have s7a : Same H7 Ha := (s8.trans s9).trans fun a o e => ea a o e
    refine ⟨_, rfl, rq, dx3, _, rfl, s7a _ _ hrp3, r_gives, rq, day, drv, gs3, legs * (1 + r2), worth, lt, ls3, rfl, rid3.same s7a, okq.perm pm3, pl3, fun D3 y3 Hb sb fb py3 ds3 => ?_⟩
    have ds3' := ds3.congr fun x => (gv_perm pm3 pl3 x).trans (gv_wide t1 l1 wd x)
    have s7b := s7a.trans sb
    refine ⟨_, rfl, rp, dx7, _, rfl, s7b _ _ hrp7, r_gives, rp, day, drv, gs, legs, worth, lt, ls, rfl, rid7.same s7b, okg, pl, fun D4 y4 Hc sc fc py4 ds4 => ?_⟩
    have ds4' := ds4.congr fun x => gv_perm pm pl x
    have ne2 : D3 ≠ D4 := fun q => by
      obtain ⟨_, e, _⟩ := ds3
      rw [q, fc] at e
      cases e
    refine ⟨dictS (ds3'.same sc) ds4' ne2 ((py3.trans pmh).trans (py4.trans pmn).symm), fun Hd ed => ?_⟩
    have s7d : Same H7 Hd := (s7b.trans sc).trans fun a o e => ed a o e
    have s6d := s7.trans s7d
    exact hQ Hd ((pen6.same s6d).weak (by omega)) (k6.trans (Kp.same s6d))
end
end K26
set_option Elab.async false
set_option linter.all false
set_option maxRecDepth 100000
set_option maxHeartbeats 4000000
namespace K26
open PySem PySem.Spec PyProof.Rows L2
open C8 (Cal Mak Met pe_c pe_mk pe_mt pe_mt0)
open KM (pr Sz)
open SX (S)
theorem val_alone {drv x : Str} {legs worth : Int} (l1 : 1 ≤ legs) (hx : x = drv) : val drv [] legs worth legs.toNat x = Rat.divInt worth 1 := by
  have h := val_sum (drv := drv) (gs := []) (legs := legs) (worth := worth) (by simp [nms]) l1 legs.toNat
  have e : MG.rs (drv :: nms []) (val drv [] legs worth legs.toNat) = val drv [] legs worth legs.toNat drv := by
    show val drv [] legs worth legs.toNat drv + 0 = _
    rw [Rat.add_zero]
  rw [e] at h
  rw [hx, h]
  have h := MG.divInt_mul_nat worth legs.toNat 1 (by omega) (by decide)
  have e2 : (1 : Int) * (legs.toNat : Int) = legs := by omega
  rw [e2] at h
  exact h
theorem gv_alone {drv x : Str} {legs worth : Int} (l1 : 1 ≤ legs) (hx : x = drv) : gv drv [] legs worth [] x = 0 := by
  rw [gv_nil]
  unfold bs
  rw [val_alone l1 hx, if_pos hx]
  grind
section
variable {P : Program} {w : World} {K : PySem.W.Frag} {mg : Str → Option Value} {base : Heap} {f C CR fR : Addr} {fd fdR : FuncData}
def spLaw (K : PySem.W.Frag) : Sp := fun vs H Q _ => ∃ (a : Addr) (ns : List Int), vs = [.ref a] ∧ SqL K H a (ns.map V.int) ∧ ns.length ≤ 63 ∧ ∀ H', Q (.bl true) H'
theorem ok_law (F : Dn K d_law f fd) (b : Bl mg) (b2 : Bl2 mg) (T : ClR K mg CR) (TS : Cl K mg C) (M1 : MakS1 P w K mg base C) (N : NeS P w K mg base C) (mPt : Met P w K mg base 5 CR "parts" (spPt C CR) []) (mGv : Met P w K mg base 6 CR "gives" (spGv C CR) [])
    (sLn : OW.Spc P w K mg base 2 CR "__len__" (spLn CR))
    (MRk : Mk K CR fR) (FR : FnOk P w K mg base CX0 5 fR fdR ["self", "day", "driver", "riders", "legs", "worth", "late"] (spRI CR)) {iR : List Value} (kR : KBn K fdR ["self", "day", "driver", "riders", "legs", "worth", "late"] 3 ["legs", "worth"] (fun us ws => us ++ (iR.take 1 ++ (ws ++ iR.drop 3))) (fun vs zs => vs ++ (([.non, .int 1, .int 1, .non] : List V).take 1 ++ (zs ++ ([.non, .int 1, .int 1, .non] : List V).drop 3))))
    (cPn : Cal P w K mg base 1 "_law_pen" (spPen K) []) (cWy : Cal P w K mg base 3 "_law_way" spWay []) (cMd : Cal P w K mg base 7 "_law_made" (spMd CR) []) (cPR : Cal P w K mg base 6 "_law_parts_right" (spPR C CR) []) (cGR : Cal P w K mg base 7 "_law_gives_right" (spPR C CR) []) (cTR : Cal P w K mg base 7 "_law_times_right" (spTR C CR) []) :
    FnOk P w K mg base CX0 8 f fd ["_law_script"] (spLaw K) := by
  refine F.ok sc_law (fun vs H Q E h => ?_) (fun cdv A outer s H vs Q E hr h => ?_)
  · obtain ⟨a, ns, rfl, _⟩ := h
    rfl
  · obtain ⟨a, ns, rfl, hS, hlen, hQ⟩ := h
    have hu := hu_of hr
    refine ⟨_, PSs.nox (pss_cons (ps_set (i := 1) sc_law.nd rfl (.inl rfl) (pe_c cPn hr (by decide) rfl (pa_cons (pv 0) pa_nil)))
      (pss_cons (ps_for PassesOwn.never rfl (pi_range1 rfl b.range (pa_cons pe_int pa_nil)) (pg_name (i := 2) sc_law.nd rfl (.inl rfl))
        (pss_cons (ps_set (i := 3) sc_law.nd rfl (.inl rfl) (pe_c cWy hr (by decide) rfl (pa_cons (pv 1) pa_nil)))
        (pss_cons (ps_set (i := 4) sc_law.nd rfl (.inl rfl) (pe_c cMd hr (by decide) rfl (pa_cons (pv 3) pa_nil)))
        (pss_cons (ps_if (PW.pt (pw_or (pt_not (pt_val (pe_c cPR hr (by decide) rfl (pa_cons (pv 4) (pa_cons (pv 3) pa_nil))))) (pw_or1 (pt_not (pt_val (pe_c cGR hr (by decide) rfl (pa_cons (pv 4) (pa_cons (pv 3) pa_nil)))))))) pss_never pss_nil)
        (pss_cons (ps_if (pt_not (pt_val (pe_c cTR hr (by decide) rfl (pa_cons (pv 1) (pa_cons (pv 4) (pa_cons (pv 3) pa_nil)))))) pss_never pss_nil)
        (pss_cons (ps_set (i := 5) sc_law.nd rfl (.inl rfl) (pe_makeN (E := E0) (n := 2) MRk FR (hr.mono (by decide)) rfl T.g kR (fun _ _ _ _ _ _ _ h => False.elim h) (pa_cons (pe_ix ix_list (pv 3) pe_int (fun _ _ => rfl)) (pa_cons (pe_ix ix_list (pv 3) pe_int (fun _ _ => rfl)) pa_nil)) (pk_cons (pe_ix ix_list (pv 3) pe_int (fun _ _ => rfl)) (pk_cons (pe_ix ix_list (pv 3) pe_int (fun _ _ => rfl)) pk_nil))))
        (pss_one (ps_if (PW.pt (pw_or (pt_cmpR (DO.op_ne monS lkS (eqS N) (hr.mono (by decide))) (pe_mt0 mGv hr (by decide) (pv 5)) (pe_disp (pps_cons (pe_ix ix_list (pv 3) pe_int (fun _ _ => rfl)) (pe_mk M1 hr (by decide) rfl (pa_cons pe_int pa_nil)) pps_nil) rfl rfl (by simp) (by decide)) (nomark _))
          (pw_or (pt_cmpR (DO.op_ne monS lkS (eqS N) (hr.mono (by decide))) (pe_mt0 mPt hr (by decide) (pv 5)) (pe_disp (pps_cons (pe_ix ix_list (pv 3) pe_int (fun _ _ => rfl)) (pe_mk M1 hr (by decide) rfl (pa_cons (pe_ix ix_list (pv 3) pe_int (fun _ _ => rfl)) pa_nil)) pps_nil) rfl rfl (by simp) (by decide)) (nomark _))
          (pw_or1 (pt_cmpR op_ne (pe_callB (OW.call_lenO sLn (hr.mono (by decide))) rfl b.len boot_len (pa_cons (pv 5) pa_nil)) pe_int (nomark _)))))) pss_never pss_nil))))))))
      (pss_one (ps_ret pe_bl)))), ?_⟩
    refine ⟨_, rfl, a, ns, rfl, hS, hlen, fun p H1 s1 f1 pen1 => ?_⟩
    refine ⟨6, rfl, by decide, by decide, ?_⟩
    refine for_range (n := 6) (fun i σ H' => ∃ (v2 v3 v4 v5 : Option V), σ = [some (.ref a), some (.ref p), v2, v3, v4, v5] ∧ Pen H' p (800000000 - 300 * i)) ⟨_, _, _, _, rfl, pen1.weak (by decide)⟩ ?_ ?_
    · rintro i σ H2 hi ⟨v2, v3, v4, v5, rfl, pen2⟩
      refine ⟨_, rfl, p, 800000000 - 300 * i - 200, rfl, pen2.weak (by omega), fun wp day drv fs legs worth lt H3 pen3 k3 fwp wyf ok => ?_⟩
      obtain ⟨fl, sl, hw3, fk3, hsl3, _, _⟩ := wyf
      have wy3 : Wy H3 wp day drv fs legs worth lt := ⟨fl, sl, hw3, fk3, hsl3⟩
      obtain ⟨l1, l12, w1, w9⟩ := And.intro ok.l1 (And.intro ok.l12 (And.intro ok.w1 ok.w9))
      refine ⟨_, rfl, wp, day, drv, fs, legs, worth, lt, rfl, wy3, ok, fun rp gs ls H4 s4 frp pm pl ridf => ?_⟩
      obtain ⟨dx, st, lc, hrp4, fk4, hlc4, _, _⟩ := ridf
      have rw4 : RW CR H4 rp wp day drv gs fs legs worth lt ls := ⟨⟨dx, st, lc, hrp4, fk4, hlc4⟩, wy3.same s4, ok, pm, pl⟩
      refine ⟨_, rfl, _, rfl, rp, wp, day, drv, gs, fs, legs, worth, lt, ls, rfl, rw4, fun H5 s5 => ⟨true, rfl, iteF ?_⟩⟩
      refine ⟨_, rfl, _, rfl, rp, wp, day, drv, gs, fs, legs, worth, lt, ls, rfl, rw4.same s5, fun H6 s6 => ⟨true, rfl, iteF ?_⟩⟩
      have s46 := s5.trans s6
      have rw6 := rw4.same s46
      have pen6 := (pen3.same s4).same s46
      refine ⟨_, rfl, _, rfl, _, rfl, p, rp, wp, day, drv, gs, fs, legs, worth, lt, ls, 800000000 - 300 * i - 220, rfl, pen6.weak (by omega), rw6, fun H7 pen7 k7 => ⟨true, rfl, iteF ?_⟩⟩
      have rw7 := rw6.kp (pen6.weak (Nat.zero_le _)) k7
      obtain ⟨_, ⟨fl7, sl7, hw7, fk7, hsl7⟩, _⟩ := rw7
      -- the driver alone
      have ok0 : WayOk day drv [] legs worth [] := ⟨ok.d0, ok.d1, ok.dn, l1, l12, w1, w9, ⟨by simp, (fun z hz => nomatch hz), (fun z hz => nomatch hz), by simp [nms]⟩, List.nodup_nil, fun _ h => nomatch h⟩
      refine ⟨_, rfl, wp, _, _, _, rfl, rfl, SqL.of hw7, rfl, _, rfl, wp, _, _, _, rfl, rfl, SqL.of hw7, rfl, _, rfl, wp, _, _, _, rfl, rfl, SqL.of hw7, rfl, _, rfl, wp, _, _, _, rfl, rfl, SqL.of hw7, rfl, rfl, rfl, ?_⟩
      intro rq dq nrq ndq neq
      refine mk_rideI nrq ndq (.inl ⟨rfl, rfl⟩) (.inl ⟨rfl, rfl⟩) ok0 fun gs3 ls3 H8 s8 pm3 pl3 ridf3 => ⟨rfl, ?_⟩
      obtain ⟨dx3, st3, lc3, hrp3, fk3, hlc3, _, _⟩ := ridf3
      have rid3 : Rid CR H8 rq day drv gs3 legs worth ls3 := ⟨dx3, st3, lc3, hrp3, fk3, hlc3⟩
      have eg : gs3 = [] := pm3.eq_nil
      have el : ls3 = [] := pl3.eq_nil
      subst eg el
      have okq := ok0
      have hw8 := s8 _ _ hw7
      refine ⟨_, rfl, rq, dx3, _, rfl, hrp3, r_gives, rq, day, drv, [], legs, worth, [], [], rfl, rid3, okq, List.Perm.refl _, fun D1 y1 H9 s9 f9 py1 ds1 => ?_⟩
      have ey1 : y1 = [drv] := py1.eq_singleton
      subst ey1
      refine fun E1 hE1 => ?_
      have se1 := same_new (o := .dK []) hE1
      have hE1' : (upd H9 E1 (.dK [])) E1 = some (.dK []) := upd_same
      have hw10 := se1 _ _ (s9 _ _ hw8)
      generalize upd H9 E1 (.dK []) = H10 at se1 hE1' hw10
      refine ⟨_, rfl, wp, _, _, _, rfl, rfl, SqL.of hw10, rfl, ?_⟩
      intro m1 dm1 nm1 ndm1 nem1
      refine mk_in (n := 10) nm1 ndm1 (by decide) (by decide) (by decide) (by decide) fun H11 s11 hm1 => ⟨rfl, s11 _ _ hE1', [(Sum.inr drv, .ref m1)], rfl, by show 1 ≤ 15; decide, ?_⟩
      have z0 : Rat.divInt 0 1 = 0 := by decide +kernel
      rw [z0] at hm1
      have dE : DS C (upd H11 E1 (.dK (mergeK [] [(Sum.inr drv, .ref m1)]))) E1 [drv] (gv drv [] legs worth []) := ⟨fun _ => m1, upd_same, fun x hx => by
        rw [List.mem_singleton] at hx
        rw [gv_alone l1 hx]
        obtain ⟨dd, hh⟩ := hm1
        exact ⟨dd, by rw [upd_ne (show m1 ≠ E1 from fun q => by rw [q, s11 _ _ hE1'] at hh; cases hh)]; exact hh⟩⟩
      have hD1 : ∀ {a : Addr} {o : HO}, H9 a = some o → (upd H11 E1 (.dK (mergeK [] [(Sum.inr drv, .ref m1)]))) a = some o := fun {a o} e => by
        rw [upd_ne (ne_of_none e hE1)]
        exact s11 _ _ (se1 _ _ e)
      have ne1 : D1 ≠ E1 := fun q => by
        obtain ⟨_, e, _⟩ := ds1
        rw [q, hE1] at e
        cases e
      refine ⟨dictS (ds1.same fun a o e => hD1 e) dE ne1 (List.Perm.refl _), fun H12 e12 => ⟨false, rfl, iteF ?_⟩⟩
      have s12 : Same H8 H12 := fun a o e => e12 a o (hD1 (s9 a o e))
      clear dE hD1 ds1 hm1 s11 hE1' se1 hw10 s9
      have hw12 := s12 _ _ hw8
      refine ⟨_, rfl, rq, dx3, _, rfl, s12 _ _ hrp3, r_parts, rq, day, drv, [], legs, worth, [], [], rfl, rid3.same s12, okq, fun D2 y2 H13 s13 f13 py2 ds2 => ?_⟩
      have ey2 : y2 = [drv] := py2.eq_singleton
      subst ey2
      refine fun E2 hE2 => ?_
      have se2 := same_new (o := .dK []) hE2
      have hE2' : (upd H13 E2 (.dK [])) E2 = some (.dK []) := upd_same
      have hw14 := se2 _ _ (s13 _ _ hw12)
      generalize upd H13 E2 (.dK []) = H14 at se2 hE2' hw14
      refine ⟨_, rfl, wp, _, _, _, rfl, rfl, SqL.of hw14, rfl, _, rfl, wp, _, _, _, rfl, rfl, SqL.of hw14, rfl, ?_⟩
      intro m2 dm2 nm2 ndm2 nem2
      refine mk_in (n := 10) nm2 ndm2 (by decide) (by decide) (by decide) (by decide) fun H15 s15 hm2 => ⟨rfl, s15 _ _ hE2', [(Sum.inr drv, .ref m2)], rfl, by show 1 ≤ 15; decide, ?_⟩
      have dE2 : DS C (upd H15 E2 (.dK (mergeK [] [(Sum.inr drv, .ref m2)]))) E2 [drv] (val drv [] legs worth legs.toNat) := ⟨fun _ => m2, upd_same, fun x hx => by
        rw [List.mem_singleton] at hx
        rw [val_alone l1 hx]
        obtain ⟨dd, hh⟩ := hm2
        exact ⟨dd, by rw [upd_ne (show m2 ≠ E2 from fun q => by rw [q, s15 _ _ hE2'] at hh; cases hh)]; exact hh⟩⟩
      have hD2 : ∀ {a : Addr} {o : HO}, H13 a = some o → (upd H15 E2 (.dK (mergeK [] [(Sum.inr drv, .ref m2)]))) a = some o := fun {a o} e => by
        rw [upd_ne (ne_of_none e hE2)]
        exact s15 _ _ (se2 _ _ e)
      have ne2 : D2 ≠ E2 := fun q => by
        obtain ⟨_, e, _⟩ := ds2
        rw [q, hE2] at e
        cases e
      refine ⟨dictS (ds2.same fun a o e => hD2 e) dE2 ne2 (List.Perm.refl _), fun H16 e16 => ⟨false, rfl, iteF ?_⟩⟩
      have s16 : Same H8 H16 := fun a o e => e16 a o (hD2 (s13 a o (s12 a o e)))
      refine ⟨_, rfl, rq, dx3, _, rfl, s16 _ _ hrp3, rq, day, drv, [], legs, worth, [], rfl, rid3.same s16, by simp, fun H17 s17 => ⟨1, rfl, by decide, rfl, _, rfl, ?_⟩⟩
      rw [show (!decide (V.int ((1 : Nat) : Int) = V.int 1)) = false by decide]
      refine iteF ⟨_, _, _, _, rfl, ?_⟩
      exact (pen7.weak (by omega)).same ((s8.trans s16).trans s17)
    · rintro σ H' ⟨v2, v3, v4, v5, rfl, _⟩
      exact hQ H'
end
end K26
set_option Elab.async false
set_option linter.all false
set_option maxRecDepth 100000
set_option maxHeartbeats 0
namespace K26
open PySem PySem.Spec PyProof.Rows L2
open C8 (Cal Mak Met pe_c pe_mk pe_mt pe_mt0)
def fa : List He.Fa := [.glo "is_whole", .glo "is_between", .glo "is_name", .glo "is_day", .glo "common_part", .glo "total", .glo "is_rider", .glo "are_riders", .glo "are_late", .glo "first_wrong", .glo "_law_pen", .glo "_law_draw", .glo "_law_names", .glo "_law_way", .glo "_law_made", .glo "_law_legs", .glo "_law_parts_right", .glo "_law_gives_right", .glo "_law_times_right", .glo "law", .free "isinstance", .free "int", .free "bool", .free "str", .free "list", .free "range", .free "len", .free "all", .free "any", .free "max", .free "min", .free "abs", .free "set", .free "dict", .free "sorted", .free "tuple", .glo "Share", .cls "Share", .mkr "Share", .glo "Ride", .cls "Ride", .mkr "Ride", .noat "Share" "top", .noat "Share" "bottom", .noat "Ride" "day", .noat "Ride" "driver", .noat "Ride" "legs", .noat "Ride" "worth", .noat "Ride" "stretches", .noat "Ride" "latecomers", .meth "Share" "plus", .meth "Share" "less", .meth "Share" "times", .meth "Share" "over", .meth "Share" "below", .meth "Share" "__eq__", .meth "Ride" "folk", .meth "Ride" "parts", .meth "Ride" "gives", .meth "Ride" "__len__", .int "LAST_DAY" 1000000, .int "LATE_PART" 10, .int "LONGEST_NAME" 8, .int "MOST_LEGS" 12, .int "MOST_RIDERS" 11, .int "MOST_WORTH" 1000]
def xk (K : PySem.W.Frag) : Bool := (fun K => He.eqO (PySem.W.findIn K (.ref (He.ga K "Share")) "__ne__") (some (some (.builtin "object.__ne__"))) && GX.isB K (He.ga K "Share")) K
abbrev R : PySem.W.OpenRow := PySem.W.OpenLaw.row PySem.Challenge.rw_rideturns_k26_whole_what_a_ride_gives_is
abbrev hk : PySem.W.Hook := He.hookX 6 fa fn [] [] xk
def ob (s : PySem.W.SharedT) : He.AlX := He.obsX 6 fa fn [] [] xk (HandSHeadRun.getT s)
theorem ob_eq (s : PySem.W.SharedT) : ob s = hk.obs s.abs := He.obsX_eq (HandSHeadRun.getT_eq s)
abbrev loose : List Str := [("NoKind" : Str), ("Nought" : Str), ("NoRide" : Str), ("LAST_DAY" : Str), ("LONGEST_NAME" : Str), ("is_whole" : Str), ("is_between" : Str), ("is_name" : Str), ("is_day" : Str), ("common_part" : Str), ("Share" : Str), ("total" : Str), ("MOST_LEGS" : Str), ("MOST_RIDERS" : Str), ("MOST_WORTH" : Str), ("LATE_PART" : Str), ("is_rider" : Str), ("are_riders" : Str), ("are_late" : Str), ("first_wrong" : Str), ("Ride" : Str), ("_law_pen" : Str), ("_law_draw" : Str), ("_law_names" : Str), ("_law_way" : Str), ("_law_made" : Str), ("_law_legs" : Str), ("_law_parts_right" : Str), ("_law_gives_right" : Str), ("_law_times_right" : Str)]
theorem run_ (w : World) : HandSHeadRun.RunEq R (PySem.W.view R.prog [35]) hk ob 3000 loose w := by
  intro os
  kernel_rfl
theorem cal_of {P : Program} {w : World} {K : PySem.W.Frag} {mg : Str → Option Value} {base : Heap} {f : Addr} {fd : FuncData} {ps : List Str} {k : Nat} {x : Str} {sp : Sp} (F : FnOk P w K mg base CX0 k f fd ps sp) (g : mg x = some (.ref f)) (kp : PySem.W.keepIn K (.ref f) = true) (b : Binds K fd ps []) : Cal P w K mg base k x sp [] :=
  ⟨f, fd, ps, [], F, g, kp, b, .nil⟩
theorem met_of {P : Program} {w : World} {K : PySem.W.Frag} {mg : Str → Option Value} {base : Heap} {f C : Addr} {fd : FuncData} {ps : List Str} {k : Nat} {m : Str} {sp : Sp} (c : Cls K C) (h : Meth K C m f) (F : FnOk P w K mg base CX0 k f fd ps sp) (b : Binds K fd ps []) : Met P w K mg base k C m sp [] :=
  ⟨f, fd, ps, [], c, h, F, b, .nil⟩
theorem facts {P : Program} {w : World} {K : PySem.W.Frag} {h h0 : Heap} {mg : Str → Option Value} {f : Addr} (X : K.In h) (G : h.Ns mainGlobals mg) (hfa : mg ("law" : Str) = some (.ref f)) (c : He.SaysX fa fn [] [] xk w h0 K) :
    ∃ fd : FuncData, (∀ (s : Shared) (v : Value), BindsTo s fd ⟨[v], []⟩ [("_law_script", v)]) ∧ ∀ base : Heap, K.In base → base.Ns mainGlobals mg → FnOk P w K mg base CX0 8 f fd ["_law_script"] (spLaw K) := by
  have d := c.t.d
  have x := c.more
  have gl : ∀ (i : Nat) (x : Str), fa[i]? = some (.glo x) → mg x = some (.ref (He.ga K x)) := fun i x e => He.glo_ok X G (d.fact i e)
  have fr : ∀ (i : Nat) (x : Str), fa[i]? = some (.free x) → mg x = none := fun i x e => He.free_ok X G (d.fact i e)
  have me : ∀ (i : Nat) (C m : Str), fa[i]? = some (.meth C m) → Meth K (He.ga K C) m (He.ma K (He.ga K C) m) := fun i C m e => He.meth_ok (d.fact i e)
  have gl_is_whole := gl 0 "is_whole" rfl
  have gl_is_between := gl 1 "is_between" rfl
  have gl_is_name := gl 2 "is_name" rfl
  have gl_is_day := gl 3 "is_day" rfl
  have gl_common_part := gl 4 "common_part" rfl
  have gl_total := gl 5 "total" rfl
  have gl_is_rider := gl 6 "is_rider" rfl
  have gl_are_riders := gl 7 "are_riders" rfl
  have gl_are_late := gl 8 "are_late" rfl
  have gl_first_wrong := gl 9 "first_wrong" rfl
  have gl__law_pen := gl 10 "_law_pen" rfl
  have gl__law_draw := gl 11 "_law_draw" rfl
  have gl__law_names := gl 12 "_law_names" rfl
  have gl__law_way := gl 13 "_law_way" rfl
  have gl__law_made := gl 14 "_law_made" rfl
  have gl__law_legs := gl 15 "_law_legs" rfl
  have gl__law_parts_right := gl 16 "_law_parts_right" rfl
  have gl__law_gives_right := gl 17 "_law_gives_right" rfl
  have gl__law_times_right := gl 18 "_law_times_right" rfl
  have gl_law := gl 19 "law" rfl
  have fr_isinstance := fr 20 "isinstance" rfl
  have fr_int := fr 21 "int" rfl
  have fr_bool := fr 22 "bool" rfl
  have fr_str := fr 23 "str" rfl
  have fr_list := fr 24 "list" rfl
  have fr_range := fr 25 "range" rfl
  have fr_len := fr 26 "len" rfl
  have fr_all := fr 27 "all" rfl
  have fr_any := fr 28 "any" rfl
  have fr_max := fr 29 "max" rfl
  have fr_min := fr 30 "min" rfl
  have fr_abs := fr 31 "abs" rfl
  have fr_set := fr 32 "set" rfl
  have fr_dict := fr 33 "dict" rfl
  have fr_sorted := fr 34 "sorted" rfl
  have fr_tuple := fr 35 "tuple" rfl
  have gl_Share := gl 36 "Share" rfl
  have cls_Share := He.cls_ok (d.fact 37 (f := .cls "Share") rfl)
  have mk_Share := He.mkr_ok (d.fact 38 (f := .mkr "Share") rfl)
  have gl_Ride := gl 39 "Ride" rfl
  have cls_Ride := He.cls_ok (d.fact 40 (f := .cls "Ride") rfl)
  have mk_Ride := He.mkr_ok (d.fact 41 (f := .mkr "Ride") rfl)
  have no_Share_top := He.noat_ok (d.fact 42 (f := .noat "Share" "top") rfl)
  have no_Share_bottom := He.noat_ok (d.fact 43 (f := .noat "Share" "bottom") rfl)
  have no_Ride_day := He.noat_ok (d.fact 44 (f := .noat "Ride" "day") rfl)
  have no_Ride_driver := He.noat_ok (d.fact 45 (f := .noat "Ride" "driver") rfl)
  have no_Ride_legs := He.noat_ok (d.fact 46 (f := .noat "Ride" "legs") rfl)
  have no_Ride_worth := He.noat_ok (d.fact 47 (f := .noat "Ride" "worth") rfl)
  have no_Ride_stretches := He.noat_ok (d.fact 48 (f := .noat "Ride" "stretches") rfl)
  have no_Ride_latecomers := He.noat_ok (d.fact 49 (f := .noat "Ride" "latecomers") rfl)
  have me_Share_plus := me 50 "Share" "plus" rfl
  have me_Share_less := me 51 "Share" "less" rfl
  have me_Share_times := me 52 "Share" "times" rfl
  have me_Share_over := me 53 "Share" "over" rfl
  have me_Share_below := me 54 "Share" "below" rfl
  have me_Share_eq := me 55 "Share" "__eq__" rfl
  have me_Ride_folk := me 56 "Ride" "folk" rfl
  have me_Ride_parts := me 57 "Ride" "parts" rfl
  have me_Ride_gives := me 58 "Ride" "gives" rfl
  have me_Ride_len := me 59 "Ride" "__len__" rfl
  have val_LAST_DAY := He.int_ok X G (d.fact 60 (f := .int "LAST_DAY" 1000000) rfl)
  have val_LATE_PART := He.int_ok X G (d.fact 61 (f := .int "LATE_PART" 10) rfl)
  have val_LONGEST_NAME := He.int_ok X G (d.fact 62 (f := .int "LONGEST_NAME" 8) rfl)
  have val_MOST_LEGS := He.int_ok X G (d.fact 63 (f := .int "MOST_LEGS" 12) rfl)
  have val_MOST_RIDERS := He.int_ok X G (d.fact 64 (f := .int "MOST_RIDERS" 11) rfl)
  have val_MOST_WORTH := He.int_ok X G (d.fact 65 (f := .int "MOST_WORTH" 1000) rfl)
  obtain ⟨fd_is_whole, D_is_whole⟩ := d.def_ 3 (d := d_is_whole) rfl
  obtain ⟨fd_is_between, D_is_between⟩ := d.def_ 4 (d := d_is_between) rfl
  obtain ⟨fd_is_name, D_is_name⟩ := d.def_ 5 (d := d_is_name) rfl
  obtain ⟨fd_is_day, D_is_day⟩ := d.def_ 6 (d := d_is_day) rfl
  obtain ⟨fd_common_part, D_common_part⟩ := d.def_ 7 (d := d_common_part) rfl
  obtain ⟨fd_Share_init, D_Share_init⟩ := d.def_ 8 (d := d_Share_init) rfl
  obtain ⟨fd_Share_eq, D_Share_eq⟩ := d.def_ 9 (d := d_Share_eq) rfl
  obtain ⟨fd_Share_plus, D_Share_plus⟩ := d.def_ 12 (d := d_Share_plus) rfl
  obtain ⟨fd_Share_less, D_Share_less⟩ := d.def_ 13 (d := d_Share_less) rfl
  obtain ⟨fd_Share_times, D_Share_times⟩ := d.def_ 14 (d := d_Share_times) rfl
  obtain ⟨fd_Share_over, D_Share_over⟩ := d.def_ 15 (d := d_Share_over) rfl
  obtain ⟨fd_Share_below, D_Share_below⟩ := d.def_ 16 (d := d_Share_below) rfl
  obtain ⟨fd_total, D_total⟩ := d.def_ 18 (d := d_total) rfl
  obtain ⟨fd_is_rider, D_is_rider⟩ := d.def_ 19 (d := d_is_rider) rfl
  obtain ⟨fd_are_riders, D_are_riders⟩ := d.def_ 20 (d := d_are_riders) rfl
  obtain ⟨fd_are_late, D_are_late⟩ := d.def_ 21 (d := d_are_late) rfl
  obtain ⟨fd_first_wrong, D_first_wrong⟩ := d.def_ 22 (d := d_first_wrong) rfl
  obtain ⟨fd_Ride_init, D_Ride_init⟩ := d.def_ 23 (d := d_Ride_init) rfl
  obtain ⟨fd_Ride_len, D_Ride_len⟩ := d.def_ 24 (d := d_Ride_len) rfl
  obtain ⟨fd_Ride_folk, D_Ride_folk⟩ := d.def_ 30 (d := d_Ride_folk) rfl
  obtain ⟨fd_Ride_parts, D_Ride_parts⟩ := d.def_ 31 (d := d_Ride_parts) rfl
  obtain ⟨fd_Ride_gives, D_Ride_gives⟩ := d.def_ 32 (d := d_Ride_gives) rfl
  obtain ⟨fd_l_pen, D_l_pen⟩ := d.def_ 33 (d := d_l_pen) rfl
  obtain ⟨fd_l_draw, D_l_draw⟩ := d.def_ 34 (d := d_l_draw) rfl
  obtain ⟨fd_l_names, D_l_names⟩ := d.def_ 35 (d := d_l_names) rfl
  obtain ⟨fd_l_way, D_l_way⟩ := d.def_ 36 (d := d_l_way) rfl
  obtain ⟨fd_l_made, D_l_made⟩ := d.def_ 37 (d := d_l_made) rfl
  obtain ⟨fd_l_legs, D_l_legs⟩ := d.def_ 38 (d := d_l_legs) rfl
  obtain ⟨fd_l_parts_right, D_l_parts_right⟩ := d.def_ 39 (d := d_l_parts_right) rfl
  obtain ⟨fd_l_gives_right, D_l_gives_right⟩ := d.def_ 40 (d := d_l_gives_right) rfl
  obtain ⟨fd_l_times_right, D_l_times_right⟩ := d.def_ 41 (d := d_l_times_right) rfl
  obtain ⟨fd_law, D_law⟩ := d.def_ 42 (d := d_law) rfl
  have e := hfa.symm.trans gl_law
  cases e
  have bL := FunD.bindsA (ps := ["_law_script"]) D_law fun _ _ _ _ _ _ us hl => match us, hl with | [_], _ => rfl
  refine ⟨fd_law, fun s v => bL s [v] rfl, fun base _ _ => ?_⟩
  have b_is_whole : Binds K fd_is_whole ["thing"] [] := D_is_whole.bindsN fun _ _ _ _ _ _ us hl => match us, hl with | [_], _ => rfl
  have b_is_between : Binds K fd_is_between ["thing", "low", "high"] [] := D_is_between.bindsN fun _ _ _ _ _ _ us hl => match us, hl with | [_, _, _], _ => rfl
  have b_is_name : Binds K fd_is_name ["thing"] [] := D_is_name.bindsN fun _ _ _ _ _ _ us hl => match us, hl with | [_], _ => rfl
  have b_is_day : Binds K fd_is_day ["thing"] [] := D_is_day.bindsN fun _ _ _ _ _ _ us hl => match us, hl with | [_], _ => rfl
  have b_common_part : Binds K fd_common_part ["one", "other"] [] := D_common_part.bindsN fun _ _ _ _ _ _ us hl => match us, hl with | [_, _], _ => rfl
  have b_Share_init : Binds K fd_Share_init ["self", "top", "bottom"] [] := by
    obtain ⟨ds, h1, h2⟩ := D_Share_init.binds1 (ps := ["self", "top", "bottom"]) 3 1 (List.cons_ne_nil _ _) rfl (fun T kV doc pm an cdv ct us its hl h1 => match us, hl, its, h1 with | [_, _, _], _, [_], _ => ⟨_, rfl, rfl⟩)
    cases h1
    exact h2
  obtain ⟨ds1_Share_init, v1_Share_init, b1_Share_init⟩ := D_Share_init.binds1 (ps := ["self", "top", "bottom"]) 2 0 (List.cons_ne_nil _ _) rfl (fun T kV doc pm an cdv ct us its hl h1 => match us, hl, its, h1 with | [_, _], _, [_], _ => ⟨_, rfl, rfl⟩)
  have b_Share_eq : Binds K fd_Share_eq ["self", "other"] [] := D_Share_eq.bindsN fun _ _ _ _ _ _ us hl => match us, hl with | [_, _], _ => rfl
  have b_Share_plus : Binds K fd_Share_plus ["self", "other"] [] := D_Share_plus.bindsN fun _ _ _ _ _ _ us hl => match us, hl with | [_, _], _ => rfl
  have b_Share_less : Binds K fd_Share_less ["self", "other"] [] := D_Share_less.bindsN fun _ _ _ _ _ _ us hl => match us, hl with | [_, _], _ => rfl
  have b_Share_times : Binds K fd_Share_times ["self", "many"] [] := D_Share_times.bindsN fun _ _ _ _ _ _ us hl => match us, hl with | [_, _], _ => rfl
  have b_Share_over : Binds K fd_Share_over ["self", "many"] [] := D_Share_over.bindsN fun _ _ _ _ _ _ us hl => match us, hl with | [_, _], _ => rfl
  have b_Share_below : Binds K fd_Share_below ["self", "other"] [] := D_Share_below.bindsN fun _ _ _ _ _ _ us hl => match us, hl with | [_, _], _ => rfl
  have b_total : Binds K fd_total ["shares", "start"] [] := by
    obtain ⟨ds, h1, h2⟩ := D_total.binds1 (ps := ["shares", "start"]) 2 1 (List.cons_ne_nil _ _) rfl (fun T kV doc pm an cdv ct us its hl h1 => match us, hl, its, h1 with | [_, _], _, [_], _ => ⟨_, rfl, rfl⟩)
    cases h1
    exact h2
  obtain ⟨ds1_total, v1_total, b1_total⟩ := D_total.binds1 (ps := ["shares", "start"]) 1 0 (List.cons_ne_nil _ _) rfl (fun T kV doc pm an cdv ct us its hl h1 => match us, hl, its, h1 with | [_], _, [_], _ => ⟨_, rfl, rfl⟩)
  have b_is_rider : Binds K fd_is_rider ["thing", "legs"] [] := D_is_rider.bindsN fun _ _ _ _ _ _ us hl => match us, hl with | [_, _], _ => rfl
  have b_are_riders : Binds K fd_are_riders ["thing", "driver", "legs"] [] := D_are_riders.bindsN fun _ _ _ _ _ _ us hl => match us, hl with | [_, _, _], _ => rfl
  have b_are_late : Binds K fd_are_late ["thing", "riders"] [] := D_are_late.bindsN fun _ _ _ _ _ _ us hl => match us, hl with | [_, _], _ => rfl
  have b_first_wrong : Binds K fd_first_wrong ["day", "driver", "riders", "legs", "worth", "late"] [] := D_first_wrong.bindsN fun _ _ _ _ _ _ us hl => match us, hl with | [_, _, _, _, _, _], _ => rfl
  have b_Ride_init : Binds K fd_Ride_init ["self", "day", "driver", "riders", "legs", "worth", "late"] [] := by
    obtain ⟨ds, h1, h2⟩ := D_Ride_init.binds1 (ps := ["self", "day", "driver", "riders", "legs", "worth", "late"]) 7 4 (List.cons_ne_nil _ _) rfl (fun T kV doc pm an cdv ct us its hl h1 => match us, hl, its, h1 with | [_, _, _, _, _, _, _], _, [_, _, _, _], _ => ⟨_, rfl, rfl⟩)
    cases h1
    exact h2
  obtain ⟨ds4_Ride_init, v4_Ride_init, b4_Ride_init⟩ := D_Ride_init.binds1 (ps := ["self", "day", "driver", "riders", "legs", "worth", "late"]) 3 0 (List.cons_ne_nil _ _) rfl (fun T kV doc pm an cdv ct us its hl h1 => match us, hl, its, h1 with | [_, _, _], _, [_, _, _, _], _ => ⟨_, rfl, rfl⟩)
  obtain ⟨ds3_Ride_init, v3_Ride_init, b3_Ride_init⟩ := D_Ride_init.binds1 (ps := ["self", "day", "driver", "riders", "legs", "worth", "late"]) 4 1 (List.cons_ne_nil _ _) rfl (fun T kV doc pm an cdv ct us its hl h1 => match us, hl, its, h1 with | [_, _, _, _], _, [_, _, _, _], _ => ⟨_, rfl, rfl⟩)
  obtain ⟨ds2_Ride_init, v2_Ride_init, b2_Ride_init⟩ := D_Ride_init.binds1 (ps := ["self", "day", "driver", "riders", "legs", "worth", "late"]) 5 2 (List.cons_ne_nil _ _) rfl (fun T kV doc pm an cdv ct us its hl h1 => match us, hl, its, h1 with | [_, _, _, _, _], _, [_, _, _, _], _ => ⟨_, rfl, rfl⟩)
  obtain ⟨ds1_Ride_init, v1_Ride_init, b1_Ride_init⟩ := D_Ride_init.binds1 (ps := ["self", "day", "driver", "riders", "legs", "worth", "late"]) 6 3 (List.cons_ne_nil _ _) rfl (fun T kV doc pm an cdv ct us its hl h1 => match us, hl, its, h1 with | [_, _, _, _, _, _], _, [_, _, _, _], _ => ⟨_, rfl, rfl⟩)
  have b_Ride_len : Binds K fd_Ride_len ["self"] [] := D_Ride_len.bindsN fun _ _ _ _ _ _ us hl => match us, hl with | [_], _ => rfl
  have b_Ride_folk : Binds K fd_Ride_folk ["self"] [] := D_Ride_folk.bindsN fun _ _ _ _ _ _ us hl => match us, hl with | [_], _ => rfl
  have b_Ride_parts : Binds K fd_Ride_parts ["self"] [] := D_Ride_parts.bindsN fun _ _ _ _ _ _ us hl => match us, hl with | [_], _ => rfl
  have b_Ride_gives : Binds K fd_Ride_gives ["self"] [] := D_Ride_gives.bindsN fun _ _ _ _ _ _ us hl => match us, hl with | [_], _ => rfl
  have b_l_pen : Binds K fd_l_pen ["_law_script"] [] := D_l_pen.bindsN fun _ _ _ _ _ _ us hl => match us, hl with | [_], _ => rfl
  have b_l_draw : Binds K fd_l_draw ["_law_pen_here", "_law_many"] [] := D_l_draw.bindsN fun _ _ _ _ _ _ us hl => match us, hl with | [_, _], _ => rfl
  have b_l_names : Binds K fd_l_names ["_law_pen_here", "_law_many"] [] := D_l_names.bindsN fun _ _ _ _ _ _ us hl => match us, hl with | [_, _], _ => rfl
  have b_l_way : Binds K fd_l_way ["_law_pen_here"] [] := D_l_way.bindsN fun _ _ _ _ _ _ us hl => match us, hl with | [_], _ => rfl
  have b_l_made : Binds K fd_l_made ["_law_way_here"] [] := D_l_made.bindsN fun _ _ _ _ _ _ us hl => match us, hl with | [_], _ => rfl
  have b_l_legs : Binds K fd_l_legs ["_law_way_here", "_law_called"] [] := D_l_legs.bindsN fun _ _ _ _ _ _ us hl => match us, hl with | [_, _], _ => rfl
  have b_l_parts_right : Binds K fd_l_parts_right ["_law_ride", "_law_way_here"] [] := D_l_parts_right.bindsN fun _ _ _ _ _ _ us hl => match us, hl with | [_, _], _ => rfl
  have b_l_gives_right : Binds K fd_l_gives_right ["_law_ride", "_law_way_here"] [] := D_l_gives_right.bindsN fun _ _ _ _ _ _ us hl => match us, hl with | [_, _], _ => rfl
  have b_l_times_right : Binds K fd_l_times_right ["_law_pen_here", "_law_ride", "_law_way_here"] [] := D_l_times_right.bindsN fun _ _ _ _ _ _ us hl => match us, hl with | [_, _, _], _ => rfl
  have b_law : Binds K fd_law ["_law_script"] [] := D_law.bindsN fun _ _ _ _ _ _ us hl => match us, hl with | [_], _ => rfl
  unfold xk at x
  simp only [Bool.and_eq_true] at x
  obtain ⟨x1, x5⟩ := x
  unfold GX.isB at x5
  simp only [Bool.and_eq_true, decide_eq_true_eq] at x5
  obtain ⟨y1, y2, y3, y4⟩ := x5
  have IC : IsC K (He.ga K "Share") := ⟨He.eqO_ok y1, He.eqO_ok y2, y3, y4, by unfold PySem.W.kitOne; rw [if_pos (beq_self_eq_true _)]⟩
  have B : Bl mg := ⟨fr_isinstance, fr_int, fr_bool, fr_str, fr_list, fr_range, fr_len, fr_all, fr_any, fr_max, fr_min⟩
  have B2 : Bl2 mg := ⟨fr_abs, fr_set, fr_dict, fr_sorted, fr_tuple⟩
  have T : Cl K mg (He.ga K "Share") := ⟨cls_Share, no_Share_top, no_Share_bottom, gl_Share⟩
  have TR : ClR K mg (He.ga K "Ride") := ⟨cls_Ride, no_Ride_day, no_Ride_driver, no_Ride_legs, no_Ride_worth, no_Ride_stretches, no_Ride_latecomers, gl_Ride⟩
  have cW : CalW P w K mg base := cal_of (ok_whole D_is_whole B) gl_is_whole D_is_whole.kp b_is_whole
  have cB : CalB P w K mg base := cal_of (ok_between D_is_between cW) gl_is_between D_is_between.kp b_is_between
  have cNa := cal_of (P := P) (w := w) (base := base) (ok_name D_is_name B val_LONGEST_NAME) gl_is_name D_is_name.kp b_is_name
  have cDy := cal_of (ok_day D_is_day cB val_LAST_DAY) gl_is_day D_is_day.kp b_is_day
  have cG : CalG P w K mg base := cal_of (ok_gcd D_common_part B2.abs) gl_common_part D_common_part.kp b_common_part
  have MS : MakS P w K mg base (He.ga K "Share") := ⟨_, _, _, _, mk_Share, ok_init D_Share_init cW cG T, T.g, b_Share_init, .nil⟩
  have M1 : MakS1 P w K mg base (He.ga K "Share") := ⟨_, _, _, _, mk_Share, ok_init D_Share_init cW cG T, T.g, b1_Share_init, v1_Share_init⟩
  have mP := met_of T.cl me_Share_plus ((ok_plus D_Share_plus MS T).imp fun _ _ _ _ => plusR) b_Share_plus
  have mL := met_of T.cl me_Share_less ((ok_less D_Share_less MS T).imp fun _ _ _ _ => lessR) b_Share_less
  have mO := met_of T.cl me_Share_over ((ok_over D_Share_over MS T).imp fun _ _ _ _ => overR) b_Share_over
  have mT := met_of T.cl me_Share_times ((ok_times D_Share_times MS T).imp fun _ _ _ _ => timesR) b_Share_times
  have mBe := met_of (P := P) (w := w) (base := base) T.cl me_Share_below ((ok_below D_Share_below T).imp fun _ _ _ _ => belowR) b_Share_below
  have NS : NeS P w K mg base (He.ga K "Share") := ⟨⟨_, _, _, me_Share_eq.at_, me_Share_eq.fn, ok_eq D_Share_eq B T IC, b_Share_eq⟩, He.eqO_ok x1, IC.hm⟩
  have cT : Cal P w K mg base 5 "total" (spTotal K (He.ga K "Share")) [.int 0] := ⟨_, _, _, _, ok_total D_total M1 mP, gl_total, D_total.kp, b1_total, v1_total⟩
  have cRi := cal_of (ok_rider D_is_rider B B2 cW cNa) gl_is_rider D_is_rider.kp b_is_rider
  have cRs := cal_of (ok_riders D_are_riders B B2 val_MOST_RIDERS cRi) gl_are_riders D_are_riders.kp b_are_riders
  have cLt := cal_of (P := P) (w := w) (base := base) (ok_late D_are_late B B2) gl_are_late D_are_late.kp b_are_late
  have cFW := cal_of (ok_fw D_first_wrong val_MOST_LEGS val_MOST_WORTH cDy cNa cB cRs cLt) gl_first_wrong D_first_wrong.kp b_first_wrong
  have FR := ok_ri D_Ride_init B2 TR cFW
  have MR : Mak P w K mg base 5 "Ride" (He.ga K "Ride") (spRI (He.ga K "Ride")) [] := ⟨_, _, _, _, mk_Ride, FR, TR.g, b_Ride_init, .nil⟩
  have MR1 : Mak P w K mg base 5 "Ride" (He.ga K "Ride") (spRI (He.ga K "Ride")) [.non] := ⟨_, _, _, _, mk_Ride, FR, TR.g, b1_Ride_init, v1_Ride_init⟩
  obtain ⟨iR, kR⟩ := KW.kb1 (ps := ["self", "day", "driver", "riders", "legs", "worth", "late"]) D_Ride_init 3 ["legs", "worth"] (fun us its ws => us ++ (its.take 1 ++ (ws ++ its.drop 3))) (List.cons_ne_nil _ _) (fun r d s => r.append ((d.take 1).append (s.append (d.drop 3)))) (fun T kV doc pm an cdv ct us its ws h1 h2 h3 => match us, h1, its, h2, ws, h3 with | [_, _, _], _, [_, _, _, _], _, [_, _], _ => ⟨_, rfl, rfl⟩)
  have mFo := met_of (P := P) (w := w) (base := base) TR.cl me_Ride_folk (ok_fo D_Ride_folk B2 TR) b_Ride_folk
  have mPt := met_of TR.cl me_Ride_parts (ok_pt D_Ride_parts B TR T M1 MS mFo mP) b_Ride_parts
  have mGv := met_of TR.cl me_Ride_gives (ok_gv D_Ride_gives B TR val_LATE_PART M1 MS mFo mPt mP mL mO) b_Ride_gives
  have sLn : OW.Spc P w K mg base 2 (He.ga K "Ride") "__len__" (spLn (He.ga K "Ride")) := ⟨_, _, _, me_Ride_len.at_, me_Ride_len.fn, ok_ln D_Ride_len B mFo, b_Ride_len⟩
  have cPn := cal_of (P := P) (w := w) (base := base) (ok_pen D_l_pen B) gl__law_pen D_l_pen.kp b_l_pen
  have cD : CalD P w K mg base := cal_of (ok_draw D_l_draw B) gl__law_draw D_l_draw.kp b_l_draw
  have cNm := cal_of (ok_names D_l_names B cD) gl__law_names D_l_names.kp b_l_names
  have cWy := cal_of (ok_way D_l_way B cD cNm) gl__law_way D_l_way.kp b_l_way
  have cMd := cal_of (ok_md D_l_made MR) gl__law_made D_l_made.kp b_l_made
  have cLe := cal_of (P := P) (w := w) (base := base) (ok_legs D_l_legs B) gl__law_legs D_l_legs.kp b_l_legs
  have cPR := cal_of (ok_pr D_l_parts_right B B2 TR T M1 NS mFo mPt mBe cT cLe) gl__law_parts_right D_l_parts_right.kp b_l_parts_right
  have cGR := cal_of (ok_gr D_l_gives_right B B2 TR T M1 MS NS mFo mPt mGv mP mL mT MR MR1 cT) gl__law_gives_right D_l_gives_right.kp b_l_gives_right
  have cTR := cal_of (ok_tr D_l_times_right B B2 TR T NS mFo mPt mGv mT MR cD) gl__law_times_right D_l_times_right.kp b_l_times_right
  exact ok_law D_law B B2 TR T M1 NS mPt mGv sLn mk_Ride FR kR cPn cWy cMd cPR cGR cTR
end K26
open PySem PySem.W PySem.Calls PyProof.Rows
set_option maxRecDepth 100000 in
set_option maxHeartbeats 0 in
theorem PySem.Challenge.cw_rideturns_k26_whole_what_a_ride_gives_is_holds : PySem.Challenge.rw_rideturns_k26_whole_what_a_ride_gives_is.Holds := by
  w_on; o_law
  refine HandSHeadRun.head_any (r := OpenLaw.row PySem.Challenge.rw_rideturns_k26_whole_what_a_ride_gives_is) (q := view (OpenLaw.row PySem.Challenge.rw_rideturns_k26_whole_what_a_ride_gives_is).prog [35]) (H := K26.hk) (ob := K26.ob) (M := 3000) (loose := K26.loose) (d := HandSHeadRun.topDef (OpenLaw.row PySem.Challenge.rw_rideturns_k26_whole_what_a_ride_gives_is).prog 35) (kwd := []) K26.ob_eq
    (by kernel_rfl) (fun s => by kernel_rfl) K26.run_ (by kernel_rfl) (by kernel_rfl) (by kernel_rfl) (by rfl) (by first | assumption | decide +kernel) (by decide +kernel) ⟨rfl, rfl, rfl, rfl, rfl, by decide +kernel⟩ ?hw ?hc
  case hw => w_witness2
  case hc =>
    refine L2.walk_ofE (l := PySem.Challenge.rw_rideturns_k26_whole_what_a_ride_gives_is) (n := 63) (k := 8) (x := "_law_script") (CX := L2.CX0) rfl (by decide) (by kernel_rfl) ⟨rfl, by decide, by decide⟩ ?F (fun _ _ _ _ z => z)
    intro w mg fa h Y G hmg0
    obtain ⟨K, KX, c⟩ := Y
    have hmg : mg ("law" : PySem.Str) = some (.ref fa) := by
      have e : (HandSHeadRun.topDef (OpenLaw.row PySem.Challenge.rw_rideturns_k26_whole_what_a_ride_gives_is).prog 35).name = ("law" : PySem.Str) := by kernel_rfl
      rw [← e]
      exact hmg0
    obtain ⟨fd, hb, hF⟩ := K26.facts (P := (PySem.Challenge.rw_rideturns_k26_whole_what_a_ride_gives_is).prog) (w := w) KX G hmg c
    exact ⟨K, fd, K26.spLaw K, KX, hb, fun H a ns hl _ hS => ⟨a, ns, rfl, hS, hl, fun _ => rfl⟩, hF⟩
