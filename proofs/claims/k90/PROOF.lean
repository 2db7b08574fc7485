import PyProof.Rows.All
import Wide.All
import OpenK.AllK
import Wide.FinOn
import HandS.ForMost
import HandS.ForExc
import HandS.Defaults
import HandS.Codes
import HandS.IsInst
import HandS.Wide
import HandS.Flow
import HandS.Evl
import HandS.Steps
import HandS.ExcField
import HandS.Head0
import HandS.Head1
import HandS.Head2
import HandS.HeadEnd
import HandS.HeadHook1
import HandS.HeadHook2
import HandS.HeadHook3
import HandS.HeadHook4
import KE.KExcInit
import HandS.ExcInit
import PyProof.Rows.FactsExc_KeyError
import PyProof.ExcBaseAll.LookupError
import KE.KIsAll
import KE.KTryMore
import HandS.ExcIs
import HandS.ExcValue
import HandS.MakeKw
import HandS.MakeKwOnly
import PyProof.ExcBaseAll.TypeError
import PyProof.ExcBaseAll.ZeroDivisionError
import PyProof.ExcBaseAll.ArithmeticError
import PyProof.ExcBaseAll.ValueError
import PyProof.ExcBaseAll.IndexError
import PyProof.ExcBaseAll.OverflowError
import PyProof.ExcBaseAll.RuntimeError
import PyProof.ExcBaseAll.NotImplementedError
import PyProof.ExcBaseAll.Exception
import KE.KEqSeq
import HandS.Dict
import HandS.List
import HandS.Call
import PyProof.DictUpdate
import HandS.Walk
import HandS.Zip
import HandS.Text
import KE.IntTextLaws
import PyProof.StrLawsAffix
import HandS.FStr
import HandS.Style
import HandS.Comp
import HandS.More
import PyProof.StrOps2
import KE.KCallOwn
import PyProof.ReprRoads
import PyProof.ReprDict
import HandS.Iter
import HandS.OwnEq
import PyProof.EqKinds
import PyProof.NeKinds
import PyProof.FactsAll.dict_1
import HandS.ListEq
import HandS.Deep
import KE.KEqNest
import PyProof.ReprLen
import HandS.RaiseMore
import HandS.Words
import PySem.Challenge.RW_rideturns_k90_refusals_made_by_hand
set_option Elab.async false
set_option linter.all false
set_option maxRecDepth 100000
set_option maxHeartbeats 4000000
namespace K90
open PySem PySem.Spec PyProof.Rows L2
def top (i : Nat) : Stmt := PySem.Challenge.pw_rideturns_k90_refusals_made_by_hand.main.body.getD i (.Pass ⟨0, 0, 0, 0⟩)
abbrev s__wall : Stmt := top 0
abbrev N__wall : List Str := ["k"]
theorem sc__wall : FnScope N__wall ["k"] (defScope s__wall) := ⟨rfl, rfl, rfl, by decide +kernel, rfl, by decide +kernel, by decide +kernel⟩
def d__wall : He.DefD := ⟨("_wall", none), "_wall", "_wall", defArgs s__wall, defBody s__wall, defScope s__wall, [], []⟩
abbrev s_NoKind_init : Stmt := inClass (top 2) 0
abbrev N_NoKind_init : List Str := ["self", "thing"]
theorem sc_NoKind_init : FnScope N_NoKind_init ["self", "thing"] (defScope s_NoKind_init) := ⟨rfl, rfl, rfl, by decide +kernel, rfl, by decide +kernel, by decide +kernel⟩
def d_NoKind_init : He.DefD := ⟨("NoKind", some "__init__"), "__init__", "NoKind.__init__", defArgs s_NoKind_init, defBody s_NoKind_init, defScope s_NoKind_init, [], []⟩
abbrev s_Nought_init : Stmt := inClass (top 3) 0
abbrev N_Nought_init : List Str := ["self", "top"]
theorem sc_Nought_init : FnScope N_Nought_init ["self", "top"] (defScope s_Nought_init) := ⟨rfl, rfl, rfl, by decide +kernel, rfl, by decide +kernel, by decide +kernel⟩
def d_Nought_init : He.DefD := ⟨("Nought", some "__init__"), "__init__", "Nought.__init__", defArgs s_Nought_init, defBody s_Nought_init, defScope s_Nought_init, [], []⟩
abbrev s_NoShare_init : Stmt := inClass (top 4) 0
abbrev N_NoShare_init : List Str := ["self", "text"]
theorem sc_NoShare_init : FnScope N_NoShare_init ["self", "text"] (defScope s_NoShare_init) := ⟨rfl, rfl, rfl, by decide +kernel, rfl, by decide +kernel, by decide +kernel⟩
def d_NoShare_init : He.DefD := ⟨("NoShare", some "__init__"), "__init__", "NoShare.__init__", defArgs s_NoShare_init, defBody s_NoShare_init, defScope s_NoShare_init, [], []⟩
abbrev s_Uneven_init : Stmt := inClass (top 5) 0
abbrev N_Uneven_init : List Str := ["self", "rest"]
theorem sc_Uneven_init : FnScope N_Uneven_init ["self", "rest"] (defScope s_Uneven_init) := ⟨rfl, rfl, rfl, by decide +kernel, rfl, by decide +kernel, by decide +kernel⟩
def d_Uneven_init : He.DefD := ⟨("Uneven", some "__init__"), "__init__", "Uneven.__init__", defArgs s_Uneven_init, defBody s_Uneven_init, defScope s_Uneven_init, [], []⟩
abbrev s_BadName_init : Stmt := inClass (top 6) 0
abbrev N_BadName_init : List Str := ["self", "name"]
theorem sc_BadName_init : FnScope N_BadName_init ["self", "name"] (defScope s_BadName_init) := ⟨rfl, rfl, rfl, by decide +kernel, rfl, by decide +kernel, by decide +kernel⟩
def d_BadName_init : He.DefD := ⟨("BadName", some "__init__"), "__init__", "BadName.__init__", defArgs s_BadName_init, defBody s_BadName_init, defScope s_BadName_init, [], []⟩
abbrev s_NoNumber_init : Stmt := inClass (top 7) 0
abbrev N_NoNumber_init : List Str := ["self", "thing"]
theorem sc_NoNumber_init : FnScope N_NoNumber_init ["self", "thing"] (defScope s_NoNumber_init) := ⟨rfl, rfl, rfl, by decide +kernel, rfl, by decide +kernel, by decide +kernel⟩
def d_NoNumber_init : He.DefD := ⟨("NoNumber", some "__init__"), "__init__", "NoNumber.__init__", defArgs s_NoNumber_init, defBody s_NoNumber_init, defScope s_NoNumber_init, [], []⟩
abbrev s_NoRide_init : Stmt := inClass (top 8) 0
abbrev N_NoRide_init : List Str := ["self", "reason"]
theorem sc_NoRide_init : FnScope N_NoRide_init ["self", "reason"] (defScope s_NoRide_init) := ⟨rfl, rfl, rfl, by decide +kernel, rfl, by decide +kernel, by decide +kernel⟩
def d_NoRide_init : He.DefD := ⟨("NoRide", some "__init__"), "__init__", "NoRide.__init__", defArgs s_NoRide_init, defBody s_NoRide_init, defScope s_NoRide_init, [], []⟩
abbrev s_NoText_init : Stmt := inClass (top 9) 0
abbrev N_NoText_init : List Str := ["self", "row"]
theorem sc_NoText_init : FnScope N_NoText_init ["self", "row"] (defScope s_NoText_init) := ⟨rfl, rfl, rfl, by decide +kernel, rfl, by decide +kernel, by decide +kernel⟩
def d_NoText_init : He.DefD := ⟨("NoText", some "__init__"), "__init__", "NoText.__init__", defArgs s_NoText_init, defBody s_NoText_init, defScope s_NoText_init, [], []⟩
abbrev s_NoName_init : Stmt := inClass (top 10) 0
abbrev N_NoName_init : List Str := ["self", "name"]
theorem sc_NoName_init : FnScope N_NoName_init ["self", "name"] (defScope s_NoName_init) := ⟨rfl, rfl, rfl, by decide +kernel, rfl, by decide +kernel, by decide +kernel⟩
def d_NoName_init : He.DefD := ⟨("NoName", some "__init__"), "__init__", "NoName.__init__", defArgs s_NoName_init, defBody s_NoName_init, defScope s_NoName_init, [], []⟩
abbrev s_NoDay_init : Stmt := inClass (top 11) 0
abbrev N_NoDay_init : List Str := ["self", "day"]
theorem sc_NoDay_init : FnScope N_NoDay_init ["self", "day"] (defScope s_NoDay_init) := ⟨rfl, rfl, rfl, by decide +kernel, rfl, by decide +kernel, by decide +kernel⟩
def d_NoDay_init : He.DefD := ⟨("NoDay", some "__init__"), "__init__", "NoDay.__init__", defArgs s_NoDay_init, defBody s_NoDay_init, defScope s_NoDay_init, [], []⟩
abbrev s_NoSeats_init : Stmt := inClass (top 12) 0
abbrev N_NoSeats_init : List Str := ["self", "lack"]
theorem sc_NoSeats_init : FnScope N_NoSeats_init ["self", "lack"] (defScope s_NoSeats_init) := ⟨rfl, rfl, rfl, by decide +kernel, rfl, by decide +kernel, by decide +kernel⟩
def d_NoSeats_init : He.DefD := ⟨("NoSeats", some "__init__"), "__init__", "NoSeats.__init__", defArgs s_NoSeats_init, defBody s_NoSeats_init, defScope s_NoSeats_init, [], []⟩
abbrev s_TooMany_init : Stmt := inClass (top 13) 0
abbrev N_TooMany_init : List Str := ["self", "most"]
theorem sc_TooMany_init : FnScope N_TooMany_init ["self", "most"] (defScope s_TooMany_init) := ⟨rfl, rfl, rfl, by decide +kernel, rfl, by decide +kernel, by decide +kernel⟩
def d_TooMany_init : He.DefD := ⟨("TooMany", some "__init__"), "__init__", "TooMany.__init__", defArgs s_TooMany_init, defBody s_TooMany_init, defScope s_TooMany_init, [], []⟩
abbrev s_Taken_init : Stmt := inClass (top 14) 0
abbrev N_Taken_init : List Str := ["self", "name"]
theorem sc_Taken_init : FnScope N_Taken_init ["self", "name"] (defScope s_Taken_init) := ⟨rfl, rfl, rfl, by decide +kernel, rfl, by decide +kernel, by decide +kernel⟩
def d_Taken_init : He.DefD := ⟨("Taken", some "__init__"), "__init__", "Taken.__init__", defArgs s_Taken_init, defBody s_Taken_init, defScope s_Taken_init, [], []⟩
abbrev s_NoRule_init : Stmt := inClass (top 15) 0
abbrev N_NoRule_init : List Str := ["self", "thing"]
theorem sc_NoRule_init : FnScope N_NoRule_init ["self", "thing"] (defScope s_NoRule_init) := ⟨rfl, rfl, rfl, by decide +kernel, rfl, by decide +kernel, by decide +kernel⟩
def d_NoRule_init : He.DefD := ⟨("NoRule", some "__init__"), "__init__", "NoRule.__init__", defArgs s_NoRule_init, defBody s_NoRule_init, defScope s_NoRule_init, [], []⟩
abbrev s_NothingDone_init : Stmt := inClass (top 16) 0
abbrev N_NothingDone_init : List Str := ["self", "text"]
theorem sc_NothingDone_init : FnScope N_NothingDone_init ["self", "text"] (defScope s_NothingDone_init) := ⟨rfl, rfl, rfl, by decide +kernel, rfl, by decide +kernel, by decide +kernel⟩
def d_NothingDone_init : He.DefD := ⟨("NothingDone", some "__init__"), "__init__", "NothingDone.__init__", defArgs s_NothingDone_init, defBody s_NothingDone_init, defScope s_NothingDone_init, [], []⟩
abbrev s_NoRow_init : Stmt := inClass (top 17) 0
abbrev N_NoRow_init : List Str := ["self", "text"]
theorem sc_NoRow_init : FnScope N_NoRow_init ["self", "text"] (defScope s_NoRow_init) := ⟨rfl, rfl, rfl, by decide +kernel, rfl, by decide +kernel, by decide +kernel⟩
def d_NoRow_init : He.DefD := ⟨("NoRow", some "__init__"), "__init__", "NoRow.__init__", defArgs s_NoRow_init, defBody s_NoRow_init, defScope s_NoRow_init, [], []⟩
abbrev s_is_whole : Stmt := top 19
abbrev N_is_whole : List Str := ["thing"]
theorem sc_is_whole : FnScope N_is_whole ["thing"] (defScope s_is_whole) := ⟨rfl, rfl, rfl, by decide +kernel, rfl, by decide +kernel, by decide +kernel⟩
def d_is_whole : He.DefD := ⟨("is_whole", none), "is_whole", "is_whole", defArgs s_is_whole, defBody s_is_whole, defScope s_is_whole, [], []⟩
abbrev s_common_part : Stmt := top 21
abbrev N_common_part : List Str := ["one", "other"]
theorem sc_common_part : FnScope N_common_part ["one", "other"] (defScope s_common_part) := ⟨rfl, rfl, rfl, by decide +kernel, rfl, by decide +kernel, by decide +kernel⟩
def d_common_part : He.DefD := ⟨("common_part", none), "common_part", "common_part", defArgs s_common_part, defBody s_common_part, defScope s_common_part, [], []⟩
abbrev s_Share_init : Stmt := inClass (top 22) 0
abbrev N_Share_init : List Str := ["self", "top", "bottom", "thing", "common"]
theorem sc_Share_init : FnScope N_Share_init ["self", "top", "bottom"] (defScope s_Share_init) := ⟨rfl, rfl, rfl, by decide +kernel, rfl, by decide +kernel, by decide +kernel⟩
def d_Share_init : He.DefD := ⟨("Share", some "__init__"), "__init__", "Share.__init__", defArgs s_Share_init, defBody s_Share_init, defScope s_Share_init, [.int 1], []⟩
abbrev s_Share_eq : Stmt := inClass (top 22) 1
abbrev N_Share_eq : List Str := ["self", "other"]
theorem sc_Share_eq : FnScope N_Share_eq ["self", "other"] (defScope s_Share_eq) := ⟨rfl, rfl, rfl, by decide +kernel, rfl, by decide +kernel, by decide +kernel⟩
def d_Share_eq : He.DefD := ⟨("Share", some "__eq__"), "__eq__", "Share.__eq__", defArgs s_Share_eq, defBody s_Share_eq, defScope s_Share_eq, [], []⟩
abbrev s_Share_str : Stmt := inClass (top 22) 2
abbrev N_Share_str : List Str := ["self"]
theorem sc_Share_str : FnScope N_Share_str ["self"] (defScope s_Share_str) := ⟨rfl, rfl, rfl, by decide +kernel, rfl, by decide +kernel, by decide +kernel⟩
def d_Share_str : He.DefD := ⟨("Share", some "__str__"), "__str__", "Share.__str__", defArgs s_Share_str, defBody s_Share_str, defScope s_Share_str, [], []⟩
abbrev s_Share_repr : Stmt := inClass (top 22) 3
abbrev N_Share_repr : List Str := ["self"]
theorem sc_Share_repr : FnScope N_Share_repr ["self"] (defScope s_Share_repr) := ⟨rfl, rfl, rfl, by decide +kernel, rfl, by decide +kernel, by decide +kernel⟩
def d_Share_repr : He.DefD := ⟨("Share", some "__repr__"), "__repr__", "Share.__repr__", defArgs s_Share_repr, defBody s_Share_repr, defScope s_Share_repr, [], []⟩
abbrev s_Share_plus : Stmt := inClass (top 22) 4
abbrev N_Share_plus : List Str := ["self", "other"]
theorem sc_Share_plus : FnScope N_Share_plus ["self", "other"] (defScope s_Share_plus) := ⟨rfl, rfl, rfl, by decide +kernel, rfl, by decide +kernel, by decide +kernel⟩
def d_Share_plus : He.DefD := ⟨("Share", some "plus"), "plus", "Share.plus", defArgs s_Share_plus, defBody s_Share_plus, defScope s_Share_plus, [], []⟩
abbrev s_Share_less : Stmt := inClass (top 22) 5
abbrev N_Share_less : List Str := ["self", "other"]
theorem sc_Share_less : FnScope N_Share_less ["self", "other"] (defScope s_Share_less) := ⟨rfl, rfl, rfl, by decide +kernel, rfl, by decide +kernel, by decide +kernel⟩
def d_Share_less : He.DefD := ⟨("Share", some "less"), "less", "Share.less", defArgs s_Share_less, defBody s_Share_less, defScope s_Share_less, [], []⟩
abbrev s_Share_times : Stmt := inClass (top 22) 6
abbrev N_Share_times : List Str := ["self", "many"]
theorem sc_Share_times : FnScope N_Share_times ["self", "many"] (defScope s_Share_times) := ⟨rfl, rfl, rfl, by decide +kernel, rfl, by decide +kernel, by decide +kernel⟩
def d_Share_times : He.DefD := ⟨("Share", some "times"), "times", "Share.times", defArgs s_Share_times, defBody s_Share_times, defScope s_Share_times, [], []⟩
abbrev s_Share_over : Stmt := inClass (top 22) 7
abbrev N_Share_over : List Str := ["self", "many"]
theorem sc_Share_over : FnScope N_Share_over ["self", "many"] (defScope s_Share_over) := ⟨rfl, rfl, rfl, by decide +kernel, rfl, by decide +kernel, by decide +kernel⟩
def d_Share_over : He.DefD := ⟨("Share", some "over"), "over", "Share.over", defArgs s_Share_over, defBody s_Share_over, defScope s_Share_over, [], []⟩
abbrev s_Share_below : Stmt := inClass (top 22) 8
abbrev N_Share_below : List Str := ["self", "other"]
theorem sc_Share_below : FnScope N_Share_below ["self", "other"] (defScope s_Share_below) := ⟨rfl, rfl, rfl, by decide +kernel, rfl, by decide +kernel, by decide +kernel⟩
def d_Share_below : He.DefD := ⟨("Share", some "below"), "below", "Share.below", defArgs s_Share_below, defBody s_Share_below, defScope s_Share_below, [], []⟩
abbrev s_Share_whole : Stmt := inClass (top 22) 9
abbrev N_Share_whole : List Str := ["self"]
theorem sc_Share_whole : FnScope N_Share_whole ["self"] (defScope s_Share_whole) := ⟨rfl, rfl, rfl, by decide +kernel, rfl, by decide +kernel, by decide +kernel⟩
def d_Share_whole : He.DefD := ⟨("Share", some "whole"), "whole", "Share.whole", defArgs s_Share_whole, defBody s_Share_whole, defScope s_Share_whole, [], []⟩
abbrev s_l_held : Stmt := top 24
abbrev N_l_held : List Str := ["_law_script"]
theorem sc_l_held : FnScope N_l_held ["_law_script"] (defScope s_l_held) := ⟨rfl, rfl, rfl, by decide +kernel, rfl, by decide +kernel, by decide +kernel⟩
def d_l_held : He.DefD := ⟨("_law_held", none), "_law_held", "_law_held", defArgs s_l_held, defBody s_l_held, defScope s_l_held, [], []⟩
abbrev s_l_draw : Stmt := top 25
abbrev N_l_draw : List Str := ["_law_held_here", "_law_many", "_law_found", "_law_at", "_law_cell", "_law_number"]
theorem sc_l_draw : FnScope N_l_draw ["_law_held_here", "_law_many"] (defScope s_l_draw) := ⟨rfl, rfl, rfl, by decide +kernel, rfl, by decide +kernel, by decide +kernel⟩
def d_l_draw : He.DefD := ⟨("_law_draw", none), "_law_draw", "_law_draw", defArgs s_l_draw, defBody s_l_draw, defScope s_l_draw, [], []⟩
abbrev s_l_names : Stmt := top 26
abbrev N_l_names : List Str := ["_law_held_here", "_law_many", "_law_letters", "_law_size", "_law_k", "_law_base", "_law_at", "_law_begin", "_law_step", "_law_lot", "_law_found", "_law_tail"]
theorem sc_l_names : FnScope N_l_names ["_law_held_here", "_law_many"] (defScope s_l_names) := ⟨rfl, rfl, rfl, by decide +kernel, rfl, by decide +kernel, by decide +kernel⟩
def d_l_names : He.DefD := ⟨("_law_names", none), "_law_names", "_law_names", defArgs s_l_names, defBody s_l_names, defScope s_l_names, [], []⟩
abbrev s_l_kinds : Stmt := top 27
abbrev N_l_kinds : List Str := ["_law_error", "_law_own", "_law_words", "_law_found", "_law_bases_here", "_law_word", "_law_so"]
theorem sc_l_kinds : FnScope N_l_kinds ["_law_error"] (defScope s_l_kinds) := ⟨rfl, rfl, rfl, by decide +kernel, rfl, by decide +kernel, by decide +kernel⟩
def d_l_kinds : He.DefD := ⟨("_law_kinds", none), "_law_kinds", "_law_kinds", defArgs s_l_kinds, defBody s_l_kinds, defScope s_l_kinds, [], []⟩
abbrev s_l_bases : Stmt := top 28
abbrev N_l_bases : List Str := ["_law_word", "_law_places", "_law_k"]
theorem sc_l_bases : FnScope N_l_bases ["_law_word"] (defScope s_l_bases) := ⟨rfl, rfl, rfl, by decide +kernel, rfl, by decide +kernel, by decide +kernel⟩
def d_l_bases : He.DefD := ⟨("_law_bases", none), "_law_bases", "_law_bases", defArgs s_l_bases, defBody s_l_bases, defScope s_l_bases, [], []⟩
abbrev s_l_thing : Stmt := top 29
abbrev N_l_thing : List Str := ["_law_held_here", "_law_number", "_law_some"]
theorem sc_l_thing : FnScope N_l_thing ["_law_held_here", "_law_number"] (defScope s_l_thing) := ⟨rfl, rfl, rfl, by decide +kernel, rfl, by decide +kernel, by decide +kernel⟩
def d_l_thing : He.DefD := ⟨("_law_thing", none), "_law_thing", "_law_thing", defArgs s_l_thing, defBody s_l_thing, defScope s_l_thing, [], []⟩
abbrev s_l_first : Stmt := top 30
abbrev N_l_first : List Str := ["_law_number", "_law_it", "_law_by_name"]
theorem sc_l_first : FnScope N_l_first ["_law_number", "_law_it", "_law_by_name"] (defScope s_l_first) := ⟨rfl, rfl, rfl, by decide +kernel, rfl, by decide +kernel, by decide +kernel⟩
def d_l_first : He.DefD := ⟨("_law_first", none), "_law_first", "_law_first", defArgs s_l_first, defBody s_l_first, defScope s_l_first, [], []⟩
abbrev s_l_second : Stmt := top 31
abbrev N_l_second : List Str := ["_law_number", "_law_it", "_law_by_name"]
theorem sc_l_second : FnScope N_l_second ["_law_number", "_law_it", "_law_by_name"] (defScope s_l_second) := ⟨rfl, rfl, rfl, by decide +kernel, rfl, by decide +kernel, by decide +kernel⟩
def d_l_second : He.DefD := ⟨("_law_second", none), "_law_second", "_law_second", defArgs s_l_second, defBody s_l_second, defScope s_l_second, [], []⟩
abbrev s_l_field : Stmt := top 32
abbrev N_l_field : List Str := ["_law_number", "_law_error"]
theorem sc_l_field : FnScope N_l_field ["_law_number", "_law_error"] (defScope s_l_field) := ⟨rfl, rfl, rfl, by decide +kernel, rfl, by decide +kernel, by decide +kernel⟩
def d_l_field : He.DefD := ⟨("_law_field", none), "_law_field", "_law_field", defArgs s_l_field, defBody s_l_field, defScope s_l_field, [], []⟩
abbrev s_law : Stmt := top 33
abbrev N_law : List Str := ["_law_script", "_law_held_here", "_law_words", "_law_turn", "_law_number", "_law_it", "_law_way", "_law_error", "_law_found", "_law_bases_here"]
theorem sc_law : FnScope N_law ["_law_script"] (defScope s_law) := ⟨rfl, rfl, rfl, by decide +kernel, rfl, by decide +kernel, by decide +kernel⟩
def d_law : He.DefD := ⟨("law", none), "law", "law", defArgs s_law, defBody s_law, defScope s_law, [], []⟩
def fn : List He.DefD := [d__wall, d_NoKind_init, d_Nought_init, d_NoShare_init, d_Uneven_init, d_BadName_init, d_NoNumber_init, d_NoRide_init, d_NoText_init, d_NoName_init, d_NoDay_init, d_NoSeats_init, d_TooMany_init, d_Taken_init, d_NoRule_init, d_NothingDone_init, d_NoRow_init, d_is_whole, d_common_part, d_Share_init, d_Share_eq, d_Share_str, d_Share_repr, d_Share_plus, d_Share_less, d_Share_times, d_Share_over, d_Share_below, d_Share_whole, d_l_held, d_l_draw, d_l_names, d_l_kinds, d_l_bases, d_l_thing, d_l_first, d_l_second, d_l_field, d_law]
end K90
set_option Elab.async false
set_option linter.all false
set_option maxRecDepth 100000
set_option maxHeartbeats 4000000
/-! GX: own exceptions over any built-in base, whose own __init__ calls the base's and stores a field. -/
namespace GX
open PySem PySem.Spec PyProof.Rows L2

/-- what the written part tells of the class -/
structure Gx (K : PySem.W.Frag) (C : Addr) (bmB : List Value) (nid : String) : Prop where
  over : PySem.W.excOver K C bmB = true
  made : PySem.W.excInitIn K C bmB nid = true
  hasd : ∃ cd, PySem.W.clsIn K C = some cd ∧ cd.hasDict = true
  sets : PySem.W.findIn K (.ref C) "__setattr__" = some (some (.builtin "object.__setattr__"))
  base : PySem.W.subIn K (.ref C) (.type "BaseException") = some true
  typ : PySem.W.typeIn K (.ref C) = some (.type "type")
  keep : PySem.W.keepIn K (.ref C) = true

section
open Builtin Builtin.ObjectAttr
variable {prog : Program} {w : World} {A : Around} {R : Result → Shared → Prop} {hp : Heap} {g : Array GenState} {d : Drawn} {t : Nat} {os : OsState} {B : String} {bmB : List Value}
theorem first_store {K : PySem.W.Frag} {name : Str} {tk : Tok} {v : Value} {x C : Addr} {fv : Array Value} {cd : ClassData} (SF : StoreFacts B bmB "object.__setattr__" "object")
    (X : K.In hp) (hx : hp.get? x = some { cls := .ref C, data := .fields fv }) (ho : PySem.W.excOver K C bmB = true) (hc : PySem.W.clsIn K C = some cd) (hd : cd.hasDict = true)
    (hf : PySem.W.findIn K (.ref C) name = some none)
    (post : ∀ h' tk' dx, (∀ b o, b ≠ x → hp.get? b = some o → h'.get? b = some o) → hp.objs.size ≤ dx → dx ≠ x →
      h'.get? x = some { cls := .ref C, dict := some dx, data := .fields fv } → h'.Ns1 dx (fun y => if y = name then some v else none) → R (.ok (.ret .none)) ⟨h', g, d, tk', os⟩) :
    codeAny (model prog w) A (.call (.builtin "object.__setattr__") ⟨[.ref x, .str name tk, v], []⟩) R ⟨hp, g, d, t, os⟩ := by
  have inst : PySem.W.InstAt hp x { cls := .ref C, data := .fields fv } C none := ⟨hx, rfl, rfl, trivial⟩
  have far : x ≠ hp.objs.size := Nat.ne_of_lt (Heap.lt_size hx)
  have lc : PySem.W.Looks (model prog w) hp (classData C) cd := PySem.W.looks_clsIn X hc
  refine PySem.W.osa_openX (r := none) SF X inst ho (by unfold PySem.W.takerIn; rw [hf]; rfl) fun b => ?_
  dsimp only
  obtain ⟨n1, n2, n3, n4, n5, n6, n7, n8, n9, n10, n11⟩ := cd
  dsimp only at hd
  subst hd
  unfold storeInOwnDict ownDictForStores
  repeat (first | with_reducible refine PySem.HandSPX.store_in_new ?_ ?_ | with_reducible refine wpAny_loadPart_at hx ?_ | with_reducible refine lc.at ?_ | wp_step)
  · exact ⟨_, #[], _, (Heap.get?_update_ne _ _ _ _ far.symm).trans (Heap.get?_push_at rfl rfl), rfl, fun e he => absurd he (by simp), fun _ => rfl⟩
  · intro h' tk' hn hs
    have hx1 : (hp.push { cls := .type "dict", data := .dict #[] }).get? x = some { cls := .ref C, data := .fields fv } := Heap.get?_push_of_some _ hx
    refine post h' tk' hp.objs.size (fun b o hb hob => ?_) (Nat.le_refl _) far.symm ?_ hn
    · have e1 := hs.2 b (Nat.ne_of_lt (Heap.lt_size hob))
      rw [e1, Heap.get?_update_ne _ _ _ _ hb]
      exact Heap.get?_push_of_some _ hob
    · rw [hs.2 x far]
      exact Heap.get?_update_self _ hx1 rfl
end

section
variable {X : Cx} {pins : List (Addr × Obj)} {σ : L2.St} {H : Hp} {s : Shared} {a C dx : Addr} {f : Str} {y : V} {u : Value} {Q : Unit → Shared → Prop} {E : Value → Shared → Prop} {A : Around} {B : String} {bmB : List Value} {nid iid : String}
/-- self.f = y, the first store -/
theorem put_first (SF : StoreFacts B bmB "object.__setattr__" "object") (T : Gx X.K C bmB nid) (I : Inv X pins σ H s) (e : H a = some (exo a C none)) (hno : PySem.W.findIn X.K (.ref C) f = some none) (ry : RelV y u)
    (post : ∀ dx s', H dx = none → dx ≠ a → Inv X pins σ (upd (upd H dx (exd dx [(f, y)])) a (exo a C (some dx))) s' → Q () s') : wpAny (model X.prog X.w) A (setAttr (.ref a) f u) Q E s := by
  obtain ⟨cd, hcd, hdd⟩ := T.hasd
  obtain ⟨t1, at1⟩ := exo_at I.hok e
  obtain ⟨hp, g, d, t, os⟩ := s
  refine PySem.W.set_plain I.kIn (ox := { cls := .ref C, dict := none, data := .fields #[.ref t1, .none, .none, .none, .bool false, .none] }) (od := none) ⟨at1, rfl, rfl, trivial⟩ T.sets ?_
  refine first_store SF I.kIn at1 T.over hcd hdd hno (fun h' tk' dx kp dn dne hx hn => ?_)
  have fresh : H dx = none := I.hok.fresh dn
  have old : ∀ {b : Addr} {o : Obj}, hp.get? b = some o → b ≠ dx := fun {b o} q => Nat.ne_of_lt (Nat.lt_of_lt_of_le (Heap.lt_size q) dn)
  have other : ∀ {b : Addr}, H b = none → b ≠ a := fun {b} n z => by
    rw [z, e] at n
    cases n
  have un : Un X.fs [] H (upd (upd H dx (exd dx [(f, y)])) a (exo a C (some dx))) hp h' := {
    keep := fun b o q n _ _ => kp b o (other n) q
    slot := fun b o q n _ _ => ⟨o.slots, kp b o (other n) q⟩
    free := fun b o q n _ => by rw [upd_ne (other n), upd_ne (old q)]; exact n
    there := fun b o q _ => by
      by_cases hb : b = a
      · exact ⟨_, hb ▸ hx⟩
      · exact ⟨o, kp b o hb q⟩
    tups := fun b xs q => by rw [upd_ne (at_ne e q exo_tup), upd_ne (ne_of_none q fresh)]; exact q
    frzs := fun b o v q => by rw [upd_ne (at_ne e q exo_frz), upd_ne (ne_of_none q fresh)]; exact q
    tbls := fun b ps q => ⟨#[], by rw [upd_ne (at_ne e q exo_tbl), upd_ne (ne_of_none q fresh), q]; simp⟩ }
  refine post dx _ fresh dne (I.un (t' := tk') un fun b o q => ?_)
  by_cases hb : b = a
  · subst hb
    rw [upd_same] at q
    cases q
    exact exo_ok hx
  · rw [upd_ne hb] at q
    by_cases hd : b = dx
    · subst hd
      rw [upd_same] at q
      cases q
      exact exd_ok hn (relO_put (fs := []) ry fun g => True.intro)
    · rw [upd_ne hd] at q
      refine (I.hok b o q).stay (fun c v hc z => kp c v ?_ z) (fun c hc => ?_) (fun c xs hc => ?_)
      · rcases hc with hc | hc
        · exact hc ▸ hb
        · exact at_ne e hc exo_own
      · rw [upd_ne (at_ne e hc exo_own), upd_ne (ne_of_none hc fresh)]; exact hc
      · rw [upd_ne (at_ne e hc exo_tup), upd_ne (ne_of_none hc fresh)]; exact hc
/-- Base.__init__(self, ..) -/
theorem base_init {us : List Value} {Q : Value → Shared → Prop} (FB : ExcBaseFacts B nid iid bmB) (T : Gx X.K C bmB nid) (I : Inv X pins σ H s) (e : H a = some (exo a C none)) (hl : us.length ≤ sizeLine) (post : ∀ s', Inv X pins σ H s' → Q .none s') :
    wpAny (model X.prog X.w) A (call (.builtin iid) (.ref a :: us)) Q E s := by
  obtain ⟨nm, N, qn, bs, bm, hdct, sn, sub, ab, col, dd, k0, k1, k2, k3, k5, hC, hT⟩ := PySem.W.excInit_of I.kIn T.made
  obtain ⟨t1, at1⟩ := exo_at I.hok e
  obtain ⟨hp, g, d, t, os⟩ := s
  refine wpAny_call (PySem.HandSPX.init_base FB hT hC at1 hl fun h' t2 kp hx => ?_)
  have J := I.write (t' := t) (x := a) (e := a) (o := exo a C none) (by rw [e]; exact True.intro) (.inl rfl) kp ⟨_, hx⟩ (exo_ok hx)
  have same : upd H a (exo a C none) = H := funext fun b => by
    by_cases hb : b = a
    · rw [hb, upd_same, e]
    · rw [upd_ne hb]
  rw [same] at J
  exact post _ J
end

/-! ### readings and rules -/
/-- Base.__init__(self, ..) -/
def tBi (K : PySem.W.Frag) (bmB : List Value) (nid : String) (ta : TA) : TE := fun σ H Q => ta σ H fun vs H1 => ∃ (a C : Addr) (ws : List V), vs = .ref a :: ws ∧ ws.length ≤ 1000 ∧ Gx K C bmB nid ∧ H1 a = some (exo a C none) ∧ Q .non H1
/-- self.f = e, the first one -/
def tPf (K : PySem.W.Frag) (bmB : List Value) (nid : String) (f : Str) (to te : TE) : TS := fun D σ H => te σ H fun y H1 => to σ H1 fun x H2 => ∃ a C : Addr, x = .ref a ∧ Gx K C bmB nid ∧ PySem.W.findIn K (.ref C) f = some none ∧
  H2 a = some (exo a C none) ∧ ∀ dx, H2 dx = none → dx ≠ a → D.nx σ (upd (upd H2 dx (exd dx [(f, y)])) a (exo a C (some dx)))
section
variable {X : Cx} {o e : Expr} {es : List Expr} {to te : TE} {ta : TA} {f : Str} {p p' p1 p2 pos : Pos} {B nid iid : String} {bmB : List Value} {x : Str}
theorem pe_bi {pl : Sem Bool} (FB : ExcBaseFacts B nid iid bmB) (hg : Gl X x) (hm : X.mg x = none) (hv : bootBuiltins x = some (.type B)) (ty : typeOf (.type B) = pure (.type "type"))
    (vV : PySem.W.findCls X.K (.type B) (.type "type") "__init__" = some (.val (.builtin iid))) (hb : PySem.W.handedIn (.builtin iid) = true) (hst : Manifest.isStub B = false) (ha : PA X (e :: es) ta)
    (hc : eval (.Call (.Attribute (.Name x p1) "__init__" p2) (e :: es) [] pos) X.env = (do
      let ov ← eval (.Name x p1) X.env
      standAt p2.atName
      let (f, first) ← holding [ov] (getMethod ov "__init__" pl)
      callWith pos f first (backTo pos (starEach (e :: es) X.env)) (backToKw pos (keywordEach [] X.env))) := by rfl)
    (hn : x ≠ "__name__" := by decide) (hd : (x == ("__debug__" : Str)) = false := by decide)
    (he : starEach (e :: es) X.env = (false, eval e X.env) :: starEach es X.env := by rfl) (hpl : (backTo pos (starEach es X.env)).any (·.1) = false := by rfl) :
    PE X (.Call (.Attribute (.Name x p1) "__init__" p2) (e :: es) [] pos) (tBi X.K bmB nid ta) := by
  refine ⟨fun pins s σ H Q I h => ?_⟩
  refine PySem.W.methodCall_KW (ld_blt I hg hm hv ?_ hn hd) hc
  obtain ⟨m, fr⟩ := I.fr
  refine PySem.W.method_type fr I.ok.mod.kin ty hst vV hb ?_
  show wpAny _ _ (callWith pos (Value.builtin iid) [] (backTo pos (starEach (e :: es) X.env)) []) _ _ _
  refine PyProof.Rows.callWith_method1 (thn (ha.run pos pins _ σ H _ (I.tok _) h) fun us s1 hh => ?_) he hpl
  obtain ⟨vs, H1, I1, r1, a, C, ws, ev, hl, T, ea, q⟩ := hh
  subst ev
  cases r1 with
  | @cons _ u0 _ ur ra rw' =>
    obtain rfl : u0 = Value.ref a := ra
    have hlen : ur.length ≤ sizeLine := by
      have := Paired.length rw'
      rw [sizeLine_eq]
      omega
    exact base_init FB T I1 ea hlen fun s' J => ⟨.non, H1, J, rfl, q⟩
theorem ps_pf (SF : StoreFacts B bmB "object.__setattr__" "object") (ho : PE X o to) (he : PE X e te) (hs : swapsWith e (some (.Attribute o f p')) pos.line X.env = pure false := by rfl) : PS X (.Assign [.Attribute o f p'] e pos) (tPf X.K bmB nid f to te) := by
  refine ⟨fun pins s σ H D I h => ?_⟩
  refine plainObj_wpAny_Assign_Attribute (thn (he.run pins s σ H _ I h) fun v s1 h1 => ?_) hs
  obtain ⟨y, H1, I1, r1, q1⟩ := h1
  refine thn (ho.run pins s1 σ H1 _ I1 q1) fun u s2 h2 => ?_
  obtain ⟨z, H2, I2, r2, a, C, ex, T, hno, ea, q⟩ := h2
  subst ex
  obtain rfl : u = Value.ref a := r2
  exact put_first SF T I2 ea hno r1 fun dx s' n ne J => ⟨σ, _, J, q dx n ne⟩
/-- C(e, ..) as what is raised, C's own __init__ keeping sp -/
theorem pmk_gx {CX : CXT} {C fI : Addr} {k : Nat} {fd : FuncData} {ps : List Str} {sp : Sp} {ds : List Value} {dvs : List V} (FB : ExcBaseFacts B nid iid bmB) (T : Gx X.K C bmB nid) (iC : PySem.W.findIn X.K (.ref C) "__init__" = some (some (.ref fI)))
    (tI : PySem.W.typeIn X.K (.ref fI) = some (.type "function"))
    (F1 : FnOk X.prog X.w X.K X.mg X.base CX k fI fd ps sp) (hr : Room (k + 1) X.A) (hb : Binds X.K fd ps ds) (hd : Vals dvs ds) (hx : Passes CX X (fun _ _ _ => False)) (hg : Gl X x) (hm : X.mg x = some (.ref C)) (ha : PA X (e :: es) ta)
    (hdb : (x == ("__debug__" : Str)) = false := by decide) (he : starEach (e :: es) X.env = (false, eval e X.env) :: starEach es X.env := by rfl) (hpl : (backTo pos (starEach es X.env)).any (·.1) = false := by rfl) :
    PMk X (.Call (.Name x p) (e :: es) [] pos) (tMkO C sp dvs ta) := by
  intro pins s σ H Q I h
  refine wpAny_Call_Name_kw (ld_glob I hg hm ?_ hdb)
  refine PySem.W.callWith_K (h₀ := X.base) I.ok.mod.kin T.keep (thn (ha.run pos pins s σ H _ I h) fun us s1 hh => ?_) he hpl
  obtain ⟨vs, H1, I1, r1, hz, q1⟩ := hh
  refine ⟨I1.kIn, ?_⟩
  show wpAny _ _ (call (.ref C) us) _ _ _
  obtain ⟨nm, N, qn, bs, bm, hdct, sn, sub, ab, col, dd, k0, k1, k2, k3, k5, hC, hT⟩ := PySem.W.excInit_of I1.kIn T.made
  obtain ⟨hp, g, dr, tk, os⟩ := s1
  have big : hp.objs.size ≤ hp.objs.size + 1 := Nat.le_succ _
  have hq := q1 (hp.objs.size + 1) (I1.hok.fresh big)
  have kk : ∀ b o, hp.get? b = some o → ((hp.push (PySem.W.kdv_tup us)).push (PySem.HandSPX.excO C hp.objs.size)).get? b = some o := fun b o z =>
    Heap.get?_push_of_some _ (Heap.get?_push_of_some _ z)
  have there : ((hp.push (PySem.W.kdv_tup us)).push (PySem.HandSPX.excO C hp.objs.size)).get? (hp.objs.size + 1) = some (PySem.HandSPX.excO C hp.objs.size) := by heap_get
  have I2 := I1.laid (t' := tk) (a := hp.objs.size + 1) (o := exo (hp.objs.size + 1) C none) (h' := (hp.push (PySem.W.kdv_tup us)).push (PySem.HandSPX.excO C hp.objs.size)) kk big (exo_ok there)
  have r2 : Vals (V.ref (hp.objs.size + 1) :: (vs ++ dvs)) (Value.ref (hp.objs.size + 1) :: (us ++ ds)) := .cons rfl (r1.append hd)
  have hl : (Value.ref (hp.objs.size + 1) :: us ++ ds).length = ps.length := by
    have e1 := r2.length
    rw [F1.len _ _ _ _ hq] at e1
    exact e1.symm
  have few : us.length ≤ sizeLine := by
    have := Paired.length r1
    rw [sizeLine_eq]
    omega
  refine wpAny_call (PySem.HandSPX.call_own FB hT hC (PySem.W.looks_findIn I1.kIn iC) (fun self => PySem.W.bind_fn I1.kIn self tI) few (codeAny_mono
    (F1.run _ X.stack _ _ ⟨Value.ref (hp.objs.size + 1) :: us, []⟩ (Value.ref (hp.objs.size + 1) :: (us ++ ds)) _ _ (fun _ _ _ => False) (hr.make C us []) (I2.env0.make C us []) (hb _ (Value.ref (hp.objs.size + 1) :: us) I2.kIn hl) r2 hq) fun r s' hq' => ?_))
  cases r with
  | error er => exact hx pins σ _ _ er s' I2 hq'
  | ok fl =>
    cases fl with
    | ret u =>
      obtain ⟨v, H2, os2, bare2, un2, hok2, rv, ev, d, fs, ea, ed, hd1, q2⟩ := hq'
      subst ev
      obtain ⟨h2, g2, d2, t2, os'⟩ := s'
      exact ⟨rv, mk_end (raises_own T.base T.typ) I1 big kk un2 hok2 os2 bare2 ea ed hd1 q2⟩
    | next => exact False.elim hq'
    | brk => exact False.elim hq'
    | cont => exact False.elim hq'
end
/-! ### the head's look at such a class -/
def hasDB (K : PySem.W.Frag) (C : Addr) : Bool := match PySem.W.clsIn K C with
  | some cd => cd.hasDict
  | none => false
/-- Base.__init__, read off the class Base -/
def vvB (K : PySem.W.Frag) (B iid : String) : Bool := match PySem.W.findCls K (.type B) (.type "type") "__init__" with
  | some (.val (.builtin n)) => n == iid
  | _ => false
theorem vvB_ok {K : PySem.W.Frag} {B iid : String} (h : vvB K B iid = true) : PySem.W.findCls K (.type B) (.type "type") "__init__" = some (.val (.builtin iid)) := by
  unfold vvB at h
  split at h
  · rename_i n e
    rw [e, eq_of_beq h]
  · cases h
/-- what isinstance asks of an own class -/
def isB (K : PySem.W.Frag) (C : Addr) : Bool := He.eqO (PySem.W.findIn K (.ref C) "__class__") (some (some (.builtin "object.__class__"))) && (He.eqO (PySem.W.specialIn K (.builtin "object.__class__") "__get__") (some (some (.builtin "getset_descriptor.__get__"))) &&
  (decide (PySem.W.takesIn K (.builtin "object.__class__") = some true) && decide (PySem.W.mroIn K C (.type "object") = some true)))
def gxB (K : PySem.W.Frag) (C : Addr) (bmB : List Value) (nid : String) : Bool := PySem.W.excOver K C bmB && (PySem.W.excInitIn K C bmB nid && (hasDB K C &&
  (He.eqO (PySem.W.findIn K (.ref C) "__setattr__") (some (some (.builtin "object.__setattr__"))) && (decide (PySem.W.subIn K (.ref C) (.type "BaseException") = some true) &&
  (decide (PySem.W.typeIn K (.ref C) = some (.type "type")) && PySem.W.keepIn K (.ref C))))))
theorem gxB_ok {K : PySem.W.Frag} {C : Addr} {bmB : List Value} {nid : String} (h : gxB K C bmB nid = true) : Gx K C bmB nid := by
  unfold gxB at h
  simp only [Bool.and_eq_true, decide_eq_true_eq] at h
  obtain ⟨h1, h2, h3, h4, h5, h6, h7⟩ := h
  refine ⟨h1, h2, ?_, He.eqO_ok h4, h5, h6, h7⟩
  unfold hasDB at h3
  split at h3
  · rename_i cd e
    exact ⟨cd, e, h3⟩
  · cases h3
end GX
set_option linter.all false
namespace KM
/-- the signed common part -/
def sg (t b : Int) : Int := if b < 0 then -(Int.gcd t b : Int) else (Int.gcd t b : Int)
/-- a fraction in lowest terms -/
def low (t b : Int) : Int × Int := (t.fdiv (sg t b), b.fdiv (sg t b))
theorem gcd_pos {t b : Int} (h : b ≠ 0) : 0 < Int.gcd t b := Int.gcd_pos_of_ne_zero_right t h
theorem sg_ne {t b : Int} (h : b ≠ 0) : sg t b ≠ 0 := by
  have := gcd_pos (t := t) h
  unfold sg
  split <;> omega
theorem sg_dvd_left (t b : Int) : sg t b ∣ t := by
  unfold sg
  split
  · exact Int.neg_dvd.mpr (Int.gcd_dvd_left ..)
  · exact Int.gcd_dvd_left ..
theorem sg_dvd_right (t b : Int) : sg t b ∣ b := by
  unfold sg
  split
  · exact Int.neg_dvd.mpr (Int.gcd_dvd_right ..)
  · exact Int.gcd_dvd_right ..
theorem low_top {t b : Int} : sg t b * (low t b).1 = t := by
  show sg t b * t.fdiv (sg t b) = t
  rw [Int.fdiv_eq_ediv_of_dvd (sg_dvd_left t b)]
  exact Int.mul_ediv_cancel' (sg_dvd_left t b)
theorem low_bot {t b : Int} : sg t b * (low t b).2 = b := by
  show sg t b * b.fdiv (sg t b) = b
  rw [Int.fdiv_eq_ediv_of_dvd (sg_dvd_right t b)]
  exact Int.mul_ediv_cancel' (sg_dvd_right t b)
theorem sg_abs (t b : Int) : (sg t b).natAbs = Int.gcd t b := by
  unfold sg
  split <;> simp
theorem low_pos {t b : Int} (h : b ≠ 0) : 0 < (low t b).2 := by
  have e := low_bot (t := t) (b := b)
  have g := gcd_pos (t := t) h
  by_cases hb : b < 0
  · have hs : sg t b < 0 := by unfold sg; rw [if_pos hb]; omega
    refine Int.lt_of_not_ge fun hc => ?_
    have := Int.mul_nonneg_of_nonpos_of_nonpos (Int.le_of_lt hs) hc
    omega
  · have hs : 0 < sg t b := by unfold sg; rw [if_neg hb]; omega
    refine Int.lt_of_not_ge fun hc => ?_
    have := Int.mul_nonpos_of_nonneg_of_nonpos (Int.le_of_lt hs) hc
    omega
theorem low_cop {t b : Int} (h : b ≠ 0) : Int.gcd (low t b).1 (low t b).2 = 1 := by
  have e : Int.gcd (sg t b * (low t b).1) (sg t b * (low t b).2) = (sg t b).natAbs * Int.gcd (low t b).1 (low t b).2 := Int.gcd_mul_left ..
  rw [low_top, low_bot, sg_abs] at e
  have g := gcd_pos (t := t) h
  have : Int.gcd t b * Int.gcd (low t b).1 (low t b).2 = Int.gcd t b * 1 := by omega
  exact Nat.eq_of_mul_eq_mul_left g this
theorem low_id {t b : Int} (hb : 0 < b) (h : Int.gcd t b = 1) : low t b = (t, b) := by
  have e : sg t b = 1 := by unfold sg; rw [if_neg (by omega), h]; rfl
  unfold low
  rw [e]
  simp
theorem low_low {t b : Int} (h : b ≠ 0) : low (low t b).1 (low t b).2 = low t b := low_id (low_pos h) (low_cop h)
/-- the bottom stays: nothing is taken out -/
theorem low_same {t b : Int} (hb : 0 < b) (h : (low t b).2 = b) : low t b = (t, b) := by
  have e := low_bot (t := t) (b := b)
  rw [h] at e
  have e1 : sg t b * b = 1 * b := by omega
  have e2 := Int.eq_of_mul_eq_mul_right (Int.ne_of_gt hb) e1
  have e3 := low_top (t := t) (b := b)
  rw [e2] at e3
  refine Prod.ext ?_ h
  show (low t b).1 = t
  omega
theorem dvd_le {x y : Int} (h : x * y ≠ 0) : y.natAbs ≤ (x * y).natAbs := by
  rw [Int.natAbs_mul]
  have : x ≠ 0 := fun z => h (by rw [z, Int.zero_mul])
  exact Nat.le_mul_of_pos_left _ (by omega)
theorem low_top_le {t b : Int} (h : b ≠ 0) : (low t b).1.natAbs ≤ t.natAbs := by
  by_cases ht : t = 0
  · subst ht
    have e := low_top (t := 0) (b := b)
    rcases Int.mul_eq_zero.mp e with z | z
    · exact absurd z (sg_ne h)
    · rw [z]; exact Nat.le_refl _
  · have e := low_top (t := t) (b := b)
    have := dvd_le (x := sg t b) (y := (low t b).1) (by omega)
    rw [e] at this
    exact this
theorem low_bot_le {t b : Int} (h : b ≠ 0) : (low t b).2.natAbs ≤ b.natAbs := by
  have e := low_bot (t := t) (b := b)
  have := dvd_le (x := sg t b) (y := (low t b).2) (by omega)
  rw [e] at this
  exact this
theorem sg_le {t b : Int} (h : b ≠ 0) : (sg t b).natAbs ≤ b.natAbs := by
  have e := low_bot (t := t) (b := b)
  have := dvd_le (x := (low t b).2) (y := sg t b) (by rw [Int.mul_comm]; omega)
  rw [Int.mul_comm, e] at this
  exact this
/-- Euclid's turn over whole numbers from 0 on -/
theorem gcd_turn {a b : Int} (ha : 0 ≤ a) (hb : 0 < b) : Int.gcd b (a % b) = Int.gcd a b := by
  obtain ⟨m, rfl⟩ := Int.eq_ofNat_of_zero_le ha
  obtain ⟨n, rfl⟩ := Int.eq_ofNat_of_zero_le (Int.le_of_lt hb)
  show Nat.gcd (Int.natAbs (n : Int)) (Int.natAbs ((m : Int) % (n : Int))) = Nat.gcd (Int.natAbs (m : Int)) (Int.natAbs (n : Int))
  rw [← Int.natCast_emod, Int.natAbs_natCast, Int.natAbs_natCast, Int.natAbs_natCast, Nat.gcd_comm n, Nat.gcd_comm m n]
  exact (Nat.gcd_rec n m).symm
theorem gcd_succ (a : Int) : Int.gcd a (a + 1) = 1 := by
  have : Int.gcd (a + 1) a = Int.gcd 1 a := by
    rw [Int.add_comm, Int.gcd_add_self_left]
  rw [Int.gcd_comm, this, Int.gcd_comm]
  simp
end KM
set_option Elab.async false
set_option linter.all false
set_option maxRecDepth 100000
set_option maxHeartbeats 4000000
namespace K90
open PySem PySem.Spec PyProof.Rows L2
/-- a def of the text -/
abbrev Dn (K : PySem.W.Frag) (d : He.DefD) (f : Addr) (fd : FuncData) : Prop := FunD K d.name d.qual d.params d.body d.scope (d.dvs K) (d.kws K) f fd
/-- what the module's names are -/
structure Bl (mg : Str → Option Value) : Prop where
  isi : mg "isinstance" = none
  int : mg "int" = none
  bool : mg "bool" = none
  abs : mg "abs" = none
  list : mg "list" = none
  range : mg "range" = none
  len : mg "len" = none
theorem op_fdW {X : Cx} : OpR X (binaryOp .FloorDiv) (rI (fun _ j => j ≠ 0 ∧ j.natAbs.log2 < 9000) fun i j => .int (i.fdiv j)) := opI fun _ _ _ _ _ _ _ hc q => floordiv_int hc.1 q (.inl (PyProof.noPylong_of_log2 hc.2))
/-- the fields of a Share -/
def shF (q : Int × Int) : List (Str × V) := putF "bottom" (.int q.2) (putF "top" (.int q.1) [])
theorem tb : ¬ (("top" : Str) = "bottom") := by decide +kernel
theorem shF_top (q : Int × Int) : (shF q).lookup ("top" : Str) = some (.int q.1) := by
  unfold shF
  rw [lookup_putF, if_neg tb, lookup_putF, if_pos rfl]
theorem shF_bot (q : Int × Int) : (shF q).lookup ("bottom" : Str) = some (.int q.2) := by
  unfold shF
  rw [lookup_putF, if_pos rfl]
theorem shF_no (q : Int × Int) {m : Str} (h1 : ¬ m = "bottom") (h2 : ¬ m = "top") : (shF q).lookup m = none := by
  unfold shF
  rw [lookup_putF, if_neg h1, lookup_putF, if_neg h2]
  all_goals rfl
/-- a Share stands at p -/
def Sh (C : Addr) (H : Hp) (p : Addr) (q : Int × Int) : Prop := ∃ dx, H p = some (.ins C dx (shF q))
/-- small enough, the bottom above nought -/
def Bd (n : Nat) (q : Int × Int) : Prop := q.1.natAbs < 2 ^ n ∧ 0 < q.2 ∧ q.2.natAbs < 2 ^ n
theorem Sh.keep {C : Addr} {H H' : Hp} {p : Addr} {q : Int × Int} (s : Same H H') (h : Sh C H p q) : Sh C H' p q := let ⟨dx, e⟩ := h; ⟨dx, s _ _ e⟩
theorem log_lt {j : Int} {n : Nat} (h : j.natAbs < 2 ^ n) (h0 : 0 < n) (h9 : n ≤ 9000) : j.natAbs.log2 < 9000 := Nat.lt_of_lt_of_le (PySem.Flt.log2_lt_of h0 h) h9
/-- what is known of the class -/
structure Cl (K : PySem.W.Frag) (mg : Str → Option Value) (C : Addr) : Prop where
  cl : Cls K C
  nt : NoAttr K C "top"
  nb : NoAttr K C "bottom"
  g : mg "Share" = some (.ref C)
section
variable {P : Program} {w : World} {K : PySem.W.Frag} {mg : Str → Option Value} {base : Heap} {f C : Addr} {fd : FuncData}

def spWhole : Sp := fun vs H Q _ => ∃ n : Int, vs = [.int n] ∧ Q (.bl true) H
theorem ok_whole (F : Dn K d_is_whole f fd) (b : Bl mg) : FnOk P w K mg base CX0 1 f fd ["thing"] spWhole := by
  refine F.ok sc_is_whole (fun vs H Q E h => ?_) (fun cdv A outer s H vs Q E hr h => ?_)
  · obtain ⟨n, rfl, _⟩ := h
    rfl
  · obtain ⟨n, rfl, hQ⟩ := h
    refine ⟨_, PSs.nox (pss_one (ps_ret (pe_and
      (pe_callB call_isi rfl b.isi boot_isinstance (pa_cons (pv 0) (pa_cons (pe_bltn (v := .ty "int") rfl b.int boot_int rfl) pa_nil)))
      (pe_one (pe_not (pe_callB call_isi rfl b.isi boot_isinstance (pa_cons (pv 0) (pa_cons (pe_bltn (v := .ty "bool") rfl b.bool boot_bool rfl) pa_nil)))))))), ?_⟩
    refine ⟨_, rfl, _, _, _, _, true, rfl, ClsV.ty _, TyX.base (TyOf.int n), kit_ty (by decide +kernel), true, rfl, ?_⟩
    refine iteT ?_
    exact ⟨_, rfl, _, _, _, _, false, rfl, ClsV.ty _, TyX.base (TyOf.int n), kit_ty (by decide +kernel), false, rfl, hQ⟩
def spGcd : Sp := fun vs H Q _ => ∃ x y : Int, vs = [.int x, .int y] ∧ Q (.int (Int.gcd x y : Int)) H
theorem abs_eq (x : Int) : (if x < 0 then -x else x) = (x.natAbs : Int) := by split <;> omega
theorem ok_gcd (F : Dn K d_common_part f fd) (b : Bl mg) : FnOk P w K mg base CX0 1 f fd ["one", "other"] spGcd := by
  refine F.ok sc_common_part (fun vs H Q E h => ?_) (fun cdv A outer s H vs Q E hr h => ?_)
  · obtain ⟨x, y, rfl, _⟩ := h
    rfl
  · obtain ⟨x, y, rfl, hQ⟩ := h
    refine ⟨_, PSs.nox (pss_cons (ps_set (i := 0) sc_common_part.nd rfl (.inl rfl) (pe_callB call_abs rfl b.abs boot_abs (pa_cons (pv 0) pa_nil)))
      (pss_cons (ps_set (i := 1) sc_common_part.nd rfl (.inl rfl) (pe_callB call_abs rfl b.abs boot_abs (pa_cons (pv 1) pa_nil)))
      (pss_cons (ps_while PassesOwn.never (pt_cmpR op_ne (pv 1) pe_int (nomark _)) (pss_one (ps_par (i := 0) (j := 1) rfl sc_common_part.nd rfl rfl (by decide) rfl rfl (pa_cons (pv 1) (pa_cons (pe_op op_mod (pv 0) (pv 1)) pa_nil)) rfl)))
      (pss_one (ps_ret (pv 0)))))), ?_⟩
    refine ⟨_, rfl, _, rfl, _, rfl, _, rfl, while_by (fun σ H2 => H2 = H ∧ ∃ a c : Int, σ = [some (.int a), some (.int c)] ∧ 0 ≤ a ∧ 0 ≤ c ∧ Int.gcd a c = Int.gcd x y)
      (fun σ _ => match σ with | [_, some (.int c)] => c.toNat | _ => 0) ⟨rfl, _, _, rfl, ?_, ?_, ?_⟩ ?_ ?_⟩
    · split <;> omega
    · split <;> omega
    · rw [abs_eq, abs_eq]
      rfl
    · rintro σ H2 ⟨rfl, a, c, rfl, ha, hc, hg⟩
      refine ⟨_, rfl, rfl, _, rfl, ?_⟩
      by_cases h0 : c = 0
      · subst h0
        refine iteNS rfl ?_
        refine ⟨_, rfl, ?_⟩
        have e : Int.gcd x y = a.natAbs := by rw [← hg]; simp
        have e2 : (Int.gcd x y : Int) = a := by omega
        rw [e2] at hQ
        exact hQ
      · have hne : (!decide (V.int c = V.int 0)) = true := by simp [h0]
        rw [hne]
        refine iteT ?_
        have hp : 0 < c := by omega
        refine ⟨_, rfl, _, rfl, _, rfl, _, _, rfl, rfl, hp, _, _, rfl, ⟨rfl, _, _, rfl, hc, Int.emod_nonneg _ h0, ?_⟩, ?_⟩
        · rw [KM.gcd_turn ha hp, hg]
        · show (a % c).toNat < c.toNat
          have h1 := Int.emod_nonneg a h0
          have h2 := Int.emod_lt_of_pos a hp
          omega
    · rintro σ H2 Q1 Q2 hm ⟨v, hv, h1, k, hk, q⟩
      exact ⟨v, hv, h1, k, hk, hm _ _ q⟩
end
end K90
set_option Elab.async false
set_option linter.all false
set_option maxRecDepth 100000
set_option maxHeartbeats 4000000
/-! GXK: own exceptions over a base that has no __new__ of its own (KeyError: LookupError's is called). -/
namespace GXK
open PySem PySem.Spec L2 PySem.HandSPX
abbrev keT : List Value := [.type "KeyError", .type "LookupError", .type "Exception", .type "BaseException", .type "object"]
/-- what is asked of the base's own __init__ -/
structure InitF (B iid : String) (bmB : List Value) : Prop where
  entry : entryFor table iid = some Builtin.«BaseException.__init__»
  split : splitId iid = some (B, "__init__")
  kind : builtinKind iid = some .slot
  row : Manifest.signature? iid = some ⟨.positional, "*", B, .self, [⟨"args", .varPos, false⟩]⟩
  star : (B != "*") = true
  has : bmB.contains (.type B) = true
  init : Slot B "__init__" iid
/-- what is asked of the __new__ that is called -/
structure NewF (Bn nid inN : String) (bmN bmB : List Value) : Prop where
  base : ExcBaseFacts Bn nid inN bmN
  has : bmB.contains (.type Bn) = true
  noA : bmB.contains (.type "AttributeError") = false
  noN : bmB.contains (.type "NameError") = false
section
variable {prog : Program} {w : World} {M : Model} {A : Around} {E : Value → Shared → Prop} {R : Result → Shared → Prop} {h : Heap} {g : Array GenState} {d : Drawn} {t : Nat} {os : OsState}
variable {nm q : Str} {C N : Addr} {bs bm bmB bmN : List Value} {hdct : Bool} {sn : List Str} {sub : List Value} {ab : Bool} {col : Option Bool} {dd : Option Addr} {k0 k1 k2 k3 k5 : Option Value} {B Bn nid iid inN : String}
theorem new_checked (F : NewF Bn nid inN bmN bmB) (like : ∀ X : String, bm.contains (.type X) = bmB.contains (.type X)) {rest : List Value} {Q : Unit → Shared → Prop} (atC : h.get? C = some (excClassObj nm q C N bs bm hdct sn sub ab col dd k0 k1 k2 k3 k5 nid)) (post : Q () ⟨h, g, d, t, os⟩) : wpAny M A (checkBuiltinCall nid ⟨.ref C :: rest, []⟩) Q E ⟨h, g, d, t, os⟩ := by
  have yes : (Value.ref C :: bm).contains (.type Bn) = true := by rw [List.contains_cons, like, F.has, Bool.or_true]
  have hstar := F.base.noStar
  simp only [checkBuiltinCall, F.base.newKind, F.base.newSplit, F.base.newRow]
  repeat (first | refine wpAny_loadPart_at atC ?_ | (refine wpAny_isSubtype_exc atC ?_; rw [yes]) | refine wpAny_staticBase_exc atC ?_ | refine wpAny_madeBy_exc atC ?_ | simp only [bne_self_eq_false, Bool.false_eq_true, if_false] | wp_step)
  exact post
theorem init_checked (F : InitF B iid bmB) (like : ∀ X : String, bm.contains (.type X) = bmB.contains (.type X)) {e : Addr} {oe : Obj} {rest : List Value} {Q : Unit → Shared → Prop} (atC : h.get? C = some (excClassObj nm q C N bs bm hdct sn sub ab col dd k0 k1 k2 k3 k5 nid)) (ate : h.get? e = some oe) (clsC : oe.cls = .ref C) (post : Q () ⟨h, g, d, t, os⟩) : wpAny M A (checkBuiltinCall iid ⟨.ref e :: rest, []⟩) Q E ⟨h, g, d, t, os⟩ := by
  have yes : (Value.ref C :: bm).contains (.type B) = true := by rw [List.contains_cons, like, F.has, Bool.or_true]
  have hshort := F.star
  simp only [checkBuiltinCall, F.kind, F.split, F.row]
  repeat (first | (with_reducible refine wpAny_loadPart_at ate ?_; rw [clsC]) | with_reducible refine wpAny_loadPart_at atC ?_ | (with_reducible refine wpAny_isSubtype_exc atC ?_; rw [yes]) | wp_step)
  refine wpAny_onRaise ?_
  have star : ∀ (a b : String) (n : Nat), Bind.check ⟨.positional, "*", B, .self, [⟨"args", .varPos, false⟩]⟩ a b n (List.map (fun x => x.fst) ({ pos := Value.ref e :: rest } : Args).kw) = pure () := fun a b n => check_star_args _ _ _ _ _ _
  rw [star]
  exact wpAny_pure post
theorem made (F : NewF Bn nid inN bmN bmB) (like : ∀ X : String, bm.contains (.type X) = bmB.contains (.type X)) {rest : List Value} (atC : h.get? C = some (excClassObj nm q C N bs bm hdct sn sub ab col dd k0 k1 k2 k3 k5 nid))
    (post : R (.ok (.ret (.ref (h.objs.size + 1)))) ⟨(h.push (W.kdv_tup rest)).push (excO C h.objs.size), g, d, t, os⟩) (few : rest.length ≤ sizeLine) : codeAny (model prog w) A (.builtin nid ⟨.ref C :: rest, []⟩) R ⟨h, g, d, t, os⟩ := by
  have hends := F.base.ends
  have c1 : (Value.ref C :: bm).contains (.type Bn) = true := by rw [List.contains_cons, like, F.has, Bool.or_true]
  have c2 : (Value.ref C :: bm).contains (.type "AttributeError") = false := by rw [List.contains_cons, like, F.noA]; rfl
  have c3 : (Value.ref C :: bm).contains (.type "NameError") = false := by rw [List.contains_cons, like, F.noN]; rfl
  refine codeAny_builtinAt F.base.entry ?_
  unfold Builtin.«BaseException.__new__»; refine wpAt_bind ?_
  show wpAt _ _ _ (stack >>= _) _ _ _; refine wpAt_bind (wpAt_stack fun p below => wpAt_of_wpAny ?_)
  wp_walk
  refine wpAt_of_wpAny ?_
  rw [F.base.owner]
  repeat (first | with_reducible refine wpAny_madeHere_exc F.base.canon atC ?_ | with_reducible refine wpAny_loadPart_at atC ?_ | (with_reducible refine wpAny_isSubtype_exc atC ?_; first | rw [c1] | rw [c2] | rw [c3]) | wp_step)
  show R _ _
  rw [Heap.size_push]
  exact post
theorem type_called (F : NewF Bn nid inN bmN bmB) (like : ∀ X : String, bm.contains (.type X) = bmB.contains (.type X)) {rest : List Value} {fI : Addr} {Q : Fin → Shared → Prop} (atC : h.get? C = some (excClassObj nm q C N bs bm hdct sn sub ab col dd k0 k1 k2 k3 k5 nid))
    (hi : W.Looks (model prog w) h (typeLookup (.ref C) "__init__") (some (.ref fI))) (hb : ∀ self, W.Looks (model prog w) h (bindSpecial (.ref fI) self) (.ref fI, [self])) (few : rest.length ≤ sizeLine)
    (run : codeAny (model prog w) A (.call (.ref fI) ⟨.ref (h.objs.size + 1) :: rest, []⟩) (fun r s' => match r with | .ok (.ret v) => v = .none ∧ Q (.done (.ret (.ref (h.objs.size + 1)))) s' | .ok _ => False | .error e => E e s') ⟨(h.push (W.kdv_tup rest)).push (excO C h.objs.size), g, d, t, os⟩) :
    wpAny (model prog w) A (Builtin.«type.__call__» ⟨.ref C :: rest, []⟩) Q E ⟨h, g, d, t, os⟩ := by
  repeat (first | with_reducible refine wpAny_loadPart_at atC ?_ | with_reducible refine wpAny_madeBy_exc atC ?_ | wp_step)
  refine codeAny_call_builtin_code (Code.quiet_builtin _ F.base.quiet) (new_checked F like atC ?_)
  refine made F like atC ?_ few
  show wpAny _ _ _ _ _ _
  have keep : ∀ b o, h.get? b = some o → ((h.push (W.kdv_tup rest)).push (excO C h.objs.size)).get? b = some o := fun b o e => Heap.get?_push_of_some _ (Heap.get?_push_of_some _ e)
  have atC1 := keep _ _ atC
  have ate : ((h.push (W.kdv_tup rest)).push (excO C h.objs.size)).get? (h.objs.size + 1) = some (excO C h.objs.size) := by heap_get
  have own : (Value.ref C :: bm).contains (.ref C) = true := by simp
  have look := hi.keeps keep
  have bnd := (hb (.ref (h.objs.size + 1))).keeps keep
  unfold isInstance
  repeat (first | with_reducible refine wpAny_loadPart_at ate ?_ | (with_reducible refine wpAny_isSubtype_exc atC1 ?_; rw [own]) | wp_step)
  show wpAny _ _ (typeLookup (.ref C) _) _ _ _; refine look.at ?_
  refine wpAny_holding (wpAny_bind (bnd.at ?_)); refine wpAny_bind (wpAny_call (codeAny_mono run fun r s' z => ?_))
  rcases r with e | (v | _ | _ | _) <;> first | exact z | exact z.elim | skip
  obtain ⟨rfl, z⟩ := z
  first | exact wpAny_pure (wpAny_pure z) | (wp_walk; exact z)
theorem called (F : NewF Bn nid inN bmN bmB) (like : ∀ X : String, bm.contains (.type X) = bmB.contains (.type X)) {rest : List Value} {fI : Addr} (atC : h.get? C = some (excClassObj nm q C N bs bm hdct sn sub ab col dd k0 k1 k2 k3 k5 nid))
    (hi : W.Looks (model prog w) h (typeLookup (.ref C) "__init__") (some (.ref fI))) (hb : ∀ self, W.Looks (model prog w) h (bindSpecial (.ref fI) self) (.ref fI, [self])) (few : rest.length ≤ sizeLine)
    (run : codeAny (model prog w) (A.under (.builtin "type.__call__" ⟨.ref C :: rest, []⟩)) (.call (.ref fI) ⟨.ref (h.objs.size + 1) :: rest, []⟩) (W.InitBack (h.objs.size + 1) R) ⟨(h.push (W.kdv_tup rest)).push (excO C h.objs.size), g, d, t, os⟩) : codeAny (model prog w) A (.call (.ref C) ⟨rest, []⟩) R ⟨h, g, d, t, os⟩ := by
  have f1 := tc_lookup
  have f2 := tc_bind (.ref C)
  have hTy : (⟨h, g, d, t, os⟩ : Shared).TypeIs (.ref C) "type" := ⟨_, atC, rfl⟩
  refine codeAny_of_tree ?_
  show wpAny _ _ (callAny (.ref C) _) _ _ _
  repeat (any_goals (first | assumption | with_reducible refine wpAny_loadPart_at atC ?_ | wp_step))
  refine ⟨rfl, codeAny_call_builtin_at (Code.quiet_builtin _ (by decide +kernel)) entry_typeCall (wpAny_check_type_call_sub atC (type_called F like atC hi hb few (codeAny_mono run fun r s' z => ?_)))⟩
  rcases r with e | (v | _ | _ | _) <;> exact z
theorem inited (F : InitF B iid bmB) (like : ∀ X : String, bm.contains (.type X) = bmB.contains (.type X)) {e t0 : Addr} {rest : List Value} (atC : h.get? C = some (excClassObj nm q C N bs bm hdct sn sub ab col dd k0 k1 k2 k3 k5 nid)) (ate : h.get? e = some (excO C t0)) (few : rest.length ≤ sizeLine)
    (post : ∀ h' t1, (∀ b o, b ≠ e → h.get? b = some o → h'.get? b = some o) → h'.get? e = some (excO C t1) → R (.ok (.ret .none)) ⟨h', g, d, t, os⟩) : codeAny (model prog w) A (.call (.builtin iid) ⟨.ref e :: rest, []⟩) R ⟨h, g, d, t, os⟩ := by
  refine codeAny_call_builtin F.init.plain F.entry (init_checked F like atC ate rfl ?_)
  wp_walk
  refine post _ h.objs.size (fun b o hb ho => by rw [Heap.get?_update_other _ _ (Ne.symm hb)]; exact Heap.get?_push_of_some _ ho) ?_
  rw [Heap.get?_update_self _ (Heap.get?_push_of_some _ ate) rfl]; rfl
end
open PyProof.Rows
section
variable {X : Cx} {pins : List (Addr × Obj)} {σ : L2.St} {H : Hp} {s : Shared} {a C : Addr} {E : Value → Shared → Prop} {A : Around} {B Bn nid iid inN : String} {bmB bmN : List Value}
theorem base_init {us : List Value} {Q : Value → Shared → Prop} (FB : InitF B iid bmB) (T : GX.Gx X.K C bmB nid) (I : Inv X pins σ H s) (e : H a = some (exo a C none)) (few : us.length ≤ sizeLine) (post : ∀ s', Inv X pins σ H s' → Q .none s') : wpAny (model X.prog X.w) A (call (.builtin iid) (.ref a :: us)) Q E s := by
  obtain ⟨nm, N, qn, bs, bm, hdct, sn, sub, ab, col, dd, k0, k1, k2, k3, k5, hC, hT⟩ := PySem.W.excInit_of I.kIn T.made
  obtain ⟨t1, at1⟩ := exo_at I.hok e
  obtain ⟨hp, g, d, t, os⟩ := s
  refine wpAny_call (inited FB hT hC at1 few fun h' t2 kp hx => ?_)
  have J := I.write (t' := t) (x := a) (e := a) (o := exo a C none) (by rw [e]; exact True.intro) (.inl rfl) kp ⟨_, hx⟩ (exo_ok hx)
  have same : upd H a (exo a C none) = H := funext fun b => by
    by_cases hb : b = a
    · rw [hb, upd_same, e]
    · rw [upd_ne hb]
  rw [same] at J
  exact post _ J
end
section
variable {X : Cx} {e : Expr} {es : List Expr} {ta : TA} {p p1 p2 pos : Pos} {B Bn nid iid inN : String} {bmB bmN : List Value} {x : Str}
/-- Base.__init__(self, ..) -/
theorem pe_bi {pl : Sem Bool} (FB : InitF B iid bmB) (hg : Gl X x) (hm : X.mg x = none) (hv : bootBuiltins x = some (.type B)) (ty : typeOf (.type B) = pure (.type "type"))
    (vV : PySem.W.findCls X.K (.type B) (.type "type") "__init__" = some (.val (.builtin iid))) (hb : PySem.W.handedIn (.builtin iid) = true) (hst : Manifest.isStub B = false) (ha : PA X (e :: es) ta)
    (hc : eval (.Call (.Attribute (.Name x p1) "__init__" p2) (e :: es) [] pos) X.env = (do
      let ov ← eval (.Name x p1) X.env
      standAt p2.atName
      let (f, first) ← holding [ov] (getMethod ov "__init__" pl)
      callWith pos f first (backTo pos (starEach (e :: es) X.env)) (backToKw pos (keywordEach [] X.env))) := by rfl)
    (hn : x ≠ "__name__" := by decide) (hd : (x == ("__debug__" : Str)) = false := by decide)
    (he : starEach (e :: es) X.env = (false, eval e X.env) :: starEach es X.env := by rfl) (hpl : (backTo pos (starEach es X.env)).any (·.1) = false := by rfl) :
    PE X (.Call (.Attribute (.Name x p1) "__init__" p2) (e :: es) [] pos) (GX.tBi X.K bmB nid ta) := by
  refine ⟨fun pins s σ H Q I h => ?_⟩
  refine PySem.W.methodCall_KW (ld_blt I hg hm hv ?_ hn hd) hc
  obtain ⟨m, fr⟩ := I.fr
  refine PySem.W.method_type fr I.ok.mod.kin ty hst vV hb ?_
  show wpAny _ _ (callWith pos (Value.builtin iid) [] (backTo pos (starEach (e :: es) X.env)) []) _ _ _
  refine PyProof.Rows.callWith_method1 (thn (ha.run pos pins _ σ H _ (I.tok _) h) fun us s1 hh => ?_) he hpl
  obtain ⟨vs, H1, I1, r1, a, C, ws, ev, hl, T, ea, q⟩ := hh
  subst ev
  cases r1 with
  | @cons _ u0 _ ur ra rw' =>
    obtain rfl : u0 = Value.ref a := ra
    have few : ur.length ≤ sizeLine := by
      have := Paired.length rw'
      rw [sizeLine_eq]
      omega
    exact base_init FB T I1 ea few fun s' J => ⟨.non, H1, J, rfl, q⟩
/-- C(e, ..) as what is raised -/
theorem pmk {CX : CXT} {C fI : Addr} {k : Nat} {fd : FuncData} {ps : List Str} {sp : Sp} {ds : List Value} {dvs : List V} (FB : NewF Bn nid inN bmN bmB) (T : GX.Gx X.K C bmB nid) (iC : PySem.W.findIn X.K (.ref C) "__init__" = some (some (.ref fI)))
    (tI : PySem.W.typeIn X.K (.ref fI) = some (.type "function"))
    (F1 : FnOk X.prog X.w X.K X.mg X.base CX k fI fd ps sp) (hr : Room (k + 1) X.A) (hb : Binds X.K fd ps ds) (hd : Vals dvs ds) (hx : Passes CX X (fun _ _ _ => False)) (hg : Gl X x) (hm : X.mg x = some (.ref C)) (ha : PA X (e :: es) ta)
    (hdb : (x == ("__debug__" : Str)) = false := by decide) (he : starEach (e :: es) X.env = (false, eval e X.env) :: starEach es X.env := by rfl) (hpl : (backTo pos (starEach es X.env)).any (·.1) = false := by rfl) :
    PMk X (.Call (.Name x p) (e :: es) [] pos) (tMkO C sp dvs ta) := by
  intro pins s σ H Q I h
  refine wpAny_Call_Name_kw (ld_glob I hg hm ?_ hdb)
  refine PySem.W.callWith_K (h₀ := X.base) I.ok.mod.kin T.keep (thn (ha.run pos pins s σ H _ I h) fun us s1 hh => ?_) he hpl
  obtain ⟨vs, H1, I1, r1, hz, q1⟩ := hh
  refine ⟨I1.kIn, ?_⟩
  show wpAny _ _ (call (.ref C) us) _ _ _
  obtain ⟨nm, N, qn, bs, bm, hdct, sn, sub, ab, col, dd, k0, k1, k2, k3, k5, hC, hT⟩ := PySem.W.excInit_of I1.kIn T.made
  obtain ⟨hp, g, dr, tk, os⟩ := s1
  have big : hp.objs.size ≤ hp.objs.size + 1 := Nat.le_succ _
  have hq := q1 (hp.objs.size + 1) (I1.hok.fresh big)
  have kk : ∀ b o, hp.get? b = some o → ((hp.push (PySem.W.kdv_tup us)).push (excO C hp.objs.size)).get? b = some o := fun b o z => Heap.get?_push_of_some _ (Heap.get?_push_of_some _ z)
  have there : ((hp.push (PySem.W.kdv_tup us)).push (excO C hp.objs.size)).get? (hp.objs.size + 1) = some (excO C hp.objs.size) := by heap_get
  have I2 := I1.laid (t' := tk) (a := hp.objs.size + 1) (o := exo (hp.objs.size + 1) C none) (h' := (hp.push (PySem.W.kdv_tup us)).push (excO C hp.objs.size)) kk big (exo_ok there)
  have r2 : Vals (V.ref (hp.objs.size + 1) :: (vs ++ dvs)) (Value.ref (hp.objs.size + 1) :: (us ++ ds)) := .cons rfl (r1.append hd)
  have hl : (Value.ref (hp.objs.size + 1) :: us ++ ds).length = ps.length := by
    have e1 := r2.length
    rw [F1.len _ _ _ _ hq] at e1
    exact e1.symm
  have few : us.length ≤ sizeLine := by
    have := Paired.length r1
    rw [sizeLine_eq]
    omega
  refine wpAny_call (called FB hT hC (PySem.W.looks_findIn I1.kIn iC) (fun self => PySem.W.bind_fn I1.kIn self tI) few (codeAny_mono
    (F1.run _ X.stack _ _ ⟨Value.ref (hp.objs.size + 1) :: us, []⟩ (Value.ref (hp.objs.size + 1) :: (us ++ ds)) _ _ (fun _ _ _ => False) (hr.make C us []) (I2.env0.make C us []) (hb _ (Value.ref (hp.objs.size + 1) :: us) I2.kIn hl) r2 hq) fun r s' hq' => ?_))
  cases r with
  | error er => exact hx pins σ _ _ er s' I2 hq'
  | ok fl =>
    cases fl with
    | ret u =>
      obtain ⟨v, H2, os2, bare2, un2, hok2, rv, ev, d, fs, ea, ed, hd1, q2⟩ := hq'
      subst ev
      obtain ⟨h2, g2, d2, t2, os'⟩ := s'
      exact ⟨rv, mk_end (raises_own T.base T.typ) I1 big kk un2 hok2 os2 bare2 ea ed hd1 q2⟩
    | next => exact False.elim hq'
    | brk => exact False.elim hq'
    | cont => exact False.elim hq'
end
/-! KeyError -/
theorem initKE : InitF "KeyError" "KeyError.__init__" keT where
  entry := excClass_KeyError.initEntry
  split := by decide +kernel
  kind := by decide +kernel
  row := by kernel_rfl
  star := by decide +kernel
  has := by decide +kernel
  init := excClass_KeyError.init
theorem newKE : NewF "LookupError" "LookupError.__new__" "LookupError.__init__" [.type "LookupError", .type "Exception", .type "BaseException", .type "object"] keT where
  base := PySem.F.excBase_LookupError
  has := by decide +kernel
  noA := by decide +kernel
  noN := by decide +kernel
theorem storeKE : StoreFacts "KeyError" keT "object.__setattr__" "object" where
  mro := by kernel_rfl
  slot := .of (owner := "object") (n := "__setattr__") (by rw [typeLookup_type, builtinLookup_eq_fast]; kernel_rfl) (by decide +kernel) (by decide +kernel) (by decide +kernel) (by first | exact .inl (by decide +kernel) | exact .inr (by decide +kernel)) (by rw [isSubtype_type]; kernel_rfl)
  entry := PySem.F.store_ZeroDivisionError.entry
  kind := by decide +kernel
  split := by decide +kernel
  hasOwner := by decide +kernel
  args := fun a b c => by unfold argsOk; kernel_rfl
  passes := fun self => by kernel_rfl
theorem typKE : typeOf (.type "KeyError") = pure (.type "type") := by kernel_rfl
end GXK
set_option Elab.async false
set_option linter.all false
set_option maxRecDepth 100000
set_option maxHeartbeats 4000000
/-! EXV: a caught exception that is kept behind its except clause: isinstance of it, its fields. -/
namespace EXV
open PySem PySem.Spec PyProof.Rows L2
/-- an exception object at a, of the class cls, with the dict d -/
def XcP (cls : Value) (d : Option Addr) (a : Addr) (h : Heap) : Prop := ∃ (oe : Obj) (vs : Array Value), h.get? a = some oe ∧ Zc cls d oe ∧ oe.data = .fields vs
def Xc (cls : Value) (d : Option Addr) (a : Addr) : HO := .ext (XcP cls d a)
theorem xc_ok {P : Program} {w : World} {H : Hp} {h : Heap} {a : Addr} {cls : Value} {d : Option Addr} {oe : Obj} {vs : Array Value} (g : h.get? a = some oe) (z : Zc cls d oe) (f : oe.data = .fields vs) : ObjOk P w H h a (Xc cls d a) :=
  ⟨⟨oe, vs, g, z, f⟩, ⟨oe, g⟩, fun h1 h2 ⟨u, v, g1, z1, f1⟩ k => ⟨u, v, k u g1, z1, f1⟩⟩
theorem xc_at {P : Program} {w : World} {H : Hp} {h : Heap} {a : Addr} {cls : Value} {d : Option Addr} (ok : HOk P w H h) (e : H a = some (Xc cls d a)) : XcP cls d a h := by
  have x : ObjOk P w H h a (.ext (XcP cls d a)) := ok a _ e
  exact x.1
theorem xc_lst {a b : Addr} {cls : Value} {d : Option Addr} {xs : List V} {H : Hp} (e : H a = some (Xc cls d a)) (e2 : H b = some (.lst xs)) : a ≠ b := fun z => by
  rw [z, e2] at e
  have e' : HO.lst xs = HO.ext (XcP cls d b) := Option.some.inj (z ▸ e)
  cases e'
section
variable {X : Cx} {pins : List (Addr × Obj)} {σ : L2.St} {H : Hp} {s : Shared}
theorem into_suite (I : Inv X pins σ H s) (a : Addr) : Inv (X.suite a (X.pn ++ pins)) [] σ H s where
  ok := I.ok.suite a (X.pn ++ pins)
  os := I.os
  bare := I.bare
  base := I.base
  loc := I.loc
  cell := I.cell
  free := I.free
  freeC := I.freeC
  pin := fun p hp => I.pin p (by simpa using hp)
  hok := I.hok
  len := I.len
theorem out_suite {a : Addr} {ps : List (Addr × Obj)} (I : Inv (X.suite a (X.pn ++ pins)) ps σ H s) (good : X.Ok) : Inv X pins σ H s where
  ok := good
  os := I.os
  bare := I.bare
  base := I.base
  loc := I.loc
  cell := I.cell
  free := I.free
  freeC := I.freeC
  pin := fun p hp => I.pin p (List.mem_append_left ps hp)
  hok := I.hok
  len := I.len
end
/-- what an except clause that keeps the exception wishes of the body: slot i is the clause's name -/
def wKeep (K : PySem.W.Frag) (c : Value) (i : Nat) (ts : Addr → Value → Option Addr → TS) (Wout : WX) (D : Ends) : WX := fun cls d σ H => ∃ b, PySem.W.exmOne K cls c = some b ∧
  (b = true → ∀ a, H a = none → ts a cls d { nx := fun σ' H' => D.nx (σ'.set i none) H', rt := D.rt, bk := fun σ' H' => D.bk (σ'.set i none) H', ct := fun σ' H' => D.ct (σ'.set i none) H' } (σ.set i (some (.ref a))) (upd H a (Xc cls d a))) ∧ (b = false → Wout cls d σ H)
section
variable {X : Cx} {x n : Str} {c : Value} {i : Nat} {body suite : List Stmt} {b₀ : Stmt} {np pos pos' : Pos} {tb : WX → TS} {ts : Addr → Value → Option Addr → TS} {Wout : WX}
theorem ps_try_keep (stk : X.stack = X.env :: X.outer) (frm : X.env.frame = some X.env.locals) (nod : X.N.Nodup) (at_ : X.N[i]? = some n) (kln : X.env.kindOf n = some .local) (nm : Names X x c) (out : Takes X Wout)
    (bdy : ∀ (W : WX) (pn : List (Addr × Obj)) (xe : Value → Shared → Prop), Takes (X.tr pn xe) W → PassesOwn (model X.prog X.w) X.A X.env xe → PSs (X.tr pn xe) body (tb W))
    (sui : ∀ (a : Addr) (cls : Value) (d : Option Addr) (pn : List (Addr × Obj)), PSs (X.suite a pn) (b₀ :: suite) (ts a cls d)) :
    PS X (.Try body [.ExceptHandler (some (.Name x np)) (some n) (b₀ :: suite) pos'] [] [] pos) (fun D σ H => tb (wKeep X.K c i ts Wout D) D σ H) := by
  refine ⟨fun pins s σ H D I h => ?_⟩
  have good := I.ok
  have frs2 : X.A.frames = some (X.env :: X.outer) := by rw [good.frames, stk]
  have isLoc : Loc X.env.scope n := .inl kln
  have start := (bdy (wKeep X.K c i ts Wout D) (X.pn ++ pins) (fun e s₁ => wpAny (model X.prog X.w) X.A (noteFrame e X.env) (fun _ s₂ => wpAny (model X.prog X.w) X.A (setFlight e none)
      (fun _ s₃ => wpAny (model X.prog X.w) X.A (handleBy e X.env [.ExceptHandler (some (.Name x np)) (some n) (b₀ :: suite) pos']) (SP X pins D) X.xe s₃) X.xe s₂) X.xe s₁) (fun u s' xx => ?_) PassesOwn.looking).run [] s σ H D (I.toTry _) h
  · refine wpAny_Try_except (wpAny_mono start (fun f s1 fin => ?_) fun _ _ he => he)
    cases f with
    | next =>
      obtain ⟨σ1, H1, J1, q1⟩ := fin
      exact wpAny_execs_nil ⟨σ1, H1, J1.ofTry good, q1⟩
    | brk =>
      obtain ⟨σ1, H1, J1, q1⟩ := fin
      exact ⟨σ1, H1, J1.ofTry good, q1⟩
    | cont =>
      obtain ⟨σ1, H1, J1, q1⟩ := fin
      exact ⟨σ1, H1, J1.ofTry good, q1⟩
    | ret u =>
      obtain ⟨v1, σ1, H1, J1, r1, q1⟩ := fin
      exact ⟨v1, σ1, H1, J1.ofTry good, r1, q1⟩
  -- what the body lets out
  obtain ⟨a, B, sI, pins', σ', H', cls, d, rfl, J0, nb, up, sky0, na, os, ag, b, tst, yes, no⟩ := xx
  have J : Inv X pins σ' H' sI := J0.ofTry good
  have sky : Sky B (X.env :: X.outer) a (Zc cls d) X.env.locals s'.heap := by rw [← stk]; exact sky0
  show wpAny (model X.prog X.w) X.A (noteFrame (.ref a) X.env) _ _ _
  refine Sky.land Zc.steady frs2 frm sky fun h3 fl3 up3 => ?_
  have J3 : Inv X pins σ' H' { s' with heap := h3 } := J.landed nb fl3.1 (up.trans up3) os ag
  obtain ⟨oe3, vs3, he3, hz3, hd3⟩ := fl3.there
  have notFr : a ∉ frs (X.env :: X.outer) := fun hm => by
    obtain ⟨_, o', e', hnf⟩ := fl3.2.2.1.mem hm
    rw [he3] at e'
    cases e'
    exact hnf _ hd3
  have Ba : B.get? a = none := fl3.2.1
  -- the heap without it
  have cut : ∀ {h4 : Heap}, B.StaysIn h4 → s'.heap.UpToSlots h4 → ∃ G : Heap, (∀ b o, G.get? b = some o → h4.get? b = some o) ∧ G.get? a = none ∧ Inv X pins σ' H' { s' with heap := G } := fun {h4} st4 up4 => by
    obtain ⟨G, g1, g2⟩ := restrict h4 fun b => decide (b ≠ a)
    have ga : G.get? a = none := g2 a (decide_eq_false fun z => z rfl)
    have ge : ∀ b, b ≠ a → G.get? b = h4.get? b := fun b hb => g1 b (decide_eq_true hb)
    have keepB : B.StaysIn G := fun b o e => by
      rw [ge b fun z => by rw [z, Ba] at e; cases e]
      exact st4 b o e
    have upG : sI.heap.UpToSlots G := fun b o e nf => by
      have hb : b ≠ a := fun z => by
        have := nb a o (z ▸ e) (by rw [stk]; exact notFr)
        rw [Ba] at this
        cases this
      rw [ge b hb]
      exact (up.trans up4) b o e nf
    refine ⟨G, fun b o e => ?_, ga, J.landed (s' := { s' with heap := G }) nb keepB upG os ag⟩
    by_cases hb : b = a
    · rw [hb, ga] at e
      cases e
    · rw [← ge b hb]
      exact e
  have S3 := into_suite J3 a
  refine wpAny_handleBy_cons (codeAny_handlers_test ?_) (by intro q; cases q)
  have typed : PySem.W.Looks (model X.prog X.w) h3 (typeOf (.ref a)) cls := fun A Q E s k q => wpAny_typeOf_ref (k _ _ he3) (by rw [hz3.1]; exact q)
  have matched := PySem.W.exm_one (M := model X.prog X.w) (J3.kIn) typed tst
  have named : ∀ {Q : Value → Shared → Prop} {E : Value → Shared → Prop}, Q c { s' with heap := h3 } → wpAny (model X.prog X.w) (X.A.mark (some (.ref a))) (eval (.Name x np) X.env) Q E { s' with heap := h3 } := fun {Q E} q => by
    obtain ⟨hg, hdbg, hm | ⟨hm, hv, hnn⟩⟩ := nm
    · exact ld_glob (X := X.suite a (X.pn ++ pins)) S3 hg hm q hdbg
    · exact ld_blt (X := X.suite a (X.pn ++ pins)) S3 hg hm hv q hnn hdbg
  refine named (matched.here ?_)
  cases b with
  | true =>
    refine codeAny_handlers_suite_as ?_
    refine HandSPX.lands_againZ fl3 fun h4 fl4 up4 => ?_
    obtain ⟨oe4, vs4, he4, hz4, hd4⟩ := fl4.there
    obtain ⟨G, gk, ga, JG⟩ := cut fl4.1 (up3.trans up4)
    have JK : Inv X pins σ' (upd H' a (Xc cls d a)) { s' with heap := h4 } := JG.laidN (t' := s'.toks) (h' := h4) gk ga na (xc_ok he4 hz4 hd4)
    refine store_ok (X := X.suite a (X.pn ++ pins)) (v := .ref a) (into_suite JK a) nod at_ isLoc rfl (fun s5 S5 => ?_) (.inr kln)
    refine wpAny_mono ((sui a cls d (X.pn ++ pins)).run [] s5 _ _ _ S5 (yes rfl a na)) (fun f s6 fin => ?_) (fun _ _ z => False.elim z)
    have ends : ∀ {σ6 : L2.St} {H6 : Hp} {Q : Shared → Prop}, Inv (X.suite a (X.pn ++ pins)) [] σ6 H6 s6 → (∀ s7, Inv X pins (σ6.set i none) H6 s7 → Q s7) →
        wpAny (model X.prog X.w) X.A (do bindName X.env n .none; unbindBehindTheSuite X.env n pos') (fun _ s7 => Q s7) X.xe s6 := fun {σ6 H6 Q} S6 hq => gone_ok (out_suite S6 good) nod at_ kln hq
    cases f with
    | next =>
      obtain ⟨σ6, H6, S6, q6⟩ := fin
      exact ends S6 fun s7 J7 => ⟨_, _, J7, q6⟩
    | brk =>
      obtain ⟨σ6, H6, S6, q6⟩ := fin
      exact ends S6 fun s7 J7 => ⟨_, _, J7, q6⟩
    | cont =>
      obtain ⟨σ6, H6, S6, q6⟩ := fin
      exact ends S6 fun s7 J7 => ⟨_, _, J7, q6⟩
    | ret u =>
      obtain ⟨v6, σ6, H6, S6, r6, q6⟩ := fin
      exact ends S6 fun s7 J7 => ⟨_, _, _, J7, r6, q6⟩
  | false =>
    show wpAny _ X.A (handleBy (.ref a) X.env []) _ _ _
    refine wpAny_handleBy_nil ?_
    obtain ⟨k1, k2, k3, oe, vs, T, oT, ts', he, hz, hd, h1, hr⟩ := id fl3
    unfold PySem.passOn
    refine wpAny_bind (wpAny_field he hd h1 ?_)
    rw [if_neg (show ¬ ((Value.ref T == Value.none) = true) from by simp)]
    have fin : wpAny (model X.prog X.w) X.A (setFlight (.ref a) X.env.frame) (fun _ s4 => wpAny (model X.prog X.w) X.A (throw (.ref a) : Sem Flow) (SP X pins D) X.xe s4) X.xe { s' with heap := h3 } := by
      rw [frm]
      refine HandSPX.setFlight_upZ fl3 fun h4 hh4 up4 => wpAny_throw (out _ _ ?_)
      exact ⟨a, B, sI, pins, σ', H', cls, d, rfl, J, nb, (up.trans up3).trans up4, .inr (.inr (by rw [stk]; exact hh4)), na, os, ag, no rfl⟩
    first
      | exact wpAny_bind (wpAny_pure (wpAny_bind fin))
      | exact wpAny_bind fin
end
end EXV
set_option Elab.async false
set_option linter.all false
set_option maxRecDepth 100000
set_option maxHeartbeats 4000000
/-! EXW: isinstance of a kept exception, and its fields -/
namespace EXW
open PySem PySem.Spec PySem.Calls PyProof.Rows
section
open PySem.W
variable {prog : Program} {w : World} {A : Around} {E : Value → Shared → Prop} {s : Shared} {K : Frag} {x D : Addr} {ox : Obj} {od : Option Obj}
theorem bound {C : Addr} {m : Str} {a g : Value} (hc : (clsIn K C).isSome = true) (ha : findIn K (.ref C) m = some (some a)) (hg : specialIn K a "__get__" = some (some g)) (ht : takesIn K a = some true) : findObj K C od m = some (.bind g a) := by
  obtain ⟨cd, hc⟩ := Option.isSome_iff_exists.mp hc
  simp only [findObj, hc, ha, hg, ht, Option.bind_some]
theorem cls_of {Q : Option Value → Shared → Prop} (X : L2.ExcC K D) (kin : K.In s.heap) (I : InstAt s.heap x ox D od) (post : Q (some (.ref D)) { s with toks := s.toks + 1 }) : wpAny (model prog w) A (getAttr? (.ref x) "__class__") Q E s := by
  have hf : findObj K D od "__class__" = some (.bind (.builtin "getset_descriptor.__get__") (.builtin "object.__class__")) := bound (by obtain ⟨cd, hc, _⟩ := any_some X.hd; rw [hc]; rfl) X.ha X.hn X.ht
  obtain ⟨hp, g, d, t, os⟩ := s
  have t0 := I.type (M := model prog w)
  have g1 := looks_findIn (M := model prog w) kin X.hg
  have g2 := looks_findIn (M := model prog w) kin X.hk
  have g3 := looks_find (M := model prog w) kin I hf
  have exc : Looks (model prog w) hp (isInstance (.ref x) (.type "BaseException")) true := t0.andThen (looks_subIn kin X.hs)
  have no1 : (Value.builtin "BaseException.__getattribute__" == Value.builtin "object.__getattribute__") = false := by decide +kernel
  have no2 : (onTheHeap (Value.ref D) && Value.builtin "BaseException.__getattribute__" == Value.builtin "object.__getattribute__") = false := by rw [no1]; rfl
  have no3 : (false && onTheHeap (Value.builtin "BaseException.__getattribute__")) = false := rfl
  unfold getAttr? getAttrBy? getAttrBy
  refine wpAny_bind (wpAny_mkText (wpAny_bind (wpAny_attempt (wpAny_holding (wpAny_bind (t0.at (wpAny_bind (g1.at ?_))))))))
  show wpAny _ _ (if (onTheHeap (Value.ref D) && Value.builtin "BaseException.__getattribute__" == Value.builtin "object.__getattribute__") = true then _ else _) _ _ _; rw [no2, if_neg Bool.false_ne_true]
  unfold getAttrByItsOwn hookBefore; refine wpAny_bind ?_
  rw [if_pos (show onTheHeap (Value.ref D) = true from rfl)]; refine g2.at ?_
  refine wpAny_bind (wpAny_attempt (wpAny_holding ?_)); unfold callGetattribute
  rw [no3, if_neg Bool.false_ne_true]; unfold boundAndCalled
  rw [PySem.F.excAttr_ValueError.ga.bind (.ref x)]; refine wpAny_bind (wpAny_pure ?_)
  show wpAny _ _ (call (.builtin "BaseException.__getattribute__") [.ref x, .str "__class__" t]) _ _ _; refine wpAny_call (codeAny_call_builtin PySem.F.excAttr_ValueError.ga.plain PySem.F.entry_bexc_ga ?_)
  refine @check_slot (model prog w) _ _ ⟨hp, g, d, t + 1, os⟩ "BaseException.__getattribute__" "BaseException" "__getattribute__" (.ref x) [.str "__class__" t] [] _ (by decide +kernel) (by decide +kernel) exc (PySem.F.args_bexc_ga (.ref x) (.str "__class__" t)) ?_
  unfold Builtin.«object.__getattribute__»; refine wpAny_bind (wpAny_of_eq (a := ((Value.ref x : Value), [Value.str "__class__" t])) (by first | rfl | (simp only [slotArgs]; rfl)) ?_)
  refine wpAny_bind (wpAny_pure (wpAny_bind (t0.at (wpAny_bind (g3.at ?_)))))
  show wpAny _ _ (holding [Value.builtin "object.__class__"] (call (.builtin "getset_descriptor.__get__") [.builtin "object.__class__", .ref x, .ref D]) >>= ret) _ _ _; refine wpAny_bind (wpAny_holding (wpAny_call (class_get (s := ⟨hp, g, d, t + 1, os⟩) (ox := ox) (od := od) kin I X.hm ?_)))
  refine wpAny_pure ?_; show wpAny _ _ (handedOut (.ref D)) _ _ _
  rw [handedOut_of (v := .ref D) rfl]
  first | exact wpAny_pure (wpAny_pure post) | exact wpAny_pure post | exact wpAny_pure (wpAny_bind (wpAny_pure (wpAny_pure post)))
theorem kit_of (X : L2.ExcC K D) : KitX K (.ref x) (.ref D) (fun h => ∃ ox od, InstAt h x ox D od) where
  ty := fun _ _ _ ⟨_, _, I⟩ => I.type
  it := fun _ _ kin _ => by
    obtain ⟨cdD, hcD, _⟩ := any_some X.hd
    unfold clsIn at hcD
    split at hcD
    · rename_i c' d' cd' sl' ho
      intro A' Q' E' s' k q; unfold isType loadHead
      exact wpAny_bind (wpAny_loadPart (k _ _ (kin _ _ ho)) (wpAny_pure q))
    · cases hcD
  ne := fun h tp dd its n sl kin htp => by
    obtain ⟨cdD, hcD, _⟩ := any_some X.hd
    refine Bool.eq_false_iff.mpr fun q => ?_
    obtain rfl : D = tp := Value.ref.inj (beq_iff_eq.mp q)
    unfold clsIn at hcD
    split at hcD
    · rename_i c' d' cd' sl' ho
      cases (kin _ _ ho).symm.trans htp
    · cases hcD
  ca := fun kin ⟨_, _, I⟩ k => cls_of X kin I k
end
open L2 EXV
/-- the dict of a kept exception, if it has one, is ours too -/
def Dct (H : Hp) (d : Option Addr) : Prop := d = none ∨ ∃ (dd : Addr) (fs : List (Str × V)), d = some dd ∧ H dd = some (.xd fs)
section
variable {X : Cx} {pins : List (Addr × Obj)} {σ : L2.St} {H : Hp} {s : Shared} {a D : Addr} {d : Option Addr}
theorem inst (I : Inv X pins σ H s) (e : H a = some (Xc (.ref D) d a)) (hd : Dct H d) : ∃ ox od, PySem.W.InstAt s.heap a ox D od ∧ ∀ dd fs, d = some dd → H dd = some (.xd fs) → ∃ (o : Obj) (mA : Str → Option Value), od = some o ∧ (∀ m, RelO (fs.lookup m) (mA m)) ∧ ∀ m, PySem.W.lookIn m o = some (mA m) := by
  obtain ⟨oe, vs, g, z, f⟩ := xc_at I.hok e
  have nc : PySem.W.notCls oe = true := by unfold PySem.W.notCls; rw [f] <;> rfl
  rcases hd with rfl | ⟨dd, fs, rfl, hx⟩
  · exact ⟨oe, none, ⟨g, z.1, nc, by rw [z.2]; trivial⟩, fun dd fs e => by cases e⟩
  · have hx' : ObjOk X.prog X.w H s.heap dd (.xd fs) := I.hok dd _ hx
    obtain ⟨mA, hns, hr⟩ := hx'
    obtain ⟨o, ho, hl⟩ := lookIn_ns hns
    refine ⟨oe, some o, ⟨g, z.1, nc, by rw [z.2]; exact ho⟩, fun dd' fs' e1 e2 => ?_⟩
    cases e1
    rw [hx] at e2
    cases e2
    exact ⟨o, mA, rfl, hr, hl⟩
/-- isinstance(e, c) of a kept exception -/
def rIsK (K : PySem.W.Frag) : List V → Hp → VK → Prop := fun xs H Q => ∃ (a D : Addr) (d : Option Addr) (c : V) (cv : Value) (b : Bool), xs = [.ref a, c] ∧ H a = some (Xc (.ref D) d a) ∧ Dct H d ∧ ExcC K D ∧ (∀ u, RelV c u → u = cv) ∧ PySem.W.kitOne K (.ref D) cv = some b ∧ Q (.bl b) H
theorem call_isK : CallR X (.builtin "isinstance") (rIsK X.K) := by
  intro pins s σ H xs us Q I r h
  obtain ⟨a, D, d, c, cv, b, rfl, ea, hd, C, hcv, e, q⟩ := h
  match us, r with
  | [_, _], .cons rx (.cons rt .nil) =>
    cases rx
    have ec := hcv _ rt
    subst ec
    obtain ⟨ox, od, J, _⟩ := inst I ea hd
    exact PySem.W.kia_one (kit_of C) I.kIn ⟨ox, od, J⟩ e (fun z => nomatch z) fun tk => ⟨.bl b, H, I.kept (t' := tk) fun _ _ z => z, rfl, q⟩
end
/-- e.f of a kept exception -/
def tXk (K : PySem.W.Frag) (f : Str) (te : TE) : TE := fun σ H Q => te σ H fun x H1 => ∃ (a C dd : Addr) (fs : List (Str × V)) (v : V), x = .ref a ∧ H1 a = some (Xc (.ref C) (some dd) a) ∧ H1 dd = some (.xd fs) ∧ XfC K C ∧ PySem.W.findIn K (.ref C) f = some none ∧ fs.lookup f = some v ∧ Q v H1
theorem pe_xk {X : Cx} {e : Expr} {te : TE} {pos : Pos} {n : Str} (he : PE X e te) (hb : attributeBase e n X.env (eval e X.env) = eval e X.env := by rfl) : PE X (.Attribute e n pos) (tXk X.K n te) := by
  refine ⟨fun pins s σ H Q I h => ?_⟩
  refine attr_of hb (thn (he.run pins s σ H _ I h) fun u s1 hh => ?_)
  obtain ⟨x, H1, I1, rx, a, C, dd, fs, v, rfl, ea, ed, T, hno, l, q⟩ := hh
  obtain rfl : u = Value.ref a := rx
  obtain ⟨ox, od, J, more⟩ := inst I1 ea (.inr ⟨dd, fs, rfl, ed⟩)
  obtain ⟨o, mA, rfl, hr, hl⟩ := more dd fs rfl ed
  obtain ⟨u, hu, ru⟩ := RelO.some_of (v := v) (o := mA n) (by rw [← l]; exact hr n)
  exact HandSPX.exc_get I1.kIn J T.ga T.gg T.exC (PySem.W.findObj_own T.hdC hno rfl (by rw [hl, hu])) (handed_of ru) ⟨v, H1, I1.tok _, ru, q⟩
end EXW
set_option Elab.async false
set_option linter.all false
set_option maxRecDepth 100000
set_option maxHeartbeats 4000000
/-! GXV: own exceptions made by a plain call, as values, by place or by keyword. -/
namespace GXV
open PySem PySem.Spec L2 PySem.HandSPX GXK
open EXV (Xc)
section
variable {prog : Program} {w : World} {M : Model} {A : Around} {E : Value → Shared → Prop} {R : Result → Shared → Prop} {h : Heap} {g : Array GenState} {d : Drawn} {t : Nat} {os : OsState}
variable {nm q : Str} {C N : Addr} {bs bm bmB bmN : List Value} {hdct : Bool} {sn : List Str} {sub : List Value} {ab : Bool} {col : Option Bool} {dd : Option Addr} {k0 k1 k2 k3 k5 : Option Value} {B Bn nid iid inN : String} {kws : List (Str × Value)}
theorem new_checked (F : NewF Bn nid inN bmN bmB) (like : ∀ X : String, bm.contains (.type X) = bmB.contains (.type X)) {rest : List Value} {Q : Unit → Shared → Prop} (atC : h.get? C = some (excClassObj nm q C N bs bm hdct sn sub ab col dd k0 k1 k2 k3 k5 nid)) (post : Q () ⟨h, g, d, t, os⟩) : wpAny M A (checkBuiltinCall nid ⟨.ref C :: rest, kws⟩) Q E ⟨h, g, d, t, os⟩ := by
  have yes : (Value.ref C :: bm).contains (.type Bn) = true := by rw [List.contains_cons, like, F.has, Bool.or_true]
  have hstar := F.base.noStar
  simp only [checkBuiltinCall, F.base.newKind, F.base.newSplit, F.base.newRow]
  repeat (first | refine wpAny_loadPart_at atC ?_ | (refine wpAny_isSubtype_exc atC ?_; rw [yes]) | refine wpAny_staticBase_exc atC ?_ | refine wpAny_madeBy_exc atC ?_ | simp only [bne_self_eq_false, Bool.false_eq_true, if_false] | wp_step)
  exact post
theorem made (F : NewF Bn nid inN bmN bmB) (like : ∀ X : String, bm.contains (.type X) = bmB.contains (.type X)) {rest : List Value} (atC : h.get? C = some (excClassObj nm q C N bs bm hdct sn sub ab col dd k0 k1 k2 k3 k5 nid))
    (post : R (.ok (.ret (.ref (h.objs.size + 1)))) ⟨(h.push (W.kdv_tup rest)).push (excO C h.objs.size), g, d, t, os⟩) (few : rest.length ≤ sizeLine) : codeAny (model prog w) A (.builtin nid ⟨.ref C :: rest, kws⟩) R ⟨h, g, d, t, os⟩ := by
  have hends := F.base.ends
  have c1 : (Value.ref C :: bm).contains (.type Bn) = true := by rw [List.contains_cons, like, F.has, Bool.or_true]
  have c2 : (Value.ref C :: bm).contains (.type "AttributeError") = false := by rw [List.contains_cons, like, F.noA]; rfl
  have c3 : (Value.ref C :: bm).contains (.type "NameError") = false := by rw [List.contains_cons, like, F.noN]; rfl
  refine codeAny_builtinAt F.base.entry ?_
  unfold Builtin.«BaseException.__new__»; refine wpAt_bind ?_
  show wpAt _ _ _ (stack >>= _) _ _ _; refine wpAt_bind (wpAt_stack fun p below => wpAt_of_wpAny ?_)
  wp_walk
  refine wpAt_of_wpAny ?_
  rw [F.base.owner]
  repeat (first | with_reducible refine wpAny_madeHere_exc F.base.canon atC ?_ | with_reducible refine wpAny_loadPart_at atC ?_ | (with_reducible refine wpAny_isSubtype_exc atC ?_; first | rw [c1] | rw [c2] | rw [c3]) | wp_step)
  show R _ _
  rw [Heap.size_push]
  exact post
theorem type_called (F : NewF Bn nid inN bmN bmB) (like : ∀ X : String, bm.contains (.type X) = bmB.contains (.type X)) {rest : List Value} {fI : Addr} {Q : Fin → Shared → Prop} (atC : h.get? C = some (excClassObj nm q C N bs bm hdct sn sub ab col dd k0 k1 k2 k3 k5 nid))
    (hi : W.Looks (model prog w) h (typeLookup (.ref C) "__init__") (some (.ref fI))) (hb : ∀ self, W.Looks (model prog w) h (bindSpecial (.ref fI) self) (.ref fI, [self])) (few : rest.length ≤ sizeLine)
    (run : codeAny (model prog w) A (.call (.ref fI) ⟨.ref (h.objs.size + 1) :: rest, kws⟩) (fun r s' => match r with | .ok (.ret v) => v = .none ∧ Q (.done (.ret (.ref (h.objs.size + 1)))) s' | .ok _ => False | .error e => E e s') ⟨(h.push (W.kdv_tup rest)).push (excO C h.objs.size), g, d, t, os⟩) :
    wpAny (model prog w) A (Builtin.«type.__call__» ⟨.ref C :: rest, kws⟩) Q E ⟨h, g, d, t, os⟩ := by
  repeat (first | with_reducible refine wpAny_loadPart_at atC ?_ | with_reducible refine wpAny_madeBy_exc atC ?_ | wp_step)
  refine codeAny_call_builtin_code (Code.quiet_builtin _ F.base.quiet) (new_checked F like atC ?_)
  refine made F like atC ?_ few
  show wpAny _ _ _ _ _ _
  have keep : ∀ b o, h.get? b = some o → ((h.push (W.kdv_tup rest)).push (excO C h.objs.size)).get? b = some o := fun b o e => Heap.get?_push_of_some _ (Heap.get?_push_of_some _ e)
  have atC1 := keep _ _ atC
  have ate : ((h.push (W.kdv_tup rest)).push (excO C h.objs.size)).get? (h.objs.size + 1) = some (excO C h.objs.size) := by heap_get
  have own : (Value.ref C :: bm).contains (.ref C) = true := by simp
  have look := hi.keeps keep
  have bnd := (hb (.ref (h.objs.size + 1))).keeps keep
  unfold isInstance
  repeat (first | with_reducible refine wpAny_loadPart_at ate ?_ | (with_reducible refine wpAny_isSubtype_exc atC1 ?_; rw [own]) | wp_step)
  show wpAny _ _ (typeLookup (.ref C) _) _ _ _; refine look.at ?_
  refine wpAny_holding (wpAny_bind (bnd.at ?_)); refine wpAny_bind (wpAny_call (codeAny_mono run fun r s' z => ?_))
  rcases r with e | (v | _ | _ | _) <;> first | exact z | exact z.elim | skip
  obtain ⟨rfl, z⟩ := z
  first | exact wpAny_pure (wpAny_pure z) | (wp_walk; exact z)
theorem called (F : NewF Bn nid inN bmN bmB) (like : ∀ X : String, bm.contains (.type X) = bmB.contains (.type X)) {rest : List Value} {fI : Addr} (atC : h.get? C = some (excClassObj nm q C N bs bm hdct sn sub ab col dd k0 k1 k2 k3 k5 nid))
    (hi : W.Looks (model prog w) h (typeLookup (.ref C) "__init__") (some (.ref fI))) (hb : ∀ self, W.Looks (model prog w) h (bindSpecial (.ref fI) self) (.ref fI, [self])) (few : rest.length ≤ sizeLine)
    (run : codeAny (model prog w) (A.under (.builtin "type.__call__" ⟨.ref C :: rest, kws⟩)) (.call (.ref fI) ⟨.ref (h.objs.size + 1) :: rest, kws⟩) (W.InitBack (h.objs.size + 1) R) ⟨(h.push (W.kdv_tup rest)).push (excO C h.objs.size), g, d, t, os⟩) : codeAny (model prog w) A (.call (.ref C) ⟨rest, kws⟩) R ⟨h, g, d, t, os⟩ := by
  have f1 := tc_lookup
  have f2 := tc_bind (.ref C)
  have hTy : (⟨h, g, d, t, os⟩ : Shared).TypeIs (.ref C) "type" := ⟨_, atC, rfl⟩
  refine codeAny_of_tree ?_
  show wpAny _ _ (callAny (.ref C) _) _ _ _
  repeat (any_goals (first | assumption | with_reducible refine wpAny_loadPart_at atC ?_ | wp_step))
  refine ⟨rfl, codeAny_call_builtin_at (Code.quiet_builtin _ (by decide +kernel)) entry_typeCall (wpAny_check_type_call_sub atC (type_called F like atC hi hb few (codeAny_mono run fun r s' z => ?_)))⟩
  rcases r with e | (v | _ | _ | _) <;> exact z
end
open PyProof.Rows
/-- what the making of a class's instance leaves -/
def EndX (a C : Addr) (H1 : Hp) (Q : VK) : VK := fun v H2 => v = .non ∧ ∃ (d : Addr) (fs : List (Str × V)), H2 a = some (exo a C (some d)) ∧ H2 d = some (exd d fs) ∧ H1 d = none ∧ Q (.ref a) (upd (upd (del H2 a) d (.xd fs)) a (Xc (.ref C) (some d) a))
/-- what is known of a class that can be made -/
structure Mx (P : Program) (w : World) (K : PySem.W.Frag) (mg : Str → Option Value) (base : Heap) (x : Str) (C : Addr) (sp : Sp) (fl : Str) : Prop where
  ex : ∃ (fI : Addr) (fd : FuncData) (Bn nid inN : String) (bmN bmB : List Value), NewF Bn nid inN bmN bmB ∧ GX.Gx K C bmB nid ∧ PySem.W.findIn K (.ref C) "__init__" = some (some (.ref fI)) ∧ PySem.W.typeIn K (.ref fI) = some (.type "function") ∧
    FnOk P w K mg base CX0 1 fI fd ["self", fl] sp ∧ Binds K fd ["self", fl] [] ∧ KBn K fd ["self", fl] 1 [fl] (fun us ws => us ++ ws) (fun vs zs => vs ++ zs) ∧ mg x = some (.ref C)
section
variable {X : Cx} {pins : List (Addr × Obj)} {σ : L2.St} {H : Hp} {s : Shared} {Q : VK} {us ws : List Value} {vs zs : List V} {C : Addr} {sp : Sp} {x fl : Str} {ks : List Str}
theorem run_mx (T : Mx X.prog X.w X.K X.mg X.base x C sp fl) (hr : Room 2 X.A) (I : Inv X pins σ H s) (r : Vals vs us) (rz : Vals zs ws) (l : (us.length = 1 ∧ ws = [] ∧ ks = []) ∨ (us = [] ∧ ws.length = 1 ∧ ks = [fl]))
    (h : ∀ a, H a = none → sp (.ref a :: (vs ++ zs)) (upd H a (exo a C none)) (EndX a C H Q) E0) : wpAny (model X.prog X.w) X.A (call (.ref C) us (ks.zip ws)) (EP X pins σ Q) X.xe s := by
  obtain ⟨fI, fd, Bn, nid, inN, bmN, bmB, FB, T, iC, tI, F1, hb, hk, _⟩ := T.ex
  obtain ⟨nm, N, qn, bs, bm, hdct, sn, sub, ab, col, dd, k0, k1, k2, k3, k5, hC, hT⟩ := PySem.W.excInit_of I.kIn T.made
  obtain ⟨hp, g, dr, tk, os⟩ := s
  have big : hp.objs.size ≤ hp.objs.size + 1 := Nat.le_succ _
  have hq := h (hp.objs.size + 1) (I.hok.fresh big)
  have kk : ∀ b o, hp.get? b = some o → ((hp.push (PySem.W.kdv_tup us)).push (excO C hp.objs.size)).get? b = some o := fun b o z => Heap.get?_push_of_some _ (Heap.get?_push_of_some _ z)
  have there : ((hp.push (PySem.W.kdv_tup us)).push (excO C hp.objs.size)).get? (hp.objs.size + 1) = some (excO C hp.objs.size) := by heap_get
  have I2 := I.laid (t' := tk) (a := hp.objs.size + 1) (o := exo (hp.objs.size + 1) C none) (h' := (hp.push (PySem.W.kdv_tup us)).push (excO C hp.objs.size)) kk big (exo_ok there)
  have r2 : Vals (V.ref (hp.objs.size + 1) :: (vs ++ zs)) (Value.ref (hp.objs.size + 1) :: (us ++ ws)) := .cons rfl (r.append rz)
  have few : us.length ≤ sizeLine := by
    rw [sizeLine_eq]
    rcases l with ⟨l, _⟩ | ⟨rfl, _⟩
    · omega
    · simp
  have bind : BindsTo ⟨(hp.push (PySem.W.kdv_tup us)).push (excO C hp.objs.size), g, dr, tk, os⟩ fd ⟨Value.ref (hp.objs.size + 1) :: us, ks.zip ws⟩ ((["self", fl] : List Str).zip (Value.ref (hp.objs.size + 1) :: (us ++ ws))) := by
    rcases l with ⟨l, rfl, rfl⟩ | ⟨rfl, l, rfl⟩
    · have b := hb ⟨(hp.push (PySem.W.kdv_tup us)).push (excO C hp.objs.size), g, dr, tk, os⟩ (Value.ref (hp.objs.size + 1) :: us) I2.kIn (by simp [l])
      simpa using b
    · exact hk.to _ [Value.ref (hp.objs.size + 1)] ws I2.kIn rfl l
  refine wpAny_call (called FB hT hC (PySem.W.looks_findIn I.kIn iC) (fun self => PySem.W.bind_fn I.kIn self tI) few (codeAny_mono
    (F1.run _ X.stack _ _ ⟨Value.ref (hp.objs.size + 1) :: us, ks.zip ws⟩ (Value.ref (hp.objs.size + 1) :: (us ++ ws)) _ _ E0 (hr.make C us (ks.zip ws)) (I2.env0.make C us (ks.zip ws)) bind r2 hq) fun r s' hq' => ?_))
  cases r with
  | error er => exact (show False from hq').elim
  | ok fl =>
    cases fl with
    | ret u =>
      obtain ⟨v, H2, os2, bare2, un2, hok2, rv, ev, d, fs, ea, ed, hd1, q2⟩ := hq'
      subst ev
      obtain ⟨h2, g2, d2, t2, os'⟩ := s'
      obtain ⟨t0, G, J, kG, ge, hoe, na⟩ := mk_end0 (d2 := d2) (t2 := t2) I big kk un2 hok2 os2 bare2 ea ed hd1
      have JK := J.laidN (t' := t2) (h' := h2) (a := hp.objs.size + 1) kG ge na (EXV.xc_ok (cls := .ref C) (d := some d) hoe ⟨rfl, rfl⟩ rfl)
      exact ⟨rv, ⟨.ref (hp.objs.size + 1), _, JK, rfl, q2⟩⟩
    | next => exact False.elim hq'
    | brk => exact False.elim hq'
    | cont => exact False.elim hq'
def tMx (C : Addr) (sp : Sp) (t : TA) : TE := fun σ H Q => t σ H fun vs H1 => vs.length = 1 ∧ ∀ a, H1 a = none → sp (.ref a :: vs) (upd H1 a (exo a C none)) (EndX a C H1 Q) E0
variable {p pos : Pos} {e : Expr} {ta : TA} {kws : List Keyword}
/-- C(e) -/
theorem pe_mx (T : Mx X.prog X.w X.K X.mg X.base x C sp fl) (hr : Room 2 X.A) (hg : Gl X x) (ha : PA X [e] ta)
    (hdb : (x == ("__debug__" : Str)) = false := by decide) (he : starEach [e] X.env = (false, eval e X.env) :: starEach [] X.env := by rfl) (hpl : (backTo pos (starEach [] X.env)).any (·.1) = false := by rfl) :
    PE X (.Call (.Name x p) [e] [] pos) (tMx C sp ta) := by
  obtain ⟨fI, fd, Bn, nid, inN, bmN, bmB, FB, TT, iC, tI, F1, hb, hk, hm⟩ := id T.ex
  refine ⟨fun pins s σ H Q I h => ?_⟩
  refine wpAny_Call_Name_kw (ld_glob I hg hm ?_ hdb)
  refine PySem.W.callWith_K (h₀ := X.base) I.ok.mod.kin TT.keep (thn (ha.run pos pins s σ H _ I h) fun us s1 hh => ?_) he hpl
  obtain ⟨vs, H1, I1, r1, hz, q1⟩ := hh
  refine ⟨I1.kIn, ?_⟩
  exact run_mx (ks := []) (ws := []) (zs := []) T hr I1 r1 .nil (.inl ⟨by have := r1.length; simp only [List.nil_append] at this ⊢; omega, rfl, rfl⟩) (fun a ha => by rw [List.append_nil]; exact q1 a ha)
/-- C(k = e) -/
theorem pe_mxK (T : Mx X.prog X.w X.K X.mg X.base x C sp fl) (hr : Room 2 X.A) (hg : Gl X x) (hkw : PK X kws ta)
    (hall : (backToKw pos (keywordEach kws X.env)).all (·.1.isSome) = true := by rfl) (hks : (backToKw pos (keywordEach kws X.env)).filterMap (·.1) = [fl] := by rfl) (hdb : (x == ("__debug__" : Str)) = false := by decide)
    (hpl : ((backTo pos (starEach [] X.env)).any (·.1) || (backToKw pos (keywordEach kws X.env)).any (·.1.isNone)) = false := by rfl) :
    PE X (.Call (.Name x p) [] kws pos) (tMx C sp ta) := by
  obtain ⟨fI, fd, Bn, nid, inN, bmN, bmB, FB, TT, iC, tI, F1, hb, hk, hm⟩ := id T.ex
  refine ⟨fun pins s σ H Q I h => ?_⟩
  refine wpAny_Call_Name_kw (ld_glob I hg hm ?_ hdb)
  refine PySem.W.callWith_KW0 (h₀ := X.base) I.ok.mod.kin TT.keep hall ?_ hpl
  refine thn (hkw.run pos pins s σ H _ I h) fun ws s2 ⟨zs, H2, I2, rz, l2, q2⟩ => ⟨I2.kIn, ?_⟩
  rw [hks]
  exact run_mx (us := []) (vs := []) T hr I2 .nil rz (.inr ⟨rfl, by rw [← rz.length]; exact l2, rfl⟩) q2
end
end GXV
set_option Elab.async false
set_option linter.all false
set_option maxRecDepth 100000
set_option maxHeartbeats 4000000
namespace K90
open PySem PySem.Spec PyProof.Rows L2
open C8 (Cal Mak Met pe_c pe_mk pe_mt pe_mt0)
open EXV (Xc)
/-- what is known of a refusal's class -/
structure Kx (K : PySem.W.Frag) (mg : Str → Option Value) (N fN : Addr) (tr : List Value) (nid B bid : String) (x fl : Str) : Prop where
  gx : GX.Gx K N tr nid
  iC : PySem.W.findIn K (.ref N) "__init__" = some (some (.ref fN))
  tI : PySem.W.typeIn K (.ref fN) = some (.type "function")
  vV : PySem.W.findCls K (.type B) (.type "type") "__init__" = some (.val (.builtin bid))
  no : PySem.W.findIn K (.ref N) fl = some none
  g : mg x = some (.ref N)
  zb : mg (Str.ofString B) = none
  xf : XfC K N
/-- the making of one -/
def spXI (N : Addr) (fl : Str) : Sp := fun vs H Q _ => ∃ (a : Addr) (v : V), vs = [.ref a, v] ∧ H a = some (exo a N none) ∧ ∀ dx, H dx = none → dx ≠ a → Q .non (upd (upd H dx (exd dx [(fl, v)])) a (exo a N (some dx)))
/-- what it leaves -/
theorem made_x {C : Addr} {fl : Str} {v : V} {H : Hp} {Q : VK} (h : ∀ a d G, Same H G → H a = none → G a = some (Xc (.ref C) (some d) a) → G d = some (.xd [(fl, v)]) → Q (.ref a) G) : ([v] : List V).length = 1 ∧ ∀ a, H a = none → spXI C fl (.ref a :: [v]) (upd H a (exo a C none)) (GXV.EndX a C H Q) C8.E0 := by
  refine ⟨rfl, fun a ha => ⟨a, v, rfl, upd_same, fun d hd ne => ⟨rfl, d, _, upd_same, (by rw [upd_ne ne]; exact upd_same), ?_, ?_⟩⟩⟩
  · rw [upd_ne ne] at hd
    exact hd
  · rw [upd_ne ne] at hd
    refine h a d _ (fun b o e => ?_) ha upd_same ?_
    · have b1 : b ≠ d := ne_of_none e hd
      have b2 : b ≠ a := ne_of_none e ha
      rw [upd_ne b2, upd_ne b1, del_ne b2, upd_ne b2, upd_ne b1, upd_ne b2]
      exact e
    · rw [upd_ne ne]
      exact upd_same
abbrev trTypeError : List Value := [.type "TypeError", .type "Exception", .type "BaseException", .type "object"]
theorem typTypeError : typeOf (.type "TypeError") = pure (.type "type") := by kernel_rfl
theorem newTypeError : GXK.NewF "TypeError" "TypeError.__new__" "TypeError.__init__" trTypeError trTypeError := ⟨PySem.F.excBase_TypeError, by decide +kernel, by decide +kernel, by decide +kernel⟩
abbrev trZeroDivisionError : List Value := [.type "ZeroDivisionError", .type "ArithmeticError", .type "Exception", .type "BaseException", .type "object"]
theorem typZeroDivisionError : typeOf (.type "ZeroDivisionError") = pure (.type "type") := by kernel_rfl
theorem newZeroDivisionError : GXK.NewF "ZeroDivisionError" "ZeroDivisionError.__new__" "ZeroDivisionError.__init__" trZeroDivisionError trZeroDivisionError := ⟨PySem.F.excBase_ZeroDivisionError, by decide +kernel, by decide +kernel, by decide +kernel⟩
abbrev trArithmeticError : List Value := [.type "ArithmeticError", .type "Exception", .type "BaseException", .type "object"]
theorem typArithmeticError : typeOf (.type "ArithmeticError") = pure (.type "type") := by kernel_rfl
theorem newArithmeticError : GXK.NewF "ArithmeticError" "ArithmeticError.__new__" "ArithmeticError.__init__" trArithmeticError trArithmeticError := ⟨PySem.F.excBase_ArithmeticError, by decide +kernel, by decide +kernel, by decide +kernel⟩
abbrev trValueError : List Value := [.type "ValueError", .type "Exception", .type "BaseException", .type "object"]
theorem typValueError : typeOf (.type "ValueError") = pure (.type "type") := by kernel_rfl
theorem newValueError : GXK.NewF "ValueError" "ValueError.__new__" "ValueError.__init__" trValueError trValueError := ⟨PySem.F.excBase_ValueError, by decide +kernel, by decide +kernel, by decide +kernel⟩
abbrev trKeyError : List Value := [.type "KeyError", .type "LookupError", .type "Exception", .type "BaseException", .type "object"]
abbrev trLookupError : List Value := [.type "LookupError", .type "Exception", .type "BaseException", .type "object"]
theorem typLookupError : typeOf (.type "LookupError") = pure (.type "type") := by kernel_rfl
theorem newLookupError : GXK.NewF "LookupError" "LookupError.__new__" "LookupError.__init__" trLookupError trLookupError := ⟨PySem.F.excBase_LookupError, by decide +kernel, by decide +kernel, by decide +kernel⟩
abbrev trIndexError : List Value := [.type "IndexError", .type "LookupError", .type "Exception", .type "BaseException", .type "object"]
theorem typIndexError : typeOf (.type "IndexError") = pure (.type "type") := by kernel_rfl
theorem newIndexError : GXK.NewF "IndexError" "IndexError.__new__" "IndexError.__init__" trIndexError trIndexError := ⟨PySem.F.excBase_IndexError, by decide +kernel, by decide +kernel, by decide +kernel⟩
abbrev trOverflowError : List Value := [.type "OverflowError", .type "ArithmeticError", .type "Exception", .type "BaseException", .type "object"]
theorem typOverflowError : typeOf (.type "OverflowError") = pure (.type "type") := by kernel_rfl
theorem newOverflowError : GXK.NewF "OverflowError" "OverflowError.__new__" "OverflowError.__init__" trOverflowError trOverflowError := ⟨PySem.F.excBase_OverflowError, by decide +kernel, by decide +kernel, by decide +kernel⟩
abbrev trRuntimeError : List Value := [.type "RuntimeError", .type "Exception", .type "BaseException", .type "object"]
theorem typRuntimeError : typeOf (.type "RuntimeError") = pure (.type "type") := by kernel_rfl
theorem newRuntimeError : GXK.NewF "RuntimeError" "RuntimeError.__new__" "RuntimeError.__init__" trRuntimeError trRuntimeError := ⟨PySem.F.excBase_RuntimeError, by decide +kernel, by decide +kernel, by decide +kernel⟩
abbrev trNotImplementedError : List Value := [.type "NotImplementedError", .type "RuntimeError", .type "Exception", .type "BaseException", .type "object"]
theorem typNotImplementedError : typeOf (.type "NotImplementedError") = pure (.type "type") := by kernel_rfl
theorem newNotImplementedError : GXK.NewF "NotImplementedError" "NotImplementedError.__new__" "NotImplementedError.__init__" trNotImplementedError trNotImplementedError := ⟨PySem.F.excBase_NotImplementedError, by decide +kernel, by decide +kernel, by decide +kernel⟩
abbrev trException : List Value := [.type "Exception", .type "BaseException", .type "object"]
theorem typException : typeOf (.type "Exception") = pure (.type "type") := by kernel_rfl
theorem newException : GXK.NewF "Exception" "Exception.__new__" "Exception.__init__" trException trException := ⟨PySem.F.excBase_Exception, by decide +kernel, by decide +kernel, by decide +kernel⟩
section
variable {P : Program} {w : World} {K : PySem.W.Frag} {mg : Str → Option Value} {base : Heap} {f N fN : Addr} {fd : FuncData}
abbrev XNoKind (K : PySem.W.Frag) (mg : Str → Option Value) (N fN : Addr) : Prop := Kx K mg N fN trTypeError "TypeError.__new__" "TypeError" "TypeError.__init__" "NoKind" "thing"
theorem ok_NoKind (F : Dn K d_NoKind_init f fd) (T : XNoKind K mg N fN) : FnOk P w K mg base CX0 1 f fd ["self", "thing"] (spXI N "thing") := by
  refine F.ok sc_NoKind_init (fun vs H Q E h => ?_) (fun cdv A outer s H vs Q E hr h => ?_)
  · obtain ⟨a, v, rfl, _⟩ := h
    rfl
  · obtain ⟨a, v, rfl, ha, hQ⟩ := h
    refine ⟨_, PSs.nox (pss_cons (ps_expr (GX.pe_bi PySem.F.excBase_TypeError rfl T.zb PyProof.Rows.Boot.«TypeError» typTypeError T.vV (by decide +kernel) (by decide +kernel) (pa_cons (pv 0) (pa_cons pe_str pa_nil))))
      (pss_one (GX.ps_pf PySem.F.store_TypeError (nid := "TypeError.__new__") (pv 0) (pv 1)))), ?_⟩
    refine ⟨_, rfl, a, N, _, rfl, by show 1 ≤ 1000; decide, T.gx, ha, ?_⟩
    exact ⟨_, rfl, _, rfl, a, N, rfl, T.gx, T.no, ha, hQ⟩
theorem mx_NoKind (F : Dn K d_NoKind_init fN fd) (T : XNoKind K mg N fN) (b : Binds K fd ["self", "thing"] []) (k : KBn K fd ["self", "thing"] 1 ["thing"] (fun us ws => us ++ ws) (fun vs zs => vs ++ zs)) : GXV.Mx P w K mg base "NoKind" N (spXI N "thing") "thing" :=
  ⟨fN, fd, _, _, _, _, _, newTypeError, T.gx, T.iC, T.tI, ok_NoKind F T, b, k, T.g⟩
abbrev XNought (K : PySem.W.Frag) (mg : Str → Option Value) (N fN : Addr) : Prop := Kx K mg N fN trZeroDivisionError "ZeroDivisionError.__new__" "ZeroDivisionError" "ZeroDivisionError.__init__" "Nought" "top"
theorem ok_Nought (F : Dn K d_Nought_init f fd) (T : XNought K mg N fN) : FnOk P w K mg base CX0 1 f fd ["self", "top"] (spXI N "top") := by
  refine F.ok sc_Nought_init (fun vs H Q E h => ?_) (fun cdv A outer s H vs Q E hr h => ?_)
  · obtain ⟨a, v, rfl, _⟩ := h
    rfl
  · obtain ⟨a, v, rfl, ha, hQ⟩ := h
    refine ⟨_, PSs.nox (pss_cons (ps_expr (GX.pe_bi PySem.F.excBase_ZeroDivisionError rfl T.zb PyProof.Rows.Boot.«ZeroDivisionError» typZeroDivisionError T.vV (by decide +kernel) (by decide +kernel) (pa_cons (pv 0) (pa_cons pe_str pa_nil))))
      (pss_one (GX.ps_pf PySem.F.store_ZeroDivisionError (nid := "ZeroDivisionError.__new__") (pv 0) (pv 1)))), ?_⟩
    refine ⟨_, rfl, a, N, _, rfl, by show 1 ≤ 1000; decide, T.gx, ha, ?_⟩
    exact ⟨_, rfl, _, rfl, a, N, rfl, T.gx, T.no, ha, hQ⟩
theorem mx_Nought (F : Dn K d_Nought_init fN fd) (T : XNought K mg N fN) (b : Binds K fd ["self", "top"] []) (k : KBn K fd ["self", "top"] 1 ["top"] (fun us ws => us ++ ws) (fun vs zs => vs ++ zs)) : GXV.Mx P w K mg base "Nought" N (spXI N "top") "top" :=
  ⟨fN, fd, _, _, _, _, _, newZeroDivisionError, T.gx, T.iC, T.tI, ok_Nought F T, b, k, T.g⟩
abbrev XNoShare (K : PySem.W.Frag) (mg : Str → Option Value) (N fN : Addr) : Prop := Kx K mg N fN trArithmeticError "ArithmeticError.__new__" "ArithmeticError" "ArithmeticError.__init__" "NoShare" "text"
theorem ok_NoShare (F : Dn K d_NoShare_init f fd) (T : XNoShare K mg N fN) : FnOk P w K mg base CX0 1 f fd ["self", "text"] (spXI N "text") := by
  refine F.ok sc_NoShare_init (fun vs H Q E h => ?_) (fun cdv A outer s H vs Q E hr h => ?_)
  · obtain ⟨a, v, rfl, _⟩ := h
    rfl
  · obtain ⟨a, v, rfl, ha, hQ⟩ := h
    refine ⟨_, PSs.nox (pss_cons (ps_expr (GX.pe_bi PySem.F.excBase_ArithmeticError rfl T.zb PyProof.Rows.Boot.«ArithmeticError» typArithmeticError T.vV (by decide +kernel) (by decide +kernel) (pa_cons (pv 0) (pa_cons pe_str pa_nil))))
      (pss_one (GX.ps_pf PySem.F.store_ArithmeticError (nid := "ArithmeticError.__new__") (pv 0) (pv 1)))), ?_⟩
    refine ⟨_, rfl, a, N, _, rfl, by show 1 ≤ 1000; decide, T.gx, ha, ?_⟩
    exact ⟨_, rfl, _, rfl, a, N, rfl, T.gx, T.no, ha, hQ⟩
theorem mx_NoShare (F : Dn K d_NoShare_init fN fd) (T : XNoShare K mg N fN) (b : Binds K fd ["self", "text"] []) (k : KBn K fd ["self", "text"] 1 ["text"] (fun us ws => us ++ ws) (fun vs zs => vs ++ zs)) : GXV.Mx P w K mg base "NoShare" N (spXI N "text") "text" :=
  ⟨fN, fd, _, _, _, _, _, newArithmeticError, T.gx, T.iC, T.tI, ok_NoShare F T, b, k, T.g⟩
abbrev XUneven (K : PySem.W.Frag) (mg : Str → Option Value) (N fN : Addr) : Prop := Kx K mg N fN trArithmeticError "ArithmeticError.__new__" "ArithmeticError" "ArithmeticError.__init__" "Uneven" "rest"
theorem ok_Uneven (F : Dn K d_Uneven_init f fd) (T : XUneven K mg N fN) : FnOk P w K mg base CX0 1 f fd ["self", "rest"] (spXI N "rest") := by
  refine F.ok sc_Uneven_init (fun vs H Q E h => ?_) (fun cdv A outer s H vs Q E hr h => ?_)
  · obtain ⟨a, v, rfl, _⟩ := h
    rfl
  · obtain ⟨a, v, rfl, ha, hQ⟩ := h
    refine ⟨_, PSs.nox (pss_cons (ps_expr (GX.pe_bi PySem.F.excBase_ArithmeticError rfl T.zb PyProof.Rows.Boot.«ArithmeticError» typArithmeticError T.vV (by decide +kernel) (by decide +kernel) (pa_cons (pv 0) (pa_cons pe_str pa_nil))))
      (pss_one (GX.ps_pf PySem.F.store_ArithmeticError (nid := "ArithmeticError.__new__") (pv 0) (pv 1)))), ?_⟩
    refine ⟨_, rfl, a, N, _, rfl, by show 1 ≤ 1000; decide, T.gx, ha, ?_⟩
    exact ⟨_, rfl, _, rfl, a, N, rfl, T.gx, T.no, ha, hQ⟩
theorem mx_Uneven (F : Dn K d_Uneven_init fN fd) (T : XUneven K mg N fN) (b : Binds K fd ["self", "rest"] []) (k : KBn K fd ["self", "rest"] 1 ["rest"] (fun us ws => us ++ ws) (fun vs zs => vs ++ zs)) : GXV.Mx P w K mg base "Uneven" N (spXI N "rest") "rest" :=
  ⟨fN, fd, _, _, _, _, _, newArithmeticError, T.gx, T.iC, T.tI, ok_Uneven F T, b, k, T.g⟩
abbrev XBadName (K : PySem.W.Frag) (mg : Str → Option Value) (N fN : Addr) : Prop := Kx K mg N fN trValueError "ValueError.__new__" "ValueError" "ValueError.__init__" "BadName" "name"
theorem ok_BadName (F : Dn K d_BadName_init f fd) (T : XBadName K mg N fN) : FnOk P w K mg base CX0 1 f fd ["self", "name"] (spXI N "name") := by
  refine F.ok sc_BadName_init (fun vs H Q E h => ?_) (fun cdv A outer s H vs Q E hr h => ?_)
  · obtain ⟨a, v, rfl, _⟩ := h
    rfl
  · obtain ⟨a, v, rfl, ha, hQ⟩ := h
    refine ⟨_, PSs.nox (pss_cons (ps_expr (GX.pe_bi PySem.F.excBase_ValueError rfl T.zb PyProof.Rows.Boot.«ValueError» typValueError T.vV (by decide +kernel) (by decide +kernel) (pa_cons (pv 0) (pa_cons pe_str pa_nil))))
      (pss_one (GX.ps_pf PySem.F.store_ValueError (nid := "ValueError.__new__") (pv 0) (pv 1)))), ?_⟩
    refine ⟨_, rfl, a, N, _, rfl, by show 1 ≤ 1000; decide, T.gx, ha, ?_⟩
    exact ⟨_, rfl, _, rfl, a, N, rfl, T.gx, T.no, ha, hQ⟩
theorem mx_BadName (F : Dn K d_BadName_init fN fd) (T : XBadName K mg N fN) (b : Binds K fd ["self", "name"] []) (k : KBn K fd ["self", "name"] 1 ["name"] (fun us ws => us ++ ws) (fun vs zs => vs ++ zs)) : GXV.Mx P w K mg base "BadName" N (spXI N "name") "name" :=
  ⟨fN, fd, _, _, _, _, _, newValueError, T.gx, T.iC, T.tI, ok_BadName F T, b, k, T.g⟩
abbrev XNoNumber (K : PySem.W.Frag) (mg : Str → Option Value) (N fN : Addr) : Prop := Kx K mg N fN trValueError "ValueError.__new__" "ValueError" "ValueError.__init__" "NoNumber" "thing"
theorem ok_NoNumber (F : Dn K d_NoNumber_init f fd) (T : XNoNumber K mg N fN) : FnOk P w K mg base CX0 1 f fd ["self", "thing"] (spXI N "thing") := by
  refine F.ok sc_NoNumber_init (fun vs H Q E h => ?_) (fun cdv A outer s H vs Q E hr h => ?_)
  · obtain ⟨a, v, rfl, _⟩ := h
    rfl
  · obtain ⟨a, v, rfl, ha, hQ⟩ := h
    refine ⟨_, PSs.nox (pss_cons (ps_expr (GX.pe_bi PySem.F.excBase_ValueError rfl T.zb PyProof.Rows.Boot.«ValueError» typValueError T.vV (by decide +kernel) (by decide +kernel) (pa_cons (pv 0) (pa_cons pe_str pa_nil))))
      (pss_one (GX.ps_pf PySem.F.store_ValueError (nid := "ValueError.__new__") (pv 0) (pv 1)))), ?_⟩
    refine ⟨_, rfl, a, N, _, rfl, by show 1 ≤ 1000; decide, T.gx, ha, ?_⟩
    exact ⟨_, rfl, _, rfl, a, N, rfl, T.gx, T.no, ha, hQ⟩
theorem mx_NoNumber (F : Dn K d_NoNumber_init fN fd) (T : XNoNumber K mg N fN) (b : Binds K fd ["self", "thing"] []) (k : KBn K fd ["self", "thing"] 1 ["thing"] (fun us ws => us ++ ws) (fun vs zs => vs ++ zs)) : GXV.Mx P w K mg base "NoNumber" N (spXI N "thing") "thing" :=
  ⟨fN, fd, _, _, _, _, _, newValueError, T.gx, T.iC, T.tI, ok_NoNumber F T, b, k, T.g⟩
abbrev XNoRide (K : PySem.W.Frag) (mg : Str → Option Value) (N fN : Addr) : Prop := Kx K mg N fN trValueError "ValueError.__new__" "ValueError" "ValueError.__init__" "NoRide" "reason"
theorem ok_NoRide (F : Dn K d_NoRide_init f fd) (T : XNoRide K mg N fN) : FnOk P w K mg base CX0 1 f fd ["self", "reason"] (spXI N "reason") := by
  refine F.ok sc_NoRide_init (fun vs H Q E h => ?_) (fun cdv A outer s H vs Q E hr h => ?_)
  · obtain ⟨a, v, rfl, _⟩ := h
    rfl
  · obtain ⟨a, v, rfl, ha, hQ⟩ := h
    refine ⟨_, PSs.nox (pss_cons (ps_expr (GX.pe_bi PySem.F.excBase_ValueError rfl T.zb PyProof.Rows.Boot.«ValueError» typValueError T.vV (by decide +kernel) (by decide +kernel) (pa_cons (pv 0) (pa_cons pe_str pa_nil))))
      (pss_one (GX.ps_pf PySem.F.store_ValueError (nid := "ValueError.__new__") (pv 0) (pv 1)))), ?_⟩
    refine ⟨_, rfl, a, N, _, rfl, by show 1 ≤ 1000; decide, T.gx, ha, ?_⟩
    exact ⟨_, rfl, _, rfl, a, N, rfl, T.gx, T.no, ha, hQ⟩
theorem mx_NoRide (F : Dn K d_NoRide_init fN fd) (T : XNoRide K mg N fN) (b : Binds K fd ["self", "reason"] []) (k : KBn K fd ["self", "reason"] 1 ["reason"] (fun us ws => us ++ ws) (fun vs zs => vs ++ zs)) : GXV.Mx P w K mg base "NoRide" N (spXI N "reason") "reason" :=
  ⟨fN, fd, _, _, _, _, _, newValueError, T.gx, T.iC, T.tI, ok_NoRide F T, b, k, T.g⟩
abbrev XNoText (K : PySem.W.Frag) (mg : Str → Option Value) (N fN : Addr) : Prop := Kx K mg N fN trValueError "ValueError.__new__" "ValueError" "ValueError.__init__" "NoText" "row"
theorem ok_NoText (F : Dn K d_NoText_init f fd) (T : XNoText K mg N fN) : FnOk P w K mg base CX0 1 f fd ["self", "row"] (spXI N "row") := by
  refine F.ok sc_NoText_init (fun vs H Q E h => ?_) (fun cdv A outer s H vs Q E hr h => ?_)
  · obtain ⟨a, v, rfl, _⟩ := h
    rfl
  · obtain ⟨a, v, rfl, ha, hQ⟩ := h
    refine ⟨_, PSs.nox (pss_cons (ps_expr (GX.pe_bi PySem.F.excBase_ValueError rfl T.zb PyProof.Rows.Boot.«ValueError» typValueError T.vV (by decide +kernel) (by decide +kernel) (pa_cons (pv 0) (pa_cons pe_str pa_nil))))
      (pss_one (GX.ps_pf PySem.F.store_ValueError (nid := "ValueError.__new__") (pv 0) (pv 1)))), ?_⟩
    refine ⟨_, rfl, a, N, _, rfl, by show 1 ≤ 1000; decide, T.gx, ha, ?_⟩
    exact ⟨_, rfl, _, rfl, a, N, rfl, T.gx, T.no, ha, hQ⟩
theorem mx_NoText (F : Dn K d_NoText_init fN fd) (T : XNoText K mg N fN) (b : Binds K fd ["self", "row"] []) (k : KBn K fd ["self", "row"] 1 ["row"] (fun us ws => us ++ ws) (fun vs zs => vs ++ zs)) : GXV.Mx P w K mg base "NoText" N (spXI N "row") "row" :=
  ⟨fN, fd, _, _, _, _, _, newValueError, T.gx, T.iC, T.tI, ok_NoText F T, b, k, T.g⟩
abbrev XNoName (K : PySem.W.Frag) (mg : Str → Option Value) (N fN : Addr) : Prop := Kx K mg N fN trKeyError "LookupError.__new__" "KeyError" "KeyError.__init__" "NoName" "name"
theorem ok_NoName (F : Dn K d_NoName_init f fd) (T : XNoName K mg N fN) : FnOk P w K mg base CX0 1 f fd ["self", "name"] (spXI N "name") := by
  refine F.ok sc_NoName_init (fun vs H Q E h => ?_) (fun cdv A outer s H vs Q E hr h => ?_)
  · obtain ⟨a, v, rfl, _⟩ := h
    rfl
  · obtain ⟨a, v, rfl, ha, hQ⟩ := h
    refine ⟨_, PSs.nox (pss_cons (ps_expr (GXK.pe_bi (nid := "LookupError.__new__") GXK.initKE rfl T.zb PyProof.Rows.Boot.«KeyError» GXK.typKE T.vV (by decide +kernel) (by decide +kernel) (pa_cons (pv 0) (pa_cons pe_str pa_nil))))
      (pss_one (GX.ps_pf GXK.storeKE (nid := "LookupError.__new__") (pv 0) (pv 1)))), ?_⟩
    refine ⟨_, rfl, a, N, _, rfl, by show 1 ≤ 1000; decide, T.gx, ha, ?_⟩
    exact ⟨_, rfl, _, rfl, a, N, rfl, T.gx, T.no, ha, hQ⟩
theorem mx_NoName (F : Dn K d_NoName_init fN fd) (T : XNoName K mg N fN) (b : Binds K fd ["self", "name"] []) (k : KBn K fd ["self", "name"] 1 ["name"] (fun us ws => us ++ ws) (fun vs zs => vs ++ zs)) : GXV.Mx P w K mg base "NoName" N (spXI N "name") "name" :=
  ⟨fN, fd, _, _, _, _, _, GXK.newKE, T.gx, T.iC, T.tI, ok_NoName F T, b, k, T.g⟩
abbrev XNoDay (K : PySem.W.Frag) (mg : Str → Option Value) (N fN : Addr) : Prop := Kx K mg N fN trLookupError "LookupError.__new__" "LookupError" "LookupError.__init__" "NoDay" "day"
theorem ok_NoDay (F : Dn K d_NoDay_init f fd) (T : XNoDay K mg N fN) : FnOk P w K mg base CX0 1 f fd ["self", "day"] (spXI N "day") := by
  refine F.ok sc_NoDay_init (fun vs H Q E h => ?_) (fun cdv A outer s H vs Q E hr h => ?_)
  · obtain ⟨a, v, rfl, _⟩ := h
    rfl
  · obtain ⟨a, v, rfl, ha, hQ⟩ := h
    refine ⟨_, PSs.nox (pss_cons (ps_expr (GX.pe_bi PySem.F.excBase_LookupError rfl T.zb PyProof.Rows.Boot.«LookupError» typLookupError T.vV (by decide +kernel) (by decide +kernel) (pa_cons (pv 0) (pa_cons pe_str pa_nil))))
      (pss_one (GX.ps_pf PySem.F.store_LookupError (nid := "LookupError.__new__") (pv 0) (pv 1)))), ?_⟩
    refine ⟨_, rfl, a, N, _, rfl, by show 1 ≤ 1000; decide, T.gx, ha, ?_⟩
    exact ⟨_, rfl, _, rfl, a, N, rfl, T.gx, T.no, ha, hQ⟩
theorem mx_NoDay (F : Dn K d_NoDay_init fN fd) (T : XNoDay K mg N fN) (b : Binds K fd ["self", "day"] []) (k : KBn K fd ["self", "day"] 1 ["day"] (fun us ws => us ++ ws) (fun vs zs => vs ++ zs)) : GXV.Mx P w K mg base "NoDay" N (spXI N "day") "day" :=
  ⟨fN, fd, _, _, _, _, _, newLookupError, T.gx, T.iC, T.tI, ok_NoDay F T, b, k, T.g⟩
abbrev XNoSeats (K : PySem.W.Frag) (mg : Str → Option Value) (N fN : Addr) : Prop := Kx K mg N fN trIndexError "IndexError.__new__" "IndexError" "IndexError.__init__" "NoSeats" "lack"
theorem ok_NoSeats (F : Dn K d_NoSeats_init f fd) (T : XNoSeats K mg N fN) : FnOk P w K mg base CX0 1 f fd ["self", "lack"] (spXI N "lack") := by
  refine F.ok sc_NoSeats_init (fun vs H Q E h => ?_) (fun cdv A outer s H vs Q E hr h => ?_)
  · obtain ⟨a, v, rfl, _⟩ := h
    rfl
  · obtain ⟨a, v, rfl, ha, hQ⟩ := h
    refine ⟨_, PSs.nox (pss_cons (ps_expr (GX.pe_bi PySem.F.excBase_IndexError rfl T.zb PyProof.Rows.Boot.«IndexError» typIndexError T.vV (by decide +kernel) (by decide +kernel) (pa_cons (pv 0) (pa_cons pe_str pa_nil))))
      (pss_one (GX.ps_pf PySem.F.store_IndexError (nid := "IndexError.__new__") (pv 0) (pv 1)))), ?_⟩
    refine ⟨_, rfl, a, N, _, rfl, by show 1 ≤ 1000; decide, T.gx, ha, ?_⟩
    exact ⟨_, rfl, _, rfl, a, N, rfl, T.gx, T.no, ha, hQ⟩
theorem mx_NoSeats (F : Dn K d_NoSeats_init fN fd) (T : XNoSeats K mg N fN) (b : Binds K fd ["self", "lack"] []) (k : KBn K fd ["self", "lack"] 1 ["lack"] (fun us ws => us ++ ws) (fun vs zs => vs ++ zs)) : GXV.Mx P w K mg base "NoSeats" N (spXI N "lack") "lack" :=
  ⟨fN, fd, _, _, _, _, _, newIndexError, T.gx, T.iC, T.tI, ok_NoSeats F T, b, k, T.g⟩
abbrev XTooMany (K : PySem.W.Frag) (mg : Str → Option Value) (N fN : Addr) : Prop := Kx K mg N fN trOverflowError "OverflowError.__new__" "OverflowError" "OverflowError.__init__" "TooMany" "most"
theorem ok_TooMany (F : Dn K d_TooMany_init f fd) (T : XTooMany K mg N fN) : FnOk P w K mg base CX0 1 f fd ["self", "most"] (spXI N "most") := by
  refine F.ok sc_TooMany_init (fun vs H Q E h => ?_) (fun cdv A outer s H vs Q E hr h => ?_)
  · obtain ⟨a, v, rfl, _⟩ := h
    rfl
  · obtain ⟨a, v, rfl, ha, hQ⟩ := h
    refine ⟨_, PSs.nox (pss_cons (ps_expr (GX.pe_bi PySem.F.excBase_OverflowError rfl T.zb PyProof.Rows.Boot.«OverflowError» typOverflowError T.vV (by decide +kernel) (by decide +kernel) (pa_cons (pv 0) (pa_cons pe_str pa_nil))))
      (pss_one (GX.ps_pf PySem.F.store_OverflowError (nid := "OverflowError.__new__") (pv 0) (pv 1)))), ?_⟩
    refine ⟨_, rfl, a, N, _, rfl, by show 1 ≤ 1000; decide, T.gx, ha, ?_⟩
    exact ⟨_, rfl, _, rfl, a, N, rfl, T.gx, T.no, ha, hQ⟩
theorem mx_TooMany (F : Dn K d_TooMany_init fN fd) (T : XTooMany K mg N fN) (b : Binds K fd ["self", "most"] []) (k : KBn K fd ["self", "most"] 1 ["most"] (fun us ws => us ++ ws) (fun vs zs => vs ++ zs)) : GXV.Mx P w K mg base "TooMany" N (spXI N "most") "most" :=
  ⟨fN, fd, _, _, _, _, _, newOverflowError, T.gx, T.iC, T.tI, ok_TooMany F T, b, k, T.g⟩
abbrev XTaken (K : PySem.W.Frag) (mg : Str → Option Value) (N fN : Addr) : Prop := Kx K mg N fN trRuntimeError "RuntimeError.__new__" "RuntimeError" "RuntimeError.__init__" "Taken" "name"
theorem ok_Taken (F : Dn K d_Taken_init f fd) (T : XTaken K mg N fN) : FnOk P w K mg base CX0 1 f fd ["self", "name"] (spXI N "name") := by
  refine F.ok sc_Taken_init (fun vs H Q E h => ?_) (fun cdv A outer s H vs Q E hr h => ?_)
  · obtain ⟨a, v, rfl, _⟩ := h
    rfl
  · obtain ⟨a, v, rfl, ha, hQ⟩ := h
    refine ⟨_, PSs.nox (pss_cons (ps_expr (GX.pe_bi PySem.F.excBase_RuntimeError rfl T.zb PyProof.Rows.Boot.«RuntimeError» typRuntimeError T.vV (by decide +kernel) (by decide +kernel) (pa_cons (pv 0) (pa_cons pe_str pa_nil))))
      (pss_one (GX.ps_pf PySem.F.store_RuntimeError (nid := "RuntimeError.__new__") (pv 0) (pv 1)))), ?_⟩
    refine ⟨_, rfl, a, N, _, rfl, by show 1 ≤ 1000; decide, T.gx, ha, ?_⟩
    exact ⟨_, rfl, _, rfl, a, N, rfl, T.gx, T.no, ha, hQ⟩
theorem mx_Taken (F : Dn K d_Taken_init fN fd) (T : XTaken K mg N fN) (b : Binds K fd ["self", "name"] []) (k : KBn K fd ["self", "name"] 1 ["name"] (fun us ws => us ++ ws) (fun vs zs => vs ++ zs)) : GXV.Mx P w K mg base "Taken" N (spXI N "name") "name" :=
  ⟨fN, fd, _, _, _, _, _, newRuntimeError, T.gx, T.iC, T.tI, ok_Taken F T, b, k, T.g⟩
abbrev XNoRule (K : PySem.W.Frag) (mg : Str → Option Value) (N fN : Addr) : Prop := Kx K mg N fN trNotImplementedError "NotImplementedError.__new__" "NotImplementedError" "NotImplementedError.__init__" "NoRule" "thing"
theorem ok_NoRule (F : Dn K d_NoRule_init f fd) (T : XNoRule K mg N fN) : FnOk P w K mg base CX0 1 f fd ["self", "thing"] (spXI N "thing") := by
  refine F.ok sc_NoRule_init (fun vs H Q E h => ?_) (fun cdv A outer s H vs Q E hr h => ?_)
  · obtain ⟨a, v, rfl, _⟩ := h
    rfl
  · obtain ⟨a, v, rfl, ha, hQ⟩ := h
    refine ⟨_, PSs.nox (pss_cons (ps_expr (GX.pe_bi PySem.F.excBase_NotImplementedError rfl T.zb PyProof.Rows.Boot.«NotImplementedError» typNotImplementedError T.vV (by decide +kernel) (by decide +kernel) (pa_cons (pv 0) (pa_cons pe_str pa_nil))))
      (pss_one (GX.ps_pf PySem.F.store_NotImplementedError (nid := "NotImplementedError.__new__") (pv 0) (pv 1)))), ?_⟩
    refine ⟨_, rfl, a, N, _, rfl, by show 1 ≤ 1000; decide, T.gx, ha, ?_⟩
    exact ⟨_, rfl, _, rfl, a, N, rfl, T.gx, T.no, ha, hQ⟩
theorem mx_NoRule (F : Dn K d_NoRule_init fN fd) (T : XNoRule K mg N fN) (b : Binds K fd ["self", "thing"] []) (k : KBn K fd ["self", "thing"] 1 ["thing"] (fun us ws => us ++ ws) (fun vs zs => vs ++ zs)) : GXV.Mx P w K mg base "NoRule" N (spXI N "thing") "thing" :=
  ⟨fN, fd, _, _, _, _, _, newNotImplementedError, T.gx, T.iC, T.tI, ok_NoRule F T, b, k, T.g⟩
abbrev XNothingDone (K : PySem.W.Frag) (mg : Str → Option Value) (N fN : Addr) : Prop := Kx K mg N fN trException "Exception.__new__" "Exception" "Exception.__init__" "NothingDone" "text"
theorem ok_NothingDone (F : Dn K d_NothingDone_init f fd) (T : XNothingDone K mg N fN) : FnOk P w K mg base CX0 1 f fd ["self", "text"] (spXI N "text") := by
  refine F.ok sc_NothingDone_init (fun vs H Q E h => ?_) (fun cdv A outer s H vs Q E hr h => ?_)
  · obtain ⟨a, v, rfl, _⟩ := h
    rfl
  · obtain ⟨a, v, rfl, ha, hQ⟩ := h
    refine ⟨_, PSs.nox (pss_cons (ps_expr (GX.pe_bi PySem.F.excBase_Exception rfl T.zb PyProof.Rows.Boot.«Exception» typException T.vV (by decide +kernel) (by decide +kernel) (pa_cons (pv 0) (pa_cons pe_str pa_nil))))
      (pss_one (GX.ps_pf PySem.F.store_Exception (nid := "Exception.__new__") (pv 0) (pv 1)))), ?_⟩
    refine ⟨_, rfl, a, N, _, rfl, by show 1 ≤ 1000; decide, T.gx, ha, ?_⟩
    exact ⟨_, rfl, _, rfl, a, N, rfl, T.gx, T.no, ha, hQ⟩
theorem mx_NothingDone (F : Dn K d_NothingDone_init fN fd) (T : XNothingDone K mg N fN) (b : Binds K fd ["self", "text"] []) (k : KBn K fd ["self", "text"] 1 ["text"] (fun us ws => us ++ ws) (fun vs zs => vs ++ zs)) : GXV.Mx P w K mg base "NothingDone" N (spXI N "text") "text" :=
  ⟨fN, fd, _, _, _, _, _, newException, T.gx, T.iC, T.tI, ok_NothingDone F T, b, k, T.g⟩
abbrev XNoRow (K : PySem.W.Frag) (mg : Str → Option Value) (N fN : Addr) : Prop := Kx K mg N fN trException "Exception.__new__" "Exception" "Exception.__init__" "NoRow" "text"
theorem ok_NoRow (F : Dn K d_NoRow_init f fd) (T : XNoRow K mg N fN) : FnOk P w K mg base CX0 1 f fd ["self", "text"] (spXI N "text") := by
  refine F.ok sc_NoRow_init (fun vs H Q E h => ?_) (fun cdv A outer s H vs Q E hr h => ?_)
  · obtain ⟨a, v, rfl, _⟩ := h
    rfl
  · obtain ⟨a, v, rfl, ha, hQ⟩ := h
    refine ⟨_, PSs.nox (pss_cons (ps_expr (GX.pe_bi PySem.F.excBase_Exception rfl T.zb PyProof.Rows.Boot.«Exception» typException T.vV (by decide +kernel) (by decide +kernel) (pa_cons (pv 0) (pa_cons pe_str pa_nil))))
      (pss_one (GX.ps_pf PySem.F.store_Exception (nid := "Exception.__new__") (pv 0) (pv 1)))), ?_⟩
    refine ⟨_, rfl, a, N, _, rfl, by show 1 ≤ 1000; decide, T.gx, ha, ?_⟩
    exact ⟨_, rfl, _, rfl, a, N, rfl, T.gx, T.no, ha, hQ⟩
theorem mx_NoRow (F : Dn K d_NoRow_init fN fd) (T : XNoRow K mg N fN) (b : Binds K fd ["self", "text"] []) (k : KBn K fd ["self", "text"] 1 ["text"] (fun us ws => us ++ ws) (fun vs zs => vs ++ zs)) : GXV.Mx P w K mg base "NoRow" N (spXI N "text") "text" :=
  ⟨fN, fd, _, _, _, _, _, newException, T.gx, T.iC, T.tI, ok_NoRow F T, b, k, T.g⟩
end
end K90
set_option Elab.async false
set_option linter.all false
set_option maxRecDepth 100000
set_option maxHeartbeats 4000000
namespace K90
open PySem PySem.Spec PyProof.Rows L2
open C8 (Cal Mak Met pe_c pe_mk pe_mt pe_mt0)
section
variable {P : Program} {w : World} {K : PySem.W.Frag} {mg : Str → Option Value} {base : Heap} {f C : Addr} {fd : FuncData}
abbrev CalW (P : Program) (w : World) (K : PySem.W.Frag) (mg : Str → Option Value) (base : Heap) : Prop := Cal P w K mg base 1 "is_whole" spWhole []
abbrev CalG (P : Program) (w : World) (K : PySem.W.Frag) (mg : Str → Option Value) (base : Heap) : Prop := Cal P w K mg base 1 "common_part" spGcd []
/-- __init__: a Share in lowest terms -/
def spInit (C : Addr) : Sp := fun vs H Q _ => ∃ (p dx : Addr) (t b : Int) (n : Nat), vs = [.ref p, .int t, .int b] ∧ b ≠ 0 ∧ b.natAbs < 2 ^ n ∧ 0 < n ∧ n ≤ 9000 ∧ H p = some (.ins C dx []) ∧
  ∀ H', (∀ a o, a ≠ p → H a = some o → H' a = some o) → H' p = some (.ins C dx (shF (KM.low t b))) → Q .non H'
theorem ok_init (F : Dn K d_Share_init f fd) (cW : CalW P w K mg base) (cG : CalG P w K mg base) (T : Cl K mg C) : FnOk P w K mg base CX0 2 f fd ["self", "top", "bottom"] (spInit C) := by
  refine F.ok sc_Share_init (fun vs H Q E h => ?_) (fun cdv A outer s H vs Q E hr h => ?_)
  · obtain ⟨p, dx, t, b, n, rfl, _⟩ := h
    rfl
  · obtain ⟨p, dx, t, b, n, rfl, hb, hn, hn0, hn9, hp, hQ⟩ := h
    refine ⟨_, PSs.nox (pss_cons (ps_for PassesOwn.never rfl (pi_tup (pe_tup (pa_cons (pv 1) (pa_cons (pv 2) pa_nil)))) (pg_name (i := 3) sc_Share_init.nd rfl (.inl rfl))
        (pss_one (ps_if (pt_not (pt_val (pe_c cW hr (by decide) rfl (pa_cons (pv 3) pa_nil)))) pss_never pss_nil)))
      (pss_cons (ps_if (pt_cmpR op_eq (pv 2) pe_int (nomark _)) pss_never pss_nil)
      (pss_cons (ps_set (i := 4) sc_Share_init.nd rfl (.inl rfl) (pe_c cG hr (by decide) rfl (pa_cons (pv 1) (pa_cons (pv 2) pa_nil))))
      (pss_cons (ps_if (pt_cmpR op_lt (pv 2) pe_int (nomark _)) (pss_one (ps_set (i := 4) sc_Share_init.nd rfl (.inl rfl) (pe_un un_neg (pv 4)))) pss_nil)
      (pss_cons (ps_fld (pv 0) (pe_op op_fdW (pv 1) (pv 4)) rfl)
      (pss_one (ps_fld (pv 0) (pe_op op_fdW (pv 2) (pv 4)) rfl))))))), ?_⟩
    refine ⟨_, rfl, _, rfl, by show 2 ≤ sizeLine; decide, fun u hu => ?_⟩
    have npu : p ≠ u := ne_of_none hp hu
    refine ⟨u, rfl, ⟨_, SqT.of upd_same⟩, for_tup (K := K) (xs := [.int t, .int b]) (fun i σ H2 => H2 = upd H u (.tup [.int t, .int b]) ∧ ∃ v, σ = [some (.ref p), some (.int t), some (.int b), v, none])
      ⟨rfl, none, rfl⟩ (fun i σ H2 _ h => by rw [h.1]; exact SqT.of upd_same) ?_ ?_⟩
    · rintro i y σ H2 hi ⟨rfl, v, rfl⟩
      have hy : ∃ n : Int, y = .int n := by
        match i, hi with
        | 0, e => exact ⟨t, (Option.some.inj e).symm⟩
        | 1, e => exact ⟨b, (Option.some.inj e).symm⟩
      obtain ⟨n, rfl⟩ := hy
      refine ⟨_, rfl, n, rfl, true, rfl, ?_⟩
      refine iteF ?_
      exact ⟨rfl, _, rfl⟩
    · rintro σ H2 ⟨rfl, v, rfl⟩
      refine ⟨_, rfl, rfl, _, rfl, ?_⟩
      have hb0 : decide (V.int b = V.int 0) = false := by simp [hb]
      rw [hb0]
      refine iteF ?_
      refine ⟨_, rfl, _, rfl, t, b, rfl, ?_⟩
      refine ⟨_, rfl, _, _, rfl, rfl, _, rfl, ?_⟩
      have hs9 : (KM.sg t b).natAbs.log2 < 9000 := log_lt (Nat.lt_of_le_of_lt (KM.sg_le hb) hn) hn0 hn9
      have fin : ∀ c : Int, c = KM.sg t b → ∀ v, tSeq (sFld K (tVar 0) (tOp (rI (fun _ j => j ≠ 0 ∧ j.natAbs.log2 < 9000) fun i j => .int (i.fdiv j)) (tVar 1) (tVar 4)) "top") (sFld K (tVar 0) (tOp (rI (fun _ j => j ≠ 0 ∧ j.natAbs.log2 < 9000) fun i j => .int (i.fdiv j)) (tVar 2) (tVar 4)) "bottom")
          { nx := fun _ H' => Q .non H', rt := Q } [some (.ref p), some (.int t), some (.int b), v, some (.int c)] (upd H u (.tup [.int t, .int b])) := by
        rintro c rfl v
        refine ⟨_, rfl, _, rfl, _, _, rfl, rfl, ⟨KM.sg_ne hb, hs9⟩, _, rfl, p, C, dx, _, rfl, (by rw [upd_ne npu]; exact hp), T.cl, T.nt, (by show 0 < 1000; decide), ?_⟩
        refine ⟨_, rfl, _, rfl, _, _, rfl, rfl, ⟨KM.sg_ne hb, hs9⟩, _, rfl, p, C, dx, _, rfl, upd_same, T.cl, T.nb, (by show 1 < 1000; decide), ?_⟩
        refine hQ _ (fun a o ha e => ?_) upd_same
        rw [upd_ne ha, upd_ne ha, upd_ne (ne_of_none e hu)]
        exact e
      refine ite2 (fun h => ?_) (fun h => ?_)
      · have h' : b < 0 := of_decide_eq_true h
        refine ⟨_, rfl, _, rfl, ?_⟩
        exact fin _ (by unfold KM.sg; rw [if_pos h']) _
      · have h' : ¬ b < 0 := fun z => h (decide_eq_true z)
        exact fin _ (by unfold KM.sg; rw [if_neg h']) _
end
end K90
set_option Elab.async false
set_option linter.all false
set_option maxRecDepth 100000
set_option maxHeartbeats 4000000
namespace K90
open PySem PySem.Spec PyProof.Rows L2
open C8 (Cal Mak Met pe_c pe_mk pe_mt pe_mt0)
section
variable {P : Program} {w : World} {K : PySem.W.Frag} {mg : Str → Option Value} {base : Heap} {f C : Addr} {fd : FuncData}
abbrev MakS (P : Program) (w : World) (K : PySem.W.Frag) (mg : Str → Option Value) (base : Heap) (C : Addr) : Prop := Mak P w K mg base 2 "Share" C (spInit C) []
/-- Share(t, b): what is left to show -/
theorem mk_at {H1 : Hp} {t b : Int} {n : Nat} {Q : VK} (hb : b ≠ 0) (hn : b.natAbs < 2 ^ n) (hn0 : 0 < n) (hn9 : n ≤ 9000)
    (hQ : ∀ r H', Same H1 H' → H1 r = none → Sh C H' r (KM.low t b) → Q (.ref r) H') :
    ∀ x dx, H1 x = none → H1 dx = none → dx ≠ x → spInit C (.ref x :: ([V.int t, V.int b] ++ [])) (upd (upd H1 dx (.own x)) x (.ins C dx [])) (fun v H2 => v = .non ∧ Q (.ref x) H2) E0 := by
  intro x dx nx nd ne
  refine ⟨x, dx, t, b, n, rfl, hb, hn, hn0, hn9, upd_same, fun H' kp hp => ⟨rfl, hQ x H' (fun a o e => ?_) nx ⟨dx, hp⟩⟩⟩
  refine kp a o (ne_of_none e nx) ?_
  rw [upd_ne (ne_of_none e nx), upd_ne (ne_of_none e nd)]
  exact e
theorem mul_pos_ne {a b : Int} (ha : 0 < a) (hb : 0 < b) : a * b ≠ 0 := fun z => by
  have := Int.mul_pos ha hb
  omega
def two (n : Nat) (a b : Int × Int) : Prop := Bd n a ∧ Bd n b ∧ 0 < n ∧ n ≤ 4000

end
end K90
set_option Elab.async false
set_option linter.all false
set_option maxRecDepth 100000
set_option maxHeartbeats 4000000
namespace K90
open PySem PySem.Spec PyProof.Rows L2
open C8 (Cal Mak Met pe_c pe_mk pe_mt pe_mt0)
/-- the held dict's pairs -/
def hd0 (l : Addr) (n m : Int) : List (Key × V) := [(Sum.inr "cells", .ref l), (Sum.inr "at", .int n), (Sum.inr "left", .int m)]
theorem hd_cells (l : Addr) (n m : Int) : valV (hd0 l n m) (Sum.inr "cells") = some (.ref l) := valV_pos rfl
theorem k1 : ¬ (("cells" : Str) = "at") := by decide +kernel
theorem k2 : ¬ (("cells" : Str) = "left") := by decide +kernel
theorem k3 : ¬ (("at" : Str) = "left") := by decide +kernel
theorem k1' : ¬ (("at" : Str) = "cells") := by decide +kernel
theorem k3' : ¬ (("left" : Str) = "at") := by decide +kernel
theorem inr_ne {x y : Str} (h : ¬ x = y) : ¬ ((Sum.inr x : Key) = Sum.inr y) := fun z => h (Sum.inr.inj z)
theorem hd_at (l : Addr) (n m : Int) : valV (hd0 l n m) (Sum.inr "at") = some (.int n) := (valV_neg (inr_ne k1)).trans (valV_pos rfl)
theorem hd_left (l : Addr) (n m : Int) : valV (hd0 l n m) (Sum.inr "left") = some (.int m) := (valV_neg (inr_ne k2)).trans ((valV_neg (inr_ne k3)).trans (valV_pos rfl))
theorem put_at (l : Addr) (n m k : Int) : putK (hd0 l n m) (Sum.inr "at") (.int k) = hd0 l k m := by
  unfold putK hd0
  simp [k1, k3']
theorem put_left (l : Addr) (n m k : Int) : putK (hd0 l n m) (Sum.inr "left") (.int k) = hd0 l n k := by
  unfold putK hd0
  simp [k2, k3]
theorem hd_merge (l : Addr) (n m : Int) : mergeK [] (hd0 l n m) = hd0 l n m := by
  simp [mergeK, hd0, putK, k1, k2, k3]
/-- the held dict at h, good for c draws more -/
def Held (H : Hp) (h : Addr) (c : Nat) : Prop := ∃ (l : Addr) (ns : List Int) (n m : Int), H h = some (.dK (hd0 l n m)) ∧ H l = some (.lst (ns.map V.int)) ∧ 0 ≤ n ∧ n + c ≤ 1000000000
theorem Held.weak {H : Hp} {h : Addr} {c c' : Nat} (hc : c' ≤ c) (x : Held H h c) : Held H h c' := by
  obtain ⟨l, ns, n, m, h1, h2, h3, h4⟩ := x
  exact ⟨l, ns, n, m, h1, h2, h3, by omega⟩
/-- all but h is kept -/
def Kp (h : Addr) (H H' : Hp) : Prop := (∀ b o, H b = some o → b ≠ h → H' b = some o) ∧ ∀ l n m, H h = some (.dK (hd0 l n m)) → ∃ n' m', H' h = some (.dK (hd0 l n' m'))
theorem Kp.refl (h : Addr) (H : Hp) : Kp h H H := ⟨fun _ _ e _ => e, fun _ n m e => ⟨n, m, e⟩⟩
theorem Kp.trans {h : Addr} {H H1 H2 : Hp} (a : Kp h H H1) (b : Kp h H1 H2) : Kp h H H2 := ⟨fun c o e n => b.1 c o (a.1 c o e n) n, fun l n m e => let ⟨n', m', e'⟩ := a.2 l n m e; b.2 l n' m' e'⟩
theorem Kp.same {h : Addr} {H H1 : Hp} (a : Same H H1) : Kp h H H1 := ⟨fun c o e _ => a c o e, fun _ n m e => ⟨n, m, a _ _ e⟩⟩
theorem hd_inj {l l' : Addr} {n m n' m' : Int} (h : HO.dK (hd0 l n m) = HO.dK (hd0 l' n' m')) : l = l' := by
  injection h with h
  injection h with h _
  injection h with _ h
  injection h
/-- the held dict put anew -/
theorem Kp.put {h l : Addr} {H : Hp} {n m : Int} (n' m' : Int) (e : H h = some (.dK (hd0 l n m))) : Kp h H (upd H h (.dK (hd0 l n' m'))) := by
  refine ⟨fun c o z ne => by rw [upd_ne ne]; exact z, fun l' n1 m1 z => ⟨n', m', ?_⟩⟩
  rw [upd_same, hd_inj (Option.some.inj (z.symm.trans e))]
theorem Held.same {H H' : Hp} {h : Addr} {c : Nat} (s : Same H H') (x : Held H h c) : Held H' h c := by
  obtain ⟨l, ns, n, m, h1, h2, h3, h4⟩ := x
  exact ⟨l, ns, n, m, s _ _ h1, s _ _ h2, h3, h4⟩
theorem same_new {H : Hp} {p : Addr} {o : HO} (h : H p = none) : Same H (upd H p o) := fun a u e => by
  rw [upd_ne (ne_of_none e h)]
  exact e
theorem dpInts {K : PySem.W.Frag} {H : Hp} : ∀ ns : List Int, DpAll K H (ns.map V.int) (ns.map PyData.int)
  | [] => .nil
  | n :: ns => .cons (.int n) (dpInts ns)
section
variable {P : Program} {w : World} {K : PySem.W.Frag} {mg : Str → Option Value} {base : Heap} {f C : Addr} {fd : FuncData}
def spHeld (K : PySem.W.Frag) : Sp := fun vs H Q _ => ∃ (a : Addr) (ns : List Int), vs = [.ref a] ∧ SqL K H a (ns.map V.int) ∧ ns.length ≤ 63 ∧ ∀ h H', Same H H' → H h = none → Held H' h 900000000 → Q (.ref h) H'
theorem ok_held (F : Dn K d_l_held f fd) (b : Bl mg) : FnOk P w K mg base CX0 1 f fd ["_law_script"] (spHeld K) := by
  refine F.ok sc_l_held (fun vs H Q E h => ?_) (fun cdv A outer s H vs Q E hr h => ?_)
  · obtain ⟨a, ns, rfl, _⟩ := h
    rfl
  · obtain ⟨a, ns, rfl, hS, hlen, hQ⟩ := h
    refine ⟨_, PSs.nox (pss_one (ps_ret (pe_disp (pps_cons pe_str (pe_callTy call_list_of rfl b.list boot_list (pa_cons (pe_slice sl_list (pv 0) po_none (po_some pe_int)) pa_nil)) (pps_cons pe_str pe_int (pps_cons pe_str pe_int pps_nil))) rfl rfl (by simp) (by decide)))), ?_⟩
    intro h hh
    have sS : SqL K (upd H h (.dK [])) a (ns.map V.int) := (same_new hh).seq hS
    refine ⟨_, rfl, 63, rfl, a, _, rfl, sS, fun p hp => ⟨p, _, rfl, Or.inl (SqL.of upd_same), fun l hl => ?_⟩⟩
    have nhp : h ≠ p := ne_of_none upd_same hp
    have nhl : h ≠ l := ne_of_none (by rw [upd_ne nhp]; exact upd_same) hl
    refine ⟨by rw [upd_ne nhl, upd_ne nhp, upd_same], hd0 l 0 0, rfl, by show 3 ≤ 15; decide, ?_⟩
    have e : cutV (ns.map V.int) none (some 63) = (ns.take 63).map V.int := by
      unfold cutV
      simp [HT.sIx, List.map_take]
    refine hQ h _ (fun c o z => ?_) hh ⟨l, ns.take 63, 0, 0, ?_, ?_, by decide, by decide⟩
    · have z1 : c ≠ h := ne_of_none z hh
      have z2 : (upd H h (.dK [])) c = some o := by rw [upd_ne z1]; exact z
      have z3 : c ≠ p := ne_of_none z2 hp
      have z4 : c ≠ l := ne_of_none (by rw [upd_ne z3]; exact z2) hl
      rw [upd_ne z1, upd_ne z4, upd_ne z3]
      exact z2
    · rw [upd_same, hd_merge]
    · rw [upd_ne nhl.symm, upd_same, ← e]

def spDraw : Sp := fun vs H Q _ => ∃ (h : Addr) (c : Nat) (k : Int), vs = [.ref h, .int k] ∧ Held H h (c + 1) ∧ 0 < k ∧ k < 1073741824 ∧
  ∀ r H', 0 ≤ r → r < k → Held H' h c → Kp h H H' → Q (.int r) H'
theorem cb_l {i j : Int} (h1 : -(2 ^ 64) < i) (h2 : i < 2 ^ 64) : CMul i j := .inl ⟨h1, h2⟩
theorem cb_r {i j : Int} (h1 : -(2 ^ 64) < j) (h2 : j < 2 ^ 64) : CMul i j := .inr ⟨h1, h2⟩
theorem ok_draw (F : Dn K d_l_draw f fd) (b : Bl mg) : FnOk P w K mg base CX0 1 f fd ["_law_held_here", "_law_many"] spDraw := by
  refine F.ok sc_l_draw (fun vs H Q E h => ?_) (fun cdv A outer s H vs Q E hr h => ?_)
  · obtain ⟨h, c, k, rfl, _⟩ := h
    rfl
  · obtain ⟨h, c, k, rfl, ⟨l, ns, n, m, hh, hl, hn, hc⟩, hk0, hk1, hQ⟩ := h
    have hu := hu_of hr
    have hu64 : (A.deeper (envOfC d_l_draw.qual d_l_draw.scope s.heap.objs.size f cdv)).units + 64 < cLine := by have := hr.un; omega
    have nlh : l ≠ h := ne_of hl hh (by intro z; cases z)
    refine ⟨_, PSs.nox (pss_cons (ps_if (pt_cmpR op_gt (pe_dget hu (pv 0) pe_str (fun _ _ => rfl)) pe_int (nomark _))
         (pss_cons (ps_set (i := 2) sc_l_draw.nd rfl (.inl rfl) (pe_op op_mod (pe_dget hu (pv 0) pe_str (fun _ _ => rfl)) (pv 1)))
         (pss_cons (ps_dput hu (pv 0) pe_str (pe_op op_fdiv (pe_dget hu (pv 0) pe_str (fun _ _ => rfl)) (pv 1)) rfl)
         (pss_one (ps_ret (pv 2))))) pss_nil)
      (pss_cons (ps_set (i := 3) sc_l_draw.nd rfl (.inl rfl) (pe_dget hu (pv 0) pe_str (fun _ _ => rfl)))
      (pss_cons (ps_dput hu (pv 0) pe_str (pe_op op_add (pv 3) pe_int) rfl)
      (C8.pss_cut (ps_set (i := 4) sc_l_draw.nd rfl (.inl rfl) (pe_ifExp (pt_cmpR (op_neD hu64) (pe_dget hu (pv 0) pe_str (fun _ _ => rfl)) (pe_lst pa_nil) (nomark _))
        (pe_ix ix_list (pe_dget hu (pv 0) pe_str (fun _ _ => rfl)) (pe_op op_mod (pv 3) (pe_callB call_len_seq rfl b.len boot_len (pa_cons (pe_dget hu (pv 0) pe_str (fun _ _ => rfl)) pa_nil))) (fun _ _ => rfl)) pe_int))
      (pss_cons (ps_if (PW.pt (pw_and (pt_cmpR op_ge (pv 4) (pe_op op_pow pe_int pe_int) (nomark _)) (pw_and1 (pt_cmpR op_lt (pv 3) (pe_callB call_len_seq rfl b.len boot_len (pa_cons (pe_dget hu (pv 0) pe_str (fun _ _ => rfl)) pa_nil)) (nomark _)))))
         (pss_cons (ps_dput hu (pv 0) pe_str (pe_op op_fdiv (pe_op op_sub (pv 4) (pe_op op_pow pe_int pe_int)) (pv 1)) rfl)
         (pss_one (ps_ret (pe_op op_mod (pe_op op_sub (pv 4) (pe_op op_pow pe_int pe_int)) (pv 1))))) pss_nil)
      (pss_cons (ps_set (i := 5) sc_l_draw.nd rfl (.inl rfl) (pe_op op_mod (pe_op op_add (pe_op op_add (pe_op op_add (pe_op op_mul (pe_op op_mod (pv 4) pe_int) pe_int) (pe_op op_mul (pe_op op_mul pe_int (pv 3)) (pv 3))) (pe_op op_mul pe_int (pv 3))) pe_int) pe_int))
      (pss_cons (ps_set (i := 5) sc_l_draw.nd rfl (.inl rfl) (pe_op op_mod (pe_op op_add (pe_op op_add (pe_op op_mul (pv 5) pe_int) (pe_op op_fdiv (pv 5) pe_int)) pe_int) pe_int))
      (pss_one (ps_ret (pe_op op_mod (pe_op op_fdiv (pv 5) pe_int) (pv 1))))))))))), ?_⟩
    have cM : ∀ x y : Int, 0 < y → (0 ≤ x % y ∧ x % y < y) := fun x y hy => ⟨Int.emod_nonneg _ (by omega), Int.emod_lt_of_pos _ hy⟩
    refine ⟨_, rfl, h, _, rfl, hd_left l n m ▸ DGet.k (k := Sum.inr "left") hh, _, _, rfl, rfl, _, rfl, ?_⟩
    refine ite2 (fun h1 => ?_) (fun h1 => ?_)
    · refine ⟨_, rfl, h, _, rfl, hd_left l n m ▸ DGet.k (k := Sum.inr "left") hh, _, rfl, _, _, rfl, rfl, hk0, ?_⟩
      refine ⟨_, rfl, h, _, rfl, hd_left l n m ▸ DGet.k (k := Sum.inr "left") hh, _, rfl, _, _, rfl, rfl, ⟨hk0, hk1⟩, _, rfl, h, _, rfl, DPut.k (k := Sum.inr "left") hh (by show 3 < sizeLine; decide), ?_⟩
      refine ⟨_, rfl, hQ _ _ (cM _ _ hk0).1 (cM _ _ hk0).2 ⟨l, ns, n, m / k, ?_, ?_, hn, by omega⟩ ?_⟩
      · rw [upd_same, put_left]
      · rw [upd_ne nlh]; exact hl
      · rw [put_left]; exact Kp.put _ _ hh
    · refine ⟨_, rfl, h, _, rfl, hd_at l n m ▸ DGet.k (k := Sum.inr "at") hh, ?_⟩
      refine ⟨_, rfl, _, _, rfl, rfl, _, rfl, h, _, rfl, DPut.k (k := Sum.inr "at") hh (by show 3 < sizeLine; decide), ?_⟩
      rw [put_at]
      have hh1 : (upd H h (.dK (hd0 l (n + 1) m))) h = some (.dK (hd0 l (n + 1) m)) := upd_same
      have hl1 : (upd H h (.dK (hd0 l (n + 1) m))) l = some (.lst (ns.map V.int)) := by rw [upd_ne nlh]; exact hl
      have kp1 : Kp h H (upd H h (.dK (hd0 l (n + 1) m))) := Kp.put _ _ hh
      refine ⟨fun σ' H' => ∃ (cell : Int), σ' = [some (.ref h), some (.int k), none, some (.int n), some (.int cell), none] ∧ H' h = some (.dK (hd0 l (n + 1) m)) ∧ H' l = some (.lst (ns.map V.int)) ∧ Kp h H H', ?_, ?_⟩
      · refine ⟨_, rfl, h, _, rfl, hd_cells l (n + 1) m ▸ DGet.k (k := Sum.inr "cells") hh1, (by show 0 ≤ sizeLine; decide), fun e he => ?_⟩
        have nhe : h ≠ e := ne_of_none hh1 he
        have nle : l ≠ e := ne_of_none hl1 he
        have hh2 : (upd (upd H h (.dK (hd0 l (n + 1) m))) e (.lst [])) h = some (.dK (hd0 l (n + 1) m)) := by rw [upd_ne nhe]; exact hh1
        have hl2 : (upd (upd H h (.dK (hd0 l (n + 1) m))) e (.lst [])) l = some (.lst (ns.map V.int)) := by rw [upd_ne nle]; exact hl1
        have kp2 : Kp h H (upd (upd H h (.dK (hd0 l (n + 1) m))) e (.lst [])) := kp1.trans (Kp.same (same_new he))
        refine ⟨.list (ns.map .int), .list [], Dp.lst (SqL.of hl2) (dpInts ns), Dp.lst (SqL.of upd_same) .nil, PySem.W.ke_shaped_ints ns, by decide, _, rfl, ?_⟩
        cases ns with
        | nil => exact iteF ⟨0, rfl, hh2, hl2, kp2⟩
        | cons z zs =>
          refine iteT ?_
          have hlen : (0 : Int) < (((z :: zs).map V.int).length : Int) := by simp
          refine ⟨_, rfl, h, _, rfl, hd_cells l (n + 1) m ▸ DGet.k (k := Sum.inr "cells") hh2, _, rfl, _, rfl, h, _, rfl, hd_cells l (n + 1) m ▸ DGet.k (k := Sum.inr "cells") hh2, l, _, rfl, Or.inl (SqL.of hl2), _, _, rfl, rfl, hlen, ?_⟩
          obtain ⟨q, hq⟩ := Int.eq_ofNat_of_zero_le (cM n _ hlen).1
          have hq2 := (cM n _ hlen).2
          rw [hq] at hq2
          have hq3 : q < (z :: zs).length := by rw [List.length_map] at hq2; omega
          refine ⟨l, _, _, .int ((z :: zs)[q]), rfl, rfl, SqL.of hl2, (by rw [hq]; exact atI_nat (by rw [List.getElem?_map, List.getElem?_eq_getElem hq3]; rfl)), ?_⟩
          exact ⟨_, rfl, hh2, hl2, kp2⟩
      · rintro σ' H' ⟨cell, rfl, hh2, hl2, kp2⟩
        have stay : ∀ m', Held (upd H' h (.dK (hd0 l (n + 1) m'))) h c := fun m' => ⟨l, ns, n + 1, m', upd_same, by rw [upd_ne nlh]; exact hl2, by omega, by omega⟩
        have stay0 : Held H' h c := ⟨l, ns, n + 1, m, hh2, hl2, by omega, by omega⟩
        have last : ∀ D : Ends, D.rt = Q → tSeq (tAsg (tOp (rI (fun _ j => 0 < j) fun i j => .int (i % j)) (tOp (rI0 fun i j => .int (i + j)) (tOp (rI0 fun i j => .int (i + j)) (tOp (rI0 fun i j => .int (i + j))
            (tOp (rI CMul fun i j => .int (i * j)) (tOp (rI (fun _ j => 0 < j) fun i j => .int (i % j)) (tVar 4) (tC (.int 2147483587))) (tC (.int 40692))) (tOp (rI CMul fun i j => .int (i * j)) (tOp (rI CMul fun i j => .int (i * j)) (tC (.int 7907)) (tVar 3)) (tVar 3)))
            (tOp (rI CMul fun i j => .int (i * j)) (tC (.int 104729)) (tVar 3))) (tC (.int 17))) (tC (.int 2147483629))) (gName 5))
          (tSeq (tAsg (tOp (rI (fun _ j => 0 < j) fun i j => .int (i % j)) (tOp (rI0 fun i j => .int (i + j)) (tOp (rI0 fun i j => .int (i + j)) (tOp (rI CMul fun i j => .int (i * j)) (tVar 5) (tC (.int 48271))) (tOp (rI CDiv fun i j => .int (i / j)) (tVar 5) (tC (.int 127)))) (tC (.int 31))) (tC (.int 2147483647))) (gName 5))
          (tRet (tOp (rI (fun _ j => 0 < j) fun i j => .int (i % j)) (tOp (rI CDiv fun i j => .int (i / j)) (tVar 5) (tC (.int 89))) (tVar 1)))) D [some (.ref h), some (.int k), none, some (.int n), some (.int cell), none] H' := by
          intro D hD
          refine ⟨_, rfl, _, _, rfl, rfl, (by decide : (0 : Int) < 2147483587), _, _, rfl, rfl, cb_r (by decide) (by decide), _, rfl, _, _, rfl, rfl, cb_l (by decide) (by decide), _, rfl, _, _, rfl, rfl, cb_r (by omega) (by omega), _, _, rfl, rfl, ?_⟩
          refine ⟨_, rfl, _, _, rfl, rfl, cb_l (by decide) (by decide), _, _, rfl, rfl, _, _, rfl, rfl, _, _, rfl, rfl, (by decide : (0 : Int) < 2147483629), ?_⟩
          refine ⟨_, rfl, _, _, rfl, rfl, cb_r (by decide) (by decide), _, rfl, _, _, rfl, rfl, ⟨by decide, by decide⟩, _, _, rfl, rfl, _, _, rfl, rfl, _, _, rfl, rfl, (by decide : (0 : Int) < 2147483647), ?_⟩
          refine ⟨_, rfl, _, _, rfl, rfl, ⟨by decide, by decide⟩, _, rfl, _, _, rfl, rfl, hk0, ?_⟩
          rw [hD]
          exact hQ _ _ (cM _ _ hk0).1 (cM _ _ hk0).2 stay0 kp2
        refine ⟨_, rfl, _, _, rfl, rfl, ⟨by decide, by decide, by decide⟩, _, _, rfl, rfl, _, rfl, ?_⟩
        refine ite2 (fun g1 => ?_) (fun g1 => iteF (last _ rfl))
        refine ⟨_, rfl, _, rfl, h, _, rfl, hd_cells l (n + 1) m ▸ DGet.k (k := Sum.inr "cells") hh2, l, _, rfl, Or.inl (SqL.of hl2), _, _, rfl, rfl, _, rfl, ?_⟩
        refine ite2 (fun g2 => ?_) (fun g2 => last _ rfl)
        refine ⟨_, rfl, _, _, rfl, rfl, ⟨by decide, by decide, by decide⟩, _, _, rfl, rfl, _, rfl, _, _, rfl, rfl, ⟨hk0, hk1⟩, _, rfl, h, _, rfl, DPut.k (k := Sum.inr "left") hh2 (by show 3 < sizeLine; decide), ?_⟩
        refine ⟨_, rfl, _, _, rfl, rfl, ⟨by decide, by decide, by decide⟩, _, _, rfl, rfl, _, rfl, _, _, rfl, rfl, hk0, ?_⟩
        rw [put_left]
        refine hQ _ _ (cM _ _ hk0).1 (cM _ _ hk0).2 (stay _) (kp2.trans (Kp.put _ _ hh2))
end
end K90
set_option Elab.async false
set_option linter.all false
set_option maxRecDepth 100000
set_option maxHeartbeats 4000000
namespace K90
open PySem PySem.Spec PyProof.Rows L2
open C8 (Cal Mak Met pe_c pe_mk pe_mt pe_mt0)
abbrev CalD (P : Program) (w : World) (K : PySem.W.Frag) (mg : Str → Option Value) (base : Heap) : Prop := Cal P w K mg base 1 "_law_draw" spDraw []
end K90
set_option Elab.async false
set_option linter.all false
set_option maxRecDepth 100000
set_option maxHeartbeats 4000000
/-! d.update(e), both dicts by texts or numbers -/
namespace DU
open PySem PySem.Spec PyProof.Rows L2
def rUpd : V → List V → Hp → VK → Prop := fun x xs H Q => ∃ (d o : Addr) (kvs more : List (Key × V)), x = .ref d ∧ xs = [.ref o] ∧ d ≠ o ∧ H d = some (.dK kvs) ∧ H o = some (.dK more) ∧ kvs.length + more.length ≤ sizeLine ∧ Q .non (upd H d (.dK (mergeK kvs more)))
theorem putK_len (kvs : List (Key × V)) (k : Key) (v : V) : (putK kvs k v).length ≤ kvs.length + 1 := by
  unfold putK
  split
  · rw [List.length_map]; omega
  · rw [List.length_append]; exact Nat.le_refl _
theorem mergeK_len : ∀ (more kvs : List (Key × V)), (mergeK kvs more).length ≤ kvs.length + more.length
  | [], kvs => Nat.le_refl _
  | p :: more, kvs => by
    have ih := mergeK_len more (putK kvs p.1 p.2)
    have h := putK_len kvs p.1 p.2
    show (mergeK (putK kvs p.1 p.2) more).length ≤ _
    rw [List.length_cons]
    omega
theorem mt_upd {X : Cx} : MtR X "dict.update" rUpd := by
  intro pins s σ H x xs v us Q I rx rxs h
  obtain ⟨d, o, kvs, more, rfl, rfl, ne, hd, ho, hz, q⟩ := h
  cases rx
  obtain ⟨u, rfl, ru⟩ := rxs.one
  cases ru
  obtain ⟨l1, s1, vs, kv1, D1⟩ := I.hok d _ hd
  obtain ⟨l2, s2, ws, kv2, D2⟩ := I.hok o _ ho
  have e1 : vs.length = kvs.length := (Paired.length kv1).symm
  have e2 : ws.length = more.length := (Paired.length kv2).symm
  have T := D1.typeIs
  refine call_meetsIn PySem.F.slot_dict_update T PySem.F.entry_dict_update (PySem.F.args_dict_update_2 _ _) (meets_dict_update (mixKind X.prog X.w) d o ne s2) ⟨vs, ws, D1, D2, by omega, fun h' D1' D2' same => ?_⟩
  have J := I.write (t' := s.toks) (x := d) (e := d) (o := .dK (mergeK kvs more)) (by rw [hd]; exact True.intro) (.inl rfl) (fun b u hb e => (same.2 b hb).trans e) (by obtain ⟨ob, es, ep, e, _⟩ := D1'; exact ⟨ob, e⟩) ⟨Nat.le_trans (mergeK_len more kvs) hz, s1, _, KV.merge kv2 kv1, D1'⟩
  exact ⟨.non, _, J, rfl, q⟩
end DU
set_option Elab.async false
set_option linter.all false
set_option maxRecDepth 100000
set_option maxHeartbeats 4000000
/-! a walk over zip of two lists of one length -/
namespace ZL
open PySem PySem.Spec PyProof.Rows L2
theorem walk_zipL {K : PySem.W.Frag} {a b : Addr} {xs ys : List V} (hl : ys.length = xs.length) : Walk (Itz K a b) xs.length (fun H => SqL K H a xs ∧ SqL K H b ys) (fun i H v H' => ∃ T x y, v = .ref T ∧ H T = none ∧ H' = upd H T (.tup [x, y]) ∧ xs[i]? = some x ∧ ys[i]? = some y) where
  goes := fun i H hi ⟨hx, hy⟩ => ⟨xs, ys, _, _, hx, hy, List.getElem?_eq_getElem hi, List.getElem?_eq_getElem (by omega)⟩
  yields := fun i H x H' hi ⟨hx, hy⟩ ⟨T, x', y', e1, e2, e3, f1, f2⟩ => ⟨T, x', y', e1, e2, e3, f1 xs hx, f2 ys hy⟩
  stops := fun H ⟨hx, hy⟩ => ⟨xs, ys, hx, hy, .inl (Nat.le_refl _)⟩
end ZL
set_option Elab.async false
set_option linter.all false
set_option maxRecDepth 100000
set_option maxHeartbeats 4000000
namespace K90
open PySem PySem.Spec PyProof.Rows L2
open C8 (Cal Mak Met pe_c pe_mk pe_mt pe_mt0)
open EXV (Xc)
open EXW (Dct)
theorem take_one {α : Type} {l : List α} {i : Nat} {x : α} (h : l[i]? = some x) : l.take (i + 1) = l.take i ++ [x] := by rw [List.take_succ, h]; rfl
theorem line_of {n : Nat} (h : n ≤ 100000) : n ≤ sizeLine := by have := sizeLine_eq; omega
theorem line_lt {n : Nat} (h : n ≤ 100000) : n < sizeLine := by have := sizeLine_eq; omega
/-- the own classes of refusals, the classes above them, the words -/
abbrev ex16 : List Str := [("NoKind" : Str), ("Nought" : Str), ("NoShare" : Str), ("Uneven" : Str), ("BadName" : Str), ("NoNumber" : Str), ("NoRide" : Str), ("NoText" : Str), ("NoName" : Str), ("NoDay" : Str), ("NoSeats" : Str), ("TooMany" : Str), ("Taken" : Str), ("NoRule" : Str), ("NothingDone" : Str), ("NoRow" : Str)]
abbrev ex10 : List String := ["TypeError", "ZeroDivisionError", "ArithmeticError", "ValueError", "KeyError", "LookupError", "IndexError", "OverflowError", "RuntimeError", "NotImplementedError"]
abbrev kw16 : List Str := [("kind" : Str), ("nought" : Str), ("share" : Str), ("uneven" : Str), ("badname" : Str), ("number" : Str), ("ride" : Str), ("text" : Str), ("name" : Str), ("day" : Str), ("seats" : Str), ("many" : Str), ("taken" : Str), ("rule" : Str), ("done" : Str), ("row" : Str)]
/-- what is known of a refusal's class D: which of the sixteen it is (ow), which of the ten stand above it (ab) -/
structure Ex (K : PySem.W.Frag) (mg : Str → Option Value) (D : Addr) (ow : Str → Bool) (ab : String → Bool) : Prop where
  gl : ∀ x ∈ ex16, mg x = some (.ref (He.ga K x))
  bt : ∀ x ∈ ex10, mg (Str.ofString x) = none
  xc : ExcC K D
  ko : ∀ x ∈ ex16, PySem.W.kitOne K (.ref D) (.ref (He.ga K x)) = some (ow x)
  kb : ∀ x ∈ ex10, PySem.W.kitOne K (.ref D) (.type x) = some (ab x)
section
variable {P : Program} {w : World} {K : PySem.W.Frag} {mg : Str → Option Value} {base : Heap} {f C CT D : Addr} {fd : FuncData} {ow : Str → Bool} {ab : String → Bool}
theorem isO {a : Addr} {d : Option Addr} {H : Hp} {x : Str} {Q : VK} (T : Ex K mg D ow ab) (ha : H a = some (Xc (.ref D) d a)) (hd : Dct H d) (hx : x ∈ ex16) (q : Q (.bl (ow x)) H) : EXW.rIsK K [.ref a, .ref (He.ga K x)] H Q :=
  ⟨a, D, d, _, _, _, rfl, ha, hd, T.xc, fun u r => by cases r; rfl, T.ko x hx, q⟩
theorem isB {a : Addr} {d : Option Addr} {H : Hp} {x : String} {Q : VK} (T : Ex K mg D ow ab) (ha : H a = some (Xc (.ref D) d a)) (hd : Dct H d) (hx : x ∈ ex10) (q : Q (.bl (ab x)) H) : EXW.rIsK K [.ref a, .ty x] H Q :=
  ⟨a, D, d, _, _, _, rfl, ha, hd, T.xc, fun u r => by cases r; rfl, T.kb x hx, q⟩
theorem dct_same {H H' : Hp} {d : Option Addr} (h : Dct H d) (s : Same H H') : Dct H' d := by
  rcases h with h | ⟨dd, fs, e, h⟩
  · exact .inl h
  · exact .inr ⟨dd, fs, e, s _ _ h⟩
/-- the words of what it is -/
def fnd (ow : Str → Bool) : List Str := ((kw16.zip (ex16.map ow)).filter (·.2)).map (·.1)
theorem split16 : Txt.split "kind nought share uneven badname number ride text name day seats many taken rule done row" " " = kw16 := by decide +kernel
def spKi (D : Addr) (ow : Str → Bool) (ab : String → Bool) : Sp := fun vs H Q _ => ∃ (a : Addr) (d : Option Addr), vs = [.ref a] ∧ H a = some (Xc (.ref D) d a) ∧ Dct H d ∧
  ∀ (t l m : Addr) (H' : Hp), Same H H' → H t = none → H' t = some (.tup [.ref l, .ref m]) → H' l = some (.lst ((fnd ow).map V.str)) → H' m = some (.lst (ex10.map fun x => V.bl (ab x))) → Q (.ref t) H'
theorem ok_ki (F : Dn K d_l_kinds f fd) (b : Bl mg) (bz : mg "zip" = none) (T : Ex K mg D ow ab) : FnOk P w K mg base CX0 1 f fd ["_law_error"] (spKi D ow ab) := by
  refine F.ok sc_l_kinds (fun vs H Q E h => ?_) (fun cdv A outer s H vs Q E hr h => ?_)
  · obtain ⟨a, d, rfl, _⟩ := h
    rfl
  · obtain ⟨a, d, rfl, ha, hd, hQ⟩ := h
    refine ⟨_, PSs.nox (pss_cons (ps_set (i := 1) sc_l_kinds.nd rfl (.inl rfl) (pe_lst (pa_cons (pe_callB (r := EXW.rIsK K) EXW.call_isK rfl b.isi boot_isinstance (pa_cons (pv 0) (pa_cons (pe_glob (v := .ref (He.ga K "NoKind")) rfl (T.gl "NoKind" (by decide +kernel)) rfl) pa_nil))) (pa_cons (pe_callB (r := EXW.rIsK K) EXW.call_isK rfl b.isi boot_isinstance (pa_cons (pv 0) (pa_cons (pe_glob (v := .ref (He.ga K "Nought")) rfl (T.gl "Nought" (by decide +kernel)) rfl) pa_nil))) (pa_cons (pe_callB (r := EXW.rIsK K) EXW.call_isK rfl b.isi boot_isinstance (pa_cons (pv 0) (pa_cons (pe_glob (v := .ref (He.ga K "NoShare")) rfl (T.gl "NoShare" (by decide +kernel)) rfl) pa_nil))) (pa_cons (pe_callB (r := EXW.rIsK K) EXW.call_isK rfl b.isi boot_isinstance (pa_cons (pv 0) (pa_cons (pe_glob (v := .ref (He.ga K "Uneven")) rfl (T.gl "Uneven" (by decide +kernel)) rfl) pa_nil))) pa_nil))))))
      (pss_cons (ps_set (i := 1) sc_l_kinds.nd rfl (.inl rfl) (pe_op op_cat (pv 1) (pe_lst (pa_cons (pe_callB (r := EXW.rIsK K) EXW.call_isK rfl b.isi boot_isinstance (pa_cons (pv 0) (pa_cons (pe_glob (v := .ref (He.ga K "BadName")) rfl (T.gl "BadName" (by decide +kernel)) rfl) pa_nil))) (pa_cons (pe_callB (r := EXW.rIsK K) EXW.call_isK rfl b.isi boot_isinstance (pa_cons (pv 0) (pa_cons (pe_glob (v := .ref (He.ga K "NoNumber")) rfl (T.gl "NoNumber" (by decide +kernel)) rfl) pa_nil))) (pa_cons (pe_callB (r := EXW.rIsK K) EXW.call_isK rfl b.isi boot_isinstance (pa_cons (pv 0) (pa_cons (pe_glob (v := .ref (He.ga K "NoRide")) rfl (T.gl "NoRide" (by decide +kernel)) rfl) pa_nil))) pa_nil))))))
      (pss_cons (ps_set (i := 1) sc_l_kinds.nd rfl (.inl rfl) (pe_op op_cat (pv 1) (pe_lst (pa_cons (pe_callB (r := EXW.rIsK K) EXW.call_isK rfl b.isi boot_isinstance (pa_cons (pv 0) (pa_cons (pe_glob (v := .ref (He.ga K "NoText")) rfl (T.gl "NoText" (by decide +kernel)) rfl) pa_nil))) (pa_cons (pe_callB (r := EXW.rIsK K) EXW.call_isK rfl b.isi boot_isinstance (pa_cons (pv 0) (pa_cons (pe_glob (v := .ref (He.ga K "NoName")) rfl (T.gl "NoName" (by decide +kernel)) rfl) pa_nil))) (pa_cons (pe_callB (r := EXW.rIsK K) EXW.call_isK rfl b.isi boot_isinstance (pa_cons (pv 0) (pa_cons (pe_glob (v := .ref (He.ga K "NoDay")) rfl (T.gl "NoDay" (by decide +kernel)) rfl) pa_nil))) pa_nil))))))
      (pss_cons (ps_set (i := 1) sc_l_kinds.nd rfl (.inl rfl) (pe_op op_cat (pv 1) (pe_lst (pa_cons (pe_callB (r := EXW.rIsK K) EXW.call_isK rfl b.isi boot_isinstance (pa_cons (pv 0) (pa_cons (pe_glob (v := .ref (He.ga K "NoSeats")) rfl (T.gl "NoSeats" (by decide +kernel)) rfl) pa_nil))) (pa_cons (pe_callB (r := EXW.rIsK K) EXW.call_isK rfl b.isi boot_isinstance (pa_cons (pv 0) (pa_cons (pe_glob (v := .ref (He.ga K "TooMany")) rfl (T.gl "TooMany" (by decide +kernel)) rfl) pa_nil))) (pa_cons (pe_callB (r := EXW.rIsK K) EXW.call_isK rfl b.isi boot_isinstance (pa_cons (pv 0) (pa_cons (pe_glob (v := .ref (He.ga K "Taken")) rfl (T.gl "Taken" (by decide +kernel)) rfl) pa_nil))) pa_nil))))))
      (pss_cons (ps_set (i := 1) sc_l_kinds.nd rfl (.inl rfl) (pe_op op_cat (pv 1) (pe_lst (pa_cons (pe_callB (r := EXW.rIsK K) EXW.call_isK rfl b.isi boot_isinstance (pa_cons (pv 0) (pa_cons (pe_glob (v := .ref (He.ga K "NoRule")) rfl (T.gl "NoRule" (by decide +kernel)) rfl) pa_nil))) (pa_cons (pe_callB (r := EXW.rIsK K) EXW.call_isK rfl b.isi boot_isinstance (pa_cons (pv 0) (pa_cons (pe_glob (v := .ref (He.ga K "NothingDone")) rfl (T.gl "NothingDone" (by decide +kernel)) rfl) pa_nil))) (pa_cons (pe_callB (r := EXW.rIsK K) EXW.call_isK rfl b.isi boot_isinstance (pa_cons (pv 0) (pa_cons (pe_glob (v := .ref (He.ga K "NoRow")) rfl (T.gl "NoRow" (by decide +kernel)) rfl) pa_nil))) pa_nil))))))
      (pss_cons (ps_set (i := 2) sc_l_kinds.nd rfl (.inl rfl) (pe_bm PySem.F.plainAttrs_str PySem.F.slot_str_split PySem.F.type_str_split mt_split pe_str (pa_cons pe_str pa_nil)))
      (pss_cons (ps_setLc (i := 3) (own := [("_law_word", 5), ("_law_so", 6)]) (g := gTup K 2 (gCons (gName 5) (gCons (gName 6) gNil))) rfl sc_l_kinds.nd rfl rfl (sw_true rfl rfl rfl (by decide +kernel)) (RZ.pi_zipA rfl bz (pa_cons (pv 2) (pa_cons (pv 1) pa_nil))) (blkOk_by (N := N_l_kinds) (sc := defScope s_l_kinds) (by decide +kernel))
          (fun _ _ _ _ _ => pg_tup rfl (pgs_cons (pg_name (i := 5) sc_l_kinds.nd rfl (.inl rfl)) (pgs_cons (pg_name (i := 6) sc_l_kinds.nd rfl (.inl rfl)) pgs_nil))) (fun _ _ _ _ _ => pts_one (pt_val (pv 6))) (fun _ _ _ _ _ => pv 5))
      (pss_cons (ps_set (i := 4) sc_l_kinds.nd rfl (.inl rfl) (pe_lst (pa_cons (pe_callB (r := EXW.rIsK K) EXW.call_isK rfl b.isi boot_isinstance (pa_cons (pv 0) (pa_cons (pe_bltn (v := .ty "TypeError") rfl (T.bt "TypeError" (by decide +kernel)) PyProof.Rows.Boot.«TypeError» rfl) pa_nil))) (pa_cons (pe_callB (r := EXW.rIsK K) EXW.call_isK rfl b.isi boot_isinstance (pa_cons (pv 0) (pa_cons (pe_bltn (v := .ty "ZeroDivisionError") rfl (T.bt "ZeroDivisionError" (by decide +kernel)) PyProof.Rows.Boot.«ZeroDivisionError» rfl) pa_nil))) (pa_cons (pe_callB (r := EXW.rIsK K) EXW.call_isK rfl b.isi boot_isinstance (pa_cons (pv 0) (pa_cons (pe_bltn (v := .ty "ArithmeticError") rfl (T.bt "ArithmeticError" (by decide +kernel)) PyProof.Rows.Boot.«ArithmeticError» rfl) pa_nil))) pa_nil)))))
      (pss_cons (ps_set (i := 4) sc_l_kinds.nd rfl (.inl rfl) (pe_op op_cat (pv 4) (pe_lst (pa_cons (pe_callB (r := EXW.rIsK K) EXW.call_isK rfl b.isi boot_isinstance (pa_cons (pv 0) (pa_cons (pe_bltn (v := .ty "ValueError") rfl (T.bt "ValueError" (by decide +kernel)) PyProof.Rows.Boot.«ValueError» rfl) pa_nil))) (pa_cons (pe_callB (r := EXW.rIsK K) EXW.call_isK rfl b.isi boot_isinstance (pa_cons (pv 0) (pa_cons (pe_bltn (v := .ty "KeyError") rfl (T.bt "KeyError" (by decide +kernel)) PyProof.Rows.Boot.«KeyError» rfl) pa_nil))) (pa_cons (pe_callB (r := EXW.rIsK K) EXW.call_isK rfl b.isi boot_isinstance (pa_cons (pv 0) (pa_cons (pe_bltn (v := .ty "LookupError") rfl (T.bt "LookupError" (by decide +kernel)) PyProof.Rows.Boot.«LookupError» rfl) pa_nil))) pa_nil))))))
      (pss_cons (ps_set (i := 4) sc_l_kinds.nd rfl (.inl rfl) (pe_op op_cat (pv 4) (pe_lst (pa_cons (pe_callB (r := EXW.rIsK K) EXW.call_isK rfl b.isi boot_isinstance (pa_cons (pv 0) (pa_cons (pe_bltn (v := .ty "IndexError") rfl (T.bt "IndexError" (by decide +kernel)) PyProof.Rows.Boot.«IndexError» rfl) pa_nil))) (pa_cons (pe_callB (r := EXW.rIsK K) EXW.call_isK rfl b.isi boot_isinstance (pa_cons (pv 0) (pa_cons (pe_bltn (v := .ty "OverflowError") rfl (T.bt "OverflowError" (by decide +kernel)) PyProof.Rows.Boot.«OverflowError» rfl) pa_nil))) (pa_cons (pe_callB (r := EXW.rIsK K) EXW.call_isK rfl b.isi boot_isinstance (pa_cons (pv 0) (pa_cons (pe_bltn (v := .ty "RuntimeError") rfl (T.bt "RuntimeError" (by decide +kernel)) PyProof.Rows.Boot.«RuntimeError» rfl) pa_nil))) pa_nil))))))
      (pss_one (ps_ret (pe_tup (pa_cons (pv 3) (pa_cons (pe_op op_cat (pv 4) (pe_lst (pa_cons (pe_callB (r := EXW.rIsK K) EXW.call_isK rfl b.isi boot_isinstance (pa_cons (pv 0) (pa_cons (pe_bltn (v := .ty "NotImplementedError") rfl (T.bt "NotImplementedError" (by decide +kernel)) PyProof.Rows.Boot.«NotImplementedError» rfl) pa_nil))) pa_nil))) pa_nil))))))))))))))), ?_⟩
    refine ⟨_, rfl, a, D, d, _, _, _, rfl, ha, hd, T.xc, fun u r => (by cases r; rfl), T.ko "NoKind" (by decide +kernel), ?_⟩
    refine ⟨_, rfl, a, D, d, _, _, _, rfl, ha, hd, T.xc, fun u r => (by cases r; rfl), T.ko "Nought" (by decide +kernel), ?_⟩
    refine ⟨_, rfl, a, D, d, _, _, _, rfl, ha, hd, T.xc, fun u r => (by cases r; rfl), T.ko "NoShare" (by decide +kernel), ?_⟩
    refine ⟨_, rfl, a, D, d, _, _, _, rfl, ha, hd, T.xc, fun u r => (by cases r; rfl), T.ko "Uneven" (by decide +kernel), ?_⟩
    refine ⟨by show 4 ≤ sizeLine; decide, fun p1 f1 => ?_⟩
    have s1 := same_new (o := .lst [V.bl (ow "NoKind"), V.bl (ow "Nought"), V.bl (ow "NoShare"), V.bl (ow "Uneven")]) f1
    have ha := s1 _ _ ha
    have hd := dct_same hd s1
    have hl : _ = some (HO.lst [V.bl (ow "NoKind"), V.bl (ow "Nought"), V.bl (ow "NoShare"), V.bl (ow "Uneven")]) := (upd_same : (upd H p1 (.lst [V.bl (ow "NoKind"), V.bl (ow "Nought"), V.bl (ow "NoShare"), V.bl (ow "Uneven")])) p1 = _)
    generalize upd H p1 (.lst [V.bl (ow "NoKind"), V.bl (ow "Nought"), V.bl (ow "NoShare"), V.bl (ow "Uneven")]) = G1 at s1 ha hd hl ⊢
    have sm := s1
    refine ⟨_, rfl, _, rfl, a, D, d, _, _, _, rfl, ha, hd, T.xc, fun u r => (by cases r; rfl), T.ko "BadName" (by decide +kernel), ?_⟩
    refine ⟨_, rfl, a, D, d, _, _, _, rfl, ha, hd, T.xc, fun u r => (by cases r; rfl), T.ko "NoNumber" (by decide +kernel), ?_⟩
    refine ⟨_, rfl, a, D, d, _, _, _, rfl, ha, hd, T.xc, fun u r => (by cases r; rfl), T.ko "NoRide" (by decide +kernel), ?_⟩
    refine ⟨by show 3 ≤ sizeLine; decide, fun p2 f2 => ?_⟩
    have s2 := same_new (o := .lst [V.bl (ow "BadName"), V.bl (ow "NoNumber"), V.bl (ow "NoRide")]) f2
    have ha := s2 _ _ ha
    have hd := dct_same hd s2
    have hl2 := s2 _ _ hl
    have hm2 : (upd G1 p2 (.lst [V.bl (ow "BadName"), V.bl (ow "NoNumber"), V.bl (ow "NoRide")])) p2 = some (.lst [V.bl (ow "BadName"), V.bl (ow "NoNumber"), V.bl (ow "NoRide")]) := upd_same
    have sm2 := sm.trans s2
    generalize upd G1 p2 (.lst [V.bl (ow "BadName"), V.bl (ow "NoNumber"), V.bl (ow "NoRide")]) = G2 at sm2 ha hd hl2 hm2 ⊢
    refine ⟨p1, p2, _, _, rfl, rfl, hl2, hm2, by show 7 ≤ sizeLine; decide, fun p3 f3 => ?_⟩
    have s3 := same_new (o := .lst [V.bl (ow "NoKind"), V.bl (ow "Nought"), V.bl (ow "NoShare"), V.bl (ow "Uneven"), V.bl (ow "BadName"), V.bl (ow "NoNumber"), V.bl (ow "NoRide")]) f3
    have ha := s3 _ _ ha
    have hd := dct_same hd s3
    have hl : (upd G2 p3 (.lst [V.bl (ow "NoKind"), V.bl (ow "Nought"), V.bl (ow "NoShare"), V.bl (ow "Uneven"), V.bl (ow "BadName"), V.bl (ow "NoNumber"), V.bl (ow "NoRide")])) p3 = some (.lst [V.bl (ow "NoKind"), V.bl (ow "Nought"), V.bl (ow "NoShare"), V.bl (ow "Uneven"), V.bl (ow "BadName"), V.bl (ow "NoNumber"), V.bl (ow "NoRide")]) := upd_same
    have sm := sm2.trans s3
    replace hl : (upd G2 p3 _) p3 = some (.lst [V.bl (ow "NoKind"), V.bl (ow "Nought"), V.bl (ow "NoShare"), V.bl (ow "Uneven"), V.bl (ow "BadName"), V.bl (ow "NoNumber"), V.bl (ow "NoRide")]) := hl
    dsimp only [List.cons_append, List.nil_append] at *
    generalize upd G2 p3 (.lst [V.bl (ow "NoKind"), V.bl (ow "Nought"), V.bl (ow "NoShare"), V.bl (ow "Uneven"), V.bl (ow "BadName"), V.bl (ow "NoNumber"), V.bl (ow "NoRide")]) = G3 at sm ha hd hl ⊢
    clear hl2 hm2 sm2
    refine ⟨_, rfl, _, rfl, a, D, d, _, _, _, rfl, ha, hd, T.xc, fun u r => (by cases r; rfl), T.ko "NoText" (by decide +kernel), ?_⟩
    refine ⟨_, rfl, a, D, d, _, _, _, rfl, ha, hd, T.xc, fun u r => (by cases r; rfl), T.ko "NoName" (by decide +kernel), ?_⟩
    refine ⟨_, rfl, a, D, d, _, _, _, rfl, ha, hd, T.xc, fun u r => (by cases r; rfl), T.ko "NoDay" (by decide +kernel), ?_⟩
    refine ⟨by show 3 ≤ sizeLine; decide, fun p4 f4 => ?_⟩
    have s4 := same_new (o := .lst [V.bl (ow "NoText"), V.bl (ow "NoName"), V.bl (ow "NoDay")]) f4
    have ha := s4 _ _ ha
    have hd := dct_same hd s4
    have hl2 := s4 _ _ hl
    have hm2 : (upd G3 p4 (.lst [V.bl (ow "NoText"), V.bl (ow "NoName"), V.bl (ow "NoDay")])) p4 = some (.lst [V.bl (ow "NoText"), V.bl (ow "NoName"), V.bl (ow "NoDay")]) := upd_same
    have sm2 := sm.trans s4
    generalize upd G3 p4 (.lst [V.bl (ow "NoText"), V.bl (ow "NoName"), V.bl (ow "NoDay")]) = G4 at sm2 ha hd hl2 hm2 ⊢
    refine ⟨p3, p4, _, _, rfl, rfl, hl2, hm2, by show 10 ≤ sizeLine; decide, fun p5 f5 => ?_⟩
    have s5 := same_new (o := .lst [V.bl (ow "NoKind"), V.bl (ow "Nought"), V.bl (ow "NoShare"), V.bl (ow "Uneven"), V.bl (ow "BadName"), V.bl (ow "NoNumber"), V.bl (ow "NoRide"), V.bl (ow "NoText"), V.bl (ow "NoName"), V.bl (ow "NoDay")]) f5
    have ha := s5 _ _ ha
    have hd := dct_same hd s5
    have hl : (upd G4 p5 (.lst [V.bl (ow "NoKind"), V.bl (ow "Nought"), V.bl (ow "NoShare"), V.bl (ow "Uneven"), V.bl (ow "BadName"), V.bl (ow "NoNumber"), V.bl (ow "NoRide"), V.bl (ow "NoText"), V.bl (ow "NoName"), V.bl (ow "NoDay")])) p5 = some (.lst [V.bl (ow "NoKind"), V.bl (ow "Nought"), V.bl (ow "NoShare"), V.bl (ow "Uneven"), V.bl (ow "BadName"), V.bl (ow "NoNumber"), V.bl (ow "NoRide"), V.bl (ow "NoText"), V.bl (ow "NoName"), V.bl (ow "NoDay")]) := upd_same
    have sm := sm2.trans s5
    replace hl : (upd G4 p5 _) p5 = some (.lst [V.bl (ow "NoKind"), V.bl (ow "Nought"), V.bl (ow "NoShare"), V.bl (ow "Uneven"), V.bl (ow "BadName"), V.bl (ow "NoNumber"), V.bl (ow "NoRide"), V.bl (ow "NoText"), V.bl (ow "NoName"), V.bl (ow "NoDay")]) := hl
    dsimp only [List.cons_append, List.nil_append] at *
    generalize upd G4 p5 (.lst [V.bl (ow "NoKind"), V.bl (ow "Nought"), V.bl (ow "NoShare"), V.bl (ow "Uneven"), V.bl (ow "BadName"), V.bl (ow "NoNumber"), V.bl (ow "NoRide"), V.bl (ow "NoText"), V.bl (ow "NoName"), V.bl (ow "NoDay")]) = G5 at sm ha hd hl ⊢
    clear hl2 hm2 sm2
    refine ⟨_, rfl, _, rfl, a, D, d, _, _, _, rfl, ha, hd, T.xc, fun u r => (by cases r; rfl), T.ko "NoSeats" (by decide +kernel), ?_⟩
    refine ⟨_, rfl, a, D, d, _, _, _, rfl, ha, hd, T.xc, fun u r => (by cases r; rfl), T.ko "TooMany" (by decide +kernel), ?_⟩
    refine ⟨_, rfl, a, D, d, _, _, _, rfl, ha, hd, T.xc, fun u r => (by cases r; rfl), T.ko "Taken" (by decide +kernel), ?_⟩
    refine ⟨by show 3 ≤ sizeLine; decide, fun p6 f6 => ?_⟩
    have s6 := same_new (o := .lst [V.bl (ow "NoSeats"), V.bl (ow "TooMany"), V.bl (ow "Taken")]) f6
    have ha := s6 _ _ ha
    have hd := dct_same hd s6
    have hl2 := s6 _ _ hl
    have hm2 : (upd G5 p6 (.lst [V.bl (ow "NoSeats"), V.bl (ow "TooMany"), V.bl (ow "Taken")])) p6 = some (.lst [V.bl (ow "NoSeats"), V.bl (ow "TooMany"), V.bl (ow "Taken")]) := upd_same
    have sm2 := sm.trans s6
    generalize upd G5 p6 (.lst [V.bl (ow "NoSeats"), V.bl (ow "TooMany"), V.bl (ow "Taken")]) = G6 at sm2 ha hd hl2 hm2 ⊢
    refine ⟨p5, p6, _, _, rfl, rfl, hl2, hm2, by show 13 ≤ sizeLine; decide, fun p7 f7 => ?_⟩
    have s7 := same_new (o := .lst [V.bl (ow "NoKind"), V.bl (ow "Nought"), V.bl (ow "NoShare"), V.bl (ow "Uneven"), V.bl (ow "BadName"), V.bl (ow "NoNumber"), V.bl (ow "NoRide"), V.bl (ow "NoText"), V.bl (ow "NoName"), V.bl (ow "NoDay"), V.bl (ow "NoSeats"), V.bl (ow "TooMany"), V.bl (ow "Taken")]) f7
    have ha := s7 _ _ ha
    have hd := dct_same hd s7
    have hl : (upd G6 p7 (.lst [V.bl (ow "NoKind"), V.bl (ow "Nought"), V.bl (ow "NoShare"), V.bl (ow "Uneven"), V.bl (ow "BadName"), V.bl (ow "NoNumber"), V.bl (ow "NoRide"), V.bl (ow "NoText"), V.bl (ow "NoName"), V.bl (ow "NoDay"), V.bl (ow "NoSeats"), V.bl (ow "TooMany"), V.bl (ow "Taken")])) p7 = some (.lst [V.bl (ow "NoKind"), V.bl (ow "Nought"), V.bl (ow "NoShare"), V.bl (ow "Uneven"), V.bl (ow "BadName"), V.bl (ow "NoNumber"), V.bl (ow "NoRide"), V.bl (ow "NoText"), V.bl (ow "NoName"), V.bl (ow "NoDay"), V.bl (ow "NoSeats"), V.bl (ow "TooMany"), V.bl (ow "Taken")]) := upd_same
    have sm := sm2.trans s7
    replace hl : (upd G6 p7 _) p7 = some (.lst [V.bl (ow "NoKind"), V.bl (ow "Nought"), V.bl (ow "NoShare"), V.bl (ow "Uneven"), V.bl (ow "BadName"), V.bl (ow "NoNumber"), V.bl (ow "NoRide"), V.bl (ow "NoText"), V.bl (ow "NoName"), V.bl (ow "NoDay"), V.bl (ow "NoSeats"), V.bl (ow "TooMany"), V.bl (ow "Taken")]) := hl
    dsimp only [List.cons_append, List.nil_append] at *
    generalize upd G6 p7 (.lst [V.bl (ow "NoKind"), V.bl (ow "Nought"), V.bl (ow "NoShare"), V.bl (ow "Uneven"), V.bl (ow "BadName"), V.bl (ow "NoNumber"), V.bl (ow "NoRide"), V.bl (ow "NoText"), V.bl (ow "NoName"), V.bl (ow "NoDay"), V.bl (ow "NoSeats"), V.bl (ow "TooMany"), V.bl (ow "Taken")]) = G7 at sm ha hd hl ⊢
    clear hl2 hm2 sm2
    refine ⟨_, rfl, _, rfl, a, D, d, _, _, _, rfl, ha, hd, T.xc, fun u r => (by cases r; rfl), T.ko "NoRule" (by decide +kernel), ?_⟩
    refine ⟨_, rfl, a, D, d, _, _, _, rfl, ha, hd, T.xc, fun u r => (by cases r; rfl), T.ko "NothingDone" (by decide +kernel), ?_⟩
    refine ⟨_, rfl, a, D, d, _, _, _, rfl, ha, hd, T.xc, fun u r => (by cases r; rfl), T.ko "NoRow" (by decide +kernel), ?_⟩
    refine ⟨by show 3 ≤ sizeLine; decide, fun p8 f8 => ?_⟩
    have s8 := same_new (o := .lst [V.bl (ow "NoRule"), V.bl (ow "NothingDone"), V.bl (ow "NoRow")]) f8
    have ha := s8 _ _ ha
    have hd := dct_same hd s8
    have hl2 := s8 _ _ hl
    have hm2 : (upd G7 p8 (.lst [V.bl (ow "NoRule"), V.bl (ow "NothingDone"), V.bl (ow "NoRow")])) p8 = some (.lst [V.bl (ow "NoRule"), V.bl (ow "NothingDone"), V.bl (ow "NoRow")]) := upd_same
    have sm2 := sm.trans s8
    generalize upd G7 p8 (.lst [V.bl (ow "NoRule"), V.bl (ow "NothingDone"), V.bl (ow "NoRow")]) = G8 at sm2 ha hd hl2 hm2 ⊢
    refine ⟨p7, p8, _, _, rfl, rfl, hl2, hm2, by show 16 ≤ sizeLine; decide, fun p9 f9 => ?_⟩
    have s9 := same_new (o := .lst [V.bl (ow "NoKind"), V.bl (ow "Nought"), V.bl (ow "NoShare"), V.bl (ow "Uneven"), V.bl (ow "BadName"), V.bl (ow "NoNumber"), V.bl (ow "NoRide"), V.bl (ow "NoText"), V.bl (ow "NoName"), V.bl (ow "NoDay"), V.bl (ow "NoSeats"), V.bl (ow "TooMany"), V.bl (ow "Taken"), V.bl (ow "NoRule"), V.bl (ow "NothingDone"), V.bl (ow "NoRow")]) f9
    have ha := s9 _ _ ha
    have hd := dct_same hd s9
    have hl : (upd G8 p9 (.lst [V.bl (ow "NoKind"), V.bl (ow "Nought"), V.bl (ow "NoShare"), V.bl (ow "Uneven"), V.bl (ow "BadName"), V.bl (ow "NoNumber"), V.bl (ow "NoRide"), V.bl (ow "NoText"), V.bl (ow "NoName"), V.bl (ow "NoDay"), V.bl (ow "NoSeats"), V.bl (ow "TooMany"), V.bl (ow "Taken"), V.bl (ow "NoRule"), V.bl (ow "NothingDone"), V.bl (ow "NoRow")])) p9 = some (.lst [V.bl (ow "NoKind"), V.bl (ow "Nought"), V.bl (ow "NoShare"), V.bl (ow "Uneven"), V.bl (ow "BadName"), V.bl (ow "NoNumber"), V.bl (ow "NoRide"), V.bl (ow "NoText"), V.bl (ow "NoName"), V.bl (ow "NoDay"), V.bl (ow "NoSeats"), V.bl (ow "TooMany"), V.bl (ow "Taken"), V.bl (ow "NoRule"), V.bl (ow "NothingDone"), V.bl (ow "NoRow")]) := upd_same
    have sm := sm2.trans s9
    replace hl : (upd G8 p9 _) p9 = some (.lst [V.bl (ow "NoKind"), V.bl (ow "Nought"), V.bl (ow "NoShare"), V.bl (ow "Uneven"), V.bl (ow "BadName"), V.bl (ow "NoNumber"), V.bl (ow "NoRide"), V.bl (ow "NoText"), V.bl (ow "NoName"), V.bl (ow "NoDay"), V.bl (ow "NoSeats"), V.bl (ow "TooMany"), V.bl (ow "Taken"), V.bl (ow "NoRule"), V.bl (ow "NothingDone"), V.bl (ow "NoRow")]) := hl
    dsimp only [List.cons_append, List.nil_append] at *
    generalize upd G8 p9 (.lst [V.bl (ow "NoKind"), V.bl (ow "Nought"), V.bl (ow "NoShare"), V.bl (ow "Uneven"), V.bl (ow "BadName"), V.bl (ow "NoNumber"), V.bl (ow "NoRide"), V.bl (ow "NoText"), V.bl (ow "NoName"), V.bl (ow "NoDay"), V.bl (ow "NoSeats"), V.bl (ow "TooMany"), V.bl (ow "Taken"), V.bl (ow "NoRule"), V.bl (ow "NothingDone"), V.bl (ow "NoRow")]) = G9 at sm ha hd hl ⊢
    clear hl2 hm2 sm2
    have hl : G9 p9 = some (.lst ((ex16.map ow).map V.bl)) := hl
    refine ⟨rfl, _, _, rfl, rfl, by decide +kernel, by decide +kernel, fun wl fw => ?_⟩
    rw [split16]
    have sw := same_new (o := .lst (kw16.map V.str)) fw
    have hw : (upd G9 wl (.lst (kw16.map V.str))) wl = some (.lst (kw16.map V.str)) := upd_same
    have hl := sw _ _ hl
    have ha := sw _ _ ha
    have hd := dct_same hd sw
    have sm := sm.trans sw
    generalize upd G9 wl (.lst (kw16.map V.str)) = J1 at sm ha hd hl hw ⊢
    clear sw
    refine ⟨_, rfl, _, rfl, wl, p9, _, _, rfl, .inl ⟨SqL.of hw, SqL.of hl, fun D1 hD1 => lc_it (ZL.walk_zipL (by rfl)) (fun i H' => H' D1 = some (.lst ((((kw16.zip (ex16.map ow)).take i).filter (·.2)).map fun q => V.str q.1)) ∧ Same J1 H') ⟨upd_same, same_new hD1⟩ (fun i H' _ z => ⟨SqL.of (z.2 _ _ hw), SqL.of (z.2 _ _ hl)⟩) ?_ ?_⟩⟩
    · rintro i v H2 H3 hi ⟨hdd, s2⟩ ⟨Tp, x, y, rfl, hT, rfl, hx, hy⟩
      rw [List.getElem?_map] at hx hy
      obtain ⟨z, hz, rfl⟩ := Option.map_eq_some_iff.mp hx
      obtain ⟨c, hc, rfl⟩ := Option.map_eq_some_iff.mp hy
      have hzc : (kw16.zip (ex16.map ow))[i]? = some (z, c) := by
        rw [List.getElem?_zip_eq_some]
        exact ⟨hz, hc⟩
      have sT := same_new (o := .tup [V.str z, V.bl c]) hT
      have hdd3 := sT _ _ hdd
      refine ⟨Tp, _, rfl, SqT.of upd_same, rfl, _, _, rfl, _, _, rfl, rfl, rfl, ?_⟩
      have i16 : i < 16 := hi
      refine ⟨_, rfl, c, rfl, ?_⟩
      cases c with
      | true =>
        refine iteT ⟨_, rfl, _, hdd3, ?_, ?_, ?_⟩
        · rw [List.length_map]
          refine line_lt (Nat.le_trans (List.length_filter_le _ _) ?_)
          rw [List.length_take]
          omega
        · rw [upd_same, take_one hzc, List.filter_append, List.map_append]
          rfl
        · intro b o e
          rw [upd_ne (ne_of_none e hD1)]
          exact sT _ _ (s2 _ _ e)
      | false =>
        refine iteF ⟨?_, s2.trans sT⟩
        rw [take_one hzc, List.filter_append, show ([(z, false)] : List (Str × Bool)).filter (·.2) = [] from rfl, List.append_nil]
        exact hdd3
    rintro J2 ⟨hfd, s2⟩
    have hfd : J2 D1 = some (.lst ((fnd ow).map V.str)) := by
      rw [hfd]
      unfold fnd
      rw [List.map_map]
      rfl
    have ha := s2 _ _ ha
    have hd := dct_same hd s2
    have sm := sm.trans s2
    clear s2
    refine ⟨_, rfl, a, D, d, _, _, _, rfl, ha, hd, T.xc, fun u r => (by cases r; rfl), T.kb "TypeError" (by decide +kernel), ?_⟩
    refine ⟨_, rfl, a, D, d, _, _, _, rfl, ha, hd, T.xc, fun u r => (by cases r; rfl), T.kb "ZeroDivisionError" (by decide +kernel), ?_⟩
    refine ⟨_, rfl, a, D, d, _, _, _, rfl, ha, hd, T.xc, fun u r => (by cases r; rfl), T.kb "ArithmeticError" (by decide +kernel), ?_⟩
    refine ⟨by show 3 ≤ sizeLine; decide, fun p10 f10 => ?_⟩
    have s10 := same_new (o := .lst [V.bl (ab "TypeError"), V.bl (ab "ZeroDivisionError"), V.bl (ab "ArithmeticError")]) f10
    have ha := s10 _ _ ha
    have hd := dct_same hd s10
    have hfd := s10 _ _ hfd
    have hl : (upd J2 p10 (.lst [V.bl (ab "TypeError"), V.bl (ab "ZeroDivisionError"), V.bl (ab "ArithmeticError")])) p10 = some (.lst [V.bl (ab "TypeError"), V.bl (ab "ZeroDivisionError"), V.bl (ab "ArithmeticError")]) := upd_same
    have sm := sm.trans s10
    generalize upd J2 p10 (.lst [V.bl (ab "TypeError"), V.bl (ab "ZeroDivisionError"), V.bl (ab "ArithmeticError")]) = G10 at sm ha hd hl hfd ⊢
    clear s10
    refine ⟨_, rfl, _, rfl, a, D, d, _, _, _, rfl, ha, hd, T.xc, fun u r => (by cases r; rfl), T.kb "ValueError" (by decide +kernel), ?_⟩
    refine ⟨_, rfl, a, D, d, _, _, _, rfl, ha, hd, T.xc, fun u r => (by cases r; rfl), T.kb "KeyError" (by decide +kernel), ?_⟩
    refine ⟨_, rfl, a, D, d, _, _, _, rfl, ha, hd, T.xc, fun u r => (by cases r; rfl), T.kb "LookupError" (by decide +kernel), ?_⟩
    refine ⟨by show 3 ≤ sizeLine; decide, fun p11 f11 => ?_⟩
    have s11 := same_new (o := .lst [V.bl (ab "ValueError"), V.bl (ab "KeyError"), V.bl (ab "LookupError")]) f11
    have ha := s11 _ _ ha
    have hd := dct_same hd s11
    have hfd := s11 _ _ hfd
    have hl2 := s11 _ _ hl
    have hm2 : (upd G10 p11 (.lst [V.bl (ab "ValueError"), V.bl (ab "KeyError"), V.bl (ab "LookupError")])) p11 = some (.lst [V.bl (ab "ValueError"), V.bl (ab "KeyError"), V.bl (ab "LookupError")]) := upd_same
    have sm2 := sm.trans s11
    generalize upd G10 p11 (.lst [V.bl (ab "ValueError"), V.bl (ab "KeyError"), V.bl (ab "LookupError")]) = G11 at sm2 ha hd hl2 hm2 hfd ⊢
    clear s11
    refine ⟨p10, p11, _, _, rfl, rfl, hl2, hm2, by show 6 ≤ sizeLine; decide, fun p12 f12 => ?_⟩
    have s12 := same_new (o := .lst [V.bl (ab "TypeError"), V.bl (ab "ZeroDivisionError"), V.bl (ab "ArithmeticError"), V.bl (ab "ValueError"), V.bl (ab "KeyError"), V.bl (ab "LookupError")]) f12
    have ha := s12 _ _ ha
    have hd := dct_same hd s12
    have hfd := s12 _ _ hfd
    have hl : (upd G11 p12 (.lst [V.bl (ab "TypeError"), V.bl (ab "ZeroDivisionError"), V.bl (ab "ArithmeticError"), V.bl (ab "ValueError"), V.bl (ab "KeyError"), V.bl (ab "LookupError")])) p12 = some (.lst [V.bl (ab "TypeError"), V.bl (ab "ZeroDivisionError"), V.bl (ab "ArithmeticError"), V.bl (ab "ValueError"), V.bl (ab "KeyError"), V.bl (ab "LookupError")]) := upd_same
    have sm := sm2.trans s12
    dsimp only [List.cons_append, List.nil_append] at *
    generalize upd G11 p12 (.lst [V.bl (ab "TypeError"), V.bl (ab "ZeroDivisionError"), V.bl (ab "ArithmeticError"), V.bl (ab "ValueError"), V.bl (ab "KeyError"), V.bl (ab "LookupError")]) = G12 at sm ha hd hl hfd ⊢
    clear hl2 hm2 sm2 s12
    refine ⟨_, rfl, _, rfl, a, D, d, _, _, _, rfl, ha, hd, T.xc, fun u r => (by cases r; rfl), T.kb "IndexError" (by decide +kernel), ?_⟩
    refine ⟨_, rfl, a, D, d, _, _, _, rfl, ha, hd, T.xc, fun u r => (by cases r; rfl), T.kb "OverflowError" (by decide +kernel), ?_⟩
    refine ⟨_, rfl, a, D, d, _, _, _, rfl, ha, hd, T.xc, fun u r => (by cases r; rfl), T.kb "RuntimeError" (by decide +kernel), ?_⟩
    refine ⟨by show 3 ≤ sizeLine; decide, fun p13 f13 => ?_⟩
    have s13 := same_new (o := .lst [V.bl (ab "IndexError"), V.bl (ab "OverflowError"), V.bl (ab "RuntimeError")]) f13
    have ha := s13 _ _ ha
    have hd := dct_same hd s13
    have hfd := s13 _ _ hfd
    have hl2 := s13 _ _ hl
    have hm2 : (upd G12 p13 (.lst [V.bl (ab "IndexError"), V.bl (ab "OverflowError"), V.bl (ab "RuntimeError")])) p13 = some (.lst [V.bl (ab "IndexError"), V.bl (ab "OverflowError"), V.bl (ab "RuntimeError")]) := upd_same
    have sm2 := sm.trans s13
    generalize upd G12 p13 (.lst [V.bl (ab "IndexError"), V.bl (ab "OverflowError"), V.bl (ab "RuntimeError")]) = G13 at sm2 ha hd hl2 hm2 hfd ⊢
    clear s13
    refine ⟨p12, p13, _, _, rfl, rfl, hl2, hm2, by show 9 ≤ sizeLine; decide, fun p14 f14 => ?_⟩
    have s14 := same_new (o := .lst [V.bl (ab "TypeError"), V.bl (ab "ZeroDivisionError"), V.bl (ab "ArithmeticError"), V.bl (ab "ValueError"), V.bl (ab "KeyError"), V.bl (ab "LookupError"), V.bl (ab "IndexError"), V.bl (ab "OverflowError"), V.bl (ab "RuntimeError")]) f14
    have ha := s14 _ _ ha
    have hd := dct_same hd s14
    have hfd := s14 _ _ hfd
    have hl : (upd G13 p14 (.lst [V.bl (ab "TypeError"), V.bl (ab "ZeroDivisionError"), V.bl (ab "ArithmeticError"), V.bl (ab "ValueError"), V.bl (ab "KeyError"), V.bl (ab "LookupError"), V.bl (ab "IndexError"), V.bl (ab "OverflowError"), V.bl (ab "RuntimeError")])) p14 = some (.lst [V.bl (ab "TypeError"), V.bl (ab "ZeroDivisionError"), V.bl (ab "ArithmeticError"), V.bl (ab "ValueError"), V.bl (ab "KeyError"), V.bl (ab "LookupError"), V.bl (ab "IndexError"), V.bl (ab "OverflowError"), V.bl (ab "RuntimeError")]) := upd_same
    have sm := sm2.trans s14
    dsimp only [List.cons_append, List.nil_append] at *
    generalize upd G13 p14 (.lst [V.bl (ab "TypeError"), V.bl (ab "ZeroDivisionError"), V.bl (ab "ArithmeticError"), V.bl (ab "ValueError"), V.bl (ab "KeyError"), V.bl (ab "LookupError"), V.bl (ab "IndexError"), V.bl (ab "OverflowError"), V.bl (ab "RuntimeError")]) = G14 at sm ha hd hl hfd ⊢
    clear hl2 hm2 sm2 s14
    refine ⟨_, rfl, _, rfl, _, rfl, a, D, d, _, _, _, rfl, ha, hd, T.xc, fun u r => (by cases r; rfl), T.kb "NotImplementedError" (by decide +kernel), by show 1 ≤ sizeLine; decide, fun pz fz => ?_⟩
    have sz := same_new (o := .lst [V.bl (ab "NotImplementedError")]) fz
    refine ⟨p14, pz, _, _, rfl, rfl, sz _ _ hl, upd_same, by show 10 ≤ sizeLine; decide, fun m fm => ?_⟩
    have hm : (upd (upd G14 pz (.lst [V.bl (ab "NotImplementedError")])) m (.lst (ex10.map fun x => V.bl (ab x)))) m = some (.lst (ex10.map fun x => V.bl (ab x))) := upd_same
    have sm3 := same_new (o := .lst (ex10.map fun x => V.bl (ab x))) fm
    refine ⟨by show 2 ≤ sizeLine; decide, fun t ft => ?_⟩
    have st := same_new (o := .tup [.ref D1, .ref m]) ft
    have sall := (sm.trans sz).trans sm3
    exact hQ t D1 m _ (sall.trans st) (sall.free ft) upd_same (st _ _ (sm3 _ _ (sz _ _ hfd))) (st _ _ hm)
end
end K90
set_option Elab.async false
set_option linter.all false
set_option maxRecDepth 100000
set_option maxHeartbeats 4000000
namespace K90
open PySem PySem.Spec PyProof.Rows L2
open C8 (Cal Mak Met pe_c pe_mk pe_mt pe_mt0)
open EXV (Xc)
theorem iteFE {c : Bool} {A B : Prop} (h : c = false) (b : B) : if c = true then A else B := by
  rw [if_neg (by simp [h])]
  exact b
theorem iteTE {c : Bool} {A B : Prop} (h : c = true) (a : A) : if c = true then A else B := by
  rw [if_pos h]
  exact a
abbrev fls : List Str := [("thing" : Str), ("top" : Str), ("text" : Str), ("rest" : Str), ("name" : Str), ("thing" : Str), ("reason" : Str), ("row" : Str), ("name" : Str), ("day" : Str), ("lack" : Str), ("most" : Str), ("name" : Str), ("thing" : Str), ("text" : Str), ("text" : Str)]
abbrev nmC (n : Nat) : Str := ex16.getD n ""
abbrev flC (n : Nat) : Str := fls.getD n ""
section
variable {P : Program} {w : World} {K : PySem.W.Frag} {mg : Str → Option Value} {base : Heap} {f : Addr} {fd : FuncData}
/-- one is made: lo <= n < hi -/
def spMd (K : PySem.W.Frag) (lo hi : Nat) : Sp := fun vs H Q _ => ∃ (n : Nat) (v : V) (by_ : Bool), vs = [.int (n : Int), v, .bl by_] ∧ lo ≤ n ∧ n < hi ∧
  ∀ a d G, Same H G → H a = none → G a = some (Xc (.ref (He.ga K (nmC n))) (some d) a) → G d = some (.xd [(flC n, v)]) → Q (.ref a) G
/-- each of them can be made -/
def Mx16 (P : Program) (w : World) (K : PySem.W.Frag) (mg : Str → Option Value) (base : Heap) (lo hi : Nat) : Prop := ∀ n, lo ≤ n → n < hi → GXV.Mx P w K mg base (nmC n) (He.ga K (nmC n)) (spXI (He.ga K (nmC n)) (flC n)) (flC n)
theorem ok_first (F : Dn K d_l_first f fd) (M : Mx16 P w K mg base 0 8) : FnOk P w K mg base CX0 3 f fd ["_law_number", "_law_it", "_law_by_name"] (spMd K 0 8) := by
  refine F.ok sc_l_first (fun vs H Q E h => ?_) (fun cdv A outer s H vs Q E hr h => ?_)
  · obtain ⟨n, v, b, rfl, _⟩ := h
    rfl
  · obtain ⟨n, v, b, rfl, lo, hi, hQ⟩ := h
    refine ⟨_, PSs.nox (pss_cons (ps_if (pt_cmpR op_eq (pv 0) pe_int (nomark _)) (pss_one (ps_ret (pe_ifExp (pt_val (pv 2)) (GXV.pe_mxK (x := "NoKind") (fl := "thing") (M 0 (by decide) (by decide)) (hr.mono (by decide)) rfl (pk_cons (pv 1) pk_nil)) (GXV.pe_mx (x := "NoKind") (fl := "thing") (M 0 (by decide) (by decide)) (hr.mono (by decide)) rfl (pa_cons (pv 1) pa_nil))))) pss_nil)
      (pss_cons (ps_if (pt_cmpR op_eq (pv 0) pe_int (nomark _)) (pss_one (ps_ret (pe_ifExp (pt_val (pv 2)) (GXV.pe_mxK (x := "Nought") (fl := "top") (M 1 (by decide) (by decide)) (hr.mono (by decide)) rfl (pk_cons (pv 1) pk_nil)) (GXV.pe_mx (x := "Nought") (fl := "top") (M 1 (by decide) (by decide)) (hr.mono (by decide)) rfl (pa_cons (pv 1) pa_nil))))) pss_nil)
      (pss_cons (ps_if (pt_cmpR op_eq (pv 0) pe_int (nomark _)) (pss_one (ps_ret (pe_ifExp (pt_val (pv 2)) (GXV.pe_mxK (x := "NoShare") (fl := "text") (M 2 (by decide) (by decide)) (hr.mono (by decide)) rfl (pk_cons (pv 1) pk_nil)) (GXV.pe_mx (x := "NoShare") (fl := "text") (M 2 (by decide) (by decide)) (hr.mono (by decide)) rfl (pa_cons (pv 1) pa_nil))))) pss_nil)
      (pss_cons (ps_if (pt_cmpR op_eq (pv 0) pe_int (nomark _)) (pss_one (ps_ret (pe_ifExp (pt_val (pv 2)) (GXV.pe_mxK (x := "Uneven") (fl := "rest") (M 3 (by decide) (by decide)) (hr.mono (by decide)) rfl (pk_cons (pv 1) pk_nil)) (GXV.pe_mx (x := "Uneven") (fl := "rest") (M 3 (by decide) (by decide)) (hr.mono (by decide)) rfl (pa_cons (pv 1) pa_nil))))) pss_nil)
      (pss_cons (ps_if (pt_cmpR op_eq (pv 0) pe_int (nomark _)) (pss_one (ps_ret (pe_ifExp (pt_val (pv 2)) (GXV.pe_mxK (x := "BadName") (fl := "name") (M 4 (by decide) (by decide)) (hr.mono (by decide)) rfl (pk_cons (pv 1) pk_nil)) (GXV.pe_mx (x := "BadName") (fl := "name") (M 4 (by decide) (by decide)) (hr.mono (by decide)) rfl (pa_cons (pv 1) pa_nil))))) pss_nil)
      (pss_cons (ps_if (pt_cmpR op_eq (pv 0) pe_int (nomark _)) (pss_one (ps_ret (pe_ifExp (pt_val (pv 2)) (GXV.pe_mxK (x := "NoNumber") (fl := "thing") (M 5 (by decide) (by decide)) (hr.mono (by decide)) rfl (pk_cons (pv 1) pk_nil)) (GXV.pe_mx (x := "NoNumber") (fl := "thing") (M 5 (by decide) (by decide)) (hr.mono (by decide)) rfl (pa_cons (pv 1) pa_nil))))) pss_nil)
      (pss_cons (ps_if (pt_cmpR op_eq (pv 0) pe_int (nomark _)) (pss_one (ps_ret (pe_ifExp (pt_val (pv 2)) (GXV.pe_mxK (x := "NoRide") (fl := "reason") (M 6 (by decide) (by decide)) (hr.mono (by decide)) rfl (pk_cons (pv 1) pk_nil)) (GXV.pe_mx (x := "NoRide") (fl := "reason") (M 6 (by decide) (by decide)) (hr.mono (by decide)) rfl (pa_cons (pv 1) pa_nil))))) pss_nil)
      (pss_one (ps_ret (pe_ifExp (pt_val (pv 2)) (GXV.pe_mxK (x := "NoText") (fl := "row") (M 7 (by decide) (by decide)) (hr.mono (by decide)) rfl (pk_cons (pv 1) pk_nil)) (GXV.pe_mx (x := "NoText") (fl := "row") (M 7 (by decide) (by decide)) (hr.mono (by decide)) rfl (pa_cons (pv 1) pa_nil)))))))))))), ?_⟩
    obtain rfl | rfl | rfl | rfl | rfl | rfl | rfl | rfl : n = 0 ∨ n = 1 ∨ n = 2 ∨ n = 3 ∨ n = 4 ∨ n = 5 ∨ n = 6 ∨ n = 7 := by omega
    · refine ⟨_, rfl, rfl, _, rfl, iteTE (by decide) ?_⟩
      refine ⟨_, rfl, b, rfl, ?_⟩
      cases b with
      | true => exact iteT ⟨_, rfl, made_x fun a d G s ha hx hd => hQ a d G s ha hx hd⟩
      | false => exact iteF ⟨_, rfl, made_x fun a d G s ha hx hd => hQ a d G s ha hx hd⟩
    · refine ⟨_, rfl, rfl, _, rfl, iteFE (by decide) ?_⟩
      refine ⟨_, rfl, rfl, _, rfl, iteTE (by decide) ?_⟩
      refine ⟨_, rfl, b, rfl, ?_⟩
      cases b with
      | true => exact iteT ⟨_, rfl, made_x fun a d G s ha hx hd => hQ a d G s ha hx hd⟩
      | false => exact iteF ⟨_, rfl, made_x fun a d G s ha hx hd => hQ a d G s ha hx hd⟩
    · refine ⟨_, rfl, rfl, _, rfl, iteFE (by decide) ?_⟩
      refine ⟨_, rfl, rfl, _, rfl, iteFE (by decide) ?_⟩
      refine ⟨_, rfl, rfl, _, rfl, iteTE (by decide) ?_⟩
      refine ⟨_, rfl, b, rfl, ?_⟩
      cases b with
      | true => exact iteT ⟨_, rfl, made_x fun a d G s ha hx hd => hQ a d G s ha hx hd⟩
      | false => exact iteF ⟨_, rfl, made_x fun a d G s ha hx hd => hQ a d G s ha hx hd⟩
    · refine ⟨_, rfl, rfl, _, rfl, iteFE (by decide) ?_⟩
      refine ⟨_, rfl, rfl, _, rfl, iteFE (by decide) ?_⟩
      refine ⟨_, rfl, rfl, _, rfl, iteFE (by decide) ?_⟩
      refine ⟨_, rfl, rfl, _, rfl, iteTE (by decide) ?_⟩
      refine ⟨_, rfl, b, rfl, ?_⟩
      cases b with
      | true => exact iteT ⟨_, rfl, made_x fun a d G s ha hx hd => hQ a d G s ha hx hd⟩
      | false => exact iteF ⟨_, rfl, made_x fun a d G s ha hx hd => hQ a d G s ha hx hd⟩
    · refine ⟨_, rfl, rfl, _, rfl, iteFE (by decide) ?_⟩
      refine ⟨_, rfl, rfl, _, rfl, iteFE (by decide) ?_⟩
      refine ⟨_, rfl, rfl, _, rfl, iteFE (by decide) ?_⟩
      refine ⟨_, rfl, rfl, _, rfl, iteFE (by decide) ?_⟩
      refine ⟨_, rfl, rfl, _, rfl, iteTE (by decide) ?_⟩
      refine ⟨_, rfl, b, rfl, ?_⟩
      cases b with
      | true => exact iteT ⟨_, rfl, made_x fun a d G s ha hx hd => hQ a d G s ha hx hd⟩
      | false => exact iteF ⟨_, rfl, made_x fun a d G s ha hx hd => hQ a d G s ha hx hd⟩
    · refine ⟨_, rfl, rfl, _, rfl, iteFE (by decide) ?_⟩
      refine ⟨_, rfl, rfl, _, rfl, iteFE (by decide) ?_⟩
      refine ⟨_, rfl, rfl, _, rfl, iteFE (by decide) ?_⟩
      refine ⟨_, rfl, rfl, _, rfl, iteFE (by decide) ?_⟩
      refine ⟨_, rfl, rfl, _, rfl, iteFE (by decide) ?_⟩
      refine ⟨_, rfl, rfl, _, rfl, iteTE (by decide) ?_⟩
      refine ⟨_, rfl, b, rfl, ?_⟩
      cases b with
      | true => exact iteT ⟨_, rfl, made_x fun a d G s ha hx hd => hQ a d G s ha hx hd⟩
      | false => exact iteF ⟨_, rfl, made_x fun a d G s ha hx hd => hQ a d G s ha hx hd⟩
    · refine ⟨_, rfl, rfl, _, rfl, iteFE (by decide) ?_⟩
      refine ⟨_, rfl, rfl, _, rfl, iteFE (by decide) ?_⟩
      refine ⟨_, rfl, rfl, _, rfl, iteFE (by decide) ?_⟩
      refine ⟨_, rfl, rfl, _, rfl, iteFE (by decide) ?_⟩
      refine ⟨_, rfl, rfl, _, rfl, iteFE (by decide) ?_⟩
      refine ⟨_, rfl, rfl, _, rfl, iteFE (by decide) ?_⟩
      refine ⟨_, rfl, rfl, _, rfl, iteTE (by decide) ?_⟩
      refine ⟨_, rfl, b, rfl, ?_⟩
      cases b with
      | true => exact iteT ⟨_, rfl, made_x fun a d G s ha hx hd => hQ a d G s ha hx hd⟩
      | false => exact iteF ⟨_, rfl, made_x fun a d G s ha hx hd => hQ a d G s ha hx hd⟩
    · refine ⟨_, rfl, rfl, _, rfl, iteFE (by decide) ?_⟩
      refine ⟨_, rfl, rfl, _, rfl, iteFE (by decide) ?_⟩
      refine ⟨_, rfl, rfl, _, rfl, iteFE (by decide) ?_⟩
      refine ⟨_, rfl, rfl, _, rfl, iteFE (by decide) ?_⟩
      refine ⟨_, rfl, rfl, _, rfl, iteFE (by decide) ?_⟩
      refine ⟨_, rfl, rfl, _, rfl, iteFE (by decide) ?_⟩
      refine ⟨_, rfl, rfl, _, rfl, iteFE (by decide) ?_⟩
      refine ⟨_, rfl, b, rfl, ?_⟩
      cases b with
      | true => exact iteT ⟨_, rfl, made_x fun a d G s ha hx hd => hQ a d G s ha hx hd⟩
      | false => exact iteF ⟨_, rfl, made_x fun a d G s ha hx hd => hQ a d G s ha hx hd⟩
theorem ok_second (F : Dn K d_l_second f fd) (M : Mx16 P w K mg base 8 16) : FnOk P w K mg base CX0 3 f fd ["_law_number", "_law_it", "_law_by_name"] (spMd K 8 16) := by
  refine F.ok sc_l_second (fun vs H Q E h => ?_) (fun cdv A outer s H vs Q E hr h => ?_)
  · obtain ⟨n, v, b, rfl, _⟩ := h
    rfl
  · obtain ⟨n, v, b, rfl, lo, hi, hQ⟩ := h
    refine ⟨_, PSs.nox (pss_cons (ps_if (pt_cmpR op_eq (pv 0) pe_int (nomark _)) (pss_one (ps_ret (pe_ifExp (pt_val (pv 2)) (GXV.pe_mxK (x := "NoName") (fl := "name") (M 8 (by decide) (by decide)) (hr.mono (by decide)) rfl (pk_cons (pv 1) pk_nil)) (GXV.pe_mx (x := "NoName") (fl := "name") (M 8 (by decide) (by decide)) (hr.mono (by decide)) rfl (pa_cons (pv 1) pa_nil))))) pss_nil)
      (pss_cons (ps_if (pt_cmpR op_eq (pv 0) pe_int (nomark _)) (pss_one (ps_ret (pe_ifExp (pt_val (pv 2)) (GXV.pe_mxK (x := "NoDay") (fl := "day") (M 9 (by decide) (by decide)) (hr.mono (by decide)) rfl (pk_cons (pv 1) pk_nil)) (GXV.pe_mx (x := "NoDay") (fl := "day") (M 9 (by decide) (by decide)) (hr.mono (by decide)) rfl (pa_cons (pv 1) pa_nil))))) pss_nil)
      (pss_cons (ps_if (pt_cmpR op_eq (pv 0) pe_int (nomark _)) (pss_one (ps_ret (pe_ifExp (pt_val (pv 2)) (GXV.pe_mxK (x := "NoSeats") (fl := "lack") (M 10 (by decide) (by decide)) (hr.mono (by decide)) rfl (pk_cons (pv 1) pk_nil)) (GXV.pe_mx (x := "NoSeats") (fl := "lack") (M 10 (by decide) (by decide)) (hr.mono (by decide)) rfl (pa_cons (pv 1) pa_nil))))) pss_nil)
      (pss_cons (ps_if (pt_cmpR op_eq (pv 0) pe_int (nomark _)) (pss_one (ps_ret (pe_ifExp (pt_val (pv 2)) (GXV.pe_mxK (x := "TooMany") (fl := "most") (M 11 (by decide) (by decide)) (hr.mono (by decide)) rfl (pk_cons (pv 1) pk_nil)) (GXV.pe_mx (x := "TooMany") (fl := "most") (M 11 (by decide) (by decide)) (hr.mono (by decide)) rfl (pa_cons (pv 1) pa_nil))))) pss_nil)
      (pss_cons (ps_if (pt_cmpR op_eq (pv 0) pe_int (nomark _)) (pss_one (ps_ret (pe_ifExp (pt_val (pv 2)) (GXV.pe_mxK (x := "Taken") (fl := "name") (M 12 (by decide) (by decide)) (hr.mono (by decide)) rfl (pk_cons (pv 1) pk_nil)) (GXV.pe_mx (x := "Taken") (fl := "name") (M 12 (by decide) (by decide)) (hr.mono (by decide)) rfl (pa_cons (pv 1) pa_nil))))) pss_nil)
      (pss_cons (ps_if (pt_cmpR op_eq (pv 0) pe_int (nomark _)) (pss_one (ps_ret (pe_ifExp (pt_val (pv 2)) (GXV.pe_mxK (x := "NoRule") (fl := "thing") (M 13 (by decide) (by decide)) (hr.mono (by decide)) rfl (pk_cons (pv 1) pk_nil)) (GXV.pe_mx (x := "NoRule") (fl := "thing") (M 13 (by decide) (by decide)) (hr.mono (by decide)) rfl (pa_cons (pv 1) pa_nil))))) pss_nil)
      (pss_cons (ps_if (pt_cmpR op_eq (pv 0) pe_int (nomark _)) (pss_one (ps_ret (pe_ifExp (pt_val (pv 2)) (GXV.pe_mxK (x := "NothingDone") (fl := "text") (M 14 (by decide) (by decide)) (hr.mono (by decide)) rfl (pk_cons (pv 1) pk_nil)) (GXV.pe_mx (x := "NothingDone") (fl := "text") (M 14 (by decide) (by decide)) (hr.mono (by decide)) rfl (pa_cons (pv 1) pa_nil))))) pss_nil)
      (pss_one (ps_ret (pe_ifExp (pt_val (pv 2)) (GXV.pe_mxK (x := "NoRow") (fl := "text") (M 15 (by decide) (by decide)) (hr.mono (by decide)) rfl (pk_cons (pv 1) pk_nil)) (GXV.pe_mx (x := "NoRow") (fl := "text") (M 15 (by decide) (by decide)) (hr.mono (by decide)) rfl (pa_cons (pv 1) pa_nil)))))))))))), ?_⟩
    obtain rfl | rfl | rfl | rfl | rfl | rfl | rfl | rfl : n = 8 ∨ n = 9 ∨ n = 10 ∨ n = 11 ∨ n = 12 ∨ n = 13 ∨ n = 14 ∨ n = 15 := by omega
    · refine ⟨_, rfl, rfl, _, rfl, iteTE (by decide) ?_⟩
      refine ⟨_, rfl, b, rfl, ?_⟩
      cases b with
      | true => exact iteT ⟨_, rfl, made_x fun a d G s ha hx hd => hQ a d G s ha hx hd⟩
      | false => exact iteF ⟨_, rfl, made_x fun a d G s ha hx hd => hQ a d G s ha hx hd⟩
    · refine ⟨_, rfl, rfl, _, rfl, iteFE (by decide) ?_⟩
      refine ⟨_, rfl, rfl, _, rfl, iteTE (by decide) ?_⟩
      refine ⟨_, rfl, b, rfl, ?_⟩
      cases b with
      | true => exact iteT ⟨_, rfl, made_x fun a d G s ha hx hd => hQ a d G s ha hx hd⟩
      | false => exact iteF ⟨_, rfl, made_x fun a d G s ha hx hd => hQ a d G s ha hx hd⟩
    · refine ⟨_, rfl, rfl, _, rfl, iteFE (by decide) ?_⟩
      refine ⟨_, rfl, rfl, _, rfl, iteFE (by decide) ?_⟩
      refine ⟨_, rfl, rfl, _, rfl, iteTE (by decide) ?_⟩
      refine ⟨_, rfl, b, rfl, ?_⟩
      cases b with
      | true => exact iteT ⟨_, rfl, made_x fun a d G s ha hx hd => hQ a d G s ha hx hd⟩
      | false => exact iteF ⟨_, rfl, made_x fun a d G s ha hx hd => hQ a d G s ha hx hd⟩
    · refine ⟨_, rfl, rfl, _, rfl, iteFE (by decide) ?_⟩
      refine ⟨_, rfl, rfl, _, rfl, iteFE (by decide) ?_⟩
      refine ⟨_, rfl, rfl, _, rfl, iteFE (by decide) ?_⟩
      refine ⟨_, rfl, rfl, _, rfl, iteTE (by decide) ?_⟩
      refine ⟨_, rfl, b, rfl, ?_⟩
      cases b with
      | true => exact iteT ⟨_, rfl, made_x fun a d G s ha hx hd => hQ a d G s ha hx hd⟩
      | false => exact iteF ⟨_, rfl, made_x fun a d G s ha hx hd => hQ a d G s ha hx hd⟩
    · refine ⟨_, rfl, rfl, _, rfl, iteFE (by decide) ?_⟩
      refine ⟨_, rfl, rfl, _, rfl, iteFE (by decide) ?_⟩
      refine ⟨_, rfl, rfl, _, rfl, iteFE (by decide) ?_⟩
      refine ⟨_, rfl, rfl, _, rfl, iteFE (by decide) ?_⟩
      refine ⟨_, rfl, rfl, _, rfl, iteTE (by decide) ?_⟩
      refine ⟨_, rfl, b, rfl, ?_⟩
      cases b with
      | true => exact iteT ⟨_, rfl, made_x fun a d G s ha hx hd => hQ a d G s ha hx hd⟩
      | false => exact iteF ⟨_, rfl, made_x fun a d G s ha hx hd => hQ a d G s ha hx hd⟩
    · refine ⟨_, rfl, rfl, _, rfl, iteFE (by decide) ?_⟩
      refine ⟨_, rfl, rfl, _, rfl, iteFE (by decide) ?_⟩
      refine ⟨_, rfl, rfl, _, rfl, iteFE (by decide) ?_⟩
      refine ⟨_, rfl, rfl, _, rfl, iteFE (by decide) ?_⟩
      refine ⟨_, rfl, rfl, _, rfl, iteFE (by decide) ?_⟩
      refine ⟨_, rfl, rfl, _, rfl, iteTE (by decide) ?_⟩
      refine ⟨_, rfl, b, rfl, ?_⟩
      cases b with
      | true => exact iteT ⟨_, rfl, made_x fun a d G s ha hx hd => hQ a d G s ha hx hd⟩
      | false => exact iteF ⟨_, rfl, made_x fun a d G s ha hx hd => hQ a d G s ha hx hd⟩
    · refine ⟨_, rfl, rfl, _, rfl, iteFE (by decide) ?_⟩
      refine ⟨_, rfl, rfl, _, rfl, iteFE (by decide) ?_⟩
      refine ⟨_, rfl, rfl, _, rfl, iteFE (by decide) ?_⟩
      refine ⟨_, rfl, rfl, _, rfl, iteFE (by decide) ?_⟩
      refine ⟨_, rfl, rfl, _, rfl, iteFE (by decide) ?_⟩
      refine ⟨_, rfl, rfl, _, rfl, iteFE (by decide) ?_⟩
      refine ⟨_, rfl, rfl, _, rfl, iteTE (by decide) ?_⟩
      refine ⟨_, rfl, b, rfl, ?_⟩
      cases b with
      | true => exact iteT ⟨_, rfl, made_x fun a d G s ha hx hd => hQ a d G s ha hx hd⟩
      | false => exact iteF ⟨_, rfl, made_x fun a d G s ha hx hd => hQ a d G s ha hx hd⟩
    · refine ⟨_, rfl, rfl, _, rfl, iteFE (by decide) ?_⟩
      refine ⟨_, rfl, rfl, _, rfl, iteFE (by decide) ?_⟩
      refine ⟨_, rfl, rfl, _, rfl, iteFE (by decide) ?_⟩
      refine ⟨_, rfl, rfl, _, rfl, iteFE (by decide) ?_⟩
      refine ⟨_, rfl, rfl, _, rfl, iteFE (by decide) ?_⟩
      refine ⟨_, rfl, rfl, _, rfl, iteFE (by decide) ?_⟩
      refine ⟨_, rfl, rfl, _, rfl, iteFE (by decide) ?_⟩
      refine ⟨_, rfl, b, rfl, ?_⟩
      cases b with
      | true => exact iteT ⟨_, rfl, made_x fun a d G s ha hx hd => hQ a d G s ha hx hd⟩
      | false => exact iteF ⟨_, rfl, made_x fun a d G s ha hx hd => hQ a d G s ha hx hd⟩
/-- what the field holds -/
def spFld (K : PySem.W.Frag) : Sp := fun vs H Q _ => ∃ (n : Nat) (a C d : Addr) (v : V), vs = [.int (n : Int), .ref a] ∧ n < 16 ∧ H a = some (Xc (.ref C) (some d) a) ∧ H d = some (.xd [(flC n, v)]) ∧ XfC K C ∧ PySem.W.findIn K (.ref C) (flC n) = some none ∧ ∀ H', Same H H' → Q v H'
theorem ok_fld (F : Dn K d_l_field f fd) : FnOk P w K mg base CX0 1 f fd ["_law_number", "_law_error"] (spFld K) := by
  refine F.ok sc_l_field (fun vs H Q E h => ?_) (fun cdv A outer s H vs Q E hr h => ?_)
  · obtain ⟨n, a, C, d, v, rfl, _⟩ := h
    rfl
  · obtain ⟨n, a, C, d, v, rfl, n16, ha, hd, xf, no, hQ⟩ := h
    refine ⟨_, PSs.nox (pss_cons (ps_if (pt_cmpR op_in_seq (pv 0) (pe_tup (pa_cons pe_int (pa_cons pe_int (pa_cons pe_int pa_nil)))) (by rfl)) (pss_one (ps_ret (EXW.pe_xk (pv 1)))) pss_nil)
      (pss_cons (ps_if (pt_cmpR op_in_seq (pv 0) (pe_tup (pa_cons pe_int (pa_cons pe_int (pa_cons pe_int pa_nil)))) (by rfl)) (pss_one (ps_ret (EXW.pe_xk (pv 1)))) pss_nil)
      (pss_cons (ps_if (pt_cmpR op_in_seq (pv 0) (pe_tup (pa_cons pe_int (pa_cons pe_int (pa_cons pe_int pa_nil)))) (by rfl)) (pss_one (ps_ret (EXW.pe_xk (pv 1)))) pss_nil)
      (pss_cons (ps_if (pt_cmpR op_in_seq (pv 0) (pe_tup (pa_cons pe_int (pa_cons pe_int pa_nil))) (by rfl)) (pss_one (ps_ret (pe_ifExp (pt_cmpR op_eq (pv 0) pe_int (nomark _)) (EXW.pe_xk (pv 1)) (EXW.pe_xk (pv 1))))) pss_nil)
      (pss_cons (ps_if (pt_cmpR op_in_seq (pv 0) (pe_tup (pa_cons pe_int (pa_cons pe_int pa_nil))) (by rfl)) (pss_one (ps_ret (pe_ifExp (pt_cmpR op_eq (pv 0) pe_int (nomark _)) (EXW.pe_xk (pv 1)) (EXW.pe_xk (pv 1))))) pss_nil)
      (pss_cons (ps_if (pt_cmpR op_eq (pv 0) pe_int (nomark _)) (pss_one (ps_ret (EXW.pe_xk (pv 1)))) pss_nil)
      (pss_one (ps_ret (pe_ifExp (pt_cmpR op_eq (pv 0) pe_int (nomark _)) (EXW.pe_xk (pv 1)) (EXW.pe_xk (pv 1))))))))))), ?_⟩
    have s0 := Same.refl H
    obtain rfl | rfl | rfl | rfl | rfl | rfl | rfl | rfl | rfl | rfl | rfl | rfl | rfl | rfl | rfl | rfl : n = 0 ∨ n = 1 ∨ n = 2 ∨ n = 3 ∨ n = 4 ∨ n = 5 ∨ n = 6 ∨ n = 7 ∨ n = 8 ∨ n = 9 ∨ n = 10 ∨ n = 11 ∨ n = 12 ∨ n = 13 ∨ n = 14 ∨ n = 15 := by omega
    · refine ⟨_, rfl, by show 3 ≤ sizeLine; decide, fun t0 f0 => ⟨t0, _, rfl, .inr (SqT.of upd_same), rfl, rfl, _, rfl, iteTE (by decide) ?_⟩⟩
      have s1 := s0.trans (same_new (o := .tup [.int 0, .int 5, .int 13]) f0)
      exact ⟨_, rfl, a, C, d, _, v, rfl, s1 _ _ ha, s1 _ _ hd, xf, no, rfl, hQ _ s1⟩
    · refine ⟨_, rfl, by show 3 ≤ sizeLine; decide, fun t0 f0 => ⟨t0, _, rfl, .inr (SqT.of upd_same), rfl, rfl, _, rfl, iteFE (by decide) ?_⟩⟩
      have s1 := s0.trans (same_new (o := .tup [.int 0, .int 5, .int 13]) f0)
      refine ⟨_, rfl, by show 3 ≤ sizeLine; decide, fun t1 f1 => ⟨t1, _, rfl, .inr (SqT.of upd_same), rfl, rfl, _, rfl, iteFE (by decide) ?_⟩⟩
      have s2 := s1.trans (same_new (o := .tup [.int 2, .int 14, .int 15]) f1)
      refine ⟨_, rfl, by show 3 ≤ sizeLine; decide, fun t2 f2 => ⟨t2, _, rfl, .inr (SqT.of upd_same), rfl, rfl, _, rfl, iteFE (by decide) ?_⟩⟩
      have s3 := s2.trans (same_new (o := .tup [.int 4, .int 8, .int 12]) f2)
      refine ⟨_, rfl, by show 2 ≤ sizeLine; decide, fun t3 f3 => ⟨t3, _, rfl, .inr (SqT.of upd_same), rfl, rfl, _, rfl, iteTE (by decide) ?_⟩⟩
      have s4 := s3.trans (same_new (o := .tup [.int 1, .int 3]) f3)
      refine ⟨_, rfl, rfl, _, rfl, iteTE (by decide) ?_⟩
      exact ⟨_, rfl, a, C, d, _, v, rfl, s4 _ _ ha, s4 _ _ hd, xf, no, rfl, hQ _ s4⟩
    · refine ⟨_, rfl, by show 3 ≤ sizeLine; decide, fun t0 f0 => ⟨t0, _, rfl, .inr (SqT.of upd_same), rfl, rfl, _, rfl, iteFE (by decide) ?_⟩⟩
      have s1 := s0.trans (same_new (o := .tup [.int 0, .int 5, .int 13]) f0)
      refine ⟨_, rfl, by show 3 ≤ sizeLine; decide, fun t1 f1 => ⟨t1, _, rfl, .inr (SqT.of upd_same), rfl, rfl, _, rfl, iteTE (by decide) ?_⟩⟩
      have s2 := s1.trans (same_new (o := .tup [.int 2, .int 14, .int 15]) f1)
      exact ⟨_, rfl, a, C, d, _, v, rfl, s2 _ _ ha, s2 _ _ hd, xf, no, rfl, hQ _ s2⟩
    · refine ⟨_, rfl, by show 3 ≤ sizeLine; decide, fun t0 f0 => ⟨t0, _, rfl, .inr (SqT.of upd_same), rfl, rfl, _, rfl, iteFE (by decide) ?_⟩⟩
      have s1 := s0.trans (same_new (o := .tup [.int 0, .int 5, .int 13]) f0)
      refine ⟨_, rfl, by show 3 ≤ sizeLine; decide, fun t1 f1 => ⟨t1, _, rfl, .inr (SqT.of upd_same), rfl, rfl, _, rfl, iteFE (by decide) ?_⟩⟩
      have s2 := s1.trans (same_new (o := .tup [.int 2, .int 14, .int 15]) f1)
      refine ⟨_, rfl, by show 3 ≤ sizeLine; decide, fun t2 f2 => ⟨t2, _, rfl, .inr (SqT.of upd_same), rfl, rfl, _, rfl, iteFE (by decide) ?_⟩⟩
      have s3 := s2.trans (same_new (o := .tup [.int 4, .int 8, .int 12]) f2)
      refine ⟨_, rfl, by show 2 ≤ sizeLine; decide, fun t3 f3 => ⟨t3, _, rfl, .inr (SqT.of upd_same), rfl, rfl, _, rfl, iteTE (by decide) ?_⟩⟩
      have s4 := s3.trans (same_new (o := .tup [.int 1, .int 3]) f3)
      refine ⟨_, rfl, rfl, _, rfl, iteFE (by decide) ?_⟩
      exact ⟨_, rfl, a, C, d, _, v, rfl, s4 _ _ ha, s4 _ _ hd, xf, no, rfl, hQ _ s4⟩
    · refine ⟨_, rfl, by show 3 ≤ sizeLine; decide, fun t0 f0 => ⟨t0, _, rfl, .inr (SqT.of upd_same), rfl, rfl, _, rfl, iteFE (by decide) ?_⟩⟩
      have s1 := s0.trans (same_new (o := .tup [.int 0, .int 5, .int 13]) f0)
      refine ⟨_, rfl, by show 3 ≤ sizeLine; decide, fun t1 f1 => ⟨t1, _, rfl, .inr (SqT.of upd_same), rfl, rfl, _, rfl, iteFE (by decide) ?_⟩⟩
      have s2 := s1.trans (same_new (o := .tup [.int 2, .int 14, .int 15]) f1)
      refine ⟨_, rfl, by show 3 ≤ sizeLine; decide, fun t2 f2 => ⟨t2, _, rfl, .inr (SqT.of upd_same), rfl, rfl, _, rfl, iteTE (by decide) ?_⟩⟩
      have s3 := s2.trans (same_new (o := .tup [.int 4, .int 8, .int 12]) f2)
      exact ⟨_, rfl, a, C, d, _, v, rfl, s3 _ _ ha, s3 _ _ hd, xf, no, rfl, hQ _ s3⟩
    · refine ⟨_, rfl, by show 3 ≤ sizeLine; decide, fun t0 f0 => ⟨t0, _, rfl, .inr (SqT.of upd_same), rfl, rfl, _, rfl, iteTE (by decide) ?_⟩⟩
      have s1 := s0.trans (same_new (o := .tup [.int 0, .int 5, .int 13]) f0)
      exact ⟨_, rfl, a, C, d, _, v, rfl, s1 _ _ ha, s1 _ _ hd, xf, no, rfl, hQ _ s1⟩
    · refine ⟨_, rfl, by show 3 ≤ sizeLine; decide, fun t0 f0 => ⟨t0, _, rfl, .inr (SqT.of upd_same), rfl, rfl, _, rfl, iteFE (by decide) ?_⟩⟩
      have s1 := s0.trans (same_new (o := .tup [.int 0, .int 5, .int 13]) f0)
      refine ⟨_, rfl, by show 3 ≤ sizeLine; decide, fun t1 f1 => ⟨t1, _, rfl, .inr (SqT.of upd_same), rfl, rfl, _, rfl, iteFE (by decide) ?_⟩⟩
      have s2 := s1.trans (same_new (o := .tup [.int 2, .int 14, .int 15]) f1)
      refine ⟨_, rfl, by show 3 ≤ sizeLine; decide, fun t2 f2 => ⟨t2, _, rfl, .inr (SqT.of upd_same), rfl, rfl, _, rfl, iteFE (by decide) ?_⟩⟩
      have s3 := s2.trans (same_new (o := .tup [.int 4, .int 8, .int 12]) f2)
      refine ⟨_, rfl, by show 2 ≤ sizeLine; decide, fun t3 f3 => ⟨t3, _, rfl, .inr (SqT.of upd_same), rfl, rfl, _, rfl, iteFE (by decide) ?_⟩⟩
      have s4 := s3.trans (same_new (o := .tup [.int 1, .int 3]) f3)
      refine ⟨_, rfl, by show 2 ≤ sizeLine; decide, fun t4 f4 => ⟨t4, _, rfl, .inr (SqT.of upd_same), rfl, rfl, _, rfl, iteTE (by decide) ?_⟩⟩
      have s5 := s4.trans (same_new (o := .tup [.int 6, .int 7]) f4)
      refine ⟨_, rfl, rfl, _, rfl, iteTE (by decide) ?_⟩
      exact ⟨_, rfl, a, C, d, _, v, rfl, s5 _ _ ha, s5 _ _ hd, xf, no, rfl, hQ _ s5⟩
    · refine ⟨_, rfl, by show 3 ≤ sizeLine; decide, fun t0 f0 => ⟨t0, _, rfl, .inr (SqT.of upd_same), rfl, rfl, _, rfl, iteFE (by decide) ?_⟩⟩
      have s1 := s0.trans (same_new (o := .tup [.int 0, .int 5, .int 13]) f0)
      refine ⟨_, rfl, by show 3 ≤ sizeLine; decide, fun t1 f1 => ⟨t1, _, rfl, .inr (SqT.of upd_same), rfl, rfl, _, rfl, iteFE (by decide) ?_⟩⟩
      have s2 := s1.trans (same_new (o := .tup [.int 2, .int 14, .int 15]) f1)
      refine ⟨_, rfl, by show 3 ≤ sizeLine; decide, fun t2 f2 => ⟨t2, _, rfl, .inr (SqT.of upd_same), rfl, rfl, _, rfl, iteFE (by decide) ?_⟩⟩
      have s3 := s2.trans (same_new (o := .tup [.int 4, .int 8, .int 12]) f2)
      refine ⟨_, rfl, by show 2 ≤ sizeLine; decide, fun t3 f3 => ⟨t3, _, rfl, .inr (SqT.of upd_same), rfl, rfl, _, rfl, iteFE (by decide) ?_⟩⟩
      have s4 := s3.trans (same_new (o := .tup [.int 1, .int 3]) f3)
      refine ⟨_, rfl, by show 2 ≤ sizeLine; decide, fun t4 f4 => ⟨t4, _, rfl, .inr (SqT.of upd_same), rfl, rfl, _, rfl, iteTE (by decide) ?_⟩⟩
      have s5 := s4.trans (same_new (o := .tup [.int 6, .int 7]) f4)
      refine ⟨_, rfl, rfl, _, rfl, iteFE (by decide) ?_⟩
      exact ⟨_, rfl, a, C, d, _, v, rfl, s5 _ _ ha, s5 _ _ hd, xf, no, rfl, hQ _ s5⟩
    · refine ⟨_, rfl, by show 3 ≤ sizeLine; decide, fun t0 f0 => ⟨t0, _, rfl, .inr (SqT.of upd_same), rfl, rfl, _, rfl, iteFE (by decide) ?_⟩⟩
      have s1 := s0.trans (same_new (o := .tup [.int 0, .int 5, .int 13]) f0)
      refine ⟨_, rfl, by show 3 ≤ sizeLine; decide, fun t1 f1 => ⟨t1, _, rfl, .inr (SqT.of upd_same), rfl, rfl, _, rfl, iteFE (by decide) ?_⟩⟩
      have s2 := s1.trans (same_new (o := .tup [.int 2, .int 14, .int 15]) f1)
      refine ⟨_, rfl, by show 3 ≤ sizeLine; decide, fun t2 f2 => ⟨t2, _, rfl, .inr (SqT.of upd_same), rfl, rfl, _, rfl, iteTE (by decide) ?_⟩⟩
      have s3 := s2.trans (same_new (o := .tup [.int 4, .int 8, .int 12]) f2)
      exact ⟨_, rfl, a, C, d, _, v, rfl, s3 _ _ ha, s3 _ _ hd, xf, no, rfl, hQ _ s3⟩
    · refine ⟨_, rfl, by show 3 ≤ sizeLine; decide, fun t0 f0 => ⟨t0, _, rfl, .inr (SqT.of upd_same), rfl, rfl, _, rfl, iteFE (by decide) ?_⟩⟩
      have s1 := s0.trans (same_new (o := .tup [.int 0, .int 5, .int 13]) f0)
      refine ⟨_, rfl, by show 3 ≤ sizeLine; decide, fun t1 f1 => ⟨t1, _, rfl, .inr (SqT.of upd_same), rfl, rfl, _, rfl, iteFE (by decide) ?_⟩⟩
      have s2 := s1.trans (same_new (o := .tup [.int 2, .int 14, .int 15]) f1)
      refine ⟨_, rfl, by show 3 ≤ sizeLine; decide, fun t2 f2 => ⟨t2, _, rfl, .inr (SqT.of upd_same), rfl, rfl, _, rfl, iteFE (by decide) ?_⟩⟩
      have s3 := s2.trans (same_new (o := .tup [.int 4, .int 8, .int 12]) f2)
      refine ⟨_, rfl, by show 2 ≤ sizeLine; decide, fun t3 f3 => ⟨t3, _, rfl, .inr (SqT.of upd_same), rfl, rfl, _, rfl, iteFE (by decide) ?_⟩⟩
      have s4 := s3.trans (same_new (o := .tup [.int 1, .int 3]) f3)
      refine ⟨_, rfl, by show 2 ≤ sizeLine; decide, fun t4 f4 => ⟨t4, _, rfl, .inr (SqT.of upd_same), rfl, rfl, _, rfl, iteFE (by decide) ?_⟩⟩
      have s5 := s4.trans (same_new (o := .tup [.int 6, .int 7]) f4)
      refine ⟨_, rfl, rfl, _, rfl, iteTE (by decide) ?_⟩
      exact ⟨_, rfl, a, C, d, _, v, rfl, s5 _ _ ha, s5 _ _ hd, xf, no, rfl, hQ _ s5⟩
    · refine ⟨_, rfl, by show 3 ≤ sizeLine; decide, fun t0 f0 => ⟨t0, _, rfl, .inr (SqT.of upd_same), rfl, rfl, _, rfl, iteFE (by decide) ?_⟩⟩
      have s1 := s0.trans (same_new (o := .tup [.int 0, .int 5, .int 13]) f0)
      refine ⟨_, rfl, by show 3 ≤ sizeLine; decide, fun t1 f1 => ⟨t1, _, rfl, .inr (SqT.of upd_same), rfl, rfl, _, rfl, iteFE (by decide) ?_⟩⟩
      have s2 := s1.trans (same_new (o := .tup [.int 2, .int 14, .int 15]) f1)
      refine ⟨_, rfl, by show 3 ≤ sizeLine; decide, fun t2 f2 => ⟨t2, _, rfl, .inr (SqT.of upd_same), rfl, rfl, _, rfl, iteFE (by decide) ?_⟩⟩
      have s3 := s2.trans (same_new (o := .tup [.int 4, .int 8, .int 12]) f2)
      refine ⟨_, rfl, by show 2 ≤ sizeLine; decide, fun t3 f3 => ⟨t3, _, rfl, .inr (SqT.of upd_same), rfl, rfl, _, rfl, iteFE (by decide) ?_⟩⟩
      have s4 := s3.trans (same_new (o := .tup [.int 1, .int 3]) f3)
      refine ⟨_, rfl, by show 2 ≤ sizeLine; decide, fun t4 f4 => ⟨t4, _, rfl, .inr (SqT.of upd_same), rfl, rfl, _, rfl, iteFE (by decide) ?_⟩⟩
      have s5 := s4.trans (same_new (o := .tup [.int 6, .int 7]) f4)
      refine ⟨_, rfl, rfl, _, rfl, iteFE (by decide) ?_⟩
      refine ⟨_, rfl, rfl, _, rfl, iteTE (by decide) ?_⟩
      exact ⟨_, rfl, a, C, d, _, v, rfl, s5 _ _ ha, s5 _ _ hd, xf, no, rfl, hQ _ s5⟩
    · refine ⟨_, rfl, by show 3 ≤ sizeLine; decide, fun t0 f0 => ⟨t0, _, rfl, .inr (SqT.of upd_same), rfl, rfl, _, rfl, iteFE (by decide) ?_⟩⟩
      have s1 := s0.trans (same_new (o := .tup [.int 0, .int 5, .int 13]) f0)
      refine ⟨_, rfl, by show 3 ≤ sizeLine; decide, fun t1 f1 => ⟨t1, _, rfl, .inr (SqT.of upd_same), rfl, rfl, _, rfl, iteFE (by decide) ?_⟩⟩
      have s2 := s1.trans (same_new (o := .tup [.int 2, .int 14, .int 15]) f1)
      refine ⟨_, rfl, by show 3 ≤ sizeLine; decide, fun t2 f2 => ⟨t2, _, rfl, .inr (SqT.of upd_same), rfl, rfl, _, rfl, iteFE (by decide) ?_⟩⟩
      have s3 := s2.trans (same_new (o := .tup [.int 4, .int 8, .int 12]) f2)
      refine ⟨_, rfl, by show 2 ≤ sizeLine; decide, fun t3 f3 => ⟨t3, _, rfl, .inr (SqT.of upd_same), rfl, rfl, _, rfl, iteFE (by decide) ?_⟩⟩
      have s4 := s3.trans (same_new (o := .tup [.int 1, .int 3]) f3)
      refine ⟨_, rfl, by show 2 ≤ sizeLine; decide, fun t4 f4 => ⟨t4, _, rfl, .inr (SqT.of upd_same), rfl, rfl, _, rfl, iteFE (by decide) ?_⟩⟩
      have s5 := s4.trans (same_new (o := .tup [.int 6, .int 7]) f4)
      refine ⟨_, rfl, rfl, _, rfl, iteFE (by decide) ?_⟩
      refine ⟨_, rfl, rfl, _, rfl, iteFE (by decide) ?_⟩
      exact ⟨_, rfl, a, C, d, _, v, rfl, s5 _ _ ha, s5 _ _ hd, xf, no, rfl, hQ _ s5⟩
    · refine ⟨_, rfl, by show 3 ≤ sizeLine; decide, fun t0 f0 => ⟨t0, _, rfl, .inr (SqT.of upd_same), rfl, rfl, _, rfl, iteFE (by decide) ?_⟩⟩
      have s1 := s0.trans (same_new (o := .tup [.int 0, .int 5, .int 13]) f0)
      refine ⟨_, rfl, by show 3 ≤ sizeLine; decide, fun t1 f1 => ⟨t1, _, rfl, .inr (SqT.of upd_same), rfl, rfl, _, rfl, iteFE (by decide) ?_⟩⟩
      have s2 := s1.trans (same_new (o := .tup [.int 2, .int 14, .int 15]) f1)
      refine ⟨_, rfl, by show 3 ≤ sizeLine; decide, fun t2 f2 => ⟨t2, _, rfl, .inr (SqT.of upd_same), rfl, rfl, _, rfl, iteTE (by decide) ?_⟩⟩
      have s3 := s2.trans (same_new (o := .tup [.int 4, .int 8, .int 12]) f2)
      exact ⟨_, rfl, a, C, d, _, v, rfl, s3 _ _ ha, s3 _ _ hd, xf, no, rfl, hQ _ s3⟩
    · refine ⟨_, rfl, by show 3 ≤ sizeLine; decide, fun t0 f0 => ⟨t0, _, rfl, .inr (SqT.of upd_same), rfl, rfl, _, rfl, iteTE (by decide) ?_⟩⟩
      have s1 := s0.trans (same_new (o := .tup [.int 0, .int 5, .int 13]) f0)
      exact ⟨_, rfl, a, C, d, _, v, rfl, s1 _ _ ha, s1 _ _ hd, xf, no, rfl, hQ _ s1⟩
    · refine ⟨_, rfl, by show 3 ≤ sizeLine; decide, fun t0 f0 => ⟨t0, _, rfl, .inr (SqT.of upd_same), rfl, rfl, _, rfl, iteFE (by decide) ?_⟩⟩
      have s1 := s0.trans (same_new (o := .tup [.int 0, .int 5, .int 13]) f0)
      refine ⟨_, rfl, by show 3 ≤ sizeLine; decide, fun t1 f1 => ⟨t1, _, rfl, .inr (SqT.of upd_same), rfl, rfl, _, rfl, iteTE (by decide) ?_⟩⟩
      have s2 := s1.trans (same_new (o := .tup [.int 2, .int 14, .int 15]) f1)
      exact ⟨_, rfl, a, C, d, _, v, rfl, s2 _ _ ha, s2 _ _ hd, xf, no, rfl, hQ _ s2⟩
    · refine ⟨_, rfl, by show 3 ≤ sizeLine; decide, fun t0 f0 => ⟨t0, _, rfl, .inr (SqT.of upd_same), rfl, rfl, _, rfl, iteFE (by decide) ?_⟩⟩
      have s1 := s0.trans (same_new (o := .tup [.int 0, .int 5, .int 13]) f0)
      refine ⟨_, rfl, by show 3 ≤ sizeLine; decide, fun t1 f1 => ⟨t1, _, rfl, .inr (SqT.of upd_same), rfl, rfl, _, rfl, iteTE (by decide) ?_⟩⟩
      have s2 := s1.trans (same_new (o := .tup [.int 2, .int 14, .int 15]) f1)
      exact ⟨_, rfl, a, C, d, _, v, rfl, s2 _ _ ha, s2 _ _ hd, xf, no, rfl, hQ _ s2⟩
end
end K90
set_option Elab.async false
set_option linter.all false
set_option maxRecDepth 100000
set_option maxHeartbeats 4000000
namespace K90
open PySem PySem.Spec PyProof.Rows L2
open C8 (Cal Mak Met pe_c pe_mk pe_mt pe_mt0)
section
variable {P : Program} {w : World} {K : PySem.W.Frag} {mg : Str → Option Value} {base : Heap} {f C CT D : Addr} {fd : FuncData}
def plc : List (Str × List Int) := [("badname", [3]), ("number", [3]), ("ride", [3]), ("text", [3]), ("kind", [0]), ("nought", [1, 2]), ("share", [2]), ("uneven", [2]), ("name", [4, 5]), ("day", [5]), ("seats", [5, 6]), ("many", [2, 7]), ("taken", [8]), ("rule", [8, 9]), ("done", []), ("row", [])]
/-- which of the ten stand above, by the word -/
def abv (l : List Int) (i : Nat) : Bool := inV (.int (i : Int)) (l.map V.int)
def spBa : Sp := fun vs H Q _ => ∃ (wd : Str) (l : List Int), vs = [.str wd] ∧ (wd, l) ∈ plc ∧ ∀ (t : Addr) (H' : Hp), Same H H' → H t = none → H' t = some (.lst ((List.range 10).map fun i => V.bl (abv l i))) → Q (.ref t) H'
theorem ok_ba (F : Dn K d_l_bases f fd) (b : Bl mg) : FnOk P w K mg base CX0 1 f fd ["_law_word"] spBa := by
  refine F.ok sc_l_bases (fun vs H Q E h => ?_) (fun cdv A outer s H vs Q E hr h => ?_)
  · obtain ⟨wd, l, rfl, _⟩ := h
    rfl
  · obtain ⟨wd, l, rfl, hw, hQ⟩ := h
    have hu : (A.deeper (envOfC d_l_bases.qual d_l_bases.scope s.heap.objs.size f cdv)).units + 1 < cLine := hu_of hr
    refine ⟨_, PSs.nox (pss_cons (ps_set (i := 1) sc_l_bases.nd rfl (.inr rfl) (pe_disp (pps_cons pe_str (pe_lst (pa_cons pe_int pa_nil)) (pps_cons pe_str (pe_lst (pa_cons pe_int (pa_cons pe_int pa_nil))) (pps_cons pe_str (pe_lst (pa_cons pe_int pa_nil)) (pps_cons pe_str (pe_lst (pa_cons pe_int pa_nil)) (pps_cons pe_str (pe_lst (pa_cons pe_int (pa_cons pe_int pa_nil))) (pps_cons pe_str (pe_lst (pa_cons pe_int pa_nil)) (pps_cons pe_str (pe_lst (pa_cons pe_int (pa_cons pe_int pa_nil))) pps_nil))))))) rfl rfl (List.cons_ne_nil _ _) (by decide)))
      (pss_cons (ps_expr (pe_bm PySem.F.plainAttrs_dict PySem.F.slot_dict_update PySem.F.type_dict_update DU.mt_upd (pv 1) (pa_cons (pe_disp (pps_cons pe_str (pe_lst (pa_cons pe_int (pa_cons pe_int pa_nil))) (pps_cons pe_str (pe_lst (pa_cons pe_int pa_nil)) (pps_cons pe_str (pe_lst (pa_cons pe_int (pa_cons pe_int pa_nil))) (pps_cons pe_str (pe_lst pa_nil) (pps_cons pe_str (pe_lst pa_nil) pps_nil))))) rfl rfl (List.cons_ne_nil _ _) (by decide)) pa_nil)))
      (pss_one (ps_ret (pe_lc (own := [("_law_k", 2)]) (g := gName 2) (tt := tYes) rfl sc_l_bases.nd (pi_range1 rfl b.range (pa_cons pe_int pa_nil)) (blkOk_by (N := N_l_bases) (sc := defScope s_l_bases) (by decide +kernel))
          (fun _ _ _ _ _ => pg_name (i := 2) sc_l_bases.nd rfl (Or.inl rfl)) (fun _ _ _ _ _ => pts_nil) (fun _ _ _ _ _ => pe_cmpR (r := rIn K false) op_in_seq (pv 2) (pe_dget2 hu (pv 1) (pv 0) (pe_lst (pa_cons pe_int pa_nil)) ⟨rfl, rfl, rfl, rfl⟩) (by rfl))))))), ?_⟩
    have sm := Same.refl H
    intro p1 fp1
    have sp := same_new (o := .dK []) fp1
    have ep1 : (upd H p1 (.dK [])) p1 = some (.dK []) := upd_same
    have sm := sm.trans sp
    generalize upd H p1 (.dK []) = Jp1 at sm ep1 ⊢
    clear sp
    refine ⟨by show 1 ≤ sizeLine; decide, fun q1 g1 => ?_⟩
    have sp := same_new (o := .lst [.int 0]) g1
    have h1 : (upd Jp1 q1 (.lst [.int 0])) q1 = some (.lst [.int 0]) := upd_same
    have ep1 := sp _ _ ep1
    have sm := sm.trans sp
    generalize upd Jp1 q1 (.lst [.int 0]) = J1 at sm ep1 h1 ⊢
    clear sp
    refine ⟨by show 2 ≤ sizeLine; decide, fun q2 g2 => ?_⟩
    have sp := same_new (o := .lst [.int 1, .int 2]) g2
    have h2 : (upd J1 q2 (.lst [.int 1, .int 2])) q2 = some (.lst [.int 1, .int 2]) := upd_same
    have ep1 := sp _ _ ep1
    have h1 := sp _ _ h1
    have sm := sm.trans sp
    generalize upd J1 q2 (.lst [.int 1, .int 2]) = J2 at sm ep1 h1 h2 ⊢
    clear sp
    refine ⟨by show 1 ≤ sizeLine; decide, fun q3 g3 => ?_⟩
    have sp := same_new (o := .lst [.int 2]) g3
    have h3 : (upd J2 q3 (.lst [.int 2])) q3 = some (.lst [.int 2]) := upd_same
    have ep1 := sp _ _ ep1
    have h1 := sp _ _ h1
    have h2 := sp _ _ h2
    have sm := sm.trans sp
    generalize upd J2 q3 (.lst [.int 2]) = J3 at sm ep1 h1 h2 h3 ⊢
    clear sp
    refine ⟨by show 1 ≤ sizeLine; decide, fun q4 g4 => ?_⟩
    have sp := same_new (o := .lst [.int 2]) g4
    have h4 : (upd J3 q4 (.lst [.int 2])) q4 = some (.lst [.int 2]) := upd_same
    have ep1 := sp _ _ ep1
    have h1 := sp _ _ h1
    have h2 := sp _ _ h2
    have h3 := sp _ _ h3
    have sm := sm.trans sp
    generalize upd J3 q4 (.lst [.int 2]) = J4 at sm ep1 h1 h2 h3 h4 ⊢
    clear sp
    refine ⟨by show 2 ≤ sizeLine; decide, fun q5 g5 => ?_⟩
    have sp := same_new (o := .lst [.int 4, .int 5]) g5
    have h5 : (upd J4 q5 (.lst [.int 4, .int 5])) q5 = some (.lst [.int 4, .int 5]) := upd_same
    have ep1 := sp _ _ ep1
    have h1 := sp _ _ h1
    have h2 := sp _ _ h2
    have h3 := sp _ _ h3
    have h4 := sp _ _ h4
    have sm := sm.trans sp
    generalize upd J4 q5 (.lst [.int 4, .int 5]) = J5 at sm ep1 h1 h2 h3 h4 h5 ⊢
    clear sp
    refine ⟨by show 1 ≤ sizeLine; decide, fun q6 g6 => ?_⟩
    have sp := same_new (o := .lst [.int 5]) g6
    have h6 : (upd J5 q6 (.lst [.int 5])) q6 = some (.lst [.int 5]) := upd_same
    have ep1 := sp _ _ ep1
    have h1 := sp _ _ h1
    have h2 := sp _ _ h2
    have h3 := sp _ _ h3
    have h4 := sp _ _ h4
    have h5 := sp _ _ h5
    have sm := sm.trans sp
    generalize upd J5 q6 (.lst [.int 5]) = J6 at sm ep1 h1 h2 h3 h4 h5 h6 ⊢
    clear sp
    refine ⟨by show 2 ≤ sizeLine; decide, fun q7 g7 => ?_⟩
    have sp := same_new (o := .lst [.int 5, .int 6]) g7
    have h7 : (upd J6 q7 (.lst [.int 5, .int 6])) q7 = some (.lst [.int 5, .int 6]) := upd_same
    have ep1 := sp _ _ ep1
    have h1 := sp _ _ h1
    have h2 := sp _ _ h2
    have h3 := sp _ _ h3
    have h4 := sp _ _ h4
    have h5 := sp _ _ h5
    have h6 := sp _ _ h6
    have sm := sm.trans sp
    generalize upd J6 q7 (.lst [.int 5, .int 6]) = J7 at sm ep1 h1 h2 h3 h4 h5 h6 h7 ⊢
    clear sp
    have np1 : H p1 = none := fp1
    refine ⟨ep1, [((Sum.inr "kind" : Key), V.ref q1), ((Sum.inr "nought" : Key), V.ref q2), ((Sum.inr "share" : Key), V.ref q3), ((Sum.inr "uneven" : Key), V.ref q4), ((Sum.inr "name" : Key), V.ref q5), ((Sum.inr "day" : Key), V.ref q6), ((Sum.inr "seats" : Key), V.ref q7)], rfl, (show 7 ≤ 15 by decide), ?_⟩
    have ne1 : ∀ {b : Addr} {ys : List V}, J7 b = some (.lst ys) → b ≠ p1 := fun e z => by rw [z, ep1] at e; cases e
    have h1 : (upd J7 p1 (.dK (mergeK [] [((Sum.inr "kind" : Key), V.ref q1), ((Sum.inr "nought" : Key), V.ref q2), ((Sum.inr "share" : Key), V.ref q3), ((Sum.inr "uneven" : Key), V.ref q4), ((Sum.inr "name" : Key), V.ref q5), ((Sum.inr "day" : Key), V.ref q6), ((Sum.inr "seats" : Key), V.ref q7)]))) q1 = some (.lst [.int 0]) := by rw [upd_ne (ne1 h1)]; exact h1
    have h2 : (upd J7 p1 (.dK (mergeK [] [((Sum.inr "kind" : Key), V.ref q1), ((Sum.inr "nought" : Key), V.ref q2), ((Sum.inr "share" : Key), V.ref q3), ((Sum.inr "uneven" : Key), V.ref q4), ((Sum.inr "name" : Key), V.ref q5), ((Sum.inr "day" : Key), V.ref q6), ((Sum.inr "seats" : Key), V.ref q7)]))) q2 = some (.lst [.int 1, .int 2]) := by rw [upd_ne (ne1 h2)]; exact h2
    have h3 : (upd J7 p1 (.dK (mergeK [] [((Sum.inr "kind" : Key), V.ref q1), ((Sum.inr "nought" : Key), V.ref q2), ((Sum.inr "share" : Key), V.ref q3), ((Sum.inr "uneven" : Key), V.ref q4), ((Sum.inr "name" : Key), V.ref q5), ((Sum.inr "day" : Key), V.ref q6), ((Sum.inr "seats" : Key), V.ref q7)]))) q3 = some (.lst [.int 2]) := by rw [upd_ne (ne1 h3)]; exact h3
    have h4 : (upd J7 p1 (.dK (mergeK [] [((Sum.inr "kind" : Key), V.ref q1), ((Sum.inr "nought" : Key), V.ref q2), ((Sum.inr "share" : Key), V.ref q3), ((Sum.inr "uneven" : Key), V.ref q4), ((Sum.inr "name" : Key), V.ref q5), ((Sum.inr "day" : Key), V.ref q6), ((Sum.inr "seats" : Key), V.ref q7)]))) q4 = some (.lst [.int 2]) := by rw [upd_ne (ne1 h4)]; exact h4
    have h5 : (upd J7 p1 (.dK (mergeK [] [((Sum.inr "kind" : Key), V.ref q1), ((Sum.inr "nought" : Key), V.ref q2), ((Sum.inr "share" : Key), V.ref q3), ((Sum.inr "uneven" : Key), V.ref q4), ((Sum.inr "name" : Key), V.ref q5), ((Sum.inr "day" : Key), V.ref q6), ((Sum.inr "seats" : Key), V.ref q7)]))) q5 = some (.lst [.int 4, .int 5]) := by rw [upd_ne (ne1 h5)]; exact h5
    have h6 : (upd J7 p1 (.dK (mergeK [] [((Sum.inr "kind" : Key), V.ref q1), ((Sum.inr "nought" : Key), V.ref q2), ((Sum.inr "share" : Key), V.ref q3), ((Sum.inr "uneven" : Key), V.ref q4), ((Sum.inr "name" : Key), V.ref q5), ((Sum.inr "day" : Key), V.ref q6), ((Sum.inr "seats" : Key), V.ref q7)]))) q6 = some (.lst [.int 5]) := by rw [upd_ne (ne1 h6)]; exact h6
    have h7 : (upd J7 p1 (.dK (mergeK [] [((Sum.inr "kind" : Key), V.ref q1), ((Sum.inr "nought" : Key), V.ref q2), ((Sum.inr "share" : Key), V.ref q3), ((Sum.inr "uneven" : Key), V.ref q4), ((Sum.inr "name" : Key), V.ref q5), ((Sum.inr "day" : Key), V.ref q6), ((Sum.inr "seats" : Key), V.ref q7)]))) q7 = some (.lst [.int 5, .int 6]) := by rw [upd_ne (ne1 h7)]; exact h7
    have hp1 : (upd J7 p1 (.dK (mergeK [] [((Sum.inr "kind" : Key), V.ref q1), ((Sum.inr "nought" : Key), V.ref q2), ((Sum.inr "share" : Key), V.ref q3), ((Sum.inr "uneven" : Key), V.ref q4), ((Sum.inr "name" : Key), V.ref q5), ((Sum.inr "day" : Key), V.ref q6), ((Sum.inr "seats" : Key), V.ref q7)]))) p1 = some (.dK (mergeK [] [((Sum.inr "kind" : Key), V.ref q1), ((Sum.inr "nought" : Key), V.ref q2), ((Sum.inr "share" : Key), V.ref q3), ((Sum.inr "uneven" : Key), V.ref q4), ((Sum.inr "name" : Key), V.ref q5), ((Sum.inr "day" : Key), V.ref q6), ((Sum.inr "seats" : Key), V.ref q7)])) := upd_same
    have sm2 : Same H (upd J7 p1 (.dK (mergeK [] [((Sum.inr "kind" : Key), V.ref q1), ((Sum.inr "nought" : Key), V.ref q2), ((Sum.inr "share" : Key), V.ref q3), ((Sum.inr "uneven" : Key), V.ref q4), ((Sum.inr "name" : Key), V.ref q5), ((Sum.inr "day" : Key), V.ref q6), ((Sum.inr "seats" : Key), V.ref q7)]))) := fun b o e => by rw [upd_ne (ne_of_none e np1)]; exact sm _ _ e
    clear ne1 ep1 sm
    have sm := sm2
    clear sm2
    generalize upd J7 p1 (.dK (mergeK [] [((Sum.inr "kind" : Key), V.ref q1), ((Sum.inr "nought" : Key), V.ref q2), ((Sum.inr "share" : Key), V.ref q3), ((Sum.inr "uneven" : Key), V.ref q4), ((Sum.inr "name" : Key), V.ref q5), ((Sum.inr "day" : Key), V.ref q6), ((Sum.inr "seats" : Key), V.ref q7)])) = Ja at sm hp1 h1 h2 h3 h4 h5 h6 h7 ⊢
    have smJ := sm
    have hp1J := hp1
    refine ⟨_, rfl, .inr (.inr (.inl ⟨rfl, .inl ⟨_, hp1⟩⟩)), fun p2 fp2 => ?_⟩
    have sp := same_new (o := .dK []) fp2
    have ep2 : (upd Ja p2 (.dK [])) p2 = some (.dK []) := upd_same
    have h1 := sp _ _ h1
    have h2 := sp _ _ h2
    have h3 := sp _ _ h3
    have h4 := sp _ _ h4
    have h5 := sp _ _ h5
    have h6 := sp _ _ h6
    have h7 := sp _ _ h7
    have hp1 := sp _ _ hp1
    have sm := sm.trans sp
    generalize upd Ja p2 (.dK []) = Jp2 at sm h1 h2 h3 h4 h5 h6 h7 hp1 ep2 ⊢
    clear sp
    refine ⟨by show 2 ≤ sizeLine; decide, fun q8 g8 => ?_⟩
    have sp := same_new (o := .lst [.int 2, .int 7]) g8
    have h8 : (upd Jp2 q8 (.lst [.int 2, .int 7])) q8 = some (.lst [.int 2, .int 7]) := upd_same
    have h1 := sp _ _ h1
    have h2 := sp _ _ h2
    have h3 := sp _ _ h3
    have h4 := sp _ _ h4
    have h5 := sp _ _ h5
    have h6 := sp _ _ h6
    have h7 := sp _ _ h7
    have hp1 := sp _ _ hp1
    have ep2 := sp _ _ ep2
    have sm := sm.trans sp
    generalize upd Jp2 q8 (.lst [.int 2, .int 7]) = J8 at sm h1 h2 h3 h4 h5 h6 h7 hp1 ep2 h8 ⊢
    clear sp
    refine ⟨by show 1 ≤ sizeLine; decide, fun q9 g9 => ?_⟩
    have sp := same_new (o := .lst [.int 8]) g9
    have h9 : (upd J8 q9 (.lst [.int 8])) q9 = some (.lst [.int 8]) := upd_same
    have h1 := sp _ _ h1
    have h2 := sp _ _ h2
    have h3 := sp _ _ h3
    have h4 := sp _ _ h4
    have h5 := sp _ _ h5
    have h6 := sp _ _ h6
    have h7 := sp _ _ h7
    have hp1 := sp _ _ hp1
    have ep2 := sp _ _ ep2
    have h8 := sp _ _ h8
    have sm := sm.trans sp
    generalize upd J8 q9 (.lst [.int 8]) = J9 at sm h1 h2 h3 h4 h5 h6 h7 hp1 ep2 h8 h9 ⊢
    clear sp
    refine ⟨by show 2 ≤ sizeLine; decide, fun q10 g10 => ?_⟩
    have sp := same_new (o := .lst [.int 8, .int 9]) g10
    have h10 : (upd J9 q10 (.lst [.int 8, .int 9])) q10 = some (.lst [.int 8, .int 9]) := upd_same
    have h1 := sp _ _ h1
    have h2 := sp _ _ h2
    have h3 := sp _ _ h3
    have h4 := sp _ _ h4
    have h5 := sp _ _ h5
    have h6 := sp _ _ h6
    have h7 := sp _ _ h7
    have hp1 := sp _ _ hp1
    have ep2 := sp _ _ ep2
    have h8 := sp _ _ h8
    have h9 := sp _ _ h9
    have sm := sm.trans sp
    generalize upd J9 q10 (.lst [.int 8, .int 9]) = J10 at sm h1 h2 h3 h4 h5 h6 h7 hp1 ep2 h8 h9 h10 ⊢
    clear sp
    refine ⟨by show 0 ≤ sizeLine; decide, fun q11 g11 => ?_⟩
    have sp := same_new (o := .lst []) g11
    have h11 : (upd J10 q11 (.lst [])) q11 = some (.lst []) := upd_same
    have h1 := sp _ _ h1
    have h2 := sp _ _ h2
    have h3 := sp _ _ h3
    have h4 := sp _ _ h4
    have h5 := sp _ _ h5
    have h6 := sp _ _ h6
    have h7 := sp _ _ h7
    have hp1 := sp _ _ hp1
    have ep2 := sp _ _ ep2
    have h8 := sp _ _ h8
    have h9 := sp _ _ h9
    have h10 := sp _ _ h10
    have sm := sm.trans sp
    generalize upd J10 q11 (.lst []) = J11 at sm h1 h2 h3 h4 h5 h6 h7 hp1 ep2 h8 h9 h10 h11 ⊢
    clear sp
    refine ⟨by show 0 ≤ sizeLine; decide, fun q12 g12 => ?_⟩
    have sp := same_new (o := .lst []) g12
    have h12 : (upd J11 q12 (.lst [])) q12 = some (.lst []) := upd_same
    have h1 := sp _ _ h1
    have h2 := sp _ _ h2
    have h3 := sp _ _ h3
    have h4 := sp _ _ h4
    have h5 := sp _ _ h5
    have h6 := sp _ _ h6
    have h7 := sp _ _ h7
    have hp1 := sp _ _ hp1
    have ep2 := sp _ _ ep2
    have h8 := sp _ _ h8
    have h9 := sp _ _ h9
    have h10 := sp _ _ h10
    have h11 := sp _ _ h11
    have sm := sm.trans sp
    generalize upd J11 q12 (.lst []) = J12 at sm h1 h2 h3 h4 h5 h6 h7 hp1 ep2 h8 h9 h10 h11 h12 ⊢
    clear sp
    have n12 : p1 ≠ p2 := ne_of_none hp1J fp2
    refine ⟨ep2, [((Sum.inr "many" : Key), V.ref q8), ((Sum.inr "taken" : Key), V.ref q9), ((Sum.inr "rule" : Key), V.ref q10), ((Sum.inr "done" : Key), V.ref q11), ((Sum.inr "row" : Key), V.ref q12)], rfl, (show 5 ≤ 15 by decide), ?_⟩
    have ne1 : ∀ {b : Addr} {ys : List V}, J12 b = some (.lst ys) → b ≠ p2 := fun e z => by rw [z, ep2] at e; cases e
    have np2 : H p2 = none := smJ.free fp2
    have h1 : (upd J12 p2 (.dK (mergeK [] [((Sum.inr "many" : Key), V.ref q8), ((Sum.inr "taken" : Key), V.ref q9), ((Sum.inr "rule" : Key), V.ref q10), ((Sum.inr "done" : Key), V.ref q11), ((Sum.inr "row" : Key), V.ref q12)]))) q1 = some (.lst [.int 0]) := by rw [upd_ne (ne1 h1)]; exact h1
    have h2 : (upd J12 p2 (.dK (mergeK [] [((Sum.inr "many" : Key), V.ref q8), ((Sum.inr "taken" : Key), V.ref q9), ((Sum.inr "rule" : Key), V.ref q10), ((Sum.inr "done" : Key), V.ref q11), ((Sum.inr "row" : Key), V.ref q12)]))) q2 = some (.lst [.int 1, .int 2]) := by rw [upd_ne (ne1 h2)]; exact h2
    have h3 : (upd J12 p2 (.dK (mergeK [] [((Sum.inr "many" : Key), V.ref q8), ((Sum.inr "taken" : Key), V.ref q9), ((Sum.inr "rule" : Key), V.ref q10), ((Sum.inr "done" : Key), V.ref q11), ((Sum.inr "row" : Key), V.ref q12)]))) q3 = some (.lst [.int 2]) := by rw [upd_ne (ne1 h3)]; exact h3
    have h4 : (upd J12 p2 (.dK (mergeK [] [((Sum.inr "many" : Key), V.ref q8), ((Sum.inr "taken" : Key), V.ref q9), ((Sum.inr "rule" : Key), V.ref q10), ((Sum.inr "done" : Key), V.ref q11), ((Sum.inr "row" : Key), V.ref q12)]))) q4 = some (.lst [.int 2]) := by rw [upd_ne (ne1 h4)]; exact h4
    have h5 : (upd J12 p2 (.dK (mergeK [] [((Sum.inr "many" : Key), V.ref q8), ((Sum.inr "taken" : Key), V.ref q9), ((Sum.inr "rule" : Key), V.ref q10), ((Sum.inr "done" : Key), V.ref q11), ((Sum.inr "row" : Key), V.ref q12)]))) q5 = some (.lst [.int 4, .int 5]) := by rw [upd_ne (ne1 h5)]; exact h5
    have h6 : (upd J12 p2 (.dK (mergeK [] [((Sum.inr "many" : Key), V.ref q8), ((Sum.inr "taken" : Key), V.ref q9), ((Sum.inr "rule" : Key), V.ref q10), ((Sum.inr "done" : Key), V.ref q11), ((Sum.inr "row" : Key), V.ref q12)]))) q6 = some (.lst [.int 5]) := by rw [upd_ne (ne1 h6)]; exact h6
    have h7 : (upd J12 p2 (.dK (mergeK [] [((Sum.inr "many" : Key), V.ref q8), ((Sum.inr "taken" : Key), V.ref q9), ((Sum.inr "rule" : Key), V.ref q10), ((Sum.inr "done" : Key), V.ref q11), ((Sum.inr "row" : Key), V.ref q12)]))) q7 = some (.lst [.int 5, .int 6]) := by rw [upd_ne (ne1 h7)]; exact h7
    have hp1 := (upd_ne n12 : (upd J12 p2 (.dK (mergeK [] [((Sum.inr "many" : Key), V.ref q8), ((Sum.inr "taken" : Key), V.ref q9), ((Sum.inr "rule" : Key), V.ref q10), ((Sum.inr "done" : Key), V.ref q11), ((Sum.inr "row" : Key), V.ref q12)]))) p1 = _).trans hp1
    have h8 : (upd J12 p2 (.dK (mergeK [] [((Sum.inr "many" : Key), V.ref q8), ((Sum.inr "taken" : Key), V.ref q9), ((Sum.inr "rule" : Key), V.ref q10), ((Sum.inr "done" : Key), V.ref q11), ((Sum.inr "row" : Key), V.ref q12)]))) q8 = some (.lst [.int 2, .int 7]) := by rw [upd_ne (ne1 h8)]; exact h8
    have h9 : (upd J12 p2 (.dK (mergeK [] [((Sum.inr "many" : Key), V.ref q8), ((Sum.inr "taken" : Key), V.ref q9), ((Sum.inr "rule" : Key), V.ref q10), ((Sum.inr "done" : Key), V.ref q11), ((Sum.inr "row" : Key), V.ref q12)]))) q9 = some (.lst [.int 8]) := by rw [upd_ne (ne1 h9)]; exact h9
    have h10 : (upd J12 p2 (.dK (mergeK [] [((Sum.inr "many" : Key), V.ref q8), ((Sum.inr "taken" : Key), V.ref q9), ((Sum.inr "rule" : Key), V.ref q10), ((Sum.inr "done" : Key), V.ref q11), ((Sum.inr "row" : Key), V.ref q12)]))) q10 = some (.lst [.int 8, .int 9]) := by rw [upd_ne (ne1 h10)]; exact h10
    have h11 : (upd J12 p2 (.dK (mergeK [] [((Sum.inr "many" : Key), V.ref q8), ((Sum.inr "taken" : Key), V.ref q9), ((Sum.inr "rule" : Key), V.ref q10), ((Sum.inr "done" : Key), V.ref q11), ((Sum.inr "row" : Key), V.ref q12)]))) q11 = some (.lst []) := by rw [upd_ne (ne1 h11)]; exact h11
    have h12 : (upd J12 p2 (.dK (mergeK [] [((Sum.inr "many" : Key), V.ref q8), ((Sum.inr "taken" : Key), V.ref q9), ((Sum.inr "rule" : Key), V.ref q10), ((Sum.inr "done" : Key), V.ref q11), ((Sum.inr "row" : Key), V.ref q12)]))) q12 = some (.lst []) := by rw [upd_ne (ne1 h12)]; exact h12
    have hp2 : (upd J12 p2 (.dK (mergeK [] [((Sum.inr "many" : Key), V.ref q8), ((Sum.inr "taken" : Key), V.ref q9), ((Sum.inr "rule" : Key), V.ref q10), ((Sum.inr "done" : Key), V.ref q11), ((Sum.inr "row" : Key), V.ref q12)]))) p2 = some (.dK (mergeK [] [((Sum.inr "many" : Key), V.ref q8), ((Sum.inr "taken" : Key), V.ref q9), ((Sum.inr "rule" : Key), V.ref q10), ((Sum.inr "done" : Key), V.ref q11), ((Sum.inr "row" : Key), V.ref q12)])) := upd_same
    have sm2 : Same H (upd J12 p2 (.dK (mergeK [] [((Sum.inr "many" : Key), V.ref q8), ((Sum.inr "taken" : Key), V.ref q9), ((Sum.inr "rule" : Key), V.ref q10), ((Sum.inr "done" : Key), V.ref q11), ((Sum.inr "row" : Key), V.ref q12)]))) := fun b o e => by rw [upd_ne (ne_of_none e np2)]; exact sm _ _ e
    clear ne1 ep2 sm
    have sm := sm2
    clear sm2
    generalize upd J12 p2 (.dK (mergeK [] [((Sum.inr "many" : Key), V.ref q8), ((Sum.inr "taken" : Key), V.ref q9), ((Sum.inr "rule" : Key), V.ref q10), ((Sum.inr "done" : Key), V.ref q11), ((Sum.inr "row" : Key), V.ref q12)])) = Jb at sm hp2 h1 h2 h3 h4 h5 h6 h7 hp1 h8 h9 h10 h11 h12 ⊢
    refine ⟨p1, p2, _, _, rfl, rfl, n12, hp1, hp2, Nat.le_trans (Nat.add_le_add (DU.mergeK_len _ _) (DU.mergeK_len _ _)) (line_of (by simp)), ?_⟩
    have ne1 : ∀ {b : Addr} {ys : List V}, Jb b = some (.lst ys) → b ≠ p1 := fun e z => by rw [z, hp1] at e; cases e
    have h1 : (upd Jb p1 (.dK (mergeK (mergeK [] [((Sum.inr "kind" : Key), V.ref q1), ((Sum.inr "nought" : Key), V.ref q2), ((Sum.inr "share" : Key), V.ref q3), ((Sum.inr "uneven" : Key), V.ref q4), ((Sum.inr "name" : Key), V.ref q5), ((Sum.inr "day" : Key), V.ref q6), ((Sum.inr "seats" : Key), V.ref q7)]) (mergeK [] [((Sum.inr "many" : Key), V.ref q8), ((Sum.inr "taken" : Key), V.ref q9), ((Sum.inr "rule" : Key), V.ref q10), ((Sum.inr "done" : Key), V.ref q11), ((Sum.inr "row" : Key), V.ref q12)])))) q1 = some (.lst [.int 0]) := by rw [upd_ne (ne1 h1)]; exact h1
    have h2 : (upd Jb p1 (.dK (mergeK (mergeK [] [((Sum.inr "kind" : Key), V.ref q1), ((Sum.inr "nought" : Key), V.ref q2), ((Sum.inr "share" : Key), V.ref q3), ((Sum.inr "uneven" : Key), V.ref q4), ((Sum.inr "name" : Key), V.ref q5), ((Sum.inr "day" : Key), V.ref q6), ((Sum.inr "seats" : Key), V.ref q7)]) (mergeK [] [((Sum.inr "many" : Key), V.ref q8), ((Sum.inr "taken" : Key), V.ref q9), ((Sum.inr "rule" : Key), V.ref q10), ((Sum.inr "done" : Key), V.ref q11), ((Sum.inr "row" : Key), V.ref q12)])))) q2 = some (.lst [.int 1, .int 2]) := by rw [upd_ne (ne1 h2)]; exact h2
    have h3 : (upd Jb p1 (.dK (mergeK (mergeK [] [((Sum.inr "kind" : Key), V.ref q1), ((Sum.inr "nought" : Key), V.ref q2), ((Sum.inr "share" : Key), V.ref q3), ((Sum.inr "uneven" : Key), V.ref q4), ((Sum.inr "name" : Key), V.ref q5), ((Sum.inr "day" : Key), V.ref q6), ((Sum.inr "seats" : Key), V.ref q7)]) (mergeK [] [((Sum.inr "many" : Key), V.ref q8), ((Sum.inr "taken" : Key), V.ref q9), ((Sum.inr "rule" : Key), V.ref q10), ((Sum.inr "done" : Key), V.ref q11), ((Sum.inr "row" : Key), V.ref q12)])))) q3 = some (.lst [.int 2]) := by rw [upd_ne (ne1 h3)]; exact h3
    have h4 : (upd Jb p1 (.dK (mergeK (mergeK [] [((Sum.inr "kind" : Key), V.ref q1), ((Sum.inr "nought" : Key), V.ref q2), ((Sum.inr "share" : Key), V.ref q3), ((Sum.inr "uneven" : Key), V.ref q4), ((Sum.inr "name" : Key), V.ref q5), ((Sum.inr "day" : Key), V.ref q6), ((Sum.inr "seats" : Key), V.ref q7)]) (mergeK [] [((Sum.inr "many" : Key), V.ref q8), ((Sum.inr "taken" : Key), V.ref q9), ((Sum.inr "rule" : Key), V.ref q10), ((Sum.inr "done" : Key), V.ref q11), ((Sum.inr "row" : Key), V.ref q12)])))) q4 = some (.lst [.int 2]) := by rw [upd_ne (ne1 h4)]; exact h4
    have h5 : (upd Jb p1 (.dK (mergeK (mergeK [] [((Sum.inr "kind" : Key), V.ref q1), ((Sum.inr "nought" : Key), V.ref q2), ((Sum.inr "share" : Key), V.ref q3), ((Sum.inr "uneven" : Key), V.ref q4), ((Sum.inr "name" : Key), V.ref q5), ((Sum.inr "day" : Key), V.ref q6), ((Sum.inr "seats" : Key), V.ref q7)]) (mergeK [] [((Sum.inr "many" : Key), V.ref q8), ((Sum.inr "taken" : Key), V.ref q9), ((Sum.inr "rule" : Key), V.ref q10), ((Sum.inr "done" : Key), V.ref q11), ((Sum.inr "row" : Key), V.ref q12)])))) q5 = some (.lst [.int 4, .int 5]) := by rw [upd_ne (ne1 h5)]; exact h5
    have h6 : (upd Jb p1 (.dK (mergeK (mergeK [] [((Sum.inr "kind" : Key), V.ref q1), ((Sum.inr "nought" : Key), V.ref q2), ((Sum.inr "share" : Key), V.ref q3), ((Sum.inr "uneven" : Key), V.ref q4), ((Sum.inr "name" : Key), V.ref q5), ((Sum.inr "day" : Key), V.ref q6), ((Sum.inr "seats" : Key), V.ref q7)]) (mergeK [] [((Sum.inr "many" : Key), V.ref q8), ((Sum.inr "taken" : Key), V.ref q9), ((Sum.inr "rule" : Key), V.ref q10), ((Sum.inr "done" : Key), V.ref q11), ((Sum.inr "row" : Key), V.ref q12)])))) q6 = some (.lst [.int 5]) := by rw [upd_ne (ne1 h6)]; exact h6
    have h7 : (upd Jb p1 (.dK (mergeK (mergeK [] [((Sum.inr "kind" : Key), V.ref q1), ((Sum.inr "nought" : Key), V.ref q2), ((Sum.inr "share" : Key), V.ref q3), ((Sum.inr "uneven" : Key), V.ref q4), ((Sum.inr "name" : Key), V.ref q5), ((Sum.inr "day" : Key), V.ref q6), ((Sum.inr "seats" : Key), V.ref q7)]) (mergeK [] [((Sum.inr "many" : Key), V.ref q8), ((Sum.inr "taken" : Key), V.ref q9), ((Sum.inr "rule" : Key), V.ref q10), ((Sum.inr "done" : Key), V.ref q11), ((Sum.inr "row" : Key), V.ref q12)])))) q7 = some (.lst [.int 5, .int 6]) := by rw [upd_ne (ne1 h7)]; exact h7
    have h8 : (upd Jb p1 (.dK (mergeK (mergeK [] [((Sum.inr "kind" : Key), V.ref q1), ((Sum.inr "nought" : Key), V.ref q2), ((Sum.inr "share" : Key), V.ref q3), ((Sum.inr "uneven" : Key), V.ref q4), ((Sum.inr "name" : Key), V.ref q5), ((Sum.inr "day" : Key), V.ref q6), ((Sum.inr "seats" : Key), V.ref q7)]) (mergeK [] [((Sum.inr "many" : Key), V.ref q8), ((Sum.inr "taken" : Key), V.ref q9), ((Sum.inr "rule" : Key), V.ref q10), ((Sum.inr "done" : Key), V.ref q11), ((Sum.inr "row" : Key), V.ref q12)])))) q8 = some (.lst [.int 2, .int 7]) := by rw [upd_ne (ne1 h8)]; exact h8
    have h9 : (upd Jb p1 (.dK (mergeK (mergeK [] [((Sum.inr "kind" : Key), V.ref q1), ((Sum.inr "nought" : Key), V.ref q2), ((Sum.inr "share" : Key), V.ref q3), ((Sum.inr "uneven" : Key), V.ref q4), ((Sum.inr "name" : Key), V.ref q5), ((Sum.inr "day" : Key), V.ref q6), ((Sum.inr "seats" : Key), V.ref q7)]) (mergeK [] [((Sum.inr "many" : Key), V.ref q8), ((Sum.inr "taken" : Key), V.ref q9), ((Sum.inr "rule" : Key), V.ref q10), ((Sum.inr "done" : Key), V.ref q11), ((Sum.inr "row" : Key), V.ref q12)])))) q9 = some (.lst [.int 8]) := by rw [upd_ne (ne1 h9)]; exact h9
    have h10 : (upd Jb p1 (.dK (mergeK (mergeK [] [((Sum.inr "kind" : Key), V.ref q1), ((Sum.inr "nought" : Key), V.ref q2), ((Sum.inr "share" : Key), V.ref q3), ((Sum.inr "uneven" : Key), V.ref q4), ((Sum.inr "name" : Key), V.ref q5), ((Sum.inr "day" : Key), V.ref q6), ((Sum.inr "seats" : Key), V.ref q7)]) (mergeK [] [((Sum.inr "many" : Key), V.ref q8), ((Sum.inr "taken" : Key), V.ref q9), ((Sum.inr "rule" : Key), V.ref q10), ((Sum.inr "done" : Key), V.ref q11), ((Sum.inr "row" : Key), V.ref q12)])))) q10 = some (.lst [.int 8, .int 9]) := by rw [upd_ne (ne1 h10)]; exact h10
    have h11 : (upd Jb p1 (.dK (mergeK (mergeK [] [((Sum.inr "kind" : Key), V.ref q1), ((Sum.inr "nought" : Key), V.ref q2), ((Sum.inr "share" : Key), V.ref q3), ((Sum.inr "uneven" : Key), V.ref q4), ((Sum.inr "name" : Key), V.ref q5), ((Sum.inr "day" : Key), V.ref q6), ((Sum.inr "seats" : Key), V.ref q7)]) (mergeK [] [((Sum.inr "many" : Key), V.ref q8), ((Sum.inr "taken" : Key), V.ref q9), ((Sum.inr "rule" : Key), V.ref q10), ((Sum.inr "done" : Key), V.ref q11), ((Sum.inr "row" : Key), V.ref q12)])))) q11 = some (.lst []) := by rw [upd_ne (ne1 h11)]; exact h11
    have h12 : (upd Jb p1 (.dK (mergeK (mergeK [] [((Sum.inr "kind" : Key), V.ref q1), ((Sum.inr "nought" : Key), V.ref q2), ((Sum.inr "share" : Key), V.ref q3), ((Sum.inr "uneven" : Key), V.ref q4), ((Sum.inr "name" : Key), V.ref q5), ((Sum.inr "day" : Key), V.ref q6), ((Sum.inr "seats" : Key), V.ref q7)]) (mergeK [] [((Sum.inr "many" : Key), V.ref q8), ((Sum.inr "taken" : Key), V.ref q9), ((Sum.inr "rule" : Key), V.ref q10), ((Sum.inr "done" : Key), V.ref q11), ((Sum.inr "row" : Key), V.ref q12)])))) q12 = some (.lst []) := by rw [upd_ne (ne1 h12)]; exact h12
    have sm2 : Same H (upd Jb p1 (.dK (mergeK (mergeK [] [((Sum.inr "kind" : Key), V.ref q1), ((Sum.inr "nought" : Key), V.ref q2), ((Sum.inr "share" : Key), V.ref q3), ((Sum.inr "uneven" : Key), V.ref q4), ((Sum.inr "name" : Key), V.ref q5), ((Sum.inr "day" : Key), V.ref q6), ((Sum.inr "seats" : Key), V.ref q7)]) (mergeK [] [((Sum.inr "many" : Key), V.ref q8), ((Sum.inr "taken" : Key), V.ref q9), ((Sum.inr "rule" : Key), V.ref q10), ((Sum.inr "done" : Key), V.ref q11), ((Sum.inr "row" : Key), V.ref q12)])))) := fun b o e => by rw [upd_ne (ne_of_none e np1)]; exact sm _ _ e
    have hp1 : (upd Jb p1 (.dK (mergeK (mergeK [] [((Sum.inr "kind" : Key), V.ref q1), ((Sum.inr "nought" : Key), V.ref q2), ((Sum.inr "share" : Key), V.ref q3), ((Sum.inr "uneven" : Key), V.ref q4), ((Sum.inr "name" : Key), V.ref q5), ((Sum.inr "day" : Key), V.ref q6), ((Sum.inr "seats" : Key), V.ref q7)]) (mergeK [] [((Sum.inr "many" : Key), V.ref q8), ((Sum.inr "taken" : Key), V.ref q9), ((Sum.inr "rule" : Key), V.ref q10), ((Sum.inr "done" : Key), V.ref q11), ((Sum.inr "row" : Key), V.ref q12)])))) p1 = some (.dK (mergeK (mergeK [] [((Sum.inr "kind" : Key), V.ref q1), ((Sum.inr "nought" : Key), V.ref q2), ((Sum.inr "share" : Key), V.ref q3), ((Sum.inr "uneven" : Key), V.ref q4), ((Sum.inr "name" : Key), V.ref q5), ((Sum.inr "day" : Key), V.ref q6), ((Sum.inr "seats" : Key), V.ref q7)]) (mergeK [] [((Sum.inr "many" : Key), V.ref q8), ((Sum.inr "taken" : Key), V.ref q9), ((Sum.inr "rule" : Key), V.ref q10), ((Sum.inr "done" : Key), V.ref q11), ((Sum.inr "row" : Key), V.ref q12)]))) := upd_same
    clear ne1 hp2 sm
    generalize upd Jb p1 (.dK (mergeK (mergeK [] [((Sum.inr "kind" : Key), V.ref q1), ((Sum.inr "nought" : Key), V.ref q2), ((Sum.inr "share" : Key), V.ref q3), ((Sum.inr "uneven" : Key), V.ref q4), ((Sum.inr "name" : Key), V.ref q5), ((Sum.inr "day" : Key), V.ref q6), ((Sum.inr "seats" : Key), V.ref q7)]) (mergeK [] [((Sum.inr "many" : Key), V.ref q8), ((Sum.inr "taken" : Key), V.ref q9), ((Sum.inr "rule" : Key), V.ref q10), ((Sum.inr "done" : Key), V.ref q11), ((Sum.inr "row" : Key), V.ref q12)]))) = Jc at sm2 hp1 h1 h2 h3 h4 h5 h6 h7 h8 h9 h10 h11 h12 ⊢
    -- which list it is
    obtain ⟨ov, hv, ho⟩ : ∃ ov : Option V, valV (mergeK (mergeK [] [((Sum.inr "kind" : Key), V.ref q1), ((Sum.inr "nought" : Key), V.ref q2), ((Sum.inr "share" : Key), V.ref q3), ((Sum.inr "uneven" : Key), V.ref q4), ((Sum.inr "name" : Key), V.ref q5), ((Sum.inr "day" : Key), V.ref q6), ((Sum.inr "seats" : Key), V.ref q7)]) (mergeK [] [((Sum.inr "many" : Key), V.ref q8), ((Sum.inr "taken" : Key), V.ref q9), ((Sum.inr "rule" : Key), V.ref q10), ((Sum.inr "done" : Key), V.ref q11), ((Sum.inr "row" : Key), V.ref q12)])) (Sum.inr wd : Key) = ov ∧ ((∃ qw, ov = some (.ref qw) ∧ Jc qw = some (.lst (l.map V.int))) ∨ (ov = none ∧ l = [3])) := by
      unfold plc at hw
      simp only [List.mem_cons, List.not_mem_nil, or_false, Prod.mk.injEq] at hw
      rcases hw with ⟨rfl, rfl⟩ | ⟨rfl, rfl⟩ | ⟨rfl, rfl⟩ | ⟨rfl, rfl⟩ | ⟨rfl, rfl⟩ | ⟨rfl, rfl⟩ | ⟨rfl, rfl⟩ | ⟨rfl, rfl⟩ | ⟨rfl, rfl⟩ | ⟨rfl, rfl⟩ | ⟨rfl, rfl⟩ | ⟨rfl, rfl⟩ | ⟨rfl, rfl⟩ | ⟨rfl, rfl⟩ | ⟨rfl, rfl⟩ | ⟨rfl, rfl⟩
      · exact ⟨none, by kernel_rfl, .inr ⟨rfl, rfl⟩⟩
      · exact ⟨none, by kernel_rfl, .inr ⟨rfl, rfl⟩⟩
      · exact ⟨none, by kernel_rfl, .inr ⟨rfl, rfl⟩⟩
      · exact ⟨none, by kernel_rfl, .inr ⟨rfl, rfl⟩⟩
      · exact ⟨some (.ref q1), by kernel_rfl, .inl ⟨q1, rfl, h1⟩⟩
      · exact ⟨some (.ref q2), by kernel_rfl, .inl ⟨q2, rfl, h2⟩⟩
      · exact ⟨some (.ref q3), by kernel_rfl, .inl ⟨q3, rfl, h3⟩⟩
      · exact ⟨some (.ref q4), by kernel_rfl, .inl ⟨q4, rfl, h4⟩⟩
      · exact ⟨some (.ref q5), by kernel_rfl, .inl ⟨q5, rfl, h5⟩⟩
      · exact ⟨some (.ref q6), by kernel_rfl, .inl ⟨q6, rfl, h6⟩⟩
      · exact ⟨some (.ref q7), by kernel_rfl, .inl ⟨q7, rfl, h7⟩⟩
      · exact ⟨some (.ref q8), by kernel_rfl, .inl ⟨q8, rfl, h8⟩⟩
      · exact ⟨some (.ref q9), by kernel_rfl, .inl ⟨q9, rfl, h9⟩⟩
      · exact ⟨some (.ref q10), by kernel_rfl, .inl ⟨q10, rfl, h10⟩⟩
      · exact ⟨some (.ref q11), by kernel_rfl, .inl ⟨q11, rfl, h11⟩⟩
      · exact ⟨some (.ref q12), by kernel_rfl, .inl ⟨q12, rfl, h12⟩⟩
    have dg : ∀ H', Same Jc H' → DGet H' p1 (.str wd) ov := fun H' s' => by
      have := DGet.k (k := Sum.inr wd) (s' _ _ hp1)
      rw [hv] at this
      exact this
    refine ⟨_, rfl, by decide, by decide, ?_⟩
    intro E1 hE1
    refine lc_range (n := 10) (fun i H' => H' E1 = some (.lst ((List.range i).map fun i => V.bl (abv l i))) ∧ Same Jc H') ⟨upd_same, same_new hE1⟩ ?_ ?_
    · rintro i H2 hi ⟨he, s2⟩
      refine ⟨rfl, ?_⟩
      refine ⟨_, rfl, _, rfl, p1, rfl, .inl ⟨_, .inl (s2 _ _ hp1)⟩, _, rfl, by show 1 ≤ sizeLine; decide, fun q fq => ?_⟩
      have sq := same_new (o := .lst [.int 3]) fq
      have s3 := s2.trans sq
      have fl : (l.map V.int).all flatV = true := by
        rw [List.all_eq_true]
        intro x hx
        obtain ⟨y, _, rfl⟩ := List.mem_map.mp hx
        rfl
      have he3 := sq _ _ he
      obtain ⟨qr, eqr, hqr⟩ : ∃ qr, ov.getD (.ref q) = .ref qr ∧ (upd H2 q (.lst [.int 3])) qr = some (.lst (l.map V.int)) := by
        rcases ho with ⟨qw, rfl, hqw⟩ | ⟨rfl, rfl⟩
        · exact ⟨qw, rfl, s3 _ _ hqw⟩
        · exact ⟨q, rfl, upd_same⟩
      refine ⟨ov, dg _ s3, qr, _, eqr, .inl (SqL.of hqr), rfl, fl, ?_⟩
      refine ⟨_, he3, by rw [List.length_map, List.length_range]; exact line_lt (by omega), ?_, fun b o e => ?_⟩
      · rw [upd_same, List.range_succ, List.map_append]
        simp only [Bool.false_eq_true, if_false]
        unfold abv
        rw [show (0 : Int) + (i : Nat) = (i : Int) by omega]
        rfl
      · rw [upd_ne (ne_of_none e hE1)]
        exact s3 _ _ e
    · rintro H2 ⟨he, s2⟩
      exact hQ E1 H2 (sm2.trans s2) (sm2.free hE1) he
end
end K90
set_option linter.all false
namespace KM
/-- top and bottom of a rational number -/
def pr (r : Rat) : Int × Int := (r.num, (r.den : Int))
theorem pr_inj {r s : Rat} (h : pr r = pr s) : r = s := by
  have h1 : r.num = s.num := congrArg Prod.fst h
  have h2 : (r.den : Int) = (s.den : Int) := congrArg Prod.snd h
  rw [← Rat.num_divInt_den r, ← Rat.num_divInt_den s, h1, h2]
theorem den_ne (r : Rat) : (r.den : Int) ≠ 0 := by
  have := r.den_nz
  omega
theorem den_pos (r : Rat) : 0 < (r.den : Int) := by
  have := r.den_nz
  omega
theorem low_eq {t b : Int} (h : b ≠ 0) : low t b = pr (Rat.divInt t b) := by
  have hp := low_pos (t := t) h
  have hc := low_cop (t := t) h
  obtain ⟨d, hd⟩ := Int.eq_ofNat_of_zero_le (Int.le_of_lt hp)
  have hd0 : d ≠ 0 := by
    intro z
    rw [z] at hd
    omega
  have hcop : (low t b).1.natAbs.Coprime d := by
    have : Int.gcd (low t b).1 (low t b).2 = 1 := hc
    rw [hd] at this
    exact this
  have e1 : Rat.divInt (low t b).1 (d : Int) = Rat.divInt t b := by
    rw [Rat.divInt_eq_divInt_iff (by omega) h, ← hd]
    have h1 := low_top (t := t) (b := b)
    have h2 := low_bot (t := t) (b := b)
    calc (low t b).1 * b = (low t b).1 * (sg t b * (low t b).2) := by rw [h2]
      _ = sg t b * (low t b).1 * (low t b).2 := by rw [← Int.mul_assoc, Int.mul_comm (low t b).1]
      _ = t * (low t b).2 := by rw [h1]
  have e2 : ({ num := (low t b).1, den := d, den_nz := hd0, reduced := hcop } : Rat) = Rat.divInt t b := by rw [Rat.mk_eq_divInt, e1]
  rw [← e2]
  exact Prod.ext rfl hd
theorem pr_plus (r s : Rat) : low ((pr r).1 * (pr s).2 + (pr s).1 * (pr r).2) ((pr r).2 * (pr s).2) = pr (r + s) := by
  show low (r.num * s.den + s.num * r.den) (r.den * s.den) = _
  rw [low_eq (Int.mul_ne_zero (den_ne r) (den_ne s)), ← Rat.divInt_add_divInt _ _ (den_ne r) (den_ne s), Rat.num_divInt_den, Rat.num_divInt_den]
theorem pr_less (r s : Rat) : low ((pr r).1 * (pr s).2 - (pr s).1 * (pr r).2) ((pr r).2 * (pr s).2) = pr (r - s) := by
  show low (r.num * s.den - s.num * r.den) (r.den * s.den) = _
  rw [low_eq (Int.mul_ne_zero (den_ne r) (den_ne s)), ← Rat.divInt_sub_divInt _ _ (den_ne r) (den_ne s), Rat.num_divInt_den, Rat.num_divInt_den]
theorem pr_times (r : Rat) (k : Int) : low ((pr r).1 * k) (pr r).2 = pr (r * (Rat.divInt k 1)) := by
  show low (r.num * k) r.den = _
  have e : Rat.divInt (r.num * k) (r.den : Int) = Rat.divInt r.num r.den * Rat.divInt k 1 := by rw [Rat.divInt_mul_divInt, Int.mul_one]
  rw [low_eq (den_ne r), e, Rat.num_divInt_den]
theorem pr_over (r : Rat) {k : Int} (h : k ≠ 0) : low (pr r).1 ((pr r).2 * k) = pr (r * (Rat.divInt 1 k)) := by
  show low r.num (r.den * k) = _
  have e : Rat.divInt r.num (r.den * k : Int) = Rat.divInt r.num r.den * Rat.divInt 1 k := by rw [Rat.divInt_mul_divInt, Int.mul_one]
  rw [low_eq (Int.mul_ne_zero (den_ne r) h), e, Rat.num_divInt_den]
theorem inv_k {k : Int} (h : k ≠ 0) : Rat.divInt k 1 * Rat.divInt 1 k = 1 := by
  rw [Rat.divInt_mul_divInt, Int.mul_one, Int.one_mul]
  exact Rat.divInt_self' h
theorem pr_lt (r s : Rat) : ((pr r).1 * (pr s).2 < (pr s).1 * (pr r).2) ↔ r < s := (Rat.lt_iff r s).symm
theorem pr_bot (r : Rat) : 0 < (pr r).2 := den_pos r
theorem add_back (r s : Rat) : r + s - s = r := by
  rw [Rat.sub_eq_add_neg, Rat.add_assoc, Rat.add_neg_cancel, Rat.add_zero]
theorem sub_back (r s : Rat) : r - s + s = r := by
  rw [Rat.sub_eq_add_neg, Rat.add_assoc, Rat.neg_add_cancel, Rat.add_zero]
theorem mul_back (r : Rat) {k : Int} (h : k ≠ 0) : r * Rat.divInt k 1 * Rat.divInt 1 k = r := by
  rw [Rat.mul_assoc, inv_k h, Rat.mul_one]
theorem div_back (r : Rat) {k : Int} (h : k ≠ 0) : r * Rat.divInt 1 k * Rat.divInt k 1 = r := by
  rw [Rat.mul_assoc, Rat.mul_comm (Rat.divInt 1 k), inv_k h, Rat.mul_one]
/-- small -/
def Sz (n : Nat) (r : Rat) : Prop := r.num.natAbs < 2 ^ n ∧ r.den < 2 ^ n
theorem Sz.mono {n m : Nat} {r : Rat} (h : Sz n r) (hm : n ≤ m) : Sz m r := ⟨Nat.lt_of_lt_of_le h.1 (Nat.pow_le_pow_right (by decide) hm), Nat.lt_of_lt_of_le h.2 (Nat.pow_le_pow_right (by decide) hm)⟩
theorem sz_of_low {t b : Int} {n : Nat} (hb : b ≠ 0) (h1 : t.natAbs < 2 ^ n) (h2 : b.natAbs < 2 ^ n) : Sz n (Rat.divInt t b) := by
  have e := low_eq (t := t) hb
  have e1 : (low t b).1 = (Rat.divInt t b).num := congrArg Prod.fst e
  have e2 : (low t b).2 = ((Rat.divInt t b).den : Int) := congrArg Prod.snd e
  have l1 := low_top_le (t := t) hb
  have l2 := low_bot_le (t := t) hb
  constructor
  · rw [← e1]; omega
  · have : ((low t b).2).natAbs < 2 ^ n := by omega
    rw [e2] at this
    simpa using this
theorem two_lt {x y n m : Nat} (h1 : x < 2 ^ n) (h2 : y < 2 ^ m) : x * y < 2 ^ (n + m) := by
  rw [Nat.pow_add]
  exact Nat.mul_lt_mul'' h1 h2
theorem sz_sum {a b c d : Int} {n m : Nat} (h1 : a.natAbs < 2 ^ n) (h2 : d.natAbs < 2 ^ m) (h3 : c.natAbs < 2 ^ m) (h4 : b.natAbs < 2 ^ n) : (a * d + c * b).natAbs < 2 ^ (n + m + 1) ∧ (a * d - c * b).natAbs < 2 ^ (n + m + 1) := by
  have e1 : (a * d).natAbs < 2 ^ (n + m) := by rw [Int.natAbs_mul]; exact two_lt h1 h2
  have e2 : (c * b).natAbs < 2 ^ (n + m) := by rw [Int.natAbs_mul, Nat.add_comm]; exact two_lt h3 h4
  have e3 : 2 ^ (n + m + 1) = 2 * 2 ^ (n + m) := by rw [Nat.pow_succ, Nat.mul_comm]
  omega
theorem sz_plus {n m : Nat} {r s : Rat} (hr : Sz n r) (hs : Sz m s) : Sz (n + m + 1) (r + s) ∧ Sz (n + m + 1) (r - s) := by
  have d1 : ((r.den : Int)).natAbs < 2 ^ n := by simpa using hr.2
  have d2 : ((s.den : Int)).natAbs < 2 ^ m := by simpa using hs.2
  have hd : ((r.den : Int) * s.den).natAbs < 2 ^ (n + m + 1) := by
    have : ((r.den : Int) * s.den).natAbs < 2 ^ (n + m) := by rw [Int.natAbs_mul]; exact two_lt d1 d2
    exact Nat.lt_of_lt_of_le this (Nat.pow_le_pow_right (by decide) (by omega))
  have hn := sz_sum hr.1 d2 hs.1 d1
  have ne := Int.mul_ne_zero (den_ne r) (den_ne s)
  constructor
  · have := sz_of_low ne hn.1 hd
    rw [← Rat.divInt_add_divInt _ _ (den_ne r) (den_ne s), Rat.num_divInt_den, Rat.num_divInt_den] at this
    exact this
  · have := sz_of_low ne hn.2 hd
    rw [← Rat.divInt_sub_divInt _ _ (den_ne r) (den_ne s), Rat.num_divInt_den, Rat.num_divInt_den] at this
    exact this
theorem sz_times {n m : Nat} {r : Rat} {k : Int} (hr : Sz n r) (hk : k.natAbs < 2 ^ m) : Sz (n + m) (r * Rat.divInt k 1) := by
  have e : r * Rat.divInt k 1 = Rat.divInt (r.num * k) r.den := by
    have : Rat.divInt (r.num * k) (r.den : Int) = Rat.divInt r.num r.den * Rat.divInt k 1 := by rw [Rat.divInt_mul_divInt, Int.mul_one]
    rw [this, Rat.num_divInt_den]
  rw [e]
  refine sz_of_low (den_ne r) (by rw [Int.natAbs_mul]; exact two_lt hr.1 hk) ?_
  have d1 : ((r.den : Int)).natAbs < 2 ^ n := by simpa using hr.2
  exact Nat.lt_of_lt_of_le d1 (Nat.pow_le_pow_right (by decide) (by omega))
theorem sz_over {n m : Nat} {r : Rat} {k : Int} (hr : Sz n r) (h : k ≠ 0) (hk : k.natAbs < 2 ^ m) : Sz (n + m) (r * Rat.divInt 1 k) := by
  have e : r * Rat.divInt 1 k = Rat.divInt r.num (r.den * k) := by
    have : Rat.divInt r.num (r.den * k : Int) = Rat.divInt r.num r.den * Rat.divInt 1 k := by rw [Rat.divInt_mul_divInt, Int.mul_one]
    rw [this, Rat.num_divInt_den]
  rw [e]
  have d1 : ((r.den : Int)).natAbs < 2 ^ n := by simpa using hr.2
  refine sz_of_low (Int.mul_ne_zero (den_ne r) h) (Nat.lt_of_lt_of_le hr.1 (Nat.pow_le_pow_right (by decide) (by omega))) ?_
  rw [Int.natAbs_mul]
  exact two_lt d1 hk
end KM
set_option linter.all false
set_option Elab.async false
set_option maxRecDepth 100000
/-! TX: the texts of whole numbers and of fractions, sign by sign. -/
namespace TX
open PySem SX TL NumText
/-- the signs of a whole number -/
def intL (i : Int) : List Nat := if i < 0 then 45 :: numL i.natAbs else numL i.natAbs
theorem tl_int (i : Int) : Str.ofString (toString i) = S (intL i) := by
  by_cases h : i < 0
  · obtain ⟨n, rfl⟩ : ∃ n : Nat, i = -((n + 1 : Nat) : Int) := ⟨i.natAbs - 1, by omega⟩
    have e : toString (-((n + 1 : Nat) : Int)) = "-" ++ toString ((n + 1 : Nat) : Int) := by rfl
    unfold intL
    rw [if_pos h, e]
    have e2 : (-((n + 1 : Nat) : Int)).natAbs = n + 1 := by omega
    rw [e2]
    refine TL.ext_tl ?_
    have e3 : (Str.ofString (toString ((n + 1 : Nat) : Int))).cps.toList = numL (n + 1) := tl_num (n + 1)
    show (Str.ofString ("-" ++ toString ((n + 1 : Nat) : Int))).cps.toList = 45 :: numL (n + 1)
    rw [← e3]
    rw [Str.ofString_eq_toList, Str.ofString_eq_toList, String.toList_append]
    rfl
  · obtain ⟨n, rfl⟩ := Int.eq_ofNat_of_zero_le (by omega : 0 ≤ i)
    unfold intL
    rw [if_neg h]
    exact num_S n
theorem no_minus (n : Nat) : 45 ∉ numL n := numL_free (.inl (by decide))
theorem no_stroke_int (i : Int) : 47 ∉ intL i := by
  unfold intL
  split
  · intro h
    rcases List.mem_cons.mp h with z | z
    · cases z
    · exact numL_free (.inl (by decide)) z
  · exact numL_free (.inl (by decide))
theorem minus_S : (Str.ofString "-") = S [45] := by decide +kernel
theorem stroke_S : (Str.ofString "/") = S [47] := by decide +kernel
theorem one_S : (Str.ofString "1") = S [49] := by decide +kernel
theorem zero_S : (Str.ofString "0") = S [48] := by decide +kernel
theorem empty_S : (Str.ofString "") = S [] := by decide +kernel
theorem rp_cons (l : List Nat) : Txt.removeprefix (S (45 :: l)) (S [45]) = S l := by
  rw [StrLaws.removeprefix_eq, StrLaws.subAt_eq]
  have h1 : (decide (0 + (S [45]).length ≤ (S (45 :: l)).length)) = true := by
    rw [S_len, S_len]
    simp
  rw [h1]
  have h2 : (((S (45 :: l)).cps.toList.drop 0).take (S [45]).length == (S [45]).cps.toList) = true := by
    rw [S_len]
    simp
  rw [h2]
  simp only [Bool.and_self, if_true]
  rw [S_len, S_len]
  simp
theorem rp_other {c : Nat} {l : List Nat} (h : c ≠ 45) : Txt.removeprefix (S (c :: l)) (S [45]) = S (c :: l) := by
  rw [StrLaws.removeprefix_eq, StrLaws.subAt_eq]
  have h2 : (((S (c :: l)).cps.toList.drop 0).take (S [45]).length == (S [45]).cps.toList) = false := by
    rw [S_len]
    simp [h]
  rw [h2, Bool.and_false]
  simp
theorem rp_int (i : Int) : Txt.removeprefix (S (intL i)) (S [45]) = S (numL i.natAbs) := by
  unfold intL
  split
  · exact rp_cons _
  · have hne := numL_ne i.natAbs
    have hno := no_minus i.natAbs
    cases hl : numL i.natAbs with
    | nil => exact absurd hl hne
    | cons c l =>
      rw [hl] at hno
      exact rp_other fun z => hno (by rw [z]; exact List.mem_cons_self ..)
theorem intL_len {i : Int} {k : Nat} (hk : 0 < k) (h : i.natAbs < 10 ^ k) : (intL i).length ≤ k + 1 := by
  have := numL_len hk h
  unfold intL
  split
  · rw [List.length_cons]; omega
  · omega
theorem int_int {i : Int} (h : (intL i).length ≤ 4300) : intText? (S (intL i)) = some i := by
  unfold intL at h ⊢
  split
  · rename_i hi
    have e := intText_neg (x := S (45 :: numL i.natAbs)) (cs := numL i.natAbs) rfl (numL_digits _) (numL_ne _) (by rw [S_len]; rw [if_pos hi] at h; exact h)
    rw [e, numL_val]
    congr 1
    omega
  · rename_i hi
    have e := intText_digits (x := S (numL i.natAbs)) (numL_digits _) (numL_ne _) (by rw [S_len]; rw [if_neg hi] at h; exact h)
    rw [e]
    show some ((digitsVal (numL i.natAbs) : Nat) : Int) = some i
    rw [numL_val]
    congr 1
    omega
/-- the text of a fraction -/
def txL (r : Rat) : List Nat := if r.den = 1 then intL r.num else intL r.num ++ (47 :: numL r.den)
theorem numL_head : ∀ n : Nat, 0 < n → ∃ c l, numL n = c :: l ∧ c ≠ 48 := by
  intro n
  induction n using Nat.strongRecOn with
  | _ n ih =>
    intro hn
    by_cases h : n < 10
    · rw [numL_lt h]
      exact ⟨48 + n, [], rfl, by omega⟩
    · rw [numL_step (by omega)]
      obtain ⟨c, l, e, hc⟩ := ih (n / 10) (by omega) (by omega)
      exact ⟨c, l ++ [48 + n % 10], by rw [e]; rfl, hc⟩
theorem numL_zero : numL 0 = [48] := numL_lt (by decide)
theorem part_one (i : Int) : Txt.partition (S (intL i)) (S [47]) = (S (intL i), S [], S []) := partition_none (by simp) (par_head_none (no_stroke_int i))
theorem part_two (i : Int) (l : List Nat) : Txt.partition (S (intL i ++ (47 :: l))) (S [47]) = (S (intL i), S [47], S l) := partition_some (by simp) (par_head (sep := []) l (no_stroke_int i))
theorem numL_pow {n k : Nat} (h : n < 2 ^ k) (hk : 0 < k) : (numL n).length ≤ k := numL_len hk (Nat.lt_of_lt_of_le h (Nat.pow_le_pow_left (by decide) k))
theorem intL_pow {i : Int} {k : Nat} (h : i.natAbs < 2 ^ k) (hk : 0 < k) : (intL i).length ≤ k + 1 := intL_len hk (Nat.lt_of_lt_of_le h (Nat.pow_le_pow_left (by decide) k))
theorem txL_len {r : Rat} {k : Nat} (h : KM.Sz k r) (hk : 0 < k) : (txL r).length ≤ 2 * k + 2 := by
  have h1 := intL_pow h.1 hk
  have h2 := numL_pow h.2 hk
  unfold txL
  split
  · omega
  · rw [List.length_append, List.length_cons]; omega
end TX
set_option Elab.async false
set_option linter.all false
set_option maxRecDepth 100000
set_option maxHeartbeats 4000000
namespace K90
open PySem PySem.Spec PyProof.Rows L2
open C8 (Cal Mak Met pe_c pe_mk pe_mt pe_mt0)
/-! ### texts -/
theorem emp (x : Str) : Str.empty ++ x = x := by
  have e : x = SX.S x.cps.toList := rfl
  rw [e]
  exact SX.S_cat [] _
def rpq (q : Int × Int) : Str := Str.ofString "Share(" ++ Str.ofString (toString q.1) ++ Str.ofString ", " ++ Str.ofString (toString q.2) ++ Str.ofString ")"
/-- a number of no more than a hundred and sixty figures of two -/
def Sm (i : Int) : Prop := i.natAbs < 2 ^ 200
theorem Sm.log {i : Int} (h : Sm i) : i.natAbs.log2 < 1920 := Nat.lt_of_lt_of_le (PySem.Flt.log2_lt_of (by decide) h) (by decide)
theorem Sm.len {i : Int} (h : Sm i) : (Str.ofString (toString i)).length ≤ 201 := by
  rw [TX.tl_int, SX.S_len]
  exact TX.intL_pow h (by decide)
theorem len_cat (a b : Str) : (a ++ b).length = a.length + b.length := PySem.strLen_append a b
theorem l_sh : (Str.ofString "Share(").length = 6 := rfl
theorem l_cm : (Str.ofString ", ").length = 2 := rfl
theorem l_cl : (Str.ofString ")").length = 1 := rfl
theorem l_st : (Str.ofString "/").length = 1 := rfl
theorem big {n : Nat} (h : n ≤ 2000) : n ≤ sizeLine := Nat.le_trans h (by decide)
section
variable {P : Program} {w : World} {K : PySem.W.Frag} {mg : Str → Option Value} {base : Heap} {f C : Addr} {fd : FuncData}
def spTx (C : Addr) (g : Int × Int → Str) : Sp := fun vs H Q _ => ∃ (p : Addr) (q : Int × Int), vs = [.ref p] ∧ Sh C H p q ∧ Sm q.1 ∧ Sm q.2 ∧ Q (.str (g q)) H
theorem ok_repr (F : Dn K d_Share_repr f fd) (T : Cl K mg C) : FnOk P w K mg base CX0 1 f fd ["self"] (spTx C rpq) := by
  refine F.ok sc_Share_repr (fun vs H Q E h => ?_) (fun cdv A outer s H vs Q E hr h => ?_)
  · obtain ⟨p, q, rfl, _⟩ := h
    rfl
  · obtain ⟨p, q, rfl, ⟨dp, hp⟩, s1, s2, hQ⟩ := h
    refine ⟨_, PSs.nox (pss_one (ps_ret (pe_joined (.cons pe_str (.cons (pe_fmt (pe_fld (pv 0) rfl)) (.cons pe_str (.cons (pe_fmt (pe_fld (pv 0) rfl)) (.cons pe_str .nil)))))))), ?_⟩
    have k1 := s1.len
    have k2 := s2.len
    refine ⟨_, rfl, ?_, _, rfl, p, C, dp, _, _, rfl, hp, T.cl, T.nt, shF_top _, .inr ⟨_, rfl, s1.log, _, rfl, ?_, _, rfl, ?_, _, rfl, p, C, dp, _, _, rfl, hp, T.cl, T.nb, shF_bot _, .inr ⟨_, rfl, s2.log, _, rfl, ?_, _, rfl, ?_, ?_⟩⟩⟩
    · decide
    · show (Str.empty ++ Str.ofString "Share(" ++ Str.ofString (toString q.1)).length ≤ sizeLine
      rw [emp, len_cat, l_sh]
      exact big (by omega)
    · show (Str.empty ++ Str.ofString "Share(" ++ Str.ofString (toString q.1) ++ Str.ofString ", ").length ≤ sizeLine
      rw [emp, len_cat, len_cat, l_sh, l_cm]
      exact big (by omega)
    · show (Str.empty ++ Str.ofString "Share(" ++ Str.ofString (toString q.1) ++ Str.ofString ", " ++ Str.ofString (toString q.2)).length ≤ sizeLine
      rw [emp, len_cat, len_cat, len_cat, l_sh, l_cm]
      exact big (by omega)
    · show (Str.empty ++ Str.ofString "Share(" ++ Str.ofString (toString q.1) ++ Str.ofString ", " ++ Str.ofString (toString q.2) ++ Str.ofString ")").length ≤ sizeLine
      rw [emp, len_cat, len_cat, len_cat, len_cat, l_sh, l_cm, l_cl]
      exact big (by omega)
    · show Q (.str (Str.empty ++ Str.ofString "Share(" ++ Str.ofString (toString q.1) ++ Str.ofString ", " ++ Str.ofString (toString q.2) ++ Str.ofString ")")) H
      rw [emp]
      exact hQ
end
end K90
set_option Elab.async false
set_option linter.all false
set_option maxRecDepth 100000
set_option maxHeartbeats 4000000
/-! NM: the names that a law draws: words by a base, a place, a spot and a way. -/
namespace NM
open PySem PySem.Spec
def ok (l : List Nat) : Prop := 1 ≤ l.length ∧ l.length ≤ 8 ∧ ∀ c ∈ l, 97 ≤ c ∧ c ≤ 122
def words : List (List Nat) := [[108, 97, 116, 101], [105, 110], [111, 117, 116], [114, 105, 100, 101], [104, 97, 110, 100], [108, 97, 99, 107], [121, 101, 115], [110, 111], [110, 97, 109, 101, 115], [103, 111, 110, 101], [116, 101, 120, 116], [112, 108, 97, 110], [117, 110, 100, 111], [117, 115, 117, 97, 108], [98, 97, 99, 107], [108, 101, 97, 118, 101]]
def lets : List Nat := (List.range 26).map (97 + ·)
def w0 (bs : List Nat) (at_ spot k : Nat) : List Nat := bs.take at_ ++ [97 + (spot + 5 * k) % 26] ++ bs.drop (at_ + 1)
def w1 (bs : List Nat) (at_ spot k : Nat) : List Nat := (w0 bs at_ spot k).take (bs.length - k % (bs.length - at_))
def w2 (spot k : Nat) : List Nat := (List.replicate 8 (97 + (spot + k / 8) % 26)).take (k % 8 + 1)
def w3 (spot k : Nat) : List Nat := words.getD ((spot + k) % 16) []
def word (bs : List Nat) (at_ spot way k : Nat) : List Nat := if way = 1 then w1 bs at_ spot k else if way = 2 then w2 spot k else if way = 3 then w3 spot k else w0 bs at_ spot k
theorem words_ok : ∀ i, i < 16 → ok (words.getD i []) := by
  have : ∀ i : Fin 16, 1 ≤ (words.getD i.1 []).length ∧ (words.getD i.1 []).length ≤ 8 ∧ (words.getD i.1 []).all (fun c => decide (97 ≤ c ∧ c ≤ 122)) = true := by decide +kernel
  intro i hi
  obtain ⟨h1, h2, h3⟩ := this ⟨i, hi⟩
  refine ⟨h1, h2, fun c hc => ?_⟩
  have := List.all_eq_true.mp h3 c hc
  exact of_decide_eq_true this
theorem words_inj : ∀ i j, i < 16 → j < 16 → words.getD i [] = words.getD j [] → i = j := by
  have : ∀ i j : Fin 16, words.getD i.1 [] = words.getD j.1 [] → i = j := by decide +kernel
  intro i j hi hj e
  exact congrArg Fin.val (this ⟨i, hi⟩ ⟨j, hj⟩ e)
section
variable {bs : List Nat} {at_ spot k : Nat}
theorem w0_len (h : at_ < bs.length) : (w0 bs at_ spot k).length = bs.length := by
  unfold w0
  simp only [List.length_append, List.length_take, List.length_drop, List.length_cons, List.length_nil]
  omega
theorem w0_at (h : at_ < bs.length) : (w0 bs at_ spot k)[at_]? = some (97 + (spot + 5 * k) % 26) := by
  unfold w0
  rw [List.append_assoc, List.getElem?_append_right (by rw [List.length_take]; omega), List.length_take, Nat.min_eq_left (by omega), Nat.sub_self]
  rfl
theorem w0_mem (hb : ∀ c ∈ bs, 97 ≤ c ∧ c ≤ 122) : ∀ c ∈ w0 bs at_ spot k, 97 ≤ c ∧ c ≤ 122 := by
  intro c hc
  unfold w0 at hc
  rcases List.mem_append.mp hc with hc | hc
  · rcases List.mem_append.mp hc with hc | hc
    · exact hb c (List.mem_of_mem_take hc)
    · rw [List.mem_singleton] at hc
      omega
  · exact hb c (List.mem_of_mem_drop hc)
theorem w1_len (h : at_ < bs.length) : at_ + 1 ≤ (w1 bs at_ spot k).length ∧ (w1 bs at_ spot k).length ≤ bs.length := by
  unfold w1
  rw [List.length_take, w0_len h]
  have := Nat.mod_lt k (show 0 < bs.length - at_ by omega)
  omega
theorem w1_at (h : at_ < bs.length) : (w1 bs at_ spot k)[at_]? = some (97 + (spot + 5 * k) % 26) := by
  have h1 := (w1_len (spot := spot) (k := k) h).1
  unfold w1 at h1 ⊢
  rw [List.length_take, w0_len h] at h1
  rw [List.getElem?_take_of_lt (by omega)]
  exact w0_at h
theorem spot_inj {i j : Nat} (hi : i < 16) (hj : j < 16) (e : 97 + (spot + 5 * i) % 26 = 97 + (spot + 5 * j) % 26) : i = j := by omega
theorem word_ok (hb0 : 1 ≤ bs.length) (hb8 : bs.length ≤ 8) (hb : ∀ c ∈ bs, 97 ≤ c ∧ c ≤ 122) (h : at_ < bs.length) (way : Nat) : ok (word bs at_ spot way k) := by
  unfold word
  split
  · have := w1_len (spot := spot) (k := k) h
    exact ⟨by omega, by omega, fun c hc => w0_mem hb c (List.mem_of_mem_take hc)⟩
  split
  · unfold w2
    refine ⟨by rw [List.length_take, List.length_replicate]; omega, by rw [List.length_take, List.length_replicate]; omega, fun c hc => ?_⟩
    have := List.eq_of_mem_replicate (List.mem_of_mem_take hc)
    omega
  split
  · exact words_ok _ (Nat.mod_lt _ (by decide))
  · exact ⟨by rw [w0_len h]; exact hb0, by rw [w0_len h]; exact hb8, w0_mem hb⟩
theorem word_inj (h : at_ < bs.length) (way : Nat) {i j : Nat} (hi : i < 16) (hj : j < 16) (e : word bs at_ spot way i = word bs at_ spot way j) : i = j := by
  unfold word at e
  split at e
  · have h1 := w1_at (spot := spot) (k := i) h
    rw [e, w1_at h] at h1
    exact (spot_inj hj hi (Option.some.inj h1)).symm
  split at e
  · unfold w2 at e
    have hl := congrArg List.length e
    rw [List.length_take, List.length_take, List.length_replicate, List.length_replicate] at hl
    have h0 : ((List.replicate 8 (97 + (spot + i / 8) % 26)).take (i % 8 + 1))[0]? = ((List.replicate 8 (97 + (spot + j / 8) % 26)).take (j % 8 + 1))[0]? := by rw [e]
    rw [List.getElem?_take_of_lt (by omega), List.getElem?_take_of_lt (by omega), List.getElem?_replicate, List.getElem?_replicate, if_pos (by decide), if_pos (by decide)] at h0
    have := Option.some.inj h0
    omega
  split at e
  · have := words_inj _ _ (Nat.mod_lt _ (by decide)) (Nat.mod_lt _ (by decide)) e
    omega
  · have h1 := w0_at (spot := spot) (k := i) h
    rw [e, w0_at h] at h1
    exact (spot_inj hj hi (Option.some.inj h1)).symm
/-- as many as are asked: unlike ones -/
theorem all_unlike (h : at_ < bs.length) (way n : Nat) (hn : n ≤ 16) : ((List.range n).map (word bs at_ spot way)).Pairwise (· ≠ ·) := by
  rw [List.pairwise_map]
  refine (List.pairwise_lt_range (n := n)).imp_of_mem fun {a b} ha hb hlt e => ?_
  have := word_inj h way (by have := List.mem_range.mp ha; omega) (by have := List.mem_range.mp hb; omega) e
  omega
end
end NM
set_option Elab.async false
set_option linter.all false
set_option maxRecDepth 100000
set_option maxHeartbeats 4000000
/-! NH: the names that a law with a held dict draws. -/
namespace NH
open PySem PySem.Spec
def word (bs : List Nat) (at_ begin_ step lot k : Nat) : List Nat := bs.take at_ ++ [97 + (begin_ + step * k) % 26] ++ (bs.drop at_).take (if lot = 0 then 8 else k % (bs.length - at_ + 1))
def steps : List Nat := [1, 3, 5, 7, 9, 11, 15, 17]
section
variable {bs : List Nat} {at_ begin_ step lot k : Nat}
theorem word_at (h : at_ ≤ bs.length) : (word bs at_ begin_ step lot k)[at_]? = some (97 + (begin_ + step * k) % 26) := by
  unfold word
  rw [List.append_assoc, List.getElem?_append_right (by rw [List.length_take]; omega), List.length_take, Nat.min_eq_left h, Nat.sub_self]
  rfl
theorem step_inj {i j : Nat} (hs : step ∈ steps) (hi : i < 13) (hj : j < 13) (e : 97 + (begin_ + step * i) % 26 = 97 + (begin_ + step * j) % 26) : i = j := by
  simp only [steps, List.mem_cons, List.not_mem_nil, or_false] at hs
  rcases hs with rfl | rfl | rfl | rfl | rfl | rfl | rfl | rfl <;> omega
theorem word_inj (h : at_ ≤ bs.length) (hs : step ∈ steps) {i j : Nat} (hi : i < 13) (hj : j < 13) (e : word bs at_ begin_ step lot i = word bs at_ begin_ step lot j) : i = j := by
  have h1 := word_at (begin_ := begin_) (step := step) (lot := lot) (k := i) h
  rw [e, word_at h] at h1
  exact (step_inj hs hj hi (Option.some.inj h1)).symm
theorem word_ok (h8 : bs.length ≤ 7) (hb : ∀ c ∈ bs, 97 ≤ c ∧ c ≤ 122) (h : at_ ≤ bs.length) : NM.ok (word bs at_ begin_ step lot k) := by
  unfold word
  refine ⟨?_, ?_, fun c hc => ?_⟩
  · simp only [List.length_append, List.length_take, List.length_drop, List.length_cons, List.length_nil]
    omega
  · simp only [List.length_append, List.length_take, List.length_drop, List.length_cons, List.length_nil]
    omega
  · rcases List.mem_append.mp hc with hc | hc
    · rcases List.mem_append.mp hc with hc | hc
      · exact hb c (List.mem_of_mem_take hc)
      · rw [List.mem_singleton] at hc
        omega
    · exact hb c (List.mem_of_mem_drop (List.mem_of_mem_take hc))
theorem all_unlike (h : at_ ≤ bs.length) (hs : step ∈ steps) (n : Nat) (hn : n ≤ 13) : ((List.range n).map (word bs at_ begin_ step lot)).Pairwise (· ≠ ·) := by
  rw [List.pairwise_map]
  refine (List.pairwise_lt_range (n := n)).imp_of_mem fun {a b} ha hb hlt e => ?_
  have := word_inj h hs (by have := List.mem_range.mp ha; omega) (by have := List.mem_range.mp hb; omega) e
  omega
end
end NH
set_option Elab.async false
set_option linter.all false
set_option maxRecDepth 100000
set_option maxHeartbeats 4000000
namespace K90
open PySem PySem.Spec PyProof.Rows L2
open C8 (Cal Mak Met pe_c pe_mk pe_mt pe_mt0)
open SX (S)
theorem lets_S : (Str.ofString "abcdefghijklmnopqrstuvwxyz").cps.toList = NM.lets := by decide +kernel
theorem at_lets {x : Int} {j : Nat} (e : x = (j : Int)) (hj : j < 26) : atI (Str.ofString "abcdefghijklmnopqrstuvwxyz").cps.toList x = some (97 + j) := by
  rw [e, lets_S]
  refine atI_nat ?_
  unfold NM.lets
  rw [List.getElem?_map, List.getElem?_range hj]
  rfl
theorem cut_t {l : List Nat} {x : Int} {j : Nat} (e : x = (j : Int)) (h : j ≤ l.length) : cutS (S l) none (some x) = S (l.take j) := by
  rw [e]
  unfold cutS
  rw [HT.sIx_nat, HT.sIx_none, SX.S_len, Nat.min_eq_left h]
  simp [S]
theorem cut_m {l : List Nat} {x y : Int} {j m : Nat} (e : x = (j : Int)) (e2 : y = ((j + m : Nat) : Int)) (h : j ≤ l.length) : cutS (S l) (some x) (some y) = S ((l.drop j).take m) := by
  rw [e, e2]
  unfold cutS
  rw [HT.sIx_nat, HT.sIx_nat, SX.S_len, Nat.min_eq_left h]
  have e3 : (l.drop j).take (min (j + m) l.length - j) = (l.drop j).take m := by
    by_cases c : j + m ≤ l.length
    · rw [Nat.min_eq_left c, Nat.add_sub_cancel_left]
    · rw [Nat.min_eq_right (by omega), List.take_of_length_le (Nat.le_of_eq (List.length_drop ..)), List.take_of_length_le (by rw [List.length_drop]; omega)]
  simp [S, e3]
theorem ones : ∀ bs : List Nat, ((bs.map fun c => S [c]).map (·.length)).sum = bs.length
  | [] => rfl
  | b :: bs => by
    rw [List.map_cons, List.map_cons, List.sum_cons, ones bs, List.length_cons, SX.S_len]
    simp
    omega
theorem joined : ∀ bs : List Nat, TL.joinL [] (bs.map fun c => [c]) = bs
  | [] => rfl
  | [b] => rfl
  | b :: d :: bs => by
    have := joined (d :: bs)
    simp only [List.map_cons, TL.joinL] at this ⊢
    simp [this]
theorem Held.ne_new {H : Hp} {h u : Addr} {c : Nat} (x : Held H h c) (e : H u = none) : u ≠ h := by
  obtain ⟨l, ns, n, m, h1, _⟩ := x
  exact (ne_of_none h1 e).symm
/-- the held dict's cells aren't at D -/
def Cel (h D : Addr) (H : Hp) : Prop := ∃ la n m, H h = some (.dK (hd0 la n m)) ∧ la ≠ D ∧ h ≠ D
theorem Cel.kp {h D : Addr} {H H' : Hp} (x : Cel h D H) (k : Kp h H H') : Cel h D H' := by
  obtain ⟨la, n, m, e, n1, n2⟩ := x
  obtain ⟨n', m', e'⟩ := k.2 _ _ _ e
  exact ⟨la, n', m', e', n1, n2⟩
theorem Cel.of {h D : Addr} {H : Hp} {c : Nat} (x : Held H h c) (f : H D = none) : Cel h D H := by
  obtain ⟨la, ns, n, m, e1, e2, _⟩ := x
  exact ⟨la, n, m, e1, ne_of_none e2 f, ne_of_none e1 f⟩
theorem Cel.ne {h D : Addr} {H : Hp} (x : Cel h D H) : D ≠ h := by
  obtain ⟨_, _, _, _, _, n⟩ := x
  exact n.symm
theorem Held.put {h D : Addr} {H : Hp} {o : HO} {c : Nat} (x : Held H h c) (y : Cel h D H) : Held (upd H D o) h c := by
  obtain ⟨la, ns, n, m, e1, e2, e3⟩ := x
  obtain ⟨la', n', m', e', n1, n2⟩ := y
  cases hd_inj (Option.some.inj (e1.symm.trans e'))
  exact ⟨la, ns, n, m, by rw [upd_ne n2]; exact e1, by rw [upd_ne n1]; exact e2, e3⟩
theorem Cel.put {h D D' : Addr} {H : Hp} {o : HO} (x : Cel h D H) (n : h ≠ D') : Cel h D (upd H D' o) := by
  obtain ⟨la', n', m', e', n1, n2⟩ := x
  exact ⟨la', n', m', by rw [upd_ne n]; exact e', n1, n2⟩
theorem Kp.new {h st : Addr} {H1 H2 : Hp} {o : HO} (k : Kp h H1 H2) (f : H1 st = none) : Kp h H1 (upd H2 st o) :=
  ⟨fun b u e ne => by rw [upd_ne (ne_of_none e f)]; exact k.1 b u e ne, fun l n m e => by
    obtain ⟨n', m', e'⟩ := k.2 l n m e
    exact ⟨n', m', by rw [upd_ne (ne_of_none e f)]; exact e'⟩⟩
theorem pick {α : Type} (g : α → V) {L : List α} {i : Int} (i0 : 0 ≤ i) (i1 : i < (L.length : Int)) : ∃ x ∈ L, atI (L.map g) i = some (g x) := by
  obtain ⟨j, rfl⟩ := Int.eq_ofNat_of_zero_le i0
  have hj : j < L.length := by omega
  exact ⟨L[j], List.getElem_mem hj, atI_nat (j := j) (by rw [List.getElem?_map, List.getElem?_eq_getElem hj]; rfl)⟩
section
variable {P : Program} {w : World} {K : PySem.W.Frag} {mg : Str → Option Value} {base : Heap} {f C : Addr} {fd : FuncData}
def spNames : Sp := fun vs H Q _ => ∃ (h : Addr) (c n : Nat), vs = [.ref h, .int n] ∧ Held H h (c + 40) ∧ n ≤ 13 ∧
  ∀ (o : Addr) (zs : List (List Nat)) (H' : Hp), Held H' h c → Kp h H H' → H o = none → H' o = some (.lst (zs.map fun l => V.str (S l))) → zs.length = n → (∀ z ∈ zs, NM.ok z) → zs.Pairwise (· ≠ ·) → Q (.ref o) H'
theorem ok_names (F : Dn K d_l_names f fd) (bl : Bl mg) (cD : CalD P w K mg base) : FnOk P w K mg base CX0 2 f fd ["_law_held_here", "_law_many"] spNames := by
  refine F.ok sc_l_names (fun vs H Q E h => ?_) (fun cdv A outer s H vs Q E hr h => ?_)
  · obtain ⟨p, c, n, rfl, _⟩ := h
    rfl
  · obtain ⟨p, c, n, rfl, pen, hn, hQ⟩ := h
    refine ⟨_, PSs.nox (pss_cons (ps_set (i := 2) sc_l_names.nd rfl (.inr rfl) pe_str)
      (pss_cons (ps_set (i := 3) sc_l_names.nd rfl (.inl rfl) (pe_c cD hr (by decide) rfl (pa_cons (pv 0) (pa_cons pe_int pa_nil))))
      (C8.pss_cut (ps_set (i := 5) sc_l_names.nd rfl (.inl rfl) (pe_join pe_str (pe_lc (own := [("_law_k", 4)]) (g := gName 4) (tt := tYes) rfl sc_l_names.nd (pi_range1 rfl bl.range (pa_cons (pv 3) pa_nil)) (blkOk_by (N := N_l_names) (sc := defScope s_l_names) (by decide +kernel))
          (fun _ _ _ _ _ => pg_name (i := 4) sc_l_names.nd rfl (Or.inl rfl)) (fun _ _ _ _ _ => pts_nil) (fun _ _ _ _ _ => pe_ix ix_str (pv 2) (pe_c cD hr (by decide) rfl (pa_cons (pv 0) (pa_cons pe_int pa_nil))) (fun _ _ => rfl)))))
      (pss_cons (ps_par (i := 6) (j := 7) rfl sc_l_names.nd rfl rfl (by decide) rfl rfl (pa_cons (pe_c cD hr (by decide) rfl (pa_cons (pv 0) (pa_cons (pe_op op_add (pv 3) pe_int) pa_nil))) (pa_cons (pe_c cD hr (by decide) rfl (pa_cons (pv 0) (pa_cons pe_int pa_nil))) pa_nil)) rfl)
      (pss_cons (ps_par (i := 8) (j := 9) rfl sc_l_names.nd rfl rfl (by decide) rfl rfl (pa_cons (pe_ix ix_list (pe_lst (pa_cons pe_int (pa_cons pe_int (pa_cons pe_int (pa_cons pe_int (pa_cons pe_int (pa_cons pe_int (pa_cons pe_int (pa_cons pe_int pa_nil))))))))) (pe_c cD hr (by decide) rfl (pa_cons (pv 0) (pa_cons pe_int pa_nil))) (fun _ _ => rfl)) (pa_cons (pe_c cD hr (by decide) rfl (pa_cons (pv 0) (pa_cons pe_int pa_nil))) pa_nil)) rfl)
      (pss_cons (ps_set (i := 10) sc_l_names.nd rfl (.inl rfl) (pe_lst pa_nil))
      (pss_cons (ps_for PassesOwn.never rfl (pi_range1 rfl bl.range (pa_cons (pv 1) pa_nil)) (pg_name (i := 4) sc_l_names.nd rfl (.inl rfl))
        (C8.pss_cut (ps_set (i := 11) sc_l_names.nd rfl (.inl rfl) (pe_slice sl_str (pv 5) (po_some (pv 6)) (po_some (pe_op op_add (pv 6) (pe_ix ix_list (pe_lst (pa_cons pe_int (pa_cons (pe_op op_mod (pv 4) (pe_op op_add (pe_op op_sub (pv 3) (pv 6)) pe_int)) pa_nil))) (pv 9) (fun _ _ => rfl))))))
        (pss_one (ps_expr (pe_bm PySem.F.plainAttrs_list PySem.F.slot_list_append PySem.F.type_list_append mt_append (pv 10) (pa_cons (pe_op op_add_str (pe_op op_add_str (pe_slice sl_str (pv 5) po_none (po_some (pv 6))) (pe_ix ix_str (pv 2) (pe_op op_mod (pe_op op_add (pv 7) (pe_op op_mul (pv 8) (pv 4))) pe_int) (fun _ _ => rfl))) (pv 11)) pa_nil))))))
      (pss_one (ps_ret (pv 10)))))))))), ?_⟩
    -- the size
    refine ⟨_, rfl, p, c + 39, _, rfl, pen, by decide, by decide, fun z0 H2 a2 b2 pen2 k2 => ?_⟩
    obtain ⟨sz, rfl⟩ := Int.eq_ofNat_of_zero_le a2
    have sz7 : sz ≤ 7 := by omega
    -- the base
    refine ⟨fun σ' H' => ∃ bs : List Nat, σ' = [some (.ref p), some (.int n), some (.str (Str.ofString "abcdefghijklmnopqrstuvwxyz")), some (.int (sz : Int)), none, some (.str (S bs)), none, none, none, none, none, none] ∧ bs.length = sz ∧ (∀ c ∈ bs, 97 ≤ c ∧ c ≤ 122) ∧
      Held H' p (c + 30) ∧ Kp p H H', ?_, ?_⟩
    · refine ⟨⟨_, rfl⟩, _, rfl, _, rfl, by omega, by omega, ?_⟩
      rw [Int.toNat_natCast]
      intro D hD
      have offD := Cel.of pen2 hD
      have sD := same_new (o := .lst []) hD
      refine lc_range (n := sz) (fun i H3 => ∃ bs : List Nat, bs.length = i ∧ (∀ c ∈ bs, 97 ≤ c ∧ c ≤ 122) ∧ H3 D = some (.lst (bs.map fun c => V.str (S [c]))) ∧ Held H3 p (c + 39 - i) ∧ Kp p H2 H3 ∧ Cel p D H3) ?_ ?_ ?_
      · exact ⟨[], rfl, by simp, upd_same, pen2.same sD, Kp.same sD, offD.kp (Kp.same sD)⟩
      · rintro i H3 hi ⟨bs, hbl, hbc, hd, pen3, k3, off3⟩
        refine ⟨rfl, ?_⟩
        refine ⟨_, rfl, _, rfl, p, c + 39 - (i + 1), _, rfl, pen3.weak (by omega), by decide, by decide, fun r H4 r0 r1 pen4 k4 => ?_⟩
        obtain ⟨rn, rfl⟩ := Int.eq_ofNat_of_zero_le r0
        have hd4 := k4.1 _ _ hd off3.ne
        have off4 := off3.kp k4
        refine ⟨_, _, 97 + rn, rfl, rfl, by decide +kernel, at_lets rfl (by omega), _, hd4, ?_, bs ++ [97 + rn], by simp [hbl], ?_, ?_, pen4.put off4, (k3.trans k4).new hD, ?_⟩
        · rw [List.length_map, hbl]
          exact Nat.lt_of_lt_of_le (by omega : i < 64) (by decide)
        · intro c' hc'
          rcases List.mem_append.mp hc' with hc' | hc'
          · exact hbc c' hc'
          · rw [List.mem_singleton] at hc'
            omega
        · rw [upd_same]
          simp [S]
        · exact off4.put off4.ne.symm
      · rintro H3 ⟨bs, hbl, hbc, hd, pen3, k3, off3⟩
        have ey : (bs.map fun c => V.str (S [c])) = (bs.map fun c => S [c]).map V.str := by rw [List.map_map]; rfl
        refine ⟨_, D, bs.map fun c => S [c], rfl, rfl, .inl (by rw [← ey]; exact SqL.of hd), ?_, bs, ?_, hbl, hbc, pen3.weak (by omega), k2.trans k3⟩
        · rw [ones bs, List.length_map]
          have e2 : (Str.ofString "").length = 0 := by decide +kernel
          rw [e2, hbl]
          omega
        · have e3 : Txt.join (Str.ofString "") (bs.map fun c => S [c]) = S bs := by
            have e4 : Str.ofString "" = S [] := by decide +kernel
            have e5 : (bs.map fun c => S [c]) = (bs.map fun c => [c]).map S := by rw [List.map_map]; rfl
            rw [e4, e5, SX.join_S, joined]
          rw [e3]
          rfl
    clear pen pen2 k2
    rintro σ' H3 ⟨bs, rfl, hbl, hbc, pen3, k3⟩
    refine ⟨_, rfl, _, rfl, _, _, rfl, rfl, p, c + 29, _, rfl, pen3, by omega, by omega, fun at_ H4 a4 b4 pen4 k4 => ?_⟩
    refine ⟨_, rfl, p, c + 28, _, rfl, pen4, by decide, by decide, fun bg H5 a5 b5 pen5 k5 => ⟨_, _, rfl, ?_⟩⟩
    refine ⟨by show 8 ≤ sizeLine; decide, fun u fu => ?_⟩
    have su := same_new (o := .lst [.int 1, .int 3, .int 5, .int 7, .int 9, .int 11, .int 15, .int 17]) fu
    refine ⟨_, rfl, p, c + 27, 8, rfl, pen5.same su, by decide, by decide, fun q6 H6 a6 b6 pen6 k6 => ?_⟩
    have hu6 := k6.1 u _ upd_same (pen5.ne_new fu)
    obtain ⟨st, hst, est⟩ := pick (fun n : Nat => V.int (n : Int)) (L := NH.steps) a6 (by simpa [NH.steps] using b6)
    refine ⟨u, _, _, _, rfl, rfl, SqL.of hu6, est, ?_⟩
    refine ⟨_, rfl, p, c + 26, 2, rfl, pen6, by decide, by decide, fun lot H7 a7 b7 pen7 k7 => ⟨_, _, rfl, ?_⟩⟩
    obtain ⟨at_, rfl⟩ := Int.eq_ofNat_of_zero_le a4
    obtain ⟨bg, rfl⟩ := Int.eq_ofNat_of_zero_le a5
    obtain ⟨lot, rfl⟩ := Int.eq_ofNat_of_zero_le a7
    have hat : at_ ≤ bs.length := by omega
    have k07 := ((k3.trans k4).trans k5).trans (((Kp.same su).trans k6).trans k7)
    have st17 : st ≤ 17 := by
      simp only [NH.steps, List.mem_cons, List.not_mem_nil, or_false] at hst
      omega
    clear k3 k4 k5 k6 k7 su pen3 pen4 pen5 pen6
    refine ⟨by show 0 ≤ sizeLine; decide, fun o fo => ?_⟩
    have so := same_new (o := .lst []) fo
    refine ⟨_, rfl, _, rfl, by omega, by omega, ?_⟩
    rw [Int.toNat_natCast]
    have fo0 : H o = none := by
      cases e : H o with
      | none => rfl
      | some ob =>
        by_cases z : o = p
        · rw [z] at fo
          obtain ⟨l0, ns0, n0, m0, h0, _⟩ := pen7
          rw [h0] at fo
          cases fo
        · rw [k07.1 o ob e z] at fo
          cases fo
    refine for_range (n := n) (fun i σ H8 => ∃ (v4 v11 : Option V), σ = [some (.ref p), some (.int n), some (.str (Str.ofString "abcdefghijklmnopqrstuvwxyz")), some (.int (sz : Int)), v4, some (.str (S bs)), some (.int (at_ : Int)), some (.int (bg : Int)), some (.int (st : Int)), some (.int (lot : Int)), some (.ref o), v11] ∧
        H8 o = some (.lst (((List.range i).map (NH.word bs at_ bg st lot)).map fun l => V.str (S l))) ∧ Held H8 p c ∧ Kp p H H8 ∧ Cel p o H8)
      ⟨none, none, rfl, upd_same, (pen7.same so).weak (by omega), k07.trans (Kp.same so), (Cel.of pen7 fo).kp (Kp.same so)⟩ ?_ ?_
    · rintro i σ H8 hi ⟨v4, v11, rfl, ho8, pen8, k8, off8⟩
      have len0 : (S bs).length ≤ sizeLine := by rw [SX.S_len]; exact Nat.le_trans (by omega : bs.length ≤ 8) (by decide)
      have lets_len : (Str.ofString "abcdefghijklmnopqrstuvwxyz").length ≤ sizeLine := by decide +kernel
      obtain ⟨m, hm⟩ : ∃ m : Nat, (if lot = 0 then 8 else i % (bs.length - at_ + 1)) = m := ⟨_, rfl⟩
      refine ⟨fun σ' H' => σ' = [some (.ref p), some (.int n), some (.str (Str.ofString "abcdefghijklmnopqrstuvwxyz")), some (.int (sz : Int)), some (.int (0 + (i : Int))), some (.str (S bs)), some (.int (at_ : Int)), some (.int (bg : Int)), some (.int (st : Int)), some (.int (lot : Int)), some (.ref o), some (.str (S ((bs.drop at_).take m)))] ∧ Same H8 H', ?_, ?_⟩
      · refine ⟨_, rfl, _, rfl, _, rfl, _, rfl, _, rfl, _, rfl, _, rfl, _, _, rfl, rfl, _, _, rfl, rfl, _, _, rfl, rfl, by omega, by show 2 ≤ sizeLine; decide, fun u2 fu2 => ?_⟩
        have eix : atI [V.int 8, .int ((0 + (i : Int)) % ((sz : Int) - (at_ : Int) + 1))] (lot : Int) = some (.int (m : Nat)) := by
          rcases (show lot = 0 ∨ lot = 1 by omega) with rfl | rfl
          · rw [← hm]
            rfl
          · have h1 : ((sz : Int) - (at_ : Int) + 1) = ((bs.length - at_ + 1 : Nat) : Int) := by omega
            rw [h1, Int.zero_add, ← Int.natCast_emod, ← hm]
            rfl
        refine ⟨_, rfl, u2, _, _, _, rfl, rfl, SqL.of upd_same, eix, _, _, rfl, rfl, _, rfl, _, rfl, len0, ?_⟩
        rw [cut_m (j := at_) (m := m) rfl (by omega) hat]
        exact ⟨rfl, same_new fu2⟩
      · rintro σ' H9 ⟨rfl, s9⟩
        have ho9 := s9 _ _ ho8
        have e5 : ((bg : Int) + (st : Int) * (0 + (i : Int))) % 26 = (((bg + st * i) % 26 : Nat) : Int) := by
          rw [Int.zero_add, ← Int.natCast_mul, ← Int.natCast_add]
          exact (Int.natCast_emod _ 26).symm
        refine ⟨_, rfl, Or.inl ⟨rfl, _, SqL.of ho9⟩, _, rfl, _, rfl, _, rfl, _, rfl, len0, ?_⟩
        rw [cut_t rfl hat]
        refine ⟨_, rfl, _, rfl, _, rfl, _, rfl, _, _, rfl, rfl, cb_l (by omega) (by omega), _, _, rfl, rfl, _, _, rfl, rfl, (by decide : (0 : Int) < 26), _, _, _, rfl, rfl, lets_len, at_lets e5 (Nat.mod_lt _ (by decide)), _, _, rfl, rfl, ?_, ?_⟩
        · rw [SX.S_len, List.length_take]
          exact Nat.le_trans (by show min at_ bs.length + 1 ≤ 64; omega) (by decide)
        have ec : S (bs.take at_) ++ (⟨#[97 + (bg + st * i) % 26]⟩ : Str) = S (bs.take at_ ++ [97 + (bg + st * i) % 26]) := SX.S_cat _ _
        rw [ec]
        refine ⟨_, rfl, _, _, rfl, rfl, ?_, ?_⟩
        · rw [SX.S_len, SX.S_len, List.length_append, List.length_take, List.length_take, List.length_drop]
          exact Nat.le_trans (by show min at_ bs.length + 1 + min m (bs.length - at_) ≤ 64; omega) (by decide)
        rw [SX.S_cat]
        have ew : bs.take at_ ++ [97 + (bg + st * i) % 26] ++ (bs.drop at_).take m = NH.word bs at_ bg st lot i := by rw [← hm]; rfl
        rw [ew]
        refine ⟨o, _, _, rfl, rfl, ho9, ?_, _, _, rfl, ?_, (pen8.same s9).put (off8.kp (Kp.same s9)), (k8.trans (Kp.same s9)).new fo0, (off8.kp (Kp.same s9)).put off8.ne.symm⟩
        · rw [List.length_map, List.length_map, List.length_range]
          exact Nat.lt_of_lt_of_le (by omega : i < 64) (by decide)
        · rw [upd_same, List.range_succ, List.map_append, List.map_append]
          rfl
    · rintro σ H8 ⟨v4, v11, rfl, ho8, pen8, k8, off8⟩
      refine ⟨_, rfl, hQ o _ H8 pen8 k8 fo0 ho8 (by simp) (fun z hz => ?_) (NH.all_unlike hat hst n hn)⟩
      obtain ⟨k, _, rfl⟩ := List.mem_map.mp hz
      exact NH.word_ok (by omega) hbc hat
end
end K90
set_option Elab.async false
set_option linter.all false
set_option maxRecDepth 100000
set_option maxHeartbeats 4000000
/-! OW: ==, !=, str and repr of instances of an own class by its own __eq__, __str__, __repr__. -/
namespace OW
open PySem PySem.Spec PyProof.Rows L2
/-- what is known of a special def of the class: where it stands, that it keeps its promise -/
structure Spc (P : Program) (w : World) (K : PySem.W.Frag) (mg : Str → Option Value) (base : Heap) (k : Nat) (C : Addr) (m : Str) (sp : Sp) : Prop where
  ex : ∃ (f : Addr) (fd : FuncData) (ps : List Str), PySem.W.findIn K (.ref C) m = some (some (.ref f)) ∧ PySem.W.isFn K (.ref f) = true ∧ FnOk P w K mg base CX0 k f fd ps sp ∧ Binds K fd ps []
section
variable {X : Cx} {pins : List (Addr × Obj)} {σ : L2.St} {H : Hp} {s : Shared} {Q : VK} {k : Nat} {C a b : Addr} {sp : Sp}
/-- a def called at any around with room -/
theorem run_at {f : Addr} {fd : FuncData} {ps : List Str} {A : Around} {us : List Value} {vs : List V} {E' : Value → Shared → Prop} (F : FnOk X.prog X.w X.K X.mg X.base CX0 k f fd ps sp) (hb : Binds X.K fd ps []) (hr : Room k A) (I : Inv X pins σ H s)
    (he : Env0 X.prog X.w X.K X.mg X.base A X.stack s H) (r : Vals vs us) (h : sp vs H Q E0) : wpAny (model X.prog X.w) A (call (.ref f) us) (EP X pins σ Q) E' s := by
  have hl : us.length = ps.length := by rw [← r.length]; exact F.len _ _ _ _ h
  have b := hb s us I.kIn (by rw [List.append_nil]; exact hl)
  rw [List.append_nil] at b
  refine wpAny_call (codeAny_mono (F.run A X.stack s H ⟨us, []⟩ us vs Q E0 hr he b r h) fun r s' hq => ?_)
  cases r with
  | error e => exact False.elim hq
  | ok fl =>
    cases fl with
    | ret u => exact I.after hq
    | next => exact False.elim hq
    | brk => exact False.elim hq
    | cont => exact False.elim hq
theorem same_first : PySem.W.notFirst X.K C (.ref C) = true := by
  unfold PySem.W.notFirst
  rw [beq_self_eq_true, Bool.true_or]
/-- x == y, both of the class -/
def rEqO (C : Addr) (sp : Sp) : R2 := fun x y H Q => ∃ a dx fs b dy gs, x = .ref a ∧ y = .ref b ∧ H a = some (.ins C dx fs) ∧ H b = some (.ins C dy gs) ∧ sp [x, y] H (fun v H' => ∃ z, v = .bl z ∧ Q (.bl z) H') E0
def rNeO (C : Addr) (sp : Sp) : R2 := fun x y H Q => ∃ a dx fs b dy gs, x = .ref a ∧ y = .ref b ∧ H a = some (.ins C dx fs) ∧ H b = some (.ins C dy gs) ∧ sp [x, y] H (fun v H' => ∃ z, v = .bl z ∧ Q (.bl (!z)) H') E0
theorem op_eqO (S : Spc X.prog X.w X.K X.mg X.base k C "__eq__" sp) (hr : Room k X.A) : OpR X (compareOp .Eq) (rEqO C sp) := by
  obtain ⟨f, fd, ps, h1, h2, F, hb⟩ := S.ex
  intro pins s σ H x y v u Q I rx ry h
  obtain ⟨a, dx, fs, b, dy, gs, rfl, rfl, ea, eb, q⟩ := h
  cases (show v = Value.ref a from rx)
  cases (show u = Value.ref b from ry)
  obtain ⟨mA, O, _⟩ := ins_get I.hok ea
  obtain ⟨od, J, _⟩ := O.look
  obtain ⟨mB, O', _⟩ := ins_get I.hok eb
  obtain ⟨od', J', _⟩ := O'.look
  obtain ⟨m, hF⟩ := I.fr
  show wpAny _ _ (richCompare .Eq (.ref a) (.ref b)) _ _ _
  refine PySem.W.cmp_K (op := .Eq) (tb := .ref C) hr.units0 hF I.ok.mod.kin J J'.type same_first h1 h2 ?_
  refine wpAny_mono (run_at (E' := X.xe) (vs := [.ref a, .ref b]) F hb hr I I.env0 (.cons rfl (.cons rfl .nil)) q) (fun w s' z => ?_) fun _ _ x => x
  obtain ⟨z', H', I', rz, z, rfl, qz⟩ := z
  cases (show w = Value.bool z from rz)
  exact ⟨.bl z, H', I', rfl, qz⟩
open Builtin in
theorem op_neO (S : Spc X.prog X.w X.K X.mg X.base (k + 1) C "__eq__" sp) (hn : PySem.W.findIn X.K (.ref C) "__ne__" = some (some (.builtin "object.__ne__"))) (hm : PySem.W.mroIn X.K C (.type "object") = some true) (hr : Room (k + 2) X.A) : OpR X (compareOp .NotEq) (rNeO C sp) := by
  obtain ⟨f, fd, ps, h1, h2, F, hb⟩ := S.ex
  intro pins s σ H x y v u Q I rx ry h
  obtain ⟨a, dx, fs, b, dy, gs, rfl, rfl, ea, eb, q⟩ := h
  cases (show v = Value.ref a from rx)
  cases (show u = Value.ref b from ry)
  obtain ⟨mA, O, _⟩ := ins_get I.hok ea
  obtain ⟨od, J, _⟩ := O.look
  obtain ⟨mB, O', _⟩ := ins_get I.hok eb
  obtain ⟨od', J', _⟩ := O'.look
  have KI := I.kIn
  have callEq : wpAny (model X.prog X.w) X.A.in1 (call (.ref f) [.ref a, .ref b]) (fun v s' => ∃ z, v = .bool z ∧ EP X pins σ Q (.bool (!z)) s') X.xe s := by
    refine wpAny_mono (run_at (E' := X.xe) (vs := [.ref a, .ref b]) F hb hr.in1 I I.env0.in1 (.cons rfl (.cons rfl .nil)) q) (fun w s' z => ?_) fun _ _ x => x
    obtain ⟨z', H', I', rz, z, rfl, qz⟩ := z
    exact ⟨z, rz, .bl (!z), H', I', rfl, qz⟩
  have slot := PySem.F.cmp_object.ne
  have sub : PySem.W.Looks (model X.prog X.w) s.heap (isInstance (.ref a) (.type "object")) true := J.type.andThen (PySem.W.looks_mroIn KI hm)
  have uu : X.A.in1.units < cLine := hr.in1.units0
  have body : wpAny (model X.prog X.w) X.A.in1 (Builtin.«object.__ne__» ⟨[.ref a, .ref b], []⟩) (fun fin s' => match fin with | .done f => (match f with | .ret v => EP X pins σ Q v s' ∧ ∃ z, v = .bool z | _ => False) | .again _ => False) X.xe s := by
    unfold Builtin.«object.__ne__»
    repeat (first
      | with_reducible refine wpAny_cRoomFor uu ?_
      | (refine wpAny_bind (m := callSpecialIfBound? (.ref a) (Str.ofString "__eq__") [.ref b]) (PySem.W.ifBound_K KI J h1 h2 (wpAny_mono callEq (fun r s' hr => by
          obtain ⟨z, rfl, hq⟩ := hr
          repeat (first | exact ⟨hq, _, rfl⟩ | exact wpAny_pure ⟨hq, _, rfl⟩ | (refine wpAny_bind (m := truthy (.bool _)) (wpAny_truthy_bool ?_)) | wp_step)) fun _ _ e => e)))
      | wp_step)
  have callNe : wpAny (model X.prog X.w) X.A (call (.builtin "object.__ne__") [.ref a, .ref b]) (fun v s' => EP X pins σ Q v s' ∧ ∃ z, v = .bool z) X.xe s := by
    refine wpAny_call (codeAny_call_builtin slot.plain PySem.F.cmpEntry_ne (PySem.W.check_slot PySem.F.cmpKind_ne PySem.F.cmpSplit_ne sub (PySem.F.cmpArgs_ne _ _) ?_))
    refine wpAny_mono body (fun fin s' z => ?_) fun _ _ x => x
    cases fin with
    | done fl =>
      cases fl with
      | ret v => exact z
      | next => exact z.elim
      | brk => exact z.elim
      | cont => exact z.elim
    | again c => exact z.elim
  show wpAny _ _ (richCompare .NotEq (.ref a) (.ref b)) _ _ _
  unfold richCompare
  simp only [oneThing_ref]
  refine wpAny_holding (wpAny_bind (wpAny_cRoomFor hr.units0 ?_))
  rw [cmpInfo_NotEq]
  dsimp only
  refine wpAny_bind (J.type.here (wpAny_bind (J'.type.here ?_)))
  rw [show (Value.ref C != Value.ref C) = false from by simp]
  simp only [Bool.false_eq_true, if_false]
  refine wpAny_bind (wpAny_pure ?_)
  simp only [Bool.false_eq_true, if_false, tryCompare]
  have fin : wpAny (model X.prog X.w) X.A (call (.builtin "object.__ne__") ([.ref a] ++ [.ref b]) >>= fun v => pure (some v)) (fun r s' => ∃ v, r = some v ∧ EP X pins σ Q v s' ∧ ∃ z, v = .bool z) X.xe s :=
    wpAny_bind (wpAny_mono callNe (fun v s' h' => wpAny_pure ⟨v, rfl, h'⟩) fun _ _ h' => h')
  have bound : wpAny (model X.prog X.w) X.A (callSpecialIfBound? (.ref a) "__ne__" [.ref b]) (fun r s' => ∃ v, r = some v ∧ EP X pins σ Q v s' ∧ ∃ z, v = .bool z) X.xe s := by
    simp only [callSpecialIfBound?, bindSpecialIfBound?]
    refine wpAny_holding (wpAny_bind (wpAny_bind (wpAny_bind (J.type.here ((PySem.W.looks_findIn KI hn).here ?_)))))
    simp only [slot.bind]
    refine wpAny_bind (wpAny_askSetting (wpAny_ite ?_))
    split
    · exact wpAny_bind (wpAny_pure (wpAny_pure fin))
    · exact wpAny_tryCatch (wpAny_bind (wpAny_pure (wpAny_pure fin)))
  refine wpAny_bind (wpAny_bind (wpAny_mono bound (fun r s' z => ?_) fun _ _ h => h))
  obtain ⟨v, rfl, hq, z, rfl⟩ := z
  first | exact wpAny_pure (wpAny_pure hq) | exact wpAny_pure hq
/-- str(x), repr(x) -/
def rStrO (C : Addr) (sp : Sp) : List V → Hp → VK → Prop := fun xs H Q => ∃ a dx fs, xs = [.ref a] ∧ H a = some (.ins C dx fs) ∧ sp [.ref a] H (fun v H' => ∃ z, v = .str z ∧ Q (.str z) H') E0
theorem call_strO (S : Spc X.prog X.w X.K X.mg X.base k C "__str__" sp) (hr : Room (k + 2) X.A) : CallR X (.type "str") (rStrO C sp) := by
  obtain ⟨f, fd, ps, h1, h2, F, hb⟩ := S.ex
  intro pins s σ H xs us Q I r h
  obtain ⟨a, dx, fs, rfl, ea, q⟩ := h
  obtain ⟨u, rfl, ru⟩ := vals1 r
  cases (show u = Value.ref a from ru)
  obtain ⟨mA, O, _⟩ := ins_get I.hok ea
  obtain ⟨od, J, _⟩ := O.look
  refine PySem.W.kso_call hr.in1.in1.units0 I.kIn J h1 h2 ?_
  refine wpAny_mono (run_at (E' := X.xe) (vs := [.ref a]) F hb hr.in1.in1 I I.env0.in1.in1 (.cons rfl .nil) q) (fun w s' z => ?_) fun _ _ x => x
  obtain ⟨z', H', I', rz, z, rfl, qz⟩ := z
  obtain ⟨t, rfl⟩ := rz
  exact ⟨.str z, H', I', ⟨t, rfl⟩, qz⟩
theorem call_reprO (S : Spc X.prog X.w X.K X.mg X.base k C "__repr__" sp) (hr : Room (k + 1) X.A) : CallR X (.builtin "repr") (rStrO C sp) := by
  obtain ⟨f, fd, ps, h1, h2, F, hb⟩ := S.ex
  intro pins s σ H xs us Q I r h
  obtain ⟨a, dx, fs, rfl, ea, q⟩ := h
  obtain ⟨u, rfl, ru⟩ := vals1 r
  cases (show u = Value.ref a from ru)
  obtain ⟨mA, O, _⟩ := ins_get I.hok ea
  obtain ⟨od, J, _⟩ := O.look
  obtain ⟨m, hF⟩ := I.fr
  refine PySem.W.repr_K hr.in1.units0 hF I.ok.mod.kin J h1 h2 ?_
  refine wpAny_mono (run_at (E' := X.xe) (vs := [.ref a]) F hb hr.in1 I I.env0.in1 (.cons rfl .nil) q) (fun w s' z => ?_) fun _ _ x => x
  obtain ⟨z', H', I', rz, z, rfl, qz⟩ := z
  obtain ⟨t, rfl⟩ := rz
  exact ⟨.str z, H', I', ⟨t, rfl⟩, qz⟩
end
end OW
set_option Elab.async false
set_option linter.all false
set_option maxRecDepth 100000
set_option maxHeartbeats 4000000
/-! GL: promises of defs that are asked only where no repr is under way (A.guards = some []); what such a def may do more: repr of lists and tuples. -/
namespace GL
open PySem PySem.Spec PyProof.Rows L2
/-- a def's promise, where no repr is under way -/
structure FnG (P : Program) (w : World) (K : PySem.W.Frag) (mg : Str → Option Value) (base : Heap) (k : Nat) (f : Addr) (fd : FuncData) (ps : List Str) (sp : Sp) : Prop where
  len : ∀ vs H Q E, sp vs H Q E → vs.length = ps.length
  run : ∀ (A : Around) (outer : List Env) (s : Shared) (H : Hp) (args : Args) (us : List Value) (vs : List V) (Q : VK) (E : XK), A.guards = some [] → Room k A → Env0 P w K mg base A outer s H → BindsTo s fd args (ps.zip us) → Vals vs us → sp vs H Q E →
    codeAny (model P w) A (.call (.ref f) args) (CR CX0 outer P w H s Q E) s
section
variable {P : Program} {w : World} {K : PySem.W.Frag} {mg : Str → Option Value} {base : Heap} {k : Nat} {f : Addr} {fd : FuncData} {ps : List Str} {sp : Sp}
theorem FnG.of (F : FnOk P w K mg base CX0 k f fd ps sp) : FnG P w K mg base k f fd ps sp := ⟨F.len, fun A outer s H args us vs Q E _ => F.run A outer s H args us vs Q E⟩
/-- by its body -/
theorem okG {x qual : Str} {params : Arguments} {body : List Stmt} {scope : Scope} {dvs : List V} {kws : List (Str × V)} {N : List Str} (F : FunD K x qual params body scope dvs kws f fd) (S : FnScope N ps scope) (len : ∀ vs H Q E, sp vs H Q E → vs.length = ps.length)
    (hbody : ∀ (cdv : Value) (A : Around) (outer : List Env) (s : Shared) (H : Hp) (vs : List V) (Q : VK) (E : XK), A.guards = some [] → Room k (A.deeper (envOfC qual scope s.heap.objs.size f cdv)) → sp vs H Q E →
      ∃ t, PSs (cxOf CX0 P w K mg base N qual scope f cdv A outer s H E) body t ∧ t { nx := fun _ H' => Q .non H', rt := Q } (start N vs) H) : FnG P w K mg base (k + 1) f fd ps sp := by
  refine ⟨len, fun A outer s H args us vs Q E hg hr e0 hb r hsp => ?_⟩
  obtain ⟨oc, od, dV, kV, doc, pm, an, cdv, ct, osl, hfd, lk, hcd, _, _⟩ := F.ex
  subst hfd
  obtain ⟨t, ht, hq⟩ := hbody cdv A outer s H vs Q E hg (hr.deeper _) hsp
  have keep : ∀ b o, base.get? b = some o → s.heap.get? b = some o := fun b o e => (e0.bs b o e).1
  have KX : K.In s.heap := e0.mod.kin.keeps keep
  refine codeAny_call_function hr.depth (KX _ _ lk) rfl S.co S.gen rfl (PySem.W.codeRec_of KX hcd) (hb _ _ _ _ (wpAny_newFunctionEnv_cells S.kind (fun y hy => ?_) fun env he s1 x => ?_))
  · exact (S.par y.1 (List.of_mem_zip hy).1).imp id fun q => ⟨q, PySem.W.cellsFrom_some _ _ _ (.inl q)⟩
  · subst he
    refine ⟨(e0.mod.nolimit.keeps keep).keeps x.toInCall.keep, codeAny_func (wpAny_mono (ht.run [] s1 (start N vs) H _ (inv_start S hr.hd e0 (len _ _ _ _ hsp) r x) hq) (fun fl s' hs => ?_) fun e s' hs => hs)⟩
    match fl, hs with
    | .ret u, ⟨v, σ', H', J, rv, q⟩ => exact ⟨v, H', J.os, J.bare, J.base, J.hok, rv, q⟩
    | .next, ⟨σ', H', J, q⟩ => exact ⟨.non, H', J.os, J.bare, J.base, J.hok, rfl, q⟩
    | .brk, ⟨_, _, _, q⟩ => exact q.elim
    | .cont, ⟨_, _, _, q⟩ => exact q.elim
end
/-- the package of a def of this kind -/
structure CalG (P : Program) (w : World) (K : PySem.W.Frag) (mg : Str → Option Value) (base : Heap) (k : Nat) (x : Str) (sp : Sp) (dvs : List V) : Prop where
  ex : ∃ (f : Addr) (fd : FuncData) (ps : List Str) (ds : List Value), FnG P w K mg base k f fd ps sp ∧ mg x = some (.ref f) ∧ PySem.W.keepIn K (.ref f) = true ∧ Binds K fd ps ds ∧ Vals dvs ds
section
variable {X : Cx} {k j : Nat} {x : Str} {sp : Sp} {dvs : List V} {e : Expr} {es : List Expr} {t : TA} {p pos : Pos}
theorem pe_cG (c : CalG X.prog X.w X.K X.mg X.base k x sp dvs) (hgd : X.A.guards = some []) (hr : Room j X.A) (hk : k ≤ j) (hg : Gl X x) (ha : PA X (e :: es) t)
    (hdb : (x == ("__debug__" : Str)) = false := by decide) (he : starEach (e :: es) X.env = (false, eval e X.env) :: starEach es X.env := by rfl) (hpl : (backTo pos (starEach es X.env)).any (·.1) = false := by rfl) :
    PE X (.Call (.Name x p) (e :: es) [] pos) (tCall sp dvs E0 t) := by
  obtain ⟨f, fd, ps, ds, F, hm, kp, b, d⟩ := c.ex
  refine ⟨fun pins s σ H Q I h => wpAny_Call_Name_kw (ld_glob I hg hm (PySem.W.callWith_K (h₀ := X.base) I.ok.mod.kin kp (thn (ha.run pos pins s σ H _ I h) fun us s1 ⟨vs, H1, I1, r, q⟩ => ⟨I1.kIn, ?_⟩) he hpl) hdb)⟩
  have r2 := r.append d
  refine wpAny_call (codeAny_mono (F.run X.A X.stack s1 H1 ⟨us, []⟩ (us ++ ds) (vs ++ dvs) Q E0 hgd (hr.mono hk) I1.env0 (b s1 us I1.kIn (r2.length.symm.trans (F.len _ _ _ _ q))) r2 q) fun r s' hq => ?_)
  match r, hq with
  | .error _, hq => exact hq.elim
  | .ok (.ret u), hq => exact I1.after hq
  | .ok .next, hq => exact hq.elim
  | .ok .brk, hq => exact hq.elim
  | .ok .cont, hq => exact hq.elim
/-- repr of what is flat, of lists and tuples -/
def rRepr (K : PySem.W.Frag) : List V → Hp → VK → Prop := fun xs H Q => ∃ (y : V) (d : PyData), xs = [y] ∧ Dp K H y d ∧ d.showable = true ∧ d.hasDict = false ∧ d.depth ≤ 60 ∧ d.shown.length ≤ sizeLine ∧ Q (.str d.shown) H
theorem call_reprD (hgd : X.A.guards = some []) (hu : X.A.units + 64 < cLine) : CallR X (.builtin "repr") (rRepr X.K) := by
  intro pins s σ H xs us Q I r h
  obtain ⟨y, d, rfl, hd, hs, hn, hdp, hsz, q⟩ := h
  obtain ⟨u, rfl, ru⟩ := r.one
  obtain ⟨as, rd⟩ := Dp.reads I d y u hd ru
  have fin : ∀ h' tk t, (∀ b o, s.heap.get? b = some o → h'.get? b = some o) → EP X pins σ Q (.str d.shown t) { s with heap := h', toks := tk } := fun h' tk t hk => ⟨.str d.shown, H, I.kept hk, ⟨t, rfl⟩, q⟩
  cases hd with
  | non => cases ru; exact PySem.P.repr_of_none (fin s.heap _ _ fun _ _ e => e)
  | bl b => cases ru; exact PySem.P.repr_of_bool (fin s.heap _ _ fun _ _ e => e)
  | int i =>
    obtain ⟨t, rfl⟩ := ru
    exact PySem.P.repr_of_int (of_decide_eq_true hs) (fin s.heap _ _ fun _ _ e => e)
  | str z =>
    obtain ⟨t, rfl⟩ := ru
    exact PySem.P.repr_of_str (fin s.heap _ _ fun _ _ e => e) hsz
  | lst _ _ =>
    cases ru
    exact repr_of_reads' rd hs (fun z => absurd z (by rw [hn]; decide)) hgd (by omega) (fun _ _ e => e) (fun h' u tk hk => fin h' tk u hk) hsz
  | tup _ _ =>
    cases ru
    exact repr_of_reads' rd hs (fun z => absurd z (by rw [hn]; decide)) hgd (by omega) (fun _ _ e => e) (fun h' u tk hk => fin h' tk u hk) hsz
end
end GL
set_option Elab.async false
set_option linter.all false
set_option maxRecDepth 100000
set_option maxHeartbeats 4000000
/-! RPO: repr of lists, tuples and dicts that hold own instances, of any depth. -/
namespace RPO
open PySem PySem.Spec PyProof.Rows L2
open Builtin Builtin.List
/-- the guards stand on these alone -/
def Gd (g : List Code) (outs : List Addr) : Prop := ∀ id v rest kw, Code.builtin id ⟨v :: rest, kw⟩ ∈ g → ∃ a ∈ outs, v = .ref a
theorem Gd.nil : Gd [] [] := fun _ _ _ _ h => nomatch h
theorem Gd.cons {g : List Code} {outs : List Addr} {id : String} {a : Addr} {rest : List Value} {kw : List (Str × Value)} (h : Gd g outs) : Gd (.builtin id ⟨.ref a :: rest, kw⟩ :: g) (a :: outs) := by
  intro id' v rest' kw' hm
  rcases List.mem_cons.mp hm with e | hm
  · cases e
    exact ⟨a, List.mem_cons_self, rfl⟩
  · obtain ⟨b, hb, e⟩ := h _ _ _ _ hm
    exact ⟨b, List.mem_cons_of_mem _ hb, e⟩
theorem Gd.clear {g : List Code} {outs : List Addr} {a : Addr} (h : Gd g outs) (n : a ∉ outs) : Clear g a := fun id v rest kw hm e => by
  obtain ⟨b, hb, e2⟩ := h id v rest kw hm
  rw [e] at e2
  cases e2
  exact n hb
/-- all but these are as they were -/
def Ex (outs : List Addr) (H H' : Hp) : Prop := ∀ a o, H a = some o → a ∉ outs → H' a = some o
theorem Ex.refl (outs : List Addr) (H : Hp) : Ex outs H H := fun _ _ h _ => h
theorem Ex.ext {outs : List Addr} {H H1 H2 : Hp} (x : Ex outs H H1) (e : Ext H1 H2) : Ex outs H H2 := fun a o h n => e a o (x a o h n)
theorem Ex.more {outs : List Addr} {H H1 : Hp} {a : Addr} (x : Ex outs H H1) : Ex (a :: outs) H H1 := fun b o h n => x b o h fun z => n (List.mem_cons_of_mem _ z)
section
variable {X : Cx}
/-- what a thing shows as, within containers at outs -/
def RpU (X : Cx) (n : Nat) (outs : List Addr) (H0 : Hp) (v : V) (t : Str) : Prop := ∀ (A : Around) (g : List Code) (pins : List (Addr × Obj)) (s : Shared) (σ : L2.St) (H : Hp) (u : Value) (bs : Nat),
  Ex outs H0 H → Sub X n A → A.guards = some g → Gd g outs → Inv X pins σ H s → RelV v u → bs + t.length ≤ sizeLine →
  wpAny (model X.prog X.w) A (pyReprUnder bs u) (fun r s' => r = t ∧ ∃ H', Inv X pins σ H' s' ∧ Ext H H') X.xe s
theorem RpU.mono {n m : Nat} {outs : List Addr} {H0 : Hp} {v : V} {t : Str} (h : RpU X n outs H0 v t) (nm : n ≤ m) : RpU X m outs H0 v t := fun A g pins s σ H u bs x sb => h A g pins s σ H u bs x (sb.mono nm)
theorem RpU.non {n : Nat} {outs : List Addr} {H0 : Hp} : RpU X n outs H0 .non "None" := fun A g pins s σ H u bs x sb hg gd I r hb => by
  cases r
  exact ReprIs.none bs hb _ _ _ _ fun tk => ⟨rfl, H, I.tok tk, Ext.rfl'⟩
theorem RpU.bl {n : Nat} {outs : List Addr} {H0 : Hp} {b : Bool} : RpU X n outs H0 (.bl b) (if b then "True" else "False") := fun A g pins s σ H u bs x sb hg gd I r hb => by
  cases r
  exact ReprIs.bool b bs hb _ _ _ _ fun tk => ⟨rfl, H, I.tok tk, Ext.rfl'⟩
theorem RpU.int {n : Nat} {outs : List Addr} {H0 : Hp} {i : Int} (h : i.natAbs.log2 < 1920) : RpU X n outs H0 (.int i) (toString i) := fun A g pins s σ H u bs x sb hg gd I r hb => by
  obtain ⟨t, rfl⟩ := r
  exact ReprIs.int t h bs hb _ _ _ _ fun tk => ⟨rfl, H, I.tok tk, Ext.rfl'⟩
theorem RpU.str {n : Nat} {outs : List Addr} {H0 : Hp} {z : Str} : RpU X n outs H0 (.str z) (reprText z) := fun A g pins s σ H u bs x sb hg gd I r hb => by
  obtain ⟨t, rfl⟩ := r
  exact ReprIs.str z t (by omega) bs hb _ _ _ _ fun tk => ⟨rfl, H, I.tok tk, Ext.rfl'⟩
/-- an own instance, by its own __repr__ -/
theorem RpU.own {k n : Nat} {outs : List Addr} {H0 : Hp} {a C dx : Addr} {fs : List (Str × V)} {sp : Sp} {t : Str} (S : OW.Spc X.prog X.w X.K X.mg X.base k C "__repr__" sp) (ha : H0 a = some (.ins C dx fs)) (na : a ∉ outs)
    (hsp : ∀ H, H a = some (.ins C dx fs) → sp [.ref a] H (fun v H' => v = .str t ∧ Ext H H') E0) (kn : k ≤ n) : RpU X n outs H0 (.ref a) t := fun A g pins s σ H u bs x sb hg gd I r hb => by
  obtain ⟨f, fd, ps, h1, h2, F, hbi⟩ := S.ex
  cases (show u = Value.ref a from r)
  have ea := x a _ ha na
  obtain ⟨mA, O, _⟩ := ins_get I.hok ea
  obtain ⟨od, J, _⟩ := O.look
  have KI := I.kIn
  have e0 : Env0 X.prog X.w X.K X.mg X.base A X.stack s H := by
    have z := I.env0
    exact ⟨sb.fr.trans z.frames, z.mod, z.bs, z.bsz, z.funs, z.frf, z.hok, z.bare⟩
  refine wpAny_pyReprUnder_ref (by omega) ?_
  unfold pyReprObjUnder pyReprObjBy
  refine wpAny_bind (wpAny_cRoomFor sb.room.units0 ?_)
  refine wpAny_bind (wpAny_bind (J.type.here ((PySem.W.looks_findIn KI h1).here ?_)))
  show wpAny _ _ (if (some (Value.ref f)).isNone = true then _ else _) _ _ _
  rw [if_neg (by simp)]
  have called : wpAny (model X.prog X.w) A (call (.ref f) [.ref a]) (fun v s' => ∃ tk, v = .str t tk ∧ ∃ H', Inv X pins σ H' s' ∧ Ext H H') X.xe s := by
    refine wpAny_mono (OW.run_at (E' := X.xe) (vs := [.ref a]) F hbi (sb.room.mono kn) I e0 (.cons rfl .nil) (hsp H ea)) (fun w s' z => ?_) fun _ _ x => x
    obtain ⟨z', H', I', rz, z, e⟩ := z
    rw [z] at rz
    obtain ⟨tk, rfl⟩ := rz
    exact ⟨tk, rfl, H', I', e⟩
  refine wpAny_bind (m := callSpecialIfBoundBy? _ (.ref a) (Str.ofString "__repr__")) ?_
  have fin : wpAny (model X.prog X.w) A (callSpecialIfBoundBy? (fun g first => match reprUnder? g, first with | some twin, [self] => call twin [self, rawInt bs] | _, _ => call g (first ++ [])) (.ref a) (Str.ofString "__repr__"))
      (fun r s' => ∃ tk, r = some (.str t tk) ∧ ∃ H', Inv X pins σ H' s' ∧ Ext H H') X.xe s := by
    simp only [callSpecialIfBoundBy?, bindSpecialIfBound?]
    refine wpAny_holding (wpAny_bind (wpAny_bind (wpAny_bind (J.type.here ((PySem.W.looks_findIn KI h1).here ?_)))))
    refine wpAny_bind (wpAny_askSetting (wpAny_ite ?_))
    have ends : wpAny (model X.prog X.w) A (call (.ref f) ([.ref a] ++ []) >>= fun v => pure (some v)) (fun r s' => ∃ tk, r = some (.str t tk) ∧ ∃ H', Inv X pins σ H' s' ∧ Ext H H') X.xe s :=
      wpAny_bind (wpAny_mono called (fun v s' h' => wpAny_pure (by obtain ⟨tk, rfl, h⟩ := h'; exact ⟨tk, rfl, h⟩)) fun _ _ h' => h')
    split
    · exact wpAny_bind ((PySem.W.bind_fn KI _ (beq_iff_eq.mp h2)).here (wpAny_pure (by exact ends)))
    · exact wpAny_tryCatch (wpAny_bind ((PySem.W.bind_fn KI _ (beq_iff_eq.mp h2)).here (wpAny_pure (by exact ends))))
  refine wpAny_mono fin (fun r s' h' => ?_) fun _ _ x => x
  obtain ⟨tk, rfl, h⟩ := h'
  exact wpAny_bind (wpAny_isInstance (T := "str") (b := true) rfl isSubtype_str_str (wpAny_pure ⟨_, _, rfl, rfl, h⟩))
end
end RPO
set_option Elab.async false
set_option linter.all false
set_option maxRecDepth 100000
set_option maxHeartbeats 4000000
/-! RPL: the containers of RPO: lists, tuples, dicts. -/
namespace RPO
open PySem PySem.Spec PyProof.Rows L2
open Builtin Builtin.List
theorem strs_of : ∀ {ts : List Str} {us : List Value}, Vals (ts.map V.str) us → ∃ done : List (Str × Tok), us = strValues done ∧ done.map (·.1) = ts
  | [], _, .nil => ⟨[], rfl, rfl⟩
  | t :: ts, _, .cons r h => by
    obtain ⟨tk, rfl⟩ := r
    obtain ⟨done, rfl, e⟩ := strs_of h
    exact ⟨(t, tk) :: done, rfl, by simp [e]⟩
theorem sub_loop {X : Cx} {n : Nat} {A : Around} {args : Args} (h : Sub X (n + 1) A) : Sub X n (A.under (.builtin "list.__repr__.loop" args)) := by
  have hd : (A.under (.builtin "list.__repr__.loop" args)).depth ≤ A.depth + 1 := by
    first | exact Nat.le_refl _ | simp [Around.under, Code.weight, Code.isCreation, Code.isGuard, Code.isCaller, Code.frames, Code.isFrame, guardIds]
  have hu := units_under_list_loop A args
  have hf : (A.under (.builtin "list.__repr__.loop" args)).frames = A.frames := by
    have e : (Code.builtin "list.__repr__.loop" args).envs = [] := by first | rfl | simp [Code.envs, Code.isFrame]
    have e2 : (A.under (.builtin "list.__repr__.loop" args)).frames = pushEnvs (Code.envs (.builtin "list.__repr__.loop" args)) A.frames := by first | rfl | simp [Around.under]
    rw [e2, e]
    cases A.frames <;> first | rfl | simp [pushEnvs]
  obtain ⟨⟨h1, h2, h3⟩, h4⟩ := h
  exact ⟨⟨h1, by omega, by rw [hu]; omega⟩, hf.trans h4⟩
section
variable {X : Cx} {n : Nat} {outs : List Addr} {H0 : Hp} {a : Addr} {xs : List V} {ts : List Str}
theorem list_loop {A : Around} {g : List Code} {P : Addr} {bs : Nat} {pins : List (Addr × Obj)} {σ : L2.St} {Hb : Hp} {R : Result → Shared → Prop} (sb : Sub X (n + 1) A) (hg : A.guards = some g) (gd : Gd g outs) (ha : Hb a = some (.lst xs)) (hP : Hb P = none) (xe : Ex outs H0 Hb) (hlen : ts.length = xs.length)
    (hT : ∀ (i : Nat) (x : V), xs[i]? = some x → ∃ t, ts[i]? = some t ∧ RpU X n (a :: outs) H0 x t) (hsz : bs + (listText ts).length ≤ sizeLine)
    (hE : ∀ e s', X.xe e s' → R (.error e) s')
    (fin : ∀ (s' : Shared) (H' : Hp) (u : Tok), Inv X pins σ H' s' → Ext Hb H' → R (.ok (.ret (.str (listText ts) u))) s') :
    ∀ (k i : Nat) (s : Shared) (H : Hp), xs.length - i = k → i ≤ xs.length → Inv X pins σ H s → Ext Hb H → H P = some (.lst ((ts.take i).map V.str)) →
      codeAny (model X.prog X.w) A (.builtin "list.__repr__.loop" ⟨[.ref a, rawInt i, .ref P, rawInt ((bs + piled (ts.take i) : Nat) : Int)], []⟩) R s := by
  have hX : (listText ts).length = (textFrom 0 "[" ts).length + 1 := by
    show (textFrom 0 "[" ts ++ "]").length = _
    rw [strLen_append]; rfl
  have hL := textFrom_len ts 0 "["
  have each : ∀ t ∈ ts, t.length ≤ sizeLine := fun t ht => by
    have := hL.2.1 t ht
    omega
  have many : ts.length ≤ sizeLine := by
    have h1 := hL.1
    rw [if_neg (Nat.lt_irrefl 0)] at h1
    omega
  have hp3 := piled_le_listText ts
  have uu : A.in1.units < cLine := by have := sb.room.un; show A.units + 1 < cLine; omega
  intro k
  induction k with
  | zero =>
    intro i s H hk hi I eb hPi
    have hin : i = ts.length := by omega
    obtain ⟨_, its, m, rv, _, e⟩ := I.lstM (eb _ _ ha)
    obtain ⟨_, ups, c, rp, _, ep⟩ := I.lstM hPi
    have nits : its[i]? = none := by
      have := rv.length
      exact List.getElem?_eq_none (by omega)
    refine codeAny_builtin F.entry_list_repr_loop ?_
    show wpAny _ _ («list.__repr__.loop» ⟨[.ref a, .int i 0, .ref P, .int ((bs + piled (ts.take i) : Nat) : Int) 0], []⟩) _ _ s
    rw [repr_loop_tree]
    refine wpAny_bind (wpAny_listItems e rfl ?_)
    have hnone : its.toArray[((i : Int)).toNat]? = none := by simpa using nits
    simp only [hnone]
    unfold reprEnd
    refine wpAny_bind (wpAny_listItems ep rfl ?_)
    obtain ⟨done, rfl, ed⟩ := strs_of rp
    rw [show (strValues done).toArray.toList = strValues done from by simp, repr_fold]
    refine wpAny_bind (wpAny_pure ?_)
    have hall : done.map (·.1) = ts := by rw [ed, hin, List.take_length]
    rw [hall]
    refine wpAny_bind (wpAny_mkStr (wpAny_pure ?_) (by show (listText ts).length ≤ sizeLine; omega))
    exact fin _ H _ (I.tok _) eb
  | succ k ih =>
    intro i s H hk hi I eb hPi
    have hlt : i < xs.length := by omega
    obtain ⟨t, ht, hrep⟩ := hT i xs[i] (List.getElem?_eq_getElem hlt)
    obtain ⟨_, its, m, rv, lv, e⟩ := I.lstM (eb _ _ ha)
    have hlt2 : i < its.length := by omega
    have rvi : RelV xs[i] its[i] := by
      obtain ⟨u, e1, e2⟩ := rv.get (List.getElem?_eq_getElem hlt)
      rw [List.getElem?_eq_getElem hlt2] at e1
      cases e1
      exact e2
    have hp1 := piled_take_succ ht
    have hp2 := piled_take_le ts (i + 1)
    refine codeAny_builtin F.entry_list_repr_loop ?_
    show wpAny _ _ («list.__repr__.loop» ⟨[.ref a, .int i 0, .ref P, .int ((bs + piled (ts.take i) : Nat) : Int) 0], []⟩) _ _ s
    rw [repr_loop_tree]
    refine wpAny_bind (wpAny_listItems e rfl ?_)
    have hsome : its.toArray[((i : Int)).toNat]? = some its[i] := by simp [hlt2]
    simp only [hsome]
    rw [Int.toNat_natCast]
    refine wpAny_bind (wpAny_holding (wpAny_mono (hrep _ _ pins s σ H its[i] (bs + piled (ts.take i) + 1) ((xe.ext eb).more) (sub_loop sb) (guards_under_guard (isGuard_list_loop _) hg) gd.cons I rvi (by omega)) (fun r s2 h2 => ?_) fun e' s' h' => hE e' s' h'))
    obtain ⟨rfl, H2, I2, e2⟩ := h2
    refine wpAny_bind (wpAny_mkStr ?_ (each r (List.mem_of_getElem? ht)))
    have hP2 := e2 _ _ hPi
    obtain ⟨_, ups, c, rp, _, ep⟩ := I2.lstM hP2
    refine wpAny_bind ?_
    show wpAny _ _ (updateSeq P _) _ _ _
    have lp := rp.length
    rw [List.length_map, List.length_take] at lp
    refine wpAny_updateSeq ep rfl (wpAny_pure ⟨F.quiet_list_repr_loop _, ?_⟩) (by rw [List.size_toArray]; omega) (by rw [Array.size_push, List.size_toArray]; omega)
    have e1' : ((i : Int) + 1) = ((i + 1 : Nat) : Int) := by omega
    have e2' : bs + piled (ts.take i) + (r.length + 2) = bs + piled (ts.take (i + 1)) := by omega
    rw [e1', e2']
    have I3 := I2.lset (its' := ups ++ [.str r s2.toks]) (f := fun x => x.push (.str r s2.toks)) (t' := s2.toks + 1) hP2 ep (by simp) (ys := (ts.take (i + 1)).map V.str) (by
      rw [List.take_add_one, ht, List.map_append]
      exact rp.append (.cons ⟨_, rfl⟩ .nil)) (by rw [List.length_map, List.length_take]; omega)
    exact ih (i + 1) _ _ (by omega) hlt I3 (fun b o hb => by
      rw [upd_ne (fun z => by rw [z, hP] at hb; cases hb)]
      exact e2 _ _ (eb _ _ hb)) upd_same
end
end RPO
set_option Elab.async false
set_option linter.all false
set_option maxRecDepth 100000
set_option maxHeartbeats 4000000
namespace RPO
open PySem PySem.Spec PyProof.Rows L2
open Builtin Builtin.List
/-- things one by one -/
inductive RpAll (X : Cx) (n : Nat) (outs : List Addr) (H0 : Hp) : List V → List Str → Prop
  | nil : RpAll X n outs H0 [] []
  | cons {v : V} {t : Str} {vs : List V} {ts : List Str} : RpU X n outs H0 v t → RpAll X n outs H0 vs ts → RpAll X n outs H0 (v :: vs) (t :: ts)
theorem RpAll.len {X : Cx} {n : Nat} {outs : List Addr} {H0 : Hp} : ∀ {vs : List V} {ts : List Str}, RpAll X n outs H0 vs ts → ts.length = vs.length
  | _, _, .nil => rfl
  | _, _, .cons _ h => by rw [List.length_cons, List.length_cons, h.len]
theorem RpAll.get {X : Cx} {n : Nat} {outs : List Addr} {H0 : Hp} : ∀ {vs : List V} {ts : List Str}, RpAll X n outs H0 vs ts → ∀ (i : Nat) (x : V), vs[i]? = some x → ∃ t, ts[i]? = some t ∧ RpU X n outs H0 x t
  | _, _, .nil, _, _, h => by simp at h
  | _, _, .cons r h, 0, _, e => by
    simp at e
    subst e
    exact ⟨_, rfl, r⟩
  | _, _, .cons r h, i + 1, x, e => by
    obtain ⟨t, e1, e2⟩ := h.get i x (by simpa using e)
    exact ⟨t, by simpa using e1, e2⟩
section
variable {X : Cx} {n : Nat} {outs : List Addr} {H0 : Hp} {a : Addr} {xs : List V} {ts : List Str}
/-- what is asked of the end of a text -/
def Told (X : Cx) (pins : List (Addr × Obj)) (σ : L2.St) (H : Hp) (t : Str) (v : Value) (s' : Shared) : Prop := ∃ tk, v = .str t tk ∧ ∃ H', Inv X pins σ H' s' ∧ Ext H H'
theorem list_at {A : Around} {g : List Code} {bs : Nat} {pins : List (Addr × Obj)} {σ : L2.St} {s : Shared} {H : Hp} {Q : Value → Shared → Prop} (sb : Sub X (n + 1) A) (hg : A.guards = some g) (gd : Gd g outs) (I : Inv X pins σ H s) (ha : H a = some (.lst xs)) (na : a ∉ outs) (xe : Ex outs H0 H) (hx : xs ≠ [])
    (hT : RpAll X n (a :: outs) H0 xs ts) (hsz : bs + (listText ts).length ≤ sizeLine) (fin : ∀ v s', Told X pins σ H (listText ts) v s' → Q v s') :
    wpAny (model X.prog X.w) A.in1 (Builtin.listReprAt bs ⟨[.ref a], []⟩) (fun fin s' => match fin with | .done f => callEnd Q X.xe (.ok f) s' | .again c' => c'.quiet = true ∧ codeAny (model X.prog X.w) A c' (callEnd Q X.xe) s') (fun e s' => callEnd Q X.xe (.error e) s') s := by
  obtain ⟨_, its, m, rv, lv, e⟩ := I.lstM ha
  obtain ⟨y, l, rfl⟩ : ∃ y l, its = y :: l := by
    cases its with
    | nil =>
      have : xs.length = 0 := lv
      exact absurd (List.length_eq_zero_iff.mp this) hx
    | cons y l => exact ⟨y, l, rfl⟩
  refine wpAny_list_repr_head (A := A.in1) hg (fun v rest kw hm => listSameRef_of_ne ((gd.clear na) _ _ _ _ hm)) e rfl ?_
  refine wpAny_bind (m := newList []) (wpAny_newObj_type ?_)
  refine wpAny_pure ⟨F.quiet_list_repr_loop _, ?_⟩
  have I1 := I.lnew (its := []) (ys := []) (t' := s.toks) .nil (Nat.zero_le _)
  have hn := I.fresh
  exact list_loop (n := n) (Hb := H) (R := callEnd Q X.xe) sb hg gd ha hn xe hT.len hT.get hsz (fun _ _ h => h) (fun s' H' u I' e' => fin _ _ ⟨u, rfl, H', I', e'⟩) _ 0 _ _ rfl (Nat.zero_le _) I1 (Ext.upd hn) upd_same
theorem RpU.list (ha : H0 a = some (.lst xs)) (na : a ∉ outs) (hx : xs ≠ []) (hT : RpAll X n (a :: outs) H0 xs ts) : RpU X (n + 1) outs H0 (.ref a) (listText ts) := fun A g pins s σ H u bs x sb hg gd I r hb => by
  cases (show u = Value.ref a from r)
  have ea := x a _ ha na
  obtain ⟨_, its, m, rv, lv, e⟩ := I.lstM ea
  refine wpAny_pyReprUnder_ref (by omega) (wpAny_pyReprObjUnder_twin (twin := "list.__repr__.under") ⟨_, e, rfl⟩ F.slot_list_repr.toG rfl sb.room.units0
    (call_twin_plain F.plain_list_repr_under F.entry_list_repr_under F.check_list_repr_under ⟨_, e, rfl⟩ F.slot_list_repr.toG (F.args_list_repr_1 _) (list_at sb hg gd I ea na x hx hT hb fun v s' h => ?_)))
  obtain ⟨tk, rfl, h⟩ := h
  exact ⟨⟨_, _, rfl⟩, _, _, rfl, rfl, h⟩
theorem RpU.list0 (ha : H0 a = some (.lst [])) (na : a ∉ outs) : RpU X n outs H0 (.ref a) "[]" := fun A g pins s σ H u bs x sb hg gd I r hb => by
  cases (show u = Value.ref a from r)
  have ea := x a _ ha na
  obtain ⟨_, its, m, rv, lv, e⟩ := I.lstM ea
  obtain rfl : its = [] := List.length_eq_zero_iff.mp lv.symm
  exact wpAny_pyReprUnder_ref (by omega) (wpAny_pyReprObjUnder_list_empty ⟨_, e, rfl⟩ sb.room.units0 e rfl ⟨_, _, rfl, rfl, H, I.tok _, Ext.rfl'⟩)
theorem tup_fold {A : Around} {g : List Code} {pins : List (Addr × Obj)} {σ : L2.St} {Hb : Hp} {Q : (Array Str × Nat) → Shared → Prop} (sb : Sub X n A) (hg : A.guards = some g) (gd : Gd g (a :: outs)) (xe : Ex outs H0 Hb) :
    ∀ {vs : List V} {ts : List Str}, RpAll X n (a :: outs) H0 vs ts → ∀ (us : List Value) (acc : Array Str) (m : Nat) (s : Shared) (H : Hp), Vals vs us → m + piled ts ≤ sizeLine → Inv X pins σ H s → Ext Hb H →
      (∀ s' H', Inv X pins σ H' s' → Ext Hb H' → Q ⟨acc ++ ts.toArray, m + piled ts⟩ s') → wpAny (model X.prog X.w) A (forIn us (⟨acc, m⟩ : (Array Str × Nat)) tupBody) Q X.xe s := by
  intro vs ts h
  induction h with
  | nil =>
    intro us acc m s H rv hm I eb fin
    cases rv
    have h0 := fin s H I eb
    simp only [List.forIn_nil]
    exact wpAny_pure (by simpa [piled] using h0)
  | @cons v t vs ts hr hl ih =>
    intro us acc m s H rv hm I eb fin
    cases rv with
    | @cons _ u _ us r rv =>
      rw [piled_cons] at hm
      rw [List.forIn_cons]
      refine wpAny_bind (wpAny_bind (wpAny_mono (hr A g pins s σ H u (m + 1) (xe.ext eb).more sb hg gd I r (by omega)) (fun r' s2 h2 => ?_) fun _ _ x => x))
      obtain ⟨rfl, H2, I2, e2⟩ := h2
      refine wpAny_pure ?_
      refine ih us (acc.push r') (m + (r'.length + 2)) s2 H2 rv (by omega) I2 (eb.trans e2) fun s' H' I' e' => ?_
      have h1 := fin s' H' I' e'
      have e : m + piled (r' :: ts) = m + (r'.length + 2) + piled ts := by rw [piled_cons]; omega
      rw [e] at h1
      simpa using h1
theorem tup_at {A : Around} {g : List Code} {bs : Nat} {pins : List (Addr × Obj)} {σ : L2.St} {s : Shared} {H : Hp} {Q : Value → Shared → Prop} {id : String} {rest : List Value} (hcg : (Code.builtin id ⟨.ref a :: rest, []⟩).isGuard = true) (sb : Sub X n (A.under (.builtin id ⟨.ref a :: rest, []⟩)))
    (hg : A.guards = some g) (gd : Gd g outs) (I : Inv X pins σ H s) (ha : H a = some (.tup xs)) (na : a ∉ outs) (xe : Ex outs H0 H) (hT : RpAll X n (a :: outs) H0 xs ts) (hsz : bs + (tupleText ts).length ≤ sizeLine) (fin : ∀ v s', Told X pins σ H (tupleText ts) v s' → Q v s') :
    wpOwn (model X.prog X.w) A (.builtin id ⟨.ref a :: rest, []⟩) (Builtin.tupleReprAt bs ⟨[.ref a], []⟩) (fun fin s' => match fin with | .done f => callEnd Q X.xe (.ok f) s' | .again c' => c'.quiet = true ∧ codeAny (model X.prog X.w) A c' (callEnd Q X.xe) s') (fun e s' => callEnd Q X.xe (.error e) s') s := by
  obtain ⟨its, rv, ⟨o, ho, hc, m, hd⟩, hz⟩ := I.tuple (SqT.of (K := X.K) ha)
  have hca : Clear g a := gd.clear na
  have hlen : ts.length = its.length := hT.len.trans rv.length
  have hp := piled_le_tupleText ts
  have hsz0 : (tupleText ts).length ≤ sizeLine := by omega
  rw [tuple_repr_tree, tupleReprUnderWay_eq]
  refine wpOwn_bind (wpOwn_stackTailAny hg (tupGuardF_off _) (tupGuardF_pos _) ?_)
  have hn : (g.any fun c => tupGuardF (.ref a) (c, default)) = false := by
    rw [List.any_eq_false]
    intro c hcm
    rw [tupGuardF_of_clear hca c hcm]
    exact Bool.false_ne_true
  rw [hn]
  refine wpOwn_of_wpAny ?_
  show wpAny _ _ (tupleReprRest bs (.ref a)) _ _ s
  unfold tupleReprRest Builtin.Tuple.tupleItemsOf
  refine wpAny_bind (wpAny_bind (wpAny_seqItems ho hd (wpAny_pure ?_)))
  rw [← Array.forIn_toList]
  refine wpAny_bind (tup_fold (Hb := H) sb (guards_under_guard hcg hg) gd.cons xe hT _ _ _ s H (by simpa using rv) (by omega) I Ext.rfl' fun s' H' I' e' => ?_)
  refine wpAny_bind (wpAny_mkStr (wpAny_pure ?_) (by simpa [tupleText, hlen] using hsz0))
  have h1 := fin (.str (tupleText ts) s'.toks) { s' with toks := s'.toks + 1 } ⟨_, rfl, H', I'.tok _, e'⟩
  simpa [tupleText, hlen] using h1
theorem sub_code {A : Around} {id : String} {args : Args} (h : Sub X (n + 1) A) (hw : (Code.builtin id args).weight ≤ 1) (he : (Code.builtin id args).envs = []) (hu : (A.under (.builtin id args)).units = A.units + 1) : Sub X n (A.under (.builtin id args)) := by
  have e2 : (A.under (.builtin id args)).frames = pushEnvs (Code.envs (.builtin id args)) A.frames := by first | rfl | simp [Around.under]
  have hf : (A.under (.builtin id args)).frames = A.frames := by
    rw [e2, he]
    cases A.frames <;> first | rfl | simp [pushEnvs]
  have hd : (A.under (.builtin id args)).depth = A.depth + (Code.builtin id args).weight := by first | rfl | simp [Around.under]
  obtain ⟨⟨h1, h2, h3⟩, h4⟩ := h
  exact ⟨⟨h1, by omega, by rw [hu]; omega⟩, hf.trans h4⟩
theorem w_tup {args : Args} : (Code.builtin "tuple.__repr__" args).weight ≤ 1 := by
  first | exact Nat.le_refl _ | simp [Code.weight, Code.isCreation, Code.isGuard, Code.isCaller, Code.frames, Code.isFrame, guardIds]
theorem w_tupU {args : Args} : (Code.builtin "tuple.__repr__.under" args).weight ≤ 1 := by
  first | exact Nat.le_refl _ | simp [Code.weight, Code.isCreation, Code.isGuard, Code.isCaller, Code.frames, Code.isFrame, guardIds]
theorem e_b {id : String} {args : Args} (h : (Code.builtin id args).isFrame = false := by rfl) : (Code.builtin id args).envs = [] := by simp [Code.envs, h]
theorem RpU.tup (ha : H0 a = some (.tup xs)) (na : a ∉ outs) (hT : RpAll X n (a :: outs) H0 xs ts) : RpU X (n + 1) outs H0 (.ref a) (tupleText ts) := fun A g pins s σ H u bs x sb hg gd I r hb => by
  cases (show u = Value.ref a from r)
  have ea := x a _ ha na
  obtain ⟨its, rv, ⟨o, ho, hc, m, hd⟩, hz⟩ := I.tuple (SqT.of (K := X.K) ea)
  refine wpAny_pyReprUnder_ref (by omega) (wpAny_pyReprObjUnder_twin (twin := "tuple.__repr__.under") ⟨o, ho, hc⟩ F.slot_tuple_repr rfl sb.room.units0
    (call_twin_own (F.quiet_tuple_repr_under _) F.entry_tuple_repr_under F.check_tuple_repr_under ⟨o, ho, hc⟩ F.slot_tuple_repr (F.args_tuple_repr_1 _)
      (tup_at (isGuard_tuple_repr_under _) (sub_code sb w_tupU e_b (units_under_tuple_repr_under _ _)) hg gd I ea na x hT hb fun v s' h => ?_)))
  obtain ⟨tk, rfl, h⟩ := h
  exact ⟨⟨_, _, rfl⟩, _, _, rfl, rfl, h⟩
/-- repr of a tuple, where no repr is under way -/
def rReprT (X : Cx) (n : Nat) : List V → Hp → VK → Prop := fun ys H Q => ∃ (a : Addr) (xs : List V) (ts : List Str), ys = [.ref a] ∧ H a = some (.tup xs) ∧ RpAll X n [a] H xs ts ∧ (tupleText ts).length ≤ sizeLine ∧ ∀ H', Ext H H' → Q (.str (tupleText ts)) H'
theorem call_reprT (hgd : X.A.guards = some []) (hr : Room (n + 2) X.A) : CallR X (.builtin "repr") (rReprT X n) := by
  intro pins s σ H ys us Q I r h
  obtain ⟨a, xs, ts, rfl, ea, hT, hb, q⟩ := h
  obtain ⟨u, rfl, ru⟩ := r.one
  cases (show u = Value.ref a from ru)
  obtain ⟨its, rv, ⟨o, ho, hc, m, hd⟩, hz⟩ := I.tuple (SqT.of (K := X.K) ea)
  have sb : Sub X (n + 1) X.A.in1 := ⟨hr.in1, rfl⟩
  refine call_repr_slot (by have := hr.un; omega) ⟨o, ho, hc⟩ F.slot_tuple_repr ?_
  refine wpAny_call (codeAny_call_builtin_own (Code.quiet_builtin _ (by decide +kernel)) F.entry_tuple_repr (F.slot_tuple_repr.check _ _ _ _ _ _ _ _ ⟨o, ho, hc⟩ (F.args_tuple_repr_1 _)
    (tup_at (outs := []) (H0 := H) (bs := 0) (isGuard_tuple_repr _) (sub_code sb w_tup e_b (units_under_tuple_repr _ _)) hgd Gd.nil I ea (by simp) (Ex.refl _ _) hT (by omega) fun v s' h => ?_)))
  obtain ⟨tk, rfl, H', I', e⟩ := h
  exact ⟨_, _, rfl, .str _, H', I', ⟨_, rfl⟩, q H' e⟩
end
end RPO
set_option Elab.async false
set_option linter.all false
set_option maxRecDepth 100000
set_option maxHeartbeats 4000000
namespace RPO
open PySem PySem.Spec PyProof.Rows L2
open Builtin Builtin.List
/-- what the entries of a dict show as -/
inductive RpEnt (X : Cx) (n : Nat) (outs : List Addr) (H0 : Hp) : List (Key × V) → List Str → Prop
  | nil : RpEnt X n outs H0 [] []
  | cons {k : Key} {v : V} {tk tv : Str} {kvs : List (Key × V)} {ps : List Str} : RpU X n outs H0 (kV k) tk → RpU X n outs H0 v tv → RpEnt X n outs H0 kvs ps → RpEnt X n outs H0 ((k, v) :: kvs) ((tk ++ ": " ++ tv) :: ps)
section
variable {X : Cx} {n : Nat} {outs : List Addr} {H0 : Hp} {a : Addr} {kvs : List (Key × V)} {ps : List Str}
theorem RpEnt.len : ∀ {kvs : List (Key × V)} {ps : List Str}, RpEnt X n outs H0 kvs ps → ps.length = kvs.length
  | _, _, .nil => rfl
  | _, _, .cons _ _ h => by rw [List.length_cons, List.length_cons, h.len]
theorem RpEnt.get : ∀ {kvs : List (Key × V)} {ps : List Str}, RpEnt X n outs H0 kvs ps → ∀ (i : Nat) (e : Key × V), kvs[i]? = some e → ∃ tk tv : Str, ps[i]? = some (tk ++ ": " ++ tv) ∧ RpU X n outs H0 (kV e.1) tk ∧ RpU X n outs H0 e.2 tv
  | _, _, .nil, _, _, h => by simp at h
  | _, _, .cons r1 r2 h, 0, _, e => by
    simp at e
    subst e
    exact ⟨_, _, rfl, r1, r2⟩
  | _, _, .cons _ _ h, i + 1, x, e => by
    obtain ⟨t1, t2, e1, e2⟩ := h.get i x (by simpa using e)
    exact ⟨t1, t2, by simpa using e1, e2⟩
theorem pairs_at {P : Program} {w : World} : ∀ {es : List DictEntry} {vs : List (Key × Value)}, Pairs (mixKind P w) es vs → ∀ (i : Nat) (kv : Key × Value), vs[i]? = some kv → ∃ e, es[i]? = some e ∧ (mixKind P w).is kv.1 e.key = true ∧ e.val = kv.2
  | _, _, .nil, _, _, h => by simp at h
  | _, _, .cons h1 h2 h, 0, _, e => by
    simp at e
    subst e
    exact ⟨_, rfl, h1, h2⟩
  | _, _, .cons _ _ h, i + 1, kv, e => by
    obtain ⟨en, e1, e2⟩ := pairs_at h i kv (by simpa using e)
    exact ⟨en, by simpa using e1, e2⟩
theorem key_rel {k : Key} {v : Value} (h : keyIs k v = true) : RelV (kV k) v := by
  rcases keyIs_shape h with ⟨i, t, rfl, rfl⟩ | ⟨x, t, rfl, rfl⟩
  · exact ⟨_, rfl⟩
  · exact ⟨_, rfl⟩
theorem kv_at : ∀ {ks : List (Key × V)} {va : List (Key × Value)}, KV ks va → ∀ (i : Nat) (e : Key × V), ks[i]? = some e → ∃ u : Key × Value, va[i]? = some u ∧ e.1 = u.1 ∧ RelV e.2 u.2
  | _, _, .nil, _, _, h => by simp at h
  | _, _, .cons r h, 0, _, e => by
    simp at e
    subst e
    exact ⟨_, rfl, r.1, r.2⟩
  | _, _, .cons _ h, i + 1, x, e => by
    obtain ⟨u, e1, e2⟩ := kv_at h i x (by simpa using e)
    exact ⟨u, by simpa using e1, e2⟩
/-- the entries of a locked dict -/
theorem entry_of {pins : List (Addr × Obj)} {σ : L2.St} {s : Shared} {H : Hp} {o : Obj} (I : Inv X pins σ H s) (h : H a = some (.frz o (.dK kvs))) {es : Array DictEntry} {ep : Nat} (hd : o.data = .dict es ep) (i : Nat) (hi : i < kvs.length) :
    ∃ e, es[i]? = some e ∧ RelV (kV kvs[i].1) e.key ∧ RelV kvs[i].2 e.val := by
  obtain ⟨_, hg, _, es', ep', vs, hd', hs, kv, o2, es2, g2, x2, d2, k2, p2, _⟩ := I.frzK h
  rw [hg] at g2
  cases g2
  rw [hd] at d2
  cases d2
  obtain ⟨u, e1, e2, e3⟩ := kv_at kv i kvs[i] (List.getElem?_eq_getElem hi)
  obtain ⟨e, f1, f2, f3⟩ := pairs_at p2 i u e1
  refine ⟨e, by simpa using f1, ?_, by rw [f3]; exact e3⟩
  rw [e2]
  exact key_rel f2
theorem dct_at {A : Around} {g : List Code} {bs : Nat} {pins : List (Addr × Obj)} {σ : L2.St} {s : Shared} {H : Hp} {Q : Value → Shared → Prop} {id : String} {rest : List Value} (hcg : (Code.builtin id ⟨.ref a :: rest, []⟩).isGuard = true) (sb : Sub X n (A.under (.builtin id ⟨.ref a :: rest, []⟩)))
    (hg : A.guards = some g) (gd : Gd g outs) (I : Inv X pins σ H s) (ha : H a = some (.dK kvs)) (na : a ∉ outs) (xe : Ex outs H0 H) (hT : RpEnt X n (a :: outs) H0 kvs ps) (hsz : bs + (dictText ps).length ≤ sizeLine) (fin : ∀ v s', Told X pins σ H (dictText ps) v s' → Q v s') :
    wpOwn (model X.prog X.w) A (.builtin id ⟨.ref a :: rest, []⟩) (Builtin.dictReprAt bs ⟨[.ref a], []⟩) (fun fin s' => match fin with | .done f => callEnd Q X.xe (.ok f) s' | .again c' => c'.quiet = true ∧ codeAny (model X.prog X.w) A c' (callEnd Q X.xe) s') (fun e s' => callEnd Q X.xe (.error e) s') s := by
  have mu : Mut (some (HO.dK kvs)) := trivial
  have nf := I.nofrz ha mu
  obtain ⟨o, I1⟩ := I.lock ha mu
  have e1 : (upd H a (.frz o (.dK kvs))) a = some (.frz o (.dK kvs)) := upd_same
  have x1 : Ex (a :: outs) H0 (upd H a (.frz o (.dK kvs))) := fun b u e nb => by
    rw [upd_ne fun z => nb (by rw [z]; exact List.mem_cons_self)]
    exact xe b u e fun z => nb (List.mem_cons_of_mem _ z)
  have back : ∀ {H' : Hp} {s' : Shared}, Inv X pins σ H' s' → Ext (upd H a (.frz o (.dK kvs))) H' → ∃ H2, Inv X pins σ H2 s' ∧ Ext H H2 := fun {H' s'} I' e' => by
    refine ⟨_, I'.unlock (e' _ _ e1) nf, fun b u e => ?_⟩
    by_cases hb : b = a
    · subst hb
      rw [upd_same, ← e, ha]
    · rw [upd_ne hb]
      refine e' _ _ ?_
      rw [upd_ne hb]
      exact e
  generalize upd H a (.frz o (.dK kvs)) = H1 at I1 e1 x1 back
  obtain ⟨hsys, hget, hex, es, ep, vs, hd, hsize, _, _⟩ := I1.frzK e1
  have got : ∀ {H' : Hp} {s' : Shared}, Inv X pins σ H' s' → Ext H1 H' → s'.heap.get? a = some o := fun I' e' => (I'.frzK (e' _ _ e1)).2.1
  have hTy : s.TypeIs (.ref a) "dict" := ⟨o, hget, hex.1⟩
  have hca : Clear g a := gd.clear na
  have hlen : ps.length = es.size := hT.len.trans hsize.symm
  have hp3 := piled_le_dictText ps
  have hsz0 : (dictText ps).length ≤ sizeLine := by omega
  unfold Builtin.dictReprAt
  refine wpOwn_bind (wpOwn_of_wpAny ?_)
  unfold Builtin.Dict.dictSlotNone
  refine wpAny_bind (wpAny_notOrdered_dict hTy ?_)
  show wpAny _ _ (pure (Value.ref a)) _ _ s
  refine wpAny_pure ?_
  rw [dictReprRunning_eq]
  refine wpOwn_bind (wpOwn_stackTailAny hg (dictGuardF_off _) (dictGuardF_pos _) ?_)
  have hn : (g.any fun c => dictGuardF (.ref a) (c, default)) = false := by
    rw [List.any_eq_false]
    intro c hcm
    rw [dictGuardF_of_clear hca c hcm]
    exact Bool.false_ne_true
  rw [hn]
  refine wpOwn_of_wpAny ?_
  have hg' := guards_under_guard hcg hg
  show wpAny _ _ (Builtin.Dict.addrOf (.ref a) >>= _) _ _ s
  refine wpAny_bind (wpAny_pure ?_)
  show wpAny _ _ (Builtin.Dict.showsAll a >>= _) _ _ s
  unfold Builtin.Dict.showsAll
  rw [if_neg (by rw [hsys]; exact Bool.false_ne_true)]
  refine wpAny_bind (wpAny_pure ?_)
  refine wpAny_bind (wpAny_dictEpoch hget hd ?_)
  refine wpAny_bind (wpAny_dictEntries hget hd ?_)
  refine wpAny_bind ?_
  rw [Std.Legacy.Range.forIn_eq_forIn_range']
  simp only [Std.Legacy.Range.size, Nat.sub_zero, Nat.add_sub_cancel, Nat.div_one]
  refine wpAny_forIn_list _
    (fun rest' r s' => ∃ i H', rest' = List.range' i (es.size - i) ∧ i ≤ es.size ∧ r = (⟨(ps.take i).toArray, bs + piled (ps.take i)⟩ : (Array Str × Nat)) ∧ Inv X pins σ H' s' ∧ Ext H1 H')
    _ ?_ ?_ _ _ ⟨0, H1, by simp, Nat.zero_le _, by simp [piled], I1, Ext.rfl'⟩
  · rintro x rest' _ s' ⟨i, H', hr, hi, rfl, I', e'⟩
    have hlt : i < es.size := by
      rcases Nat.lt_or_ge i es.size with h | h
      · exact h
      · rw [Nat.sub_eq_zero_of_le h] at hr; simp at hr
    obtain ⟨rfl, hrest⟩ : x = i ∧ rest' = List.range' (i + 1) (es.size - (i + 1)) := by
      have e : es.size - i = (es.size - (i + 1)) + 1 := by omega
      rw [e, List.range'_succ] at hr
      injection hr with h1 h2
      exact ⟨h1, h2⟩
    have hx2 : x < kvs.length := by omega
    obtain ⟨tk, tv, hp, rk, rv⟩ := hT.get x kvs[x] (List.getElem?_eq_getElem hx2)
    obtain ⟨en, f1, f2, f3⟩ := entry_of I' (e' _ _ e1) hd x hx2
    have hpl : (tk ++ ": " ++ tv).length = tk.length + 2 + tv.length := by
      rw [strLen_append, strLen_append]; rfl
    have hp1 := piled_take_succ hp
    have hp2 := piled_take_le ps (x + 1)
    rw [hpl] at hp1
    refine wpAny_bind (wpAny_dictEntries (got I' e') hd ?_)
    rw [f1]
    refine wpAny_bind (wpAny_holding (wpAny_bind (wpAny_mono (rk _ _ pins s' σ H' en.key (bs + piled (ps.take x) + 1) (x1.ext e') sb hg' gd.cons I' f2 (by omega)) (fun r2 s2 h2 => ?_) fun _ _ z => z)))
    obtain ⟨rfl, H2, I2, e2⟩ := h2
    refine wpAny_bind (wpAny_mono (rv _ _ pins s2 σ H2 en.val (bs + piled (ps.take x) + (r2.length + 3)) (x1.ext (e'.trans e2)) sb hg' gd.cons I2 f3 (by omega)) (fun r3 s3 h3 => ?_) fun _ _ z => z)
    obtain ⟨rfl, H3, I3, e3⟩ := h3
    have e13 := (e'.trans e2).trans e3
    refine wpAny_pure ?_
    refine wpAny_bind (wpAny_dictEpoch (got I3 e13) hd ?_)
    rw [if_neg (by simp)]
    have g1 : (ps.take x).toArray.push (r2 ++ ": " ++ r3) = (ps.take (x + 1)).toArray := by
      rw [List.take_add_one, hp]
      simp
    have g2 : bs + piled (ps.take x) + (r2.length + r3.length + 4) = bs + piled (ps.take (x + 1)) := by omega
    refine wpAny_pure ⟨x + 1, H3, hrest, hlt, ?_, I3, e13⟩
    rw [g1, g2]
  · rintro _ s' ⟨i, H', hr, hi, rfl, I', e'⟩
    have hin : i = es.size := by
      rcases Nat.lt_or_ge i es.size with h | h
      · have e : es.size - i = (es.size - (i + 1)) + 1 := by omega
        rw [e, List.range'_succ] at hr; exact nomatch hr
      · exact Nat.le_antisymm hi h
    rw [hin, ← hlen, List.take_length]
    refine wpAny_bind (wpAny_mkStr (wpAny_pure ?_) (by simpa [dictText] using hsz0))
    have h1 := fin (.str (dictText ps) s'.toks) { s' with toks := s'.toks + 1 } ⟨_, rfl, back (I'.tok _) e'⟩
    simpa [dictText] using h1
theorem w_dct {args : Args} : (Code.builtin "dict.__repr__" args).weight ≤ 1 := by
  first | exact Nat.le_refl _ | simp [Code.weight, Code.isCreation, Code.isGuard, Code.isCaller, Code.frames, Code.isFrame, guardIds]
theorem w_dctU {args : Args} : (Code.builtin "dict.__repr__.under" args).weight ≤ 1 := by
  first | exact Nat.le_refl _ | simp [Code.weight, Code.isCreation, Code.isGuard, Code.isCaller, Code.frames, Code.isFrame, guardIds]
theorem RpU.dct (ha : H0 a = some (.dK kvs)) (na : a ∉ outs) (hT : RpEnt X n (a :: outs) H0 kvs ps) : RpU X (n + 1) outs H0 (.ref a) (dictText ps) := fun A g pins s σ H u bs x sb hg gd I r hb => by
  cases (show u = Value.ref a from r)
  have ea := x a _ ha na
  have mu : Mut (some (HO.dK kvs)) := trivial
  obtain ⟨o, I1⟩ := I.lock ea mu
  obtain ⟨_, hget, hex, _⟩ := I1.frzK (upd_same : (upd H a (.frz o (.dK kvs))) a = _)
  refine wpAny_pyReprUnder_ref (by omega) (wpAny_pyReprObjUnder_twin (twin := "dict.__repr__.under") ⟨o, hget, hex.1⟩ F.slot_dict_repr rfl sb.room.units0
    (call_twin_own (F.quiet_dict_repr_under _) F.entry_dict_repr_under F.check_dict_repr_under ⟨o, hget, hex.1⟩ F.slot_dict_repr (F.args_dict_repr_1 _)
      (dct_at (isGuard_dict_repr_under _) (sub_code sb w_dctU e_b (units_under_dict_repr_under _ _)) hg gd I ea na x hT hb fun v s' h => ?_)))
  obtain ⟨tk, rfl, h⟩ := h
  exact ⟨⟨_, _, rfl⟩, _, _, rfl, rfl, h⟩
/-- repr of a list, of a dict, where no repr is under way -/
def rReprL (X : Cx) (n : Nat) : List V → Hp → VK → Prop := fun ys H Q => ∃ (a : Addr) (xs : List V) (ts : List Str), ys = [.ref a] ∧ H a = some (.lst xs) ∧ xs ≠ [] ∧ RpAll X n [a] H xs ts ∧ (listText ts).length ≤ sizeLine ∧ ∀ H', Ext H H' → Q (.str (listText ts)) H'
theorem call_reprL (hgd : X.A.guards = some []) (hr : Room (n + 2) X.A) : CallR X (.builtin "repr") (rReprL X n) := by
  intro pins s σ H ys us Q I r h
  obtain ⟨a, xs, ts, rfl, ea, hx, hT, hb, q⟩ := h
  obtain ⟨u, rfl, ru⟩ := r.one
  cases (show u = Value.ref a from ru)
  obtain ⟨_, its, m, rv, lv, e⟩ := I.lstM ea
  have sb : Sub X (n + 1) X.A.in1 := ⟨hr.in1, rfl⟩
  refine call_repr_slot (by have := hr.un; omega) ⟨_, e, rfl⟩ F.slot_list_repr.toG ?_
  refine wpAny_call (codeAny_call_builtin F.slot_list_repr.plain F.entry_list_repr (F.slot_list_repr.check _ _ _ _ _ _ _ _ ⟨_, e, rfl⟩ (F.args_list_repr_1 _)
    (list_at (outs := []) (H0 := H) (bs := 0) sb hgd Gd.nil I ea (by simp) (Ex.refl _ _) hx hT (by omega) fun v s' h => ?_)))
  obtain ⟨tk, rfl, H', I', e⟩ := h
  exact ⟨_, _, rfl, .str _, H', I', ⟨_, rfl⟩, q H' e⟩
def rReprDc (X : Cx) (n : Nat) : List V → Hp → VK → Prop := fun ys H Q => ∃ (a : Addr) (kvs : List (Key × V)) (ps : List Str), ys = [.ref a] ∧ H a = some (.dK kvs) ∧ RpEnt X n [a] H kvs ps ∧ (dictText ps).length ≤ sizeLine ∧ ∀ H', Ext H H' → Q (.str (dictText ps)) H'
theorem call_reprDc (hgd : X.A.guards = some []) (hr : Room (n + 2) X.A) : CallR X (.builtin "repr") (rReprDc X n) := by
  intro pins s σ H ys us Q I r h
  obtain ⟨a, kvs, ps, rfl, ea, hT, hb, q⟩ := h
  obtain ⟨u, rfl, ru⟩ := r.one
  cases (show u = Value.ref a from ru)
  have mu : Mut (some (HO.dK kvs)) := trivial
  obtain ⟨o, I1⟩ := I.lock ea mu
  obtain ⟨_, hget, hex, _⟩ := I1.frzK (upd_same : (upd H a (.frz o (.dK kvs))) a = _)
  have sb : Sub X (n + 1) X.A.in1 := ⟨hr.in1, rfl⟩
  refine call_repr_slot (by have := hr.un; omega) ⟨o, hget, hex.1⟩ F.slot_dict_repr ?_
  refine wpAny_call (codeAny_call_builtin_own (Code.quiet_builtin _ (by decide +kernel)) F.entry_dict_repr (F.slot_dict_repr.check _ _ _ _ _ _ _ _ ⟨o, hget, hex.1⟩ (F.args_dict_repr_1 _)
    (dct_at (outs := []) (H0 := H) (bs := 0) (isGuard_dict_repr _) (sub_code sb w_dct e_b (units_under_dict_repr _ _)) hgd Gd.nil I ea (by simp) (Ex.refl _ _) hT (by omega) fun v s' h => ?_)))
  obtain ⟨tk, rfl, H', I', e⟩ := h
  exact ⟨_, _, rfl, .str _, H', I', ⟨_, rfl⟩, q H' e⟩
end
end RPO
set_option Elab.async false
set_option linter.all false
set_option maxRecDepth 100000
set_option maxHeartbeats 4000000
/-! EQD: a dict beside things of other kinds: never equal; x in a list or tuple of any things, == and != of lists of any things. -/
namespace EQD
open PySem PySem.Spec PyProof.Rows L2
open PySem.SeqAt
abbrev dO (es : Array DictEntry) (ep : Nat) (dd : Option Addr) (sl : Array (Option Value)) : Obj := { cls := .type "dict", dict := dd, data := .dict es ep, slots := sl }

theorem dict_declines_none (l : Addr) (es : Array DictEntry) (ep : Nat) (dd : Option Addr) (sl : Array (Option Value))  :
    Meets (Builtin.«dict.__eq__» ⟨[.ref l, .none], []⟩) (fun _ R s => s.heap.get? l = some (dO es ep dd sl) ∧ R (.ok (.ret .notImplemented)) s) :=
  .of_wp fun prog w A R s h => by obtain ⟨hp, g, d, tk, os⟩ := s; obtain ⟨hl, h⟩ := h; have f1 := F.sub_NoneType_dict; wp_walk using wpAny_loadPart' hl; exact ⟨_, rfl, h⟩
theorem dict_declines_bool (l : Addr) (es : Array DictEntry) (ep : Nat) (dd : Option Addr) (sl : Array (Option Value)) (b : Bool) :
    Meets (Builtin.«dict.__eq__» ⟨[.ref l, .bool b], []⟩) (fun _ R s => s.heap.get? l = some (dO es ep dd sl) ∧ R (.ok (.ret .notImplemented)) s) :=
  .of_wp fun prog w A R s h => by obtain ⟨hp, g, d, tk, os⟩ := s; obtain ⟨hl, h⟩ := h; have f1 := F.sub_bool_dict; wp_walk using wpAny_loadPart' hl; exact ⟨_, rfl, h⟩
theorem dict_declines_int (l : Addr) (es : Array DictEntry) (ep : Nat) (dd : Option Addr) (sl : Array (Option Value)) (b : Int) (u : Tok) :
    Meets (Builtin.«dict.__eq__» ⟨[.ref l, .int b u], []⟩) (fun _ R s => s.heap.get? l = some (dO es ep dd sl) ∧ R (.ok (.ret .notImplemented)) s) :=
  .of_wp fun prog w A R s h => by obtain ⟨hp, g, d, tk, os⟩ := s; obtain ⟨hl, h⟩ := h; have f1 := F.sub_int_dict; wp_walk using wpAny_loadPart' hl; exact ⟨_, rfl, h⟩
theorem dict_declines_str (l : Addr) (es : Array DictEntry) (ep : Nat) (dd : Option Addr) (sl : Array (Option Value)) (b : Str) (u : Tok) :
    Meets (Builtin.«dict.__eq__» ⟨[.ref l, .str b u], []⟩) (fun _ R s => s.heap.get? l = some (dO es ep dd sl) ∧ R (.ok (.ret .notImplemented)) s) :=
  .of_wp fun prog w A R s h => by obtain ⟨hp, g, d, tk, os⟩ := s; obtain ⟨hl, h⟩ := h; have f1 := F.sub_str_dict; wp_walk using wpAny_loadPart' hl; exact ⟨_, rfl, h⟩
theorem bool_declines_dict (l : Addr) (es : Array DictEntry) (ep : Nat) (dd : Option Addr) (sl : Array (Option Value)) (b : Bool) :
    Meets (Builtin.«int.__eq__» ⟨[.bool b, .ref l], []⟩) (fun _ R s => s.heap.get? l = some (dO es ep dd sl) ∧ R (.ok (.ret .notImplemented)) s) :=
  .of_wp fun prog w A R s h => by obtain ⟨hp, g, d, tk, os⟩ := s; obtain ⟨hl, h⟩ := h; wp_walk using wpAny_loadPart' hl, wpAny_load hl; exact ⟨_, rfl, h⟩
theorem int_declines_dict (l : Addr) (es : Array DictEntry) (ep : Nat) (dd : Option Addr) (sl : Array (Option Value)) (b : Int) (u : Tok) :
    Meets (Builtin.«int.__eq__» ⟨[.int b u, .ref l], []⟩) (fun _ R s => s.heap.get? l = some (dO es ep dd sl) ∧ R (.ok (.ret .notImplemented)) s) :=
  .of_wp fun prog w A R s h => by obtain ⟨hp, g, d, tk, os⟩ := s; obtain ⟨hl, h⟩ := h; wp_walk using wpAny_loadPart' hl, wpAny_load hl; exact ⟨_, rfl, h⟩
theorem str_declines_dict (l : Addr) (es : Array DictEntry) (ep : Nat) (dd : Option Addr) (sl : Array (Option Value)) (b : Str) (u : Tok) :
    Meets (Builtin.«str.__eq__» ⟨[.str b u, .ref l], []⟩) (fun _ R s => s.heap.get? l = some (dO es ep dd sl) ∧ R (.ok (.ret .notImplemented)) s) :=
  .of_wp fun prog w A R s h => by obtain ⟨hp, g, d, tk, os⟩ := s; obtain ⟨hl, h⟩ := h; wp_walk using wpAny_loadPart' hl, wpAny_load hl; exact ⟨_, rfl, h⟩
theorem dict_declines_list (l b : Addr) (es : Array DictEntry) (ep : Nat) (dd dd2 : Option Addr) (sl sl2 : Array (Option Value)) (items : Array Value) (n : Nat) :
    Meets (Builtin.«dict.__eq__» ⟨[.ref l, .ref b], []⟩) (fun _ R s => s.heap.get? l = some (dO es ep dd sl) ∧ s.heap.get? b = some { cls := .type "list", dict := dd2, data := .seq items n, slots := sl2 } ∧ R (.ok (.ret .notImplemented)) s) :=
  .of_wp fun prog w A R s h => by obtain ⟨hp, g, d, tk, os⟩ := s; obtain ⟨hl, hb, h⟩ := h; have f1 := F.sub_list_dict; wp_walk using wpAny_loadPart' hl, wpAny_loadPart' hb; exact ⟨_, rfl, h⟩
theorem list_declines_dict (l b : Addr) (es : Array DictEntry) (ep : Nat) (dd dd2 : Option Addr) (sl sl2 : Array (Option Value)) (items : Array Value) (n : Nat) :
    Meets (Builtin.«list.__eq__» ⟨[.ref b, .ref l], []⟩) (fun _ R s => s.heap.get? l = some (dO es ep dd sl) ∧ s.heap.get? b = some { cls := .type "list", dict := dd2, data := .seq items n, slots := sl2 } ∧ R (.ok (.ret .notImplemented)) s) :=
  .of_wp fun prog w A R s h => by obtain ⟨hp, g, d, tk, os⟩ := s; obtain ⟨hl, hb, h⟩ := h; have f1 := F.sub_dict_list; wp_walk using wpAny_loadPart' hl, wpAny_loadPart' hb; exact ⟨_, rfl, h⟩
theorem dict_declines_tuple (l b : Addr) (es : Array DictEntry) (ep : Nat) (dd dd2 : Option Addr) (sl sl2 : Array (Option Value)) (items : Array Value) (n : Nat) :
    Meets (Builtin.«dict.__eq__» ⟨[.ref l, .ref b], []⟩) (fun _ R s => s.heap.get? l = some (dO es ep dd sl) ∧ s.heap.get? b = some { cls := .type "tuple", dict := dd2, data := .seq items n, slots := sl2 } ∧ R (.ok (.ret .notImplemented)) s) :=
  .of_wp fun prog w A R s h => by obtain ⟨hp, g, d, tk, os⟩ := s; obtain ⟨hl, hb, h⟩ := h; have f1 := F.sub_tuple_dict; wp_walk using wpAny_loadPart' hl, wpAny_loadPart' hb; exact ⟨_, rfl, h⟩
theorem tuple_declines_dict (l b : Addr) (es : Array DictEntry) (ep : Nat) (dd dd2 : Option Addr) (sl sl2 : Array (Option Value)) (items : Array Value) (n : Nat) :
    Meets (Builtin.«tuple.__eq__» ⟨[.ref b, .ref l], []⟩) (fun _ R s => s.heap.get? l = some (dO es ep dd sl) ∧ s.heap.get? b = some { cls := .type "tuple", dict := dd2, data := .seq items n, slots := sl2 } ∧ R (.ok (.ret .notImplemented)) s) :=
  .of_wp fun prog w A R s h => by obtain ⟨hp, g, d, tk, os⟩ := s; obtain ⟨hl, hb, h⟩ := h; have f1 := F.sub_dict_tuple; wp_walk using wpAny_loadPart' hl, wpAny_loadPart' hb; exact ⟨_, rfl, h⟩
/-- a dict stands at l -/
def IsDct (h : Heap) (l : Addr) : Prop := ∃ (o : Obj) (es : Array DictEntry) (ep : Nat), h.get? l = some o ∧ o.cls = .type "dict" ∧ o.data = .dict es ep
section
variable {A : Around} {s : Shared}
theorem RcAt_dict_none {l : Addr}  (hl : IsDct s.heap l) (hu : A.units < cLine) : RcAt A s (.ref l) .none false := fun prog w E Q h => by
  obtain ⟨⟨cls, dd, data, sl⟩, es, ep, ho, hc, hd⟩ := id hl
  simp only at hc hd
  subst hc hd
  exact rc_eq_decline_or (k := false) ⟨_, ho, rfl⟩ rfl (by decide) F.sub_NoneType_dict F.slot_dict_eq F.slot_NoneType_eq_refl
    (fun _ hq => call_meets F.slot_dict_eq ⟨_, ho, rfl⟩ F.entry_dict_eq (F.args_dict_eq_2 _ _) (dict_declines_none l es ep dd sl ) ⟨ho, hq⟩)
    (fun _ hq => call_gives F.slot_NoneType_eq_refl rfl F.entry_NoneType_eq (F.args_NoneType_eq_2 _ _) (NoneType___eq___none_ref_0 l) hq)
    (fun _ hq => wpAny_of_eq (rfl : isSame (.ref l) .none = pure false) hq) (.inr hu) h
theorem RcAt_none_dict {l : Addr}  (hl : IsDct s.heap l) (hu : A.units < cLine) : RcAt A s .none (.ref l) false := fun prog w E Q h => by
  obtain ⟨⟨cls, dd, data, sl⟩, es, ep, ho, hc, hd⟩ := id hl
  simp only at hc hd
  subst hc hd
  exact rc_eq_decline_or (k := false) rfl ⟨_, ho, rfl⟩ (by decide) F.sub_dict_NoneType F.slot_NoneType_eq F.slot_dict_eq_refl
    (fun _ hq => call_gives F.slot_NoneType_eq rfl F.entry_NoneType_eq (F.args_NoneType_eq_2 _ _) (NoneType___eq___none_ref_0 l) hq)
    (fun _ hq => call_meets F.slot_dict_eq_refl ⟨_, ho, rfl⟩ F.entry_dict_eq (F.args_dict_eq_2 _ _) (dict_declines_none l es ep dd sl ) ⟨ho, hq⟩)
    (fun _ hq => wpAny_of_eq (rfl : isSame .none (.ref l) = pure false) hq) (.inr hu) h
theorem EqAt_dict_none {l : Addr}  (hl : IsDct s.heap l) (hu : A.units < cLine) : EqAt A s (.ref l) .none false := fun prog w E Q h => by
  unfold eqBool
  refine wpAny_holding ?_
  refine wpAny_ite_split (fun hab => absurd (eq_of_beq hab) nofun) (fun _ => ?_)
  exact wpAny_bind (RcAt_dict_none  hl hu prog w E _ (wpAny_truthy_bool h))
theorem EqAt_none_dict {l : Addr}  (hl : IsDct s.heap l) (hu : A.units < cLine) : EqAt A s .none (.ref l) false := fun prog w E Q h => by
  unfold eqBool
  refine wpAny_holding ?_
  refine wpAny_ite_split (fun hab => absurd (eq_of_beq hab) nofun) (fun _ => ?_)
  exact wpAny_bind (RcAt_none_dict  hl hu prog w E _ (wpAny_truthy_bool h))
theorem RcAt_dict_bool {l : Addr} (b : Bool) (hl : IsDct s.heap l) (hu : A.units < cLine) : RcAt A s (.ref l) (.bool b) false := fun prog w E Q h => by
  obtain ⟨⟨cls, dd, data, sl⟩, es, ep, ho, hc, hd⟩ := id hl
  simp only at hc hd
  subst hc hd
  exact rc_eq_decline_or (k := false) ⟨_, ho, rfl⟩ rfl (by decide) F.sub_bool_dict F.slot_dict_eq F.slot_bool_eq_refl
    (fun _ hq => call_meets F.slot_dict_eq ⟨_, ho, rfl⟩ F.entry_dict_eq (F.args_dict_eq_2 _ _) (dict_declines_bool l es ep dd sl b) ⟨ho, hq⟩)
    (fun _ hq => call_meets F.slot_bool_eq_refl rfl F.entry_int_eq (F.args_int_eq_2 _ _) (bool_declines_dict l es ep dd sl b) ⟨ho, hq⟩)
    (fun _ hq => wpAny_of_eq (rfl : isSame (.ref l) (.bool b) = pure false) hq) (.inr hu) h
theorem RcAt_bool_dict {l : Addr} (b : Bool) (hl : IsDct s.heap l) (hu : A.units < cLine) : RcAt A s (.bool b) (.ref l) false := fun prog w E Q h => by
  obtain ⟨⟨cls, dd, data, sl⟩, es, ep, ho, hc, hd⟩ := id hl
  simp only at hc hd
  subst hc hd
  exact rc_eq_decline_or (k := false) rfl ⟨_, ho, rfl⟩ (by decide) F.sub_dict_bool F.slot_bool_eq F.slot_dict_eq_refl
    (fun _ hq => call_meets F.slot_bool_eq rfl F.entry_int_eq (F.args_int_eq_2 _ _) (bool_declines_dict l es ep dd sl b) ⟨ho, hq⟩)
    (fun _ hq => call_meets F.slot_dict_eq_refl ⟨_, ho, rfl⟩ F.entry_dict_eq (F.args_dict_eq_2 _ _) (dict_declines_bool l es ep dd sl b) ⟨ho, hq⟩)
    (fun _ hq => wpAny_of_eq (rfl : isSame (.bool b) (.ref l) = pure false) hq) (.inr hu) h
theorem EqAt_dict_bool {l : Addr} (b : Bool) (hl : IsDct s.heap l) (hu : A.units < cLine) : EqAt A s (.ref l) (.bool b) false := fun prog w E Q h => by
  unfold eqBool
  refine wpAny_holding ?_
  refine wpAny_ite_split (fun hab => absurd (eq_of_beq hab) nofun) (fun _ => ?_)
  exact wpAny_bind (RcAt_dict_bool b hl hu prog w E _ (wpAny_truthy_bool h))
theorem EqAt_bool_dict {l : Addr} (b : Bool) (hl : IsDct s.heap l) (hu : A.units < cLine) : EqAt A s (.bool b) (.ref l) false := fun prog w E Q h => by
  unfold eqBool
  refine wpAny_holding ?_
  refine wpAny_ite_split (fun hab => absurd (eq_of_beq hab) nofun) (fun _ => ?_)
  exact wpAny_bind (RcAt_bool_dict b hl hu prog w E _ (wpAny_truthy_bool h))
theorem RcAt_dict_int {l : Addr} (b : Int) (u : Tok) (hl : IsDct s.heap l) (hu : A.units < cLine) : RcAt A s (.ref l) (.int b u) false := fun prog w E Q h => by
  obtain ⟨⟨cls, dd, data, sl⟩, es, ep, ho, hc, hd⟩ := id hl
  simp only at hc hd
  subst hc hd
  exact rc_eq_decline_or (k := false) ⟨_, ho, rfl⟩ (typeIs_int s b u) (by decide) F.sub_int_dict F.slot_dict_eq F.slot_int_eq_refl
    (fun _ hq => call_meets F.slot_dict_eq ⟨_, ho, rfl⟩ F.entry_dict_eq (F.args_dict_eq_2 _ _) (dict_declines_int l es ep dd sl b u) ⟨ho, hq⟩)
    (fun _ hq => call_meets F.slot_int_eq_refl (typeIs_int s b u) F.entry_int_eq (F.args_int_eq_2 _ _) (int_declines_dict l es ep dd sl b u) ⟨ho, hq⟩)
    (fun _ hq => wpAny_of_eq (rfl : isSame (.ref l) (.int b u) = pure false) hq) (.inr hu) h
theorem RcAt_int_dict {l : Addr} (b : Int) (u : Tok) (hl : IsDct s.heap l) (hu : A.units < cLine) : RcAt A s (.int b u) (.ref l) false := fun prog w E Q h => by
  obtain ⟨⟨cls, dd, data, sl⟩, es, ep, ho, hc, hd⟩ := id hl
  simp only at hc hd
  subst hc hd
  exact rc_eq_decline_or (k := false) (typeIs_int s b u) ⟨_, ho, rfl⟩ (by decide) F.sub_dict_int F.slot_int_eq F.slot_dict_eq_refl
    (fun _ hq => call_meets F.slot_int_eq (typeIs_int s b u) F.entry_int_eq (F.args_int_eq_2 _ _) (int_declines_dict l es ep dd sl b u) ⟨ho, hq⟩)
    (fun _ hq => call_meets F.slot_dict_eq_refl ⟨_, ho, rfl⟩ F.entry_dict_eq (F.args_dict_eq_2 _ _) (dict_declines_int l es ep dd sl b u) ⟨ho, hq⟩)
    (fun _ hq => wpAny_of_eq (rfl : isSame (.int b u) (.ref l) = pure false) hq) (.inr hu) h
theorem EqAt_dict_int {l : Addr} (b : Int) (u : Tok) (hl : IsDct s.heap l) (hu : A.units < cLine) : EqAt A s (.ref l) (.int b u) false := fun prog w E Q h => by
  unfold eqBool
  refine wpAny_holding ?_
  refine wpAny_ite_split (fun hab => absurd (eq_of_beq hab) nofun) (fun _ => ?_)
  exact wpAny_bind (RcAt_dict_int b u hl hu prog w E _ (wpAny_truthy_bool h))
theorem EqAt_int_dict {l : Addr} (b : Int) (u : Tok) (hl : IsDct s.heap l) (hu : A.units < cLine) : EqAt A s (.int b u) (.ref l) false := fun prog w E Q h => by
  unfold eqBool
  refine wpAny_holding ?_
  refine wpAny_ite_split (fun hab => absurd (eq_of_beq hab) nofun) (fun _ => ?_)
  exact wpAny_bind (RcAt_int_dict b u hl hu prog w E _ (wpAny_truthy_bool h))
theorem RcAt_dict_str {l : Addr} (b : Str) (u : Tok) (hl : IsDct s.heap l) (hu : A.units < cLine) : RcAt A s (.ref l) (.str b u) false := fun prog w E Q h => by
  obtain ⟨⟨cls, dd, data, sl⟩, es, ep, ho, hc, hd⟩ := id hl
  simp only at hc hd
  subst hc hd
  exact rc_eq_decline_or (k := false) ⟨_, ho, rfl⟩ (typeIs_str s b u) (by decide) F.sub_str_dict F.slot_dict_eq F.slot_str_eq_refl
    (fun _ hq => call_meets F.slot_dict_eq ⟨_, ho, rfl⟩ F.entry_dict_eq (F.args_dict_eq_2 _ _) (dict_declines_str l es ep dd sl b u) ⟨ho, hq⟩)
    (fun _ hq => call_meets F.slot_str_eq_refl (typeIs_str s b u) F.entry_str_eq (F.args_str_eq_2 _ _) (str_declines_dict l es ep dd sl b u) ⟨ho, hq⟩)
    (fun _ hq => wpAny_of_eq (rfl : isSame (.ref l) (.str b u) = pure false) hq) (.inr hu) h
theorem RcAt_str_dict {l : Addr} (b : Str) (u : Tok) (hl : IsDct s.heap l) (hu : A.units < cLine) : RcAt A s (.str b u) (.ref l) false := fun prog w E Q h => by
  obtain ⟨⟨cls, dd, data, sl⟩, es, ep, ho, hc, hd⟩ := id hl
  simp only at hc hd
  subst hc hd
  exact rc_eq_decline_or (k := false) (typeIs_str s b u) ⟨_, ho, rfl⟩ (by decide) F.sub_dict_str F.slot_str_eq F.slot_dict_eq_refl
    (fun _ hq => call_meets F.slot_str_eq (typeIs_str s b u) F.entry_str_eq (F.args_str_eq_2 _ _) (str_declines_dict l es ep dd sl b u) ⟨ho, hq⟩)
    (fun _ hq => call_meets F.slot_dict_eq_refl ⟨_, ho, rfl⟩ F.entry_dict_eq (F.args_dict_eq_2 _ _) (dict_declines_str l es ep dd sl b u) ⟨ho, hq⟩)
    (fun _ hq => wpAny_of_eq (rfl : isSame (.str b u) (.ref l) = pure false) hq) (.inr hu) h
theorem EqAt_dict_str {l : Addr} (b : Str) (u : Tok) (hl : IsDct s.heap l) (hu : A.units < cLine) : EqAt A s (.ref l) (.str b u) false := fun prog w E Q h => by
  unfold eqBool
  refine wpAny_holding ?_
  refine wpAny_ite_split (fun hab => absurd (eq_of_beq hab) nofun) (fun _ => ?_)
  exact wpAny_bind (RcAt_dict_str b u hl hu prog w E _ (wpAny_truthy_bool h))
theorem EqAt_str_dict {l : Addr} (b : Str) (u : Tok) (hl : IsDct s.heap l) (hu : A.units < cLine) : EqAt A s (.str b u) (.ref l) false := fun prog w E Q h => by
  unfold eqBool
  refine wpAny_holding ?_
  refine wpAny_ite_split (fun hab => absurd (eq_of_beq hab) nofun) (fun _ => ?_)
  exact wpAny_bind (RcAt_str_dict b u hl hu prog w E _ (wpAny_truthy_bool h))
theorem ne_dict_list {l b : Addr} {items : Array Value} (hl : IsDct s.heap l) (hb : s.heap.IsList b items) : l ≠ b := fun e => by
  subst e
  obtain ⟨o, _, _, ho, hc, _⟩ := hl
  obtain ⟨o2, ho2, hc2, _⟩ := hb
  rw [ho] at ho2
  cases ho2
  rw [hc] at hc2
  exact absurd hc2 (by simp)
theorem RcAt_dict_list {l b : Addr} {items : Array Value} (hl : IsDct s.heap l) (hb : s.heap.IsList b items) (hu : A.units < cLine) : RcAt A s (.ref l) (.ref b) false := fun prog w E Q h => by
  have hne := ne_dict_list hl hb
  obtain ⟨⟨cls, dd, data, sl⟩, es, ep, ho, hc, hd⟩ := id hl
  obtain ⟨⟨cls2, dd2, data2, sl2⟩, ho2, hc2, n2, hd2⟩ := id hb
  simp only at hc hd hc2 hd2
  subst hc hd hc2 hd2
  exact (rc_eq_decline_or (k := false) ⟨_, ho, rfl⟩ ⟨_, ho2, rfl⟩ (by decide) F.sub_list_dict F.slot_dict_eq F.slot_list_eq_refl
    (fun _ hq => call_meets F.slot_dict_eq ⟨_, ho, rfl⟩ F.entry_dict_eq (F.args_dict_eq_2 _ _) (dict_declines_list l b es ep dd dd2 sl sl2 items n2) ⟨ho, ho2, hq⟩)
    (fun _ hq => call_meets F.slot_list_eq_refl ⟨_, ho2, rfl⟩ F.entry_list_eq (F.args_list_eq_2 _ _) (list_declines_dict l b es ep dd dd2 sl sl2 items n2) ⟨ho, ho2, hq⟩)
    (fun _ hq => wpAny_isSame_ref_other hne ho ho2 (by simp) hq) (.inr hu) h)
theorem RcAt_list_dict {l b : Addr} {items : Array Value} (hl : IsDct s.heap l) (hb : s.heap.IsList b items) (hu : A.units < cLine) : RcAt A s (.ref b) (.ref l) false := fun prog w E Q h => by
  have hne := (ne_dict_list hl hb).symm
  obtain ⟨⟨cls, dd, data, sl⟩, es, ep, ho, hc, hd⟩ := id hl
  obtain ⟨⟨cls2, dd2, data2, sl2⟩, ho2, hc2, n2, hd2⟩ := id hb
  simp only at hc hd hc2 hd2
  subst hc hd hc2 hd2
  exact (rc_eq_decline_or (k := false) ⟨_, ho2, rfl⟩ ⟨_, ho, rfl⟩ (by decide) F.sub_dict_list F.slot_list_eq F.slot_dict_eq_refl
    (fun _ hq => call_meets F.slot_list_eq ⟨_, ho2, rfl⟩ F.entry_list_eq (F.args_list_eq_2 _ _) (list_declines_dict l b es ep dd dd2 sl sl2 items n2) ⟨ho, ho2, hq⟩)
    (fun _ hq => call_meets F.slot_dict_eq_refl ⟨_, ho, rfl⟩ F.entry_dict_eq (F.args_dict_eq_2 _ _) (dict_declines_list l b es ep dd dd2 sl sl2 items n2) ⟨ho, ho2, hq⟩)
    (fun _ hq => wpAny_isSame_ref_other' hne ho2 ho (by simp) hq) (.inr hu) h)
theorem EqAt_dict_list {l b : Addr} {items : Array Value} (hl : IsDct s.heap l) (hb : s.heap.IsList b items) (hu : A.units < cLine) : EqAt A s (.ref l) (.ref b) false := .of_refs (ne_dict_list hl hb) (RcAt_dict_list hl hb hu)
theorem EqAt_list_dict {l b : Addr} {items : Array Value} (hl : IsDct s.heap l) (hb : s.heap.IsList b items) (hu : A.units < cLine) : EqAt A s (.ref b) (.ref l) false := .of_refs (ne_dict_list hl hb).symm (RcAt_list_dict hl hb hu)
theorem ne_dict_tuple {l b : Addr} {items : Array Value} (hl : IsDct s.heap l) (hb : s.heap.IsTuple b items) : l ≠ b := fun e => by
  subst e
  obtain ⟨o, _, _, ho, hc, _⟩ := hl
  obtain ⟨o2, ho2, hc2, _⟩ := hb
  rw [ho] at ho2
  cases ho2
  rw [hc] at hc2
  exact absurd hc2 (by simp)
theorem RcAt_dict_tuple {l b : Addr} {items : Array Value} (hl : IsDct s.heap l) (hb : s.heap.IsTuple b items) (hu : A.units < cLine) : RcAt A s (.ref l) (.ref b) false := fun prog w E Q h => by
  have hne := ne_dict_tuple hl hb
  obtain ⟨⟨cls, dd, data, sl⟩, es, ep, ho, hc, hd⟩ := id hl
  obtain ⟨⟨cls2, dd2, data2, sl2⟩, ho2, hc2, n2, hd2⟩ := id hb
  simp only at hc hd hc2 hd2
  subst hc hd hc2 hd2
  exact (rc_eq_decline_or (k := false) ⟨_, ho, rfl⟩ ⟨_, ho2, rfl⟩ (by decide) F.sub_tuple_dict F.slot_dict_eq F.slot_tuple_eq_refl
    (fun _ hq => call_meets F.slot_dict_eq ⟨_, ho, rfl⟩ F.entry_dict_eq (F.args_dict_eq_2 _ _) (dict_declines_tuple l b es ep dd dd2 sl sl2 items n2) ⟨ho, ho2, hq⟩)
    (fun _ hq => call_meets F.slot_tuple_eq_refl ⟨_, ho2, rfl⟩ F.entry_tuple_eq (F.args_tuple_eq_2 _ _) (tuple_declines_dict l b es ep dd dd2 sl sl2 items n2) ⟨ho, ho2, hq⟩)
    (fun _ hq => wpAny_isSame_ref_other hne ho ho2 (by simp) hq) (.inr hu) h)
theorem RcAt_tuple_dict {l b : Addr} {items : Array Value} (hl : IsDct s.heap l) (hb : s.heap.IsTuple b items) (hu : A.units < cLine) : RcAt A s (.ref b) (.ref l) false := fun prog w E Q h => by
  have hne := (ne_dict_tuple hl hb).symm
  obtain ⟨⟨cls, dd, data, sl⟩, es, ep, ho, hc, hd⟩ := id hl
  obtain ⟨⟨cls2, dd2, data2, sl2⟩, ho2, hc2, n2, hd2⟩ := id hb
  simp only at hc hd hc2 hd2
  subst hc hd hc2 hd2
  exact (rc_eq_decline_or (k := false) ⟨_, ho2, rfl⟩ ⟨_, ho, rfl⟩ (by decide) F.sub_dict_tuple F.slot_tuple_eq F.slot_dict_eq_refl
    (fun _ hq => call_meets F.slot_tuple_eq ⟨_, ho2, rfl⟩ F.entry_tuple_eq (F.args_tuple_eq_2 _ _) (tuple_declines_dict l b es ep dd dd2 sl sl2 items n2) ⟨ho, ho2, hq⟩)
    (fun _ hq => call_meets F.slot_dict_eq_refl ⟨_, ho, rfl⟩ F.entry_dict_eq (F.args_dict_eq_2 _ _) (dict_declines_tuple l b es ep dd dd2 sl sl2 items n2) ⟨ho, ho2, hq⟩)
    (fun _ hq => wpAny_isSame_ref_other' hne ho2 ho (by simp) hq) (.inr hu) h)
theorem EqAt_dict_tuple {l b : Addr} {items : Array Value} (hl : IsDct s.heap l) (hb : s.heap.IsTuple b items) (hu : A.units < cLine) : EqAt A s (.ref l) (.ref b) false := .of_refs (ne_dict_tuple hl hb) (RcAt_dict_tuple hl hb hu)
theorem EqAt_tuple_dict {l b : Addr} {items : Array Value} (hl : IsDct s.heap l) (hb : s.heap.IsTuple b items) (hu : A.units < cLine) : EqAt A s (.ref b) (.ref l) false := .of_refs (ne_dict_tuple hl hb).symm (RcAt_tuple_dict hl hb hu)
end
end EQD
set_option Elab.async false
set_option linter.all false
set_option maxRecDepth 100000
set_option maxHeartbeats 4000000
/-! EQB: things of any kind compared one by one: x in a list or tuple, == and != of lists. -/
namespace EQB
open PySem PySem.Spec PyProof.Rows L2
open EQD
theorem relV_inj {x y : V} {u : Value} (h : RelV x u) (h' : RelV y u) : x = y := by
  cases x <;> cases y <;> simp only [L2.RelV] at h h' <;> grind
section
variable {X : Cx}
/-- y == x tells b, and changes nothing -/
def EqB (X : Cx) (y x : V) (H : Hp) (b : Bool) : Prop := ∀ (pins : List (Addr × Obj)) (σ : L2.St) (s : Shared) (v u : Value) (A : Around), Inv X pins σ H s → RelV y v → RelV x u → A.units + 64 < cLine → SeqAt.EqAt A s v u b
theorem EqB.dp {y x : V} {H : Hp} {d e : PyData} (hy : Dp X.K H y d) (hx : Dp X.K H x e) (sd : SeqAt.shaped d = true) (se : SeqAt.shaped e = true) : EqB X y x H (PyData.eqv d e) := fun pins σ s v u A I ry rx hu => by
  obtain ⟨as, r1⟩ := Dp.reads I d y v hy ry
  obtain ⟨bs, r2⟩ := Dp.reads I e x u hx rx
  exact SeqAt.eqAt_reads d e A s v u as bs r1 r2 (SeqAt.canLay_of_shaped sd) (SeqAt.canLay_of_shaped se) (SeqAt.room_of_shaped sd hu)
theorem isDct {pins : List (Addr × Obj)} {σ : L2.St} {s : Shared} {H : Hp} {a : Addr} {kvs : List (Key × V)} (I : Inv X pins σ H s) (h : H a = some (.dK kvs)) : IsDct s.heap a := by
  obtain ⟨_, _, _, _, o, es, ep, e, x, d, _⟩ := I.hok a _ h
  exact ⟨o, es, ep, e, x.1, d⟩
/-- a dict is no data else -/
theorem EqB.dctR {y : V} {a : Addr} {H : Hp} {d : PyData} {kvs : List (Key × V)} (hy : Dp X.K H y d) (h : H a = some (.dK kvs)) : EqB X y (.ref a) H false := fun pins σ s v u A I ry rx hu => by
  have D := isDct I h
  have hu0 : A.units < cLine := by omega
  cases (show u = Value.ref a from rx)
  cases hy with
  | non => cases ry; exact EqAt_none_dict D hu0
  | bl b => cases ry; exact EqAt_bool_dict b D hu0
  | int i => obtain ⟨t, rfl⟩ := ry; exact EqAt_int_dict i t D hu0
  | str z => obtain ⟨t, rfl⟩ := ry; exact EqAt_str_dict z t D hu0
  | lst hs _ =>
    cases ry
    obtain ⟨its, _, ⟨o, n, ho, hc, _, hd⟩, _⟩ := I.list hs
    exact EqAt_list_dict D ⟨o, ho, hc, n, hd⟩ hu0
  | tup hs _ =>
    cases ry
    obtain ⟨its, _, ⟨o, ho, hc, n, hd⟩, _⟩ := I.tuple hs
    exact EqAt_tuple_dict D ⟨o, ho, hc, n, hd⟩ hu0
theorem EqB.dctL {x : V} {a : Addr} {H : Hp} {d : PyData} {kvs : List (Key × V)} (hx : Dp X.K H x d) (h : H a = some (.dK kvs)) : EqB X (.ref a) x H false := fun pins σ s v u A I ry rx hu => by
  have D := isDct I h
  have hu0 : A.units < cLine := by omega
  cases (show v = Value.ref a from ry)
  cases hx with
  | non => cases rx; exact EqAt_dict_none D hu0
  | bl b => cases rx; exact EqAt_dict_bool b D hu0
  | int i => obtain ⟨t, rfl⟩ := rx; exact EqAt_dict_int i t D hu0
  | str z => obtain ⟨t, rfl⟩ := rx; exact EqAt_dict_str z t D hu0
  | lst hs _ =>
    cases rx
    obtain ⟨its, _, ⟨o, n, ho, hc, _, hd⟩, _⟩ := I.list hs
    exact EqAt_dict_list D ⟨o, ho, hc, n, hd⟩ hu0
  | tup hs _ =>
    cases rx
    obtain ⟨its, _, ⟨o, ho, hc, n, hd⟩, _⟩ := I.tuple hs
    exact EqAt_dict_tuple D ⟨o, ho, hc, n, hd⟩ hu0
/-- x in a list or a tuple -/
def rInB (X : Cx) (neg : Bool) : R2 := fun x y H Q => ∃ (p : Addr) (ys : List V) (e : V → Bool), y = .ref p ∧ (SqL X.K H p ys ∨ SqT X.K H p ys) ∧ (∀ z ∈ ys, EqB X z x H (e z)) ∧ Q (.bl (if neg = true then !ys.any e else ys.any e)) H
open Classical in
noncomputable def eOf (ys : List V) (e : V → Bool) (u : Value) : Bool := if h : ∃ z, z ∈ ys ∧ RelV z u then e h.choose else false
theorem eOf_eq {ys : List V} {e : V → Bool} {z : V} {u : Value} (hz : z ∈ ys) (r : RelV z u) : eOf ys e u = e z := by
  have h : ∃ z, z ∈ ys ∧ RelV z u := ⟨z, hz, r⟩
  unfold eOf
  rw [dif_pos h, relV_inj h.choose_spec.2 r]
theorem any_eOf {ws : List V} {e : V → Bool} : ∀ {ys : List V} {its : List Value}, (∀ z ∈ ys, z ∈ ws) → Vals ys its → its.any (eOf ws e) = ys.any e
  | [], _, _, .nil => rfl
  | z :: ys, _, hs, .cons r t => by
    rw [List.any_cons, List.any_cons, eOf_eq (hs z List.mem_cons_self) r, any_eOf (fun x hx => hs x (List.mem_cons_of_mem _ hx)) t]
theorem vals_mem {ys : List V} {its : List Value} (r : Vals ys its) {u : Value} (hu : u ∈ its) : ∃ z, z ∈ ys ∧ RelV z u := by
  induction r with
  | nil => cases hu
  | cons r t ih =>
    rcases List.mem_cons.mp hu with rfl | hu
    · exact ⟨_, List.mem_cons_self, r⟩
    · obtain ⟨z, hz, q⟩ := ih hu
      exact ⟨z, List.mem_cons_of_mem _ hz, q⟩
theorem op_inB (hu : X.A.units + 65 < cLine) : OpR X (compareOp .In) (rInB X false) := by
  intro pins s σ H x y v u Q I rx ry h
  obtain ⟨p, ys, e, rfl, hs, he, q⟩ := h
  cases (show u = Value.ref p from ry)
  have go : ∀ {its : List Value}, Vals ys its → (∀ w, w ∈ its.toArray → SeqAt.EqAt X.A.in1 s w v (eOf ys e w)) := fun {its} r w hw => by
    obtain ⟨z, hz, rz⟩ := vals_mem r (by simpa using hw)
    rw [eOf_eq hz rz]
    exact he z hz pins σ s w v X.A.in1 I rz rx (by show X.A.units + 1 + 64 < cLine; omega)
  rcases hs with hs | hs
  · obtain ⟨its, r, ⟨o, n, ho, hc, _, hd⟩, _⟩ := I.list hs
    refine SeqAt.in_listAt (eOf ys e) ⟨o, ho, hc, n, hd⟩ (go r) ⟨.bl _, H, I, rfl, ?_⟩
    rw [List.any_toArray, any_eOf (fun _ h => h) r]
    exact q
  · obtain ⟨its, r, ⟨o, ho, hc, n, hd⟩, _⟩ := I.tuple hs
    refine SeqAt.in_tupleAt (eOf ys e) ⟨o, ho, hc, n, hd⟩ (go r) ⟨.bl _, H, I, rfl, ?_⟩
    rw [List.any_toArray, any_eOf (fun _ h => h) r]
    exact q
theorem op_notInB (hu : X.A.units + 65 < cLine) : OpR X (compareOp .NotIn) (rInB X true) := by
  intro pins s σ H x y v u Q I rx ry h
  obtain ⟨p, ys, e, rfl, hs, he, q⟩ := h
  cases (show u = Value.ref p from ry)
  have go : ∀ {its : List Value}, Vals ys its → (∀ w, w ∈ its.toArray → SeqAt.EqAt X.A.in1 s w v (eOf ys e w)) := fun {its} r w hw => by
    obtain ⟨z, hz, rz⟩ := vals_mem r (by simpa using hw)
    rw [eOf_eq hz rz]
    exact he z hz pins σ s w v X.A.in1 I rz rx (by show X.A.units + 1 + 64 < cLine; omega)
  rcases hs with hs | hs
  · obtain ⟨its, r, ⟨o, n, ho, hc, _, hd⟩, _⟩ := I.list hs
    refine SeqAt.notIn_listAt (eOf ys e) ⟨o, ho, hc, n, hd⟩ (go r) ⟨.bl _, H, I, rfl, ?_⟩
    rw [List.any_toArray, any_eOf (fun _ h => h) r]
    exact q
  · obtain ⟨its, r, ⟨o, ho, hc, n, hd⟩, _⟩ := I.tuple hs
    refine SeqAt.notIn_tupleAt (eOf ys e) ⟨o, ho, hc, n, hd⟩ (go r) ⟨.bl _, H, I, rfl, ?_⟩
    rw [List.any_toArray, any_eOf (fun _ h => h) r]
    exact q
/-- two lists: of unlike lengths, or compared item by item -/
inductive EqL (X : Cx) (H : Hp) : List V → List V → Bool → Prop
  | len {xs ys : List V} : xs.length ≠ ys.length → EqL X H xs ys false
  | all {xs ys : List V} {e : Nat → Bool} : xs.length = ys.length → (∀ i x y, xs[i]? = some x → ys[i]? = some y → EqB X x y H (e i)) → EqL X H xs ys ((List.range xs.length).all e)
/-- == and != of two lists -/
def rLsB (X : Cx) (neg : Bool) : R2 := fun x y H Q => ∃ (p q : Addr) (xs ys : List V) (b : Bool), x = .ref p ∧ y = .ref q ∧ p ≠ q ∧ SqL X.K H p xs ∧ SqL X.K H q ys ∧ EqL X H xs ys b ∧ Q (.bl (if neg = true then !b else b)) H
theorem items {pins : List (Addr × Obj)} {σ : L2.St} {s : Shared} {H : Hp} {xs ys : List V} {e : Nat → Bool} {its js : List Value} {A : Around} (I : Inv X pins σ H s) (r1 : Vals xs its) (r2 : Vals ys js) (hu : A.units + 64 < cLine) (he : ∀ i x y, xs[i]? = some x → ys[i]? = some y → EqB X x y H (e i)) :
    ∀ j (h1 : j < its.toArray.size) (h2 : j < js.toArray.size), SeqAt.EqAt A s its.toArray[j] js.toArray[j] (e j) := fun j h1 h2 => by
  have l1 := r1.length
  have l2 := r2.length
  have h1' : j < xs.length := by rw [l1]; simpa using h1
  have h2' : j < ys.length := by rw [l2]; simpa using h2
  obtain ⟨u1, e1, q1⟩ := r1.get (List.getElem?_eq_getElem h1')
  obtain ⟨u2, e2, q2⟩ := r2.get (List.getElem?_eq_getElem h2')
  have f1 : its.toArray[j] = u1 := by
    have := (List.getElem?_eq_some_iff.mp e1).2
    simpa using this
  have f2 : js.toArray[j] = u2 := by
    have := (List.getElem?_eq_some_iff.mp e2).2
    simpa using this
  rw [f1, f2]
  exact he j _ _ (List.getElem?_eq_getElem h1') (List.getElem?_eq_getElem h2') pins σ s u1 u2 A I q1 q2 hu
theorem op_eqL (hu : X.A.units + 65 < cLine) : OpR X (compareOp .Eq) (rLsB X false) := by
  intro pins s σ H x y v u Q I rx ry h
  obtain ⟨p, q, xs, ys, b, rfl, rfl, pq, hp, hq, eb, k⟩ := h
  cases (show v = Value.ref p from rx)
  cases (show u = Value.ref q from ry)
  obtain ⟨its, r1, ⟨o, n, ho, hc, _, hd⟩, _⟩ := I.list hp
  obtain ⟨js, r2, ⟨o2, n2, ho2, hc2, _, hd2⟩, _⟩ := I.list hq
  have L1 : s.heap.IsList p its.toArray := ⟨o, ho, hc, n, hd⟩
  have L2' : s.heap.IsList q js.toArray := ⟨o2, ho2, hc2, n2, hd2⟩
  have l1 := r1.length
  have l2 := r2.length
  show wpAny _ _ (richCompare .Eq (.ref p) (.ref q)) _ _ _
  cases eb with
  | len hne => exact SeqAt.RcAt.lists_lengths L1 L2' (by simp; omega) (by omega) _ _ _ _ ⟨.bl _, H, I, rfl, k⟩
  | @all e hl he =>
    have hz : its.toArray.size = js.toArray.size := by simp; omega
    refine SeqAt.RcAt.lists L1 L2' hz (by omega) (items (A := X.A.in1) I r1 r2 (by show X.A.units + 1 + 64 < cLine; omega) he) _ _ _ _ ⟨.bl _, H, I, rfl, ?_⟩
    have : its.toArray.size = xs.length := by simp; omega
    rw [this]
    exact k
theorem op_neL (hu : X.A.units + 65 < cLine) : OpR X (compareOp .NotEq) (rLsB X true) := by
  intro pins s σ H x y v u Q I rx ry h
  obtain ⟨p, q, xs, ys, b, rfl, rfl, pq, hp, hq, eb, k⟩ := h
  cases (show v = Value.ref p from rx)
  cases (show u = Value.ref q from ry)
  obtain ⟨its, r1, ⟨o, n, ho, hc, _, hd⟩, _⟩ := I.list hp
  obtain ⟨js, r2, ⟨o2, n2, ho2, hc2, _, hd2⟩, _⟩ := I.list hq
  have L1 : s.heap.IsList p its.toArray := ⟨o, ho, hc, n, hd⟩
  have L2' : s.heap.IsList q js.toArray := ⟨o2, ho2, hc2, n2, hd2⟩
  have l1 := r1.length
  have l2 := r2.length
  show wpAny _ _ (richCompare .NotEq (.ref p) (.ref q)) _ _ _
  cases eb with
  | len hne => exact SeqAt.RcNeAt.lists_lengths L1 L2' (by simp; omega) (by omega) _ _ _ _ ⟨.bl _, H, I, rfl, k⟩
  | @all e hl he =>
    have hz : its.toArray.size = js.toArray.size := by simp; omega
    refine SeqAt.RcNeAt.lists L1 L2' hz (by omega) (items (A := X.A.in1) I r1 r2 (by show X.A.units + 1 + 64 < cLine; omega) he) _ _ _ _ ⟨.bl _, H, I, rfl, ?_⟩
    have : its.toArray.size = xs.length := by simp; omega
    rw [this]
    exact k
end
end EQB
set_option Elab.async false
set_option linter.all false
set_option maxRecDepth 100000
set_option maxHeartbeats 4000000
/-! THI: THG with the type of each thing, and the text that it is: things of many kinds (None, a bool, a number, a text, lists, tuples, dicts), each with its repr's text. -/
namespace THI
open PySem PySem.Spec PyProof.Rows L2
open Builtin Builtin.List
/-- is it a whole number, a bool, or else -/
inductive Kn where
  | whole (i : Int)
  | flag (b : Bool)
  | text (s : Str)
  | non
  | lst
  | tup
  | dct
def Kn.tyn : Kn → String
  | .whole _ => "int"
  | .flag _ => "bool"
  | .text _ => "str"
  | .non => "NoneType"
  | .lst => "list"
  | .tup => "tuple"
  | .dct => "dict"
def Kn.eqI : Kn → Int → Bool
  | .whole j, i => decide (i = j)
  | .flag b, i => decide (i = if b then 1 else 0)
  | _, _ => false
def Kn.isInt : Kn → Bool
  | .whole _ => true
  | .flag _ => true
  | _ => false
def Kn.isFlag : Kn → Bool
  | .flag _ => true
  | _ => false
def Kn.isStr : Kn → Bool
  | .text _ => true
  | _ => false
def Kn.isLst : Kn → Bool
  | .lst => true
  | _ => false
def Kn.isTup : Kn → Bool
  | .tup => true
  | _ => false
theorem Kn.kInt {K : PySem.W.Frag} (k : Kn) : PySem.W.kitOne K (.type k.tyn) (.type "int") = some k.isInt :=
  match k with
  | .whole i => (kit_ty (by decide +kernel) : PySem.W.kitOne K (.type "int") (.type "int") = some true)
  | .flag b => (kit_ty (by decide +kernel) : PySem.W.kitOne K (.type "bool") (.type "int") = some true)
  | .text s => (kit_ty (by decide +kernel) : PySem.W.kitOne K (.type "str") (.type "int") = some false)
  | .non => (kit_ty (by decide +kernel) : PySem.W.kitOne K (.type "NoneType") (.type "int") = some false)
  | .lst => (kit_ty (by decide +kernel) : PySem.W.kitOne K (.type "list") (.type "int") = some false)
  | .tup => (kit_ty (by decide +kernel) : PySem.W.kitOne K (.type "tuple") (.type "int") = some false)
  | .dct => (kit_ty (by decide +kernel) : PySem.W.kitOne K (.type "dict") (.type "int") = some false)
theorem Kn.kFlag {K : PySem.W.Frag} (k : Kn) : PySem.W.kitOne K (.type k.tyn) (.type "bool") = some k.isFlag :=
  match k with
  | .whole i => (kit_ty (by decide +kernel) : PySem.W.kitOne K (.type "int") (.type "bool") = some false)
  | .flag b => (kit_ty (by decide +kernel) : PySem.W.kitOne K (.type "bool") (.type "bool") = some true)
  | .text s => (kit_ty (by decide +kernel) : PySem.W.kitOne K (.type "str") (.type "bool") = some false)
  | .non => (kit_ty (by decide +kernel) : PySem.W.kitOne K (.type "NoneType") (.type "bool") = some false)
  | .lst => (kit_ty (by decide +kernel) : PySem.W.kitOne K (.type "list") (.type "bool") = some false)
  | .tup => (kit_ty (by decide +kernel) : PySem.W.kitOne K (.type "tuple") (.type "bool") = some false)
  | .dct => (kit_ty (by decide +kernel) : PySem.W.kitOne K (.type "dict") (.type "bool") = some false)
theorem Kn.kStr {K : PySem.W.Frag} (k : Kn) : PySem.W.kitOne K (.type k.tyn) (.type "str") = some k.isStr :=
  match k with
  | .whole i => (kit_ty (by decide +kernel) : PySem.W.kitOne K (.type "int") (.type "str") = some false)
  | .flag b => (kit_ty (by decide +kernel) : PySem.W.kitOne K (.type "bool") (.type "str") = some false)
  | .text s => (kit_ty (by decide +kernel) : PySem.W.kitOne K (.type "str") (.type "str") = some true)
  | .non => (kit_ty (by decide +kernel) : PySem.W.kitOne K (.type "NoneType") (.type "str") = some false)
  | .lst => (kit_ty (by decide +kernel) : PySem.W.kitOne K (.type "list") (.type "str") = some false)
  | .tup => (kit_ty (by decide +kernel) : PySem.W.kitOne K (.type "tuple") (.type "str") = some false)
  | .dct => (kit_ty (by decide +kernel) : PySem.W.kitOne K (.type "dict") (.type "str") = some false)
theorem Kn.kLst {K : PySem.W.Frag} (k : Kn) : PySem.W.kitOne K (.type k.tyn) (.type "list") = some k.isLst :=
  match k with
  | .whole i => (kit_ty (by decide +kernel) : PySem.W.kitOne K (.type "int") (.type "list") = some false)
  | .flag b => (kit_ty (by decide +kernel) : PySem.W.kitOne K (.type "bool") (.type "list") = some false)
  | .text s => (kit_ty (by decide +kernel) : PySem.W.kitOne K (.type "str") (.type "list") = some false)
  | .non => (kit_ty (by decide +kernel) : PySem.W.kitOne K (.type "NoneType") (.type "list") = some false)
  | .lst => (kit_ty (by decide +kernel) : PySem.W.kitOne K (.type "list") (.type "list") = some true)
  | .tup => (kit_ty (by decide +kernel) : PySem.W.kitOne K (.type "tuple") (.type "list") = some false)
  | .dct => (kit_ty (by decide +kernel) : PySem.W.kitOne K (.type "dict") (.type "list") = some false)
theorem Kn.kTup {K : PySem.W.Frag} (k : Kn) : PySem.W.kitOne K (.type k.tyn) (.type "tuple") = some k.isTup :=
  match k with
  | .whole i => (kit_ty (by decide +kernel) : PySem.W.kitOne K (.type "int") (.type "tuple") = some false)
  | .flag b => (kit_ty (by decide +kernel) : PySem.W.kitOne K (.type "bool") (.type "tuple") = some false)
  | .text s => (kit_ty (by decide +kernel) : PySem.W.kitOne K (.type "str") (.type "tuple") = some false)
  | .non => (kit_ty (by decide +kernel) : PySem.W.kitOne K (.type "NoneType") (.type "tuple") = some false)
  | .lst => (kit_ty (by decide +kernel) : PySem.W.kitOne K (.type "list") (.type "tuple") = some false)
  | .tup => (kit_ty (by decide +kernel) : PySem.W.kitOne K (.type "tuple") (.type "tuple") = some true)
  | .dct => (kit_ty (by decide +kernel) : PySem.W.kitOne K (.type "dict") (.type "tuple") = some false)
/-- all but tables stay -/
def SN (H H' : Hp) : Prop := ∀ b o, H b = some o → (∀ ps, o ≠ .tbl ps) → H' b = some o
theorem SN.of {H H' : Hp} (s : Same H H') : SN H H' := fun b o e _ => s b o e
theorem SN.up {H0 H H' : Hp} (s : Same H0 H) (s1 : SN H H') : SN H0 H' := fun b o e n => s1 b o (s b o e) n
theorem SN.trans {H0 H H' : Hp} (s : SN H0 H) (s1 : SN H H') : SN H0 H' := fun b o e n => s1 b o (s b o e n) n
/-- no cell but a table's -/
def NT (H : Hp) (a : Addr) : Prop := ∀ v, H a = some v → ∃ ps, v = .tbl ps
theorem NT.of {H : Hp} {a : Addr} (h : H a = none) : NT H a := fun v e => by
  rw [h] at e
  cases e
theorem NT.up {H H' : Hp} {a : Addr} (s : SN H H') (h : NT H' a) : NT H a := fun v e => Classical.byContradiction fun n => n (h v (s a v e fun ps z => n ⟨ps, z⟩))
/-- data, with its repr's text -/
structure Dt (H : Hp) (x : V) (y : PyData) (t : Str) (n : Nat) : Prop where
  dpN : ∀ K H1, SN H H1 → Dp K H1 x y
  rpN : ∀ X outs H1, SN H H1 → (∀ o ∈ outs, NT H o) → RPO.RpU X n outs H1 x t
inductive DtAll (H : Hp) : List V → List PyData → List Str → Nat → Prop
  | nil {n : Nat} : DtAll H [] [] [] n
  | cons {x : V} {y : PyData} {t : Str} {xs : List V} {ys : List PyData} {ts : List Str} {n : Nat} : Dt H x y t n → DtAll H xs ys ts n → DtAll H (x :: xs) (y :: ys) (t :: ts) n
theorem none_up {H H' : Hp} {o : Addr} (s : Same H H') (h : H' o = none) : H o = none := by
  cases e : H o with
  | none => rfl
  | some z =>
    rw [s _ _ e] at h
    cases h
theorem Dt.same {H H' : Hp} {x : V} {y : PyData} {t : Str} {n : Nat} (h : Dt H x y t n) (s : Same H H') : Dt H' x y t n :=
  ⟨fun K H1 s1 => h.dpN K H1 (SN.up s s1), fun X outs H1 s1 ho => h.rpN X outs H1 (SN.up s s1) fun o q => NT.up (SN.of s) (ho o q)⟩
theorem Dt.mono {H : Hp} {x : V} {y : PyData} {t : Str} {n m : Nat} (h : Dt H x y t n) (nm : n ≤ m) : Dt H x y t m :=
  ⟨h.dpN, fun X outs H1 s1 ho => (h.rpN X outs H1 s1 ho).mono nm⟩
theorem DtAll.dp {H H1 : Hp} {K : PySem.W.Frag} (s : SN H H1) : ∀ {xs : List V} {ys : List PyData} {ts : List Str} {n : Nat}, DtAll H xs ys ts n → DpAll K H1 xs ys
  | _, _, _, _, .nil => .nil
  | _, _, _, _, .cons a b => .cons (a.dpN _ _ s) (DtAll.dp s b)
theorem DtAll.rp {H H1 : Hp} {X : Cx} {outs : List Addr} (s : SN H H1) (ho : ∀ o ∈ outs, NT H o) : ∀ {xs : List V} {ys : List PyData} {ts : List Str} {n : Nat}, DtAll H xs ys ts n → RPO.RpAll X n outs H1 xs ts
  | _, _, _, _, .nil => .nil
  | _, _, _, _, .cons a b => .cons (a.rpN _ _ _ s ho) (DtAll.rp s ho b)
/-- nothing is there -/
def N0 : Hp := fun _ => none
theorem s0 (H : Hp) : Same N0 H := fun _ _ e => nomatch e
theorem Dt.non {n : Nat} : Dt N0 .non .none "None" n := ⟨fun _ _ _ => .non, fun _ _ _ _ _ => .non⟩
theorem Dt.bl {n : Nat} (b : Bool) : Dt N0 (.bl b) (.bool b) (if b then "True" else "False") n := ⟨fun _ _ _ => .bl b, fun _ _ _ _ _ => .bl⟩
theorem Dt.int {n : Nat} {i : Int} (h : i.natAbs.log2 < 1920) : Dt N0 (.int i) (.int i) (toString i) n := ⟨fun _ _ _ => .int i, fun _ _ _ _ _ => .int h⟩
theorem Dt.str {n : Nat} (z : Str) : Dt N0 (.str z) (.str z) (reprText z) n := ⟨fun _ _ _ => .str z, fun _ _ _ _ _ => .str⟩
section
variable {H0 H : Hp} {a : Addr} {xs : List V} {ys : List PyData} {ts : List Str} {n : Nat}
theorem out_of {H : Hp} {a : Addr} {o : HO} {outs : List Addr} (h : H a = some o) (nt : ∀ ps, o ≠ .tbl ps) (ho : ∀ o ∈ outs, NT H o) : a ∉ outs := fun z => by
  obtain ⟨ps, e⟩ := ho a z _ h
  exact nt ps e
theorem SN.tup {H1 : Hp} (s : SN H H1) (h : H a = some (.tup xs)) : H1 a = some (.tup xs) := s _ _ h fun _ z => nomatch z
theorem SN.lst {H1 : Hp} (s : SN H H1) (h : H a = some (.lst xs)) : H1 a = some (.lst xs) := s _ _ h fun _ z => nomatch z
theorem SN.dK {H1 : Hp} {kvs : List (Key × V)} (s : SN H H1) (h : H a = some (.dK kvs)) : H1 a = some (.dK kvs) := s _ _ h fun _ z => nomatch z
theorem Dt.tup (h : H a = some (.tup xs)) (hs : DtAll H0 xs ys ts n) (s : Same H0 H) (z : H0 a = none) : Dt H (.ref a) (.tuple ys) (tupleText ts) (n + 1) :=
  ⟨fun K H1 s1 => .tup (SqT.of (s1.tup h)) (hs.dp (SN.up s s1)), fun X outs H1 s1 ho => .tup (s1.tup h) (out_of h (fun _ z => nomatch z) ho) (hs.rp (SN.up s s1) fun o q => by
    rcases List.mem_cons.mp q with rfl | q
    · exact NT.of z
    · exact NT.up (SN.of s) (ho o q))⟩
theorem Dt.list (h : H a = some (.lst xs)) (hx : xs ≠ []) (hs : DtAll H0 xs ys ts n) (s : Same H0 H) (z : H0 a = none) : Dt H (.ref a) (.list ys) (listText ts) (n + 1) :=
  ⟨fun K H1 s1 => .lst (SqL.of (s1.lst h)) (hs.dp (SN.up s s1)), fun X outs H1 s1 ho => .list (s1.lst h) (out_of h (fun _ z => nomatch z) ho) hx (hs.rp (SN.up s s1) fun o q => by
    rcases List.mem_cons.mp q with rfl | q
    · exact NT.of z
    · exact NT.up (SN.of s) (ho o q))⟩
theorem Dt.list0 (h : H a = some (.lst [])) : Dt H (.ref a) (.list []) "[]" n :=
  ⟨fun K H1 s1 => .lst (SqL.of (s1.lst h)) .nil, fun X outs H1 s1 ho => .list0 (s1.lst h) (out_of h (fun _ z => nomatch z) ho)⟩
end
/-- a thing -/
structure Thg (H : Hp) (x : V) (k : Kn) (t : Str) (n : Nat) : Prop where
  eqN : ∀ X H1, SN H H1 → ∀ i : Int, EQB.EqB X (.int i) x H1 (k.eqI i)
  rpN : ∀ X outs H1, SN H H1 → (∀ o ∈ outs, NT H o) → RPO.RpU X n outs H1 x t
  tyN : ∀ K H1, SN H H1 → TyX K H1 x (.type k.tyn)
  val : ∀ i, k = .whole i → x = .int i
  flg : ∀ b, k = .flag b → x = .bl b
  txt : ∀ s, k = .text s → x = .str s
  len : t.length ≤ 100
section
variable {H H' : Hp} {x : V} {k : Kn} {t : Str} {n : Nat}
theorem Thg.eq (h : Thg H x k t n) (X : Cx) (H1 : Hp) (s : Same H H1) (i : Int) : EQB.EqB X (.int i) x H1 (k.eqI i) := h.eqN X H1 (SN.of s) i
theorem Thg.rp (h : Thg H x k t n) (X : Cx) (outs : List Addr) (H1 : Hp) (s : Same H H1) (ho : ∀ o ∈ outs, H o = none) : RPO.RpU X n outs H1 x t := h.rpN X outs H1 (SN.of s) fun o q => NT.of (ho o q)
theorem Thg.ty (h : Thg H x k t n) (K : PySem.W.Frag) (H1 : Hp) (s : Same H H1) : ∃ ty : String, TyX K H1 x (.type ty) ∧ PySem.W.kitOne K (.type ty) (.type "int") = some k.isInt ∧ PySem.W.kitOne K (.type ty) (.type "bool") = some k.isFlag := ⟨k.tyn, h.tyN K H1 (SN.of s), k.kInt, k.kFlag⟩
theorem Thg.same (h : Thg H x k t n) (s : Same H H') : Thg H' x k t n :=
  ⟨fun X H1 s1 => h.eqN X H1 (SN.up s s1), fun X outs H1 s1 ho => h.rpN X outs H1 (SN.up s s1) fun o q => NT.up (SN.of s) (ho o q), fun K H1 s1 => h.tyN K H1 (SN.up s s1), h.val, h.flg, h.txt, h.len⟩
theorem Thg.mono {m : Nat} (h : Thg H x k t n) (nm : n ≤ m) : Thg H x k t m := ⟨h.eqN, fun X outs H1 s1 ho => (h.rpN X outs H1 s1 ho).mono nm, h.tyN, h.val, h.flg, h.txt, h.len⟩
theorem Thg.of {y : PyData} (d : Dt H x y t n) (sh : SeqAt.shaped y = true) (e : ∀ i : Int, PyData.eqv (.int i) y = k.eqI i) (ty : ∀ K H1, SN H H1 → TyX K H1 x (.type k.tyn))
    (val : ∀ i, k = .whole i → x = .int i) (flg : ∀ b, k = .flag b → x = .bl b) (txt : ∀ s, k = .text s → x = .str s) (len : t.length ≤ 100) : Thg H x k t n :=
  ⟨fun X H1 s i => by
    rw [← e i]
    exact EQB.EqB.dp (.int i) (d.dpN _ _ s) rfl sh, d.rpN, ty, val, flg, txt, len⟩
theorem Thg.int {i : Int} (h : i.natAbs.log2 < 1920) (l : ((toString i : String) : Str).length ≤ 100) : Thg N0 (.int i) (.whole i) (toString i) n :=
  .of (Dt.int h) rfl (fun j => by rw [Bool.eq_iff_iff]; simp [PyData.eqv, Kn.eqI]) (fun K H1 _ => .base (.int i)) (fun j e => by cases e; rfl) (fun b e => by cases e) (fun s e => by cases e) l
theorem Thg.bl (b : Bool) : Thg N0 (.bl b) (.flag b) (if b then "True" else "False") n :=
  .of (Dt.bl b) rfl (fun j => by rw [Bool.eq_iff_iff]; cases b <;> simp [PyData.eqv, Kn.eqI]) (fun K H1 _ => .base (.bl b)) (fun j e => by cases e) (fun c e => by cases e; rfl) (fun s e => by cases e) (by cases b <;> decide)
theorem Thg.non : Thg N0 .non .non "None" n :=
  .of Dt.non rfl (fun j => by simp [PyData.eqv, Kn.eqI]) (fun K H1 _ => .base .non) (fun j e => by cases e) (fun b e => by cases e) (fun s e => by cases e) (by decide)
theorem Thg.str (z : Str) (ok : PyData.strOk z = true) (l : (reprText z).length ≤ 100) : Thg N0 (.str z) (.text z) (reprText z) n :=
  .of (Dt.str z) (by simp [SeqAt.shaped, PyData.canLay0, PyData.depth, ok]) (fun j => by simp [PyData.eqv, Kn.eqI]) (fun K H1 _ => .base (.str z)) (fun j e => by cases e) (fun b e => by cases e) (fun s e => by cases e; rfl) l
theorem Thg.lst {a : Addr} {xs : List V} {ys : List PyData} (h : H a = some (.lst xs)) (d : Dt H (.ref a) (.list ys) t n) (sh : SeqAt.shaped (.list ys) = true) (l : t.length ≤ 100) : Thg H (.ref a) .lst t n :=
  .of d sh (fun j => by simp [PyData.eqv, Kn.eqI]) (fun K H1 s => .base (.lst (s.lst h))) (fun j e => by cases e) (fun b e => by cases e) (fun s e => by cases e) l
theorem Thg.tup {a : Addr} {xs : List V} {ys : List PyData} (h : H a = some (.tup xs)) (d : Dt H (.ref a) (.tuple ys) t n) (sh : SeqAt.shaped (.tuple ys) = true) (l : t.length ≤ 100) : Thg H (.ref a) .tup t n :=
  .of d sh (fun j => by simp [PyData.eqv, Kn.eqI]) (fun K H1 s => .base (.tup (s.tup h))) (fun j e => by cases e) (fun b e => by cases e) (fun s e => by cases e) l
theorem Thg.dct {a : Addr} {kvs : List (Key × V)} {ps : List Str} (h : H a = some (.dK kvs)) (es : ∀ X outs H1, RPO.RpEnt X n (a :: outs) H1 kvs ps) (l : (dictText ps).length ≤ 100) : Thg H (.ref a) .dct (dictText ps) (n + 1) :=
  ⟨fun X H1 s i => EQB.EqB.dctR (.int i) (s.dK h), fun X outs H1 s ho => .dct (s.dK h) (out_of h (fun _ z => nomatch z) ho) (es X outs H1), fun K H1 s => .base (.dK (s.dK h)), fun j e => (by cases e), fun b e => (by cases e), fun s e => (by cases e), l⟩
end
open Classical in
/-- all but some cells -/
noncomputable def out (q : Addr → Prop) (H : Hp) : Hp := fun a => if q a then none else H a
section
variable {q : Addr → Prop} {H H' : Hp} {a : Addr}
theorem out_le : Same (out q H) H := fun a o e => by
  unfold out at e
  by_cases c : q a
  · rw [if_pos c] at e
    cases e
  · rw [if_neg c] at e
    exact e
theorem out_not {o : HO} (e : out q H a = some o) : ¬ q a := fun c => by
  unfold out at e
  rw [if_pos c] at e
  cases e
theorem out_at {o : HO} (e : H a = some o) (n : ¬ q a) : out q H a = some o := by
  unfold out
  rw [if_neg n]
  exact e
theorem out_none (e : H a = none) : out q H a = none := by
  unfold out
  rw [e, ite_self]
theorem out_kp (k : ∀ b o, H b = some o → ¬ q b → H' b = some o) : Same (out q H) (out q H') := fun a o e => out_at (k a o (out_le a o e) (out_not e)) (out_not e)
theorem out_same (s : Same H H') : Same (out q H) (out q H') := out_kp fun b o e _ => s b o e
theorem out_ne (e : H a = none) (n : ∀ b, q b → H b ≠ none) : ¬ q a := fun z => n a z e
theorem same_some (s : Same H H') (n : ∀ b, q b → H b ≠ none) : ∀ b, q b → H' b ≠ none := fun b c z => n b c (none_up s z)
end
/-- x in a list or a tuple, within a comprehension too -/
def rInA (K : PySem.W.Frag) (neg : Bool) : R2 := fun x y H Q => ∃ (p : Addr) (ys : List V) (e : V → Bool), y = .ref p ∧ (SqL K H p ys ∨ SqT K H p ys) ∧ (∀ X : Cx, X.K = K → ∀ z ∈ ys, EQB.EqB X z x H (e z)) ∧ Q (.bl (if neg = true then !(ys.any e) else ys.any e)) H
theorem op_inA {X : Cx} {K : PySem.W.Frag} (hX : X.K = K) (hu : X.A.units + 65 < cLine) : OpR X (compareOp .In) (rInA K false) := fun pins s σ H x y v u Q I rx ry ⟨p, ys, e, ey, hs, he, q⟩ => by
  subst hX
  exact EQB.op_inB hu pins s σ H x y v u Q I rx ry ⟨p, ys, e, ey, hs, fun z hz => he X rfl z hz, q⟩
theorem op_notInA {X : Cx} {K : PySem.W.Frag} (hX : X.K = K) (hu : X.A.units + 65 < cLine) : OpR X (compareOp .NotIn) (rInA K true) := fun pins s σ H x y v u Q I rx ry ⟨p, ys, e, ey, hs, he, q⟩ => by
  subst hX
  exact EQB.op_notInB hu pins s σ H x y v u Q I rx ry ⟨p, ys, e, ey, hs, fun z hz => he X rfl z hz, q⟩
end THI
set_option Elab.async false
set_option linter.all false
set_option maxRecDepth 100000
set_option maxHeartbeats 4000000
/-! TXL: how long the texts of containers are; lists and tuples of texts, shown. -/
namespace TXL
open PySem PySem.Spec PyProof.Rows L2
open SX (S)
open RPO
open THI (SN)
theorem rt_len {z : List Nat} (h : NM.ok z) : (reprText (S z)).length ≤ 133 := by
  have ok : PyData.strOk (S z) = true := by
    unfold PyData.strOk
    rw [← Array.all_toList, List.all_eq_true]
    intro c hc
    have := h.2.2 c hc
    exact decide_eq_true (by omega)
  have hc : (S z).cps.toList.all (fun c => decide (c < 16 ^ 8)) = true := by
    rw [List.all_eq_true]
    intro c hc
    have := h.2.2 c hc
    exact decide_eq_true (by omega)
  have h1 := PyData.shown_le 13 (by decide) (.str (S z)) (by simp only [PyData.leavesShort]; exact hc)
  have e : (PyData.str (S z)).shown = reprText (S z) := by simp only [PyData.shown]
  have w1 : (PyData.str (S z)).weight = z.length := by simp only [PyData.weight]; rfl
  have := h.2.1
  rw [e] at h1
  omega
theorem piled_le {ts : List Str} {n : Nat} (h : ∀ t ∈ ts, t.length ≤ n) : piled ts ≤ (n + 2) * ts.length := by
  induction ts with
  | nil => exact Nat.zero_le _
  | cons t ts ih =>
    rw [piled_cons, List.length_cons, Nat.mul_add]
    have := h t List.mem_cons_self
    have := ih fun x hx => h x (List.mem_cons_of_mem _ hx)
    omega
theorem join_le (ts : List Str) : (Str.join ", " ts).length ≤ piled ts := by
  by_cases h : ts = []
  · subst h
    decide
  · have := join_length_add ts h
    omega
theorem tt_le (ts : List Str) : (tupleText ts).length ≤ piled ts + 3 := by
  unfold tupleText
  rw [PySem.strLen_append, PySem.strLen_append]
  have e1 : ((("(" : String) : Str)).length = 1 := rfl
  have e3 : (((if ts.length == 1 then ",)" else ")" : String) : Str)).length ≤ 2 := by split <;> decide
  rw [e1]
  have := join_le ts
  omega
theorem lt_le (ts : List Str) : (listText ts).length ≤ piled ts + 2 := by
  unfold listText
  rw [PySem.strLen_append]
  have e2 : ((("]" : String) : Str)).length = 1 := rfl
  have e1 : ((("[" : String) : Str)).length = 1 := rfl
  have h := textFrom_len_le ts 0 "["
  have hp : piled ts = (ts.map (·.length)).sum + 2 * ts.length := by
    clear h
    induction ts with
    | nil => rfl
    | cons t ts ih => rw [piled_cons, ih, List.map_cons, List.sum_cons, List.length_cons]; omega
  rw [e1] at h
  rw [e2]
  omega
/-- a list's text -/
def ltx (ts : List Str) : Str := if ts = [] then "[]" else listText ts
theorem ltx_le (ts : List Str) : (ltx ts).length ≤ piled ts + 2 := by
  unfold ltx
  split
  · exact Nat.le_trans (by decide : (("[]" : String) : Str).length ≤ 2) (Nat.le_add_left _ _)
  · exact lt_le ts
theorem tt_n {ts : List Str} {n m : Nat} (h : ∀ t ∈ ts, t.length ≤ n) (l : ts.length ≤ m) : (tupleText ts).length ≤ (n + 2) * m + 3 := by
  have h1 := tt_le ts
  have h2 := piled_le h
  have h3 : (n + 2) * ts.length ≤ (n + 2) * m := Nat.mul_le_mul_left _ l
  omega
theorem ltx_n {ts : List Str} {n m : Nat} (h : ∀ t ∈ ts, t.length ≤ n) (l : ts.length ≤ m) : (ltx ts).length ≤ (n + 2) * m + 2 := by
  have h1 := ltx_le ts
  have h2 := piled_le h
  have h3 : (n + 2) * ts.length ≤ (n + 2) * m := Nat.mul_le_mul_left _ l
  omega
section
variable {X : Cx} {n : Nat}
theorem rp_all {α : Type} {outs : List Addr} {H : Hp} {g : α → V} {t : α → Str} : ∀ {l : List α}, (∀ x ∈ l, RpU X n outs H (g x) (t x)) → RpAll X n outs H (l.map g) (l.map t)
  | [], _ => .nil
  | x :: l, h => .cons (h x List.mem_cons_self) (rp_all fun y hy => h y (List.mem_cons_of_mem _ hy))
theorem rp_strs {outs : List Addr} {H : Hp} (F : List Str) : RpAll X n outs H (F.map V.str) (F.map reprText) := rp_all fun _ _ => .str
theorem rp_list {outs : List Addr} {H : Hp} {a : Addr} {xs : List V} {ts : List Str} (ha : H a = some (.lst xs)) (na : a ∉ outs) (h : RpAll X n (a :: outs) H xs ts) : RpU X (n + 1) outs H (.ref a) (ltx ts) := by
  unfold ltx
  have ln := h.len
  by_cases e : ts = []
  · rw [if_pos e]
    rw [e] at ln
    have : xs = [] := List.length_eq_zero_iff.mp ln.symm
    rw [this] at ha
    exact RpU.list0 ha na
  · rw [if_neg e]
    exact RpU.list ha na (fun z => e (by rw [z] at ln; exact List.length_eq_zero_iff.mp ln)) h
end
end TXL
set_option Elab.async false
set_option linter.all false
set_option maxRecDepth 100000
set_option maxHeartbeats 4000000
/-! RPN: repr's text of a name: the name between two strokes. -/
namespace RPN
open PySem PySem.Spec PyProof.Rows L2
open Builtin Builtin.Str
open SX (S)
theorem char_ok : ∀ c, c < 123 → 97 ≤ c → reprChar 39 c = [c] := by decide +kernel
theorem fold_ok : ∀ (l : List Nat) (acc : List Nat), (∀ c ∈ l, 97 ≤ c ∧ c ≤ 122) → l.foldl (fun (out : Array Nat) c => out ++ (reprChar 39 c).toArray) acc.toArray = (acc ++ l).toArray
  | [], acc, _ => by simp
  | c :: l, acc, h => by
    have hc := h c List.mem_cons_self
    rw [List.foldl_cons, char_ok c (by omega) hc.1]
    have e : acc.toArray ++ [c].toArray = (acc ++ [c]).toArray := by simp
    rw [e, fold_ok l (acc ++ [c]) fun d hd => h d (List.mem_cons_of_mem _ hd)]
    simp
theorem quote_ok {l : List Nat} (h : ∀ c ∈ l, 97 ≤ c ∧ c ≤ 122) : reprQuote (S l) = 39 := by
  have h39 : (39 : Nat) ∉ l := fun z => by have := h 39 z; omega
  unfold reprQuote
  simp [S, h39]
theorem repr_nm {l : List Nat} (ok : NM.ok l) : reprText (S l) = S (39 :: (l ++ [39])) := by
  unfold reprText
  rw [quote_ok ok.2.2]
  show (⟨((S l).cps.foldl (fun out c => out ++ (reprChar 39 c).toArray) #[39]).push 39⟩ : PySem.Str) = _
  rw [← Array.foldl_toList]
  have e := fold_ok (S l).cps.toList [39] ok.2.2
  rw [show (#[39] : Array Nat) = [39].toArray from rfl, e]
  simp [S]
end RPN
set_option Elab.async false
set_option linter.all false
set_option maxRecDepth 100000
set_option maxHeartbeats 4000000
namespace K90
open PySem PySem.Spec PyProof.Rows L2
open C8 (Cal Mak Met pe_c pe_mk pe_mt pe_mt0)
open THI PySem.Builtin PySem.Builtin.List
open SX (S)
/-- a thing and what it shows as -/
inductive It (C : Addr) (G : Hp) : V → Str → Prop
  | dat {v : V} {d : PyData} : (∀ K H, Same G H → Dp K H v d) → d.showable = true → d.hasDict = false → d.depth ≤ 60 → d.shown.length ≤ sizeLine → It C G v d.shown
  | own {p : Addr} {q : Int × Int} : Sh C G p q → Sm q.1 → Sm q.2 → It C G (.ref p) (rpq q)
  | lst {l p : Addr} {q : Int × Int} : G l = some (.lst [.ref p]) → Sh C G p q → Sm q.1 → Sm q.2 → It C G (.ref l) (listText [rpq q])
  | dct {p : Addr} : G p = some (.dK [(Sum.inr "a", .int 1)]) → It C G (.ref p) (dictText [reprText "a" ++ ": " ++ (toString (1 : Int) : String)])
theorem Sh.to {C p : Addr} {H H' : Hp} {q : Int × Int} (h : Sh C H p q) (s : Same H H') : Sh C H' p q := by
  obtain ⟨dx, e⟩ := h
  exact ⟨dx, s _ _ e⟩
theorem It.same {C : Addr} {G G' : Hp} {v : V} {t : Str} (h : It C G v t) (s : Same G G') : It C G' v t := by
  cases h with
  | dat hd h1 h2 h3 h4 => exact .dat (fun K H s' => hd K H (s.trans s')) h1 h2 h3 h4
  | own hp a b => exact .own (Sh.to hp s) a b
  | lst hl hp a b => exact .lst (s _ _ hl) (Sh.to hp s) a b
  | dct hp => exact .dct (s _ _ hp)
def rRepI (C : Addr) : List V → Hp → VK → Prop := fun ys H Q => ∃ (v : V) (t : Str), ys = [v] ∧ It C H v t ∧ ∀ H', Same H H' → Q (.str t) H'
theorem rpq_len {q : Int × Int} (h1 : Sm q.1) (h2 : Sm q.2) : (rpq q).length ≤ 411 := by
  have k1 := h1.len
  have k2 := h2.len
  unfold rpq
  rw [len_cat, len_cat, len_cat, len_cat, l_sh, l_cm, l_cl]
  omega
theorem call_reprI {X : Cx} {C : Addr} (hgd : X.A.guards = some []) (hr : Room 6 X.A) (Sr : OW.Spc X.prog X.w X.K X.mg X.base 1 C "__repr__" (spTx C rpq)) : CallR X (.builtin "repr") (rRepI C) := by
  intro pins s σ H ys us Q I r h
  obtain ⟨v, t, rfl, it, q⟩ := h
  have hu : X.A.units + 64 < cLine := by have := hr.un; omega
  cases it with
  | dat hd h1 h2 h3 h4 => exact GL.call_reprD hgd hu pins s σ H _ us Q I r ⟨_, _, rfl, hd _ _ (Same.refl _), h1, h2, h3, h4, q _ (Same.refl _)⟩
  | own hp a b =>
    obtain ⟨dx, e⟩ := id hp
    exact OW.call_reprO Sr (hr.mono (by decide)) pins s σ H _ us Q I r ⟨_, dx, _, rfl, e, _, _, rfl, hp, a, b, _, rfl, q _ (Same.refl _)⟩
  | @lst l p qq hl hp a b =>
    obtain ⟨dx, e⟩ := id hp
    have npl : p ≠ l := fun z => by
      rw [z, hl] at e
      cases e
    have lp := rpq_len a b
    have ll := listText_len_le [rpq qq]
    simp only [List.map_cons, List.map_nil, List.sum_cons, List.sum_nil, List.length_cons, List.length_nil] at ll
    exact RPO.call_reprL (n := 4) hgd hr pins s σ H _ us Q I r ⟨l, _, _, rfl, hl, List.cons_ne_nil _ _, .cons (RPO.RpU.own (k := 1) Sr e (by simpa using npl) (fun H' e' => ⟨p, qq, rfl, ⟨dx, e'⟩, a, b, rfl, Ext.rfl'⟩) (by decide)) .nil, big (by omega), fun H' x => q H' x⟩
  | @dct p hp =>
    exact RPO.call_reprDc (n := 4) hgd hr pins s σ H _ us Q I r ⟨p, _, _, rfl, hp, .cons (.str) (.int (by decide +kernel)) .nil, by decide +kernel, fun H' x => q H' x⟩
end K90
set_option Elab.async false
set_option linter.all false
set_option maxRecDepth 100000
set_option maxHeartbeats 4000000
namespace K90
open PySem PySem.Spec PyProof.Rows L2
open C8 (Cal Mak Met pe_c pe_mk pe_mt pe_mt0)
open THI PySem.Builtin PySem.Builtin.List
open SX (S)
def ItAll (C : Addr) (G : Hp) (xs : List V) : Prop := ∀ v ∈ xs, ∃ t, It C G v t
theorem ItAll.nil {C : Addr} {G : Hp} : ItAll C G [] := fun v h => nomatch h
theorem ItAll.same {C : Addr} {G G' : Hp} {xs : List V} (h : ItAll C G xs) (s : Same G G') : ItAll C G' xs := fun v hv => let ⟨t, i⟩ := h v hv; ⟨t, i.same s⟩
theorem ItAll.snoc {C : Addr} {G : Hp} {xs : List V} {x : V} {t : Str} (h : ItAll C G xs) (i : It C G x t) : ItAll C G (xs ++ [x]) := fun v hv => by
  rcases List.mem_append.mp hv with hv | hv
  · exact h v hv
  · rw [List.mem_singleton.mp hv]
    exact ⟨t, i⟩
section
variable {C : Addr} {G : Hp}
theorem It.non : It C G .non (PyData.none).shown := .dat (d := .none) (fun _ _ _ => .non) rfl rfl (by decide) (by decide +kernel)
theorem It.bl {b : Bool} : It C G (.bl b) (PyData.bool b).shown := .dat (d := .bool b) (fun _ _ _ => .bl b) rfl rfl (by simp [PyData.depth]) (by cases b <;> decide +kernel)
theorem It.int {i : Int} (h : Sm i) : It C G (.int i) (PyData.int i).shown := .dat (d := .int i) (fun _ _ _ => .int i) (decide_eq_true h.log) rfl (by simp [PyData.depth]) (big (by have := h.len; show (Str.ofString (toString i)).length ≤ 2000; omega))
theorem It.str {z : Str} (h : (reprText z).length ≤ 2000) : It C G (.str z) (PyData.str z).shown := .dat (d := .str z) (fun _ _ _ => .str z) rfl rfl (by simp [PyData.depth]) (big h)
theorem It.nm {l : List Nat} (ok : NM.ok l) : It C G (.str (S l)) (PyData.str (S l)).shown := It.str (by
  rw [RPN.repr_nm ok, SX.S_len]
  have := ok.1
  have := ok.2.1
  simp only [List.length_cons, List.length_append, List.length_nil]
  omega)
end
section
variable {P : Program} {w : World} {K : PySem.W.Frag} {mg : Str → Option Value} {base : Heap} {f C : Addr} {fd : FuncData}
theorem mk_in {C x dx : Addr} {H1 : Hp} {t b : Int} {n : Nat} {Qv : VK} {E : XK} (nx : H1 x = none) (nd : H1 dx = none) (hb : b ≠ 0) (hn : b.natAbs < 2 ^ n) (hn0 : 0 < n) (hn9 : n ≤ 9000)
    (hQ : ∀ H', Same H1 H' → Sh C H' x (KM.low t b) → Qv .non H') : spInit C [.ref x, .int t, .int b] (upd (upd H1 dx (.own x)) x (.ins C dx [])) Qv E := by
  refine ⟨x, dx, t, b, n, rfl, hb, hn, hn0, hn9, upd_same, fun H' kp hp => hQ H' (fun a o e => ?_) ⟨dx, hp⟩⟩
  refine kp a o (ne_of_none e nx) ?_
  rw [upd_ne (ne_of_none e nx), upd_ne (ne_of_none e nd)]
  exact e
theorem Sh.out {C p h : Addr} {H : Hp} {q : Int × Int} (x : Sh C H p q) (n : p ≠ h) : Sh C (THI.out (fun b => b = h) H) p q := by
  obtain ⟨dx, e⟩ := x
  exact ⟨dx, out_at e n⟩
theorem at_in {xs : List V} {r : Int} {n : Nat} (h0 : 0 ≤ r) (h1 : r < n) (hn : xs.length = n) : ∃ v, atI xs r = some v ∧ v ∈ xs := by
  obtain ⟨j, rfl⟩ := Int.eq_ofNat_of_zero_le h0
  obtain ⟨v, hv⟩ : ∃ v, xs[j]? = some v := ⟨_, List.getElem?_eq_getElem (by omega)⟩
  exact ⟨v, atI_nat hv, List.mem_of_getElem? hv⟩
def spTh (C : Addr) : Sp := fun vs H Q _ => ∃ (h : Addr) (c n : Nat), vs = [.ref h, .int (n : Int)] ∧ Held H h (c + 60) ∧ ∀ v t H', Held H' h c → Kp h H H' → It C (out (fun b => b = h) H') v t → Q v H'
/-- one of a list, drawn -/
theorem pickT {h u : Addr} {c n : Nat} {H0 H H' : Hp} {ws : List V} {r : Int} {Q : VK} (hu : H u = some (.lst ws)) (nu : u ≠ h) (all : ItAll C (out (fun b => b = h) H) ws) (ln : ws.length = n) (a : 0 ≤ r) (b : r < n) (held : Held H' h c) (k : Kp h H H') (k0 : Kp h H0 H)
    (hQ : ∀ v t H', Held H' h c → Kp h H0 H' → It C (out (fun b => b = h) H') v t → Q v H') {R : Prop} (fin : ∀ v, H' u = some (.lst ws) → atI ws r = some v → Q v H' → R) : R := by
  obtain ⟨v, hv, hm⟩ := at_in a b ln
  obtain ⟨t, it⟩ := all v hm
  exact fin v (k.1 _ _ hu nu) hv (hQ v t H' held (k0.trans k) (it.same (out_kp fun b o e n => k.1 b o e n)))
theorem ok_th (F : Dn K d_l_thing f fd) (b : Bl mg) (cD : CalD P w K mg base) (cN : Cal P w K mg base 2 "_law_names" spNames []) (MS : MakS P w K mg base C) (M1 : Mak P w K mg base 2 "Share" C (spInit C) [.int 1]) : FnOk P w K mg base CX0 4 f fd ["_law_held_here", "_law_number"] (spTh C) := by
  refine F.ok sc_l_thing (fun vs H Q E h => ?_) (fun cdv A outer s H vs Q E hr h => ?_)
  · obtain ⟨h, c, n, rfl, _⟩ := h
    rfl
  · obtain ⟨h, c, n, rfl, held, hQ⟩ := h
    refine ⟨_, PSs.nox (pss_cons (ps_if (pt_cmpR op_in_seq (pv 1) (pe_tup (pa_cons pe_int (pa_cons pe_int (pa_cons pe_int pa_nil)))) (by rfl))
        (pss_one (ps_ret (pe_ix ix_list (pe_lst (pa_cons pe_str (pa_cons pe_str (pa_cons (pe_ix ix_list (pe_c cN hr (by decide) rfl (pa_cons (pv 0) (pa_cons pe_int pa_nil))) pe_int (fun _ _ => rfl)) pa_nil)))) (pe_c cD hr (by decide) rfl (pa_cons (pv 0) (pa_cons pe_int pa_nil))) (fun _ _ => rfl)))) pss_nil)
      (pss_cons (ps_if (pt_cmpR op_in_seq (pv 1) (pe_tup (pa_cons pe_int (pa_cons pe_int (pa_cons pe_int (pa_cons pe_int pa_nil))))) (by rfl))
        (pss_one (ps_ret (pe_ix ix_list (pe_lst (pa_cons pe_int (pa_cons pe_int (pa_cons (pe_c cD hr (by decide) rfl (pa_cons (pv 0) (pa_cons (pe_op op_pow pe_int pe_int) pa_nil))) (pa_cons (pe_ifExp (pt_cmpR op_eq (pv 1) pe_int (nomark _)) (pe_un un_neg pe_int) pe_int) (pa_cons (pe_op op_pow pe_int pe_int) pa_nil))))))
          (pe_c cD hr (by decide) rfl (pa_cons (pv 0) (pa_cons pe_int pa_nil))) (fun _ _ => rfl)))) pss_nil)
      (pss_cons (ps_if (pt_cmpR op_eq (pv 1) pe_int (nomark _)) (pss_one (ps_ret (pe_mk MS hr (by decide) rfl (pa_cons (pe_op op_sub (pe_c cD hr (by decide) rfl (pa_cons (pv 0) (pa_cons pe_int pa_nil))) pe_int) (pa_cons (pe_op op_add pe_int (pe_c cD hr (by decide) rfl (pa_cons (pv 0) (pa_cons pe_int pa_nil)))) pa_nil))))) pss_nil)
      (pss_cons (ps_set (i := 2) sc_l_thing.nd rfl (.inl rfl) (pe_lst (pa_cons pe_non (pa_cons pe_bl (pa_cons pe_bl (pa_cons pe_int (pa_cons (pe_un un_neg pe_int) (pa_cons (pe_op op_pow pe_int pe_int) (pa_cons pe_str (pa_cons pe_str (pa_cons (pe_ix ix_list (pe_c cN hr (by decide) rfl (pa_cons (pv 0) (pa_cons pe_int pa_nil))) pe_int (fun _ _ => rfl))
          (pa_cons (pe_lst pa_nil) (pa_cons (pe_lst (pa_cons pe_str pa_nil)) (pa_cons (pe_tup pa_nil) (pa_cons (pe_tup (pa_cons pe_str (pa_cons pe_int pa_nil))) (pa_cons (pe_disp (pps_cons pe_str pe_int pps_nil) rfl rfl (List.cons_ne_nil _ _) (by decide)) pa_nil))))))))))))))))
      (pss_one (ps_ret (pe_ix ix_list (pe_op op_cat (pv 2) (pe_lst (pa_cons (pe_mk MS hr (by decide) rfl (pa_cons pe_int (pa_cons pe_int pa_nil))) (pa_cons (pe_lst (pa_cons (pe_mk M1 hr (by decide) rfl (pa_cons pe_int pa_nil)) pa_nil)) (pa_cons (pe_c cD hr (by decide) rfl (pa_cons (pv 0) (pa_cons (pe_op op_pow pe_int pe_int) pa_nil))) pa_nil)))))
          (pe_c cD hr (by decide) rfl (pa_cons (pv 0) (pa_cons pe_int pa_nil))) (fun _ _ => rfl)))))))), ?_⟩
    have ht : ∀ {G : Hp} {c : Nat} {u : Addr}, Held G h c → G u = none → u ≠ h := fun {G c u} x e z => by
      obtain ⟨l, ns, n, m, h1, _⟩ := x
      rw [z, h1] at e
      cases e
    refine ⟨_, rfl, by show 3 ≤ sizeLine; decide, fun t1 f1 => ⟨t1, _, rfl, .inr (SqT.of upd_same), rfl, rfl, _, rfl, ?_⟩⟩
    have s1 := same_new (o := .tup [.int 6, .int 14, .int 15]) f1
    generalize upd H t1 (.tup [.int 6, .int 14, .int 15]) = H1 at s1 ⊢
    have held1 := held.same s1
    have k1 : Kp h H H1 := Kp.same s1
    refine ite2 (fun _ => ?_) (fun _ => ?_)
    · -- a text
      refine ⟨_, rfl, h, c + 20, 1, rfl, held1.weak (by omega), by decide, fun o zs H2 held2 k2 _ ho lz okz _ => ?_⟩
      obtain ⟨l, rfl⟩ := List.length_eq_one_iff.mp lz
      have okl := okz l List.mem_cons_self
      refine ⟨o, _, _, .str (S l), rfl, rfl, SqL.of ho, rfl, ?_⟩
      refine ⟨by show 3 ≤ sizeLine; decide, fun u fu => ?_⟩
      have su := same_new (o := .lst [.str "day", .str "late", .str (S l)]) fu
      have hu : (upd H2 u (.lst [.str "day", .str "late", .str (S l)])) u = some (.lst [.str "day", .str "late", .str (S l)]) := upd_same
      have nu := ht held2 fu
      generalize upd H2 u (.lst [.str "day", .str "late", .str (S l)]) = H3 at su hu ⊢
      have all : ItAll C (out (fun b => b = h) H3) [.str "day", .str "late", .str (S l)] := ((ItAll.nil.snoc (It.str (by decide +kernel))).snoc (It.str (by decide +kernel))).snoc (It.nm okl)
      refine ⟨_, rfl, h, c, 3, rfl, (held2.same su).weak (by omega), by decide, by decide, fun r H4 a4 b4 held4 k4 => ?_⟩
      exact pickT hu nu all rfl a4 b4 held4 k4 ((k1.trans k2).trans (Kp.same su)) hQ fun v e1 e2 q => ⟨u, _, _, v, rfl, rfl, SqL.of e1, e2, q⟩
    refine ⟨_, rfl, by show 4 ≤ sizeLine; decide, fun t2 f2 => ⟨t2, _, rfl, .inr (SqT.of upd_same), rfl, rfl, _, rfl, ?_⟩⟩
    have s2 := same_new (o := .tup [.int 1, .int 7, .int 10, .int 11]) f2
    generalize upd H1 t2 (.tup [.int 1, .int 7, .int 10, .int 11]) = H2 at s2 ⊢
    have held2 := held1.same s2
    have k2 : Kp h H H2 := k1.trans (Kp.same s2)
    clear held1 k1 s1 s2 f1 f2 held
    have small : ∀ {r : Int}, 0 ≤ r → r < 1000000 → Sm r := fun {r} a b => Nat.lt_of_lt_of_le (by omega : r.natAbs < 2 ^ 20) (by decide)
    refine ite2 (fun _ => ?_) (fun _ => ?_)
    · -- a number
      refine ⟨_, rfl, _, _, rfl, rfl, ⟨by decide, by decide, by decide⟩, h, c + 20, _, rfl, held2.weak (by omega), by decide, by decide, fun r H3 a3 b3 held3 k3 => ?_⟩
      have sr : Sm r := small a3 b3
      refine ⟨_, rfl, rfl, _, rfl, ite2 (fun _ => ?_) (fun _ => ?_)⟩
      · refine ⟨_, rfl, ?_⟩
        refine ⟨_, _, rfl, rfl, ⟨by decide, by decide, by decide⟩, by show 5 ≤ sizeLine; decide, fun u fu => ?_⟩
        have su := same_new (o := .lst [.int 0, .int 1, .int r, .int (-7), .int (10 ^ 20)]) fu
        have hu : (upd H3 u (.lst [.int 0, .int 1, .int r, .int (-7), .int (10 ^ 20)])) u = some (.lst [.int 0, .int 1, .int r, .int (-7), .int (10 ^ 20)]) := upd_same
        have nu := ht held3 fu
        have all : ItAll C (out (fun b => b = h) (upd H3 u (.lst [.int 0, .int 1, .int r, .int (-7), .int (10 ^ 20)]))) [.int 0, .int 1, .int r, .int (-7), .int (10 ^ 20)] := ((((ItAll.nil.snoc (It.int (by unfold Sm; decide))).snoc (It.int (by unfold Sm; decide))).snoc (It.int sr)).snoc (It.int (by unfold Sm; decide))).snoc (It.int (by unfold Sm; decide))
        refine ⟨_, rfl, h, c, 5, rfl, (held3.same su).weak (by omega), by decide, by decide, fun r' H4 a4 b4 held4 k4 => ?_⟩
        exact pickT hu nu all rfl a4 b4 held4 k4 ((k2.trans k3).trans (Kp.same su)) hQ fun v e1 e2 q => ⟨u, _, _, v, rfl, rfl, SqL.of e1, e2, q⟩
      · refine ⟨_, _, rfl, rfl, ⟨by decide, by decide, by decide⟩, by show 5 ≤ sizeLine; decide, fun u fu => ?_⟩
        have su := same_new (o := .lst [.int 0, .int 1, .int r, .int (7), .int (10 ^ 20)]) fu
        have hu : (upd H3 u (.lst [.int 0, .int 1, .int r, .int (7), .int (10 ^ 20)])) u = some (.lst [.int 0, .int 1, .int r, .int (7), .int (10 ^ 20)]) := upd_same
        have nu := ht held3 fu
        have all : ItAll C (out (fun b => b = h) (upd H3 u (.lst [.int 0, .int 1, .int r, .int (7), .int (10 ^ 20)]))) [.int 0, .int 1, .int r, .int (7), .int (10 ^ 20)] := ((((ItAll.nil.snoc (It.int (by unfold Sm; decide))).snoc (It.int (by unfold Sm; decide))).snoc (It.int sr)).snoc (It.int (by unfold Sm; decide))).snoc (It.int (by unfold Sm; decide))
        refine ⟨_, rfl, h, c, 5, rfl, (held3.same su).weak (by omega), by decide, by decide, fun r' H4 a4 b4 held4 k4 => ?_⟩
        exact pickT hu nu all rfl a4 b4 held4 k4 ((k2.trans k3).trans (Kp.same su)) hQ fun v e1 e2 q => ⟨u, _, _, v, rfl, rfl, SqL.of e1, e2, q⟩
    refine ⟨_, rfl, rfl, _, rfl, ite2 (fun _ => ?_) (fun _ => ?_)⟩
    · -- a Share
      refine ⟨_, rfl, h, c + 20, 90, rfl, held2.weak (by omega), by decide, by decide, fun r H3 a3 b3 held3 k3 => ?_⟩
      refine ⟨_, _, rfl, rfl, _, rfl, h, c, 9, rfl, held3.weak (by omega), by decide, by decide, fun r' H4 a4 b4 held4 k4 => ?_⟩
      refine ⟨_, _, rfl, rfl, ?_⟩
      intro p dx np nd _
      refine mk_in (n := 30) np nd (by omega) (by omega) (by decide) (by decide) fun H5 s5 hp => ⟨rfl, ?_⟩
      have np' := ht held4 np
      have lo1 : (KM.low (r - 40) (1 + r')).1.natAbs ≤ (r - 40).natAbs := KM.low_top_le (by omega)
      have lo2 : (KM.low (r - 40) (1 + r')).2.natAbs ≤ (1 + r').natAbs := KM.low_bot_le (by omega)
      have e30 : 2 ^ 30 < 2 ^ 200 := by decide
      refine hQ (.ref p) _ H5 (held4.same s5) (((k2.trans k3).trans k4).trans (Kp.same s5)) (.own (Sh.out hp np') ?_ ?_)
      · show (KM.low (r - 40) (1 + r')).1.natAbs < 2 ^ 200
        omega
      · show (KM.low (r - 40) (1 + r')).2.natAbs < 2 ^ 200
        omega
    -- any thing
    refine ⟨_, rfl, _, _, rfl, rfl, ⟨by decide, by decide, by decide⟩, ?_⟩
    refine ⟨_, rfl, h, c + 10, 1, rfl, held2.weak (by omega), by decide, fun o zs H3 held3 k3 _ ho lz okz _ => ?_⟩
    obtain ⟨l, rfl⟩ := List.length_eq_one_iff.mp lz
    have okl := okz l List.mem_cons_self
    refine ⟨o, _, _, .str (S l), rfl, rfl, SqL.of ho, rfl, ?_⟩
    clear ho
    have kp := k2.trans k3
    clear k2 k3 held2
    have all : ItAll C (out (fun b => b = h) H3) [.non, .bl true, .bl false, .int 0, .int (-7), .int (10 ^ (20 : Int).toNat), .str "", .str "day", .str (S l)] :=
      ((((((((ItAll.nil.snoc It.non).snoc It.bl).snoc It.bl).snoc (It.int (by unfold Sm; decide))).snoc (It.int (by unfold Sm; decide))).snoc (It.int (by unfold Sm; decide))).snoc (It.str (by decide +kernel))).snoc (It.str (by decide +kernel))).snoc (It.nm okl)
    refine ⟨by show 0 ≤ sizeLine; decide, fun a4 f4 => ?_⟩
    have s4 := same_new (o := .lst []) f4
    have e4 : (upd H3 a4 (.lst [])) a4 = some (.lst []) := upd_same
    have n4 := ht held3 f4
    have held3 := held3.same s4
    have kp := kp.trans (Kp.same s4)
    have all := all.same (out_same (q := fun b => b = h) s4)
    generalize upd H3 a4 (.lst []) = H4 at s4 e4 held3 kp all ⊢
    have it4 : It C (out (fun b => b = h) H4) (.ref a4) (PyData.list []).shown := .dat (d := .list []) (fun K H s => .lst (SqL.of (s _ _ (out_at e4 n4))) .nil) (by decide) (by decide) (by decide) (by decide +kernel)
    have all : ItAll C (out (fun b => b = h) H4) [.non, .bl true, .bl false, .int 0, .int (-7), .int (10 ^ (20 : Int).toNat), .str "", .str "day", .str (S l), .ref a4] := all.snoc it4
    clear it4 s4 e4 n4
    refine ⟨by show 1 ≤ sizeLine; decide, fun a5 f5 => ?_⟩
    have s5 := same_new (o := .lst [.str "a"]) f5
    have e5 : (upd H4 a5 (.lst [.str "a"])) a5 = some (.lst [.str "a"]) := upd_same
    have n5 := ht held3 f5
    have held3 := held3.same s5
    have kp := kp.trans (Kp.same s5)
    have all := all.same (out_same (q := fun b => b = h) s5)
    generalize upd H4 a5 (.lst [.str "a"]) = H5 at s5 e5 held3 kp all ⊢
    have it5 : It C (out (fun b => b = h) H5) (.ref a5) (PyData.list [.str "a"]).shown := .dat (d := .list [.str "a"]) (fun K H s => .lst (SqL.of (s _ _ (out_at e5 n5))) (.cons (.str _) .nil)) (by decide) (by decide) (by decide) (by decide +kernel)
    have all : ItAll C (out (fun b => b = h) H5) [.non, .bl true, .bl false, .int 0, .int (-7), .int (10 ^ (20 : Int).toNat), .str "", .str "day", .str (S l), .ref a4, .ref a5] := all.snoc it5
    clear it5 s5 e5 n5
    refine ⟨by show 0 ≤ sizeLine; decide, fun a6 f6 => ?_⟩
    have s6 := same_new (o := .tup []) f6
    have e6 : (upd H5 a6 (.tup [])) a6 = some (.tup []) := upd_same
    have n6 := ht held3 f6
    have held3 := held3.same s6
    have kp := kp.trans (Kp.same s6)
    have all := all.same (out_same (q := fun b => b = h) s6)
    generalize upd H5 a6 (.tup []) = H6 at s6 e6 held3 kp all ⊢
    have it6 : It C (out (fun b => b = h) H6) (.ref a6) (PyData.tuple []).shown := .dat (d := .tuple []) (fun K H s => .tup (SqT.of (s _ _ (out_at e6 n6))) .nil) (by decide) (by decide) (by decide) (by decide +kernel)
    have all : ItAll C (out (fun b => b = h) H6) [.non, .bl true, .bl false, .int 0, .int (-7), .int (10 ^ (20 : Int).toNat), .str "", .str "day", .str (S l), .ref a4, .ref a5, .ref a6] := all.snoc it6
    clear it6 s6 e6 n6
    refine ⟨by show 2 ≤ sizeLine; decide, fun a7 f7 => ?_⟩
    have s7 := same_new (o := .tup [.str "a", .int 1]) f7
    have e7 : (upd H6 a7 (.tup [.str "a", .int 1])) a7 = some (.tup [.str "a", .int 1]) := upd_same
    have n7 := ht held3 f7
    have held3 := held3.same s7
    have kp := kp.trans (Kp.same s7)
    have all := all.same (out_same (q := fun b => b = h) s7)
    generalize upd H6 a7 (.tup [.str "a", .int 1]) = H7 at s7 e7 held3 kp all ⊢
    have it7 : It C (out (fun b => b = h) H7) (.ref a7) (PyData.tuple [.str "a", .int 1]).shown := .dat (d := .tuple [.str "a", .int 1]) (fun K H s => .tup (SqT.of (s _ _ (out_at e7 n7))) (.cons (.str _) (.cons (.int _) .nil))) (by decide) (by decide) (by decide) (by decide +kernel)
    have all : ItAll C (out (fun b => b = h) H7) [.non, .bl true, .bl false, .int 0, .int (-7), .int (10 ^ (20 : Int).toNat), .str "", .str "day", .str (S l), .ref a4, .ref a5, .ref a6, .ref a7] := all.snoc it7
    clear it7 s7 e7 n7
    intro a8 f8
    have z8 : (upd H7 a8 (.dK [])) a8 = some (.dK []) := upd_same
    refine ⟨z8, ([((Sum.inr "a" : Key), V.int 1)] : List (Key × V)), rfl, by show 1 ≤ _; decide, ?_⟩
    have m8 : mergeK [] ([((Sum.inr "a" : Key), V.int 1)] : List (Key × V)) = [((Sum.inr "a" : Key), V.int 1)] := by rfl
    rw [m8]
    have s8 : Same H7 (upd (upd H7 a8 (.dK [])) a8 (.dK [((Sum.inr "a" : Key), V.int 1)])) := fun b o e => by rw [upd_ne (ne_of_none e f8), upd_ne (ne_of_none e f8)]; exact e
    have e8 : (upd (upd H7 a8 (.dK [])) a8 (.dK [((Sum.inr "a" : Key), V.int 1)])) a8 = some (.dK [((Sum.inr "a" : Key), V.int 1)]) := upd_same
    have n8 := ht held3 f8
    have held3 := held3.same s8
    have kp := kp.trans (Kp.same s8)
    have all := all.same (out_same (q := fun b => b = h) s8)
    generalize upd (upd H7 a8 (.dK [])) a8 (.dK [((Sum.inr "a" : Key), V.int 1)]) = H8 at s8 e8 held3 kp all ⊢
    have all : ItAll C (out (fun b => b = h) H8) [.non, .bl true, .bl false, .int 0, .int (-7), .int (10 ^ (20 : Int).toNat), .str "", .str "day", .str (S l), .ref a4, .ref a5, .ref a6, .ref a7, .ref a8] := all.snoc (.dct (out_at e8 n8))
    clear s8 e8 n8 z8 m8
    refine ⟨by show 14 ≤ sizeLine; decide, fun a9 f9 => ?_⟩
    have s9 := same_new (o := .lst [.non, .bl true, .bl false, .int 0, .int (-7), .int (10 ^ (20 : Int).toNat), .str "", .str "day", .str (S l), .ref a4, .ref a5, .ref a6, .ref a7, .ref a8]) f9
    have e9 : (upd H8 a9 (.lst [.non, .bl true, .bl false, .int 0, .int (-7), .int (10 ^ (20 : Int).toNat), .str "", .str "day", .str (S l), .ref a4, .ref a5, .ref a6, .ref a7, .ref a8])) a9 = some (.lst [.non, .bl true, .bl false, .int 0, .int (-7), .int (10 ^ (20 : Int).toNat), .str "", .str "day", .str (S l), .ref a4, .ref a5, .ref a6, .ref a7, .ref a8]) := upd_same
    have n9 := ht held3 f9
    have held3 := held3.same s9
    have kp := kp.trans (Kp.same s9)
    have all := all.same (out_same (q := fun b => b = h) s9)
    set_option simprocs false in dsimp only
    generalize upd H8 a9 (.lst [.non, .bl true, .bl false, .int 0, .int (-7), .int (10 ^ (20 : Int).toNat), .str "", .str "day", .str (S l), .ref a4, .ref a5, .ref a6, .ref a7, .ref a8]) = H9 at s9 e9 held3 kp all ⊢
    clear s9
    refine ⟨_, rfl, ?_⟩
    intro p1 dx1 np1 nd1 _
    refine mk_in (n := 30) np1 nd1 (by decide) (by decide) (by decide) (by decide) fun H10 s10 hp1 => ⟨rfl, ?_⟩
    have m1 := ht held3 np1
    have held3 := held3.same s10
    have kp := kp.trans (Kp.same s10)
    have all := all.same (out_same (q := fun b => b = h) s10)
    have e9 := s10 _ _ e9
    clear s10
    intro p2 dx2 np2 nd2 _
    refine mk_in (n := 30) np2 nd2 (by decide) (by decide) (by decide) (by decide) fun H11 s11 hp2 => ⟨rfl, ?_⟩
    have m2 := ht held3 np2
    have held3 := held3.same s11
    have kp := kp.trans (Kp.same s11)
    have all := all.same (out_same (q := fun b => b = h) s11)
    have e9 := s11 _ _ e9
    have hp1 := Sh.to hp1 s11
    clear s11
    refine ⟨by show 1 ≤ sizeLine; decide, fun u1 fu1 => ?_⟩
    have s12 := same_new (o := .lst [.ref p2]) fu1
    have e12 : (upd H11 u1 (.lst [.ref p2])) u1 = some (.lst [.ref p2]) := upd_same
    have n12 := ht held3 fu1
    have held3 := held3.same s12
    have kp := kp.trans (Kp.same s12)
    have all := all.same (out_same (q := fun b => b = h) s12)
    have e9 := s12 _ _ e9
    have hp1 := Sh.to hp1 s12
    have hp2 := Sh.to hp2 s12
    generalize upd H11 u1 (.lst [.ref p2]) = H12 at s12 e12 held3 kp all e9 hp1 hp2 ⊢
    clear s12
    refine ⟨_, rfl, _, _, rfl, rfl, ⟨by decide, by decide, by decide⟩, h, c + 5, _, rfl, held3.weak (by omega), by decide, by decide, fun r H13 a13 b13 held13 k13 => ?_⟩
    have sr : Sm r := small a13 b13
    have so := out_kp (q := fun b => b = h) (fun b o e n => k13.1 b o e n)
    have all := all.same so
    have i1 : It C (out (fun b => b = h) H13) (.ref p1) _ := (It.own (Sh.out hp1 m1) (by unfold Sm; decide) (by unfold Sm; decide)).same so
    have i2 : It C (out (fun b => b = h) H13) (.ref u1) _ := (It.lst (out_at e12 n12) (Sh.out hp2 m2) (by unfold Sm; decide) (by unfold Sm; decide)).same so
    have i3 : It C (out (fun b => b = h) H13) (.int r) _ := It.int sr
    have e9 := k13.1 _ _ e9 n9
    have kp := kp.trans k13
    clear so k13 held3 hp1 hp2 e12
    refine ⟨by show 3 ≤ sizeLine; decide, fun u2 fu2 => ?_⟩
    have s14 := same_new (o := .lst [.ref p1, .ref u1, .int r]) fu2
    have e14 : (upd H13 u2 (.lst [.ref p1, .ref u1, .int r])) u2 = some (.lst [.ref p1, .ref u1, .int r]) := upd_same
    have held14 := held13.same s14
    have kp := kp.trans (Kp.same s14)
    have so := out_same (q := fun b => b = h) s14
    have all := all.same so
    have i1 := i1.same so
    have i2 := i2.same so
    have i3 := i3.same so
    have e9 := s14 _ _ e9
    generalize upd H13 u2 (.lst [.ref p1, .ref u1, .int r]) = H14 at s14 e14 held14 kp all i1 i2 i3 e9 ⊢
    clear s14 so
    refine ⟨a9, u2, _, _, rfl, rfl, e9, e14, by show 14 + 3 ≤ sizeLine; decide, fun u3 fu3 => ?_⟩
    have s15 := same_new (o := .lst ([.non, .bl true, .bl false, .int 0, .int (-7), .int (10 ^ (20 : Int).toNat), .str "", .str "day", .str (S l), .ref a4, .ref a5, .ref a6, .ref a7, .ref a8] ++ [.ref p1, .ref u1, .int r])) fu3
    have e15 : (upd H14 u3 (.lst ([.non, .bl true, .bl false, .int 0, .int (-7), .int (10 ^ (20 : Int).toNat), .str "", .str "day", .str (S l), .ref a4, .ref a5, .ref a6, .ref a7, .ref a8] ++ [.ref p1, .ref u1, .int r]))) u3 = some (.lst ([.non, .bl true, .bl false, .int 0, .int (-7), .int (10 ^ (20 : Int).toNat), .str "", .str "day", .str (S l), .ref a4, .ref a5, .ref a6, .ref a7, .ref a8] ++ [.ref p1, .ref u1, .int r])) := upd_same
    have n15 := ht held14 fu3
    have so := out_same (q := fun b => b = h) s15
    have all : ItAll C (out (fun b => b = h) (upd H14 u3 (.lst ([.non, .bl true, .bl false, .int 0, .int (-7), .int (10 ^ (20 : Int).toNat), .str "", .str "day", .str (S l), .ref a4, .ref a5, .ref a6, .ref a7, .ref a8] ++ [.ref p1, .ref u1, .int r])))) ([.non, .bl true, .bl false, .int 0, .int (-7), .int (10 ^ (20 : Int).toNat), .str "", .str "day", .str (S l), .ref a4, .ref a5, .ref a6, .ref a7, .ref a8] ++ [.ref p1, .ref u1, .int r]) := (((all.same so).snoc (i1.same so)).snoc (i2.same so)).snoc (i3.same so)
    refine ⟨_, rfl, h, c, 17, rfl, (held14.same s15).weak (by omega), by decide, by decide, fun r' H16 a16 b16 held16 k16 => ?_⟩
    exact pickT e15 n15 all rfl a16 b16 held16 k16 (kp.trans (Kp.same s15)) hQ fun v e1 e2 q => ⟨u3, _, _, v, rfl, rfl, SqL.of e1, e2, q⟩
end
end K90
set_option Elab.async false
set_option linter.all false
set_option maxRecDepth 100000
set_option maxHeartbeats 4000000
namespace K90
open PySem PySem.Spec PyProof.Rows L2
open C8 (Cal Mak Met pe_c pe_mk pe_mt pe_mt0)
open EXV (Xc)
/-! the sixteen, by their number -/
def owC (n : Nat) : Str → Bool := fun x => decide (x = nmC n)
def trC : List (List String) := [["TypeError"], ["ZeroDivisionError", "ArithmeticError"], ["ArithmeticError"], ["ArithmeticError"], ["ValueError"], ["ValueError"], ["ValueError"], ["ValueError"], ["KeyError", "LookupError"], ["LookupError"], ["IndexError", "LookupError"], ["OverflowError", "ArithmeticError"], ["RuntimeError"], ["NotImplementedError", "RuntimeError"], [], []]
def abC (n : Nat) : String → Bool := fun x => (trC.getD n []).contains x
def kwC (n : Nat) : Str := kw16.getD n ""
def plC (n : Nat) : List Int := ([[0], [1, 2], [2], [2], [3], [3], [3], [3], [4, 5], [5], [5, 6], [2, 7], [8], [8, 9], [], []] : List (List Int)).getD n []
theorem all16 {p : Nat → Prop} (h : ∀ n : Fin 16, p n.val) : ∀ n, n < 16 → p n := fun n hn => h ⟨n, hn⟩
theorem fnd_all : ∀ n, n < 16 → fnd (owC n) = [kwC n] := all16 (by decide +kernel)
theorem ab_all : ∀ n, n < 16 → (ex10.map fun x => abC n x) = (List.range 10).map (abv (plC n)) := all16 (by decide +kernel)
theorem pl_all : ∀ n, n < 16 → (kwC n, plC n) ∈ plc := all16 (by decide +kernel)
theorem kw_at : ∀ n, n < 16 → kw16[n]? = some (kwC n) := all16 (by decide +kernel)
theorem sh_all : ∀ n, n < 16 → SeqAt.shaped (.list [.str (kwC n)]) = true := all16 (by decide +kernel)
/-- what is known of all of them -/
structure C16 (K : PySem.W.Frag) (mg : Str → Option Value) : Prop where
  ex : ∀ n, n < 16 → Ex K mg (He.ga K (nmC n)) (owC n) (abC n)
  xf : ∀ n, n < 16 → XfC K (He.ga K (nmC n))
  no : ∀ n, n < 16 → PySem.W.findIn K (.ref (He.ga K (nmC n))) (flC n) = some none
theorem dp_bls {K : PySem.W.Frag} {H : Hp} : ∀ bs : List Bool, DpAll K H (bs.map V.bl) (bs.map .bool)
  | [] => .nil
  | b :: bs => .cons (.bl b) (dp_bls bs)
theorem eqv_cons (a b : PyData) (as bs : List PyData) : PyData.eqvAll (a :: as) (b :: bs) = (PyData.eqv a b && PyData.eqvAll as bs) := by simp [PyData.eqvAll]
theorem bls_same : ∀ bs : List Bool, PyData.eqvAll (bs.map .bool) (bs.map .bool) = true
  | [] => by simp [PyData.eqvAll]
  | b :: bs => by
    rw [List.map_cons, eqv_cons, bls_same bs]
    cases b <;> simp [PyData.eqv]
theorem eqv_bls (bs : List Bool) : PyData.eqv (.list (bs.map .bool)) (.list (bs.map .bool)) = true := by
  rw [show ∀ a b : List PyData, PyData.eqv (.list a) (.list b) = PyData.eqvAll a b from fun a b => by rw [PyData.eqv]]
  exact bls_same bs
theorem eqv_str (x : Str) : PyData.eqv (.list [.str x]) (.list [.str x]) = true := by simp [PyData.eqv, PyData.eqvAll]
section
variable {P : Program} {w : World} {K : PySem.W.Frag} {mg : Str → Option Value} {base : Heap} {f C : Addr} {fd : FuncData}
def spKiA (K : PySem.W.Frag) : Sp := fun vs H Q E => ∃ n, n < 16 ∧ spKi (He.ga K (nmC n)) (owC n) (abC n) vs H Q E
theorem ok_kiA (F : Dn K d_l_kinds f fd) (b : Bl mg) (bz : mg "zip" = none) (T : C16 K mg) : FnOk P w K mg base CX0 1 f fd ["_law_error"] (spKiA K) :=
  ⟨fun vs H Q E ⟨n, hn, h⟩ => (ok_ki (P := P) (w := w) (base := base) F b bz (T.ex n hn)).len vs H Q E h, fun A outer s H args us vs Q E hr he hb hv ⟨n, hn, h⟩ => (ok_ki F b bz (T.ex n hn)).run A outer s H args us vs Q E hr he hb hv h⟩
end
end K90
set_option Elab.async false
set_option linter.all false
set_option maxRecDepth 100000
set_option maxHeartbeats 4000000
namespace K90
open PySem PySem.Spec PyProof.Rows L2
open C8 (Cal Mak Met pe_c pe_mk pe_mt pe_mt0)
open EXV (Xc)
open EXW (Dct)
section
variable {P : Program} {w : World} {K : PySem.W.Frag} {mg : Str → Option Value} {base : Heap} {f C : Addr} {fd : FuncData}
def spLaw (K : PySem.W.Frag) : Sp := fun vs H Q _ => ∃ (a : Addr) (ns : List Int), vs = [.ref a] ∧ SqL K H a (ns.map V.int) ∧ ns.length ≤ 63 ∧ ∀ H', Q (.bl true) H'
theorem ok_law (F : Dn K d_law f fd) (b : Bl mg) (brep : mg "repr" = none) (T : C16 K mg) (cH : Cal P w K mg base 1 "_law_held" (spHeld K) []) (cD : CalD P w K mg base) (cTh : Cal P w K mg base 4 "_law_thing" (spTh C) [])
    (cFi : Cal P w K mg base 3 "_law_first" (spMd K 0 8) []) (cSe : Cal P w K mg base 3 "_law_second" (spMd K 8 16) []) (cK : Cal P w K mg base 1 "_law_kinds" (spKiA K) []) (cB : Cal P w K mg base 1 "_law_bases" spBa []) (cF : Cal P w K mg base 1 "_law_field" (spFld K) [])
    (Sr : OW.Spc P w K mg base 1 C "__repr__" (spTx C rpq)) : GL.FnG P w K mg base 8 f fd ["_law_script"] (spLaw K) := by
  refine GL.okG F sc_law (fun vs H Q E h => ?_) (fun cdv A outer s H vs Q E hgd hr h => ?_)
  · obtain ⟨a, ns, rfl, _⟩ := h
    rfl
  · obtain ⟨a, ns, rfl, hS, hlen, hQ⟩ := h
    have hgd2 : (A.deeper (envOfC d_law.qual d_law.scope s.heap.objs.size f cdv)).guards = some [] := hgd
    have hu64 : (A.deeper (envOfC d_law.qual d_law.scope s.heap.objs.size f cdv)).units + 64 < cLine := by have := hr.un; omega
    refine ⟨_, PSs.nox (pss_cons (ps_set (i := 1) sc_law.nd rfl (.inl rfl) (pe_c cH hr (by decide) rfl (pa_cons (pv 0) pa_nil)))
      (pss_cons (ps_set (i := 2) sc_law.nd rfl (.inl rfl) (pe_bm PySem.F.plainAttrs_str PySem.F.slot_str_split PySem.F.type_str_split mt_split pe_str (pa_cons pe_str pa_nil)))
      (pss_cons (ps_for PassesOwn.never rfl (pi_range1 rfl b.range (pa_cons (pe_op op_add pe_int (pe_c cD hr (by decide) rfl (pa_cons (pv 1) (pa_cons pe_int pa_nil)))) pa_nil)) (pg_name (i := 3) sc_law.nd rfl (.inl rfl))
        (pss_one (ps_for PassesOwn.never rfl (pi_range1 rfl b.range (pa_cons pe_int pa_nil)) (pg_name (i := 4) sc_law.nd rfl (.inl rfl))
          (pss_cons (ps_par (i := 5) (j := 6) rfl sc_law.nd rfl rfl (by decide) rfl rfl (pa_cons (pe_c cTh hr (by decide) rfl (pa_cons (pv 1) (pa_cons (pv 4) pa_nil))) (pa_cons (pe_cmpR op_eq (pe_c cD hr (by decide) rfl (pa_cons (pv 1) (pa_cons pe_int pa_nil))) pe_int (nomark _)) pa_nil)) rfl)
          (C8.pss_cut (ps_set (i := 7) sc_law.nd rfl (.inl rfl) (pe_ifExp (pt_cmpR op_lt (pv 4) pe_int (nomark _)) (pe_c cFi hr (by decide) rfl (pa_cons (pv 4) (pa_cons (pv 5) (pa_cons (pv 6) pa_nil)))) (pe_c cSe hr (by decide) rfl (pa_cons (pv 4) (pa_cons (pv 5) (pa_cons (pv 6) pa_nil))))))
          (pss_cons (ps_asg (pe_c cK hr (by decide) rfl (pa_cons (pv 7) pa_nil)) (pg_tup rfl (pgs_cons (pg_name (i := 8) sc_law.nd rfl (.inl rfl)) (pgs_cons (pg_name (i := 9) sc_law.nd rfl (.inl rfl)) pgs_nil))))
          (pss_cons (ps_if (PW.pt (pw_or (pt_cmpR (op_neD hu64) (pv 8) (pe_lst (pa_cons (pe_ix ix_list (pv 2) (pv 4) (fun _ _ => rfl)) pa_nil)) (nomark _))
              (pw_or1 (pt_cmpR (op_neD hu64) (pv 9) (pe_c cB hr (by decide) rfl (pa_cons (pe_ix ix_list (pv 2) (pv 4) (fun _ _ => rfl)) pa_nil)) (nomark _))))) pss_never pss_nil)
          (pss_one (ps_if (pt_cmpR op_ne (pe_callB (call_reprI hgd2 (hr.mono (by decide)) Sr) rfl brep boot_repr (pa_cons (pe_c cF hr (by decide) rfl (pa_cons (pv 4) (pa_cons (pv 7) pa_nil))) pa_nil))
              (pe_callB (call_reprI hgd2 (hr.mono (by decide)) Sr) rfl brep boot_repr (pa_cons (pv 5) pa_nil)) (nomark _)) pss_never pss_nil)))))))))
      (pss_one (ps_ret pe_bl))))), ?_⟩
    refine ⟨_, rfl, a, ns, rfl, hS, hlen, fun h H1 s1 f1 held1 => ?_⟩
    refine ⟨rfl, _, _, rfl, rfl, by decide +kernel, by decide +kernel, fun wl fw => ?_⟩
    rw [split16]
    have sw := same_new (o := .lst (kw16.map V.str)) fw
    have hw : (upd H1 wl (.lst (kw16.map V.str))) wl = some (.lst (kw16.map V.str)) := upd_same
    have nw : wl ≠ h := fun z => by
      obtain ⟨l, ns', n, m, e1, _⟩ := held1
      rw [← z, fw] at e1
      cases e1
    have held2 := held1.same sw
    generalize upd H1 wl (.lst (kw16.map V.str)) = H2 at hw held2 ⊢
    refine ⟨_, rfl, h, 100000, 6, rfl, held2.weak (by decide), by decide, by decide, fun r H3 a3 b3 held3 k3 => ?_⟩
    have hw3 := k3.1 _ _ hw nw
    obtain ⟨N, eN, N6⟩ : ∃ N : Nat, 1 + r = (N : Int) ∧ N ≤ 6 := ⟨(1 + r).toNat, by omega, by omega⟩
    refine ⟨_, _, rfl, rfl, N, by show [V.int (1 + r)] = _; rw [eN], ?_, ?_, for_range (n := N) (fun i σ H' => ∃ v3 v4 v5 v6 v7 v8 v9, σ = [some (.ref a), some (.ref h), some (.ref wl), v3, v4, v5, v6, v7, v8, v9] ∧ Held H' h (2000 * (8 - i)) ∧ H' wl = some (.lst (kw16.map V.str)))
      ⟨_, _, _, _, _, _, _, rfl, held3.weak (by decide), hw3⟩ ?_ ?_⟩
    · have z : -2 ^ 62 ≤ (0 : Int) := by decide
      omega
    · have z : (6 : Int) ≤ 2 ^ 62 := by decide
      omega
    · rintro i σ H4 hi ⟨v3, v4, v5, v6, v7, v8, v9, rfl, held4, hw4⟩
      refine ⟨16, rfl, by decide, by decide, for_range (n := 16) (fun j σ H' => ∃ v4 v5 v6 v7 v8 v9, σ = [some (.ref a), some (.ref h), some (.ref wl), some (.int (0 + i)), v4, v5, v6, v7, v8, v9] ∧ Held H' h (2000 * (8 - i) - 100 * j) ∧ H' wl = some (.lst (kw16.map V.str)))
        ⟨_, _, _, _, _, _, rfl, held4.weak (by omega), hw4⟩ ?_ ?_⟩
      · rintro j σ H5 hj ⟨v4, v5, v6, v7, v8, v9, rfl, held5, hw5⟩
        have ej : (0 : Int) + (j : Nat) = (j : Nat) := by omega
        rw [ej]
        refine ⟨_, rfl, _, rfl, h, 2000 * (8 - i) - 100 * j - 60, j, rfl, held5.weak (by omega), fun v t H6 held6 k6 it => ?_⟩
        have hw6 := k6.1 _ _ hw5 nw
        refine ⟨_, rfl, h, 2000 * (8 - i) - 100 * j - 61, 2, rfl, held6.weak (by omega), by decide, by decide, fun r7 H7 a7 b7 held7 k7 => ?_⟩
        have hw7 := k7.1 _ _ hw6 nw
        have it7 : It C (THI.out (fun b => b = h) H7) v t := it.same (THI.out_kp fun b o e n => k7.1 b o e n)
        have sG : Same (THI.out (fun b => b = h) H7) H7 := THI.out_le
        generalize THI.out (fun b => b = h) H7 = GG at it7 sG
        refine ⟨rfl, _, _, rfl, ?_⟩
        refine ⟨fun σ' H' => ∃ e d v6' v7', σ' = [some (.ref a), some (.ref h), some (.ref wl), some (.int (0 + i)), some (.int (j : Int)), some v, v6', some (.ref e), v7', v9] ∧ H' e = some (Xc (.ref (He.ga K (nmC j))) (some d) e) ∧ H' d = some (.xd [(flC j, v)]) ∧ Same H7 H', ?_, ?_⟩
        · refine ⟨_, rfl, _, _, rfl, rfl, _, rfl, ite2 (fun hlt => ?_) (fun hlt => ?_)⟩
          · have hlt := of_decide_eq_true hlt
            exact ⟨_, rfl, _, rfl, _, rfl, j, v, _, rfl, by omega, by omega, fun e d G sG _ he hd => ⟨e, d, _, _, rfl, he, hd, sG⟩⟩
          · have hlt : ¬ ((j : Int) < 8) := fun z => hlt (decide_eq_true z)
            exact ⟨_, rfl, _, rfl, _, rfl, j, v, _, rfl, by omega, by omega, fun e d G sG _ he hd => ⟨e, d, _, _, rfl, he, hd, sG⟩⟩
        rintro σ' H8 ⟨e, d, v6', v7', rfl, he, hd, s8⟩
        have hw8 := s8 _ _ hw7
        refine ⟨_, rfl, j, hj, e, some d, rfl, he, .inr ⟨d, _, rfl, hd⟩, fun tp l m H9 s9 ft ht hl hm => ?_⟩
        rw [fnd_all j hj] at hl
        have e1 : (ex10.map fun x => V.bl (abC j x)) = ((List.range 10).map (abv (plC j))).map V.bl := by
          rw [← ab_all j hj, List.map_map]
          rfl
        rw [e1] at hm
        have hw9 := s9 _ _ hw8
        have at9 : atI (kw16.map V.str) ((j : Nat) : Int) = some (V.str (kwC j)) := atI_nat (by rw [List.getElem?_map, kw_at j hj]; rfl)
        refine ⟨tp, _, rfl, SqT.of ht, rfl, _, _, rfl, _, _, rfl, rfl, ?_⟩
        refine ⟨_, rfl, _, rfl, _, rfl, wl, _, _, _, rfl, rfl, SqL.of hw9, at9, by show 1 ≤ sizeLine; decide, fun u fu => ?_⟩
        have su := same_new (o := .lst [V.str (kwC j)]) fu
        have s10 := s9.trans su
        refine ⟨.list [.str (kwC j)], .list [.str (kwC j)], Dp.lst (SqL.of (su _ _ hl)) (.cons (.str _) .nil), Dp.lst (SqL.of upd_same) (.cons (.str _) .nil), sh_all j hj, sh_all j hj, ?_⟩
        rw [eqv_str]
        refine ⟨_, rfl, iteFE rfl ?_⟩
        have hm10 := su _ _ hm
        generalize upd H9 u (.lst [V.str (kwC j)]) = H10 at s10 hm10 ⊢
        have hw10 := s10 _ _ hw8
        refine ⟨_, rfl, _, rfl, _, rfl, wl, _, _, _, rfl, rfl, SqL.of hw10, at9, kwC j, plC j, rfl, pl_all j hj, fun q H11 s11 fq hq => ?_⟩
        have e2 : ((List.range 10).map fun i => V.bl (abv (plC j) i)) = ((List.range 10).map (abv (plC j))).map V.bl := by
          rw [List.map_map]
          rfl
        rw [e2] at hq
        have shp : SeqAt.shaped (.list (((List.range 10).map (abv (plC j))).map .bool)) = true := by rfl
        refine ⟨.list (((List.range 10).map (abv (plC j))).map .bool), .list (((List.range 10).map (abv (plC j))).map .bool), Dp.lst (SqL.of (s11 _ _ hm10)) (dp_bls _), Dp.lst (SqL.of hq) (dp_bls _), shp, shp, ?_⟩
        rw [eqv_bls]
        refine ⟨_, rfl, iteFE rfl ?_⟩
        have s8b := (s10.trans s11)
        have s7b := s8.trans s8b
        refine ⟨_, rfl, _, rfl, j, e, _, d, v, rfl, hj, s8b _ _ he, s8b _ _ hd, T.xf j hj, T.no j hj, fun H12 s12 => ?_⟩
        have s7c := s7b.trans s12
        refine ⟨v, t, rfl, it7.same (sG.trans s7c), fun H13 s13 => ?_⟩
        have s7d := s7c.trans s13
        refine ⟨_, rfl, v, t, rfl, it7.same (sG.trans s7d), fun H14 s14 => ?_⟩
        have s7e := s7d.trans s14
        refine ⟨rfl, _, rfl, iteFE (by simp) ?_⟩
        exact ⟨_, _, _, _, _, _, rfl, (held7.same s7e).weak (by omega), s7e _ _ hw7⟩
      · rintro σ H5 ⟨v4, v5, v6, v7, v8, v9, rfl, held5, hw5⟩
        exact ⟨_, _, _, _, _, _, _, rfl, held5.weak (by omega), hw5⟩
    · rintro σ H4 _
      exact hQ H4
end
end K90
set_option Elab.async false
set_option linter.all false
set_option maxRecDepth 100000
set_option maxHeartbeats 4000000
/-! KW: calls by keywords alone: f(k = v, ..), o.m(k = v, ..). -/
namespace KW
open PySem PySem.Spec PyProof.Rows L2
section
variable {X : Cx} {k j : Nat} {C f : Addr} {fd : FuncData} {ps ks : List Str} {sp : Sp} {x m : Str} {p pos apos : Pos} {o : Expr} {kws : List Keyword} {ta : TE} {tk : TA} {g : List Value → List Value → List Value} {gV : List V → List V → List V}
theorem pe_cK (F : FnOk X.prog X.w X.K X.mg X.base CX0 k f fd ps sp) (hr : Room k X.A) (hg : Gl X x) (hm : X.mg x = some (.ref f)) (hk : PySem.W.keepIn X.K (.ref f) = true) (hb : KBn X.K fd ps 0 ks g gV) (hkw : PK X kws tk)
    (hall : (backToKw pos (keywordEach kws X.env)).all (·.1.isSome) = true := by rfl) (hks : (backToKw pos (keywordEach kws X.env)).filterMap (·.1) = ks := by rfl) (hdb : (x == ("__debug__" : Str)) = false := by decide)
    (hpl : ((backTo pos (starEach [] X.env)).any (·.1) || (backToKw pos (keywordEach kws X.env)).any (·.1.isNone)) = false := by rfl) :
    PE X (.Call (.Name x p) [] kws pos) (fun σ H Q => tk σ H fun zs H1 => zs.length = ks.length ∧ sp (gV [] zs) H1 Q E0) := by
  refine ⟨fun pins s σ H Q I h => wpAny_Call_Name_kw (ld_glob I hg hm (PySem.W.callWith_KW0 (h₀ := X.base) I.ok.mod.kin hk hall ?_ hpl) hdb)⟩
  refine thn (hkw.run pos pins s σ H _ I h) fun ws s2 ⟨zs, H2, I2, rz, l2, q2⟩ => ⟨I2.kIn, ?_⟩
  rw [hks]
  exact run_fnN (us := []) (vs := []) F hr hb (fun _ _ _ _ _ _ _ h => False.elim h) I2 .nil rz rfl l2 q2
theorem pe_mtK {pl : Sem Bool} (he : PE X o ta) (c : Cls X.K C) (hm : Meth X.K C m f) (F : FnOk X.prog X.w X.K X.mg X.base CX0 k f fd ps sp) (hr : Room k X.A) (hb : KBn X.K fd ps 1 ks g gV) (hkw : PK X kws tk)
    (hall : (backToKw pos (keywordEach kws X.env)).all (·.1.isSome) = true := by rfl) (hks : (backToKw pos (keywordEach kws X.env)).filterMap (·.1) = ks := by rfl)
    (hpl : ((backTo pos (starEach [] X.env)).any (·.1) || (backToKw pos (keywordEach kws X.env)).any (·.1.isNone)) = false := by rfl)
    (ht : eval (.Call (.Attribute o m apos) [] kws pos) X.env = (do
      let ov ← eval o X.env
      standAt apos.atName
      let (f, first) ← holding [ov] (getMethod ov m pl)
      callWith pos f first (backTo pos (starEach [] X.env)) (backToKw pos (keywordEach kws X.env))) := by rfl) :
    PE X (.Call (.Attribute o m apos) [] kws pos) (fun σ H Q => ta σ H fun x H1 => ∃ a dx fs, x = .ref a ∧ H1 a = some (.ins C dx fs) ∧ fs.lookup m = none ∧ tk σ H1 fun zs H2 => zs.length = ks.length ∧ sp (gV [.ref a] zs) H2 Q E0) := by
  refine ⟨fun pins s σ H Q I h => ?_⟩
  refine PySem.W.methodCall_KW (pl := pl) (thn (he.run pins s σ H _ I h) fun u s1 ⟨x, H1, I1, rx, a, dx, fs, ex, ea, l, q⟩ => ?_) ht
  subst ex
  obtain rfl : u = Value.ref a := rx
  refine getmeth_ok I1 ea c hm l (PySem.W.callWith_KW0 (first := [.ref a]) (h₀ := X.base) I.ok.mod.kin hm.kp hall ?_ hpl)
  refine thn (hkw.run pos pins s1 σ H1 _ I1 q) fun ws s2 ⟨zs, H2, I2, rz, l2, q2⟩ => ⟨I2.kIn, ?_⟩
  rw [hks]
  exact run_fnN (us := [.ref a]) (vs := [.ref a]) F hr hb (fun _ _ _ _ _ _ _ h => False.elim h) I2 (.cons rfl .nil) rz rfl l2 q2
end
end KW
set_option Elab.async false
set_option linter.all false
set_option maxRecDepth 100000
set_option maxHeartbeats 4000000
/-! KB: what a call by keywords binds, for a def without keyword-only parameters. -/
namespace KW
open PySem PySem.Spec PyProof.Rows L2
section
variable {K : PySem.W.Frag} {x qual : Str} {params : Arguments} {body : List Stmt} {scope : Scope} {dvs : List V} {kws : List (Str × V)} {f : Addr} {fd : FuncData} {ps : List Str}
theorem kb1 (F : FunD K x qual params body scope dvs kws f fd) (n : Nat) (ks : List Str) (g : {α : Type} → List α → List α → List α → List α) (hd : dvs ≠ [])
    (hrel : ∀ {vs ds zs : List V} {us its ws : List Value}, Vals vs us → Vals ds its → Vals zs ws → Vals (g vs ds zs) (g us its ws))
    (h : ∀ (T : Addr) (kV doc pm : Value) (an : Option Addr) (cdv ct : Value) (us its ws : List Value), us.length = n → its.length = dvs.length → ws.length = ks.length →
      ∃ k, bindArgs (PySem.W.fnOf x qual params body scope (.ref T) kV doc pm an cdv ct) ⟨us, ks.zip ws⟩ = seqItems? (.ref T) >>= k ∧ k (some its.toArray) = pure (ps.zip (g us its ws))) :
    ∃ its : List Value, KBn K fd ps n ks (fun us ws => g us its ws) (fun vs zs => g vs dvs zs) := by
  obtain ⟨oc, od, dV, kV, doc, pm, an, cdv, ct, osl, rfl, lk, hcd, hD, hK⟩ := F.ex
  rcases hD with ⟨e, _⟩ | ⟨_, T, o, its, m, rfl, lT, oT, rT⟩
  · exact absurd e hd
  · refine ⟨its, ⟨fun s us ws X l1 l2 => ?_, fun r1 r2 => hrel r1 rT r2⟩⟩
    obtain ⟨k, e1, e2⟩ := h T kV doc pm an cdv ct us its ws l1 rT.length.symm l2
    refine BindsTo.of_looks fun M => ?_
    rw [e1]
    exact looks_items X lT oT (.of_pure e2)
theorem kb0 (F : FunD K x qual params body scope [] kws f fd) (n : Nat) (ks : List Str) (g : {α : Type} → List α → List α → List α)
    (hrel : ∀ {vs zs : List V} {us ws : List Value}, Vals vs us → Vals zs ws → Vals (g vs zs) (g us ws))
    (h : ∀ (kV doc pm : Value) (an : Option Addr) (cdv ct : Value) (us ws : List Value), us.length = n → ws.length = ks.length →
      bindArgs (PySem.W.fnOf x qual params body scope .none kV doc pm an cdv ct) ⟨us, ks.zip ws⟩ = pure (ps.zip (g us ws))) :
    KBn K fd ps n ks (fun us ws => g us ws) (fun vs zs => g vs zs) := by
  obtain ⟨oc, od, dV, kV, doc, pm, an, cdv, ct, osl, rfl, lk, hcd, hD, hK⟩ := F.ex
  rcases hD with ⟨_, rfl⟩ | ⟨e, _⟩
  · exact ⟨fun s us ws X l1 l2 => .of_eq (h kV doc pm an cdv ct us ws l1 l2), fun r1 r2 => hrel r1 r2⟩
  · exact absurd rfl e
end
end KW
set_option Elab.async false
set_option linter.all false
/-! VR: values related, turned about. -/
namespace KW
open PySem PySem.Spec PyProof.Rows L2
theorem vals_rev {vs : List V} {us : List Value} (h : Vals vs us) : Vals vs.reverse us.reverse := by
  induction h with
  | nil => exact .nil
  | cons r t ih =>
    rw [List.reverse_cons, List.reverse_cons]
    exact ih.append (.cons r .nil)
end KW
set_option Elab.async false
set_option linter.all false
set_option maxRecDepth 100000
set_option maxHeartbeats 4000000
/-! GE: a law's end by a promise that is asked only where no repr is under way. -/
namespace GL
open PySem PySem.Spec PyProof.Rows L2
theorem lawG {P : Program} {w : World} {K : PySem.W.Frag} {mg mb : Str → Option Value} {k : Nat} {fa a : Addr} {fd : FuncData} {x : Str} {sp : Sp} {s₁ : Shared} {vs : List Value} {ns : List Int}
    (KX : K.In s₁.heap) (hns : s₁.heap.Ns mainGlobals mg) (hb : s₁.heap.Ns builtinsNs mb) (hbb : ∀ x : Str, x ≠ "__name__" → mb x = bootBuiltins x) (hlim : s₁.heap.NoLimit) (hg : s₁.gens = #[])
    (ha : s₁.heap.get? a = some { cls := .type "list", data := .seq vs.toArray }) (hi : IntsAre vs ns) (hl : ns.length ≤ sizeLine) (hr : Room k callerA)
    (F : ∀ base : Heap, K.In base → base.Ns mainGlobals mg → FnG P w K mg base k fa fd [x] sp) (hbind : ∀ (s : Shared) (u : Value), BindsTo s fd ⟨[u], []⟩ [(x, u)])
    (hsp : ∀ H : Hp, SqL K H a (ns.map V.int) → sp [.ref a] H (fun v _ => v = .bl true) fun _ _ _ => False) :
    codeAny (model P w) callerA (.call (.ref fa) ⟨[.ref a], []⟩) (fun r s' => r = .ok (.ret (.bool true)) ∧ OldK s₁.heap s'.heap ∧ s'.os = s₁.os ∧ AllBare s'.gens) s₁ := by
  -- the script alone is tracked, as it is, or nothing
  have from_ : ∀ H : Hp, SqL K H a (ns.map V.int) → HOk P w H s₁.heap → (∀ b u, H b = some u → b = a ∧ K.lookup a = none ∧ ∃ o xs, u = .frz o (.lst xs)) →
      codeAny (model P w) callerA (.call (.ref fa) ⟨[.ref a], []⟩) (fun r s' => r = .ok (.ret (.bool true)) ∧ OldK s₁.heap s'.heap ∧ s'.os = s₁.os ∧ AllBare s'.gens) s₁ := by
    intro H hS hok hA
    have off : ∀ b, (b = a → K.lookup a ≠ none) → H b = none := fun b n => by
      cases q : H b with
      | none => rfl
      | some u => exact absurd (hA b u q).2.1 (n (hA b u q).1)
    have nsK : ∀ {b : Addr} {m : Str → Option Value}, s₁.heap.Ns b m → (hidT s₁.heap H).Ns b m := by
      rintro b m ⟨o, es, ep, e, d, r⟩
      refine ⟨o, es, ep, hidT_get e (off b fun z => ?_), d, r⟩
      subst z
      rw [ha] at e
      cases e
      cases d
    have inK : K.In (hidT s₁.heap H) := fun b o e => hidT_get (KX b o e) (off b fun z => by rw [← z, e]; simp)
    have hM : Mod K mg (hidT s₁.heap H) := ⟨inK, nsK hns, ⟨mb, nsK hb, hbb⟩, by obtain ⟨mc, h1, h2⟩ := hlim; exact ⟨mc, nsK h1, h2⟩⟩
    have nofr : ∀ b : Addr, b ∉ frs ([] : List Env) := fun b z => nomatch z
    have e0 : Env0 P w K mg (hidT s₁.heap H) callerA [] s₁ H := ⟨rfl, hM, fun b o e => of_hidT e, Nat.le_of_eq (hidT_size _ _), trivial, fun b z => absurd z (nofr b), hok, .of_eq hg⟩
    refine codeAny_mono ((F _ inK (nsK hns)).run callerA [] s₁ H ⟨[.ref a], []⟩ [.ref a] [.ref a] _ _ rfl hr e0 (hbind s₁ (.ref a)) (.cons rfl .nil) (hsp H hS)) fun r s' h => ?_
    match r, h with
    | .error e, h => exact False.elim h
    | .ok .next, h => exact False.elim h
    | .ok .brk, h => exact False.elim h
    | .ok .cont, h => exact False.elim h
    | .ok (.ret u), ⟨v, H', os, bare, un, hok', r', q⟩ =>
      cases (show v = .bl true from q)
      cases (show u = Value.bool true from r')
      refine ⟨rfl, OldK.of_keep fun b o e => ?_, os, bare⟩
      cases q : H b with
      | none => exact un.keep b o e q (nofr b) (by simp)
      | some u =>
        obtain ⟨_, _, ob, xs, rfl⟩ := hA b u q
        have e1 := (hok b _ q).1
        have e2 := (hok' b _ (un.frzs b ob _ q)).1
        rw [e] at e1
        cases e1
        exact e2
  have rv := vals_ints hi
  cases hk : K.lookup a with
  | some o =>
    have e := KX a o hk
    rw [ha] at e
    cases e
    exact from_ (fun _ => none) (.inr ⟨_, vs.toArray, _, hk, rfl, rfl, rfl, by rw [List.size_toArray, hi.length]; exact hl, by simpa using rv⟩) (fun b u z => nomatch z) (fun b u z => nomatch z)
  | none =>
    have at_ : ∀ (b : Addr) (u : HO), (if b = a then some (HO.frz { cls := .type "list", data := .seq vs.toArray } (.lst (ns.map V.int))) else none) = some u → b = a ∧ u = HO.frz { cls := .type "list", data := .seq vs.toArray } (.lst (ns.map V.int)) := fun b u z => by
      by_cases h : b = a
      · rw [if_pos h] at z
        exact ⟨h, (Option.some.inj z).symm⟩
      · rw [if_neg h] at z
        cases z
    refine from_ (fun b => if b = a then some (.frz { cls := .type "list", data := .seq vs.toArray } (.lst (ns.map V.int))) else none) (.inl (.inr ⟨{ cls := .type "list", data := .seq vs.toArray }, if_pos rfl⟩)) (fun b u z => ?_) (fun b u z => ?_)
    · obtain ⟨rfl, rfl⟩ := at_ b u z
      exact ⟨ha, by rw [List.length_map]; exact hl, vs, _, rv, ha⟩
    · obtain ⟨rfl, rfl⟩ := at_ b u z
      exact ⟨rfl, hk, _, _, rfl⟩
/-- a law: F gives the written part, the function object, the promise over every base -/
theorem walkG {l : PySem.W.OpenLaw} {n k : Nat} {q : Program} {loose : List Str} {XP : (Str → Option Value) → Heap → Prop} {YP : World → Heap → Prop} {d : DefRec} {x : Str} (hn : l.most = some n) (hn2 : n ≤ sizeLine) (hdf : d.params.defaults = []) (hr : Room k callerA)
    (F : ∀ (w : World) (mg : Str → Option Value) (fa : Addr) (h : Heap), YP w h → h.Ns mainGlobals mg → mg d.name = some (.ref fa) →
      ∃ (K : PySem.W.Frag) (fd : FuncData) (sp : Sp), K.In h ∧ (∀ (s : Shared) (u : Value), BindsTo s fd ⟨[u], []⟩ [(x, u)]) ∧
        (∀ (H : Hp) (a : Addr) (ns : List Int), ns.length ≤ n → SqL K H a (ns.map V.int) → sp [.ref a] H (fun v _ => v = .bl true) fun _ _ _ => False) ∧
        ∀ base : Heap, K.In base → base.Ns mainGlobals mg → FnG l.prog w K mg base k fa fd [x] sp) : PySem.W.WalkO q loose XP YP l.row.toRowW d [] (fun f vs => PySem.call f vs) := by
  refine Att.attach_call hn hdf fun w s₀ s₁ mg mb fa o pm cd doc a vs ns G Y ho hd hcd hmg hobj hints hlen hg => ?_
  obtain ⟨K, fd, sp, KX, hb, hsp, hF⟩ := F w mg fa _ Y G.T.g hmg
  exact lawG KX G.T.g G.T.b G.T.builtins G.T.nolimit hg hobj hints (Nat.le_trans hlen hn2) hr hF hb fun H hS => hsp H a ns hlen hS
end GL
set_option Elab.async false
set_option linter.all false
set_option maxRecDepth 100000
set_option maxHeartbeats 4000000
namespace K90
open PySem PySem.Spec PyProof.Rows L2
/-! what the head asks of the sixteen -/
def trV : List (List Value) := [trTypeError, trZeroDivisionError, trArithmeticError, trArithmeticError, trValueError, trValueError, trValueError, trValueError, trKeyError, trLookupError, trIndexError, trOverflowError, trRuntimeError, trNotImplementedError, trException, trException]
def nidC (n : Nat) : String := (["TypeError.__new__", "ZeroDivisionError.__new__", "ArithmeticError.__new__", "ArithmeticError.__new__", "ValueError.__new__", "ValueError.__new__", "ValueError.__new__", "ValueError.__new__", "LookupError.__new__", "LookupError.__new__", "IndexError.__new__", "OverflowError.__new__", "RuntimeError.__new__", "NotImplementedError.__new__", "Exception.__new__", "Exception.__new__"] : List String).getD n ""
def baC (n : Nat) : String := (["TypeError", "ZeroDivisionError", "ArithmeticError", "ArithmeticError", "ValueError", "ValueError", "ValueError", "ValueError", "KeyError", "LookupError", "IndexError", "OverflowError", "RuntimeError", "NotImplementedError", "Exception", "Exception"] : List String).getD n ""
def bidC (n : Nat) : String := (["TypeError.__init__", "ZeroDivisionError.__init__", "ArithmeticError.__init__", "ArithmeticError.__init__", "ValueError.__init__", "ValueError.__init__", "ValueError.__init__", "ValueError.__init__", "KeyError.__init__", "LookupError.__init__", "IndexError.__init__", "OverflowError.__init__", "RuntimeError.__init__", "NotImplementedError.__init__", "Exception.__init__", "Exception.__init__"] : List String).getD n ""
def xkD (K : PySem.W.Frag) (n : Nat) : Bool := GX.gxB K (He.ga K (nmC n)) (trV.getD n []) (nidC n) && (GX.vvB K (baC n) (bidC n) && (xfB K (He.ga K (nmC n)) && (GX.isB K (He.ga K (nmC n)) &&
  (ex16.all (fun x => decide (PySem.W.kitOne K (.ref (He.ga K (nmC n))) (.ref (He.ga K x)) = some (owC n x))) && ex10.all (fun x => decide (PySem.W.kitOne K (.ref (He.ga K (nmC n))) (.type x) = some (abC n x)))))))
def xk1 (K : PySem.W.Frag) : Bool := (List.range 16).all (xkD K)
theorem isB_ok {K : PySem.W.Frag} {C : Addr} (h : GX.isB K C = true) : PySem.W.findIn K (.ref C) "__class__" = some (some (.builtin "object.__class__")) ∧ PySem.W.specialIn K (.builtin "object.__class__") "__get__" = some (some (.builtin "getset_descriptor.__get__")) ∧ PySem.W.takesIn K (.builtin "object.__class__") = some true ∧ PySem.W.mroIn K C (.type "object") = some true := by
  unfold GX.isB at h
  simp only [Bool.and_eq_true, decide_eq_true_eq] at h
  exact ⟨He.eqO_ok h.1, He.eqO_ok h.2.1, h.2.2.1, h.2.2.2⟩
theorem exc_of {K : PySem.W.Frag} {C : Addr} (h : GX.isB K C = true) (x : XfC K C) : ExcC K C := by
  obtain ⟨a, b, c, d⟩ := isB_ok h
  exact ⟨x.ga, x.gg, x.exC, x.hdC, a, b, c, d⟩
/-- of one of them -/
structure XkD (K : PySem.W.Frag) (n : Nat) : Prop where
  gx : GX.Gx K (He.ga K (nmC n)) (trV.getD n []) (nidC n)
  vV : PySem.W.findCls K (.type (baC n)) (.type "type") "__init__" = some (.val (.builtin (bidC n)))
  xf : XfC K (He.ga K (nmC n))
  xc : ExcC K (He.ga K (nmC n))
  ko : ∀ x ∈ ex16, PySem.W.kitOne K (.ref (He.ga K (nmC n))) (.ref (He.ga K x)) = some (owC n x)
  kb : ∀ x ∈ ex10, PySem.W.kitOne K (.ref (He.ga K (nmC n))) (.type x) = some (abC n x)
theorem xk_ok {K : PySem.W.Frag} (h : xk1 K = true) : ∀ n, n < 16 → XkD K n := fun n hn => by
  have h := List.all_eq_true.mp h n (List.mem_range.mpr hn)
  unfold xkD at h
  obtain ⟨h2, h⟩ := Bool.and_eq_true_iff.mp h
  obtain ⟨h3, h⟩ := Bool.and_eq_true_iff.mp h
  obtain ⟨h4, h⟩ := Bool.and_eq_true_iff.mp h
  obtain ⟨h6, h⟩ := Bool.and_eq_true_iff.mp h
  obtain ⟨h7, h8⟩ := Bool.and_eq_true_iff.mp h
  exact ⟨GX.gxB_ok h2, GX.vvB_ok h3, xfB_ok h4, exc_of h6 (xfB_ok h4), fun x hx => of_decide_eq_true (List.all_eq_true.mp h7 x hx), fun x hx => of_decide_eq_true (List.all_eq_true.mp h8 x hx)⟩
end K90
set_option Elab.async false
set_option linter.all false
set_option maxRecDepth 100000
set_option maxHeartbeats 0
namespace K90
open PySem PySem.Spec PyProof.Rows L2
open C8 (Cal Mak Met pe_c pe_mk pe_mt pe_mt0)
def fa : List He.Fa := [.glo "is_whole", .glo "common_part", .glo "_law_held", .glo "_law_draw", .glo "_law_names", .glo "_law_kinds", .glo "_law_bases", .glo "_law_thing", .glo "_law_first", .glo "_law_second", .glo "_law_field", .glo "law", .free "isinstance", .free "int", .free "bool", .free "abs", .free "list", .free "range", .free "len", .free "zip", .free "repr", .free "TypeError", .free "ZeroDivisionError", .free "ArithmeticError", .free "ValueError", .free "KeyError", .free "LookupError", .free "IndexError", .free "OverflowError", .free "RuntimeError", .free "NotImplementedError", .free "Exception", .glo "Share", .cls "Share", .mkr "Share", .glo "NoKind", .glo "Nought", .glo "NoShare", .glo "Uneven", .glo "BadName", .glo "NoNumber", .glo "NoRide", .glo "NoText", .glo "NoName", .glo "NoDay", .glo "NoSeats", .glo "TooMany", .glo "Taken", .glo "NoRule", .glo "NothingDone", .glo "NoRow", .noat "Share" "top", .noat "Share" "bottom", .noat "NoKind" "thing", .noat "Nought" "top", .noat "NoShare" "text", .noat "Uneven" "rest", .noat "BadName" "name", .noat "NoNumber" "thing", .noat "NoRide" "reason", .noat "NoText" "row", .noat "NoName" "name", .noat "NoDay" "day", .noat "NoSeats" "lack", .noat "TooMany" "most", .noat "Taken" "name", .noat "NoRule" "thing", .noat "NothingDone" "text", .noat "NoRow" "text", .meth "Share" "__repr__", .meth "NoKind" "__init__", .meth "Nought" "__init__", .meth "NoShare" "__init__", .meth "Uneven" "__init__", .meth "BadName" "__init__", .meth "NoNumber" "__init__", .meth "NoRide" "__init__", .meth "NoText" "__init__", .meth "NoName" "__init__", .meth "NoDay" "__init__", .meth "NoSeats" "__init__", .meth "TooMany" "__init__", .meth "Taken" "__init__", .meth "NoRule" "__init__", .meth "NothingDone" "__init__", .meth "NoRow" "__init__"]
def xk (K : PySem.W.Frag) : Bool := (xk1) K
abbrev R : PySem.W.OpenRow := PySem.W.OpenLaw.row PySem.Challenge.rw_rideturns_k90_refusals_made_by_hand
abbrev hk : PySem.W.Hook := He.hookX 6 fa fn [] [] xk
def ob (s : PySem.W.SharedT) : He.AlX := He.obsX 6 fa fn [] [] xk (HandSHeadRun.getT s)
theorem ob_eq (s : PySem.W.SharedT) : ob s = hk.obs s.abs := He.obsX_eq (HandSHeadRun.getT_eq s)
abbrev loose : List Str := [("_wall" : Str), ("NoKind" : Str), ("Nought" : Str), ("NoShare" : Str), ("Uneven" : Str), ("BadName" : Str), ("NoNumber" : Str), ("NoRide" : Str), ("NoText" : Str), ("NoName" : Str), ("NoDay" : Str), ("NoSeats" : Str), ("TooMany" : Str), ("Taken" : Str), ("NoRule" : Str), ("NothingDone" : Str), ("NoRow" : Str), ("is_whole" : Str), ("common_part" : Str), ("Share" : Str), ("_law_held" : Str), ("_law_draw" : Str), ("_law_names" : Str), ("_law_kinds" : Str), ("_law_bases" : Str), ("_law_thing" : Str), ("_law_first" : Str), ("_law_second" : Str), ("_law_field" : Str)]
theorem run_ (w : World) : HandSHeadRun.RunEq R (PySem.W.view R.prog [33]) hk ob 8000 loose w := by
  intro os
  kernel_rfl
theorem cal_of {P : Program} {w : World} {K : PySem.W.Frag} {mg : Str → Option Value} {base : Heap} {f : Addr} {fd : FuncData} {ps : List Str} {k : Nat} {x : Str} {sp : Sp} (F : FnOk P w K mg base CX0 k f fd ps sp) (g : mg x = some (.ref f)) (kp : PySem.W.keepIn K (.ref f) = true) (b : Binds K fd ps []) : Cal P w K mg base k x sp [] :=
  ⟨f, fd, ps, [], F, g, kp, b, .nil⟩
theorem met_of {P : Program} {w : World} {K : PySem.W.Frag} {mg : Str → Option Value} {base : Heap} {f C : Addr} {fd : FuncData} {ps : List Str} {k : Nat} {m : Str} {sp : Sp} (c : Cls K C) (h : Meth K C m f) (F : FnOk P w K mg base CX0 k f fd ps sp) (b : Binds K fd ps []) : Met P w K mg base k C m sp [] :=
  ⟨f, fd, ps, [], c, h, F, b, .nil⟩
theorem facts {P : Program} {w : World} {K : PySem.W.Frag} {h h0 : Heap} {mg : Str → Option Value} {f : Addr} (X : K.In h) (G : h.Ns mainGlobals mg) (hfa : mg ("law" : Str) = some (.ref f)) (c : He.SaysX fa fn [] [] xk w h0 K) :
    ∃ fd : FuncData, (∀ (s : Shared) (v : Value), BindsTo s fd ⟨[v], []⟩ [("_law_script", v)]) ∧ ∀ base : Heap, K.In base → base.Ns mainGlobals mg → GL.FnG P w K mg base 8 f fd ["_law_script"] (spLaw K) := by
  have d := c.t.d
  have x := c.more
  have gl : ∀ (i : Nat) (x : Str), fa[i]? = some (.glo x) → mg x = some (.ref (He.ga K x)) := fun i x e => He.glo_ok X G (d.fact i e)
  have fr : ∀ (i : Nat) (x : Str), fa[i]? = some (.free x) → mg x = none := fun i x e => He.free_ok X G (d.fact i e)
  have me : ∀ (i : Nat) (C m : Str), fa[i]? = some (.meth C m) → Meth K (He.ga K C) m (He.ma K (He.ga K C) m) := fun i C m e => He.meth_ok (d.fact i e)
  have gl_is_whole := gl 0 "is_whole" rfl
  have gl_common_part := gl 1 "common_part" rfl
  have gl__law_held := gl 2 "_law_held" rfl
  have gl__law_draw := gl 3 "_law_draw" rfl
  have gl__law_names := gl 4 "_law_names" rfl
  have gl__law_kinds := gl 5 "_law_kinds" rfl
  have gl__law_bases := gl 6 "_law_bases" rfl
  have gl__law_thing := gl 7 "_law_thing" rfl
  have gl__law_first := gl 8 "_law_first" rfl
  have gl__law_second := gl 9 "_law_second" rfl
  have gl__law_field := gl 10 "_law_field" rfl
  have gl_law := gl 11 "law" rfl
  have fr_isinstance := fr 12 "isinstance" rfl
  have fr_int := fr 13 "int" rfl
  have fr_bool := fr 14 "bool" rfl
  have fr_abs := fr 15 "abs" rfl
  have fr_list := fr 16 "list" rfl
  have fr_range := fr 17 "range" rfl
  have fr_len := fr 18 "len" rfl
  have fr_zip := fr 19 "zip" rfl
  have fr_repr := fr 20 "repr" rfl
  have fr_TypeError := fr 21 "TypeError" rfl
  have fr_ZeroDivisionError := fr 22 "ZeroDivisionError" rfl
  have fr_ArithmeticError := fr 23 "ArithmeticError" rfl
  have fr_ValueError := fr 24 "ValueError" rfl
  have fr_KeyError := fr 25 "KeyError" rfl
  have fr_LookupError := fr 26 "LookupError" rfl
  have fr_IndexError := fr 27 "IndexError" rfl
  have fr_OverflowError := fr 28 "OverflowError" rfl
  have fr_RuntimeError := fr 29 "RuntimeError" rfl
  have fr_NotImplementedError := fr 30 "NotImplementedError" rfl
  have fr_Exception := fr 31 "Exception" rfl
  have gl_Share := gl 32 "Share" rfl
  have cls_Share := He.cls_ok (d.fact 33 (f := .cls "Share") rfl)
  have mk_Share := He.mkr_ok (d.fact 34 (f := .mkr "Share") rfl)
  have gl_NoKind := gl 35 "NoKind" rfl
  have gl_Nought := gl 36 "Nought" rfl
  have gl_NoShare := gl 37 "NoShare" rfl
  have gl_Uneven := gl 38 "Uneven" rfl
  have gl_BadName := gl 39 "BadName" rfl
  have gl_NoNumber := gl 40 "NoNumber" rfl
  have gl_NoRide := gl 41 "NoRide" rfl
  have gl_NoText := gl 42 "NoText" rfl
  have gl_NoName := gl 43 "NoName" rfl
  have gl_NoDay := gl 44 "NoDay" rfl
  have gl_NoSeats := gl 45 "NoSeats" rfl
  have gl_TooMany := gl 46 "TooMany" rfl
  have gl_Taken := gl 47 "Taken" rfl
  have gl_NoRule := gl 48 "NoRule" rfl
  have gl_NothingDone := gl 49 "NothingDone" rfl
  have gl_NoRow := gl 50 "NoRow" rfl
  have no_Share_top := He.noat_ok (d.fact 51 (f := .noat "Share" "top") rfl)
  have no_Share_bottom := He.noat_ok (d.fact 52 (f := .noat "Share" "bottom") rfl)
  have no_NoKind_thing := He.noat_ok (d.fact 53 (f := .noat "NoKind" "thing") rfl)
  have no_Nought_top := He.noat_ok (d.fact 54 (f := .noat "Nought" "top") rfl)
  have no_NoShare_text := He.noat_ok (d.fact 55 (f := .noat "NoShare" "text") rfl)
  have no_Uneven_rest := He.noat_ok (d.fact 56 (f := .noat "Uneven" "rest") rfl)
  have no_BadName_name := He.noat_ok (d.fact 57 (f := .noat "BadName" "name") rfl)
  have no_NoNumber_thing := He.noat_ok (d.fact 58 (f := .noat "NoNumber" "thing") rfl)
  have no_NoRide_reason := He.noat_ok (d.fact 59 (f := .noat "NoRide" "reason") rfl)
  have no_NoText_row := He.noat_ok (d.fact 60 (f := .noat "NoText" "row") rfl)
  have no_NoName_name := He.noat_ok (d.fact 61 (f := .noat "NoName" "name") rfl)
  have no_NoDay_day := He.noat_ok (d.fact 62 (f := .noat "NoDay" "day") rfl)
  have no_NoSeats_lack := He.noat_ok (d.fact 63 (f := .noat "NoSeats" "lack") rfl)
  have no_TooMany_most := He.noat_ok (d.fact 64 (f := .noat "TooMany" "most") rfl)
  have no_Taken_name := He.noat_ok (d.fact 65 (f := .noat "Taken" "name") rfl)
  have no_NoRule_thing := He.noat_ok (d.fact 66 (f := .noat "NoRule" "thing") rfl)
  have no_NothingDone_text := He.noat_ok (d.fact 67 (f := .noat "NothingDone" "text") rfl)
  have no_NoRow_text := He.noat_ok (d.fact 68 (f := .noat "NoRow" "text") rfl)
  have me_Share_repr := me 69 "Share" "__repr__" rfl
  have me_NoKind_init := me 70 "NoKind" "__init__" rfl
  have me_Nought_init := me 71 "Nought" "__init__" rfl
  have me_NoShare_init := me 72 "NoShare" "__init__" rfl
  have me_Uneven_init := me 73 "Uneven" "__init__" rfl
  have me_BadName_init := me 74 "BadName" "__init__" rfl
  have me_NoNumber_init := me 75 "NoNumber" "__init__" rfl
  have me_NoRide_init := me 76 "NoRide" "__init__" rfl
  have me_NoText_init := me 77 "NoText" "__init__" rfl
  have me_NoName_init := me 78 "NoName" "__init__" rfl
  have me_NoDay_init := me 79 "NoDay" "__init__" rfl
  have me_NoSeats_init := me 80 "NoSeats" "__init__" rfl
  have me_TooMany_init := me 81 "TooMany" "__init__" rfl
  have me_Taken_init := me 82 "Taken" "__init__" rfl
  have me_NoRule_init := me 83 "NoRule" "__init__" rfl
  have me_NothingDone_init := me 84 "NothingDone" "__init__" rfl
  have me_NoRow_init := me 85 "NoRow" "__init__" rfl
  obtain ⟨fd_NoKind_init, D_NoKind_init⟩ := d.def_ 1 (d := d_NoKind_init) rfl
  obtain ⟨fd_Nought_init, D_Nought_init⟩ := d.def_ 2 (d := d_Nought_init) rfl
  obtain ⟨fd_NoShare_init, D_NoShare_init⟩ := d.def_ 3 (d := d_NoShare_init) rfl
  obtain ⟨fd_Uneven_init, D_Uneven_init⟩ := d.def_ 4 (d := d_Uneven_init) rfl
  obtain ⟨fd_BadName_init, D_BadName_init⟩ := d.def_ 5 (d := d_BadName_init) rfl
  obtain ⟨fd_NoNumber_init, D_NoNumber_init⟩ := d.def_ 6 (d := d_NoNumber_init) rfl
  obtain ⟨fd_NoRide_init, D_NoRide_init⟩ := d.def_ 7 (d := d_NoRide_init) rfl
  obtain ⟨fd_NoText_init, D_NoText_init⟩ := d.def_ 8 (d := d_NoText_init) rfl
  obtain ⟨fd_NoName_init, D_NoName_init⟩ := d.def_ 9 (d := d_NoName_init) rfl
  obtain ⟨fd_NoDay_init, D_NoDay_init⟩ := d.def_ 10 (d := d_NoDay_init) rfl
  obtain ⟨fd_NoSeats_init, D_NoSeats_init⟩ := d.def_ 11 (d := d_NoSeats_init) rfl
  obtain ⟨fd_TooMany_init, D_TooMany_init⟩ := d.def_ 12 (d := d_TooMany_init) rfl
  obtain ⟨fd_Taken_init, D_Taken_init⟩ := d.def_ 13 (d := d_Taken_init) rfl
  obtain ⟨fd_NoRule_init, D_NoRule_init⟩ := d.def_ 14 (d := d_NoRule_init) rfl
  obtain ⟨fd_NothingDone_init, D_NothingDone_init⟩ := d.def_ 15 (d := d_NothingDone_init) rfl
  obtain ⟨fd_NoRow_init, D_NoRow_init⟩ := d.def_ 16 (d := d_NoRow_init) rfl
  obtain ⟨fd_is_whole, D_is_whole⟩ := d.def_ 17 (d := d_is_whole) rfl
  obtain ⟨fd_common_part, D_common_part⟩ := d.def_ 18 (d := d_common_part) rfl
  obtain ⟨fd_Share_init, D_Share_init⟩ := d.def_ 19 (d := d_Share_init) rfl
  obtain ⟨fd_Share_repr, D_Share_repr⟩ := d.def_ 22 (d := d_Share_repr) rfl
  obtain ⟨fd_l_held, D_l_held⟩ := d.def_ 29 (d := d_l_held) rfl
  obtain ⟨fd_l_draw, D_l_draw⟩ := d.def_ 30 (d := d_l_draw) rfl
  obtain ⟨fd_l_names, D_l_names⟩ := d.def_ 31 (d := d_l_names) rfl
  obtain ⟨fd_l_kinds, D_l_kinds⟩ := d.def_ 32 (d := d_l_kinds) rfl
  obtain ⟨fd_l_bases, D_l_bases⟩ := d.def_ 33 (d := d_l_bases) rfl
  obtain ⟨fd_l_thing, D_l_thing⟩ := d.def_ 34 (d := d_l_thing) rfl
  obtain ⟨fd_l_first, D_l_first⟩ := d.def_ 35 (d := d_l_first) rfl
  obtain ⟨fd_l_second, D_l_second⟩ := d.def_ 36 (d := d_l_second) rfl
  obtain ⟨fd_l_field, D_l_field⟩ := d.def_ 37 (d := d_l_field) rfl
  obtain ⟨fd_law, D_law⟩ := d.def_ 38 (d := d_law) rfl
  have e := hfa.symm.trans gl_law
  cases e
  have bL := FunD.bindsA (ps := ["_law_script"]) D_law fun _ _ _ _ _ _ us hl => match us, hl with | [_], _ => rfl
  refine ⟨fd_law, fun s v => bL s [v] rfl, fun base _ _ => ?_⟩
  have b_NoKind_init : Binds K fd_NoKind_init ["self", "thing"] [] := D_NoKind_init.bindsN fun _ _ _ _ _ _ us hl => match us, hl with | [_, _], _ => rfl
  have b_Nought_init : Binds K fd_Nought_init ["self", "top"] [] := D_Nought_init.bindsN fun _ _ _ _ _ _ us hl => match us, hl with | [_, _], _ => rfl
  have b_NoShare_init : Binds K fd_NoShare_init ["self", "text"] [] := D_NoShare_init.bindsN fun _ _ _ _ _ _ us hl => match us, hl with | [_, _], _ => rfl
  have b_Uneven_init : Binds K fd_Uneven_init ["self", "rest"] [] := D_Uneven_init.bindsN fun _ _ _ _ _ _ us hl => match us, hl with | [_, _], _ => rfl
  have b_BadName_init : Binds K fd_BadName_init ["self", "name"] [] := D_BadName_init.bindsN fun _ _ _ _ _ _ us hl => match us, hl with | [_, _], _ => rfl
  have b_NoNumber_init : Binds K fd_NoNumber_init ["self", "thing"] [] := D_NoNumber_init.bindsN fun _ _ _ _ _ _ us hl => match us, hl with | [_, _], _ => rfl
  have b_NoRide_init : Binds K fd_NoRide_init ["self", "reason"] [] := D_NoRide_init.bindsN fun _ _ _ _ _ _ us hl => match us, hl with | [_, _], _ => rfl
  have b_NoText_init : Binds K fd_NoText_init ["self", "row"] [] := D_NoText_init.bindsN fun _ _ _ _ _ _ us hl => match us, hl with | [_, _], _ => rfl
  have b_NoName_init : Binds K fd_NoName_init ["self", "name"] [] := D_NoName_init.bindsN fun _ _ _ _ _ _ us hl => match us, hl with | [_, _], _ => rfl
  have b_NoDay_init : Binds K fd_NoDay_init ["self", "day"] [] := D_NoDay_init.bindsN fun _ _ _ _ _ _ us hl => match us, hl with | [_, _], _ => rfl
  have b_NoSeats_init : Binds K fd_NoSeats_init ["self", "lack"] [] := D_NoSeats_init.bindsN fun _ _ _ _ _ _ us hl => match us, hl with | [_, _], _ => rfl
  have b_TooMany_init : Binds K fd_TooMany_init ["self", "most"] [] := D_TooMany_init.bindsN fun _ _ _ _ _ _ us hl => match us, hl with | [_, _], _ => rfl
  have b_Taken_init : Binds K fd_Taken_init ["self", "name"] [] := D_Taken_init.bindsN fun _ _ _ _ _ _ us hl => match us, hl with | [_, _], _ => rfl
  have b_NoRule_init : Binds K fd_NoRule_init ["self", "thing"] [] := D_NoRule_init.bindsN fun _ _ _ _ _ _ us hl => match us, hl with | [_, _], _ => rfl
  have b_NothingDone_init : Binds K fd_NothingDone_init ["self", "text"] [] := D_NothingDone_init.bindsN fun _ _ _ _ _ _ us hl => match us, hl with | [_, _], _ => rfl
  have b_NoRow_init : Binds K fd_NoRow_init ["self", "text"] [] := D_NoRow_init.bindsN fun _ _ _ _ _ _ us hl => match us, hl with | [_, _], _ => rfl
  have b_is_whole : Binds K fd_is_whole ["thing"] [] := D_is_whole.bindsN fun _ _ _ _ _ _ us hl => match us, hl with | [_], _ => rfl
  have b_common_part : Binds K fd_common_part ["one", "other"] [] := D_common_part.bindsN fun _ _ _ _ _ _ us hl => match us, hl with | [_, _], _ => rfl
  have b_Share_init : Binds K fd_Share_init ["self", "top", "bottom"] [] := by
    obtain ⟨ds, h1, h2⟩ := D_Share_init.binds1 (ps := ["self", "top", "bottom"]) 3 1 (List.cons_ne_nil _ _) rfl (fun T kV doc pm an cdv ct us its hl h1 => match us, hl, its, h1 with | [_, _, _], _, [_], _ => ⟨_, rfl, rfl⟩)
    cases h1
    exact h2
  obtain ⟨ds1_Share_init, v1_Share_init, b1_Share_init⟩ := D_Share_init.binds1 (ps := ["self", "top", "bottom"]) 2 0 (List.cons_ne_nil _ _) rfl (fun T kV doc pm an cdv ct us its hl h1 => match us, hl, its, h1 with | [_, _], _, [_], _ => ⟨_, rfl, rfl⟩)
  have b_Share_repr : Binds K fd_Share_repr ["self"] [] := D_Share_repr.bindsN fun _ _ _ _ _ _ us hl => match us, hl with | [_], _ => rfl
  have b_l_held : Binds K fd_l_held ["_law_script"] [] := D_l_held.bindsN fun _ _ _ _ _ _ us hl => match us, hl with | [_], _ => rfl
  have b_l_draw : Binds K fd_l_draw ["_law_held_here", "_law_many"] [] := D_l_draw.bindsN fun _ _ _ _ _ _ us hl => match us, hl with | [_, _], _ => rfl
  have b_l_names : Binds K fd_l_names ["_law_held_here", "_law_many"] [] := D_l_names.bindsN fun _ _ _ _ _ _ us hl => match us, hl with | [_, _], _ => rfl
  have b_l_kinds : Binds K fd_l_kinds ["_law_error"] [] := D_l_kinds.bindsN fun _ _ _ _ _ _ us hl => match us, hl with | [_], _ => rfl
  have b_l_bases : Binds K fd_l_bases ["_law_word"] [] := D_l_bases.bindsN fun _ _ _ _ _ _ us hl => match us, hl with | [_], _ => rfl
  have b_l_thing : Binds K fd_l_thing ["_law_held_here", "_law_number"] [] := D_l_thing.bindsN fun _ _ _ _ _ _ us hl => match us, hl with | [_, _], _ => rfl
  have b_l_first : Binds K fd_l_first ["_law_number", "_law_it", "_law_by_name"] [] := D_l_first.bindsN fun _ _ _ _ _ _ us hl => match us, hl with | [_, _, _], _ => rfl
  have b_l_second : Binds K fd_l_second ["_law_number", "_law_it", "_law_by_name"] [] := D_l_second.bindsN fun _ _ _ _ _ _ us hl => match us, hl with | [_, _, _], _ => rfl
  have b_l_field : Binds K fd_l_field ["_law_number", "_law_error"] [] := D_l_field.bindsN fun _ _ _ _ _ _ us hl => match us, hl with | [_, _], _ => rfl
  have b_law : Binds K fd_law ["_law_script"] [] := D_law.bindsN fun _ _ _ _ _ _ us hl => match us, hl with | [_], _ => rfl
  have XD := xk_ok x
  have B : Bl mg := ⟨fr_isinstance, fr_int, fr_bool, fr_abs, fr_list, fr_range, fr_len⟩
  have T : Cl K mg (He.ga K "Share") := ⟨cls_Share, no_Share_top, no_Share_bottom, gl_Share⟩
  have cW : CalW P w K mg base := cal_of (ok_whole D_is_whole B) gl_is_whole D_is_whole.kp b_is_whole
  have cG : CalG P w K mg base := cal_of (ok_gcd D_common_part B) gl_common_part D_common_part.kp b_common_part
  have FI := ok_init D_Share_init cW cG T
  have MS : MakS P w K mg base (He.ga K "Share") := ⟨_, _, _, _, mk_Share, FI, T.g, b_Share_init, .nil⟩
  have M1 : Mak P w K mg base 2 "Share" (He.ga K "Share") (spInit (He.ga K "Share")) [.int 1] := ⟨_, _, _, _, mk_Share, FI, T.g, b1_Share_init, v1_Share_init⟩
  have Sr : OW.Spc P w K mg base 1 (He.ga K "Share") "__repr__" (spTx (He.ga K "Share") rpq) := ⟨_, _, _, me_Share_repr.at_, me_Share_repr.fn, ok_repr D_Share_repr T, b_Share_repr⟩
  have X0 := XD 0 (by decide)
  have KX0 : XNoKind K mg (He.ga K "NoKind") (He.ma K (He.ga K "NoKind") "__init__") := ⟨X0.gx, me_NoKind_init.1, eq_of_beq me_NoKind_init.2, X0.vV, no_NoKind_thing, gl_NoKind, fr_TypeError, X0.xf⟩
  have kw0 := KW.kb0 (ps := ["self", "thing"]) D_NoKind_init 1 ["thing"] (fun us ws => us ++ ws) (fun r s => r.append s) (fun kV doc pm an cdv ct us ws h1 h2 => match us, h1, ws, h2 with | [_], _, [_], _ => rfl)
  have m0 := mx_NoKind (P := P) (w := w) (base := base) D_NoKind_init KX0 b_NoKind_init kw0
  have X1 := XD 1 (by decide)
  have KX1 : XNought K mg (He.ga K "Nought") (He.ma K (He.ga K "Nought") "__init__") := ⟨X1.gx, me_Nought_init.1, eq_of_beq me_Nought_init.2, X1.vV, no_Nought_top, gl_Nought, fr_ZeroDivisionError, X1.xf⟩
  have kw1 := KW.kb0 (ps := ["self", "top"]) D_Nought_init 1 ["top"] (fun us ws => us ++ ws) (fun r s => r.append s) (fun kV doc pm an cdv ct us ws h1 h2 => match us, h1, ws, h2 with | [_], _, [_], _ => rfl)
  have m1 := mx_Nought (P := P) (w := w) (base := base) D_Nought_init KX1 b_Nought_init kw1
  have X2 := XD 2 (by decide)
  have KX2 : XNoShare K mg (He.ga K "NoShare") (He.ma K (He.ga K "NoShare") "__init__") := ⟨X2.gx, me_NoShare_init.1, eq_of_beq me_NoShare_init.2, X2.vV, no_NoShare_text, gl_NoShare, fr_ArithmeticError, X2.xf⟩
  have kw2 := KW.kb0 (ps := ["self", "text"]) D_NoShare_init 1 ["text"] (fun us ws => us ++ ws) (fun r s => r.append s) (fun kV doc pm an cdv ct us ws h1 h2 => match us, h1, ws, h2 with | [_], _, [_], _ => rfl)
  have m2 := mx_NoShare (P := P) (w := w) (base := base) D_NoShare_init KX2 b_NoShare_init kw2
  have X3 := XD 3 (by decide)
  have KX3 : XUneven K mg (He.ga K "Uneven") (He.ma K (He.ga K "Uneven") "__init__") := ⟨X3.gx, me_Uneven_init.1, eq_of_beq me_Uneven_init.2, X3.vV, no_Uneven_rest, gl_Uneven, fr_ArithmeticError, X3.xf⟩
  have kw3 := KW.kb0 (ps := ["self", "rest"]) D_Uneven_init 1 ["rest"] (fun us ws => us ++ ws) (fun r s => r.append s) (fun kV doc pm an cdv ct us ws h1 h2 => match us, h1, ws, h2 with | [_], _, [_], _ => rfl)
  have m3 := mx_Uneven (P := P) (w := w) (base := base) D_Uneven_init KX3 b_Uneven_init kw3
  have X4 := XD 4 (by decide)
  have KX4 : XBadName K mg (He.ga K "BadName") (He.ma K (He.ga K "BadName") "__init__") := ⟨X4.gx, me_BadName_init.1, eq_of_beq me_BadName_init.2, X4.vV, no_BadName_name, gl_BadName, fr_ValueError, X4.xf⟩
  have kw4 := KW.kb0 (ps := ["self", "name"]) D_BadName_init 1 ["name"] (fun us ws => us ++ ws) (fun r s => r.append s) (fun kV doc pm an cdv ct us ws h1 h2 => match us, h1, ws, h2 with | [_], _, [_], _ => rfl)
  have m4 := mx_BadName (P := P) (w := w) (base := base) D_BadName_init KX4 b_BadName_init kw4
  have X5 := XD 5 (by decide)
  have KX5 : XNoNumber K mg (He.ga K "NoNumber") (He.ma K (He.ga K "NoNumber") "__init__") := ⟨X5.gx, me_NoNumber_init.1, eq_of_beq me_NoNumber_init.2, X5.vV, no_NoNumber_thing, gl_NoNumber, fr_ValueError, X5.xf⟩
  have kw5 := KW.kb0 (ps := ["self", "thing"]) D_NoNumber_init 1 ["thing"] (fun us ws => us ++ ws) (fun r s => r.append s) (fun kV doc pm an cdv ct us ws h1 h2 => match us, h1, ws, h2 with | [_], _, [_], _ => rfl)
  have m5 := mx_NoNumber (P := P) (w := w) (base := base) D_NoNumber_init KX5 b_NoNumber_init kw5
  have X6 := XD 6 (by decide)
  have KX6 : XNoRide K mg (He.ga K "NoRide") (He.ma K (He.ga K "NoRide") "__init__") := ⟨X6.gx, me_NoRide_init.1, eq_of_beq me_NoRide_init.2, X6.vV, no_NoRide_reason, gl_NoRide, fr_ValueError, X6.xf⟩
  have kw6 := KW.kb0 (ps := ["self", "reason"]) D_NoRide_init 1 ["reason"] (fun us ws => us ++ ws) (fun r s => r.append s) (fun kV doc pm an cdv ct us ws h1 h2 => match us, h1, ws, h2 with | [_], _, [_], _ => rfl)
  have m6 := mx_NoRide (P := P) (w := w) (base := base) D_NoRide_init KX6 b_NoRide_init kw6
  have X7 := XD 7 (by decide)
  have KX7 : XNoText K mg (He.ga K "NoText") (He.ma K (He.ga K "NoText") "__init__") := ⟨X7.gx, me_NoText_init.1, eq_of_beq me_NoText_init.2, X7.vV, no_NoText_row, gl_NoText, fr_ValueError, X7.xf⟩
  have kw7 := KW.kb0 (ps := ["self", "row"]) D_NoText_init 1 ["row"] (fun us ws => us ++ ws) (fun r s => r.append s) (fun kV doc pm an cdv ct us ws h1 h2 => match us, h1, ws, h2 with | [_], _, [_], _ => rfl)
  have m7 := mx_NoText (P := P) (w := w) (base := base) D_NoText_init KX7 b_NoText_init kw7
  have X8 := XD 8 (by decide)
  have KX8 : XNoName K mg (He.ga K "NoName") (He.ma K (He.ga K "NoName") "__init__") := ⟨X8.gx, me_NoName_init.1, eq_of_beq me_NoName_init.2, X8.vV, no_NoName_name, gl_NoName, fr_KeyError, X8.xf⟩
  have kw8 := KW.kb0 (ps := ["self", "name"]) D_NoName_init 1 ["name"] (fun us ws => us ++ ws) (fun r s => r.append s) (fun kV doc pm an cdv ct us ws h1 h2 => match us, h1, ws, h2 with | [_], _, [_], _ => rfl)
  have m8 := mx_NoName (P := P) (w := w) (base := base) D_NoName_init KX8 b_NoName_init kw8
  have X9 := XD 9 (by decide)
  have KX9 : XNoDay K mg (He.ga K "NoDay") (He.ma K (He.ga K "NoDay") "__init__") := ⟨X9.gx, me_NoDay_init.1, eq_of_beq me_NoDay_init.2, X9.vV, no_NoDay_day, gl_NoDay, fr_LookupError, X9.xf⟩
  have kw9 := KW.kb0 (ps := ["self", "day"]) D_NoDay_init 1 ["day"] (fun us ws => us ++ ws) (fun r s => r.append s) (fun kV doc pm an cdv ct us ws h1 h2 => match us, h1, ws, h2 with | [_], _, [_], _ => rfl)
  have m9 := mx_NoDay (P := P) (w := w) (base := base) D_NoDay_init KX9 b_NoDay_init kw9
  have X10 := XD 10 (by decide)
  have KX10 : XNoSeats K mg (He.ga K "NoSeats") (He.ma K (He.ga K "NoSeats") "__init__") := ⟨X10.gx, me_NoSeats_init.1, eq_of_beq me_NoSeats_init.2, X10.vV, no_NoSeats_lack, gl_NoSeats, fr_IndexError, X10.xf⟩
  have kw10 := KW.kb0 (ps := ["self", "lack"]) D_NoSeats_init 1 ["lack"] (fun us ws => us ++ ws) (fun r s => r.append s) (fun kV doc pm an cdv ct us ws h1 h2 => match us, h1, ws, h2 with | [_], _, [_], _ => rfl)
  have m10 := mx_NoSeats (P := P) (w := w) (base := base) D_NoSeats_init KX10 b_NoSeats_init kw10
  have X11 := XD 11 (by decide)
  have KX11 : XTooMany K mg (He.ga K "TooMany") (He.ma K (He.ga K "TooMany") "__init__") := ⟨X11.gx, me_TooMany_init.1, eq_of_beq me_TooMany_init.2, X11.vV, no_TooMany_most, gl_TooMany, fr_OverflowError, X11.xf⟩
  have kw11 := KW.kb0 (ps := ["self", "most"]) D_TooMany_init 1 ["most"] (fun us ws => us ++ ws) (fun r s => r.append s) (fun kV doc pm an cdv ct us ws h1 h2 => match us, h1, ws, h2 with | [_], _, [_], _ => rfl)
  have m11 := mx_TooMany (P := P) (w := w) (base := base) D_TooMany_init KX11 b_TooMany_init kw11
  have X12 := XD 12 (by decide)
  have KX12 : XTaken K mg (He.ga K "Taken") (He.ma K (He.ga K "Taken") "__init__") := ⟨X12.gx, me_Taken_init.1, eq_of_beq me_Taken_init.2, X12.vV, no_Taken_name, gl_Taken, fr_RuntimeError, X12.xf⟩
  have kw12 := KW.kb0 (ps := ["self", "name"]) D_Taken_init 1 ["name"] (fun us ws => us ++ ws) (fun r s => r.append s) (fun kV doc pm an cdv ct us ws h1 h2 => match us, h1, ws, h2 with | [_], _, [_], _ => rfl)
  have m12 := mx_Taken (P := P) (w := w) (base := base) D_Taken_init KX12 b_Taken_init kw12
  have X13 := XD 13 (by decide)
  have KX13 : XNoRule K mg (He.ga K "NoRule") (He.ma K (He.ga K "NoRule") "__init__") := ⟨X13.gx, me_NoRule_init.1, eq_of_beq me_NoRule_init.2, X13.vV, no_NoRule_thing, gl_NoRule, fr_NotImplementedError, X13.xf⟩
  have kw13 := KW.kb0 (ps := ["self", "thing"]) D_NoRule_init 1 ["thing"] (fun us ws => us ++ ws) (fun r s => r.append s) (fun kV doc pm an cdv ct us ws h1 h2 => match us, h1, ws, h2 with | [_], _, [_], _ => rfl)
  have m13 := mx_NoRule (P := P) (w := w) (base := base) D_NoRule_init KX13 b_NoRule_init kw13
  have X14 := XD 14 (by decide)
  have KX14 : XNothingDone K mg (He.ga K "NothingDone") (He.ma K (He.ga K "NothingDone") "__init__") := ⟨X14.gx, me_NothingDone_init.1, eq_of_beq me_NothingDone_init.2, X14.vV, no_NothingDone_text, gl_NothingDone, fr_Exception, X14.xf⟩
  have kw14 := KW.kb0 (ps := ["self", "text"]) D_NothingDone_init 1 ["text"] (fun us ws => us ++ ws) (fun r s => r.append s) (fun kV doc pm an cdv ct us ws h1 h2 => match us, h1, ws, h2 with | [_], _, [_], _ => rfl)
  have m14 := mx_NothingDone (P := P) (w := w) (base := base) D_NothingDone_init KX14 b_NothingDone_init kw14
  have X15 := XD 15 (by decide)
  have KX15 : XNoRow K mg (He.ga K "NoRow") (He.ma K (He.ga K "NoRow") "__init__") := ⟨X15.gx, me_NoRow_init.1, eq_of_beq me_NoRow_init.2, X15.vV, no_NoRow_text, gl_NoRow, fr_Exception, X15.xf⟩
  have kw15 := KW.kb0 (ps := ["self", "text"]) D_NoRow_init 1 ["text"] (fun us ws => us ++ ws) (fun r s => r.append s) (fun kV doc pm an cdv ct us ws h1 h2 => match us, h1, ws, h2 with | [_], _, [_], _ => rfl)
  have m15 := mx_NoRow (P := P) (w := w) (base := base) D_NoRow_init KX15 b_NoRow_init kw15
  have g16' : ∀ x ∈ ex16, mg x = some (.ref (He.ga K x)) := fun x hx => by
    simp only [List.mem_cons, List.not_mem_nil, or_false] at hx
    rcases hx with rfl | rfl | rfl | rfl | rfl | rfl | rfl | rfl | rfl | rfl | rfl | rfl | rfl | rfl | rfl | rfl
    · exact gl_NoKind
    · exact gl_Nought
    · exact gl_NoShare
    · exact gl_Uneven
    · exact gl_BadName
    · exact gl_NoNumber
    · exact gl_NoRide
    · exact gl_NoText
    · exact gl_NoName
    · exact gl_NoDay
    · exact gl_NoSeats
    · exact gl_TooMany
    · exact gl_Taken
    · exact gl_NoRule
    · exact gl_NothingDone
    · exact gl_NoRow
  have g10' : ∀ x ∈ ex10, mg (Str.ofString x) = none := fun x hx => by
    simp only [List.mem_cons, List.not_mem_nil, or_false] at hx
    rcases hx with rfl | rfl | rfl | rfl | rfl | rfl | rfl | rfl | rfl | rfl
    · exact fr_TypeError
    · exact fr_ZeroDivisionError
    · exact fr_ArithmeticError
    · exact fr_ValueError
    · exact fr_KeyError
    · exact fr_LookupError
    · exact fr_IndexError
    · exact fr_OverflowError
    · exact fr_RuntimeError
    · exact fr_NotImplementedError
  have C : C16 K mg := ⟨fun n hn => ⟨g16', g10', (XD n hn).xc, (XD n hn).ko, (XD n hn).kb⟩, fun n hn => (XD n hn).xf, fun n hn => by
    obtain rfl | rfl | rfl | rfl | rfl | rfl | rfl | rfl | rfl | rfl | rfl | rfl | rfl | rfl | rfl | rfl : n = 0 ∨ n = 1 ∨ n = 2 ∨ n = 3 ∨ n = 4 ∨ n = 5 ∨ n = 6 ∨ n = 7 ∨ n = 8 ∨ n = 9 ∨ n = 10 ∨ n = 11 ∨ n = 12 ∨ n = 13 ∨ n = 14 ∨ n = 15 := by omega
    · exact no_NoKind_thing
    · exact no_Nought_top
    · exact no_NoShare_text
    · exact no_Uneven_rest
    · exact no_BadName_name
    · exact no_NoNumber_thing
    · exact no_NoRide_reason
    · exact no_NoText_row
    · exact no_NoName_name
    · exact no_NoDay_day
    · exact no_NoSeats_lack
    · exact no_TooMany_most
    · exact no_Taken_name
    · exact no_NoRule_thing
    · exact no_NothingDone_text
    · exact no_NoRow_text⟩
  have M8 : Mx16 P w K mg base 0 8 := fun n lo hi => by
    obtain rfl | rfl | rfl | rfl | rfl | rfl | rfl | rfl : n = 0 ∨ n = 1 ∨ n = 2 ∨ n = 3 ∨ n = 4 ∨ n = 5 ∨ n = 6 ∨ n = 7 := by omega
    · exact m0
    · exact m1
    · exact m2
    · exact m3
    · exact m4
    · exact m5
    · exact m6
    · exact m7
  have M16 : Mx16 P w K mg base 8 16 := fun n lo hi => by
    obtain rfl | rfl | rfl | rfl | rfl | rfl | rfl | rfl : n = 8 ∨ n = 9 ∨ n = 10 ∨ n = 11 ∨ n = 12 ∨ n = 13 ∨ n = 14 ∨ n = 15 := by omega
    · exact m8
    · exact m9
    · exact m10
    · exact m11
    · exact m12
    · exact m13
    · exact m14
    · exact m15
  have cH := cal_of (P := P) (w := w) (base := base) (ok_held D_l_held B) gl__law_held D_l_held.kp b_l_held
  have cD : CalD P w K mg base := cal_of (ok_draw D_l_draw B) gl__law_draw D_l_draw.kp b_l_draw
  have cN := cal_of (ok_names D_l_names B cD) gl__law_names D_l_names.kp b_l_names
  have cK := cal_of (P := P) (w := w) (base := base) (ok_kiA D_l_kinds B fr_zip C) gl__law_kinds D_l_kinds.kp b_l_kinds
  have cB := cal_of (P := P) (w := w) (base := base) (ok_ba D_l_bases B) gl__law_bases D_l_bases.kp b_l_bases
  have cTh := cal_of (ok_th D_l_thing B cD cN MS M1) gl__law_thing D_l_thing.kp b_l_thing
  have cFi := cal_of (ok_first D_l_first M8) gl__law_first D_l_first.kp b_l_first
  have cSe := cal_of (ok_second D_l_second M16) gl__law_second D_l_second.kp b_l_second
  have cF := cal_of (P := P) (w := w) (base := base) (mg := mg) (ok_fld D_l_field) gl__law_field D_l_field.kp b_l_field
  exact ok_law D_law B fr_repr C cH cD cTh cFi cSe cK cB cF Sr
end K90
open PySem PySem.W PySem.Calls PyProof.Rows
set_option maxRecDepth 100000 in
set_option maxHeartbeats 0 in
theorem PySem.Challenge.cw_rideturns_k90_refusals_made_by_hand_holds : PySem.Challenge.rw_rideturns_k90_refusals_made_by_hand.Holds := by
  w_on; o_law
  refine HandSHeadRun.head_any (r := OpenLaw.row PySem.Challenge.rw_rideturns_k90_refusals_made_by_hand) (q := view (OpenLaw.row PySem.Challenge.rw_rideturns_k90_refusals_made_by_hand).prog [33]) (H := K90.hk) (ob := K90.ob) (M := 8000) (loose := K90.loose) (d := HandSHeadRun.topDef (OpenLaw.row PySem.Challenge.rw_rideturns_k90_refusals_made_by_hand).prog 33) (kwd := []) K90.ob_eq
    (by kernel_rfl) (fun s => by kernel_rfl) K90.run_ (by kernel_rfl) (by kernel_rfl) (by kernel_rfl) (by rfl) (by first | assumption | decide +kernel) (by decide +kernel) ⟨rfl, rfl, rfl, rfl, rfl, by decide +kernel⟩ ?hw ?hc
  case hw => w_witness2
  case hc =>
    refine GL.walkG (l := PySem.Challenge.rw_rideturns_k90_refusals_made_by_hand) (n := 63) (k := 8) (x := "_law_script") rfl (by decide) (by kernel_rfl) ⟨rfl, by decide, by decide⟩ ?F
    intro w mg fa h Y G hmg0
    obtain ⟨K, KX, c⟩ := Y
    have hmg : mg ("law" : PySem.Str) = some (.ref fa) := by
      have e : (HandSHeadRun.topDef (OpenLaw.row PySem.Challenge.rw_rideturns_k90_refusals_made_by_hand).prog 33).name = ("law" : PySem.Str) := by kernel_rfl
      rw [← e]
      exact hmg0
    obtain ⟨fd, hb, hF⟩ := K90.facts (P := (PySem.Challenge.rw_rideturns_k90_refusals_made_by_hand).prog) (w := w) KX G hmg c
    exact ⟨K, fd, K90.spLaw K, KX, hb, fun H a ns hl hS => ⟨a, ns, rfl, hS, hl, fun _ => rfl⟩, hF⟩
