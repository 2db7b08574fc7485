import PyProof.Rows.All
import Wide.All
import OpenK.AllK
import Wide.FinOn
import HandS.ForMost
import HandS.ForExc
import HandS.Defaults
import HandS.Codes
import HandS.IsInst
import HandS.Wide
import HandS.Flow
import HandS.Evl
import HandS.Steps
import HandS.ExcField
import HandS.Head0
import HandS.Head1
import HandS.Head2
import HandS.HeadEnd
import HandS.HeadHook1
import HandS.HeadHook2
import HandS.HeadHook3
import HandS.HeadHook4
import KE.KExcInit
import HandS.ExcInit
import KE.KEqSeq
import KE.KIsAll
import KE.KTryMore
import HandS.ExcIs
import HandS.ExcValue
import HandS.Dict
import HandS.List
import HandS.Call
import PyProof.DictUpdate
import HandS.Walk
import HandS.Zip
import HandS.Text
import KE.KCallOwn
import PyProof.EqKinds
import PyProof.NeKinds
import PyProof.FactsAll.dict_1
import HandS.ListEq
import HandS.Deep
import KE.KEqNest
import HandS.OwnEq
import PyProof.ReprRoads
import PyProof.ReprDict
import HandS.Iter
import KE.IntTextLaws
import PyProof.StrLawsAffix
import HandS.ExcOwn
import HandS.FStr
import HandS.MakeKw
import HandS.MakeKwOnly
import HandS.Words
import PySem.Challenge.RW_rideturns_k01_shares_made
set_option Elab.async false
set_option linter.all false
set_option maxRecDepth 100000
set_option maxHeartbeats 4000000
namespace K01
open PySem PySem.Spec PyProof.Rows L2
def top (i : Nat) : Stmt := PySem.Challenge.pw_rideturns_k01_shares_made.main.body.getD i (.Pass ⟨0, 0, 0, 0⟩)
abbrev s__wall : Stmt := top 0
abbrev N__wall : List Str := ["k"]
theorem sc__wall : FnScope N__wall ["k"] (defScope s__wall) := ⟨rfl, rfl, rfl, by decide +kernel, rfl, by decide +kernel, by decide +kernel⟩
def d__wall : He.DefD := ⟨("_wall", none), "_wall", "_wall", defArgs s__wall, defBody s__wall, defScope s__wall, [], []⟩
abbrev s_NoKind_init : Stmt := inClass (top 2) 0
abbrev N_NoKind_init : List Str := ["self", "thing"]
theorem sc_NoKind_init : FnScope N_NoKind_init ["self", "thing"] (defScope s_NoKind_init) := ⟨rfl, rfl, rfl, by decide +kernel, rfl, by decide +kernel, by decide +kernel⟩
def d_NoKind_init : He.DefD := ⟨("NoKind", some "__init__"), "__init__", "NoKind.__init__", defArgs s_NoKind_init, defBody s_NoKind_init, defScope s_NoKind_init, [], []⟩
abbrev s_Nought_init : Stmt := inClass (top 3) 0
abbrev N_Nought_init : List Str := ["self", "top"]
theorem sc_Nought_init : FnScope N_Nought_init ["self", "top"] (defScope s_Nought_init) := ⟨rfl, rfl, rfl, by decide +kernel, rfl, by decide +kernel, by decide +kernel⟩
def d_Nought_init : He.DefD := ⟨("Nought", some "__init__"), "__init__", "Nought.__init__", defArgs s_Nought_init, defBody s_Nought_init, defScope s_Nought_init, [], []⟩
abbrev s_NoShare_init : Stmt := inClass (top 4) 0
abbrev N_NoShare_init : List Str := ["self", "text"]
theorem sc_NoShare_init : FnScope N_NoShare_init ["self", "text"] (defScope s_NoShare_init) := ⟨rfl, rfl, rfl, by decide +kernel, rfl, by decide +kernel, by decide +kernel⟩
def d_NoShare_init : He.DefD := ⟨("NoShare", some "__init__"), "__init__", "NoShare.__init__", defArgs s_NoShare_init, defBody s_NoShare_init, defScope s_NoShare_init, [], []⟩
abbrev s_Uneven_init : Stmt := inClass (top 5) 0
abbrev N_Uneven_init : List Str := ["self", "rest"]
theorem sc_Uneven_init : FnScope N_Uneven_init ["self", "rest"] (defScope s_Uneven_init) := ⟨rfl, rfl, rfl, by decide +kernel, rfl, by decide +kernel, by decide +kernel⟩
def d_Uneven_init : He.DefD := ⟨("Uneven", some "__init__"), "__init__", "Uneven.__init__", defArgs s_Uneven_init, defBody s_Uneven_init, defScope s_Uneven_init, [], []⟩
abbrev s_BadName_init : Stmt := inClass (top 6) 0
abbrev N_BadName_init : List Str := ["self", "name"]
theorem sc_BadName_init : FnScope N_BadName_init ["self", "name"] (defScope s_BadName_init) := ⟨rfl, rfl, rfl, by decide +kernel, rfl, by decide +kernel, by decide +kernel⟩
def d_BadName_init : He.DefD := ⟨("BadName", some "__init__"), "__init__", "BadName.__init__", defArgs s_BadName_init, defBody s_BadName_init, defScope s_BadName_init, [], []⟩
abbrev s_NoNumber_init : Stmt := inClass (top 7) 0
abbrev N_NoNumber_init : List Str := ["self", "thing"]
theorem sc_NoNumber_init : FnScope N_NoNumber_init ["self", "thing"] (defScope s_NoNumber_init) := ⟨rfl, rfl, rfl, by decide +kernel, rfl, by decide +kernel, by decide +kernel⟩
def d_NoNumber_init : He.DefD := ⟨("NoNumber", some "__init__"), "__init__", "NoNumber.__init__", defArgs s_NoNumber_init, defBody s_NoNumber_init, defScope s_NoNumber_init, [], []⟩
abbrev s_NoRide_init : Stmt := inClass (top 8) 0
abbrev N_NoRide_init : List Str := ["self", "reason"]
theorem sc_NoRide_init : FnScope N_NoRide_init ["self", "reason"] (defScope s_NoRide_init) := ⟨rfl, rfl, rfl, by decide +kernel, rfl, by decide +kernel, by decide +kernel⟩
def d_NoRide_init : He.DefD := ⟨("NoRide", some "__init__"), "__init__", "NoRide.__init__", defArgs s_NoRide_init, defBody s_NoRide_init, defScope s_NoRide_init, [], []⟩
abbrev s_NoText_init : Stmt := inClass (top 9) 0
abbrev N_NoText_init : List Str := ["self", "row"]
theorem sc_NoText_init : FnScope N_NoText_init ["self", "row"] (defScope s_NoText_init) := ⟨rfl, rfl, rfl, by decide +kernel, rfl, by decide +kernel, by decide +kernel⟩
def d_NoText_init : He.DefD := ⟨("NoText", some "__init__"), "__init__", "NoText.__init__", defArgs s_NoText_init, defBody s_NoText_init, defScope s_NoText_init, [], []⟩
abbrev s_NoName_init : Stmt := inClass (top 10) 0
abbrev N_NoName_init : List Str := ["self", "name"]
theorem sc_NoName_init : FnScope N_NoName_init ["self", "name"] (defScope s_NoName_init) := ⟨rfl, rfl, rfl, by decide +kernel, rfl, by decide +kernel, by decide +kernel⟩
def d_NoName_init : He.DefD := ⟨("NoName", some "__init__"), "__init__", "NoName.__init__", defArgs s_NoName_init, defBody s_NoName_init, defScope s_NoName_init, [], []⟩
abbrev s_NoDay_init : Stmt := inClass (top 11) 0
abbrev N_NoDay_init : List Str := ["self", "day"]
theorem sc_NoDay_init : FnScope N_NoDay_init ["self", "day"] (defScope s_NoDay_init) := ⟨rfl, rfl, rfl, by decide +kernel, rfl, by decide +kernel, by decide +kernel⟩
def d_NoDay_init : He.DefD := ⟨("NoDay", some "__init__"), "__init__", "NoDay.__init__", defArgs s_NoDay_init, defBody s_NoDay_init, defScope s_NoDay_init, [], []⟩
abbrev s_NoSeats_init : Stmt := inClass (top 12) 0
abbrev N_NoSeats_init : List Str := ["self", "lack"]
theorem sc_NoSeats_init : FnScope N_NoSeats_init ["self", "lack"] (defScope s_NoSeats_init) := ⟨rfl, rfl, rfl, by decide +kernel, rfl, by decide +kernel, by decide +kernel⟩
def d_NoSeats_init : He.DefD := ⟨("NoSeats", some "__init__"), "__init__", "NoSeats.__init__", defArgs s_NoSeats_init, defBody s_NoSeats_init, defScope s_NoSeats_init, [], []⟩
abbrev s_TooMany_init : Stmt := inClass (top 13) 0
abbrev N_TooMany_init : List Str := ["self", "most"]
theorem sc_TooMany_init : FnScope N_TooMany_init ["self", "most"] (defScope s_TooMany_init) := ⟨rfl, rfl, rfl, by decide +kernel, rfl, by decide +kernel, by decide +kernel⟩
def d_TooMany_init : He.DefD := ⟨("TooMany", some "__init__"), "__init__", "TooMany.__init__", defArgs s_TooMany_init, defBody s_TooMany_init, defScope s_TooMany_init, [], []⟩
abbrev s_Taken_init : Stmt := inClass (top 14) 0
abbrev N_Taken_init : List Str := ["self", "name"]
theorem sc_Taken_init : FnScope N_Taken_init ["self", "name"] (defScope s_Taken_init) := ⟨rfl, rfl, rfl, by decide +kernel, rfl, by decide +kernel, by decide +kernel⟩
def d_Taken_init : He.DefD := ⟨("Taken", some "__init__"), "__init__", "Taken.__init__", defArgs s_Taken_init, defBody s_Taken_init, defScope s_Taken_init, [], []⟩
abbrev s_NoRule_init : Stmt := inClass (top 15) 0
abbrev N_NoRule_init : List Str := ["self", "thing"]
theorem sc_NoRule_init : FnScope N_NoRule_init ["self", "thing"] (defScope s_NoRule_init) := ⟨rfl, rfl, rfl, by decide +kernel, rfl, by decide +kernel, by decide +kernel⟩
def d_NoRule_init : He.DefD := ⟨("NoRule", some "__init__"), "__init__", "NoRule.__init__", defArgs s_NoRule_init, defBody s_NoRule_init, defScope s_NoRule_init, [], []⟩
abbrev s_NothingDone_init : Stmt := inClass (top 16) 0
abbrev N_NothingDone_init : List Str := ["self", "text"]
theorem sc_NothingDone_init : FnScope N_NothingDone_init ["self", "text"] (defScope s_NothingDone_init) := ⟨rfl, rfl, rfl, by decide +kernel, rfl, by decide +kernel, by decide +kernel⟩
def d_NothingDone_init : He.DefD := ⟨("NothingDone", some "__init__"), "__init__", "NothingDone.__init__", defArgs s_NothingDone_init, defBody s_NothingDone_init, defScope s_NothingDone_init, [], []⟩
abbrev s_NoRow_init : Stmt := inClass (top 17) 0
abbrev N_NoRow_init : List Str := ["self", "text"]
theorem sc_NoRow_init : FnScope N_NoRow_init ["self", "text"] (defScope s_NoRow_init) := ⟨rfl, rfl, rfl, by decide +kernel, rfl, by decide +kernel, by decide +kernel⟩
def d_NoRow_init : He.DefD := ⟨("NoRow", some "__init__"), "__init__", "NoRow.__init__", defArgs s_NoRow_init, defBody s_NoRow_init, defScope s_NoRow_init, [], []⟩
abbrev s_is_whole : Stmt := top 19
abbrev N_is_whole : List Str := ["thing"]
theorem sc_is_whole : FnScope N_is_whole ["thing"] (defScope s_is_whole) := ⟨rfl, rfl, rfl, by decide +kernel, rfl, by decide +kernel, by decide +kernel⟩
def d_is_whole : He.DefD := ⟨("is_whole", none), "is_whole", "is_whole", defArgs s_is_whole, defBody s_is_whole, defScope s_is_whole, [], []⟩
abbrev s_common_part : Stmt := top 21
abbrev N_common_part : List Str := ["one", "other"]
theorem sc_common_part : FnScope N_common_part ["one", "other"] (defScope s_common_part) := ⟨rfl, rfl, rfl, by decide +kernel, rfl, by decide +kernel, by decide +kernel⟩
def d_common_part : He.DefD := ⟨("common_part", none), "common_part", "common_part", defArgs s_common_part, defBody s_common_part, defScope s_common_part, [], []⟩
abbrev s_Share_init : Stmt := inClass (top 22) 0
abbrev N_Share_init : List Str := ["self", "top", "bottom", "thing", "common"]
theorem sc_Share_init : FnScope N_Share_init ["self", "top", "bottom"] (defScope s_Share_init) := ⟨rfl, rfl, rfl, by decide +kernel, rfl, by decide +kernel, by decide +kernel⟩
def d_Share_init : He.DefD := ⟨("Share", some "__init__"), "__init__", "Share.__init__", defArgs s_Share_init, defBody s_Share_init, defScope s_Share_init, [.int 1], []⟩
abbrev s_Share_eq : Stmt := inClass (top 22) 1
abbrev N_Share_eq : List Str := ["self", "other"]
theorem sc_Share_eq : FnScope N_Share_eq ["self", "other"] (defScope s_Share_eq) := ⟨rfl, rfl, rfl, by decide +kernel, rfl, by decide +kernel, by decide +kernel⟩
def d_Share_eq : He.DefD := ⟨("Share", some "__eq__"), "__eq__", "Share.__eq__", defArgs s_Share_eq, defBody s_Share_eq, defScope s_Share_eq, [], []⟩
abbrev s_Share_str : Stmt := inClass (top 22) 2
abbrev N_Share_str : List Str := ["self"]
theorem sc_Share_str : FnScope N_Share_str ["self"] (defScope s_Share_str) := ⟨rfl, rfl, rfl, by decide +kernel, rfl, by decide +kernel, by decide +kernel⟩
def d_Share_str : He.DefD := ⟨("Share", some "__str__"), "__str__", "Share.__str__", defArgs s_Share_str, defBody s_Share_str, defScope s_Share_str, [], []⟩
abbrev s_Share_repr : Stmt := inClass (top 22) 3
abbrev N_Share_repr : List Str := ["self"]
theorem sc_Share_repr : FnScope N_Share_repr ["self"] (defScope s_Share_repr) := ⟨rfl, rfl, rfl, by decide +kernel, rfl, by decide +kernel, by decide +kernel⟩
def d_Share_repr : He.DefD := ⟨("Share", some "__repr__"), "__repr__", "Share.__repr__", defArgs s_Share_repr, defBody s_Share_repr, defScope s_Share_repr, [], []⟩
abbrev s_Share_plus : Stmt := inClass (top 22) 4
abbrev N_Share_plus : List Str := ["self", "other"]
theorem sc_Share_plus : FnScope N_Share_plus ["self", "other"] (defScope s_Share_plus) := ⟨rfl, rfl, rfl, by decide +kernel, rfl, by decide +kernel, by decide +kernel⟩
def d_Share_plus : He.DefD := ⟨("Share", some "plus"), "plus", "Share.plus", defArgs s_Share_plus, defBody s_Share_plus, defScope s_Share_plus, [], []⟩
abbrev s_Share_less : Stmt := inClass (top 22) 5
abbrev N_Share_less : List Str := ["self", "other"]
theorem sc_Share_less : FnScope N_Share_less ["self", "other"] (defScope s_Share_less) := ⟨rfl, rfl, rfl, by decide +kernel, rfl, by decide +kernel, by decide +kernel⟩
def d_Share_less : He.DefD := ⟨("Share", some "less"), "less", "Share.less", defArgs s_Share_less, defBody s_Share_less, defScope s_Share_less, [], []⟩
abbrev s_Share_times : Stmt := inClass (top 22) 6
abbrev N_Share_times : List Str := ["self", "many"]
theorem sc_Share_times : FnScope N_Share_times ["self", "many"] (defScope s_Share_times) := ⟨rfl, rfl, rfl, by decide +kernel, rfl, by decide +kernel, by decide +kernel⟩
def d_Share_times : He.DefD := ⟨("Share", some "times"), "times", "Share.times", defArgs s_Share_times, defBody s_Share_times, defScope s_Share_times, [], []⟩
abbrev s_Share_over : Stmt := inClass (top 22) 7
abbrev N_Share_over : List Str := ["self", "many"]
theorem sc_Share_over : FnScope N_Share_over ["self", "many"] (defScope s_Share_over) := ⟨rfl, rfl, rfl, by decide +kernel, rfl, by decide +kernel, by decide +kernel⟩
def d_Share_over : He.DefD := ⟨("Share", some "over"), "over", "Share.over", defArgs s_Share_over, defBody s_Share_over, defScope s_Share_over, [], []⟩
abbrev s_Share_below : Stmt := inClass (top 22) 8
abbrev N_Share_below : List Str := ["self", "other"]
theorem sc_Share_below : FnScope N_Share_below ["self", "other"] (defScope s_Share_below) := ⟨rfl, rfl, rfl, by decide +kernel, rfl, by decide +kernel, by decide +kernel⟩
def d_Share_below : He.DefD := ⟨("Share", some "below"), "below", "Share.below", defArgs s_Share_below, defBody s_Share_below, defScope s_Share_below, [], []⟩
abbrev s_Share_whole : Stmt := inClass (top 22) 9
abbrev N_Share_whole : List Str := ["self"]
theorem sc_Share_whole : FnScope N_Share_whole ["self"] (defScope s_Share_whole) := ⟨rfl, rfl, rfl, by decide +kernel, rfl, by decide +kernel, by decide +kernel⟩
def d_Share_whole : He.DefD := ⟨("Share", some "whole"), "whole", "Share.whole", defArgs s_Share_whole, defBody s_Share_whole, defScope s_Share_whole, [], []⟩
abbrev s_l_held : Stmt := top 24
abbrev N_l_held : List Str := ["_law_script"]
theorem sc_l_held : FnScope N_l_held ["_law_script"] (defScope s_l_held) := ⟨rfl, rfl, rfl, by decide +kernel, rfl, by decide +kernel, by decide +kernel⟩
def d_l_held : He.DefD := ⟨("_law_held", none), "_law_held", "_law_held", defArgs s_l_held, defBody s_l_held, defScope s_l_held, [], []⟩
abbrev s_l_draw : Stmt := top 25
abbrev N_l_draw : List Str := ["_law_held_here", "_law_many", "_law_found", "_law_at", "_law_cell", "_law_number_here"]
theorem sc_l_draw : FnScope N_l_draw ["_law_held_here", "_law_many"] (defScope s_l_draw) := ⟨rfl, rfl, rfl, by decide +kernel, rfl, by decide +kernel, by decide +kernel⟩
def d_l_draw : He.DefD := ⟨("_law_draw", none), "_law_draw", "_law_draw", defArgs s_l_draw, defBody s_l_draw, defScope s_l_draw, [], []⟩
abbrev s_l_great : Stmt := top 26
abbrev N_l_great : List Str := ["_law_held_here", "_law_many", "_law_number_here", "_law_width"]
theorem sc_l_great : FnScope N_l_great ["_law_held_here", "_law_many"] (defScope s_l_great) := ⟨rfl, rfl, rfl, by decide +kernel, rfl, by decide +kernel, by decide +kernel⟩
def d_l_great : He.DefD := ⟨("_law_great", none), "_law_great", "_law_great", defArgs s_l_great, defBody s_l_great, defScope s_l_great, [], []⟩
abbrev s_l_low : Stmt := top 27
abbrev N_l_low : List Str := ["_law_above", "_law_beneath", "_law_one", "_law_other"]
theorem sc_l_low : FnScope N_l_low ["_law_above", "_law_beneath"] (defScope s_l_low) := ⟨rfl, rfl, rfl, by decide +kernel, rfl, by decide +kernel, by decide +kernel⟩
def d_l_low : He.DefD := ⟨("_law_low", none), "_law_low", "_law_low", defArgs s_l_low, defBody s_l_low, defScope s_l_low, [], []⟩
abbrev s_l_pair : Stmt := top 28
abbrev N_l_pair : List Str := ["_law_share", "_law_part"]
theorem sc_l_pair : FnScope N_l_pair ["_law_share"] (defScope s_l_pair) := ⟨rfl, rfl, rfl, by decide +kernel, rfl, by decide +kernel, by decide +kernel⟩
def d_l_pair : He.DefD := ⟨("_law_pair", none), "_law_pair", "_law_pair", defArgs s_l_pair, defBody s_l_pair, defScope s_l_pair, [], []⟩
abbrev s_l_kinds : Stmt := top 29
abbrev N_l_kinds : List Str := ["_law_error", "_law_own", "_law_words", "_law_found", "_law_bases_here", "_law_word", "_law_so"]
theorem sc_l_kinds : FnScope N_l_kinds ["_law_error"] (defScope s_l_kinds) := ⟨rfl, rfl, rfl, by decide +kernel, rfl, by decide +kernel, by decide +kernel⟩
def d_l_kinds : He.DefD := ⟨("_law_kinds", none), "_law_kinds", "_law_kinds", defArgs s_l_kinds, defBody s_l_kinds, defScope s_l_kinds, [], []⟩
abbrev s_l_bases : Stmt := top 30
abbrev N_l_bases : List Str := ["_law_word", "_law_places", "_law_k"]
theorem sc_l_bases : FnScope N_l_bases ["_law_word"] (defScope s_l_bases) := ⟨rfl, rfl, rfl, by decide +kernel, rfl, by decide +kernel, by decide +kernel⟩
def d_l_bases : He.DefD := ⟨("_law_bases", none), "_law_bases", "_law_bases", defArgs s_l_bases, defBody s_l_bases, defScope s_l_bases, [], []⟩
abbrev s_l_number : Stmt := top 31
abbrev N_l_number : List Str := ["_law_held_here", "_law_number_here"]
theorem sc_l_number : FnScope N_l_number ["_law_held_here"] (defScope s_l_number) := ⟨rfl, rfl, rfl, by decide +kernel, rfl, by decide +kernel, by decide +kernel⟩
def d_l_number : He.DefD := ⟨("_law_number", none), "_law_number", "_law_number", defArgs s_l_number, defBody s_l_number, defScope s_l_number, [], []⟩
abbrev s_l_odd : Stmt := top 32
abbrev N_l_odd : List Str := ["_law_held_here", "_law_some"]
theorem sc_l_odd : FnScope N_l_odd ["_law_held_here"] (defScope s_l_odd) := ⟨rfl, rfl, rfl, by decide +kernel, rfl, by decide +kernel, by decide +kernel⟩
def d_l_odd : He.DefD := ⟨("_law_odd", none), "_law_odd", "_law_odd", defArgs s_l_odd, defBody s_l_odd, defScope s_l_odd, [], []⟩
abbrev s_l_text : Stmt := top 33
abbrev N_l_text : List Str := ["_law_pair_here"]
theorem sc_l_text : FnScope N_l_text ["_law_pair_here"] (defScope s_l_text) := ⟨rfl, rfl, rfl, by decide +kernel, rfl, by decide +kernel, by decide +kernel⟩
def d_l_text : He.DefD := ⟨("_law_text", none), "_law_text", "_law_text", defArgs s_l_text, defBody s_l_text, defScope s_l_text, [], []⟩
abbrev s_l_unlike : Stmt := top 34
abbrev N_l_unlike : List Str := ["_law_held_here", "_law_share", "_law_pair_here", "_law_others", "_law_near", "_law_due", "_law_thing", "_law_one"]
theorem sc_l_unlike : FnScope N_l_unlike ["_law_held_here", "_law_share", "_law_pair_here"] (defScope s_l_unlike) := ⟨rfl, rfl, rfl, by decide +kernel, rfl, by decide +kernel, by decide +kernel⟩
def d_l_unlike : He.DefD := ⟨("_law_unlike", none), "_law_unlike", "_law_unlike", defArgs s_l_unlike, defBody s_l_unlike, defScope s_l_unlike, [], []⟩
abbrev s_l_refused : Stmt := top 35
abbrev N_l_refused : List Str := ["_law_above", "_law_beneath", "_law_caught", "e", "_law_field", "_law_found", "_law_bases_here"]
theorem sc_l_refused : FnScope N_l_refused ["_law_above", "_law_beneath"] (defScope s_l_refused) := ⟨rfl, rfl, rfl, by decide +kernel, rfl, by decide +kernel, by decide +kernel⟩
def d_l_refused : He.DefD := ⟨("_law_refused", none), "_law_refused", "_law_refused", defArgs s_l_refused, defBody s_l_refused, defScope s_l_refused, [], []⟩
abbrev s_l_refusals_right : Stmt := top 36
abbrev N_l_refusals_right : List Str := ["_law_held_here", "_law_number_here", "_law_odd_here", "_law_other", "_law_asked", "_law_above", "_law_beneath", "_law_word", "_law_field"]
theorem sc_l_refusals_right : FnScope N_l_refusals_right ["_law_held_here", "_law_number_here"] (defScope s_l_refusals_right) := ⟨rfl, rfl, rfl, by decide +kernel, rfl, by decide +kernel, by decide +kernel⟩
def d_l_refusals_right : He.DefD := ⟨("_law_refusals_right", none), "_law_refusals_right", "_law_refusals_right", defArgs s_l_refusals_right, defBody s_l_refusals_right, defScope s_l_refusals_right, [], []⟩
abbrev s_law : Stmt := top 37
abbrev N_law : List Str := ["_law_script", "_law_held_here", "_law_turn", "_law_part", "_law_above", "_law_beneath", "_law_pair_here", "_law_some", "_law_share", "_law_again"]
theorem sc_law : FnScope N_law ["_law_script"] (defScope s_law) := ⟨rfl, rfl, rfl, by decide +kernel, rfl, by decide +kernel, by decide +kernel⟩
def d_law : He.DefD := ⟨("law", none), "law", "law", defArgs s_law, defBody s_law, defScope s_law, [], []⟩
def fn : List He.DefD := [d__wall, d_NoKind_init, d_Nought_init, d_NoShare_init, d_Uneven_init, d_BadName_init, d_NoNumber_init, d_NoRide_init, d_NoText_init, d_NoName_init, d_NoDay_init, d_NoSeats_init, d_TooMany_init, d_Taken_init, d_NoRule_init, d_NothingDone_init, d_NoRow_init, d_is_whole, d_common_part, d_Share_init, d_Share_eq, d_Share_str, d_Share_repr, d_Share_plus, d_Share_less, d_Share_times, d_Share_over, d_Share_below, d_Share_whole, d_l_held, d_l_draw, d_l_great, d_l_low, d_l_pair, d_l_kinds, d_l_bases, d_l_number, d_l_odd, d_l_text, d_l_unlike, d_l_refused, d_l_refusals_right, d_law]
end K01
set_option Elab.async false
set_option linter.all false
set_option maxRecDepth 100000
set_option maxHeartbeats 4000000
/-! GX: own exceptions over any built-in base, whose own __init__ calls the base's and stores a field. -/
namespace GX
open PySem PySem.Spec PyProof.Rows L2

/-- what the written part tells of the class -/
structure Gx (K : PySem.W.Frag) (C : Addr) (bmB : List Value) (nid : String) : Prop where
  over : PySem.W.excOver K C bmB = true
  made : PySem.W.excInitIn K C bmB nid = true
  hasd : ∃ cd, PySem.W.clsIn K C = some cd ∧ cd.hasDict = true
  sets : PySem.W.findIn K (.ref C) "__setattr__" = some (some (.builtin "object.__setattr__"))
  base : PySem.W.subIn K (.ref C) (.type "BaseException") = some true
  typ : PySem.W.typeIn K (.ref C) = some (.type "type")
  keep : PySem.W.keepIn K (.ref C) = true

section
open Builtin Builtin.ObjectAttr
variable {prog : Program} {w : World} {A : Around} {R : Result → Shared → Prop} {hp : Heap} {g : Array GenState} {d : Drawn} {t : Nat} {os : OsState} {B : String} {bmB : List Value}
theorem first_store {K : PySem.W.Frag} {name : Str} {tk : Tok} {v : Value} {x C : Addr} {fv : Array Value} {cd : ClassData} (SF : StoreFacts B bmB "object.__setattr__" "object")
    (X : K.In hp) (hx : hp.get? x = some { cls := .ref C, data := .fields fv }) (ho : PySem.W.excOver K C bmB = true) (hc : PySem.W.clsIn K C = some cd) (hd : cd.hasDict = true)
    (hf : PySem.W.findIn K (.ref C) name = some none)
    (post : ∀ h' tk' dx, (∀ b o, b ≠ x → hp.get? b = some o → h'.get? b = some o) → hp.objs.size ≤ dx → dx ≠ x →
      h'.get? x = some { cls := .ref C, dict := some dx, data := .fields fv } → h'.Ns1 dx (fun y => if y = name then some v else none) → R (.ok (.ret .none)) ⟨h', g, d, tk', os⟩) :
    codeAny (model prog w) A (.call (.builtin "object.__setattr__") ⟨[.ref x, .str name tk, v], []⟩) R ⟨hp, g, d, t, os⟩ := by
  have inst : PySem.W.InstAt hp x { cls := .ref C, data := .fields fv } C none := ⟨hx, rfl, rfl, trivial⟩
  have far : x ≠ hp.objs.size := Nat.ne_of_lt (Heap.lt_size hx)
  have lc : PySem.W.Looks (model prog w) hp (classData C) cd := PySem.W.looks_clsIn X hc
  refine PySem.W.osa_openX (r := none) SF X inst ho (by unfold PySem.W.takerIn; rw [hf]; rfl) fun b => ?_
  dsimp only
  obtain ⟨n1, n2, n3, n4, n5, n6, n7, n8, n9, n10, n11⟩ := cd
  dsimp only at hd
  subst hd
  unfold storeInOwnDict ownDictForStores
  repeat (first | with_reducible refine PySem.HandSPX.store_in_new ?_ ?_ | with_reducible refine wpAny_loadPart_at hx ?_ | with_reducible refine lc.at ?_ | wp_step)
  · exact ⟨_, #[], _, (Heap.get?_update_ne _ _ _ _ far.symm).trans (Heap.get?_push_at rfl rfl), rfl, fun e he => absurd he (by simp), fun _ => rfl⟩
  · intro h' tk' hn hs
    have hx1 : (hp.push { cls := .type "dict", data := .dict #[] }).get? x = some { cls := .ref C, data := .fields fv } := Heap.get?_push_of_some _ hx
    refine post h' tk' hp.objs.size (fun b o hb hob => ?_) (Nat.le_refl _) far.symm ?_ hn
    · have e1 := hs.2 b (Nat.ne_of_lt (Heap.lt_size hob))
      rw [e1, Heap.get?_update_ne _ _ _ _ hb]
      exact Heap.get?_push_of_some _ hob
    · rw [hs.2 x far]
      exact Heap.get?_update_self _ hx1 rfl
end

section
variable {X : Cx} {pins : List (Addr × Obj)} {σ : L2.St} {H : Hp} {s : Shared} {a C dx : Addr} {f : Str} {y : V} {u : Value} {Q : Unit → Shared → Prop} {E : Value → Shared → Prop} {A : Around} {B : String} {bmB : List Value} {nid iid : String}
/-- self.f = y, the first store -/
theorem put_first (SF : StoreFacts B bmB "object.__setattr__" "object") (T : Gx X.K C bmB nid) (I : Inv X pins σ H s) (e : H a = some (exo a C none)) (hno : PySem.W.findIn X.K (.ref C) f = some none) (ry : RelV y u)
    (post : ∀ dx s', H dx = none → dx ≠ a → Inv X pins σ (upd (upd H dx (exd dx [(f, y)])) a (exo a C (some dx))) s' → Q () s') : wpAny (model X.prog X.w) A (setAttr (.ref a) f u) Q E s := by
  obtain ⟨cd, hcd, hdd⟩ := T.hasd
  obtain ⟨t1, at1⟩ := exo_at I.hok e
  obtain ⟨hp, g, d, t, os⟩ := s
  refine PySem.W.set_plain I.kIn (ox := { cls := .ref C, dict := none, data := .fields #[.ref t1, .none, .none, .none, .bool false, .none] }) (od := none) ⟨at1, rfl, rfl, trivial⟩ T.sets ?_
  refine first_store SF I.kIn at1 T.over hcd hdd hno (fun h' tk' dx kp dn dne hx hn => ?_)
  have fresh : H dx = none := I.hok.fresh dn
  have old : ∀ {b : Addr} {o : Obj}, hp.get? b = some o → b ≠ dx := fun {b o} q => Nat.ne_of_lt (Nat.lt_of_lt_of_le (Heap.lt_size q) dn)
  have other : ∀ {b : Addr}, H b = none → b ≠ a := fun {b} n z => by
    rw [z, e] at n
    cases n
  have un : Un X.fs [] H (upd (upd H dx (exd dx [(f, y)])) a (exo a C (some dx))) hp h' := {
    keep := fun b o q n _ _ => kp b o (other n) q
    slot := fun b o q n _ _ => ⟨o.slots, kp b o (other n) q⟩
    free := fun b o q n _ => by rw [upd_ne (other n), upd_ne (old q)]; exact n
    there := fun b o q _ => by
      by_cases hb : b = a
      · exact ⟨_, hb ▸ hx⟩
      · exact ⟨o, kp b o hb q⟩
    tups := fun b xs q => by rw [upd_ne (at_ne e q exo_tup), upd_ne (ne_of_none q fresh)]; exact q
    frzs := fun b o v q => by rw [upd_ne (at_ne e q exo_frz), upd_ne (ne_of_none q fresh)]; exact q
    tbls := fun b ps q => ⟨#[], by rw [upd_ne (at_ne e q exo_tbl), upd_ne (ne_of_none q fresh), q]; simp⟩ }
  refine post dx _ fresh dne (I.un (t' := tk') un fun b o q => ?_)
  by_cases hb : b = a
  · subst hb
    rw [upd_same] at q
    cases q
    exact exo_ok hx
  · rw [upd_ne hb] at q
    by_cases hd : b = dx
    · subst hd
      rw [upd_same] at q
      cases q
      exact exd_ok hn (relO_put (fs := []) ry fun g => True.intro)
    · rw [upd_ne hd] at q
      refine (I.hok b o q).stay (fun c v hc z => kp c v ?_ z) (fun c hc => ?_) (fun c xs hc => ?_)
      · rcases hc with hc | hc
        · exact hc ▸ hb
        · exact at_ne e hc exo_own
      · rw [upd_ne (at_ne e hc exo_own), upd_ne (ne_of_none hc fresh)]; exact hc
      · rw [upd_ne (at_ne e hc exo_tup), upd_ne (ne_of_none hc fresh)]; exact hc
/-- Base.__init__(self, ..) -/
theorem base_init {us : List Value} {Q : Value → Shared → Prop} (FB : ExcBaseFacts B nid iid bmB) (T : Gx X.K C bmB nid) (I : Inv X pins σ H s) (e : H a = some (exo a C none)) (hl : us.length ≤ sizeLine) (post : ∀ s', Inv X pins σ H s' → Q .none s') :
    wpAny (model X.prog X.w) A (call (.builtin iid) (.ref a :: us)) Q E s := by
  obtain ⟨nm, N, qn, bs, bm, hdct, sn, sub, ab, col, dd, k0, k1, k2, k3, k5, hC, hT⟩ := PySem.W.excInit_of I.kIn T.made
  obtain ⟨t1, at1⟩ := exo_at I.hok e
  obtain ⟨hp, g, d, t, os⟩ := s
  refine wpAny_call (PySem.HandSPX.init_base FB hT hC at1 hl fun h' t2 kp hx => ?_)
  have J := I.write (t' := t) (x := a) (e := a) (o := exo a C none) (by rw [e]; exact True.intro) (.inl rfl) kp ⟨_, hx⟩ (exo_ok hx)
  have same : upd H a (exo a C none) = H := funext fun b => by
    by_cases hb : b = a
    · rw [hb, upd_same, e]
    · rw [upd_ne hb]
  rw [same] at J
  exact post _ J
end

/-! ### readings and rules -/
/-- Base.__init__(self, ..) -/
def tBi (K : PySem.W.Frag) (bmB : List Value) (nid : String) (ta : TA) : TE := fun σ H Q => ta σ H fun vs H1 => ∃ (a C : Addr) (ws : List V), vs = .ref a :: ws ∧ ws.length ≤ 1000 ∧ Gx K C bmB nid ∧ H1 a = some (exo a C none) ∧ Q .non H1
/-- self.f = e, the first one -/
def tPf (K : PySem.W.Frag) (bmB : List Value) (nid : String) (f : Str) (to te : TE) : TS := fun D σ H => te σ H fun y H1 => to σ H1 fun x H2 => ∃ a C : Addr, x = .ref a ∧ Gx K C bmB nid ∧ PySem.W.findIn K (.ref C) f = some none ∧
  H2 a = some (exo a C none) ∧ ∀ dx, H2 dx = none → dx ≠ a → D.nx σ (upd (upd H2 dx (exd dx [(f, y)])) a (exo a C (some dx)))
section
variable {X : Cx} {o e : Expr} {es : List Expr} {to te : TE} {ta : TA} {f : Str} {p p' p1 p2 pos : Pos} {B nid iid : String} {bmB : List Value} {x : Str}
theorem pe_bi {pl : Sem Bool} (FB : ExcBaseFacts B nid iid bmB) (hg : Gl X x) (hm : X.mg x = none) (hv : bootBuiltins x = some (.type B)) (ty : typeOf (.type B) = pure (.type "type"))
    (vV : PySem.W.findCls X.K (.type B) (.type "type") "__init__" = some (.val (.builtin iid))) (hb : PySem.W.handedIn (.builtin iid) = true) (hst : Manifest.isStub B = false) (ha : PA X (e :: es) ta)
    (hc : eval (.Call (.Attribute (.Name x p1) "__init__" p2) (e :: es) [] pos) X.env = (do
      let ov ← eval (.Name x p1) X.env
      standAt p2.atName
      let (f, first) ← holding [ov] (getMethod ov "__init__" pl)
      callWith pos f first (backTo pos (starEach (e :: es) X.env)) (backToKw pos (keywordEach [] X.env))) := by rfl)
    (hn : x ≠ "__name__" := by decide) (hd : (x == ("__debug__" : Str)) = false := by decide)
    (he : starEach (e :: es) X.env = (false, eval e X.env) :: starEach es X.env := by rfl) (hpl : (backTo pos (starEach es X.env)).any (·.1) = false := by rfl) :
    PE X (.Call (.Attribute (.Name x p1) "__init__" p2) (e :: es) [] pos) (tBi X.K bmB nid ta) := by
  refine ⟨fun pins s σ H Q I h => ?_⟩
  refine PySem.W.methodCall_KW (ld_blt I hg hm hv ?_ hn hd) hc
  obtain ⟨m, fr⟩ := I.fr
  refine PySem.W.method_type fr I.ok.mod.kin ty hst vV hb ?_
  show wpAny _ _ (callWith pos (Value.builtin iid) [] (backTo pos (starEach (e :: es) X.env)) []) _ _ _
  refine PyProof.Rows.callWith_method1 (thn (ha.run pos pins _ σ H _ (I.tok _) h) fun us s1 hh => ?_) he hpl
  obtain ⟨vs, H1, I1, r1, a, C, ws, ev, hl, T, ea, q⟩ := hh
  subst ev
  cases r1 with
  | @cons _ u0 _ ur ra rw' =>
    obtain rfl : u0 = Value.ref a := ra
    have hlen : ur.length ≤ sizeLine := by
      have := Paired.length rw'
      rw [sizeLine_eq]
      omega
    exact base_init FB T I1 ea hlen fun s' J => ⟨.non, H1, J, rfl, q⟩
theorem ps_pf (SF : StoreFacts B bmB "object.__setattr__" "object") (ho : PE X o to) (he : PE X e te) (hs : swapsWith e (some (.Attribute o f p')) pos.line X.env = pure false := by rfl) : PS X (.Assign [.Attribute o f p'] e pos) (tPf X.K bmB nid f to te) := by
  refine ⟨fun pins s σ H D I h => ?_⟩
  refine plainObj_wpAny_Assign_Attribute (thn (he.run pins s σ H _ I h) fun v s1 h1 => ?_) hs
  obtain ⟨y, H1, I1, r1, q1⟩ := h1
  refine thn (ho.run pins s1 σ H1 _ I1 q1) fun u s2 h2 => ?_
  obtain ⟨z, H2, I2, r2, a, C, ex, T, hno, ea, q⟩ := h2
  subst ex
  obtain rfl : u = Value.ref a := r2
  exact put_first SF T I2 ea hno r1 fun dx s' n ne J => ⟨σ, _, J, q dx n ne⟩
/-- C(e, ..) as what is raised, C's own __init__ keeping sp -/
theorem pmk_gx {CX : CXT} {C fI : Addr} {k : Nat} {fd : FuncData} {ps : List Str} {sp : Sp} {ds : List Value} {dvs : List V} (FB : ExcBaseFacts B nid iid bmB) (T : Gx X.K C bmB nid) (iC : PySem.W.findIn X.K (.ref C) "__init__" = some (some (.ref fI)))
    (tI : PySem.W.typeIn X.K (.ref fI) = some (.type "function"))
    (F1 : FnOk X.prog X.w X.K X.mg X.base CX k fI fd ps sp) (hr : Room (k + 1) X.A) (hb : Binds X.K fd ps ds) (hd : Vals dvs ds) (hx : Passes CX X (fun _ _ _ => False)) (hg : Gl X x) (hm : X.mg x = some (.ref C)) (ha : PA X (e :: es) ta)
    (hdb : (x == ("__debug__" : Str)) = false := by decide) (he : starEach (e :: es) X.env = (false, eval e X.env) :: starEach es X.env := by rfl) (hpl : (backTo pos (starEach es X.env)).any (·.1) = false := by rfl) :
    PMk X (.Call (.Name x p) (e :: es) [] pos) (tMkO C sp dvs ta) := by
  intro pins s σ H Q I h
  refine wpAny_Call_Name_kw (ld_glob I hg hm ?_ hdb)
  refine PySem.W.callWith_K (h₀ := X.base) I.ok.mod.kin T.keep (thn (ha.run pos pins s σ H _ I h) fun us s1 hh => ?_) he hpl
  obtain ⟨vs, H1, I1, r1, hz, q1⟩ := hh
  refine ⟨I1.kIn, ?_⟩
  show wpAny _ _ (call (.ref C) us) _ _ _
  obtain ⟨nm, N, qn, bs, bm, hdct, sn, sub, ab, col, dd, k0, k1, k2, k3, k5, hC, hT⟩ := PySem.W.excInit_of I1.kIn T.made
  obtain ⟨hp, g, dr, tk, os⟩ := s1
  have big : hp.objs.size ≤ hp.objs.size + 1 := Nat.le_succ _
  have hq := q1 (hp.objs.size + 1) (I1.hok.fresh big)
  have kk : ∀ b o, hp.get? b = some o → ((hp.push (PySem.W.kdv_tup us)).push (PySem.HandSPX.excO C hp.objs.size)).get? b = some o := fun b o z =>
    Heap.get?_push_of_some _ (Heap.get?_push_of_some _ z)
  have there : ((hp.push (PySem.W.kdv_tup us)).push (PySem.HandSPX.excO C hp.objs.size)).get? (hp.objs.size + 1) = some (PySem.HandSPX.excO C hp.objs.size) := by heap_get
  have I2 := I1.laid (t' := tk) (a := hp.objs.size + 1) (o := exo (hp.objs.size + 1) C none) (h' := (hp.push (PySem.W.kdv_tup us)).push (PySem.HandSPX.excO C hp.objs.size)) kk big (exo_ok there)
  have r2 : Vals (V.ref (hp.objs.size + 1) :: (vs ++ dvs)) (Value.ref (hp.objs.size + 1) :: (us ++ ds)) := .cons rfl (r1.append hd)
  have hl : (Value.ref (hp.objs.size + 1) :: us ++ ds).length = ps.length := by
    have e1 := r2.length
    rw [F1.len _ _ _ _ hq] at e1
    exact e1.symm
  have few : us.length ≤ sizeLine := by
    have := Paired.length r1
    rw [sizeLine_eq]
    omega
  refine wpAny_call (PySem.HandSPX.call_own FB hT hC (PySem.W.looks_findIn I1.kIn iC) (fun self => PySem.W.bind_fn I1.kIn self tI) few (codeAny_mono
    (F1.run _ X.stack _ _ ⟨Value.ref (hp.objs.size + 1) :: us, []⟩ (Value.ref (hp.objs.size + 1) :: (us ++ ds)) _ _ (fun _ _ _ => False) (hr.make C us []) (I2.env0.make C us []) (hb _ (Value.ref (hp.objs.size + 1) :: us) I2.kIn hl) r2 hq) fun r s' hq' => ?_))
  cases r with
  | error er => exact hx pins σ _ _ er s' I2 hq'
  | ok fl =>
    cases fl with
    | ret u =>
      obtain ⟨v, H2, os2, bare2, un2, hok2, rv, ev, d, fs, ea, ed, hd1, q2⟩ := hq'
      subst ev
      obtain ⟨h2, g2, d2, t2, os'⟩ := s'
      exact ⟨rv, mk_end (raises_own T.base T.typ) I1 big kk un2 hok2 os2 bare2 ea ed hd1 q2⟩
    | next => exact False.elim hq'
    | brk => exact False.elim hq'
    | cont => exact False.elim hq'
end
/-! ### the head's look at such a class -/
def hasDB (K : PySem.W.Frag) (C : Addr) : Bool := match PySem.W.clsIn K C with
  | some cd => cd.hasDict
  | none => false
/-- Base.__init__, read off the class Base -/
def vvB (K : PySem.W.Frag) (B iid : String) : Bool := match PySem.W.findCls K (.type B) (.type "type") "__init__" with
  | some (.val (.builtin n)) => n == iid
  | _ => false
theorem vvB_ok {K : PySem.W.Frag} {B iid : String} (h : vvB K B iid = true) : PySem.W.findCls K (.type B) (.type "type") "__init__" = some (.val (.builtin iid)) := by
  unfold vvB at h
  split at h
  · rename_i n e
    rw [e, eq_of_beq h]
  · cases h
/-- what isinstance asks of an own class -/
def isB (K : PySem.W.Frag) (C : Addr) : Bool := He.eqO (PySem.W.findIn K (.ref C) "__class__") (some (some (.builtin "object.__class__"))) && (He.eqO (PySem.W.specialIn K (.builtin "object.__class__") "__get__") (some (some (.builtin "getset_descriptor.__get__"))) &&
  (decide (PySem.W.takesIn K (.builtin "object.__class__") = some true) && decide (PySem.W.mroIn K C (.type "object") = some true)))
def gxB (K : PySem.W.Frag) (C : Addr) (bmB : List Value) (nid : String) : Bool := PySem.W.excOver K C bmB && (PySem.W.excInitIn K C bmB nid && (hasDB K C &&
  (He.eqO (PySem.W.findIn K (.ref C) "__setattr__") (some (some (.builtin "object.__setattr__"))) && (decide (PySem.W.subIn K (.ref C) (.type "BaseException") = some true) &&
  (decide (PySem.W.typeIn K (.ref C) = some (.type "type")) && PySem.W.keepIn K (.ref C))))))
theorem gxB_ok {K : PySem.W.Frag} {C : Addr} {bmB : List Value} {nid : String} (h : gxB K C bmB nid = true) : Gx K C bmB nid := by
  unfold gxB at h
  simp only [Bool.and_eq_true, decide_eq_true_eq] at h
  obtain ⟨h1, h2, h3, h4, h5, h6, h7⟩ := h
  refine ⟨h1, h2, ?_, He.eqO_ok h4, h5, h6, h7⟩
  unfold hasDB at h3
  split at h3
  · rename_i cd e
    exact ⟨cd, e, h3⟩
  · cases h3
end GX
set_option linter.all false
namespace KM
/-- the signed common part -/
def sg (t b : Int) : Int := if b < 0 then -(Int.gcd t b : Int) else (Int.gcd t b : Int)
/-- a fraction in lowest terms -/
def low (t b : Int) : Int × Int := (t.fdiv (sg t b), b.fdiv (sg t b))
theorem gcd_pos {t b : Int} (h : b ≠ 0) : 0 < Int.gcd t b := Int.gcd_pos_of_ne_zero_right t h
theorem sg_ne {t b : Int} (h : b ≠ 0) : sg t b ≠ 0 := by
  have := gcd_pos (t := t) h
  unfold sg
  split <;> omega
theorem sg_dvd_left (t b : Int) : sg t b ∣ t := by
  unfold sg
  split
  · exact Int.neg_dvd.mpr (Int.gcd_dvd_left ..)
  · exact Int.gcd_dvd_left ..
theorem sg_dvd_right (t b : Int) : sg t b ∣ b := by
  unfold sg
  split
  · exact Int.neg_dvd.mpr (Int.gcd_dvd_right ..)
  · exact Int.gcd_dvd_right ..
theorem low_top {t b : Int} : sg t b * (low t b).1 = t := by
  show sg t b * t.fdiv (sg t b) = t
  rw [Int.fdiv_eq_ediv_of_dvd (sg_dvd_left t b)]
  exact Int.mul_ediv_cancel' (sg_dvd_left t b)
theorem low_bot {t b : Int} : sg t b * (low t b).2 = b := by
  show sg t b * b.fdiv (sg t b) = b
  rw [Int.fdiv_eq_ediv_of_dvd (sg_dvd_right t b)]
  exact Int.mul_ediv_cancel' (sg_dvd_right t b)
theorem sg_abs (t b : Int) : (sg t b).natAbs = Int.gcd t b := by
  unfold sg
  split <;> simp
theorem low_pos {t b : Int} (h : b ≠ 0) : 0 < (low t b).2 := by
  have e := low_bot (t := t) (b := b)
  have g := gcd_pos (t := t) h
  by_cases hb : b < 0
  · have hs : sg t b < 0 := by unfold sg; rw [if_pos hb]; omega
    refine Int.lt_of_not_ge fun hc => ?_
    have := Int.mul_nonneg_of_nonpos_of_nonpos (Int.le_of_lt hs) hc
    omega
  · have hs : 0 < sg t b := by unfold sg; rw [if_neg hb]; omega
    refine Int.lt_of_not_ge fun hc => ?_
    have := Int.mul_nonpos_of_nonneg_of_nonpos (Int.le_of_lt hs) hc
    omega
theorem low_cop {t b : Int} (h : b ≠ 0) : Int.gcd (low t b).1 (low t b).2 = 1 := by
  have e : Int.gcd (sg t b * (low t b).1) (sg t b * (low t b).2) = (sg t b).natAbs * Int.gcd (low t b).1 (low t b).2 := Int.gcd_mul_left ..
  rw [low_top, low_bot, sg_abs] at e
  have g := gcd_pos (t := t) h
  have : Int.gcd t b * Int.gcd (low t b).1 (low t b).2 = Int.gcd t b * 1 := by omega
  exact Nat.eq_of_mul_eq_mul_left g this
theorem low_id {t b : Int} (hb : 0 < b) (h : Int.gcd t b = 1) : low t b = (t, b) := by
  have e : sg t b = 1 := by unfold sg; rw [if_neg (by omega), h]; rfl
  unfold low
  rw [e]
  simp
theorem low_low {t b : Int} (h : b ≠ 0) : low (low t b).1 (low t b).2 = low t b := low_id (low_pos h) (low_cop h)
/-- the bottom stays: nothing is taken out -/
theorem low_same {t b : Int} (hb : 0 < b) (h : (low t b).2 = b) : low t b = (t, b) := by
  have e := low_bot (t := t) (b := b)
  rw [h] at e
  have e1 : sg t b * b = 1 * b := by omega
  have e2 := Int.eq_of_mul_eq_mul_right (Int.ne_of_gt hb) e1
  have e3 := low_top (t := t) (b := b)
  rw [e2] at e3
  refine Prod.ext ?_ h
  show (low t b).1 = t
  omega
theorem dvd_le {x y : Int} (h : x * y ≠ 0) : y.natAbs ≤ (x * y).natAbs := by
  rw [Int.natAbs_mul]
  have : x ≠ 0 := fun z => h (by rw [z, Int.zero_mul])
  exact Nat.le_mul_of_pos_left _ (by omega)
theorem low_top_le {t b : Int} (h : b ≠ 0) : (low t b).1.natAbs ≤ t.natAbs := by
  by_cases ht : t = 0
  · subst ht
    have e := low_top (t := 0) (b := b)
    rcases Int.mul_eq_zero.mp e with z | z
    · exact absurd z (sg_ne h)
    · rw [z]; exact Nat.le_refl _
  · have e := low_top (t := t) (b := b)
    have := dvd_le (x := sg t b) (y := (low t b).1) (by omega)
    rw [e] at this
    exact this
theorem low_bot_le {t b : Int} (h : b ≠ 0) : (low t b).2.natAbs ≤ b.natAbs := by
  have e := low_bot (t := t) (b := b)
  have := dvd_le (x := sg t b) (y := (low t b).2) (by omega)
  rw [e] at this
  exact this
theorem sg_le {t b : Int} (h : b ≠ 0) : (sg t b).natAbs ≤ b.natAbs := by
  have e := low_bot (t := t) (b := b)
  have := dvd_le (x := (low t b).2) (y := sg t b) (by rw [Int.mul_comm]; omega)
  rw [Int.mul_comm, e] at this
  exact this
/-- Euclid's turn over whole numbers from 0 on -/
theorem gcd_turn {a b : Int} (ha : 0 ≤ a) (hb : 0 < b) : Int.gcd b (a % b) = Int.gcd a b := by
  obtain ⟨m, rfl⟩ := Int.eq_ofNat_of_zero_le ha
  obtain ⟨n, rfl⟩ := Int.eq_ofNat_of_zero_le (Int.le_of_lt hb)
  show Nat.gcd (Int.natAbs (n : Int)) (Int.natAbs ((m : Int) % (n : Int))) = Nat.gcd (Int.natAbs (m : Int)) (Int.natAbs (n : Int))
  rw [← Int.natCast_emod, Int.natAbs_natCast, Int.natAbs_natCast, Int.natAbs_natCast, Nat.gcd_comm n, Nat.gcd_comm m n]
  exact (Nat.gcd_rec n m).symm
theorem gcd_succ (a : Int) : Int.gcd a (a + 1) = 1 := by
  have : Int.gcd (a + 1) a = Int.gcd 1 a := by
    rw [Int.add_comm, Int.gcd_add_self_left]
  rw [Int.gcd_comm, this, Int.gcd_comm]
  simp
end KM
set_option Elab.async false
set_option linter.all false
set_option maxRecDepth 100000
set_option maxHeartbeats 4000000
namespace K01
open PySem PySem.Spec PyProof.Rows L2
/-- a def of the text -/
abbrev Dn (K : PySem.W.Frag) (d : He.DefD) (f : Addr) (fd : FuncData) : Prop := FunD K d.name d.qual d.params d.body d.scope (d.dvs K) (d.kws K) f fd
/-- what the module's names are -/
structure Bl (mg : Str → Option Value) : Prop where
  isi : mg "isinstance" = none
  int : mg "int" = none
  bool : mg "bool" = none
  abs : mg "abs" = none
  list : mg "list" = none
  range : mg "range" = none
  len : mg "len" = none
theorem op_fdW {X : Cx} : OpR X (binaryOp .FloorDiv) (rI (fun _ j => j ≠ 0 ∧ j.natAbs.log2 < 9000) fun i j => .int (i.fdiv j)) := opI fun _ _ _ _ _ _ _ hc q => floordiv_int hc.1 q (.inl (PyProof.noPylong_of_log2 hc.2))
/-- the fields of a Share -/
def shF (q : Int × Int) : List (Str × V) := putF "bottom" (.int q.2) (putF "top" (.int q.1) [])
theorem tb : ¬ (("top" : Str) = "bottom") := by decide +kernel
theorem shF_top (q : Int × Int) : (shF q).lookup ("top" : Str) = some (.int q.1) := by
  unfold shF
  rw [lookup_putF, if_neg tb, lookup_putF, if_pos rfl]
theorem shF_bot (q : Int × Int) : (shF q).lookup ("bottom" : Str) = some (.int q.2) := by
  unfold shF
  rw [lookup_putF, if_pos rfl]
theorem shF_no (q : Int × Int) {m : Str} (h1 : ¬ m = "bottom") (h2 : ¬ m = "top") : (shF q).lookup m = none := by
  unfold shF
  rw [lookup_putF, if_neg h1, lookup_putF, if_neg h2]
  all_goals rfl
/-- a Share stands at p -/
def Sh (C : Addr) (H : Hp) (p : Addr) (q : Int × Int) : Prop := ∃ dx, H p = some (.ins C dx (shF q))
/-- small enough, the bottom above nought -/
def Bd (n : Nat) (q : Int × Int) : Prop := q.1.natAbs < 2 ^ n ∧ 0 < q.2 ∧ q.2.natAbs < 2 ^ n
theorem Sh.keep {C : Addr} {H H' : Hp} {p : Addr} {q : Int × Int} (s : Same H H') (h : Sh C H p q) : Sh C H' p q := let ⟨dx, e⟩ := h; ⟨dx, s _ _ e⟩
theorem log_lt {j : Int} {n : Nat} (h : j.natAbs < 2 ^ n) (h0 : 0 < n) (h9 : n ≤ 9000) : j.natAbs.log2 < 9000 := Nat.lt_of_lt_of_le (PySem.Flt.log2_lt_of h0 h) h9
/-- what is known of the class -/
structure Cl (K : PySem.W.Frag) (mg : Str → Option Value) (C : Addr) : Prop where
  cl : Cls K C
  nt : NoAttr K C "top"
  nb : NoAttr K C "bottom"
  g : mg "Share" = some (.ref C)
section
variable {P : Program} {w : World} {K : PySem.W.Frag} {mg : Str → Option Value} {base : Heap} {f C : Addr} {fd : FuncData}

def spWhole : Sp := fun vs H Q _ => ∃ n : Int, vs = [.int n] ∧ Q (.bl true) H
theorem ok_whole (F : Dn K d_is_whole f fd) (b : Bl mg) : FnOk P w K mg base CX0 1 f fd ["thing"] spWhole := by
  refine F.ok sc_is_whole (fun vs H Q E h => ?_) (fun cdv A outer s H vs Q E hr h => ?_)
  · obtain ⟨n, rfl, _⟩ := h
    rfl
  · obtain ⟨n, rfl, hQ⟩ := h
    refine ⟨_, PSs.nox (pss_one (ps_ret (pe_and
      (pe_callB call_isi rfl b.isi boot_isinstance (pa_cons (pv 0) (pa_cons (pe_bltn (v := .ty "int") rfl b.int boot_int rfl) pa_nil)))
      (pe_one (pe_not (pe_callB call_isi rfl b.isi boot_isinstance (pa_cons (pv 0) (pa_cons (pe_bltn (v := .ty "bool") rfl b.bool boot_bool rfl) pa_nil)))))))), ?_⟩
    refine ⟨_, rfl, _, _, _, _, true, rfl, ClsV.ty _, TyX.base (TyOf.int n), kit_ty (by decide +kernel), true, rfl, ?_⟩
    refine iteT ?_
    exact ⟨_, rfl, _, _, _, _, false, rfl, ClsV.ty _, TyX.base (TyOf.int n), kit_ty (by decide +kernel), false, rfl, hQ⟩
def spGcd : Sp := fun vs H Q _ => ∃ x y : Int, vs = [.int x, .int y] ∧ Q (.int (Int.gcd x y : Int)) H
theorem abs_eq (x : Int) : (if x < 0 then -x else x) = (x.natAbs : Int) := by split <;> omega
theorem ok_gcd (F : Dn K d_common_part f fd) (b : Bl mg) : FnOk P w K mg base CX0 1 f fd ["one", "other"] spGcd := by
  refine F.ok sc_common_part (fun vs H Q E h => ?_) (fun cdv A outer s H vs Q E hr h => ?_)
  · obtain ⟨x, y, rfl, _⟩ := h
    rfl
  · obtain ⟨x, y, rfl, hQ⟩ := h
    refine ⟨_, PSs.nox (pss_cons (ps_set (i := 0) sc_common_part.nd rfl (.inl rfl) (pe_callB call_abs rfl b.abs boot_abs (pa_cons (pv 0) pa_nil)))
      (pss_cons (ps_set (i := 1) sc_common_part.nd rfl (.inl rfl) (pe_callB call_abs rfl b.abs boot_abs (pa_cons (pv 1) pa_nil)))
      (pss_cons (ps_while PassesOwn.never (pt_cmpR op_ne (pv 1) pe_int (nomark _)) (pss_one (ps_par (i := 0) (j := 1) rfl sc_common_part.nd rfl rfl (by decide) rfl rfl (pa_cons (pv 1) (pa_cons (pe_op op_mod (pv 0) (pv 1)) pa_nil)) rfl)))
      (pss_one (ps_ret (pv 0)))))), ?_⟩
    refine ⟨_, rfl, _, rfl, _, rfl, _, rfl, while_by (fun σ H2 => H2 = H ∧ ∃ a c : Int, σ = [some (.int a), some (.int c)] ∧ 0 ≤ a ∧ 0 ≤ c ∧ Int.gcd a c = Int.gcd x y)
      (fun σ _ => match σ with | [_, some (.int c)] => c.toNat | _ => 0) ⟨rfl, _, _, rfl, ?_, ?_, ?_⟩ ?_ ?_⟩
    · split <;> omega
    · split <;> omega
    · rw [abs_eq, abs_eq]
      rfl
    · rintro σ H2 ⟨rfl, a, c, rfl, ha, hc, hg⟩
      refine ⟨_, rfl, rfl, _, rfl, ?_⟩
      by_cases h0 : c = 0
      · subst h0
        refine iteNS rfl ?_
        refine ⟨_, rfl, ?_⟩
        have e : Int.gcd x y = a.natAbs := by rw [← hg]; simp
        have e2 : (Int.gcd x y : Int) = a := by omega
        rw [e2] at hQ
        exact hQ
      · have hne : (!decide (V.int c = V.int 0)) = true := by simp [h0]
        rw [hne]
        refine iteT ?_
        have hp : 0 < c := by omega
        refine ⟨_, rfl, _, rfl, _, rfl, _, _, rfl, rfl, hp, _, _, rfl, ⟨rfl, _, _, rfl, hc, Int.emod_nonneg _ h0, ?_⟩, ?_⟩
        · rw [KM.gcd_turn ha hp, hg]
        · show (a % c).toNat < c.toNat
          have h1 := Int.emod_nonneg a h0
          have h2 := Int.emod_lt_of_pos a hp
          omega
    · rintro σ H2 Q1 Q2 hm ⟨v, hv, h1, k, hk, q⟩
      exact ⟨v, hv, h1, k, hk, hm _ _ q⟩
end
end K01
set_option Elab.async false
set_option linter.all false
set_option maxRecDepth 100000
set_option maxHeartbeats 4000000
namespace K01
open PySem PySem.Spec PyProof.Rows L2
open C8 (Cal Mak Met pe_c pe_mk pe_mt pe_mt0)
section
variable {P : Program} {w : World} {K : PySem.W.Frag} {mg : Str → Option Value} {base : Heap} {f C : Addr} {fd : FuncData}
abbrev CalW (P : Program) (w : World) (K : PySem.W.Frag) (mg : Str → Option Value) (base : Heap) : Prop := Cal P w K mg base 1 "is_whole" spWhole []
abbrev CalG (P : Program) (w : World) (K : PySem.W.Frag) (mg : Str → Option Value) (base : Heap) : Prop := Cal P w K mg base 1 "common_part" spGcd []
/-- __init__: a Share in lowest terms -/
def spInit (C : Addr) : Sp := fun vs H Q _ => ∃ (p dx : Addr) (t b : Int) (n : Nat), vs = [.ref p, .int t, .int b] ∧ b ≠ 0 ∧ b.natAbs < 2 ^ n ∧ 0 < n ∧ n ≤ 9000 ∧ H p = some (.ins C dx []) ∧
  ∀ H', (∀ a o, a ≠ p → H a = some o → H' a = some o) → H' p = some (.ins C dx (shF (KM.low t b))) → Q .non H'
theorem ok_init (F : Dn K d_Share_init f fd) (cW : CalW P w K mg base) (cG : CalG P w K mg base) (T : Cl K mg C) : FnOk P w K mg base CX0 2 f fd ["self", "top", "bottom"] (spInit C) := by
  refine F.ok sc_Share_init (fun vs H Q E h => ?_) (fun cdv A outer s H vs Q E hr h => ?_)
  · obtain ⟨p, dx, t, b, n, rfl, _⟩ := h
    rfl
  · obtain ⟨p, dx, t, b, n, rfl, hb, hn, hn0, hn9, hp, hQ⟩ := h
    refine ⟨_, PSs.nox (pss_cons (ps_for PassesOwn.never rfl (pi_tup (pe_tup (pa_cons (pv 1) (pa_cons (pv 2) pa_nil)))) (pg_name (i := 3) sc_Share_init.nd rfl (.inl rfl))
        (pss_one (ps_if (pt_not (pt_val (pe_c cW hr (by decide) rfl (pa_cons (pv 3) pa_nil)))) pss_never pss_nil)))
      (pss_cons (ps_if (pt_cmpR op_eq (pv 2) pe_int (nomark _)) pss_never pss_nil)
      (pss_cons (ps_set (i := 4) sc_Share_init.nd rfl (.inl rfl) (pe_c cG hr (by decide) rfl (pa_cons (pv 1) (pa_cons (pv 2) pa_nil))))
      (pss_cons (ps_if (pt_cmpR op_lt (pv 2) pe_int (nomark _)) (pss_one (ps_set (i := 4) sc_Share_init.nd rfl (.inl rfl) (pe_un un_neg (pv 4)))) pss_nil)
      (pss_cons (ps_fld (pv 0) (pe_op op_fdW (pv 1) (pv 4)) rfl)
      (pss_one (ps_fld (pv 0) (pe_op op_fdW (pv 2) (pv 4)) rfl))))))), ?_⟩
    refine ⟨_, rfl, _, rfl, by show 2 ≤ sizeLine; decide, fun u hu => ?_⟩
    have npu : p ≠ u := ne_of_none hp hu
    refine ⟨u, rfl, ⟨_, SqT.of upd_same⟩, for_tup (K := K) (xs := [.int t, .int b]) (fun i σ H2 => H2 = upd H u (.tup [.int t, .int b]) ∧ ∃ v, σ = [some (.ref p), some (.int t), some (.int b), v, none])
      ⟨rfl, none, rfl⟩ (fun i σ H2 _ h => by rw [h.1]; exact SqT.of upd_same) ?_ ?_⟩
    · rintro i y σ H2 hi ⟨rfl, v, rfl⟩
      have hy : ∃ n : Int, y = .int n := by
        match i, hi with
        | 0, e => exact ⟨t, (Option.some.inj e).symm⟩
        | 1, e => exact ⟨b, (Option.some.inj e).symm⟩
      obtain ⟨n, rfl⟩ := hy
      refine ⟨_, rfl, n, rfl, true, rfl, ?_⟩
      refine iteF ?_
      exact ⟨rfl, _, rfl⟩
    · rintro σ H2 ⟨rfl, v, rfl⟩
      refine ⟨_, rfl, rfl, _, rfl, ?_⟩
      have hb0 : decide (V.int b = V.int 0) = false := by simp [hb]
      rw [hb0]
      refine iteF ?_
      refine ⟨_, rfl, _, rfl, t, b, rfl, ?_⟩
      refine ⟨_, rfl, _, _, rfl, rfl, _, rfl, ?_⟩
      have hs9 : (KM.sg t b).natAbs.log2 < 9000 := log_lt (Nat.lt_of_le_of_lt (KM.sg_le hb) hn) hn0 hn9
      have fin : ∀ c : Int, c = KM.sg t b → ∀ v, tSeq (sFld K (tVar 0) (tOp (rI (fun _ j => j ≠ 0 ∧ j.natAbs.log2 < 9000) fun i j => .int (i.fdiv j)) (tVar 1) (tVar 4)) "top") (sFld K (tVar 0) (tOp (rI (fun _ j => j ≠ 0 ∧ j.natAbs.log2 < 9000) fun i j => .int (i.fdiv j)) (tVar 2) (tVar 4)) "bottom")
          { nx := fun _ H' => Q .non H', rt := Q } [some (.ref p), some (.int t), some (.int b), v, some (.int c)] (upd H u (.tup [.int t, .int b])) := by
        rintro c rfl v
        refine ⟨_, rfl, _, rfl, _, _, rfl, rfl, ⟨KM.sg_ne hb, hs9⟩, _, rfl, p, C, dx, _, rfl, (by rw [upd_ne npu]; exact hp), T.cl, T.nt, (by show 0 < 1000; decide), ?_⟩
        refine ⟨_, rfl, _, rfl, _, _, rfl, rfl, ⟨KM.sg_ne hb, hs9⟩, _, rfl, p, C, dx, _, rfl, upd_same, T.cl, T.nb, (by show 1 < 1000; decide), ?_⟩
        refine hQ _ (fun a o ha e => ?_) upd_same
        rw [upd_ne ha, upd_ne ha, upd_ne (ne_of_none e hu)]
        exact e
      refine ite2 (fun h => ?_) (fun h => ?_)
      · have h' : b < 0 := of_decide_eq_true h
        refine ⟨_, rfl, _, rfl, ?_⟩
        exact fin _ (by unfold KM.sg; rw [if_pos h']) _
      · have h' : ¬ b < 0 := fun z => h (decide_eq_true z)
        exact fin _ (by unfold KM.sg; rw [if_neg h']) _
end
end K01
set_option Elab.async false
set_option linter.all false
set_option maxRecDepth 100000
set_option maxHeartbeats 4000000
namespace K01
open PySem PySem.Spec PyProof.Rows L2
open C8 (Cal Mak Met pe_c pe_mk pe_mt pe_mt0)
section
variable {P : Program} {w : World} {K : PySem.W.Frag} {mg : Str → Option Value} {base : Heap} {f C : Addr} {fd : FuncData}
abbrev MakS (P : Program) (w : World) (K : PySem.W.Frag) (mg : Str → Option Value) (base : Heap) (C : Addr) : Prop := Mak P w K mg base 2 "Share" C (spInit C) []
/-- Share(t, b): what is left to show -/
theorem mk_at {H1 : Hp} {t b : Int} {n : Nat} {Q : VK} (hb : b ≠ 0) (hn : b.natAbs < 2 ^ n) (hn0 : 0 < n) (hn9 : n ≤ 9000)
    (hQ : ∀ r H', Same H1 H' → H1 r = none → Sh C H' r (KM.low t b) → Q (.ref r) H') :
    ∀ x dx, H1 x = none → H1 dx = none → dx ≠ x → spInit C (.ref x :: ([V.int t, V.int b] ++ [])) (upd (upd H1 dx (.own x)) x (.ins C dx [])) (fun v H2 => v = .non ∧ Q (.ref x) H2) E0 := by
  intro x dx nx nd ne
  refine ⟨x, dx, t, b, n, rfl, hb, hn, hn0, hn9, upd_same, fun H' kp hp => ⟨rfl, hQ x H' (fun a o e => ?_) nx ⟨dx, hp⟩⟩⟩
  refine kp a o (ne_of_none e nx) ?_
  rw [upd_ne (ne_of_none e nx), upd_ne (ne_of_none e nd)]
  exact e
theorem mul_pos_ne {a b : Int} (ha : 0 < a) (hb : 0 < b) : a * b ≠ 0 := fun z => by
  have := Int.mul_pos ha hb
  omega
def two (n : Nat) (a b : Int × Int) : Prop := Bd n a ∧ Bd n b ∧ 0 < n ∧ n ≤ 4000

end
end K01
set_option Elab.async false
set_option linter.all false
set_option maxRecDepth 100000
set_option maxHeartbeats 4000000
namespace K01
open PySem PySem.Spec PyProof.Rows L2
open C8 (Cal Mak Met pe_c pe_mk pe_mt pe_mt0)
/-- the held dict's pairs -/
def hd0 (l : Addr) (n m : Int) : List (Key × V) := [(Sum.inr "cells", .ref l), (Sum.inr "at", .int n), (Sum.inr "left", .int m)]
theorem hd_cells (l : Addr) (n m : Int) : valV (hd0 l n m) (Sum.inr "cells") = some (.ref l) := valV_pos rfl
theorem k1 : ¬ (("cells" : Str) = "at") := by decide +kernel
theorem k2 : ¬ (("cells" : Str) = "left") := by decide +kernel
theorem k3 : ¬ (("at" : Str) = "left") := by decide +kernel
theorem k1' : ¬ (("at" : Str) = "cells") := by decide +kernel
theorem k3' : ¬ (("left" : Str) = "at") := by decide +kernel
theorem inr_ne {x y : Str} (h : ¬ x = y) : ¬ ((Sum.inr x : Key) = Sum.inr y) := fun z => h (Sum.inr.inj z)
theorem hd_at (l : Addr) (n m : Int) : valV (hd0 l n m) (Sum.inr "at") = some (.int n) := (valV_neg (inr_ne k1)).trans (valV_pos rfl)
theorem hd_left (l : Addr) (n m : Int) : valV (hd0 l n m) (Sum.inr "left") = some (.int m) := (valV_neg (inr_ne k2)).trans ((valV_neg (inr_ne k3)).trans (valV_pos rfl))
theorem put_at (l : Addr) (n m k : Int) : putK (hd0 l n m) (Sum.inr "at") (.int k) = hd0 l k m := by
  unfold putK hd0
  simp [k1, k3']
theorem put_left (l : Addr) (n m k : Int) : putK (hd0 l n m) (Sum.inr "left") (.int k) = hd0 l n k := by
  unfold putK hd0
  simp [k2, k3]
theorem hd_merge (l : Addr) (n m : Int) : mergeK [] (hd0 l n m) = hd0 l n m := by
  simp [mergeK, hd0, putK, k1, k2, k3]
/-- the held dict at h, good for c draws more -/
def Held (H : Hp) (h : Addr) (c : Nat) : Prop := ∃ (l : Addr) (ns : List Int) (n m : Int), H h = some (.dK (hd0 l n m)) ∧ H l = some (.lst (ns.map V.int)) ∧ 0 ≤ n ∧ n + c ≤ 1000000000
theorem Held.weak {H : Hp} {h : Addr} {c c' : Nat} (hc : c' ≤ c) (x : Held H h c) : Held H h c' := by
  obtain ⟨l, ns, n, m, h1, h2, h3, h4⟩ := x
  exact ⟨l, ns, n, m, h1, h2, h3, by omega⟩
/-- all but h is kept -/
def Kp (h : Addr) (H H' : Hp) : Prop := ∀ b o, H b = some o → b ≠ h → H' b = some o
theorem Kp.refl (h : Addr) (H : Hp) : Kp h H H := fun _ _ e _ => e
theorem Kp.trans {h : Addr} {H H1 H2 : Hp} (a : Kp h H H1) (b : Kp h H1 H2) : Kp h H H2 := fun c o e n => b c o (a c o e n) n
theorem Kp.same {h : Addr} {H H1 : Hp} (a : Same H H1) : Kp h H H1 := fun c o e _ => a c o e
theorem Held.same {H H' : Hp} {h : Addr} {c : Nat} (s : Same H H') (x : Held H h c) : Held H' h c := by
  obtain ⟨l, ns, n, m, h1, h2, h3, h4⟩ := x
  exact ⟨l, ns, n, m, s _ _ h1, s _ _ h2, h3, h4⟩
theorem same_new {H : Hp} {p : Addr} {o : HO} (h : H p = none) : Same H (upd H p o) := fun a u e => by
  rw [upd_ne (ne_of_none e h)]
  exact e
theorem dpInts {K : PySem.W.Frag} {H : Hp} : ∀ ns : List Int, DpAll K H (ns.map V.int) (ns.map PyData.int)
  | [] => .nil
  | n :: ns => .cons (.int n) (dpInts ns)
section
variable {P : Program} {w : World} {K : PySem.W.Frag} {mg : Str → Option Value} {base : Heap} {f C : Addr} {fd : FuncData}
def spHeld (K : PySem.W.Frag) : Sp := fun vs H Q _ => ∃ (a : Addr) (ns : List Int), vs = [.ref a] ∧ SqL K H a (ns.map V.int) ∧ ns.length ≤ 63 ∧ ∀ h H', Same H H' → H h = none → Held H' h 900000000 → Q (.ref h) H'
theorem ok_held (F : Dn K d_l_held f fd) (b : Bl mg) : FnOk P w K mg base CX0 1 f fd ["_law_script"] (spHeld K) := by
  refine F.ok sc_l_held (fun vs H Q E h => ?_) (fun cdv A outer s H vs Q E hr h => ?_)
  · obtain ⟨a, ns, rfl, _⟩ := h
    rfl
  · obtain ⟨a, ns, rfl, hS, hlen, hQ⟩ := h
    refine ⟨_, PSs.nox (pss_one (ps_ret (pe_disp (pps_cons pe_str (pe_callTy call_list_of rfl b.list boot_list (pa_cons (pe_slice sl_list (pv 0) po_none (po_some pe_int)) pa_nil)) (pps_cons pe_str pe_int (pps_cons pe_str pe_int pps_nil))) rfl rfl (by simp) (by decide)))), ?_⟩
    intro h hh
    have sS : SqL K (upd H h (.dK [])) a (ns.map V.int) := (same_new hh).seq hS
    refine ⟨_, rfl, 63, rfl, a, _, rfl, sS, fun p hp => ⟨p, _, rfl, Or.inl (SqL.of upd_same), fun l hl => ?_⟩⟩
    have nhp : h ≠ p := ne_of_none upd_same hp
    have nhl : h ≠ l := ne_of_none (by rw [upd_ne nhp]; exact upd_same) hl
    refine ⟨by rw [upd_ne nhl, upd_ne nhp, upd_same], hd0 l 0 0, rfl, by show 3 ≤ 15; decide, ?_⟩
    have e : cutV (ns.map V.int) none (some 63) = (ns.take 63).map V.int := by
      unfold cutV
      simp [HT.sIx, List.map_take]
    refine hQ h _ (fun c o z => ?_) hh ⟨l, ns.take 63, 0, 0, ?_, ?_, by decide, by decide⟩
    · have z1 : c ≠ h := ne_of_none z hh
      have z2 : (upd H h (.dK [])) c = some o := by rw [upd_ne z1]; exact z
      have z3 : c ≠ p := ne_of_none z2 hp
      have z4 : c ≠ l := ne_of_none (by rw [upd_ne z3]; exact z2) hl
      rw [upd_ne z1, upd_ne z4, upd_ne z3]
      exact z2
    · rw [upd_same, hd_merge]
    · rw [upd_ne nhl.symm, upd_same, ← e]

def spDraw : Sp := fun vs H Q _ => ∃ (h : Addr) (c : Nat) (k : Int), vs = [.ref h, .int k] ∧ Held H h (c + 1) ∧ 0 < k ∧ k < 1073741824 ∧
  ∀ r H', 0 ≤ r → r < k → Held H' h c → Kp h H H' → Q (.int r) H'
theorem cb_l {i j : Int} (h1 : -(2 ^ 64) < i) (h2 : i < 2 ^ 64) : CMul i j := .inl ⟨h1, h2⟩
theorem cb_r {i j : Int} (h1 : -(2 ^ 64) < j) (h2 : j < 2 ^ 64) : CMul i j := .inr ⟨h1, h2⟩
theorem ok_draw (F : Dn K d_l_draw f fd) (b : Bl mg) : FnOk P w K mg base CX0 1 f fd ["_law_held_here", "_law_many"] spDraw := by
  refine F.ok sc_l_draw (fun vs H Q E h => ?_) (fun cdv A outer s H vs Q E hr h => ?_)
  · obtain ⟨h, c, k, rfl, _⟩ := h
    rfl
  · obtain ⟨h, c, k, rfl, ⟨l, ns, n, m, hh, hl, hn, hc⟩, hk0, hk1, hQ⟩ := h
    have hu := hu_of hr
    have hu64 : (A.deeper (envOfC d_l_draw.qual d_l_draw.scope s.heap.objs.size f cdv)).units + 64 < cLine := by have := hr.un; omega
    have nlh : l ≠ h := ne_of hl hh (by intro z; cases z)
    refine ⟨_, PSs.nox (pss_cons (ps_if (pt_cmpR op_gt (pe_dget hu (pv 0) pe_str (fun _ _ => rfl)) pe_int (nomark _))
         (pss_cons (ps_set (i := 2) sc_l_draw.nd rfl (.inl rfl) (pe_op op_mod (pe_dget hu (pv 0) pe_str (fun _ _ => rfl)) (pv 1)))
         (pss_cons (ps_dput hu (pv 0) pe_str (pe_op op_fdiv (pe_dget hu (pv 0) pe_str (fun _ _ => rfl)) (pv 1)) rfl)
         (pss_one (ps_ret (pv 2))))) pss_nil)
      (pss_cons (ps_set (i := 3) sc_l_draw.nd rfl (.inl rfl) (pe_dget hu (pv 0) pe_str (fun _ _ => rfl)))
      (pss_cons (ps_dput hu (pv 0) pe_str (pe_op op_add (pv 3) pe_int) rfl)
      (C8.pss_cut (ps_set (i := 4) sc_l_draw.nd rfl (.inl rfl) (pe_ifExp (pt_cmpR (op_neD hu64) (pe_dget hu (pv 0) pe_str (fun _ _ => rfl)) (pe_lst pa_nil) (nomark _))
        (pe_ix ix_list (pe_dget hu (pv 0) pe_str (fun _ _ => rfl)) (pe_op op_mod (pv 3) (pe_callB call_len_seq rfl b.len boot_len (pa_cons (pe_dget hu (pv 0) pe_str (fun _ _ => rfl)) pa_nil))) (fun _ _ => rfl)) pe_int))
      (pss_cons (ps_if (PW.pt (pw_and (pt_cmpR op_ge (pv 4) (pe_op op_pow pe_int pe_int) (nomark _)) (pw_and1 (pt_cmpR op_lt (pv 3) (pe_callB call_len_seq rfl b.len boot_len (pa_cons (pe_dget hu (pv 0) pe_str (fun _ _ => rfl)) pa_nil)) (nomark _)))))
         (pss_cons (ps_dput hu (pv 0) pe_str (pe_op op_fdiv (pe_op op_sub (pv 4) (pe_op op_pow pe_int pe_int)) (pv 1)) rfl)
         (pss_one (ps_ret (pe_op op_mod (pe_op op_sub (pv 4) (pe_op op_pow pe_int pe_int)) (pv 1))))) pss_nil)
      (pss_cons (ps_set (i := 5) sc_l_draw.nd rfl (.inl rfl) (pe_op op_mod (pe_op op_add (pe_op op_add (pe_op op_add (pe_op op_mul (pe_op op_mod (pv 4) pe_int) pe_int) (pe_op op_mul (pe_op op_mul pe_int (pv 3)) (pv 3))) (pe_op op_mul pe_int (pv 3))) pe_int) pe_int))
      (pss_cons (ps_set (i := 5) sc_l_draw.nd rfl (.inl rfl) (pe_op op_mod (pe_op op_add (pe_op op_add (pe_op op_mul (pv 5) pe_int) (pe_op op_fdiv (pv 5) pe_int)) pe_int) pe_int))
      (pss_one (ps_ret (pe_op op_mod (pe_op op_fdiv (pv 5) pe_int) (pv 1))))))))))), ?_⟩
    have cM : ∀ x y : Int, 0 < y → (0 ≤ x % y ∧ x % y < y) := fun x y hy => ⟨Int.emod_nonneg _ (by omega), Int.emod_lt_of_pos _ hy⟩
    refine ⟨_, rfl, h, _, rfl, hd_left l n m ▸ DGet.k (k := Sum.inr "left") hh, _, _, rfl, rfl, _, rfl, ?_⟩
    refine ite2 (fun h1 => ?_) (fun h1 => ?_)
    · refine ⟨_, rfl, h, _, rfl, hd_left l n m ▸ DGet.k (k := Sum.inr "left") hh, _, rfl, _, _, rfl, rfl, hk0, ?_⟩
      refine ⟨_, rfl, h, _, rfl, hd_left l n m ▸ DGet.k (k := Sum.inr "left") hh, _, rfl, _, _, rfl, rfl, ⟨hk0, hk1⟩, _, rfl, h, _, rfl, DPut.k (k := Sum.inr "left") hh (by show 3 < sizeLine; decide), ?_⟩
      refine ⟨_, rfl, hQ _ _ (cM _ _ hk0).1 (cM _ _ hk0).2 ⟨l, ns, n, m / k, ?_, ?_, hn, by omega⟩ (fun c o e ne => ?_)⟩
      · rw [upd_same, put_left]
      · rw [upd_ne nlh]; exact hl
      · rw [upd_ne ne]; exact e
    · refine ⟨_, rfl, h, _, rfl, hd_at l n m ▸ DGet.k (k := Sum.inr "at") hh, ?_⟩
      refine ⟨_, rfl, _, _, rfl, rfl, _, rfl, h, _, rfl, DPut.k (k := Sum.inr "at") hh (by show 3 < sizeLine; decide), ?_⟩
      rw [put_at]
      have hh1 : (upd H h (.dK (hd0 l (n + 1) m))) h = some (.dK (hd0 l (n + 1) m)) := upd_same
      have hl1 : (upd H h (.dK (hd0 l (n + 1) m))) l = some (.lst (ns.map V.int)) := by rw [upd_ne nlh]; exact hl
      have kp1 : Kp h H (upd H h (.dK (hd0 l (n + 1) m))) := fun c o e ne => by rw [upd_ne ne]; exact e
      refine ⟨fun σ' H' => ∃ (cell : Int), σ' = [some (.ref h), some (.int k), none, some (.int n), some (.int cell), none] ∧ H' h = some (.dK (hd0 l (n + 1) m)) ∧ H' l = some (.lst (ns.map V.int)) ∧ Kp h H H', ?_, ?_⟩
      · refine ⟨_, rfl, h, _, rfl, hd_cells l (n + 1) m ▸ DGet.k (k := Sum.inr "cells") hh1, (by show 0 ≤ sizeLine; decide), fun e he => ?_⟩
        have nhe : h ≠ e := ne_of_none hh1 he
        have nle : l ≠ e := ne_of_none hl1 he
        have hh2 : (upd (upd H h (.dK (hd0 l (n + 1) m))) e (.lst [])) h = some (.dK (hd0 l (n + 1) m)) := by rw [upd_ne nhe]; exact hh1
        have hl2 : (upd (upd H h (.dK (hd0 l (n + 1) m))) e (.lst [])) l = some (.lst (ns.map V.int)) := by rw [upd_ne nle]; exact hl1
        have kp2 : Kp h H (upd (upd H h (.dK (hd0 l (n + 1) m))) e (.lst [])) := kp1.trans (Kp.same (same_new he))
        refine ⟨.list (ns.map .int), .list [], Dp.lst (SqL.of hl2) (dpInts ns), Dp.lst (SqL.of upd_same) .nil, PySem.W.ke_shaped_ints ns, by decide, _, rfl, ?_⟩
        cases ns with
        | nil => exact iteF ⟨0, rfl, hh2, hl2, kp2⟩
        | cons z zs =>
          refine iteT ?_
          have hlen : (0 : Int) < (((z :: zs).map V.int).length : Int) := by simp
          refine ⟨_, rfl, h, _, rfl, hd_cells l (n + 1) m ▸ DGet.k (k := Sum.inr "cells") hh2, _, rfl, _, rfl, h, _, rfl, hd_cells l (n + 1) m ▸ DGet.k (k := Sum.inr "cells") hh2, l, _, rfl, Or.inl (SqL.of hl2), _, _, rfl, rfl, hlen, ?_⟩
          obtain ⟨q, hq⟩ := Int.eq_ofNat_of_zero_le (cM n _ hlen).1
          have hq2 := (cM n _ hlen).2
          rw [hq] at hq2
          have hq3 : q < (z :: zs).length := by rw [List.length_map] at hq2; omega
          refine ⟨l, _, _, .int ((z :: zs)[q]), rfl, rfl, SqL.of hl2, (by rw [hq]; exact atI_nat (by rw [List.getElem?_map, List.getElem?_eq_getElem hq3]; rfl)), ?_⟩
          exact ⟨_, rfl, hh2, hl2, kp2⟩
      · rintro σ' H' ⟨cell, rfl, hh2, hl2, kp2⟩
        have stay : ∀ m', Held (upd H' h (.dK (hd0 l (n + 1) m'))) h c := fun m' => ⟨l, ns, n + 1, m', upd_same, by rw [upd_ne nlh]; exact hl2, by omega, by omega⟩
        have stay0 : Held H' h c := ⟨l, ns, n + 1, m, hh2, hl2, by omega, by omega⟩
        have last : ∀ D : Ends, D.rt = Q → tSeq (tAsg (tOp (rI (fun _ j => 0 < j) fun i j => .int (i % j)) (tOp (rI0 fun i j => .int (i + j)) (tOp (rI0 fun i j => .int (i + j)) (tOp (rI0 fun i j => .int (i + j))
            (tOp (rI CMul fun i j => .int (i * j)) (tOp (rI (fun _ j => 0 < j) fun i j => .int (i % j)) (tVar 4) (tC (.int 2147483587))) (tC (.int 40692))) (tOp (rI CMul fun i j => .int (i * j)) (tOp (rI CMul fun i j => .int (i * j)) (tC (.int 7907)) (tVar 3)) (tVar 3)))
            (tOp (rI CMul fun i j => .int (i * j)) (tC (.int 104729)) (tVar 3))) (tC (.int 17))) (tC (.int 2147483629))) (gName 5))
          (tSeq (tAsg (tOp (rI (fun _ j => 0 < j) fun i j => .int (i % j)) (tOp (rI0 fun i j => .int (i + j)) (tOp (rI0 fun i j => .int (i + j)) (tOp (rI CMul fun i j => .int (i * j)) (tVar 5) (tC (.int 48271))) (tOp (rI CDiv fun i j => .int (i / j)) (tVar 5) (tC (.int 127)))) (tC (.int 31))) (tC (.int 2147483647))) (gName 5))
          (tRet (tOp (rI (fun _ j => 0 < j) fun i j => .int (i % j)) (tOp (rI CDiv fun i j => .int (i / j)) (tVar 5) (tC (.int 89))) (tVar 1)))) D [some (.ref h), some (.int k), none, some (.int n), some (.int cell), none] H' := by
          intro D hD
          refine ⟨_, rfl, _, _, rfl, rfl, (by decide : (0 : Int) < 2147483587), _, _, rfl, rfl, cb_r (by decide) (by decide), _, rfl, _, _, rfl, rfl, cb_l (by decide) (by decide), _, rfl, _, _, rfl, rfl, cb_r (by omega) (by omega), _, _, rfl, rfl, ?_⟩
          refine ⟨_, rfl, _, _, rfl, rfl, cb_l (by decide) (by decide), _, _, rfl, rfl, _, _, rfl, rfl, _, _, rfl, rfl, (by decide : (0 : Int) < 2147483629), ?_⟩
          refine ⟨_, rfl, _, _, rfl, rfl, cb_r (by decide) (by decide), _, rfl, _, _, rfl, rfl, ⟨by decide, by decide⟩, _, _, rfl, rfl, _, _, rfl, rfl, _, _, rfl, rfl, (by decide : (0 : Int) < 2147483647), ?_⟩
          refine ⟨_, rfl, _, _, rfl, rfl, ⟨by decide, by decide⟩, _, rfl, _, _, rfl, rfl, hk0, ?_⟩
          rw [hD]
          exact hQ _ _ (cM _ _ hk0).1 (cM _ _ hk0).2 stay0 kp2
        refine ⟨_, rfl, _, _, rfl, rfl, ⟨by decide, by decide, by decide⟩, _, _, rfl, rfl, _, rfl, ?_⟩
        refine ite2 (fun g1 => ?_) (fun g1 => iteF (last _ rfl))
        refine ⟨_, rfl, _, rfl, h, _, rfl, hd_cells l (n + 1) m ▸ DGet.k (k := Sum.inr "cells") hh2, l, _, rfl, Or.inl (SqL.of hl2), _, _, rfl, rfl, _, rfl, ?_⟩
        refine ite2 (fun g2 => ?_) (fun g2 => last _ rfl)
        refine ⟨_, rfl, _, _, rfl, rfl, ⟨by decide, by decide, by decide⟩, _, _, rfl, rfl, _, rfl, _, _, rfl, rfl, ⟨hk0, hk1⟩, _, rfl, h, _, rfl, DPut.k (k := Sum.inr "left") hh2 (by show 3 < sizeLine; decide), ?_⟩
        refine ⟨_, rfl, _, _, rfl, rfl, ⟨by decide, by decide, by decide⟩, _, _, rfl, rfl, _, rfl, _, _, rfl, rfl, hk0, ?_⟩
        rw [put_left]
        refine hQ _ _ (cM _ _ hk0).1 (cM _ _ hk0).2 (stay _) (kp2.trans fun c o e ne => ?_)
        rw [upd_ne ne]
        exact e
end
end K01
set_option Elab.async false
set_option linter.all false
set_option maxRecDepth 100000
set_option maxHeartbeats 4000000
namespace K01
open PySem PySem.Spec PyProof.Rows L2
open C8 (Cal Mak Met pe_c pe_mk pe_mt pe_mt0)
section
variable {P : Program} {w : World} {K : PySem.W.Frag} {mg : Str → Option Value} {base : Heap} {f C : Addr} {fd : FuncData}
abbrev CalD (P : Program) (w : World) (K : PySem.W.Frag) (mg : Str → Option Value) (base : Heap) : Prop := Cal P w K mg base 1 "_law_draw" spDraw []
theorem six_le : ∀ k, k ≤ 6 → ((1000000 : Int) ^ k < 10 ^ 30) → k ≤ 4 := by decide
theorem six_pos : ∀ k, k ≤ 6 → (0 : Int) < 1000000 ^ k := by decide
theorem six_lt : ∀ k, k ≤ 6 → ((1000000 : Int) ^ k) < 2 ^ 128 := by decide
def spGreat : Sp := fun vs H Q _ => ∃ (h : Addr) (c : Nat) (k : Int), vs = [.ref h, .int k] ∧ Held H h (c + 10) ∧ 0 < k ∧ k ≤ 10 ^ 30 ∧
  ∀ r H', 0 ≤ r → r < k → Held H' h c → Kp h H H' → Q (.int r) H'
theorem ok_great (F : Dn K d_l_great f fd) (cD : CalD P w K mg base) : FnOk P w K mg base CX0 2 f fd ["_law_held_here", "_law_many"] spGreat := by
  refine F.ok sc_l_great (fun vs H Q E h => ?_) (fun cdv A outer s H vs Q E hr h => ?_)
  · obtain ⟨h, c, k, rfl, _⟩ := h
    rfl
  · obtain ⟨h, c, k, rfl, held, hk0, hk1, hQ⟩ := h
    refine ⟨_, PSs.nox (pss_cons (ps_asg (pe_tup (pa_cons pe_int (pa_cons pe_int pa_nil))) (pg_tup rfl (pgs_cons (pg_name (i := 2) sc_l_great.nd rfl (.inl rfl)) (pgs_cons (pg_name (i := 3) sc_l_great.nd rfl (.inl rfl)) pgs_nil))))
      (pss_cons (ps_while PassesOwn.never (pt_cmpR op_lt (pv 3) (pv 1) (nomark _)) (pss_one (ps_par (i := 2) (j := 3) rfl sc_l_great.nd rfl rfl (by decide) rfl rfl
        (pa_cons (pe_op op_add (pe_op op_mul (pv 2) (pe_op op_pow pe_int pe_int)) (pe_c cD hr (by decide) rfl (pa_cons (pv 0) (pa_cons (pe_op op_pow pe_int pe_int) pa_nil)))) (pa_cons (pe_op op_mul (pv 3) (pe_op op_pow pe_int pe_int)) pa_nil)) rfl)))
      (pss_one (ps_ret (pe_op op_mod (pv 2) (pv 1)))))), ?_⟩
    refine ⟨(by show 2 ≤ sizeLine; decide), fun u hu => ⟨u, _, rfl, SqT.of upd_same, rfl, _, _, rfl, _, _, rfl, rfl, ?_⟩⟩
    have su := same_new (o := .tup [.int 0, .int 1]) hu
    refine while_by (fun σ H2 => ∃ (x : Int) (i : Nat), σ = [some (.ref h), some (.int k), some (.int x), some (.int (1000000 ^ i))] ∧ i ≤ 6 ∧ Held H2 h (c + (10 - i)) ∧ Kp h H H2)
      (fun σ _ => match σ with | [_, _, _, some (.int c)] => (10 ^ 36 - c).toNat | _ => 0) ⟨0, 0, rfl, by decide, held.same su, Kp.same su⟩ ?_ ?_
    · rintro σ H2 ⟨x, i, rfl, hi, held2, kp2⟩
      refine ⟨_, rfl, _, rfl, _, _, rfl, rfl, _, rfl, ?_⟩
      refine ite2 (fun g => ?_) (fun g => ?_)
      · have g' : (1000000 : Int) ^ i < k := of_decide_eq_true g
        have i4 : i ≤ 4 := six_le i hi (by omega)
        refine ⟨_, rfl, _, _, rfl, rfl, ⟨by decide, by decide, by decide⟩, _, _, rfl, rfl, cb_r (by decide) (by decide), ?_⟩
        refine ⟨_, rfl, _, _, rfl, rfl, ⟨by decide, by decide, by decide⟩, h, c + (10 - (i + 1)), _, rfl, held2.weak (by omega), by decide, by decide, fun r H3 r0 r1 held3 kp3 => ?_⟩
        refine ⟨_, _, rfl, rfl, ?_⟩
        refine ⟨_, rfl, _, _, rfl, rfl, ⟨by decide, by decide, by decide⟩, _, _, rfl, rfl, cb_r (by decide) (by decide), _, _, rfl, ?_⟩
        refine ⟨⟨_, i + 1, rfl, by omega, held3, kp2.trans kp3⟩, ?_⟩
        show (10 ^ 36 - (1000000 : Int) ^ i * 10 ^ 6).toNat < (10 ^ 36 - (1000000 : Int) ^ i).toNat
        have := six_pos i hi
        omega
      · exact ⟨_, rfl, _, rfl, _, _, rfl, rfl, hk0, hQ _ _ (Int.emod_nonneg _ (by omega)) (Int.emod_lt_of_pos _ hk0) (held2.weak (by omega)) kp2⟩
    · rintro σ H2 Q1 Q2 hm ⟨v, hv, v2, hv2, i, j, e1, e2, k, hk, q⟩
      exact ⟨v, hv, v2, hv2, i, j, e1, e2, k, hk, hm _ _ q⟩
def tupP (q : Int × Int) : HO := .tup [.int q.1, .int q.2]
def spLow : Sp := fun vs H Q _ => ∃ (t b : Int) (n : Nat), vs = [.int t, .int b] ∧ b ≠ 0 ∧ b.natAbs < 2 ^ n ∧ 0 < n ∧ n ≤ 9000 ∧ ∀ r, H r = none → Q (.ref r) (upd H r (tupP (KM.low t b)))
theorem ok_low (F : Dn K d_l_low f fd) (b : Bl mg) : FnOk P w K mg base CX0 1 f fd ["_law_above", "_law_beneath"] spLow := by
  refine F.ok sc_l_low (fun vs H Q E h => ?_) (fun cdv A outer s H vs Q E hr h => ?_)
  · obtain ⟨t, b, n, rfl, _⟩ := h
    rfl
  · obtain ⟨x, y, n, rfl, hy, hn, hn0, hn9, hQ⟩ := h
    refine ⟨_, PSs.nox (pss_cons (ps_par (i := 2) (j := 3) rfl sc_l_low.nd rfl rfl (by decide) rfl rfl (pa_cons (pe_callB call_abs rfl b.abs boot_abs (pa_cons (pv 0) pa_nil)) (pa_cons (pe_callB call_abs rfl b.abs boot_abs (pa_cons (pv 1) pa_nil)) pa_nil)) rfl)
      (pss_cons (ps_while PassesOwn.never (pt_cmpR op_gt (pv 3) pe_int (nomark _)) (pss_one (ps_par (i := 2) (j := 3) rfl sc_l_low.nd rfl rfl (by decide) rfl rfl (pa_cons (pv 3) (pa_cons (pe_op op_mod (pv 2) (pv 3)) pa_nil)) rfl)))
      (C8.pss_cut (ps_if (pt_cmpR op_lt (pv 1) pe_int (nomark _)) (pss_one (ps_set (i := 2) sc_l_low.nd rfl (.inl rfl) (pe_op op_sub pe_int (pv 2)))) pss_nil)
      (pss_one (ps_ret (pe_tup (pa_cons (pe_op op_fdW (pv 0) (pv 2)) (pa_cons (pe_op op_fdW (pv 1) (pv 2)) pa_nil)))))))), ?_⟩
    refine ⟨_, rfl, _, rfl, _, rfl, _, rfl, _, _, rfl, while_by (fun σ H2 => H2 = H ∧ ∃ a c : Int, σ = [some (.int x), some (.int y), some (.int a), some (.int c)] ∧ 0 ≤ a ∧ 0 ≤ c ∧ Int.gcd a c = Int.gcd x y)
      (fun σ _ => match σ with | [_, _, _, some (.int c)] => c.toNat | _ => 0) ⟨rfl, _, _, rfl, ?_, ?_, ?_⟩ ?_ ?_⟩
    · split <;> omega
    · split <;> omega
    · rw [abs_eq, abs_eq]
      rfl
    · rintro σ H2 ⟨rfl, a, c, rfl, ha, hc, hg⟩
      refine ⟨_, rfl, _, _, rfl, rfl, _, rfl, ?_⟩
      refine ite2 (fun g => ?_) (fun g => ?_)
      · have hp : 0 < c := of_decide_eq_true g
        refine ⟨_, rfl, _, rfl, _, rfl, _, _, rfl, rfl, hp, _, _, rfl, ⟨rfl, _, _, rfl, hc, Int.emod_nonneg _ (by omega), ?_⟩, ?_⟩
        · rw [KM.gcd_turn ha hp, hg]
        · show (a % c).toNat < c.toNat
          have h1 := Int.emod_nonneg a (show c ≠ 0 by omega)
          have h2 := Int.emod_lt_of_pos a hp
          omega
      · have h0 : c = 0 := by
          have : ¬ 0 < c := fun z => g (decide_eq_true z)
          omega
        subst h0
        have e : Int.gcd x y = a.natAbs := by rw [← hg]; simp
        refine ⟨fun σ' H' => H' = H2 ∧ ∃ v, σ' = [some (.int x), some (.int y), some (.int (KM.sg x y)), v], ?_, ?_⟩
        · refine ⟨_, rfl, _, _, rfl, rfl, _, rfl, ?_⟩
          refine ite2 (fun g1 => ?_) (fun g1 => ?_)
          · refine ⟨_, rfl, _, _, rfl, rfl, rfl, some (.int 0), ?_⟩
            have e2 : KM.sg x y = 0 - a := by unfold KM.sg; rw [if_pos (of_decide_eq_true g1), e]; omega
            rw [e2]
            rfl
          · refine ⟨rfl, some (.int 0), ?_⟩
            have e2 : KM.sg x y = a := by unfold KM.sg; rw [if_neg (fun z => g1 (decide_eq_true z)), e]; omega
            rw [e2]
        · rintro σ' H' ⟨rfl, v, rfl⟩
          have hs9 : (KM.sg x y).natAbs.log2 < 9000 := log_lt (Nat.lt_of_le_of_lt (KM.sg_le hy) hn) hn0 hn9
          refine ⟨_, rfl, _, rfl, _, _, rfl, rfl, ⟨KM.sg_ne hy, hs9⟩, _, rfl, _, rfl, _, _, rfl, rfl, ⟨KM.sg_ne hy, hs9⟩, (by show 2 ≤ sizeLine; decide), fun r hr => hQ r hr⟩
    · rintro σ H2 Q1 Q2 hm ⟨v, hv, i, j, e1, e2, k, hk, q⟩
      exact ⟨v, hv, i, j, e1, e2, k, hk, hm _ _ q⟩
abbrev CalL (P : Program) (w : World) (K : PySem.W.Frag) (mg : Str → Option Value) (base : Heap) : Prop := Cal P w K mg base 1 "_law_low" spLow []
end
end K01
set_option Elab.async false
set_option linter.all false
set_option maxRecDepth 100000
set_option maxHeartbeats 4000000
namespace K01
open PySem PySem.Spec PyProof.Rows L2
open C8 (Cal Mak Met pe_c pe_mk pe_mt pe_mt0)
abbrev zdT : List Value := [.type "ZeroDivisionError", .type "ArithmeticError", .type "Exception", .type "BaseException", .type "object"]
/-- what is known of Nought -/
structure Ng (K : PySem.W.Frag) (mg : Str → Option Value) (N fN : Addr) : Prop where
  gx : GX.Gx K N zdT "ZeroDivisionError.__new__"
  iC : PySem.W.findIn K (.ref N) "__init__" = some (some (.ref fN))
  tI : PySem.W.typeIn K (.ref fN) = some (.type "function")
  vV : PySem.W.findCls K (.type "ZeroDivisionError") (.type "type") "__init__" = some (.val (.builtin "ZeroDivisionError.__init__"))
  no : PySem.W.findIn K (.ref N) "top" = some none
  g : mg "Nought" = some (.ref N)
  zb : mg "ZeroDivisionError" = none
  xf : XfC K N
  te : PySem.W.exmOne K (.ref N) (.ref N) = some true
theorem typ_zd : typeOf (.type "ZeroDivisionError") = pure (.type "type") := by kernel_rfl
section
variable {P : Program} {w : World} {K : PySem.W.Frag} {mg : Str → Option Value} {base : Heap} {f C N fN : Addr} {fd fdN : FuncData}
def spNI (N : Addr) : Sp := fun vs H Q _ => ∃ (a : Addr) (v : V), vs = [.ref a, v] ∧ H a = some (exo a N none) ∧ ∀ dx, H dx = none → dx ≠ a → Q .non (upd (upd H dx (exd dx [("top", v)])) a (exo a N (some dx)))
theorem ok_NI (F : Dn K d_Nought_init f fd) (T : Ng K mg N fN) : FnOk P w K mg base CX0 1 f fd ["self", "top"] (spNI N) := by
  refine F.ok sc_Nought_init (fun vs H Q E h => ?_) (fun cdv A outer s H vs Q E hr h => ?_)
  · obtain ⟨a, v, rfl, _⟩ := h
    rfl
  · obtain ⟨a, v, rfl, ha, hQ⟩ := h
    refine ⟨_, PSs.nox (pss_cons (ps_expr (GX.pe_bi PySem.F.excBase_ZeroDivisionError rfl T.zb PyProof.Rows.Boot.«ZeroDivisionError» typ_zd T.vV (by decide +kernel) (by decide +kernel) (pa_cons (pv 0) (pa_cons pe_str pa_nil))))
      (pss_one (GX.ps_pf PySem.F.store_ZeroDivisionError (nid := "ZeroDivisionError.__new__") (pv 0) (pv 1)))), ?_⟩
    refine ⟨_, rfl, a, N, _, rfl, by show 1 ≤ 1000; decide, T.gx, ha, ?_⟩
    exact ⟨_, rfl, _, rfl, a, N, rfl, T.gx, T.no, ha, hQ⟩
/-- __init__ with a bottom of nought -/
def spInitX (C N : Addr) : Sp := fun vs H _ E => ∃ (p dx : Addr) (t : Int), vs = [.ref p, .int t, .int 0] ∧ H p = some (.ins C dx []) ∧
  ∀ d H', Same H H' → H d = none → H' d = some (.xd [("top", .int t)]) → E (.ref N) (some d) H'
theorem ok_initX (F : Dn K d_Share_init f fd) (cW : CalW P w K mg base) (T : Ng K mg N fN) (FN : FnOk P w K mg base CX0 1 fN fdN ["self", "top"] (spNI N)) (bN : Binds K fdN ["self", "top"] []) : FnOk P w K mg base (L2.CX P w) 3 f fd ["self", "top", "bottom"] (spInitX C N) := by
  refine F.ok sc_Share_init (fun vs H Q E h => ?_) (fun cdv A outer s H vs Q E hr h => ?_)
  · obtain ⟨p, dx, t, rfl, _⟩ := h
    rfl
  · obtain ⟨p, dx, t, rfl, hp, hE⟩ := h
    refine ⟨_, pss_cons (ps_for (passes_of rfl) rfl (pi_tup (pe_tup (pa_cons (pv 1) (pa_cons (pv 2) pa_nil)))) (pg_name (i := 3) sc_Share_init.nd rfl (.inl rfl))
        (pss_one (ps_if (pt_not (pt_val (pe_c cW hr (by decide) rfl (pa_cons (pv 3) pa_nil)))) pss_never pss_nil)))
      (pss_cons (ps_if (pt_cmpR op_eq (pv 2) pe_int (nomark _)) (pss_one (ps_raise rfl (takes_of rfl rfl rfl rfl) (GX.pmk_gx PySem.F.excBase_ZeroDivisionError T.gx T.iC T.tI FN hr bN .nil pass0 rfl T.g (pa_cons (pv 1) pa_nil)))) pss_nil) pss_never), ?_⟩
    refine ⟨_, rfl, _, rfl, by show 2 ≤ sizeLine; decide, fun u hu => ?_⟩
    have npu : p ≠ u := ne_of_none hp hu
    refine ⟨u, rfl, ⟨_, SqT.of upd_same⟩, for_tup (K := K) (xs := [.int t, .int 0]) (fun i σ H2 => H2 = upd H u (.tup [.int t, .int 0]) ∧ ∃ v, σ = [some (.ref p), some (.int t), some (.int 0), v, none])
      ⟨rfl, none, rfl⟩ (fun i σ H2 _ h => by rw [h.1]; exact SqT.of upd_same) ?_ ?_⟩
    · rintro i y σ H2 hi ⟨rfl, v, rfl⟩
      have hy : ∃ n : Int, y = .int n := by
        match i, hi with
        | 0, e => exact ⟨t, (Option.some.inj e).symm⟩
        | 1, e => exact ⟨0, (Option.some.inj e).symm⟩
      obtain ⟨n, rfl⟩ := hy
      refine ⟨_, rfl, n, rfl, true, rfl, ?_⟩
      refine iteF ?_
      exact ⟨rfl, _, rfl⟩
    · rintro σ H2 ⟨rfl, v, rfl⟩
      refine ⟨_, rfl, rfl, _, rfl, ?_⟩
      refine iteT ?_
      have su := same_new (o := .tup [.int t, .int 0]) hu
      refine ⟨_, rfl, by show 1 ≤ 1000; decide, fun a ha => ⟨a, _, rfl, upd_same, fun d hd ne => ⟨rfl, d, _, upd_same, (by rw [upd_ne ne]; exact upd_same), ?_, ?_⟩⟩⟩
      · rw [upd_ne ne] at hd
        exact hd
      · have hd0 : upd H u (.tup [.int t, .int 0]) d = none := by
          rw [upd_ne ne] at hd
          exact hd
        refine hE d _ (fun b o e => ?_) (su.free hd0) upd_same
        have e1 := su b o e
        have b1 : b ≠ d := ne_of_none e1 hd0
        have b2 : b ≠ a := ne_of_none e1 ha
        rw [upd_ne b1, del_ne b2, upd_ne b2, upd_ne b1, upd_ne b2]
        exact e1
end
end K01
set_option Elab.async false
set_option linter.all false
set_option maxRecDepth 100000
set_option maxHeartbeats 4000000
namespace K01
open PySem PySem.Spec PyProof.Rows L2
open C8 (Cal Mak Met pe_c pe_mk pe_mt pe_mt0)
/-- what isinstance asks of the class -/
structure IsC (K : PySem.W.Frag) (C : Addr) : Prop where
  ha : PySem.W.findIn K (.ref C) "__class__" = some (some (.builtin "object.__class__"))
  hn : PySem.W.specialIn K (.builtin "object.__class__") "__get__" = some (some (.builtin "getset_descriptor.__get__"))
  htk : PySem.W.takesIn K (.builtin "object.__class__") = some true
  hm : PySem.W.mroIn K C (.type "object") = some true
  kit : PySem.W.kitOne K (.ref C) (.ref C) = some true
section
variable {P : Program} {w : World} {K : PySem.W.Frag} {mg : Str → Option Value} {base : Heap} {f C N fN : Addr} {fd fdN : FuncData}
def spPair (C : Addr) : Sp := fun vs H Q _ => ∃ (p : Addr) (q : Int × Int), vs = [.ref p] ∧ Sh C H p q ∧ ∀ r H', Same H H' → H r = none → H' r = some (tupP q) → Q (.ref r) H'
theorem ok_pair (F : Dn K d_l_pair f fd) (b : Bl mg) (T : Cl K mg C) (S : IsC K C) : FnOk P w K mg base CX0 1 f fd ["_law_share"] (spPair C) := by
  refine F.ok sc_l_pair (fun vs H Q E h => ?_) (fun cdv A outer s H vs Q E hr h => ?_)
  · obtain ⟨p, q, rfl, _⟩ := h
    rfl
  · obtain ⟨p, q, rfl, ⟨dp, hp⟩, hQ⟩ := h
    refine ⟨_, PSs.nox (pss_cons (ps_if (pt_not (pt_val (pe_callB call_isi rfl b.isi boot_isinstance (pa_cons (pv 0) (pa_cons (pe_glob (v := .ref C) rfl T.g rfl) pa_nil))))) pss_never pss_nil)
      (pss_cons (ps_for PassesOwn.never rfl (pi_tup (pe_tup (pa_cons (pe_fld (pv 0) rfl) (pa_cons (pe_fld (pv 0) rfl) pa_nil)))) (pg_name (i := 1) sc_l_pair.nd rfl (.inl rfl))
        (pss_one (ps_if (PW.pt (pw_or (pt_not (pt_val (pe_callB call_isi rfl b.isi boot_isinstance (pa_cons (pv 1) (pa_cons (pe_bltn (v := .ty "int") rfl b.int boot_int rfl) pa_nil)))))
          (pw_or1 (pt_val (pe_callB call_isi rfl b.isi boot_isinstance (pa_cons (pv 1) (pa_cons (pe_bltn (v := .ty "bool") rfl b.bool boot_bool rfl) pa_nil))))))) pss_never pss_nil)))
      (pss_one (ps_ret (pe_tup (pa_cons (pe_fld (pv 0) rfl) (pa_cons (pe_fld (pv 0) rfl) pa_nil))))))), ?_⟩
    refine ⟨_, rfl, _, _, _, _, true, rfl, ClsV.own C, TyX.base (TyOf.ins hp T.cl S.ha S.hn S.htk S.hm), S.kit, true, rfl, ?_⟩
    refine iteF ?_
    refine ⟨_, rfl, p, C, dp, _, _, rfl, hp, T.cl, T.nt, shF_top q, _, rfl, p, C, dp, _, _, rfl, hp, T.cl, T.nb, shF_bot q, by show 2 ≤ sizeLine; decide, fun u hu => ?_⟩
    have npu : p ≠ u := ne_of_none hp hu
    refine ⟨u, rfl, ⟨_, SqT.of upd_same⟩, for_tup (K := K) (xs := [.int q.1, .int q.2]) (fun i σ H2 => H2 = upd H u (.tup [.int q.1, .int q.2]) ∧ ∃ v, σ = [some (.ref p), v])
      ⟨rfl, none, rfl⟩ (fun i σ H2 _ h => by rw [h.1]; exact SqT.of upd_same) ?_ ?_⟩
    · rintro i y σ H2 hi ⟨rfl, v, rfl⟩
      have hy : ∃ n : Int, y = .int n := by
        match i, hi with
        | 0, e => exact ⟨_, (Option.some.inj e).symm⟩
        | 1, e => exact ⟨_, (Option.some.inj e).symm⟩
      obtain ⟨n, rfl⟩ := hy
      refine ⟨_, rfl, _, _, _, _, true, rfl, ClsV.ty _, TyX.base (TyOf.int n), kit_ty (by decide +kernel), true, rfl, ?_⟩
      refine iteF ?_
      refine ⟨_, rfl, _, _, _, _, false, rfl, ClsV.ty _, TyX.base (TyOf.int n), kit_ty (by decide +kernel), false, rfl, ?_⟩
      exact iteF ⟨rfl, _, rfl⟩
    · rintro σ H2 ⟨rfl, v, rfl⟩
      have hp2 : (upd H u (.tup [.int q.1, .int q.2])) p = some (.ins C dp (shF q)) := by rw [upd_ne npu]; exact hp
      refine ⟨_, rfl, p, C, dp, _, _, rfl, hp2, T.cl, T.nt, shF_top q, _, rfl, p, C, dp, _, _, rfl, hp2, T.cl, T.nb, shF_bot q, by show 2 ≤ sizeLine; decide, fun r hr => ?_⟩
      exact hQ r _ ((same_new hu).trans (same_new hr)) ((same_new hu).free hr) upd_same
abbrev CalGr (P : Program) (w : World) (K : PySem.W.Frag) (mg : Str → Option Value) (base : Heap) : Prop := Cal P w K mg base 2 "_law_great" spGreat []
def spNumber : Sp := fun vs H Q _ => ∃ (h : Addr) (c : Nat), vs = [.ref h] ∧ Held H h (c + 20) ∧ ∀ r H', r.natAbs < 2 ^ 100 → Held H' h c → Kp h H H' → Q (.int r) H'
theorem at3 {a b c : V} {r : Int} (h0 : 0 ≤ r) (h1 : r < 3) : ∃ v, atI [a, b, c] r = some v ∧ (v = a ∨ v = b ∨ v = c) := by
  rcases (show r = 0 ∨ r = 1 ∨ r = 2 by omega) with rfl | rfl | rfl
  · exact ⟨a, rfl, .inl rfl⟩
  · exact ⟨b, rfl, .inr (.inl rfl)⟩
  · exact ⟨c, rfl, .inr (.inr rfl)⟩
theorem ten30 : (10 : Int) ^ 20 < 2 ^ 100 := by decide
theorem ok_number (F : Dn K d_l_number f fd) (cD : CalD P w K mg base) (cG : CalGr P w K mg base) : FnOk P w K mg base CX0 3 f fd ["_law_held_here"] spNumber := by
  refine F.ok sc_l_number (fun vs H Q E h => ?_) (fun cdv A outer s H vs Q E hr h => ?_)
  · obtain ⟨h, c, rfl, _⟩ := h
    rfl
  · obtain ⟨h, c, rfl, held, hQ⟩ := h
    refine ⟨_, PSs.nox (pss_cons (ps_set (i := 1) sc_l_number.nd rfl (.inl rfl) (pe_ix ix_list (pe_lst (pa_cons (pe_c cD hr (by decide) rfl (pa_cons (pv 0) (pa_cons pe_int pa_nil)))
        (pa_cons (pe_c cD hr (by decide) rfl (pa_cons (pv 0) (pa_cons (pe_op op_pow pe_int pe_int) pa_nil))) (pa_cons (pe_c cG hr (by decide) rfl (pa_cons (pv 0) (pa_cons (pe_op op_pow pe_int pe_int) pa_nil))) pa_nil))))
        (pe_c cD hr (by decide) rfl (pa_cons (pv 0) (pa_cons pe_int pa_nil))) (fun _ _ => rfl)))
      (pss_one (ps_ret (pe_op op_mul (pv 1) (pe_ix ix_list (pe_lst (pa_cons pe_int (pa_cons pe_int (pa_cons (pe_un un_neg pe_int) pa_nil)))) (pe_c cD hr (by decide) rfl (pa_cons (pv 0) (pa_cons pe_int pa_nil))) (fun _ _ => rfl)))))), ?_⟩
    refine ⟨_, rfl, h, c + 19, 13, rfl, held, by decide, by decide, fun r1 H1 a1 b1 held1 kp1 => ?_⟩
    refine ⟨_, rfl, _, _, rfl, rfl, ⟨by decide, by decide, by decide⟩, h, c + 18, _, rfl, held1, by decide, by decide, fun r2 H2 a2 b2 held2 kp2 => ?_⟩
    refine ⟨_, rfl, _, _, rfl, rfl, ⟨by decide, by decide, by decide⟩, h, c + 8, _, rfl, held2, by decide, by decide, fun r3 H3 a3 b3 held3 kp3 => ?_⟩
    refine ⟨by show 3 ≤ sizeLine; decide, fun u hu => ?_⟩
    have su := same_new (o := .lst [.int r1, .int r2, .int r3]) hu
    refine ⟨_, rfl, h, c + 7, 3, rfl, held3.same su, by decide, by decide, fun r4 H4 a4 b4 held4 kp4 => ?_⟩
    have nuh : u ≠ h := by
      obtain ⟨l, ns, n, m, h1, _⟩ := held3
      exact (ne_of_none h1 hu).symm
    have hu4 : H4 u = some (.lst [.int r1, .int r2, .int r3]) := kp4 u _ upd_same nuh
    obtain ⟨v, hv, hv3⟩ := at3 (a := .int r1) (b := .int r2) (c := .int r3) a4 b4
    refine ⟨u, _, _, v, rfl, rfl, SqL.of hu4, hv, ?_⟩
    obtain ⟨x, rfl, hx⟩ : ∃ x : Int, v = .int x ∧ x.natAbs < 2 ^ 100 := by
      have t30 := ten30
      have b2' : r2 < 1000000 := b2
      have b3' : r3 < 10 ^ 20 := b3
      rcases hv3 with rfl | rfl | rfl
      · exact ⟨r1, rfl, by omega⟩
      · exact ⟨r2, rfl, by omega⟩
      · exact ⟨r3, rfl, by omega⟩
    refine ⟨_, rfl, _, rfl, by show 3 ≤ sizeLine; decide, fun u2 hu2 => ?_⟩
    have su2 := same_new (o := .lst [.int 1, .int 1, .int (-1)]) hu2
    refine ⟨_, rfl, h, c + 6, 3, rfl, held4.same su2, by decide, by decide, fun r5 H5 a5 b5 held5 kp5 => ?_⟩
    have nuh2 : u2 ≠ h := by
      obtain ⟨l, ns, n, m, h1, _⟩ := held4
      exact (ne_of_none h1 hu2).symm
    have hu5 : H5 u2 = some (.lst [.int 1, .int 1, .int (-1)]) := kp5 u2 _ upd_same nuh2
    obtain ⟨v, hv, hv3⟩ := at3 (a := .int 1) (b := .int 1) (c := .int (-1)) a5 b5
    obtain ⟨y, rfl, hy⟩ : ∃ y : Int, v = .int y ∧ (y = 1 ∨ y = -1) := by
      rcases hv3 with rfl | rfl | rfl
      · exact ⟨1, rfl, .inl rfl⟩
      · exact ⟨1, rfl, .inl rfl⟩
      · exact ⟨-1, rfl, .inr rfl⟩
    refine ⟨u2, _, _, _, rfl, rfl, SqL.of hu5, hv, _, _, rfl, rfl, cb_r (by omega) (by omega), ?_⟩
    refine hQ _ _ ?_ (held5.weak (by omega)) ((((kp1.trans kp2).trans kp3).trans (Kp.same su)).trans ((kp4.trans (Kp.same su2)).trans kp5))
    show (x * y).natAbs < 2 ^ 100
    rcases hy with rfl | rfl <;> omega
end
end K01
set_option Elab.async false
set_option linter.all false
set_option maxRecDepth 100000
set_option maxHeartbeats 4000000
/-! EXV: a caught exception that is kept behind its except clause: isinstance of it, its fields. -/
namespace EXV
open PySem PySem.Spec PyProof.Rows L2
/-- an exception object at a, of the class cls, with the dict d -/
def XcP (cls : Value) (d : Option Addr) (a : Addr) (h : Heap) : Prop := ∃ (oe : Obj) (vs : Array Value), h.get? a = some oe ∧ Zc cls d oe ∧ oe.data = .fields vs
def Xc (cls : Value) (d : Option Addr) (a : Addr) : HO := .ext (XcP cls d a)
theorem xc_ok {P : Program} {w : World} {H : Hp} {h : Heap} {a : Addr} {cls : Value} {d : Option Addr} {oe : Obj} {vs : Array Value} (g : h.get? a = some oe) (z : Zc cls d oe) (f : oe.data = .fields vs) : ObjOk P w H h a (Xc cls d a) :=
  ⟨⟨oe, vs, g, z, f⟩, ⟨oe, g⟩, fun h1 h2 ⟨u, v, g1, z1, f1⟩ k => ⟨u, v, k u g1, z1, f1⟩⟩
theorem xc_at {P : Program} {w : World} {H : Hp} {h : Heap} {a : Addr} {cls : Value} {d : Option Addr} (ok : HOk P w H h) (e : H a = some (Xc cls d a)) : XcP cls d a h := by
  have x : ObjOk P w H h a (.ext (XcP cls d a)) := ok a _ e
  exact x.1
theorem xc_lst {a b : Addr} {cls : Value} {d : Option Addr} {xs : List V} {H : Hp} (e : H a = some (Xc cls d a)) (e2 : H b = some (.lst xs)) : a ≠ b := fun z => by
  rw [z, e2] at e
  have e' : HO.lst xs = HO.ext (XcP cls d b) := Option.some.inj (z ▸ e)
  cases e'
section
variable {X : Cx} {pins : List (Addr × Obj)} {σ : L2.St} {H : Hp} {s : Shared}
theorem into_suite (I : Inv X pins σ H s) (a : Addr) : Inv (X.suite a (X.pn ++ pins)) [] σ H s where
  ok := I.ok.suite a (X.pn ++ pins)
  os := I.os
  bare := I.bare
  base := I.base
  loc := I.loc
  cell := I.cell
  free := I.free
  freeC := I.freeC
  pin := fun p hp => I.pin p (by simpa using hp)
  hok := I.hok
  len := I.len
theorem out_suite {a : Addr} {ps : List (Addr × Obj)} (I : Inv (X.suite a (X.pn ++ pins)) ps σ H s) (good : X.Ok) : Inv X pins σ H s where
  ok := good
  os := I.os
  bare := I.bare
  base := I.base
  loc := I.loc
  cell := I.cell
  free := I.free
  freeC := I.freeC
  pin := fun p hp => I.pin p (List.mem_append_left ps hp)
  hok := I.hok
  len := I.len
end
/-- what an except clause that keeps the exception wishes of the body: slot i is the clause's name -/
def wKeep (K : PySem.W.Frag) (c : Value) (i : Nat) (ts : Addr → Value → Option Addr → TS) (Wout : WX) (D : Ends) : WX := fun cls d σ H => ∃ b, PySem.W.exmOne K cls c = some b ∧
  (b = true → ∀ a, H a = none → ts a cls d { nx := fun σ' H' => D.nx (σ'.set i none) H', rt := D.rt, bk := fun σ' H' => D.bk (σ'.set i none) H', ct := fun σ' H' => D.ct (σ'.set i none) H' } (σ.set i (some (.ref a))) (upd H a (Xc cls d a))) ∧ (b = false → Wout cls d σ H)
section
variable {X : Cx} {x n : Str} {c : Value} {i : Nat} {body suite : List Stmt} {b₀ : Stmt} {np pos pos' : Pos} {tb : WX → TS} {ts : Addr → Value → Option Addr → TS} {Wout : WX}
theorem ps_try_keep (stk : X.stack = X.env :: X.outer) (frm : X.env.frame = some X.env.locals) (nod : X.N.Nodup) (at_ : X.N[i]? = some n) (kln : X.env.kindOf n = some .local) (nm : Names X x c) (out : Takes X Wout)
    (bdy : ∀ (W : WX) (pn : List (Addr × Obj)) (xe : Value → Shared → Prop), Takes (X.tr pn xe) W → PassesOwn (model X.prog X.w) X.A X.env xe → PSs (X.tr pn xe) body (tb W))
    (sui : ∀ (a : Addr) (cls : Value) (d : Option Addr) (pn : List (Addr × Obj)), PSs (X.suite a pn) (b₀ :: suite) (ts a cls d)) :
    PS X (.Try body [.ExceptHandler (some (.Name x np)) (some n) (b₀ :: suite) pos'] [] [] pos) (fun D σ H => tb (wKeep X.K c i ts Wout D) D σ H) := by
  refine ⟨fun pins s σ H D I h => ?_⟩
  have good := I.ok
  have frs2 : X.A.frames = some (X.env :: X.outer) := by rw [good.frames, stk]
  have isLoc : Loc X.env.scope n := .inl kln
  have start := (bdy (wKeep X.K c i ts Wout D) (X.pn ++ pins) (fun e s₁ => wpAny (model X.prog X.w) X.A (noteFrame e X.env) (fun _ s₂ => wpAny (model X.prog X.w) X.A (setFlight e none)
      (fun _ s₃ => wpAny (model X.prog X.w) X.A (handleBy e X.env [.ExceptHandler (some (.Name x np)) (some n) (b₀ :: suite) pos']) (SP X pins D) X.xe s₃) X.xe s₂) X.xe s₁) (fun u s' xx => ?_) PassesOwn.looking).run [] s σ H D (I.toTry _) h
  · refine wpAny_Try_except (wpAny_mono start (fun f s1 fin => ?_) fun _ _ he => he)
    cases f with
    | next =>
      obtain ⟨σ1, H1, J1, q1⟩ := fin
      exact wpAny_execs_nil ⟨σ1, H1, J1.ofTry good, q1⟩
    | brk =>
      obtain ⟨σ1, H1, J1, q1⟩ := fin
      exact ⟨σ1, H1, J1.ofTry good, q1⟩
    | cont =>
      obtain ⟨σ1, H1, J1, q1⟩ := fin
      exact ⟨σ1, H1, J1.ofTry good, q1⟩
    | ret u =>
      obtain ⟨v1, σ1, H1, J1, r1, q1⟩ := fin
      exact ⟨v1, σ1, H1, J1.ofTry good, r1, q1⟩
  -- what the body lets out
  obtain ⟨a, B, sI, pins', σ', H', cls, d, rfl, J0, nb, up, sky0, na, os, ag, b, tst, yes, no⟩ := xx
  have J : Inv X pins σ' H' sI := J0.ofTry good
  have sky : Sky B (X.env :: X.outer) a (Zc cls d) X.env.locals s'.heap := by rw [← stk]; exact sky0
  show wpAny (model X.prog X.w) X.A (noteFrame (.ref a) X.env) _ _ _
  refine Sky.land Zc.steady frs2 frm sky fun h3 fl3 up3 => ?_
  have J3 : Inv X pins σ' H' { s' with heap := h3 } := J.landed nb fl3.1 (up.trans up3) os ag
  obtain ⟨oe3, vs3, he3, hz3, hd3⟩ := fl3.there
  have notFr : a ∉ frs (X.env :: X.outer) := fun hm => by
    obtain ⟨_, o', e', hnf⟩ := fl3.2.2.1.mem hm
    rw [he3] at e'
    cases e'
    exact hnf _ hd3
  have Ba : B.get? a = none := fl3.2.1
  -- the heap without it
  have cut : ∀ {h4 : Heap}, B.StaysIn h4 → s'.heap.UpToSlots h4 → ∃ G : Heap, (∀ b o, G.get? b = some o → h4.get? b = some o) ∧ G.get? a = none ∧ Inv X pins σ' H' { s' with heap := G } := fun {h4} st4 up4 => by
    obtain ⟨G, g1, g2⟩ := restrict h4 fun b => decide (b ≠ a)
    have ga : G.get? a = none := g2 a (decide_eq_false fun z => z rfl)
    have ge : ∀ b, b ≠ a → G.get? b = h4.get? b := fun b hb => g1 b (decide_eq_true hb)
    have keepB : B.StaysIn G := fun b o e => by
      rw [ge b fun z => by rw [z, Ba] at e; cases e]
      exact st4 b o e
    have upG : sI.heap.UpToSlots G := fun b o e nf => by
      have hb : b ≠ a := fun z => by
        have := nb a o (z ▸ e) (by rw [stk]; exact notFr)
        rw [Ba] at this
        cases this
      rw [ge b hb]
      exact (up.trans up4) b o e nf
    refine ⟨G, fun b o e => ?_, ga, J.landed (s' := { s' with heap := G }) nb keepB upG os ag⟩
    by_cases hb : b = a
    · rw [hb, ga] at e
      cases e
    · rw [← ge b hb]
      exact e
  have S3 := into_suite J3 a
  refine wpAny_handleBy_cons (codeAny_handlers_test ?_) (by intro q; cases q)
  have typed : PySem.W.Looks (model X.prog X.w) h3 (typeOf (.ref a)) cls := fun A Q E s k q => wpAny_typeOf_ref (k _ _ he3) (by rw [hz3.1]; exact q)
  have matched := PySem.W.exm_one (M := model X.prog X.w) (J3.kIn) typed tst
  have named : ∀ {Q : Value → Shared → Prop} {E : Value → Shared → Prop}, Q c { s' with heap := h3 } → wpAny (model X.prog X.w) (X.A.mark (some (.ref a))) (eval (.Name x np) X.env) Q E { s' with heap := h3 } := fun {Q E} q => by
    obtain ⟨hg, hdbg, hm | ⟨hm, hv, hnn⟩⟩ := nm
    · exact ld_glob (X := X.suite a (X.pn ++ pins)) S3 hg hm q hdbg
    · exact ld_blt (X := X.suite a (X.pn ++ pins)) S3 hg hm hv q hnn hdbg
  refine named (matched.here ?_)
  cases b with
  | true =>
    refine codeAny_handlers_suite_as ?_
    refine HandSPX.lands_againZ fl3 fun h4 fl4 up4 => ?_
    obtain ⟨oe4, vs4, he4, hz4, hd4⟩ := fl4.there
    obtain ⟨G, gk, ga, JG⟩ := cut fl4.1 (up3.trans up4)
    have JK : Inv X pins σ' (upd H' a (Xc cls d a)) { s' with heap := h4 } := JG.laidN (t' := s'.toks) (h' := h4) gk ga na (xc_ok he4 hz4 hd4)
    refine store_ok (X := X.suite a (X.pn ++ pins)) (v := .ref a) (into_suite JK a) nod at_ isLoc rfl (fun s5 S5 => ?_) (.inr kln)
    refine wpAny_mono ((sui a cls d (X.pn ++ pins)).run [] s5 _ _ _ S5 (yes rfl a na)) (fun f s6 fin => ?_) (fun _ _ z => False.elim z)
    have ends : ∀ {σ6 : L2.St} {H6 : Hp} {Q : Shared → Prop}, Inv (X.suite a (X.pn ++ pins)) [] σ6 H6 s6 → (∀ s7, Inv X pins (σ6.set i none) H6 s7 → Q s7) →
        wpAny (model X.prog X.w) X.A (do bindName X.env n .none; unbindBehindTheSuite X.env n pos') (fun _ s7 => Q s7) X.xe s6 := fun {σ6 H6 Q} S6 hq => gone_ok (out_suite S6 good) nod at_ kln hq
    cases f with
    | next =>
      obtain ⟨σ6, H6, S6, q6⟩ := fin
      exact ends S6 fun s7 J7 => ⟨_, _, J7, q6⟩
    | brk =>
      obtain ⟨σ6, H6, S6, q6⟩ := fin
      exact ends S6 fun s7 J7 => ⟨_, _, J7, q6⟩
    | cont =>
      obtain ⟨σ6, H6, S6, q6⟩ := fin
      exact ends S6 fun s7 J7 => ⟨_, _, J7, q6⟩
    | ret u =>
      obtain ⟨v6, σ6, H6, S6, r6, q6⟩ := fin
      exact ends S6 fun s7 J7 => ⟨_, _, _, J7, r6, q6⟩
  | false =>
    show wpAny _ X.A (handleBy (.ref a) X.env []) _ _ _
    refine wpAny_handleBy_nil ?_
    obtain ⟨k1, k2, k3, oe, vs, T, oT, ts', he, hz, hd, h1, hr⟩ := id fl3
    unfold PySem.passOn
    refine wpAny_bind (wpAny_field he hd h1 ?_)
    rw [if_neg (show ¬ ((Value.ref T == Value.none) = true) from by simp)]
    have fin : wpAny (model X.prog X.w) X.A (setFlight (.ref a) X.env.frame) (fun _ s4 => wpAny (model X.prog X.w) X.A (throw (.ref a) : Sem Flow) (SP X pins D) X.xe s4) X.xe { s' with heap := h3 } := by
      rw [frm]
      refine HandSPX.setFlight_upZ fl3 fun h4 hh4 up4 => wpAny_throw (out _ _ ?_)
      exact ⟨a, B, sI, pins, σ', H', cls, d, rfl, J, nb, (up.trans up3).trans up4, .inr (.inr (by rw [stk]; exact hh4)), na, os, ag, no rfl⟩
    first
      | exact wpAny_bind (wpAny_pure (wpAny_bind fin))
      | exact wpAny_bind fin
end
end EXV
set_option Elab.async false
set_option linter.all false
set_option maxRecDepth 100000
set_option maxHeartbeats 4000000
/-! EXW: isinstance of a kept exception, and its fields -/
namespace EXW
open PySem PySem.Spec PySem.Calls PyProof.Rows
section
open PySem.W
variable {prog : Program} {w : World} {A : Around} {E : Value → Shared → Prop} {s : Shared} {K : Frag} {x D : Addr} {ox : Obj} {od : Option Obj}
theorem bound {C : Addr} {m : Str} {a g : Value} (hc : (clsIn K C).isSome = true) (ha : findIn K (.ref C) m = some (some a)) (hg : specialIn K a "__get__" = some (some g)) (ht : takesIn K a = some true) : findObj K C od m = some (.bind g a) := by
  obtain ⟨cd, hc⟩ := Option.isSome_iff_exists.mp hc
  simp only [findObj, hc, ha, hg, ht, Option.bind_some]
theorem cls_of {Q : Option Value → Shared → Prop} (X : L2.ExcC K D) (kin : K.In s.heap) (I : InstAt s.heap x ox D od) (post : Q (some (.ref D)) { s with toks := s.toks + 1 }) : wpAny (model prog w) A (getAttr? (.ref x) "__class__") Q E s := by
  have hf : findObj K D od "__class__" = some (.bind (.builtin "getset_descriptor.__get__") (.builtin "object.__class__")) := bound (by obtain ⟨cd, hc, _⟩ := any_some X.hd; rw [hc]; rfl) X.ha X.hn X.ht
  obtain ⟨hp, g, d, t, os⟩ := s
  have t0 := I.type (M := model prog w)
  have g1 := looks_findIn (M := model prog w) kin X.hg
  have g2 := looks_findIn (M := model prog w) kin X.hk
  have g3 := looks_find (M := model prog w) kin I hf
  have exc : Looks (model prog w) hp (isInstance (.ref x) (.type "BaseException")) true := t0.andThen (looks_subIn kin X.hs)
  have no1 : (Value.builtin "BaseException.__getattribute__" == Value.builtin "object.__getattribute__") = false := by decide +kernel
  have no2 : (onTheHeap (Value.ref D) && Value.builtin "BaseException.__getattribute__" == Value.builtin "object.__getattribute__") = false := by rw [no1]; rfl
  have no3 : (false && onTheHeap (Value.builtin "BaseException.__getattribute__")) = false := rfl
  unfold getAttr? getAttrBy? getAttrBy
  refine wpAny_bind (wpAny_mkText (wpAny_bind (wpAny_attempt (wpAny_holding (wpAny_bind (t0.at (wpAny_bind (g1.at ?_))))))))
  show wpAny _ _ (if (onTheHeap (Value.ref D) && Value.builtin "BaseException.__getattribute__" == Value.builtin "object.__getattribute__") = true then _ else _) _ _ _; rw [no2, if_neg Bool.false_ne_true]
  unfold getAttrByItsOwn hookBefore; refine wpAny_bind ?_
  rw [if_pos (show onTheHeap (Value.ref D) = true from rfl)]; refine g2.at ?_
  refine wpAny_bind (wpAny_attempt (wpAny_holding ?_)); unfold callGetattribute
  rw [no3, if_neg Bool.false_ne_true]; unfold boundAndCalled
  rw [PySem.F.excAttr_ValueError.ga.bind (.ref x)]; refine wpAny_bind (wpAny_pure ?_)
  show wpAny _ _ (call (.builtin "BaseException.__getattribute__") [.ref x, .str "__class__" t]) _ _ _; refine wpAny_call (codeAny_call_builtin PySem.F.excAttr_ValueError.ga.plain PySem.F.entry_bexc_ga ?_)
  refine @check_slot (model prog w) _ _ ⟨hp, g, d, t + 1, os⟩ "BaseException.__getattribute__" "BaseException" "__getattribute__" (.ref x) [.str "__class__" t] [] _ (by decide +kernel) (by decide +kernel) exc (PySem.F.args_bexc_ga (.ref x) (.str "__class__" t)) ?_
  unfold Builtin.«object.__getattribute__»; refine wpAny_bind (wpAny_of_eq (a := ((Value.ref x : Value), [Value.str "__class__" t])) (by first | rfl | (simp only [slotArgs]; rfl)) ?_)
  refine wpAny_bind (wpAny_pure (wpAny_bind (t0.at (wpAny_bind (g3.at ?_)))))
  show wpAny _ _ (holding [Value.builtin "object.__class__"] (call (.builtin "getset_descriptor.__get__") [.builtin "object.__class__", .ref x, .ref D]) >>= ret) _ _ _; refine wpAny_bind (wpAny_holding (wpAny_call (class_get (s := ⟨hp, g, d, t + 1, os⟩) (ox := ox) (od := od) kin I X.hm ?_)))
  refine wpAny_pure ?_; show wpAny _ _ (handedOut (.ref D)) _ _ _
  rw [handedOut_of (v := .ref D) rfl]
  first | exact wpAny_pure (wpAny_pure post) | exact wpAny_pure post | exact wpAny_pure (wpAny_bind (wpAny_pure (wpAny_pure post)))
theorem kit_of (X : L2.ExcC K D) : KitX K (.ref x) (.ref D) (fun h => ∃ ox od, InstAt h x ox D od) where
  ty := fun _ _ _ ⟨_, _, I⟩ => I.type
  it := fun _ _ kin _ => by
    obtain ⟨cdD, hcD, _⟩ := any_some X.hd
    unfold clsIn at hcD
    split at hcD
    · rename_i c' d' cd' sl' ho
      intro A' Q' E' s' k q; unfold isType loadHead
      exact wpAny_bind (wpAny_loadPart (k _ _ (kin _ _ ho)) (wpAny_pure q))
    · cases hcD
  ne := fun h tp dd its n sl kin htp => by
    obtain ⟨cdD, hcD, _⟩ := any_some X.hd
    refine Bool.eq_false_iff.mpr fun q => ?_
    obtain rfl : D = tp := Value.ref.inj (beq_iff_eq.mp q)
    unfold clsIn at hcD
    split at hcD
    · rename_i c' d' cd' sl' ho
      cases (kin _ _ ho).symm.trans htp
    · cases hcD
  ca := fun kin ⟨_, _, I⟩ k => cls_of X kin I k
end
open L2 EXV
/-- the dict of a kept exception, if it has one, is ours too -/
def Dct (H : Hp) (d : Option Addr) : Prop := d = none ∨ ∃ (dd : Addr) (fs : List (Str × V)), d = some dd ∧ H dd = some (.xd fs)
section
variable {X : Cx} {pins : List (Addr × Obj)} {σ : L2.St} {H : Hp} {s : Shared} {a D : Addr} {d : Option Addr}
theorem inst (I : Inv X pins σ H s) (e : H a = some (Xc (.ref D) d a)) (hd : Dct H d) : ∃ ox od, PySem.W.InstAt s.heap a ox D od ∧ ∀ dd fs, d = some dd → H dd = some (.xd fs) → ∃ (o : Obj) (mA : Str → Option Value), od = some o ∧ (∀ m, RelO (fs.lookup m) (mA m)) ∧ ∀ m, PySem.W.lookIn m o = some (mA m) := by
  obtain ⟨oe, vs, g, z, f⟩ := xc_at I.hok e
  have nc : PySem.W.notCls oe = true := by unfold PySem.W.notCls; rw [f] <;> rfl
  rcases hd with rfl | ⟨dd, fs, rfl, hx⟩
  · exact ⟨oe, none, ⟨g, z.1, nc, by rw [z.2]; trivial⟩, fun dd fs e => by cases e⟩
  · have hx' : ObjOk X.prog X.w H s.heap dd (.xd fs) := I.hok dd _ hx
    obtain ⟨mA, hns, hr⟩ := hx'
    obtain ⟨o, ho, hl⟩ := lookIn_ns hns
    refine ⟨oe, some o, ⟨g, z.1, nc, by rw [z.2]; exact ho⟩, fun dd' fs' e1 e2 => ?_⟩
    cases e1
    rw [hx] at e2
    cases e2
    exact ⟨o, mA, rfl, hr, hl⟩
/-- isinstance(e, c) of a kept exception -/
def rIsK (K : PySem.W.Frag) : List V → Hp → VK → Prop := fun xs H Q => ∃ (a D : Addr) (d : Option Addr) (c : V) (cv : Value) (b : Bool), xs = [.ref a, c] ∧ H a = some (Xc (.ref D) d a) ∧ Dct H d ∧ ExcC K D ∧ (∀ u, RelV c u → u = cv) ∧ PySem.W.kitOne K (.ref D) cv = some b ∧ Q (.bl b) H
theorem call_isK : CallR X (.builtin "isinstance") (rIsK X.K) := by
  intro pins s σ H xs us Q I r h
  obtain ⟨a, D, d, c, cv, b, rfl, ea, hd, C, hcv, e, q⟩ := h
  match us, r with
  | [_, _], .cons rx (.cons rt .nil) =>
    cases rx
    have ec := hcv _ rt
    subst ec
    obtain ⟨ox, od, J, _⟩ := inst I ea hd
    exact PySem.W.kia_one (kit_of C) I.kIn ⟨ox, od, J⟩ e (fun z => nomatch z) fun tk => ⟨.bl b, H, I.kept (t' := tk) fun _ _ z => z, rfl, q⟩
end
/-- e.f of a kept exception -/
def tXk (K : PySem.W.Frag) (f : Str) (te : TE) : TE := fun σ H Q => te σ H fun x H1 => ∃ (a C dd : Addr) (fs : List (Str × V)) (v : V), x = .ref a ∧ H1 a = some (Xc (.ref C) (some dd) a) ∧ H1 dd = some (.xd fs) ∧ XfC K C ∧ PySem.W.findIn K (.ref C) f = some none ∧ fs.lookup f = some v ∧ Q v H1
theorem pe_xk {X : Cx} {e : Expr} {te : TE} {pos : Pos} {n : Str} (he : PE X e te) (hb : attributeBase e n X.env (eval e X.env) = eval e X.env := by rfl) : PE X (.Attribute e n pos) (tXk X.K n te) := by
  refine ⟨fun pins s σ H Q I h => ?_⟩
  refine attr_of hb (thn (he.run pins s σ H _ I h) fun u s1 hh => ?_)
  obtain ⟨x, H1, I1, rx, a, C, dd, fs, v, rfl, ea, ed, T, hno, l, q⟩ := hh
  obtain rfl : u = Value.ref a := rx
  obtain ⟨ox, od, J, more⟩ := inst I1 ea (.inr ⟨dd, fs, rfl, ed⟩)
  obtain ⟨o, mA, rfl, hr, hl⟩ := more dd fs rfl ed
  obtain ⟨u, hu, ru⟩ := RelO.some_of (v := v) (o := mA n) (by rw [← l]; exact hr n)
  exact HandSPX.exc_get I1.kIn J T.ga T.gg T.exC (PySem.W.findObj_own T.hdC hno rfl (by rw [hl, hu])) (handed_of ru) ⟨v, H1, I1.tok _, ru, q⟩
end EXW
set_option Elab.async false
set_option linter.all false
set_option maxRecDepth 100000
set_option maxHeartbeats 4000000
/-! d.update(e), both dicts by texts or numbers -/
namespace DU
open PySem PySem.Spec PyProof.Rows L2
def rUpd : V → List V → Hp → VK → Prop := fun x xs H Q => ∃ (d o : Addr) (kvs more : List (Key × V)), x = .ref d ∧ xs = [.ref o] ∧ d ≠ o ∧ H d = some (.dK kvs) ∧ H o = some (.dK more) ∧ kvs.length + more.length ≤ sizeLine ∧ Q .non (upd H d (.dK (mergeK kvs more)))
theorem putK_len (kvs : List (Key × V)) (k : Key) (v : V) : (putK kvs k v).length ≤ kvs.length + 1 := by
  unfold putK
  split
  · rw [List.length_map]; omega
  · rw [List.length_append]; exact Nat.le_refl _
theorem mergeK_len : ∀ (more kvs : List (Key × V)), (mergeK kvs more).length ≤ kvs.length + more.length
  | [], kvs => Nat.le_refl _
  | p :: more, kvs => by
    have ih := mergeK_len more (putK kvs p.1 p.2)
    have h := putK_len kvs p.1 p.2
    show (mergeK (putK kvs p.1 p.2) more).length ≤ _
    rw [List.length_cons]
    omega
theorem mt_upd {X : Cx} : MtR X "dict.update" rUpd := by
  intro pins s σ H x xs v us Q I rx rxs h
  obtain ⟨d, o, kvs, more, rfl, rfl, ne, hd, ho, hz, q⟩ := h
  cases rx
  obtain ⟨u, rfl, ru⟩ := rxs.one
  cases ru
  obtain ⟨l1, s1, vs, kv1, D1⟩ := I.hok d _ hd
  obtain ⟨l2, s2, ws, kv2, D2⟩ := I.hok o _ ho
  have e1 : vs.length = kvs.length := (Paired.length kv1).symm
  have e2 : ws.length = more.length := (Paired.length kv2).symm
  have T := D1.typeIs
  refine call_meetsIn PySem.F.slot_dict_update T PySem.F.entry_dict_update (PySem.F.args_dict_update_2 _ _) (meets_dict_update (mixKind X.prog X.w) d o ne s2) ⟨vs, ws, D1, D2, by omega, fun h' D1' D2' same => ?_⟩
  have J := I.write (t' := s.toks) (x := d) (e := d) (o := .dK (mergeK kvs more)) (by rw [hd]; exact True.intro) (.inl rfl) (fun b u hb e => (same.2 b hb).trans e) (by obtain ⟨ob, es, ep, e, _⟩ := D1'; exact ⟨ob, e⟩) ⟨Nat.le_trans (mergeK_len more kvs) hz, s1, _, KV.merge kv2 kv1, D1'⟩
  exact ⟨.non, _, J, rfl, q⟩
end DU
set_option Elab.async false
set_option linter.all false
set_option maxRecDepth 100000
set_option maxHeartbeats 4000000
/-! a walk over zip of two lists of one length -/
namespace ZL
open PySem PySem.Spec PyProof.Rows L2
theorem walk_zipL {K : PySem.W.Frag} {a b : Addr} {xs ys : List V} (hl : ys.length = xs.length) : Walk (Itz K a b) xs.length (fun H => SqL K H a xs ∧ SqL K H b ys) (fun i H v H' => ∃ T x y, v = .ref T ∧ H T = none ∧ H' = upd H T (.tup [x, y]) ∧ xs[i]? = some x ∧ ys[i]? = some y) where
  goes := fun i H hi ⟨hx, hy⟩ => ⟨xs, ys, _, _, hx, hy, List.getElem?_eq_getElem hi, List.getElem?_eq_getElem (by omega)⟩
  yields := fun i H x H' hi ⟨hx, hy⟩ ⟨T, x', y', e1, e2, e3, f1, f2⟩ => ⟨T, x', y', e1, e2, e3, f1 xs hx, f2 ys hy⟩
  stops := fun H ⟨hx, hy⟩ => ⟨xs, ys, hx, hy, .inl (Nat.le_refl _)⟩
end ZL
set_option Elab.async false
set_option linter.all false
set_option maxRecDepth 100000
set_option maxHeartbeats 4000000
namespace K01
open PySem PySem.Spec PyProof.Rows L2
open C8 (Cal Mak Met pe_c pe_mk pe_mt pe_mt0)
open EXV (Xc)
open EXW (Dct)
theorem take_one {α : Type} {l : List α} {i : Nat} {x : α} (h : l[i]? = some x) : l.take (i + 1) = l.take i ++ [x] := by rw [List.take_succ, h]; rfl
theorem line_of {n : Nat} (h : n ≤ 100000) : n ≤ sizeLine := by have := sizeLine_eq; omega
theorem line_lt {n : Nat} (h : n ≤ 100000) : n < sizeLine := by have := sizeLine_eq; omega
/-- the own classes of refusals, the classes above them, the words -/
abbrev ex16 : List Str := [("NoKind" : Str), ("Nought" : Str), ("NoShare" : Str), ("Uneven" : Str), ("BadName" : Str), ("NoNumber" : Str), ("NoRide" : Str), ("NoText" : Str), ("NoName" : Str), ("NoDay" : Str), ("NoSeats" : Str), ("TooMany" : Str), ("Taken" : Str), ("NoRule" : Str), ("NothingDone" : Str), ("NoRow" : Str)]
abbrev ex10 : List String := ["TypeError", "ZeroDivisionError", "ArithmeticError", "ValueError", "KeyError", "LookupError", "IndexError", "OverflowError", "RuntimeError", "NotImplementedError"]
abbrev kw16 : List Str := [("kind" : Str), ("nought" : Str), ("share" : Str), ("uneven" : Str), ("badname" : Str), ("number" : Str), ("ride" : Str), ("text" : Str), ("name" : Str), ("day" : Str), ("seats" : Str), ("many" : Str), ("taken" : Str), ("rule" : Str), ("done" : Str), ("row" : Str)]
/-- what is known of a refusal's class D: which of the sixteen it is (ow), which of the ten stand above it (ab) -/
structure Ex (K : PySem.W.Frag) (mg : Str → Option Value) (D : Addr) (ow : Str → Bool) (ab : String → Bool) : Prop where
  gl : ∀ x ∈ ex16, mg x = some (.ref (He.ga K x))
  bt : ∀ x ∈ ex10, mg (Str.ofString x) = none
  xc : ExcC K D
  ko : ∀ x ∈ ex16, PySem.W.kitOne K (.ref D) (.ref (He.ga K x)) = some (ow x)
  kb : ∀ x ∈ ex10, PySem.W.kitOne K (.ref D) (.type x) = some (ab x)
section
variable {P : Program} {w : World} {K : PySem.W.Frag} {mg : Str → Option Value} {base : Heap} {f C CT D : Addr} {fd : FuncData} {ow : Str → Bool} {ab : String → Bool}
theorem isO {a : Addr} {d : Option Addr} {H : Hp} {x : Str} {Q : VK} (T : Ex K mg D ow ab) (ha : H a = some (Xc (.ref D) d a)) (hd : Dct H d) (hx : x ∈ ex16) (q : Q (.bl (ow x)) H) : EXW.rIsK K [.ref a, .ref (He.ga K x)] H Q :=
  ⟨a, D, d, _, _, _, rfl, ha, hd, T.xc, fun u r => by cases r; rfl, T.ko x hx, q⟩
theorem isB {a : Addr} {d : Option Addr} {H : Hp} {x : String} {Q : VK} (T : Ex K mg D ow ab) (ha : H a = some (Xc (.ref D) d a)) (hd : Dct H d) (hx : x ∈ ex10) (q : Q (.bl (ab x)) H) : EXW.rIsK K [.ref a, .ty x] H Q :=
  ⟨a, D, d, _, _, _, rfl, ha, hd, T.xc, fun u r => by cases r; rfl, T.kb x hx, q⟩
theorem dct_same {H H' : Hp} {d : Option Addr} (h : Dct H d) (s : Same H H') : Dct H' d := by
  rcases h with h | ⟨dd, fs, e, h⟩
  · exact .inl h
  · exact .inr ⟨dd, fs, e, s _ _ h⟩
/-- the words of what it is -/
def fnd (ow : Str → Bool) : List Str := ((kw16.zip (ex16.map ow)).filter (·.2)).map (·.1)
theorem split16 : Txt.split "kind nought share uneven badname number ride text name day seats many taken rule done row" " " = kw16 := by decide +kernel
def spKi (D : Addr) (ow : Str → Bool) (ab : String → Bool) : Sp := fun vs H Q _ => ∃ (a : Addr) (d : Option Addr), vs = [.ref a] ∧ H a = some (Xc (.ref D) d a) ∧ Dct H d ∧
  ∀ (t l m : Addr) (H' : Hp), Same H H' → H t = none → H' t = some (.tup [.ref l, .ref m]) → H' l = some (.lst ((fnd ow).map V.str)) → H' m = some (.lst (ex10.map fun x => V.bl (ab x))) → Q (.ref t) H'
theorem ok_ki (F : Dn K d_l_kinds f fd) (b : Bl mg) (bz : mg "zip" = none) (T : Ex K mg D ow ab) : FnOk P w K mg base CX0 1 f fd ["_law_error"] (spKi D ow ab) := by
  refine F.ok sc_l_kinds (fun vs H Q E h => ?_) (fun cdv A outer s H vs Q E hr h => ?_)
  · obtain ⟨a, d, rfl, _⟩ := h
    rfl
  · obtain ⟨a, d, rfl, ha, hd, hQ⟩ := h
    refine ⟨_, PSs.nox (pss_cons (ps_set (i := 1) sc_l_kinds.nd rfl (.inl rfl) (pe_lst (pa_cons (pe_callB (r := EXW.rIsK K) EXW.call_isK rfl b.isi boot_isinstance (pa_cons (pv 0) (pa_cons (pe_glob (v := .ref (He.ga K "NoKind")) rfl (T.gl "NoKind" (by decide +kernel)) rfl) pa_nil))) (pa_cons (pe_callB (r := EXW.rIsK K) EXW.call_isK rfl b.isi boot_isinstance (pa_cons (pv 0) (pa_cons (pe_glob (v := .ref (He.ga K "Nought")) rfl (T.gl "Nought" (by decide +kernel)) rfl) pa_nil))) (pa_cons (pe_callB (r := EXW.rIsK K) EXW.call_isK rfl b.isi boot_isinstance (pa_cons (pv 0) (pa_cons (pe_glob (v := .ref (He.ga K "NoShare")) rfl (T.gl "NoShare" (by decide +kernel)) rfl) pa_nil))) (pa_cons (pe_callB (r := EXW.rIsK K) EXW.call_isK rfl b.isi boot_isinstance (pa_cons (pv 0) (pa_cons (pe_glob (v := .ref (He.ga K "Uneven")) rfl (T.gl "Uneven" (by decide +kernel)) rfl) pa_nil))) pa_nil))))))
      (pss_cons (ps_set (i := 1) sc_l_kinds.nd rfl (.inl rfl) (pe_op op_cat (pv 1) (pe_lst (pa_cons (pe_callB (r := EXW.rIsK K) EXW.call_isK rfl b.isi boot_isinstance (pa_cons (pv 0) (pa_cons (pe_glob (v := .ref (He.ga K "BadName")) rfl (T.gl "BadName" (by decide +kernel)) rfl) pa_nil))) (pa_cons (pe_callB (r := EXW.rIsK K) EXW.call_isK rfl b.isi boot_isinstance (pa_cons (pv 0) (pa_cons (pe_glob (v := .ref (He.ga K "NoNumber")) rfl (T.gl "NoNumber" (by decide +kernel)) rfl) pa_nil))) (pa_cons (pe_callB (r := EXW.rIsK K) EXW.call_isK rfl b.isi boot_isinstance (pa_cons (pv 0) (pa_cons (pe_glob (v := .ref (He.ga K "NoRide")) rfl (T.gl "NoRide" (by decide +kernel)) rfl) pa_nil))) pa_nil))))))
      (pss_cons (ps_set (i := 1) sc_l_kinds.nd rfl (.inl rfl) (pe_op op_cat (pv 1) (pe_lst (pa_cons (pe_callB (r := EXW.rIsK K) EXW.call_isK rfl b.isi boot_isinstance (pa_cons (pv 0) (pa_cons (pe_glob (v := .ref (He.ga K "NoText")) rfl (T.gl "NoText" (by decide +kernel)) rfl) pa_nil))) (pa_cons (pe_callB (r := EXW.rIsK K) EXW.call_isK rfl b.isi boot_isinstance (pa_cons (pv 0) (pa_cons (pe_glob (v := .ref (He.ga K "NoName")) rfl (T.gl "NoName" (by decide +kernel)) rfl) pa_nil))) (pa_cons (pe_callB (r := EXW.rIsK K) EXW.call_isK rfl b.isi boot_isinstance (pa_cons (pv 0) (pa_cons (pe_glob (v := .ref (He.ga K "NoDay")) rfl (T.gl "NoDay" (by decide +kernel)) rfl) pa_nil))) pa_nil))))))
      (pss_cons (ps_set (i := 1) sc_l_kinds.nd rfl (.inl rfl) (pe_op op_cat (pv 1) (pe_lst (pa_cons (pe_callB (r := EXW.rIsK K) EXW.call_isK rfl b.isi boot_isinstance (pa_cons (pv 0) (pa_cons (pe_glob (v := .ref (He.ga K "NoSeats")) rfl (T.gl "NoSeats" (by decide +kernel)) rfl) pa_nil))) (pa_cons (pe_callB (r := EXW.rIsK K) EXW.call_isK rfl b.isi boot_isinstance (pa_cons (pv 0) (pa_cons (pe_glob (v := .ref (He.ga K "TooMany")) rfl (T.gl "TooMany" (by decide +kernel)) rfl) pa_nil))) (pa_cons (pe_callB (r := EXW.rIsK K) EXW.call_isK rfl b.isi boot_isinstance (pa_cons (pv 0) (pa_cons (pe_glob (v := .ref (He.ga K "Taken")) rfl (T.gl "Taken" (by decide +kernel)) rfl) pa_nil))) pa_nil))))))
      (pss_cons (ps_set (i := 1) sc_l_kinds.nd rfl (.inl rfl) (pe_op op_cat (pv 1) (pe_lst (pa_cons (pe_callB (r := EXW.rIsK K) EXW.call_isK rfl b.isi boot_isinstance (pa_cons (pv 0) (pa_cons (pe_glob (v := .ref (He.ga K "NoRule")) rfl (T.gl "NoRule" (by decide +kernel)) rfl) pa_nil))) (pa_cons (pe_callB (r := EXW.rIsK K) EXW.call_isK rfl b.isi boot_isinstance (pa_cons (pv 0) (pa_cons (pe_glob (v := .ref (He.ga K "NothingDone")) rfl (T.gl "NothingDone" (by decide +kernel)) rfl) pa_nil))) (pa_cons (pe_callB (r := EXW.rIsK K) EXW.call_isK rfl b.isi boot_isinstance (pa_cons (pv 0) (pa_cons (pe_glob (v := .ref (He.ga K "NoRow")) rfl (T.gl "NoRow" (by decide +kernel)) rfl) pa_nil))) pa_nil))))))
      (pss_cons (ps_set (i := 2) sc_l_kinds.nd rfl (.inl rfl) (pe_bm PySem.F.plainAttrs_str PySem.F.slot_str_split PySem.F.type_str_split mt_split pe_str (pa_cons pe_str pa_nil)))
      (pss_cons (ps_setLc (i := 3) (own := [("_law_word", 5), ("_law_so", 6)]) (g := gTup K 2 (gCons (gName 5) (gCons (gName 6) gNil))) rfl sc_l_kinds.nd rfl rfl (sw_true rfl rfl rfl (by decide +kernel)) (RZ.pi_zipA rfl bz (pa_cons (pv 2) (pa_cons (pv 1) pa_nil))) (blkOk_by (N := N_l_kinds) (sc := defScope s_l_kinds) (by decide +kernel))
          (fun _ _ _ _ _ => pg_tup rfl (pgs_cons (pg_name (i := 5) sc_l_kinds.nd rfl (.inl rfl)) (pgs_cons (pg_name (i := 6) sc_l_kinds.nd rfl (.inl rfl)) pgs_nil))) (fun _ _ _ _ _ => pts_one (pt_val (pv 6))) (fun _ _ _ _ _ => pv 5))
      (pss_cons (ps_set (i := 4) sc_l_kinds.nd rfl (.inl rfl) (pe_lst (pa_cons (pe_callB (r := EXW.rIsK K) EXW.call_isK rfl b.isi boot_isinstance (pa_cons (pv 0) (pa_cons (pe_bltn (v := .ty "TypeError") rfl (T.bt "TypeError" (by decide +kernel)) PyProof.Rows.Boot.«TypeError» rfl) pa_nil))) (pa_cons (pe_callB (r := EXW.rIsK K) EXW.call_isK rfl b.isi boot_isinstance (pa_cons (pv 0) (pa_cons (pe_bltn (v := .ty "ZeroDivisionError") rfl (T.bt "ZeroDivisionError" (by decide +kernel)) PyProof.Rows.Boot.«ZeroDivisionError» rfl) pa_nil))) (pa_cons (pe_callB (r := EXW.rIsK K) EXW.call_isK rfl b.isi boot_isinstance (pa_cons (pv 0) (pa_cons (pe_bltn (v := .ty "ArithmeticError") rfl (T.bt "ArithmeticError" (by decide +kernel)) PyProof.Rows.Boot.«ArithmeticError» rfl) pa_nil))) pa_nil)))))
      (pss_cons (ps_set (i := 4) sc_l_kinds.nd rfl (.inl rfl) (pe_op op_cat (pv 4) (pe_lst (pa_cons (pe_callB (r := EXW.rIsK K) EXW.call_isK rfl b.isi boot_isinstance (pa_cons (pv 0) (pa_cons (pe_bltn (v := .ty "ValueError") rfl (T.bt "ValueError" (by decide +kernel)) PyProof.Rows.Boot.«ValueError» rfl) pa_nil))) (pa_cons (pe_callB (r := EXW.rIsK K) EXW.call_isK rfl b.isi boot_isinstance (pa_cons (pv 0) (pa_cons (pe_bltn (v := .ty "KeyError") rfl (T.bt "KeyError" (by decide +kernel)) PyProof.Rows.Boot.«KeyError» rfl) pa_nil))) (pa_cons (pe_callB (r := EXW.rIsK K) EXW.call_isK rfl b.isi boot_isinstance (pa_cons (pv 0) (pa_cons (pe_bltn (v := .ty "LookupError") rfl (T.bt "LookupError" (by decide +kernel)) PyProof.Rows.Boot.«LookupError» rfl) pa_nil))) pa_nil))))))
      (pss_cons (ps_set (i := 4) sc_l_kinds.nd rfl (.inl rfl) (pe_op op_cat (pv 4) (pe_lst (pa_cons (pe_callB (r := EXW.rIsK K) EXW.call_isK rfl b.isi boot_isinstance (pa_cons (pv 0) (pa_cons (pe_bltn (v := .ty "IndexError") rfl (T.bt "IndexError" (by decide +kernel)) PyProof.Rows.Boot.«IndexError» rfl) pa_nil))) (pa_cons (pe_callB (r := EXW.rIsK K) EXW.call_isK rfl b.isi boot_isinstance (pa_cons (pv 0) (pa_cons (pe_bltn (v := .ty "OverflowError") rfl (T.bt "OverflowError" (by decide +kernel)) PyProof.Rows.Boot.«OverflowError» rfl) pa_nil))) (pa_cons (pe_callB (r := EXW.rIsK K) EXW.call_isK rfl b.isi boot_isinstance (pa_cons (pv 0) (pa_cons (pe_bltn (v := .ty "RuntimeError") rfl (T.bt "RuntimeError" (by decide +kernel)) PyProof.Rows.Boot.«RuntimeError» rfl) pa_nil))) pa_nil))))))
      (pss_one (ps_ret (pe_tup (pa_cons (pv 3) (pa_cons (pe_op op_cat (pv 4) (pe_lst (pa_cons (pe_callB (r := EXW.rIsK K) EXW.call_isK rfl b.isi boot_isinstance (pa_cons (pv 0) (pa_cons (pe_bltn (v := .ty "NotImplementedError") rfl (T.bt "NotImplementedError" (by decide +kernel)) PyProof.Rows.Boot.«NotImplementedError» rfl) pa_nil))) pa_nil))) pa_nil))))))))))))))), ?_⟩
    refine ⟨_, rfl, a, D, d, _, _, _, rfl, ha, hd, T.xc, fun u r => (by cases r; rfl), T.ko "NoKind" (by decide +kernel), ?_⟩
    refine ⟨_, rfl, a, D, d, _, _, _, rfl, ha, hd, T.xc, fun u r => (by cases r; rfl), T.ko "Nought" (by decide +kernel), ?_⟩
    refine ⟨_, rfl, a, D, d, _, _, _, rfl, ha, hd, T.xc, fun u r => (by cases r; rfl), T.ko "NoShare" (by decide +kernel), ?_⟩
    refine ⟨_, rfl, a, D, d, _, _, _, rfl, ha, hd, T.xc, fun u r => (by cases r; rfl), T.ko "Uneven" (by decide +kernel), ?_⟩
    refine ⟨by show 4 ≤ sizeLine; decide, fun p1 f1 => ?_⟩
    have s1 := same_new (o := .lst [V.bl (ow "NoKind"), V.bl (ow "Nought"), V.bl (ow "NoShare"), V.bl (ow "Uneven")]) f1
    have ha := s1 _ _ ha
    have hd := dct_same hd s1
    have hl : _ = some (HO.lst [V.bl (ow "NoKind"), V.bl (ow "Nought"), V.bl (ow "NoShare"), V.bl (ow "Uneven")]) := (upd_same : (upd H p1 (.lst [V.bl (ow "NoKind"), V.bl (ow "Nought"), V.bl (ow "NoShare"), V.bl (ow "Uneven")])) p1 = _)
    generalize upd H p1 (.lst [V.bl (ow "NoKind"), V.bl (ow "Nought"), V.bl (ow "NoShare"), V.bl (ow "Uneven")]) = G1 at s1 ha hd hl ⊢
    have sm := s1
    refine ⟨_, rfl, _, rfl, a, D, d, _, _, _, rfl, ha, hd, T.xc, fun u r => (by cases r; rfl), T.ko "BadName" (by decide +kernel), ?_⟩
    refine ⟨_, rfl, a, D, d, _, _, _, rfl, ha, hd, T.xc, fun u r => (by cases r; rfl), T.ko "NoNumber" (by decide +kernel), ?_⟩
    refine ⟨_, rfl, a, D, d, _, _, _, rfl, ha, hd, T.xc, fun u r => (by cases r; rfl), T.ko "NoRide" (by decide +kernel), ?_⟩
    refine ⟨by show 3 ≤ sizeLine; decide, fun p2 f2 => ?_⟩
    have s2 := same_new (o := .lst [V.bl (ow "BadName"), V.bl (ow "NoNumber"), V.bl (ow "NoRide")]) f2
    have ha := s2 _ _ ha
    have hd := dct_same hd s2
    have hl2 := s2 _ _ hl
    have hm2 : (upd G1 p2 (.lst [V.bl (ow "BadName"), V.bl (ow "NoNumber"), V.bl (ow "NoRide")])) p2 = some (.lst [V.bl (ow "BadName"), V.bl (ow "NoNumber"), V.bl (ow "NoRide")]) := upd_same
    have sm2 := sm.trans s2
    generalize upd G1 p2 (.lst [V.bl (ow "BadName"), V.bl (ow "NoNumber"), V.bl (ow "NoRide")]) = G2 at sm2 ha hd hl2 hm2 ⊢
    refine ⟨p1, p2, _, _, rfl, rfl, hl2, hm2, by show 7 ≤ sizeLine; decide, fun p3 f3 => ?_⟩
    have s3 := same_new (o := .lst [V.bl (ow "NoKind"), V.bl (ow "Nought"), V.bl (ow "NoShare"), V.bl (ow "Uneven"), V.bl (ow "BadName"), V.bl (ow "NoNumber"), V.bl (ow "NoRide")]) f3
    have ha := s3 _ _ ha
    have hd := dct_same hd s3
    have hl : (upd G2 p3 (.lst [V.bl (ow "NoKind"), V.bl (ow "Nought"), V.bl (ow "NoShare"), V.bl (ow "Uneven"), V.bl (ow "BadName"), V.bl (ow "NoNumber"), V.bl (ow "NoRide")])) p3 = some (.lst [V.bl (ow "NoKind"), V.bl (ow "Nought"), V.bl (ow "NoShare"), V.bl (ow "Uneven"), V.bl (ow "BadName"), V.bl (ow "NoNumber"), V.bl (ow "NoRide")]) := upd_same
    have sm := sm2.trans s3
    replace hl : (upd G2 p3 _) p3 = some (.lst [V.bl (ow "NoKind"), V.bl (ow "Nought"), V.bl (ow "NoShare"), V.bl (ow "Uneven"), V.bl (ow "BadName"), V.bl (ow "NoNumber"), V.bl (ow "NoRide")]) := hl
    dsimp only [List.cons_append, List.nil_append] at *
    generalize upd G2 p3 (.lst [V.bl (ow "NoKind"), V.bl (ow "Nought"), V.bl (ow "NoShare"), V.bl (ow "Uneven"), V.bl (ow "BadName"), V.bl (ow "NoNumber"), V.bl (ow "NoRide")]) = G3 at sm ha hd hl ⊢
    clear hl2 hm2 sm2
    refine ⟨_, rfl, _, rfl, a, D, d, _, _, _, rfl, ha, hd, T.xc, fun u r => (by cases r; rfl), T.ko "NoText" (by decide +kernel), ?_⟩
    refine ⟨_, rfl, a, D, d, _, _, _, rfl, ha, hd, T.xc, fun u r => (by cases r; rfl), T.ko "NoName" (by decide +kernel), ?_⟩
    refine ⟨_, rfl, a, D, d, _, _, _, rfl, ha, hd, T.xc, fun u r => (by cases r; rfl), T.ko "NoDay" (by decide +kernel), ?_⟩
    refine ⟨by show 3 ≤ sizeLine; decide, fun p4 f4 => ?_⟩
    have s4 := same_new (o := .lst [V.bl (ow "NoText"), V.bl (ow "NoName"), V.bl (ow "NoDay")]) f4
    have ha := s4 _ _ ha
    have hd := dct_same hd s4
    have hl2 := s4 _ _ hl
    have hm2 : (upd G3 p4 (.lst [V.bl (ow "NoText"), V.bl (ow "NoName"), V.bl (ow "NoDay")])) p4 = some (.lst [V.bl (ow "NoText"), V.bl (ow "NoName"), V.bl (ow "NoDay")]) := upd_same
    have sm2 := sm.trans s4
    generalize upd G3 p4 (.lst [V.bl (ow "NoText"), V.bl (ow "NoName"), V.bl (ow "NoDay")]) = G4 at sm2 ha hd hl2 hm2 ⊢
    refine ⟨p3, p4, _, _, rfl, rfl, hl2, hm2, by show 10 ≤ sizeLine; decide, fun p5 f5 => ?_⟩
    have s5 := same_new (o := .lst [V.bl (ow "NoKind"), V.bl (ow "Nought"), V.bl (ow "NoShare"), V.bl (ow "Uneven"), V.bl (ow "BadName"), V.bl (ow "NoNumber"), V.bl (ow "NoRide"), V.bl (ow "NoText"), V.bl (ow "NoName"), V.bl (ow "NoDay")]) f5
    have ha := s5 _ _ ha
    have hd := dct_same hd s5
    have hl : (upd G4 p5 (.lst [V.bl (ow "NoKind"), V.bl (ow "Nought"), V.bl (ow "NoShare"), V.bl (ow "Uneven"), V.bl (ow "BadName"), V.bl (ow "NoNumber"), V.bl (ow "NoRide"), V.bl (ow "NoText"), V.bl (ow "NoName"), V.bl (ow "NoDay")])) p5 = some (.lst [V.bl (ow "NoKind"), V.bl (ow "Nought"), V.bl (ow "NoShare"), V.bl (ow "Uneven"), V.bl (ow "BadName"), V.bl (ow "NoNumber"), V.bl (ow "NoRide"), V.bl (ow "NoText"), V.bl (ow "NoName"), V.bl (ow "NoDay")]) := upd_same
    have sm := sm2.trans s5
    replace hl : (upd G4 p5 _) p5 = some (.lst [V.bl (ow "NoKind"), V.bl (ow "Nought"), V.bl (ow "NoShare"), V.bl (ow "Uneven"), V.bl (ow "BadName"), V.bl (ow "NoNumber"), V.bl (ow "NoRide"), V.bl (ow "NoText"), V.bl (ow "NoName"), V.bl (ow "NoDay")]) := hl
    dsimp only [List.cons_append, List.nil_append] at *
    generalize upd G4 p5 (.lst [V.bl (ow "NoKind"), V.bl (ow "Nought"), V.bl (ow "NoShare"), V.bl (ow "Uneven"), V.bl (ow "BadName"), V.bl (ow "NoNumber"), V.bl (ow "NoRide"), V.bl (ow "NoText"), V.bl (ow "NoName"), V.bl (ow "NoDay")]) = G5 at sm ha hd hl ⊢
    clear hl2 hm2 sm2
    refine ⟨_, rfl, _, rfl, a, D, d, _, _, _, rfl, ha, hd, T.xc, fun u r => (by cases r; rfl), T.ko "NoSeats" (by decide +kernel), ?_⟩
    refine ⟨_, rfl, a, D, d, _, _, _, rfl, ha, hd, T.xc, fun u r => (by cases r; rfl), T.ko "TooMany" (by decide +kernel), ?_⟩
    refine ⟨_, rfl, a, D, d, _, _, _, rfl, ha, hd, T.xc, fun u r => (by cases r; rfl), T.ko "Taken" (by decide +kernel), ?_⟩
    refine ⟨by show 3 ≤ sizeLine; decide, fun p6 f6 => ?_⟩
    have s6 := same_new (o := .lst [V.bl (ow "NoSeats"), V.bl (ow "TooMany"), V.bl (ow "Taken")]) f6
    have ha := s6 _ _ ha
    have hd := dct_same hd s6
    have hl2 := s6 _ _ hl
    have hm2 : (upd G5 p6 (.lst [V.bl (ow "NoSeats"), V.bl (ow "TooMany"), V.bl (ow "Taken")])) p6 = some (.lst [V.bl (ow "NoSeats"), V.bl (ow "TooMany"), V.bl (ow "Taken")]) := upd_same
    have sm2 := sm.trans s6
    generalize upd G5 p6 (.lst [V.bl (ow "NoSeats"), V.bl (ow "TooMany"), V.bl (ow "Taken")]) = G6 at sm2 ha hd hl2 hm2 ⊢
    refine ⟨p5, p6, _, _, rfl, rfl, hl2, hm2, by show 13 ≤ sizeLine; decide, fun p7 f7 => ?_⟩
    have s7 := same_new (o := .lst [V.bl (ow "NoKind"), V.bl (ow "Nought"), V.bl (ow "NoShare"), V.bl (ow "Uneven"), V.bl (ow "BadName"), V.bl (ow "NoNumber"), V.bl (ow "NoRide"), V.bl (ow "NoText"), V.bl (ow "NoName"), V.bl (ow "NoDay"), V.bl (ow "NoSeats"), V.bl (ow "TooMany"), V.bl (ow "Taken")]) f7
    have ha := s7 _ _ ha
    have hd := dct_same hd s7
    have hl : (upd G6 p7 (.lst [V.bl (ow "NoKind"), V.bl (ow "Nought"), V.bl (ow "NoShare"), V.bl (ow "Uneven"), V.bl (ow "BadName"), V.bl (ow "NoNumber"), V.bl (ow "NoRide"), V.bl (ow "NoText"), V.bl (ow "NoName"), V.bl (ow "NoDay"), V.bl (ow "NoSeats"), V.bl (ow "TooMany"), V.bl (ow "Taken")])) p7 = some (.lst [V.bl (ow "NoKind"), V.bl (ow "Nought"), V.bl (ow "NoShare"), V.bl (ow "Uneven"), V.bl (ow "BadName"), V.bl (ow "NoNumber"), V.bl (ow "NoRide"), V.bl (ow "NoText"), V.bl (ow "NoName"), V.bl (ow "NoDay"), V.bl (ow "NoSeats"), V.bl (ow "TooMany"), V.bl (ow "Taken")]) := upd_same
    have sm := sm2.trans s7
    replace hl : (upd G6 p7 _) p7 = some (.lst [V.bl (ow "NoKind"), V.bl (ow "Nought"), V.bl (ow "NoShare"), V.bl (ow "Uneven"), V.bl (ow "BadName"), V.bl (ow "NoNumber"), V.bl (ow "NoRide"), V.bl (ow "NoText"), V.bl (ow "NoName"), V.bl (ow "NoDay"), V.bl (ow "NoSeats"), V.bl (ow "TooMany"), V.bl (ow "Taken")]) := hl
    dsimp only [List.cons_append, List.nil_append] at *
    generalize upd G6 p7 (.lst [V.bl (ow "NoKind"), V.bl (ow "Nought"), V.bl (ow "NoShare"), V.bl (ow "Uneven"), V.bl (ow "BadName"), V.bl (ow "NoNumber"), V.bl (ow "NoRide"), V.bl (ow "NoText"), V.bl (ow "NoName"), V.bl (ow "NoDay"), V.bl (ow "NoSeats"), V.bl (ow "TooMany"), V.bl (ow "Taken")]) = G7 at sm ha hd hl ⊢
    clear hl2 hm2 sm2
    refine ⟨_, rfl, _, rfl, a, D, d, _, _, _, rfl, ha, hd, T.xc, fun u r => (by cases r; rfl), T.ko "NoRule" (by decide +kernel), ?_⟩
    refine ⟨_, rfl, a, D, d, _, _, _, rfl, ha, hd, T.xc, fun u r => (by cases r; rfl), T.ko "NothingDone" (by decide +kernel), ?_⟩
    refine ⟨_, rfl, a, D, d, _, _, _, rfl, ha, hd, T.xc, fun u r => (by cases r; rfl), T.ko "NoRow" (by decide +kernel), ?_⟩
    refine ⟨by show 3 ≤ sizeLine; decide, fun p8 f8 => ?_⟩
    have s8 := same_new (o := .lst [V.bl (ow "NoRule"), V.bl (ow "NothingDone"), V.bl (ow "NoRow")]) f8
    have ha := s8 _ _ ha
    have hd := dct_same hd s8
    have hl2 := s8 _ _ hl
    have hm2 : (upd G7 p8 (.lst [V.bl (ow "NoRule"), V.bl (ow "NothingDone"), V.bl (ow "NoRow")])) p8 = some (.lst [V.bl (ow "NoRule"), V.bl (ow "NothingDone"), V.bl (ow "NoRow")]) := upd_same
    have sm2 := sm.trans s8
    generalize upd G7 p8 (.lst [V.bl (ow "NoRule"), V.bl (ow "NothingDone"), V.bl (ow "NoRow")]) = G8 at sm2 ha hd hl2 hm2 ⊢
    refine ⟨p7, p8, _, _, rfl, rfl, hl2, hm2, by show 16 ≤ sizeLine; decide, fun p9 f9 => ?_⟩
    have s9 := same_new (o := .lst [V.bl (ow "NoKind"), V.bl (ow "Nought"), V.bl (ow "NoShare"), V.bl (ow "Uneven"), V.bl (ow "BadName"), V.bl (ow "NoNumber"), V.bl (ow "NoRide"), V.bl (ow "NoText"), V.bl (ow "NoName"), V.bl (ow "NoDay"), V.bl (ow "NoSeats"), V.bl (ow "TooMany"), V.bl (ow "Taken"), V.bl (ow "NoRule"), V.bl (ow "NothingDone"), V.bl (ow "NoRow")]) f9
    have ha := s9 _ _ ha
    have hd := dct_same hd s9
    have hl : (upd G8 p9 (.lst [V.bl (ow "NoKind"), V.bl (ow "Nought"), V.bl (ow "NoShare"), V.bl (ow "Uneven"), V.bl (ow "BadName"), V.bl (ow "NoNumber"), V.bl (ow "NoRide"), V.bl (ow "NoText"), V.bl (ow "NoName"), V.bl (ow "NoDay"), V.bl (ow "NoSeats"), V.bl (ow "TooMany"), V.bl (ow "Taken"), V.bl (ow "NoRule"), V.bl (ow "NothingDone"), V.bl (ow "NoRow")])) p9 = some (.lst [V.bl (ow "NoKind"), V.bl (ow "Nought"), V.bl (ow "NoShare"), V.bl (ow "Uneven"), V.bl (ow "BadName"), V.bl (ow "NoNumber"), V.bl (ow "NoRide"), V.bl (ow "NoText"), V.bl (ow "NoName"), V.bl (ow "NoDay"), V.bl (ow "NoSeats"), V.bl (ow "TooMany"), V.bl (ow "Taken"), V.bl (ow "NoRule"), V.bl (ow "NothingDone"), V.bl (ow "NoRow")]) := upd_same
    have sm := sm2.trans s9
    replace hl : (upd G8 p9 _) p9 = some (.lst [V.bl (ow "NoKind"), V.bl (ow "Nought"), V.bl (ow "NoShare"), V.bl (ow "Uneven"), V.bl (ow "BadName"), V.bl (ow "NoNumber"), V.bl (ow "NoRide"), V.bl (ow "NoText"), V.bl (ow "NoName"), V.bl (ow "NoDay"), V.bl (ow "NoSeats"), V.bl (ow "TooMany"), V.bl (ow "Taken"), V.bl (ow "NoRule"), V.bl (ow "NothingDone"), V.bl (ow "NoRow")]) := hl
    dsimp only [List.cons_append, List.nil_append] at *
    generalize upd G8 p9 (.lst [V.bl (ow "NoKind"), V.bl (ow "Nought"), V.bl (ow "NoShare"), V.bl (ow "Uneven"), V.bl (ow "BadName"), V.bl (ow "NoNumber"), V.bl (ow "NoRide"), V.bl (ow "NoText"), V.bl (ow "NoName"), V.bl (ow "NoDay"), V.bl (ow "NoSeats"), V.bl (ow "TooMany"), V.bl (ow "Taken"), V.bl (ow "NoRule"), V.bl (ow "NothingDone"), V.bl (ow "NoRow")]) = G9 at sm ha hd hl ⊢
    clear hl2 hm2 sm2
    have hl : G9 p9 = some (.lst ((ex16.map ow).map V.bl)) := hl
    refine ⟨rfl, _, _, rfl, rfl, by decide +kernel, by decide +kernel, fun wl fw => ?_⟩
    rw [split16]
    have sw := same_new (o := .lst (kw16.map V.str)) fw
    have hw : (upd G9 wl (.lst (kw16.map V.str))) wl = some (.lst (kw16.map V.str)) := upd_same
    have hl := sw _ _ hl
    have ha := sw _ _ ha
    have hd := dct_same hd sw
    have sm := sm.trans sw
    generalize upd G9 wl (.lst (kw16.map V.str)) = J1 at sm ha hd hl hw ⊢
    clear sw
    refine ⟨_, rfl, _, rfl, wl, p9, _, _, rfl, .inl ⟨SqL.of hw, SqL.of hl, fun D1 hD1 => lc_it (ZL.walk_zipL (by rfl)) (fun i H' => H' D1 = some (.lst ((((kw16.zip (ex16.map ow)).take i).filter (·.2)).map fun q => V.str q.1)) ∧ Same J1 H') ⟨upd_same, same_new hD1⟩ (fun i H' _ z => ⟨SqL.of (z.2 _ _ hw), SqL.of (z.2 _ _ hl)⟩) ?_ ?_⟩⟩
    · rintro i v H2 H3 hi ⟨hdd, s2⟩ ⟨Tp, x, y, rfl, hT, rfl, hx, hy⟩
      rw [List.getElem?_map] at hx hy
      obtain ⟨z, hz, rfl⟩ := Option.map_eq_some_iff.mp hx
      obtain ⟨c, hc, rfl⟩ := Option.map_eq_some_iff.mp hy
      have hzc : (kw16.zip (ex16.map ow))[i]? = some (z, c) := by
        rw [List.getElem?_zip_eq_some]
        exact ⟨hz, hc⟩
      have sT := same_new (o := .tup [V.str z, V.bl c]) hT
      have hdd3 := sT _ _ hdd
      refine ⟨Tp, _, rfl, SqT.of upd_same, rfl, _, _, rfl, _, _, rfl, rfl, rfl, ?_⟩
      have i16 : i < 16 := hi
      refine ⟨_, rfl, c, rfl, ?_⟩
      cases c with
      | true =>
        refine iteT ⟨_, rfl, _, hdd3, ?_, ?_, ?_⟩
        · rw [List.length_map]
          refine line_lt (Nat.le_trans (List.length_filter_le _ _) ?_)
          rw [List.length_take]
          omega
        · rw [upd_same, take_one hzc, List.filter_append, List.map_append]
          rfl
        · intro b o e
          rw [upd_ne (ne_of_none e hD1)]
          exact sT _ _ (s2 _ _ e)
      | false =>
        refine iteF ⟨?_, s2.trans sT⟩
        rw [take_one hzc, List.filter_append, show ([(z, false)] : List (Str × Bool)).filter (·.2) = [] from rfl, List.append_nil]
        exact hdd3
    rintro J2 ⟨hfd, s2⟩
    have hfd : J2 D1 = some (.lst ((fnd ow).map V.str)) := by
      rw [hfd]
      unfold fnd
      rw [List.map_map]
      rfl
    have ha := s2 _ _ ha
    have hd := dct_same hd s2
    have sm := sm.trans s2
    clear s2
    refine ⟨_, rfl, a, D, d, _, _, _, rfl, ha, hd, T.xc, fun u r => (by cases r; rfl), T.kb "TypeError" (by decide +kernel), ?_⟩
    refine ⟨_, rfl, a, D, d, _, _, _, rfl, ha, hd, T.xc, fun u r => (by cases r; rfl), T.kb "ZeroDivisionError" (by decide +kernel), ?_⟩
    refine ⟨_, rfl, a, D, d, _, _, _, rfl, ha, hd, T.xc, fun u r => (by cases r; rfl), T.kb "ArithmeticError" (by decide +kernel), ?_⟩
    refine ⟨by show 3 ≤ sizeLine; decide, fun p10 f10 => ?_⟩
    have s10 := same_new (o := .lst [V.bl (ab "TypeError"), V.bl (ab "ZeroDivisionError"), V.bl (ab "ArithmeticError")]) f10
    have ha := s10 _ _ ha
    have hd := dct_same hd s10
    have hfd := s10 _ _ hfd
    have hl : (upd J2 p10 (.lst [V.bl (ab "TypeError"), V.bl (ab "ZeroDivisionError"), V.bl (ab "ArithmeticError")])) p10 = some (.lst [V.bl (ab "TypeError"), V.bl (ab "ZeroDivisionError"), V.bl (ab "ArithmeticError")]) := upd_same
    have sm := sm.trans s10
    generalize upd J2 p10 (.lst [V.bl (ab "TypeError"), V.bl (ab "ZeroDivisionError"), V.bl (ab "ArithmeticError")]) = G10 at sm ha hd hl hfd ⊢
    clear s10
    refine ⟨_, rfl, _, rfl, a, D, d, _, _, _, rfl, ha, hd, T.xc, fun u r => (by cases r; rfl), T.kb "ValueError" (by decide +kernel), ?_⟩
    refine ⟨_, rfl, a, D, d, _, _, _, rfl, ha, hd, T.xc, fun u r => (by cases r; rfl), T.kb "KeyError" (by decide +kernel), ?_⟩
    refine ⟨_, rfl, a, D, d, _, _, _, rfl, ha, hd, T.xc, fun u r => (by cases r; rfl), T.kb "LookupError" (by decide +kernel), ?_⟩
    refine ⟨by show 3 ≤ sizeLine; decide, fun p11 f11 => ?_⟩
    have s11 := same_new (o := .lst [V.bl (ab "ValueError"), V.bl (ab "KeyError"), V.bl (ab "LookupError")]) f11
    have ha := s11 _ _ ha
    have hd := dct_same hd s11
    have hfd := s11 _ _ hfd
    have hl2 := s11 _ _ hl
    have hm2 : (upd G10 p11 (.lst [V.bl (ab "ValueError"), V.bl (ab "KeyError"), V.bl (ab "LookupError")])) p11 = some (.lst [V.bl (ab "ValueError"), V.bl (ab "KeyError"), V.bl (ab "LookupError")]) := upd_same
    have sm2 := sm.trans s11
    generalize upd G10 p11 (.lst [V.bl (ab "ValueError"), V.bl (ab "KeyError"), V.bl (ab "LookupError")]) = G11 at sm2 ha hd hl2 hm2 hfd ⊢
    clear s11
    refine ⟨p10, p11, _, _, rfl, rfl, hl2, hm2, by show 6 ≤ sizeLine; decide, fun p12 f12 => ?_⟩
    have s12 := same_new (o := .lst [V.bl (ab "TypeError"), V.bl (ab "ZeroDivisionError"), V.bl (ab "ArithmeticError"), V.bl (ab "ValueError"), V.bl (ab "KeyError"), V.bl (ab "LookupError")]) f12
    have ha := s12 _ _ ha
    have hd := dct_same hd s12
    have hfd := s12 _ _ hfd
    have hl : (upd G11 p12 (.lst [V.bl (ab "TypeError"), V.bl (ab "ZeroDivisionError"), V.bl (ab "ArithmeticError"), V.bl (ab "ValueError"), V.bl (ab "KeyError"), V.bl (ab "LookupError")])) p12 = some (.lst [V.bl (ab "TypeError"), V.bl (ab "ZeroDivisionError"), V.bl (ab "ArithmeticError"), V.bl (ab "ValueError"), V.bl (ab "KeyError"), V.bl (ab "LookupError")]) := upd_same
    have sm := sm2.trans s12
    dsimp only [List.cons_append, List.nil_append] at *
    generalize upd G11 p12 (.lst [V.bl (ab "TypeError"), V.bl (ab "ZeroDivisionError"), V.bl (ab "ArithmeticError"), V.bl (ab "ValueError"), V.bl (ab "KeyError"), V.bl (ab "LookupError")]) = G12 at sm ha hd hl hfd ⊢
    clear hl2 hm2 sm2 s12
    refine ⟨_, rfl, _, rfl, a, D, d, _, _, _, rfl, ha, hd, T.xc, fun u r => (by cases r; rfl), T.kb "IndexError" (by decide +kernel), ?_⟩
    refine ⟨_, rfl, a, D, d, _, _, _, rfl, ha, hd, T.xc, fun u r => (by cases r; rfl), T.kb "OverflowError" (by decide +kernel), ?_⟩
    refine ⟨_, rfl, a, D, d, _, _, _, rfl, ha, hd, T.xc, fun u r => (by cases r; rfl), T.kb "RuntimeError" (by decide +kernel), ?_⟩
    refine ⟨by show 3 ≤ sizeLine; decide, fun p13 f13 => ?_⟩
    have s13 := same_new (o := .lst [V.bl (ab "IndexError"), V.bl (ab "OverflowError"), V.bl (ab "RuntimeError")]) f13
    have ha := s13 _ _ ha
    have hd := dct_same hd s13
    have hfd := s13 _ _ hfd
    have hl2 := s13 _ _ hl
    have hm2 : (upd G12 p13 (.lst [V.bl (ab "IndexError"), V.bl (ab "OverflowError"), V.bl (ab "RuntimeError")])) p13 = some (.lst [V.bl (ab "IndexError"), V.bl (ab "OverflowError"), V.bl (ab "RuntimeError")]) := upd_same
    have sm2 := sm.trans s13
    generalize upd G12 p13 (.lst [V.bl (ab "IndexError"), V.bl (ab "OverflowError"), V.bl (ab "RuntimeError")]) = G13 at sm2 ha hd hl2 hm2 hfd ⊢
    clear s13
    refine ⟨p12, p13, _, _, rfl, rfl, hl2, hm2, by show 9 ≤ sizeLine; decide, fun p14 f14 => ?_⟩
    have s14 := same_new (o := .lst [V.bl (ab "TypeError"), V.bl (ab "ZeroDivisionError"), V.bl (ab "ArithmeticError"), V.bl (ab "ValueError"), V.bl (ab "KeyError"), V.bl (ab "LookupError"), V.bl (ab "IndexError"), V.bl (ab "OverflowError"), V.bl (ab "RuntimeError")]) f14
    have ha := s14 _ _ ha
    have hd := dct_same hd s14
    have hfd := s14 _ _ hfd
    have hl : (upd G13 p14 (.lst [V.bl (ab "TypeError"), V.bl (ab "ZeroDivisionError"), V.bl (ab "ArithmeticError"), V.bl (ab "ValueError"), V.bl (ab "KeyError"), V.bl (ab "LookupError"), V.bl (ab "IndexError"), V.bl (ab "OverflowError"), V.bl (ab "RuntimeError")])) p14 = some (.lst [V.bl (ab "TypeError"), V.bl (ab "ZeroDivisionError"), V.bl (ab "ArithmeticError"), V.bl (ab "ValueError"), V.bl (ab "KeyError"), V.bl (ab "LookupError"), V.bl (ab "IndexError"), V.bl (ab "OverflowError"), V.bl (ab "RuntimeError")]) := upd_same
    have sm := sm2.trans s14
    dsimp only [List.cons_append, List.nil_append] at *
    generalize upd G13 p14 (.lst [V.bl (ab "TypeError"), V.bl (ab "ZeroDivisionError"), V.bl (ab "ArithmeticError"), V.bl (ab "ValueError"), V.bl (ab "KeyError"), V.bl (ab "LookupError"), V.bl (ab "IndexError"), V.bl (ab "OverflowError"), V.bl (ab "RuntimeError")]) = G14 at sm ha hd hl hfd ⊢
    clear hl2 hm2 sm2 s14
    refine ⟨_, rfl, _, rfl, _, rfl, a, D, d, _, _, _, rfl, ha, hd, T.xc, fun u r => (by cases r; rfl), T.kb "NotImplementedError" (by decide +kernel), by show 1 ≤ sizeLine; decide, fun pz fz => ?_⟩
    have sz := same_new (o := .lst [V.bl (ab "NotImplementedError")]) fz
    refine ⟨p14, pz, _, _, rfl, rfl, sz _ _ hl, upd_same, by show 10 ≤ sizeLine; decide, fun m fm => ?_⟩
    have hm : (upd (upd G14 pz (.lst [V.bl (ab "NotImplementedError")])) m (.lst (ex10.map fun x => V.bl (ab x)))) m = some (.lst (ex10.map fun x => V.bl (ab x))) := upd_same
    have sm3 := same_new (o := .lst (ex10.map fun x => V.bl (ab x))) fm
    refine ⟨by show 2 ≤ sizeLine; decide, fun t ft => ?_⟩
    have st := same_new (o := .tup [.ref D1, .ref m]) ft
    have sall := (sm.trans sz).trans sm3
    exact hQ t D1 m _ (sall.trans st) (sall.free ft) upd_same (st _ _ (sm3 _ _ (sz _ _ hfd))) (st _ _ hm)
end
end K01
set_option Elab.async false
set_option linter.all false
set_option maxRecDepth 100000
set_option maxHeartbeats 4000000
namespace K01
open PySem PySem.Spec PyProof.Rows L2
open C8 (Cal Mak Met pe_c pe_mk pe_mt pe_mt0)
section
variable {P : Program} {w : World} {K : PySem.W.Frag} {mg : Str → Option Value} {base : Heap} {f C CT D : Addr} {fd : FuncData}
def plc : List (Str × List Int) := [("kind", [0]), ("nought", [1, 2]), ("share", [2]), ("uneven", [2]), ("name", [4, 5]), ("day", [5]), ("seats", [5, 6]), ("many", [2, 7]), ("taken", [8]), ("rule", [8, 9]), ("done", []), ("row", [])]
/-- which of the ten stand above, by the word -/
def abv (l : List Int) (i : Nat) : Bool := inV (.int (i : Int)) (l.map V.int)
def spBa : Sp := fun vs H Q _ => ∃ (wd : Str) (l : List Int), vs = [.str wd] ∧ (wd, l) ∈ plc ∧ ∀ (t : Addr) (H' : Hp), Same H H' → H t = none → H' t = some (.lst ((List.range 10).map fun i => V.bl (abv l i))) → Q (.ref t) H'
theorem ok_ba (F : Dn K d_l_bases f fd) (b : Bl mg) : FnOk P w K mg base CX0 1 f fd ["_law_word"] spBa := by
  refine F.ok sc_l_bases (fun vs H Q E h => ?_) (fun cdv A outer s H vs Q E hr h => ?_)
  · obtain ⟨wd, l, rfl, _⟩ := h
    rfl
  · obtain ⟨wd, l, rfl, hw, hQ⟩ := h
    have hu : (A.deeper (envOfC d_l_bases.qual d_l_bases.scope s.heap.objs.size f cdv)).units + 1 < cLine := hu_of hr
    refine ⟨_, PSs.nox (pss_cons (ps_set (i := 1) sc_l_bases.nd rfl (.inr rfl) (pe_disp (pps_cons pe_str (pe_lst (pa_cons pe_int pa_nil)) (pps_cons pe_str (pe_lst (pa_cons pe_int (pa_cons pe_int pa_nil))) (pps_cons pe_str (pe_lst (pa_cons pe_int pa_nil)) (pps_cons pe_str (pe_lst (pa_cons pe_int pa_nil)) (pps_cons pe_str (pe_lst (pa_cons pe_int (pa_cons pe_int pa_nil))) (pps_cons pe_str (pe_lst (pa_cons pe_int pa_nil)) (pps_cons pe_str (pe_lst (pa_cons pe_int (pa_cons pe_int pa_nil))) pps_nil))))))) rfl rfl (List.cons_ne_nil _ _) (by decide)))
      (pss_cons (ps_expr (pe_bm PySem.F.plainAttrs_dict PySem.F.slot_dict_update PySem.F.type_dict_update DU.mt_upd (pv 1) (pa_cons (pe_disp (pps_cons pe_str (pe_lst (pa_cons pe_int (pa_cons pe_int pa_nil))) (pps_cons pe_str (pe_lst (pa_cons pe_int pa_nil)) (pps_cons pe_str (pe_lst (pa_cons pe_int (pa_cons pe_int pa_nil))) (pps_cons pe_str (pe_lst pa_nil) (pps_cons pe_str (pe_lst pa_nil) pps_nil))))) rfl rfl (List.cons_ne_nil _ _) (by decide)) pa_nil)))
      (pss_one (ps_ret (pe_lc (own := [("_law_k", 2)]) (g := gName 2) (tt := tYes) rfl sc_l_bases.nd (pi_range1 rfl b.range (pa_cons pe_int pa_nil)) (blkOk_by (N := N_l_bases) (sc := defScope s_l_bases) (by decide +kernel))
          (fun _ _ _ _ _ => pg_name (i := 2) sc_l_bases.nd rfl (Or.inl rfl)) (fun _ _ _ _ _ => pts_nil) (fun _ _ _ _ _ => pe_cmpR (r := rIn K false) op_in_seq (pv 2) (pe_dget2 hu (pv 1) (pv 0) (pe_lst (pa_cons pe_int pa_nil)) ⟨rfl, rfl, rfl, rfl⟩) (by rfl))))))), ?_⟩
    have sm := Same.refl H
    intro p1 fp1
    have sp := same_new (o := .dK []) fp1
    have ep1 : (upd H p1 (.dK [])) p1 = some (.dK []) := upd_same
    have sm := sm.trans sp
    generalize upd H p1 (.dK []) = Jp1 at sm ep1 ⊢
    clear sp
    refine ⟨by show 1 ≤ sizeLine; decide, fun q1 g1 => ?_⟩
    have sp := same_new (o := .lst [.int 0]) g1
    have h1 : (upd Jp1 q1 (.lst [.int 0])) q1 = some (.lst [.int 0]) := upd_same
    have ep1 := sp _ _ ep1
    have sm := sm.trans sp
    generalize upd Jp1 q1 (.lst [.int 0]) = J1 at sm ep1 h1 ⊢
    clear sp
    refine ⟨by show 2 ≤ sizeLine; decide, fun q2 g2 => ?_⟩
    have sp := same_new (o := .lst [.int 1, .int 2]) g2
    have h2 : (upd J1 q2 (.lst [.int 1, .int 2])) q2 = some (.lst [.int 1, .int 2]) := upd_same
    have ep1 := sp _ _ ep1
    have h1 := sp _ _ h1
    have sm := sm.trans sp
    generalize upd J1 q2 (.lst [.int 1, .int 2]) = J2 at sm ep1 h1 h2 ⊢
    clear sp
    refine ⟨by show 1 ≤ sizeLine; decide, fun q3 g3 => ?_⟩
    have sp := same_new (o := .lst [.int 2]) g3
    have h3 : (upd J2 q3 (.lst [.int 2])) q3 = some (.lst [.int 2]) := upd_same
    have ep1 := sp _ _ ep1
    have h1 := sp _ _ h1
    have h2 := sp _ _ h2
    have sm := sm.trans sp
    generalize upd J2 q3 (.lst [.int 2]) = J3 at sm ep1 h1 h2 h3 ⊢
    clear sp
    refine ⟨by show 1 ≤ sizeLine; decide, fun q4 g4 => ?_⟩
    have sp := same_new (o := .lst [.int 2]) g4
    have h4 : (upd J3 q4 (.lst [.int 2])) q4 = some (.lst [.int 2]) := upd_same
    have ep1 := sp _ _ ep1
    have h1 := sp _ _ h1
    have h2 := sp _ _ h2
    have h3 := sp _ _ h3
    have sm := sm.trans sp
    generalize upd J3 q4 (.lst [.int 2]) = J4 at sm ep1 h1 h2 h3 h4 ⊢
    clear sp
    refine ⟨by show 2 ≤ sizeLine; decide, fun q5 g5 => ?_⟩
    have sp := same_new (o := .lst [.int 4, .int 5]) g5
    have h5 : (upd J4 q5 (.lst [.int 4, .int 5])) q5 = some (.lst [.int 4, .int 5]) := upd_same
    have ep1 := sp _ _ ep1
    have h1 := sp _ _ h1
    have h2 := sp _ _ h2
    have h3 := sp _ _ h3
    have h4 := sp _ _ h4
    have sm := sm.trans sp
    generalize upd J4 q5 (.lst [.int 4, .int 5]) = J5 at sm ep1 h1 h2 h3 h4 h5 ⊢
    clear sp
    refine ⟨by show 1 ≤ sizeLine; decide, fun q6 g6 => ?_⟩
    have sp := same_new (o := .lst [.int 5]) g6
    have h6 : (upd J5 q6 (.lst [.int 5])) q6 = some (.lst [.int 5]) := upd_same
    have ep1 := sp _ _ ep1
    have h1 := sp _ _ h1
    have h2 := sp _ _ h2
    have h3 := sp _ _ h3
    have h4 := sp _ _ h4
    have h5 := sp _ _ h5
    have sm := sm.trans sp
    generalize upd J5 q6 (.lst [.int 5]) = J6 at sm ep1 h1 h2 h3 h4 h5 h6 ⊢
    clear sp
    refine ⟨by show 2 ≤ sizeLine; decide, fun q7 g7 => ?_⟩
    have sp := same_new (o := .lst [.int 5, .int 6]) g7
    have h7 : (upd J6 q7 (.lst [.int 5, .int 6])) q7 = some (.lst [.int 5, .int 6]) := upd_same
    have ep1 := sp _ _ ep1
    have h1 := sp _ _ h1
    have h2 := sp _ _ h2
    have h3 := sp _ _ h3
    have h4 := sp _ _ h4
    have h5 := sp _ _ h5
    have h6 := sp _ _ h6
    have sm := sm.trans sp
    generalize upd J6 q7 (.lst [.int 5, .int 6]) = J7 at sm ep1 h1 h2 h3 h4 h5 h6 h7 ⊢
    clear sp
    have np1 : H p1 = none := fp1
    refine ⟨ep1, [((Sum.inr "kind" : Key), V.ref q1), ((Sum.inr "nought" : Key), V.ref q2), ((Sum.inr "share" : Key), V.ref q3), ((Sum.inr "uneven" : Key), V.ref q4), ((Sum.inr "name" : Key), V.ref q5), ((Sum.inr "day" : Key), V.ref q6), ((Sum.inr "seats" : Key), V.ref q7)], rfl, (show 7 ≤ 15 by decide), ?_⟩
    have ne1 : ∀ {b : Addr} {ys : List V}, J7 b = some (.lst ys) → b ≠ p1 := fun e z => by rw [z, ep1] at e; cases e
    have h1 : (upd J7 p1 (.dK (mergeK [] [((Sum.inr "kind" : Key), V.ref q1), ((Sum.inr "nought" : Key), V.ref q2), ((Sum.inr "share" : Key), V.ref q3), ((Sum.inr "uneven" : Key), V.ref q4), ((Sum.inr "name" : Key), V.ref q5), ((Sum.inr "day" : Key), V.ref q6), ((Sum.inr "seats" : Key), V.ref q7)]))) q1 = some (.lst [.int 0]) := by rw [upd_ne (ne1 h1)]; exact h1
    have h2 : (upd J7 p1 (.dK (mergeK [] [((Sum.inr "kind" : Key), V.ref q1), ((Sum.inr "nought" : Key), V.ref q2), ((Sum.inr "share" : Key), V.ref q3), ((Sum.inr "uneven" : Key), V.ref q4), ((Sum.inr "name" : Key), V.ref q5), ((Sum.inr "day" : Key), V.ref q6), ((Sum.inr "seats" : Key), V.ref q7)]))) q2 = some (.lst [.int 1, .int 2]) := by rw [upd_ne (ne1 h2)]; exact h2
    have h3 : (upd J7 p1 (.dK (mergeK [] [((Sum.inr "kind" : Key), V.ref q1), ((Sum.inr "nought" : Key), V.ref q2), ((Sum.inr "share" : Key), V.ref q3), ((Sum.inr "uneven" : Key), V.ref q4), ((Sum.inr "name" : Key), V.ref q5), ((Sum.inr "day" : Key), V.ref q6), ((Sum.inr "seats" : Key), V.ref q7)]))) q3 = some (.lst [.int 2]) := by rw [upd_ne (ne1 h3)]; exact h3
    have h4 : (upd J7 p1 (.dK (mergeK [] [((Sum.inr "kind" : Key), V.ref q1), ((Sum.inr "nought" : Key), V.ref q2), ((Sum.inr "share" : Key), V.ref q3), ((Sum.inr "uneven" : Key), V.ref q4), ((Sum.inr "name" : Key), V.ref q5), ((Sum.inr "day" : Key), V.ref q6), ((Sum.inr "seats" : Key), V.ref q7)]))) q4 = some (.lst [.int 2]) := by rw [upd_ne (ne1 h4)]; exact h4
    have h5 : (upd J7 p1 (.dK (mergeK [] [((Sum.inr "kind" : Key), V.ref q1), ((Sum.inr "nought" : Key), V.ref q2), ((Sum.inr "share" : Key), V.ref q3), ((Sum.inr "uneven" : Key), V.ref q4), ((Sum.inr "name" : Key), V.ref q5), ((Sum.inr "day" : Key), V.ref q6), ((Sum.inr "seats" : Key), V.ref q7)]))) q5 = some (.lst [.int 4, .int 5]) := by rw [upd_ne (ne1 h5)]; exact h5
    have h6 : (upd J7 p1 (.dK (mergeK [] [((Sum.inr "kind" : Key), V.ref q1), ((Sum.inr "nought" : Key), V.ref q2), ((Sum.inr "share" : Key), V.ref q3), ((Sum.inr "uneven" : Key), V.ref q4), ((Sum.inr "name" : Key), V.ref q5), ((Sum.inr "day" : Key), V.ref q6), ((Sum.inr "seats" : Key), V.ref q7)]))) q6 = some (.lst [.int 5]) := by rw [upd_ne (ne1 h6)]; exact h6
    have h7 : (upd J7 p1 (.dK (mergeK [] [((Sum.inr "kind" : Key), V.ref q1), ((Sum.inr "nought" : Key), V.ref q2), ((Sum.inr "share" : Key), V.ref q3), ((Sum.inr "uneven" : Key), V.ref q4), ((Sum.inr "name" : Key), V.ref q5), ((Sum.inr "day" : Key), V.ref q6), ((Sum.inr "seats" : Key), V.ref q7)]))) q7 = some (.lst [.int 5, .int 6]) := by rw [upd_ne (ne1 h7)]; exact h7
    have hp1 : (upd J7 p1 (.dK (mergeK [] [((Sum.inr "kind" : Key), V.ref q1), ((Sum.inr "nought" : Key), V.ref q2), ((Sum.inr "share" : Key), V.ref q3), ((Sum.inr "uneven" : Key), V.ref q4), ((Sum.inr "name" : Key), V.ref q5), ((Sum.inr "day" : Key), V.ref q6), ((Sum.inr "seats" : Key), V.ref q7)]))) p1 = some (.dK (mergeK [] [((Sum.inr "kind" : Key), V.ref q1), ((Sum.inr "nought" : Key), V.ref q2), ((Sum.inr "share" : Key), V.ref q3), ((Sum.inr "uneven" : Key), V.ref q4), ((Sum.inr "name" : Key), V.ref q5), ((Sum.inr "day" : Key), V.ref q6), ((Sum.inr "seats" : Key), V.ref q7)])) := upd_same
    have sm2 : Same H (upd J7 p1 (.dK (mergeK [] [((Sum.inr "kind" : Key), V.ref q1), ((Sum.inr "nought" : Key), V.ref q2), ((Sum.inr "share" : Key), V.ref q3), ((Sum.inr "uneven" : Key), V.ref q4), ((Sum.inr "name" : Key), V.ref q5), ((Sum.inr "day" : Key), V.ref q6), ((Sum.inr "seats" : Key), V.ref q7)]))) := fun b o e => by rw [upd_ne (ne_of_none e np1)]; exact sm _ _ e
    clear ne1 ep1 sm
    have sm := sm2
    clear sm2
    generalize upd J7 p1 (.dK (mergeK [] [((Sum.inr "kind" : Key), V.ref q1), ((Sum.inr "nought" : Key), V.ref q2), ((Sum.inr "share" : Key), V.ref q3), ((Sum.inr "uneven" : Key), V.ref q4), ((Sum.inr "name" : Key), V.ref q5), ((Sum.inr "day" : Key), V.ref q6), ((Sum.inr "seats" : Key), V.ref q7)])) = Ja at sm hp1 h1 h2 h3 h4 h5 h6 h7 ⊢
    have smJ := sm
    have hp1J := hp1
    refine ⟨_, rfl, .inr (.inr (.inl ⟨rfl, .inl ⟨_, hp1⟩⟩)), fun p2 fp2 => ?_⟩
    have sp := same_new (o := .dK []) fp2
    have ep2 : (upd Ja p2 (.dK [])) p2 = some (.dK []) := upd_same
    have h1 := sp _ _ h1
    have h2 := sp _ _ h2
    have h3 := sp _ _ h3
    have h4 := sp _ _ h4
    have h5 := sp _ _ h5
    have h6 := sp _ _ h6
    have h7 := sp _ _ h7
    have hp1 := sp _ _ hp1
    have sm := sm.trans sp
    generalize upd Ja p2 (.dK []) = Jp2 at sm h1 h2 h3 h4 h5 h6 h7 hp1 ep2 ⊢
    clear sp
    refine ⟨by show 2 ≤ sizeLine; decide, fun q8 g8 => ?_⟩
    have sp := same_new (o := .lst [.int 2, .int 7]) g8
    have h8 : (upd Jp2 q8 (.lst [.int 2, .int 7])) q8 = some (.lst [.int 2, .int 7]) := upd_same
    have h1 := sp _ _ h1
    have h2 := sp _ _ h2
    have h3 := sp _ _ h3
    have h4 := sp _ _ h4
    have h5 := sp _ _ h5
    have h6 := sp _ _ h6
    have h7 := sp _ _ h7
    have hp1 := sp _ _ hp1
    have ep2 := sp _ _ ep2
    have sm := sm.trans sp
    generalize upd Jp2 q8 (.lst [.int 2, .int 7]) = J8 at sm h1 h2 h3 h4 h5 h6 h7 hp1 ep2 h8 ⊢
    clear sp
    refine ⟨by show 1 ≤ sizeLine; decide, fun q9 g9 => ?_⟩
    have sp := same_new (o := .lst [.int 8]) g9
    have h9 : (upd J8 q9 (.lst [.int 8])) q9 = some (.lst [.int 8]) := upd_same
    have h1 := sp _ _ h1
    have h2 := sp _ _ h2
    have h3 := sp _ _ h3
    have h4 := sp _ _ h4
    have h5 := sp _ _ h5
    have h6 := sp _ _ h6
    have h7 := sp _ _ h7
    have hp1 := sp _ _ hp1
    have ep2 := sp _ _ ep2
    have h8 := sp _ _ h8
    have sm := sm.trans sp
    generalize upd J8 q9 (.lst [.int 8]) = J9 at sm h1 h2 h3 h4 h5 h6 h7 hp1 ep2 h8 h9 ⊢
    clear sp
    refine ⟨by show 2 ≤ sizeLine; decide, fun q10 g10 => ?_⟩
    have sp := same_new (o := .lst [.int 8, .int 9]) g10
    have h10 : (upd J9 q10 (.lst [.int 8, .int 9])) q10 = some (.lst [.int 8, .int 9]) := upd_same
    have h1 := sp _ _ h1
    have h2 := sp _ _ h2
    have h3 := sp _ _ h3
    have h4 := sp _ _ h4
    have h5 := sp _ _ h5
    have h6 := sp _ _ h6
    have h7 := sp _ _ h7
    have hp1 := sp _ _ hp1
    have ep2 := sp _ _ ep2
    have h8 := sp _ _ h8
    have h9 := sp _ _ h9
    have sm := sm.trans sp
    generalize upd J9 q10 (.lst [.int 8, .int 9]) = J10 at sm h1 h2 h3 h4 h5 h6 h7 hp1 ep2 h8 h9 h10 ⊢
    clear sp
    refine ⟨by show 0 ≤ sizeLine; decide, fun q11 g11 => ?_⟩
    have sp := same_new (o := .lst []) g11
    have h11 : (upd J10 q11 (.lst [])) q11 = some (.lst []) := upd_same
    have h1 := sp _ _ h1
    have h2 := sp _ _ h2
    have h3 := sp _ _ h3
    have h4 := sp _ _ h4
    have h5 := sp _ _ h5
    have h6 := sp _ _ h6
    have h7 := sp _ _ h7
    have hp1 := sp _ _ hp1
    have ep2 := sp _ _ ep2
    have h8 := sp _ _ h8
    have h9 := sp _ _ h9
    have h10 := sp _ _ h10
    have sm := sm.trans sp
    generalize upd J10 q11 (.lst []) = J11 at sm h1 h2 h3 h4 h5 h6 h7 hp1 ep2 h8 h9 h10 h11 ⊢
    clear sp
    refine ⟨by show 0 ≤ sizeLine; decide, fun q12 g12 => ?_⟩
    have sp := same_new (o := .lst []) g12
    have h12 : (upd J11 q12 (.lst [])) q12 = some (.lst []) := upd_same
    have h1 := sp _ _ h1
    have h2 := sp _ _ h2
    have h3 := sp _ _ h3
    have h4 := sp _ _ h4
    have h5 := sp _ _ h5
    have h6 := sp _ _ h6
    have h7 := sp _ _ h7
    have hp1 := sp _ _ hp1
    have ep2 := sp _ _ ep2
    have h8 := sp _ _ h8
    have h9 := sp _ _ h9
    have h10 := sp _ _ h10
    have h11 := sp _ _ h11
    have sm := sm.trans sp
    generalize upd J11 q12 (.lst []) = J12 at sm h1 h2 h3 h4 h5 h6 h7 hp1 ep2 h8 h9 h10 h11 h12 ⊢
    clear sp
    have n12 : p1 ≠ p2 := ne_of_none hp1J fp2
    refine ⟨ep2, [((Sum.inr "many" : Key), V.ref q8), ((Sum.inr "taken" : Key), V.ref q9), ((Sum.inr "rule" : Key), V.ref q10), ((Sum.inr "done" : Key), V.ref q11), ((Sum.inr "row" : Key), V.ref q12)], rfl, (show 5 ≤ 15 by decide), ?_⟩
    have ne1 : ∀ {b : Addr} {ys : List V}, J12 b = some (.lst ys) → b ≠ p2 := fun e z => by rw [z, ep2] at e; cases e
    have np2 : H p2 = none := smJ.free fp2
    have h1 : (upd J12 p2 (.dK (mergeK [] [((Sum.inr "many" : Key), V.ref q8), ((Sum.inr "taken" : Key), V.ref q9), ((Sum.inr "rule" : Key), V.ref q10), ((Sum.inr "done" : Key), V.ref q11), ((Sum.inr "row" : Key), V.ref q12)]))) q1 = some (.lst [.int 0]) := by rw [upd_ne (ne1 h1)]; exact h1
    have h2 : (upd J12 p2 (.dK (mergeK [] [((Sum.inr "many" : Key), V.ref q8), ((Sum.inr "taken" : Key), V.ref q9), ((Sum.inr "rule" : Key), V.ref q10), ((Sum.inr "done" : Key), V.ref q11), ((Sum.inr "row" : Key), V.ref q12)]))) q2 = some (.lst [.int 1, .int 2]) := by rw [upd_ne (ne1 h2)]; exact h2
    have h3 : (upd J12 p2 (.dK (mergeK [] [((Sum.inr "many" : Key), V.ref q8), ((Sum.inr "taken" : Key), V.ref q9), ((Sum.inr "rule" : Key), V.ref q10), ((Sum.inr "done" : Key), V.ref q11), ((Sum.inr "row" : Key), V.ref q12)]))) q3 = some (.lst [.int 2]) := by rw [upd_ne (ne1 h3)]; exact h3
    have h4 : (upd J12 p2 (.dK (mergeK [] [((Sum.inr "many" : Key), V.ref q8), ((Sum.inr "taken" : Key), V.ref q9), ((Sum.inr "rule" : Key), V.ref q10), ((Sum.inr "done" : Key), V.ref q11), ((Sum.inr "row" : Key), V.ref q12)]))) q4 = some (.lst [.int 2]) := by rw [upd_ne (ne1 h4)]; exact h4
    have h5 : (upd J12 p2 (.dK (mergeK [] [((Sum.inr "many" : Key), V.ref q8), ((Sum.inr "taken" : Key), V.ref q9), ((Sum.inr "rule" : Key), V.ref q10), ((Sum.inr "done" : Key), V.ref q11), ((Sum.inr "row" : Key), V.ref q12)]))) q5 = some (.lst [.int 4, .int 5]) := by rw [upd_ne (ne1 h5)]; exact h5
    have h6 : (upd J12 p2 (.dK (mergeK [] [((Sum.inr "many" : Key), V.ref q8), ((Sum.inr "taken" : Key), V.ref q9), ((Sum.inr "rule" : Key), V.ref q10), ((Sum.inr "done" : Key), V.ref q11), ((Sum.inr "row" : Key), V.ref q12)]))) q6 = some (.lst [.int 5]) := by rw [upd_ne (ne1 h6)]; exact h6
    have h7 : (upd J12 p2 (.dK (mergeK [] [((Sum.inr "many" : Key), V.ref q8), ((Sum.inr "taken" : Key), V.ref q9), ((Sum.inr "rule" : Key), V.ref q10), ((Sum.inr "done" : Key), V.ref q11), ((Sum.inr "row" : Key), V.ref q12)]))) q7 = some (.lst [.int 5, .int 6]) := by rw [upd_ne (ne1 h7)]; exact h7
    have hp1 := (upd_ne n12 : (upd J12 p2 (.dK (mergeK [] [((Sum.inr "many" : Key), V.ref q8), ((Sum.inr "taken" : Key), V.ref q9), ((Sum.inr "rule" : Key), V.ref q10), ((Sum.inr "done" : Key), V.ref q11), ((Sum.inr "row" : Key), V.ref q12)]))) p1 = _).trans hp1
    have h8 : (upd J12 p2 (.dK (mergeK [] [((Sum.inr "many" : Key), V.ref q8), ((Sum.inr "taken" : Key), V.ref q9), ((Sum.inr "rule" : Key), V.ref q10), ((Sum.inr "done" : Key), V.ref q11), ((Sum.inr "row" : Key), V.ref q12)]))) q8 = some (.lst [.int 2, .int 7]) := by rw [upd_ne (ne1 h8)]; exact h8
    have h9 : (upd J12 p2 (.dK (mergeK [] [((Sum.inr "many" : Key), V.ref q8), ((Sum.inr "taken" : Key), V.ref q9), ((Sum.inr "rule" : Key), V.ref q10), ((Sum.inr "done" : Key), V.ref q11), ((Sum.inr "row" : Key), V.ref q12)]))) q9 = some (.lst [.int 8]) := by rw [upd_ne (ne1 h9)]; exact h9
    have h10 : (upd J12 p2 (.dK (mergeK [] [((Sum.inr "many" : Key), V.ref q8), ((Sum.inr "taken" : Key), V.ref q9), ((Sum.inr "rule" : Key), V.ref q10), ((Sum.inr "done" : Key), V.ref q11), ((Sum.inr "row" : Key), V.ref q12)]))) q10 = some (.lst [.int 8, .int 9]) := by rw [upd_ne (ne1 h10)]; exact h10
    have h11 : (upd J12 p2 (.dK (mergeK [] [((Sum.inr "many" : Key), V.ref q8), ((Sum.inr "taken" : Key), V.ref q9), ((Sum.inr "rule" : Key), V.ref q10), ((Sum.inr "done" : Key), V.ref q11), ((Sum.inr "row" : Key), V.ref q12)]))) q11 = some (.lst []) := by rw [upd_ne (ne1 h11)]; exact h11
    have h12 : (upd J12 p2 (.dK (mergeK [] [((Sum.inr "many" : Key), V.ref q8), ((Sum.inr "taken" : Key), V.ref q9), ((Sum.inr "rule" : Key), V.ref q10), ((Sum.inr "done" : Key), V.ref q11), ((Sum.inr "row" : Key), V.ref q12)]))) q12 = some (.lst []) := by rw [upd_ne (ne1 h12)]; exact h12
    have hp2 : (upd J12 p2 (.dK (mergeK [] [((Sum.inr "many" : Key), V.ref q8), ((Sum.inr "taken" : Key), V.ref q9), ((Sum.inr "rule" : Key), V.ref q10), ((Sum.inr "done" : Key), V.ref q11), ((Sum.inr "row" : Key), V.ref q12)]))) p2 = some (.dK (mergeK [] [((Sum.inr "many" : Key), V.ref q8), ((Sum.inr "taken" : Key), V.ref q9), ((Sum.inr "rule" : Key), V.ref q10), ((Sum.inr "done" : Key), V.ref q11), ((Sum.inr "row" : Key), V.ref q12)])) := upd_same
    have sm2 : Same H (upd J12 p2 (.dK (mergeK [] [((Sum.inr "many" : Key), V.ref q8), ((Sum.inr "taken" : Key), V.ref q9), ((Sum.inr "rule" : Key), V.ref q10), ((Sum.inr "done" : Key), V.ref q11), ((Sum.inr "row" : Key), V.ref q12)]))) := fun b o e => by rw [upd_ne (ne_of_none e np2)]; exact sm _ _ e
    clear ne1 ep2 sm
    have sm := sm2
    clear sm2
    generalize upd J12 p2 (.dK (mergeK [] [((Sum.inr "many" : Key), V.ref q8), ((Sum.inr "taken" : Key), V.ref q9), ((Sum.inr "rule" : Key), V.ref q10), ((Sum.inr "done" : Key), V.ref q11), ((Sum.inr "row" : Key), V.ref q12)])) = Jb at sm hp2 h1 h2 h3 h4 h5 h6 h7 hp1 h8 h9 h10 h11 h12 ⊢
    refine ⟨p1, p2, _, _, rfl, rfl, n12, hp1, hp2, Nat.le_trans (Nat.add_le_add (DU.mergeK_len _ _) (DU.mergeK_len _ _)) (line_of (by simp)), ?_⟩
    have ne1 : ∀ {b : Addr} {ys : List V}, Jb b = some (.lst ys) → b ≠ p1 := fun e z => by rw [z, hp1] at e; cases e
    have h1 : (upd Jb p1 (.dK (mergeK (mergeK [] [((Sum.inr "kind" : Key), V.ref q1), ((Sum.inr "nought" : Key), V.ref q2), ((Sum.inr "share" : Key), V.ref q3), ((Sum.inr "uneven" : Key), V.ref q4), ((Sum.inr "name" : Key), V.ref q5), ((Sum.inr "day" : Key), V.ref q6), ((Sum.inr "seats" : Key), V.ref q7)]) (mergeK [] [((Sum.inr "many" : Key), V.ref q8), ((Sum.inr "taken" : Key), V.ref q9), ((Sum.inr "rule" : Key), V.ref q10), ((Sum.inr "done" : Key), V.ref q11), ((Sum.inr "row" : Key), V.ref q12)])))) q1 = some (.lst [.int 0]) := by rw [upd_ne (ne1 h1)]; exact h1
    have h2 : (upd Jb p1 (.dK (mergeK (mergeK [] [((Sum.inr "kind" : Key), V.ref q1), ((Sum.inr "nought" : Key), V.ref q2), ((Sum.inr "share" : Key), V.ref q3), ((Sum.inr "uneven" : Key), V.ref q4), ((Sum.inr "name" : Key), V.ref q5), ((Sum.inr "day" : Key), V.ref q6), ((Sum.inr "seats" : Key), V.ref q7)]) (mergeK [] [((Sum.inr "many" : Key), V.ref q8), ((Sum.inr "taken" : Key), V.ref q9), ((Sum.inr "rule" : Key), V.ref q10), ((Sum.inr "done" : Key), V.ref q11), ((Sum.inr "row" : Key), V.ref q12)])))) q2 = some (.lst [.int 1, .int 2]) := by rw [upd_ne (ne1 h2)]; exact h2
    have h3 : (upd Jb p1 (.dK (mergeK (mergeK [] [((Sum.inr "kind" : Key), V.ref q1), ((Sum.inr "nought" : Key), V.ref q2), ((Sum.inr "share" : Key), V.ref q3), ((Sum.inr "uneven" : Key), V.ref q4), ((Sum.inr "name" : Key), V.ref q5), ((Sum.inr "day" : Key), V.ref q6), ((Sum.inr "seats" : Key), V.ref q7)]) (mergeK [] [((Sum.inr "many" : Key), V.ref q8), ((Sum.inr "taken" : Key), V.ref q9), ((Sum.inr "rule" : Key), V.ref q10), ((Sum.inr "done" : Key), V.ref q11), ((Sum.inr "row" : Key), V.ref q12)])))) q3 = some (.lst [.int 2]) := by rw [upd_ne (ne1 h3)]; exact h3
    have h4 : (upd Jb p1 (.dK (mergeK (mergeK [] [((Sum.inr "kind" : Key), V.ref q1), ((Sum.inr "nought" : Key), V.ref q2), ((Sum.inr "share" : Key), V.ref q3), ((Sum.inr "uneven" : Key), V.ref q4), ((Sum.inr "name" : Key), V.ref q5), ((Sum.inr "day" : Key), V.ref q6), ((Sum.inr "seats" : Key), V.ref q7)]) (mergeK [] [((Sum.inr "many" : Key), V.ref q8), ((Sum.inr "taken" : Key), V.ref q9), ((Sum.inr "rule" : Key), V.ref q10), ((Sum.inr "done" : Key), V.ref q11), ((Sum.inr "row" : Key), V.ref q12)])))) q4 = some (.lst [.int 2]) := by rw [upd_ne (ne1 h4)]; exact h4
    have h5 : (upd Jb p1 (.dK (mergeK (mergeK [] [((Sum.inr "kind" : Key), V.ref q1), ((Sum.inr "nought" : Key), V.ref q2), ((Sum.inr "share" : Key), V.ref q3), ((Sum.inr "uneven" : Key), V.ref q4), ((Sum.inr "name" : Key), V.ref q5), ((Sum.inr "day" : Key), V.ref q6), ((Sum.inr "seats" : Key), V.ref q7)]) (mergeK [] [((Sum.inr "many" : Key), V.ref q8), ((Sum.inr "taken" : Key), V.ref q9), ((Sum.inr "rule" : Key), V.ref q10), ((Sum.inr "done" : Key), V.ref q11), ((Sum.inr "row" : Key), V.ref q12)])))) q5 = some (.lst [.int 4, .int 5]) := by rw [upd_ne (ne1 h5)]; exact h5
    have h6 : (upd Jb p1 (.dK (mergeK (mergeK [] [((Sum.inr "kind" : Key), V.ref q1), ((Sum.inr "nought" : Key), V.ref q2), ((Sum.inr "share" : Key), V.ref q3), ((Sum.inr "uneven" : Key), V.ref q4), ((Sum.inr "name" : Key), V.ref q5), ((Sum.inr "day" : Key), V.ref q6), ((Sum.inr "seats" : Key), V.ref q7)]) (mergeK [] [((Sum.inr "many" : Key), V.ref q8), ((Sum.inr "taken" : Key), V.ref q9), ((Sum.inr "rule" : Key), V.ref q10), ((Sum.inr "done" : Key), V.ref q11), ((Sum.inr "row" : Key), V.ref q12)])))) q6 = some (.lst [.int 5]) := by rw [upd_ne (ne1 h6)]; exact h6
    have h7 : (upd Jb p1 (.dK (mergeK (mergeK [] [((Sum.inr "kind" : Key), V.ref q1), ((Sum.inr "nought" : Key), V.ref q2), ((Sum.inr "share" : Key), V.ref q3), ((Sum.inr "uneven" : Key), V.ref q4), ((Sum.inr "name" : Key), V.ref q5), ((Sum.inr "day" : Key), V.ref q6), ((Sum.inr "seats" : Key), V.ref q7)]) (mergeK [] [((Sum.inr "many" : Key), V.ref q8), ((Sum.inr "taken" : Key), V.ref q9), ((Sum.inr "rule" : Key), V.ref q10), ((Sum.inr "done" : Key), V.ref q11), ((Sum.inr "row" : Key), V.ref q12)])))) q7 = some (.lst [.int 5, .int 6]) := by rw [upd_ne (ne1 h7)]; exact h7
    have h8 : (upd Jb p1 (.dK (mergeK (mergeK [] [((Sum.inr "kind" : Key), V.ref q1), ((Sum.inr "nought" : Key), V.ref q2), ((Sum.inr "share" : Key), V.ref q3), ((Sum.inr "uneven" : Key), V.ref q4), ((Sum.inr "name" : Key), V.ref q5), ((Sum.inr "day" : Key), V.ref q6), ((Sum.inr "seats" : Key), V.ref q7)]) (mergeK [] [((Sum.inr "many" : Key), V.ref q8), ((Sum.inr "taken" : Key), V.ref q9), ((Sum.inr "rule" : Key), V.ref q10), ((Sum.inr "done" : Key), V.ref q11), ((Sum.inr "row" : Key), V.ref q12)])))) q8 = some (.lst [.int 2, .int 7]) := by rw [upd_ne (ne1 h8)]; exact h8
    have h9 : (upd Jb p1 (.dK (mergeK (mergeK [] [((Sum.inr "kind" : Key), V.ref q1), ((Sum.inr "nought" : Key), V.ref q2), ((Sum.inr "share" : Key), V.ref q3), ((Sum.inr "uneven" : Key), V.ref q4), ((Sum.inr "name" : Key), V.ref q5), ((Sum.inr "day" : Key), V.ref q6), ((Sum.inr "seats" : Key), V.ref q7)]) (mergeK [] [((Sum.inr "many" : Key), V.ref q8), ((Sum.inr "taken" : Key), V.ref q9), ((Sum.inr "rule" : Key), V.ref q10), ((Sum.inr "done" : Key), V.ref q11), ((Sum.inr "row" : Key), V.ref q12)])))) q9 = some (.lst [.int 8]) := by rw [upd_ne (ne1 h9)]; exact h9
    have h10 : (upd Jb p1 (.dK (mergeK (mergeK [] [((Sum.inr "kind" : Key), V.ref q1), ((Sum.inr "nought" : Key), V.ref q2), ((Sum.inr "share" : Key), V.ref q3), ((Sum.inr "uneven" : Key), V.ref q4), ((Sum.inr "name" : Key), V.ref q5), ((Sum.inr "day" : Key), V.ref q6), ((Sum.inr "seats" : Key), V.ref q7)]) (mergeK [] [((Sum.inr "many" : Key), V.ref q8), ((Sum.inr "taken" : Key), V.ref q9), ((Sum.inr "rule" : Key), V.ref q10), ((Sum.inr "done" : Key), V.ref q11), ((Sum.inr "row" : Key), V.ref q12)])))) q10 = some (.lst [.int 8, .int 9]) := by rw [upd_ne (ne1 h10)]; exact h10
    have h11 : (upd Jb p1 (.dK (mergeK (mergeK [] [((Sum.inr "kind" : Key), V.ref q1), ((Sum.inr "nought" : Key), V.ref q2), ((Sum.inr "share" : Key), V.ref q3), ((Sum.inr "uneven" : Key), V.ref q4), ((Sum.inr "name" : Key), V.ref q5), ((Sum.inr "day" : Key), V.ref q6), ((Sum.inr "seats" : Key), V.ref q7)]) (mergeK [] [((Sum.inr "many" : Key), V.ref q8), ((Sum.inr "taken" : Key), V.ref q9), ((Sum.inr "rule" : Key), V.ref q10), ((Sum.inr "done" : Key), V.ref q11), ((Sum.inr "row" : Key), V.ref q12)])))) q11 = some (.lst []) := by rw [upd_ne (ne1 h11)]; exact h11
    have h12 : (upd Jb p1 (.dK (mergeK (mergeK [] [((Sum.inr "kind" : Key), V.ref q1), ((Sum.inr "nought" : Key), V.ref q2), ((Sum.inr "share" : Key), V.ref q3), ((Sum.inr "uneven" : Key), V.ref q4), ((Sum.inr "name" : Key), V.ref q5), ((Sum.inr "day" : Key), V.ref q6), ((Sum.inr "seats" : Key), V.ref q7)]) (mergeK [] [((Sum.inr "many" : Key), V.ref q8), ((Sum.inr "taken" : Key), V.ref q9), ((Sum.inr "rule" : Key), V.ref q10), ((Sum.inr "done" : Key), V.ref q11), ((Sum.inr "row" : Key), V.ref q12)])))) q12 = some (.lst []) := by rw [upd_ne (ne1 h12)]; exact h12
    have sm2 : Same H (upd Jb p1 (.dK (mergeK (mergeK [] [((Sum.inr "kind" : Key), V.ref q1), ((Sum.inr "nought" : Key), V.ref q2), ((Sum.inr "share" : Key), V.ref q3), ((Sum.inr "uneven" : Key), V.ref q4), ((Sum.inr "name" : Key), V.ref q5), ((Sum.inr "day" : Key), V.ref q6), ((Sum.inr "seats" : Key), V.ref q7)]) (mergeK [] [((Sum.inr "many" : Key), V.ref q8), ((Sum.inr "taken" : Key), V.ref q9), ((Sum.inr "rule" : Key), V.ref q10), ((Sum.inr "done" : Key), V.ref q11), ((Sum.inr "row" : Key), V.ref q12)])))) := fun b o e => by rw [upd_ne (ne_of_none e np1)]; exact sm _ _ e
    have hp1 : (upd Jb p1 (.dK (mergeK (mergeK [] [((Sum.inr "kind" : Key), V.ref q1), ((Sum.inr "nought" : Key), V.ref q2), ((Sum.inr "share" : Key), V.ref q3), ((Sum.inr "uneven" : Key), V.ref q4), ((Sum.inr "name" : Key), V.ref q5), ((Sum.inr "day" : Key), V.ref q6), ((Sum.inr "seats" : Key), V.ref q7)]) (mergeK [] [((Sum.inr "many" : Key), V.ref q8), ((Sum.inr "taken" : Key), V.ref q9), ((Sum.inr "rule" : Key), V.ref q10), ((Sum.inr "done" : Key), V.ref q11), ((Sum.inr "row" : Key), V.ref q12)])))) p1 = some (.dK (mergeK (mergeK [] [((Sum.inr "kind" : Key), V.ref q1), ((Sum.inr "nought" : Key), V.ref q2), ((Sum.inr "share" : Key), V.ref q3), ((Sum.inr "uneven" : Key), V.ref q4), ((Sum.inr "name" : Key), V.ref q5), ((Sum.inr "day" : Key), V.ref q6), ((Sum.inr "seats" : Key), V.ref q7)]) (mergeK [] [((Sum.inr "many" : Key), V.ref q8), ((Sum.inr "taken" : Key), V.ref q9), ((Sum.inr "rule" : Key), V.ref q10), ((Sum.inr "done" : Key), V.ref q11), ((Sum.inr "row" : Key), V.ref q12)]))) := upd_same
    clear ne1 hp2 sm
    generalize upd Jb p1 (.dK (mergeK (mergeK [] [((Sum.inr "kind" : Key), V.ref q1), ((Sum.inr "nought" : Key), V.ref q2), ((Sum.inr "share" : Key), V.ref q3), ((Sum.inr "uneven" : Key), V.ref q4), ((Sum.inr "name" : Key), V.ref q5), ((Sum.inr "day" : Key), V.ref q6), ((Sum.inr "seats" : Key), V.ref q7)]) (mergeK [] [((Sum.inr "many" : Key), V.ref q8), ((Sum.inr "taken" : Key), V.ref q9), ((Sum.inr "rule" : Key), V.ref q10), ((Sum.inr "done" : Key), V.ref q11), ((Sum.inr "row" : Key), V.ref q12)]))) = Jc at sm2 hp1 h1 h2 h3 h4 h5 h6 h7 h8 h9 h10 h11 h12 ⊢
    -- which list it is
    obtain ⟨qw, hqw, hv⟩ : ∃ qw, Jc qw = some (.lst (l.map V.int)) ∧ valV (mergeK (mergeK [] [((Sum.inr "kind" : Key), V.ref q1), ((Sum.inr "nought" : Key), V.ref q2), ((Sum.inr "share" : Key), V.ref q3), ((Sum.inr "uneven" : Key), V.ref q4), ((Sum.inr "name" : Key), V.ref q5), ((Sum.inr "day" : Key), V.ref q6), ((Sum.inr "seats" : Key), V.ref q7)]) (mergeK [] [((Sum.inr "many" : Key), V.ref q8), ((Sum.inr "taken" : Key), V.ref q9), ((Sum.inr "rule" : Key), V.ref q10), ((Sum.inr "done" : Key), V.ref q11), ((Sum.inr "row" : Key), V.ref q12)])) (Sum.inr wd : Key) = some (.ref qw) := by
      unfold plc at hw
      simp only [List.mem_cons, List.not_mem_nil, or_false, Prod.mk.injEq] at hw
      rcases hw with ⟨rfl, rfl⟩ | ⟨rfl, rfl⟩ | ⟨rfl, rfl⟩ | ⟨rfl, rfl⟩ | ⟨rfl, rfl⟩ | ⟨rfl, rfl⟩ | ⟨rfl, rfl⟩ | ⟨rfl, rfl⟩ | ⟨rfl, rfl⟩ | ⟨rfl, rfl⟩ | ⟨rfl, rfl⟩ | ⟨rfl, rfl⟩
      · exact ⟨q1, h1, by kernel_rfl⟩
      · exact ⟨q2, h2, by kernel_rfl⟩
      · exact ⟨q3, h3, by kernel_rfl⟩
      · exact ⟨q4, h4, by kernel_rfl⟩
      · exact ⟨q5, h5, by kernel_rfl⟩
      · exact ⟨q6, h6, by kernel_rfl⟩
      · exact ⟨q7, h7, by kernel_rfl⟩
      · exact ⟨q8, h8, by kernel_rfl⟩
      · exact ⟨q9, h9, by kernel_rfl⟩
      · exact ⟨q10, h10, by kernel_rfl⟩
      · exact ⟨q11, h11, by kernel_rfl⟩
      · exact ⟨q12, h12, by kernel_rfl⟩
    have dg : ∀ H', Same Jc H' → DGet H' p1 (.str wd) (some (.ref qw)) := fun H' s' => by
      have := DGet.k (k := Sum.inr wd) (s' _ _ hp1)
      rw [hv] at this
      exact this
    refine ⟨_, rfl, by decide, by decide, ?_⟩
    intro E1 hE1
    refine lc_range (n := 10) (fun i H' => H' E1 = some (.lst ((List.range i).map fun i => V.bl (abv l i))) ∧ Same Jc H') ⟨upd_same, same_new hE1⟩ ?_ ?_
    · rintro i H2 hi ⟨he, s2⟩
      refine ⟨rfl, ?_⟩
      refine ⟨_, rfl, _, rfl, p1, rfl, .inl ⟨_, .inl (s2 _ _ hp1)⟩, _, rfl, by show 1 ≤ sizeLine; decide, fun q fq => ?_⟩
      have sq := same_new (o := .lst [.int 3]) fq
      have s3 := s2.trans sq
      have fl : (l.map V.int).all flatV = true := by
        rw [List.all_eq_true]
        intro x hx
        obtain ⟨y, _, rfl⟩ := List.mem_map.mp hx
        rfl
      refine ⟨some (.ref qw), dg _ s3, qw, _, rfl, .inl (SqL.of (s3 _ _ hqw)), rfl, fl, ?_⟩
      have he3 := sq _ _ he
      refine ⟨_, he3, by rw [List.length_map, List.length_range]; exact line_lt (by omega), ?_, fun b o e => ?_⟩
      · rw [upd_same, List.range_succ, List.map_append]
        simp only [Bool.false_eq_true, if_false]
        unfold abv
        rw [show (0 : Int) + (i : Nat) = (i : Int) by omega]
        rfl
      · rw [upd_ne (ne_of_none e hE1)]
        exact s3 _ _ e
    · rintro H2 ⟨he, s2⟩
      exact hQ E1 H2 (sm2.trans s2) (sm2.free hE1) he
end
end K01
set_option Elab.async false
set_option linter.all false
set_option maxRecDepth 100000
set_option maxHeartbeats 4000000
/-! OW: ==, !=, str and repr of instances of an own class by its own __eq__, __str__, __repr__. -/
namespace OW
open PySem PySem.Spec PyProof.Rows L2
/-- what is known of a special def of the class: where it stands, that it keeps its promise -/
structure Spc (P : Program) (w : World) (K : PySem.W.Frag) (mg : Str → Option Value) (base : Heap) (k : Nat) (C : Addr) (m : Str) (sp : Sp) : Prop where
  ex : ∃ (f : Addr) (fd : FuncData) (ps : List Str), PySem.W.findIn K (.ref C) m = some (some (.ref f)) ∧ PySem.W.isFn K (.ref f) = true ∧ FnOk P w K mg base CX0 k f fd ps sp ∧ Binds K fd ps []
section
variable {X : Cx} {pins : List (Addr × Obj)} {σ : L2.St} {H : Hp} {s : Shared} {Q : VK} {k : Nat} {C a b : Addr} {sp : Sp}
/-- a def called at any around with room -/
theorem run_at {f : Addr} {fd : FuncData} {ps : List Str} {A : Around} {us : List Value} {vs : List V} {E' : Value → Shared → Prop} (F : FnOk X.prog X.w X.K X.mg X.base CX0 k f fd ps sp) (hb : Binds X.K fd ps []) (hr : Room k A) (I : Inv X pins σ H s)
    (he : Env0 X.prog X.w X.K X.mg X.base A X.stack s H) (r : Vals vs us) (h : sp vs H Q E0) : wpAny (model X.prog X.w) A (call (.ref f) us) (EP X pins σ Q) E' s := by
  have hl : us.length = ps.length := by rw [← r.length]; exact F.len _ _ _ _ h
  have b := hb s us I.kIn (by rw [List.append_nil]; exact hl)
  rw [List.append_nil] at b
  refine wpAny_call (codeAny_mono (F.run A X.stack s H ⟨us, []⟩ us vs Q E0 hr he b r h) fun r s' hq => ?_)
  cases r with
  | error e => exact False.elim hq
  | ok fl =>
    cases fl with
    | ret u => exact I.after hq
    | next => exact False.elim hq
    | brk => exact False.elim hq
    | cont => exact False.elim hq
theorem same_first : PySem.W.notFirst X.K C (.ref C) = true := by
  unfold PySem.W.notFirst
  rw [beq_self_eq_true, Bool.true_or]
/-- x == y, both of the class -/
def rEqO (C : Addr) (sp : Sp) : R2 := fun x y H Q => ∃ a dx fs b dy gs, x = .ref a ∧ y = .ref b ∧ H a = some (.ins C dx fs) ∧ H b = some (.ins C dy gs) ∧ sp [x, y] H (fun v H' => ∃ z, v = .bl z ∧ Q (.bl z) H') E0
def rNeO (C : Addr) (sp : Sp) : R2 := fun x y H Q => ∃ a dx fs b dy gs, x = .ref a ∧ y = .ref b ∧ H a = some (.ins C dx fs) ∧ H b = some (.ins C dy gs) ∧ sp [x, y] H (fun v H' => ∃ z, v = .bl z ∧ Q (.bl (!z)) H') E0
theorem op_eqO (S : Spc X.prog X.w X.K X.mg X.base k C "__eq__" sp) (hr : Room k X.A) : OpR X (compareOp .Eq) (rEqO C sp) := by
  obtain ⟨f, fd, ps, h1, h2, F, hb⟩ := S.ex
  intro pins s σ H x y v u Q I rx ry h
  obtain ⟨a, dx, fs, b, dy, gs, rfl, rfl, ea, eb, q⟩ := h
  cases (show v = Value.ref a from rx)
  cases (show u = Value.ref b from ry)
  obtain ⟨mA, O, _⟩ := ins_get I.hok ea
  obtain ⟨od, J, _⟩ := O.look
  obtain ⟨mB, O', _⟩ := ins_get I.hok eb
  obtain ⟨od', J', _⟩ := O'.look
  obtain ⟨m, hF⟩ := I.fr
  show wpAny _ _ (richCompare .Eq (.ref a) (.ref b)) _ _ _
  refine PySem.W.cmp_K (op := .Eq) (tb := .ref C) hr.units0 hF I.ok.mod.kin J J'.type same_first h1 h2 ?_
  refine wpAny_mono (run_at (E' := X.xe) (vs := [.ref a, .ref b]) F hb hr I I.env0 (.cons rfl (.cons rfl .nil)) q) (fun w s' z => ?_) fun _ _ x => x
  obtain ⟨z', H', I', rz, z, rfl, qz⟩ := z
  cases (show w = Value.bool z from rz)
  exact ⟨.bl z, H', I', rfl, qz⟩
open Builtin in
theorem op_neO (S : Spc X.prog X.w X.K X.mg X.base (k + 1) C "__eq__" sp) (hn : PySem.W.findIn X.K (.ref C) "__ne__" = some (some (.builtin "object.__ne__"))) (hm : PySem.W.mroIn X.K C (.type "object") = some true) (hr : Room (k + 2) X.A) : OpR X (compareOp .NotEq) (rNeO C sp) := by
  obtain ⟨f, fd, ps, h1, h2, F, hb⟩ := S.ex
  intro pins s σ H x y v u Q I rx ry h
  obtain ⟨a, dx, fs, b, dy, gs, rfl, rfl, ea, eb, q⟩ := h
  cases (show v = Value.ref a from rx)
  cases (show u = Value.ref b from ry)
  obtain ⟨mA, O, _⟩ := ins_get I.hok ea
  obtain ⟨od, J, _⟩ := O.look
  obtain ⟨mB, O', _⟩ := ins_get I.hok eb
  obtain ⟨od', J', _⟩ := O'.look
  have KI := I.kIn
  have callEq : wpAny (model X.prog X.w) X.A.in1 (call (.ref f) [.ref a, .ref b]) (fun v s' => ∃ z, v = .bool z ∧ EP X pins σ Q (.bool (!z)) s') X.xe s := by
    refine wpAny_mono (run_at (E' := X.xe) (vs := [.ref a, .ref b]) F hb hr.in1 I I.env0.in1 (.cons rfl (.cons rfl .nil)) q) (fun w s' z => ?_) fun _ _ x => x
    obtain ⟨z', H', I', rz, z, rfl, qz⟩ := z
    exact ⟨z, rz, .bl (!z), H', I', rfl, qz⟩
  have slot := PySem.F.cmp_object.ne
  have sub : PySem.W.Looks (model X.prog X.w) s.heap (isInstance (.ref a) (.type "object")) true := J.type.andThen (PySem.W.looks_mroIn KI hm)
  have uu : X.A.in1.units < cLine := hr.in1.units0
  have body : wpAny (model X.prog X.w) X.A.in1 (Builtin.«object.__ne__» ⟨[.ref a, .ref b], []⟩) (fun fin s' => match fin with | .done f => (match f with | .ret v => EP X pins σ Q v s' ∧ ∃ z, v = .bool z | _ => False) | .again _ => False) X.xe s := by
    unfold Builtin.«object.__ne__»
    repeat (first
      | with_reducible refine wpAny_cRoomFor uu ?_
      | (refine wpAny_bind (m := callSpecialIfBound? (.ref a) (Str.ofString "__eq__") [.ref b]) (PySem.W.ifBound_K KI J h1 h2 (wpAny_mono callEq (fun r s' hr => by
          obtain ⟨z, rfl, hq⟩ := hr
          repeat (first | exact ⟨hq, _, rfl⟩ | exact wpAny_pure ⟨hq, _, rfl⟩ | (refine wpAny_bind (m := truthy (.bool _)) (wpAny_truthy_bool ?_)) | wp_step)) fun _ _ e => e)))
      | wp_step)
  have callNe : wpAny (model X.prog X.w) X.A (call (.builtin "object.__ne__") [.ref a, .ref b]) (fun v s' => EP X pins σ Q v s' ∧ ∃ z, v = .bool z) X.xe s := by
    refine wpAny_call (codeAny_call_builtin slot.plain PySem.F.cmpEntry_ne (PySem.W.check_slot PySem.F.cmpKind_ne PySem.F.cmpSplit_ne sub (PySem.F.cmpArgs_ne _ _) ?_))
    refine wpAny_mono body (fun fin s' z => ?_) fun _ _ x => x
    cases fin with
    | done fl =>
      cases fl with
      | ret v => exact z
      | next => exact z.elim
      | brk => exact z.elim
      | cont => exact z.elim
    | again c => exact z.elim
  show wpAny _ _ (richCompare .NotEq (.ref a) (.ref b)) _ _ _
  unfold richCompare
  simp only [oneThing_ref]
  refine wpAny_holding (wpAny_bind (wpAny_cRoomFor hr.units0 ?_))
  rw [cmpInfo_NotEq]
  dsimp only
  refine wpAny_bind (J.type.here (wpAny_bind (J'.type.here ?_)))
  rw [show (Value.ref C != Value.ref C) = false from by simp]
  simp only [Bool.false_eq_true, if_false]
  refine wpAny_bind (wpAny_pure ?_)
  simp only [Bool.false_eq_true, if_false, tryCompare]
  have fin : wpAny (model X.prog X.w) X.A (call (.builtin "object.__ne__") ([.ref a] ++ [.ref b]) >>= fun v => pure (some v)) (fun r s' => ∃ v, r = some v ∧ EP X pins σ Q v s' ∧ ∃ z, v = .bool z) X.xe s :=
    wpAny_bind (wpAny_mono callNe (fun v s' h' => wpAny_pure ⟨v, rfl, h'⟩) fun _ _ h' => h')
  have bound : wpAny (model X.prog X.w) X.A (callSpecialIfBound? (.ref a) "__ne__" [.ref b]) (fun r s' => ∃ v, r = some v ∧ EP X pins σ Q v s' ∧ ∃ z, v = .bool z) X.xe s := by
    simp only [callSpecialIfBound?, bindSpecialIfBound?]
    refine wpAny_holding (wpAny_bind (wpAny_bind (wpAny_bind (J.type.here ((PySem.W.looks_findIn KI hn).here ?_)))))
    simp only [slot.bind]
    refine wpAny_bind (wpAny_askSetting (wpAny_ite ?_))
    split
    · exact wpAny_bind (wpAny_pure (wpAny_pure fin))
    · exact wpAny_tryCatch (wpAny_bind (wpAny_pure (wpAny_pure fin)))
  refine wpAny_bind (wpAny_bind (wpAny_mono bound (fun r s' z => ?_) fun _ _ h => h))
  obtain ⟨v, rfl, hq, z, rfl⟩ := z
  first | exact wpAny_pure (wpAny_pure hq) | exact wpAny_pure hq
/-- str(x), repr(x) -/
def rStrO (C : Addr) (sp : Sp) : List V → Hp → VK → Prop := fun xs H Q => ∃ a dx fs, xs = [.ref a] ∧ H a = some (.ins C dx fs) ∧ sp [.ref a] H (fun v H' => ∃ z, v = .str z ∧ Q (.str z) H') E0
theorem call_strO (S : Spc X.prog X.w X.K X.mg X.base k C "__str__" sp) (hr : Room (k + 2) X.A) : CallR X (.type "str") (rStrO C sp) := by
  obtain ⟨f, fd, ps, h1, h2, F, hb⟩ := S.ex
  intro pins s σ H xs us Q I r h
  obtain ⟨a, dx, fs, rfl, ea, q⟩ := h
  obtain ⟨u, rfl, ru⟩ := vals1 r
  cases (show u = Value.ref a from ru)
  obtain ⟨mA, O, _⟩ := ins_get I.hok ea
  obtain ⟨od, J, _⟩ := O.look
  refine PySem.W.kso_call hr.in1.in1.units0 I.kIn J h1 h2 ?_
  refine wpAny_mono (run_at (E' := X.xe) (vs := [.ref a]) F hb hr.in1.in1 I I.env0.in1.in1 (.cons rfl .nil) q) (fun w s' z => ?_) fun _ _ x => x
  obtain ⟨z', H', I', rz, z, rfl, qz⟩ := z
  obtain ⟨t, rfl⟩ := rz
  exact ⟨.str z, H', I', ⟨t, rfl⟩, qz⟩
theorem call_reprO (S : Spc X.prog X.w X.K X.mg X.base k C "__repr__" sp) (hr : Room (k + 1) X.A) : CallR X (.builtin "repr") (rStrO C sp) := by
  obtain ⟨f, fd, ps, h1, h2, F, hb⟩ := S.ex
  intro pins s σ H xs us Q I r h
  obtain ⟨a, dx, fs, rfl, ea, q⟩ := h
  obtain ⟨u, rfl, ru⟩ := vals1 r
  cases (show u = Value.ref a from ru)
  obtain ⟨mA, O, _⟩ := ins_get I.hok ea
  obtain ⟨od, J, _⟩ := O.look
  obtain ⟨m, hF⟩ := I.fr
  refine PySem.W.repr_K hr.in1.units0 hF I.ok.mod.kin J h1 h2 ?_
  refine wpAny_mono (run_at (E' := X.xe) (vs := [.ref a]) F hb hr.in1 I I.env0.in1 (.cons rfl .nil) q) (fun w s' z => ?_) fun _ _ x => x
  obtain ⟨z', H', I', rz, z, rfl, qz⟩ := z
  obtain ⟨t, rfl⟩ := rz
  exact ⟨.str z, H', I', ⟨t, rfl⟩, qz⟩
end
end OW
set_option Elab.async false
set_option linter.all false
set_option maxRecDepth 100000
set_option maxHeartbeats 4000000
/-! EQD: a dict beside things of other kinds: never equal; x in a list or tuple of any things, == and != of lists of any things. -/
namespace EQD
open PySem PySem.Spec PyProof.Rows L2
open PySem.SeqAt
abbrev dO (es : Array DictEntry) (ep : Nat) (dd : Option Addr) (sl : Array (Option Value)) : Obj := { cls := .type "dict", dict := dd, data := .dict es ep, slots := sl }

theorem dict_declines_none (l : Addr) (es : Array DictEntry) (ep : Nat) (dd : Option Addr) (sl : Array (Option Value))  :
    Meets (Builtin.«dict.__eq__» ⟨[.ref l, .none], []⟩) (fun _ R s => s.heap.get? l = some (dO es ep dd sl) ∧ R (.ok (.ret .notImplemented)) s) :=
  .of_wp fun prog w A R s h => by obtain ⟨hp, g, d, tk, os⟩ := s; obtain ⟨hl, h⟩ := h; have f1 := F.sub_NoneType_dict; wp_walk using wpAny_loadPart' hl; exact ⟨_, rfl, h⟩
theorem dict_declines_bool (l : Addr) (es : Array DictEntry) (ep : Nat) (dd : Option Addr) (sl : Array (Option Value)) (b : Bool) :
    Meets (Builtin.«dict.__eq__» ⟨[.ref l, .bool b], []⟩) (fun _ R s => s.heap.get? l = some (dO es ep dd sl) ∧ R (.ok (.ret .notImplemented)) s) :=
  .of_wp fun prog w A R s h => by obtain ⟨hp, g, d, tk, os⟩ := s; obtain ⟨hl, h⟩ := h; have f1 := F.sub_bool_dict; wp_walk using wpAny_loadPart' hl; exact ⟨_, rfl, h⟩
theorem dict_declines_int (l : Addr) (es : Array DictEntry) (ep : Nat) (dd : Option Addr) (sl : Array (Option Value)) (b : Int) (u : Tok) :
    Meets (Builtin.«dict.__eq__» ⟨[.ref l, .int b u], []⟩) (fun _ R s => s.heap.get? l = some (dO es ep dd sl) ∧ R (.ok (.ret .notImplemented)) s) :=
  .of_wp fun prog w A R s h => by obtain ⟨hp, g, d, tk, os⟩ := s; obtain ⟨hl, h⟩ := h; have f1 := F.sub_int_dict; wp_walk using wpAny_loadPart' hl; exact ⟨_, rfl, h⟩
theorem dict_declines_str (l : Addr) (es : Array DictEntry) (ep : Nat) (dd : Option Addr) (sl : Array (Option Value)) (b : Str) (u : Tok) :
    Meets (Builtin.«dict.__eq__» ⟨[.ref l, .str b u], []⟩) (fun _ R s => s.heap.get? l = some (dO es ep dd sl) ∧ R (.ok (.ret .notImplemented)) s) :=
  .of_wp fun prog w A R s h => by obtain ⟨hp, g, d, tk, os⟩ := s; obtain ⟨hl, h⟩ := h; have f1 := F.sub_str_dict; wp_walk using wpAny_loadPart' hl; exact ⟨_, rfl, h⟩
theorem bool_declines_dict (l : Addr) (es : Array DictEntry) (ep : Nat) (dd : Option Addr) (sl : Array (Option Value)) (b : Bool) :
    Meets (Builtin.«int.__eq__» ⟨[.bool b, .ref l], []⟩) (fun _ R s => s.heap.get? l = some (dO es ep dd sl) ∧ R (.ok (.ret .notImplemented)) s) :=
  .of_wp fun prog w A R s h => by obtain ⟨hp, g, d, tk, os⟩ := s; obtain ⟨hl, h⟩ := h; wp_walk using wpAny_loadPart' hl, wpAny_load hl; exact ⟨_, rfl, h⟩
theorem int_declines_dict (l : Addr) (es : Array DictEntry) (ep : Nat) (dd : Option Addr) (sl : Array (Option Value)) (b : Int) (u : Tok) :
    Meets (Builtin.«int.__eq__» ⟨[.int b u, .ref l], []⟩) (fun _ R s => s.heap.get? l = some (dO es ep dd sl) ∧ R (.ok (.ret .notImplemented)) s) :=
  .of_wp fun prog w A R s h => by obtain ⟨hp, g, d, tk, os⟩ := s; obtain ⟨hl, h⟩ := h; wp_walk using wpAny_loadPart' hl, wpAny_load hl; exact ⟨_, rfl, h⟩
theorem str_declines_dict (l : Addr) (es : Array DictEntry) (ep : Nat) (dd : Option Addr) (sl : Array (Option Value)) (b : Str) (u : Tok) :
    Meets (Builtin.«str.__eq__» ⟨[.str b u, .ref l], []⟩) (fun _ R s => s.heap.get? l = some (dO es ep dd sl) ∧ R (.ok (.ret .notImplemented)) s) :=
  .of_wp fun prog w A R s h => by obtain ⟨hp, g, d, tk, os⟩ := s; obtain ⟨hl, h⟩ := h; wp_walk using wpAny_loadPart' hl, wpAny_load hl; exact ⟨_, rfl, h⟩
theorem dict_declines_list (l b : Addr) (es : Array DictEntry) (ep : Nat) (dd dd2 : Option Addr) (sl sl2 : Array (Option Value)) (items : Array Value) (n : Nat) :
    Meets (Builtin.«dict.__eq__» ⟨[.ref l, .ref b], []⟩) (fun _ R s => s.heap.get? l = some (dO es ep dd sl) ∧ s.heap.get? b = some { cls := .type "list", dict := dd2, data := .seq items n, slots := sl2 } ∧ R (.ok (.ret .notImplemented)) s) :=
  .of_wp fun prog w A R s h => by obtain ⟨hp, g, d, tk, os⟩ := s; obtain ⟨hl, hb, h⟩ := h; have f1 := F.sub_list_dict; wp_walk using wpAny_loadPart' hl, wpAny_loadPart' hb; exact ⟨_, rfl, h⟩
theorem list_declines_dict (l b : Addr) (es : Array DictEntry) (ep : Nat) (dd dd2 : Option Addr) (sl sl2 : Array (Option Value)) (items : Array Value) (n : Nat) :
    Meets (Builtin.«list.__eq__» ⟨[.ref b, .ref l], []⟩) (fun _ R s => s.heap.get? l = some (dO es ep dd sl) ∧ s.heap.get? b = some { cls := .type "list", dict := dd2, data := .seq items n, slots := sl2 } ∧ R (.ok (.ret .notImplemented)) s) :=
  .of_wp fun prog w A R s h => by obtain ⟨hp, g, d, tk, os⟩ := s; obtain ⟨hl, hb, h⟩ := h; have f1 := F.sub_dict_list; wp_walk using wpAny_loadPart' hl, wpAny_loadPart' hb; exact ⟨_, rfl, h⟩
theorem dict_declines_tuple (l b : Addr) (es : Array DictEntry) (ep : Nat) (dd dd2 : Option Addr) (sl sl2 : Array (Option Value)) (items : Array Value) (n : Nat) :
    Meets (Builtin.«dict.__eq__» ⟨[.ref l, .ref b], []⟩) (fun _ R s => s.heap.get? l = some (dO es ep dd sl) ∧ s.heap.get? b = some { cls := .type "tuple", dict := dd2, data := .seq items n, slots := sl2 } ∧ R (.ok (.ret .notImplemented)) s) :=
  .of_wp fun prog w A R s h => by obtain ⟨hp, g, d, tk, os⟩ := s; obtain ⟨hl, hb, h⟩ := h; have f1 := F.sub_tuple_dict; wp_walk using wpAny_loadPart' hl, wpAny_loadPart' hb; exact ⟨_, rfl, h⟩
theorem tuple_declines_dict (l b : Addr) (es : Array DictEntry) (ep : Nat) (dd dd2 : Option Addr) (sl sl2 : Array (Option Value)) (items : Array Value) (n : Nat) :
    Meets (Builtin.«tuple.__eq__» ⟨[.ref b, .ref l], []⟩) (fun _ R s => s.heap.get? l = some (dO es ep dd sl) ∧ s.heap.get? b = some { cls := .type "tuple", dict := dd2, data := .seq items n, slots := sl2 } ∧ R (.ok (.ret .notImplemented)) s) :=
  .of_wp fun prog w A R s h => by obtain ⟨hp, g, d, tk, os⟩ := s; obtain ⟨hl, hb, h⟩ := h; have f1 := F.sub_dict_tuple; wp_walk using wpAny_loadPart' hl, wpAny_loadPart' hb; exact ⟨_, rfl, h⟩
/-- a dict stands at l -/
def IsDct (h : Heap) (l : Addr) : Prop := ∃ (o : Obj) (es : Array DictEntry) (ep : Nat), h.get? l = some o ∧ o.cls = .type "dict" ∧ o.data = .dict es ep
section
variable {A : Around} {s : Shared}
theorem RcAt_dict_none {l : Addr}  (hl : IsDct s.heap l) (hu : A.units < cLine) : RcAt A s (.ref l) .none false := fun prog w E Q h => by
  obtain ⟨⟨cls, dd, data, sl⟩, es, ep, ho, hc, hd⟩ := id hl
  simp only at hc hd
  subst hc hd
  exact rc_eq_decline_or (k := false) ⟨_, ho, rfl⟩ rfl (by decide) F.sub_NoneType_dict F.slot_dict_eq F.slot_NoneType_eq_refl
    (fun _ hq => call_meets F.slot_dict_eq ⟨_, ho, rfl⟩ F.entry_dict_eq (F.args_dict_eq_2 _ _) (dict_declines_none l es ep dd sl ) ⟨ho, hq⟩)
    (fun _ hq => call_gives F.slot_NoneType_eq_refl rfl F.entry_NoneType_eq (F.args_NoneType_eq_2 _ _) (NoneType___eq___none_ref_0 l) hq)
    (fun _ hq => wpAny_of_eq (rfl : isSame (.ref l) .none = pure false) hq) (.inr hu) h
theorem RcAt_none_dict {l : Addr}  (hl : IsDct s.heap l) (hu : A.units < cLine) : RcAt A s .none (.ref l) false := fun prog w E Q h => by
  obtain ⟨⟨cls, dd, data, sl⟩, es, ep, ho, hc, hd⟩ := id hl
  simp only at hc hd
  subst hc hd
  exact rc_eq_decline_or (k := false) rfl ⟨_, ho, rfl⟩ (by decide) F.sub_dict_NoneType F.slot_NoneType_eq F.slot_dict_eq_refl
    (fun _ hq => call_gives F.slot_NoneType_eq rfl F.entry_NoneType_eq (F.args_NoneType_eq_2 _ _) (NoneType___eq___none_ref_0 l) hq)
    (fun _ hq => call_meets F.slot_dict_eq_refl ⟨_, ho, rfl⟩ F.entry_dict_eq (F.args_dict_eq_2 _ _) (dict_declines_none l es ep dd sl ) ⟨ho, hq⟩)
    (fun _ hq => wpAny_of_eq (rfl : isSame .none (.ref l) = pure false) hq) (.inr hu) h
theorem EqAt_dict_none {l : Addr}  (hl : IsDct s.heap l) (hu : A.units < cLine) : EqAt A s (.ref l) .none false := fun prog w E Q h => by
  unfold eqBool
  refine wpAny_holding ?_
  refine wpAny_ite_split (fun hab => absurd (eq_of_beq hab) nofun) (fun _ => ?_)
  exact wpAny_bind (RcAt_dict_none  hl hu prog w E _ (wpAny_truthy_bool h))
theorem EqAt_none_dict {l : Addr}  (hl : IsDct s.heap l) (hu : A.units < cLine) : EqAt A s .none (.ref l) false := fun prog w E Q h => by
  unfold eqBool
  refine wpAny_holding ?_
  refine wpAny_ite_split (fun hab => absurd (eq_of_beq hab) nofun) (fun _ => ?_)
  exact wpAny_bind (RcAt_none_dict  hl hu prog w E _ (wpAny_truthy_bool h))
theorem RcAt_dict_bool {l : Addr} (b : Bool) (hl : IsDct s.heap l) (hu : A.units < cLine) : RcAt A s (.ref l) (.bool b) false := fun prog w E Q h => by
  obtain ⟨⟨cls, dd, data, sl⟩, es, ep, ho, hc, hd⟩ := id hl
  simp only at hc hd
  subst hc hd
  exact rc_eq_decline_or (k := false) ⟨_, ho, rfl⟩ rfl (by decide) F.sub_bool_dict F.slot_dict_eq F.slot_bool_eq_refl
    (fun _ hq => call_meets F.slot_dict_eq ⟨_, ho, rfl⟩ F.entry_dict_eq (F.args_dict_eq_2 _ _) (dict_declines_bool l es ep dd sl b) ⟨ho, hq⟩)
    (fun _ hq => call_meets F.slot_bool_eq_refl rfl F.entry_int_eq (F.args_int_eq_2 _ _) (bool_declines_dict l es ep dd sl b) ⟨ho, hq⟩)
    (fun _ hq => wpAny_of_eq (rfl : isSame (.ref l) (.bool b) = pure false) hq) (.inr hu) h
theorem RcAt_bool_dict {l : Addr} (b : Bool) (hl : IsDct s.heap l) (hu : A.units < cLine) : RcAt A s (.bool b) (.ref l) false := fun prog w E Q h => by
  obtain ⟨⟨cls, dd, data, sl⟩, es, ep, ho, hc, hd⟩ := id hl
  simp only at hc hd
  subst hc hd
  exact rc_eq_decline_or (k := false) rfl ⟨_, ho, rfl⟩ (by decide) F.sub_dict_bool F.slot_bool_eq F.slot_dict_eq_refl
    (fun _ hq => call_meets F.slot_bool_eq rfl F.entry_int_eq (F.args_int_eq_2 _ _) (bool_declines_dict l es ep dd sl b) ⟨ho, hq⟩)
    (fun _ hq => call_meets F.slot_dict_eq_refl ⟨_, ho, rfl⟩ F.entry_dict_eq (F.args_dict_eq_2 _ _) (dict_declines_bool l es ep dd sl b) ⟨ho, hq⟩)
    (fun _ hq => wpAny_of_eq (rfl : isSame (.bool b) (.ref l) = pure false) hq) (.inr hu) h
theorem EqAt_dict_bool {l : Addr} (b : Bool) (hl : IsDct s.heap l) (hu : A.units < cLine) : EqAt A s (.ref l) (.bool b) false := fun prog w E Q h => by
  unfold eqBool
  refine wpAny_holding ?_
  refine wpAny_ite_split (fun hab => absurd (eq_of_beq hab) nofun) (fun _ => ?_)
  exact wpAny_bind (RcAt_dict_bool b hl hu prog w E _ (wpAny_truthy_bool h))
theorem EqAt_bool_dict {l : Addr} (b : Bool) (hl : IsDct s.heap l) (hu : A.units < cLine) : EqAt A s (.bool b) (.ref l) false := fun prog w E Q h => by
  unfold eqBool
  refine wpAny_holding ?_
  refine wpAny_ite_split (fun hab => absurd (eq_of_beq hab) nofun) (fun _ => ?_)
  exact wpAny_bind (RcAt_bool_dict b hl hu prog w E _ (wpAny_truthy_bool h))
theorem RcAt_dict_int {l : Addr} (b : Int) (u : Tok) (hl : IsDct s.heap l) (hu : A.units < cLine) : RcAt A s (.ref l) (.int b u) false := fun prog w E Q h => by
  obtain ⟨⟨cls, dd, data, sl⟩, es, ep, ho, hc, hd⟩ := id hl
  simp only at hc hd
  subst hc hd
  exact rc_eq_decline_or (k := false) ⟨_, ho, rfl⟩ (typeIs_int s b u) (by decide) F.sub_int_dict F.slot_dict_eq F.slot_int_eq_refl
    (fun _ hq => call_meets F.slot_dict_eq ⟨_, ho, rfl⟩ F.entry_dict_eq (F.args_dict_eq_2 _ _) (dict_declines_int l es ep dd sl b u) ⟨ho, hq⟩)
    (fun _ hq => call_meets F.slot_int_eq_refl (typeIs_int s b u) F.entry_int_eq (F.args_int_eq_2 _ _) (int_declines_dict l es ep dd sl b u) ⟨ho, hq⟩)
    (fun _ hq => wpAny_of_eq (rfl : isSame (.ref l) (.int b u) = pure false) hq) (.inr hu) h
theorem RcAt_int_dict {l : Addr} (b : Int) (u : Tok) (hl : IsDct s.heap l) (hu : A.units < cLine) : RcAt A s (.int b u) (.ref l) false := fun prog w E Q h => by
  obtain ⟨⟨cls, dd, data, sl⟩, es, ep, ho, hc, hd⟩ := id hl
  simp only at hc hd
  subst hc hd
  exact rc_eq_decline_or (k := false) (typeIs_int s b u) ⟨_, ho, rfl⟩ (by decide) F.sub_dict_int F.slot_int_eq F.slot_dict_eq_refl
    (fun _ hq => call_meets F.slot_int_eq (typeIs_int s b u) F.entry_int_eq (F.args_int_eq_2 _ _) (int_declines_dict l es ep dd sl b u) ⟨ho, hq⟩)
    (fun _ hq => call_meets F.slot_dict_eq_refl ⟨_, ho, rfl⟩ F.entry_dict_eq (F.args_dict_eq_2 _ _) (dict_declines_int l es ep dd sl b u) ⟨ho, hq⟩)
    (fun _ hq => wpAny_of_eq (rfl : isSame (.int b u) (.ref l) = pure false) hq) (.inr hu) h
theorem EqAt_dict_int {l : Addr} (b : Int) (u : Tok) (hl : IsDct s.heap l) (hu : A.units < cLine) : EqAt A s (.ref l) (.int b u) false := fun prog w E Q h => by
  unfold eqBool
  refine wpAny_holding ?_
  refine wpAny_ite_split (fun hab => absurd (eq_of_beq hab) nofun) (fun _ => ?_)
  exact wpAny_bind (RcAt_dict_int b u hl hu prog w E _ (wpAny_truthy_bool h))
theorem EqAt_int_dict {l : Addr} (b : Int) (u : Tok) (hl : IsDct s.heap l) (hu : A.units < cLine) : EqAt A s (.int b u) (.ref l) false := fun prog w E Q h => by
  unfold eqBool
  refine wpAny_holding ?_
  refine wpAny_ite_split (fun hab => absurd (eq_of_beq hab) nofun) (fun _ => ?_)
  exact wpAny_bind (RcAt_int_dict b u hl hu prog w E _ (wpAny_truthy_bool h))
theorem RcAt_dict_str {l : Addr} (b : Str) (u : Tok) (hl : IsDct s.heap l) (hu : A.units < cLine) : RcAt A s (.ref l) (.str b u) false := fun prog w E Q h => by
  obtain ⟨⟨cls, dd, data, sl⟩, es, ep, ho, hc, hd⟩ := id hl
  simp only at hc hd
  subst hc hd
  exact rc_eq_decline_or (k := false) ⟨_, ho, rfl⟩ (typeIs_str s b u) (by decide) F.sub_str_dict F.slot_dict_eq F.slot_str_eq_refl
    (fun _ hq => call_meets F.slot_dict_eq ⟨_, ho, rfl⟩ F.entry_dict_eq (F.args_dict_eq_2 _ _) (dict_declines_str l es ep dd sl b u) ⟨ho, hq⟩)
    (fun _ hq => call_meets F.slot_str_eq_refl (typeIs_str s b u) F.entry_str_eq (F.args_str_eq_2 _ _) (str_declines_dict l es ep dd sl b u) ⟨ho, hq⟩)
    (fun _ hq => wpAny_of_eq (rfl : isSame (.ref l) (.str b u) = pure false) hq) (.inr hu) h
theorem RcAt_str_dict {l : Addr} (b : Str) (u : Tok) (hl : IsDct s.heap l) (hu : A.units < cLine) : RcAt A s (.str b u) (.ref l) false := fun prog w E Q h => by
  obtain ⟨⟨cls, dd, data, sl⟩, es, ep, ho, hc, hd⟩ := id hl
  simp only at hc hd
  subst hc hd
  exact rc_eq_decline_or (k := false) (typeIs_str s b u) ⟨_, ho, rfl⟩ (by decide) F.sub_dict_str F.slot_str_eq F.slot_dict_eq_refl
    (fun _ hq => call_meets F.slot_str_eq (typeIs_str s b u) F.entry_str_eq (F.args_str_eq_2 _ _) (str_declines_dict l es ep dd sl b u) ⟨ho, hq⟩)
    (fun _ hq => call_meets F.slot_dict_eq_refl ⟨_, ho, rfl⟩ F.entry_dict_eq (F.args_dict_eq_2 _ _) (dict_declines_str l es ep dd sl b u) ⟨ho, hq⟩)
    (fun _ hq => wpAny_of_eq (rfl : isSame (.str b u) (.ref l) = pure false) hq) (.inr hu) h
theorem EqAt_dict_str {l : Addr} (b : Str) (u : Tok) (hl : IsDct s.heap l) (hu : A.units < cLine) : EqAt A s (.ref l) (.str b u) false := fun prog w E Q h => by
  unfold eqBool
  refine wpAny_holding ?_
  refine wpAny_ite_split (fun hab => absurd (eq_of_beq hab) nofun) (fun _ => ?_)
  exact wpAny_bind (RcAt_dict_str b u hl hu prog w E _ (wpAny_truthy_bool h))
theorem EqAt_str_dict {l : Addr} (b : Str) (u : Tok) (hl : IsDct s.heap l) (hu : A.units < cLine) : EqAt A s (.str b u) (.ref l) false := fun prog w E Q h => by
  unfold eqBool
  refine wpAny_holding ?_
  refine wpAny_ite_split (fun hab => absurd (eq_of_beq hab) nofun) (fun _ => ?_)
  exact wpAny_bind (RcAt_str_dict b u hl hu prog w E _ (wpAny_truthy_bool h))
theorem ne_dict_list {l b : Addr} {items : Array Value} (hl : IsDct s.heap l) (hb : s.heap.IsList b items) : l ≠ b := fun e => by
  subst e
  obtain ⟨o, _, _, ho, hc, _⟩ := hl
  obtain ⟨o2, ho2, hc2, _⟩ := hb
  rw [ho] at ho2
  cases ho2
  rw [hc] at hc2
  exact absurd hc2 (by simp)
theorem RcAt_dict_list {l b : Addr} {items : Array Value} (hl : IsDct s.heap l) (hb : s.heap.IsList b items) (hu : A.units < cLine) : RcAt A s (.ref l) (.ref b) false := fun prog w E Q h => by
  have hne := ne_dict_list hl hb
  obtain ⟨⟨cls, dd, data, sl⟩, es, ep, ho, hc, hd⟩ := id hl
  obtain ⟨⟨cls2, dd2, data2, sl2⟩, ho2, hc2, n2, hd2⟩ := id hb
  simp only at hc hd hc2 hd2
  subst hc hd hc2 hd2
  exact (rc_eq_decline_or (k := false) ⟨_, ho, rfl⟩ ⟨_, ho2, rfl⟩ (by decide) F.sub_list_dict F.slot_dict_eq F.slot_list_eq_refl
    (fun _ hq => call_meets F.slot_dict_eq ⟨_, ho, rfl⟩ F.entry_dict_eq (F.args_dict_eq_2 _ _) (dict_declines_list l b es ep dd dd2 sl sl2 items n2) ⟨ho, ho2, hq⟩)
    (fun _ hq => call_meets F.slot_list_eq_refl ⟨_, ho2, rfl⟩ F.entry_list_eq (F.args_list_eq_2 _ _) (list_declines_dict l b es ep dd dd2 sl sl2 items n2) ⟨ho, ho2, hq⟩)
    (fun _ hq => wpAny_isSame_ref_other hne ho ho2 (by simp) hq) (.inr hu) h)
theorem RcAt_list_dict {l b : Addr} {items : Array Value} (hl : IsDct s.heap l) (hb : s.heap.IsList b items) (hu : A.units < cLine) : RcAt A s (.ref b) (.ref l) false := fun prog w E Q h => by
  have hne := (ne_dict_list hl hb).symm
  obtain ⟨⟨cls, dd, data, sl⟩, es, ep, ho, hc, hd⟩ := id hl
  obtain ⟨⟨cls2, dd2, data2, sl2⟩, ho2, hc2, n2, hd2⟩ := id hb
  simp only at hc hd hc2 hd2
  subst hc hd hc2 hd2
  exact (rc_eq_decline_or (k := false) ⟨_, ho2, rfl⟩ ⟨_, ho, rfl⟩ (by decide) F.sub_dict_list F.slot_list_eq F.slot_dict_eq_refl
    (fun _ hq => call_meets F.slot_list_eq ⟨_, ho2, rfl⟩ F.entry_list_eq (F.args_list_eq_2 _ _) (list_declines_dict l b es ep dd dd2 sl sl2 items n2) ⟨ho, ho2, hq⟩)
    (fun _ hq => call_meets F.slot_dict_eq_refl ⟨_, ho, rfl⟩ F.entry_dict_eq (F.args_dict_eq_2 _ _) (dict_declines_list l b es ep dd dd2 sl sl2 items n2) ⟨ho, ho2, hq⟩)
    (fun _ hq => wpAny_isSame_ref_other' hne ho2 ho (by simp) hq) (.inr hu) h)
theorem EqAt_dict_list {l b : Addr} {items : Array Value} (hl : IsDct s.heap l) (hb : s.heap.IsList b items) (hu : A.units < cLine) : EqAt A s (.ref l) (.ref b) false := .of_refs (ne_dict_list hl hb) (RcAt_dict_list hl hb hu)
theorem EqAt_list_dict {l b : Addr} {items : Array Value} (hl : IsDct s.heap l) (hb : s.heap.IsList b items) (hu : A.units < cLine) : EqAt A s (.ref b) (.ref l) false := .of_refs (ne_dict_list hl hb).symm (RcAt_list_dict hl hb hu)
theorem ne_dict_tuple {l b : Addr} {items : Array Value} (hl : IsDct s.heap l) (hb : s.heap.IsTuple b items) : l ≠ b := fun e => by
  subst e
  obtain ⟨o, _, _, ho, hc, _⟩ := hl
  obtain ⟨o2, ho2, hc2, _⟩ := hb
  rw [ho] at ho2
  cases ho2
  rw [hc] at hc2
  exact absurd hc2 (by simp)
theorem RcAt_dict_tuple {l b : Addr} {items : Array Value} (hl : IsDct s.heap l) (hb : s.heap.IsTuple b items) (hu : A.units < cLine) : RcAt A s (.ref l) (.ref b) false := fun prog w E Q h => by
  have hne := ne_dict_tuple hl hb
  obtain ⟨⟨cls, dd, data, sl⟩, es, ep, ho, hc, hd⟩ := id hl
  obtain ⟨⟨cls2, dd2, data2, sl2⟩, ho2, hc2, n2, hd2⟩ := id hb
  simp only at hc hd hc2 hd2
  subst hc hd hc2 hd2
  exact (rc_eq_decline_or (k := false) ⟨_, ho, rfl⟩ ⟨_, ho2, rfl⟩ (by decide) F.sub_tuple_dict F.slot_dict_eq F.slot_tuple_eq_refl
    (fun _ hq => call_meets F.slot_dict_eq ⟨_, ho, rfl⟩ F.entry_dict_eq (F.args_dict_eq_2 _ _) (dict_declines_tuple l b es ep dd dd2 sl sl2 items n2) ⟨ho, ho2, hq⟩)
    (fun _ hq => call_meets F.slot_tuple_eq_refl ⟨_, ho2, rfl⟩ F.entry_tuple_eq (F.args_tuple_eq_2 _ _) (tuple_declines_dict l b es ep dd dd2 sl sl2 items n2) ⟨ho, ho2, hq⟩)
    (fun _ hq => wpAny_isSame_ref_other hne ho ho2 (by simp) hq) (.inr hu) h)
theorem RcAt_tuple_dict {l b : Addr} {items : Array Value} (hl : IsDct s.heap l) (hb : s.heap.IsTuple b items) (hu : A.units < cLine) : RcAt A s (.ref b) (.ref l) false := fun prog w E Q h => by
  have hne := (ne_dict_tuple hl hb).symm
  obtain ⟨⟨cls, dd, data, sl⟩, es, ep, ho, hc, hd⟩ := id hl
  obtain ⟨⟨cls2, dd2, data2, sl2⟩, ho2, hc2, n2, hd2⟩ := id hb
  simp only at hc hd hc2 hd2
  subst hc hd hc2 hd2
  exact (rc_eq_decline_or (k := false) ⟨_, ho2, rfl⟩ ⟨_, ho, rfl⟩ (by decide) F.sub_dict_tuple F.slot_tuple_eq F.slot_dict_eq_refl
    (fun _ hq => call_meets F.slot_tuple_eq ⟨_, ho2, rfl⟩ F.entry_tuple_eq (F.args_tuple_eq_2 _ _) (tuple_declines_dict l b es ep dd dd2 sl sl2 items n2) ⟨ho, ho2, hq⟩)
    (fun _ hq => call_meets F.slot_dict_eq_refl ⟨_, ho, rfl⟩ F.entry_dict_eq (F.args_dict_eq_2 _ _) (dict_declines_tuple l b es ep dd dd2 sl sl2 items n2) ⟨ho, ho2, hq⟩)
    (fun _ hq => wpAny_isSame_ref_other' hne ho2 ho (by simp) hq) (.inr hu) h)
theorem EqAt_dict_tuple {l b : Addr} {items : Array Value} (hl : IsDct s.heap l) (hb : s.heap.IsTuple b items) (hu : A.units < cLine) : EqAt A s (.ref l) (.ref b) false := .of_refs (ne_dict_tuple hl hb) (RcAt_dict_tuple hl hb hu)
theorem EqAt_tuple_dict {l b : Addr} {items : Array Value} (hl : IsDct s.heap l) (hb : s.heap.IsTuple b items) (hu : A.units < cLine) : EqAt A s (.ref b) (.ref l) false := .of_refs (ne_dict_tuple hl hb).symm (RcAt_tuple_dict hl hb hu)
end
end EQD
set_option Elab.async false
set_option linter.all false
set_option maxRecDepth 100000
set_option maxHeartbeats 4000000
/-! OWQ1: what Python's own kinds tell when they are asked == or != with an instance of an own class: nothing. -/
namespace OWQ
open PySem PySem.Spec PyProof.Rows L2
open PySem.SeqAt PySem.MeetsSeq
open AutoSeq1 (wpAny_loadPart')
abbrev iO (C dx : Addr) : Obj := PySem.W.instObj C dx
/-- b is no T -/
abbrev NoT (s : Shared) (b : Addr) (T : String) : Prop := ∀ M : Model, PySem.W.Looks M s.heap (isInstance (.ref b) (.type T)) false
theorem none_eq (b C dx : Addr) : Meets (Builtin.«NoneType.__eq__» ⟨[.none, .ref b], []⟩) (fun _ R s => s.heap.get? b = some (iO C dx) ∧ R (.ok (.ret .notImplemented)) s) :=
  .of_wp fun prog w A R s h => by obtain ⟨hp, g, d, tk, os⟩ := s; obtain ⟨hl, h⟩ := h; wp_walk; exact ⟨_, rfl, h⟩
theorem none_ne (b C dx : Addr) : Meets (Builtin.«NoneType.__ne__» ⟨[.none, .ref b], []⟩) (fun _ R s => s.heap.get? b = some (iO C dx) ∧ R (.ok (.ret .notImplemented)) s) :=
  .of_wp fun prog w A R s h => by obtain ⟨hp, g, d, tk, os⟩ := s; obtain ⟨hl, h⟩ := h; wp_walk; exact ⟨_, rfl, h⟩
theorem bool_eq (b C dx : Addr) (k : Bool) : Meets (Builtin.«int.__eq__» ⟨[.bool k, .ref b], []⟩) (fun _ R s => s.heap.get? b = some (iO C dx) ∧ R (.ok (.ret .notImplemented)) s) :=
  .of_wp fun prog w A R s h => by obtain ⟨hp, g, d, tk, os⟩ := s; obtain ⟨hl, h⟩ := h; wp_walk using wpAny_loadPart' hl, wpAny_load hl; exact ⟨_, rfl, h⟩
theorem bool_ne (b C dx : Addr) (k : Bool) : Meets (Builtin.«int.__ne__» ⟨[.bool k, .ref b], []⟩) (fun _ R s => s.heap.get? b = some (iO C dx) ∧ R (.ok (.ret .notImplemented)) s) :=
  .of_wp fun prog w A R s h => by obtain ⟨hp, g, d, tk, os⟩ := s; obtain ⟨hl, h⟩ := h; wp_walk using wpAny_loadPart' hl, wpAny_load hl; exact ⟨_, rfl, h⟩
theorem int_eq (b C dx : Addr) (k : Int) (u : Tok) : Meets (Builtin.«int.__eq__» ⟨[.int k u, .ref b], []⟩) (fun _ R s => s.heap.get? b = some (iO C dx) ∧ R (.ok (.ret .notImplemented)) s) :=
  .of_wp fun prog w A R s h => by obtain ⟨hp, g, d, tk, os⟩ := s; obtain ⟨hl, h⟩ := h; wp_walk using wpAny_loadPart' hl, wpAny_load hl; exact ⟨_, rfl, h⟩
theorem int_ne (b C dx : Addr) (k : Int) (u : Tok) : Meets (Builtin.«int.__ne__» ⟨[.int k u, .ref b], []⟩) (fun _ R s => s.heap.get? b = some (iO C dx) ∧ R (.ok (.ret .notImplemented)) s) :=
  .of_wp fun prog w A R s h => by obtain ⟨hp, g, d, tk, os⟩ := s; obtain ⟨hl, h⟩ := h; wp_walk using wpAny_loadPart' hl, wpAny_load hl; exact ⟨_, rfl, h⟩
theorem str_eq (b C dx : Addr) (k : Str) (u : Tok) : Meets (Builtin.«str.__eq__» ⟨[.str k u, .ref b], []⟩) (fun _ R s => s.heap.get? b = some (iO C dx) ∧ R (.ok (.ret .notImplemented)) s) :=
  .of_wp fun prog w A R s h => by obtain ⟨hp, g, d, tk, os⟩ := s; obtain ⟨hl, h⟩ := h; wp_walk using wpAny_loadPart' hl, wpAny_load hl; exact ⟨_, rfl, h⟩
theorem str_ne (b C dx : Addr) (k : Str) (u : Tok) : Meets (Builtin.«str.__ne__» ⟨[.str k u, .ref b], []⟩) (fun _ R s => s.heap.get? b = some (iO C dx) ∧ R (.ok (.ret .notImplemented)) s) :=
  .of_wp fun prog w A R s h => by obtain ⟨hp, g, d, tk, os⟩ := s; obtain ⟨hl, h⟩ := h; wp_walk using wpAny_loadPart' hl, wpAny_load hl; exact ⟨_, rfl, h⟩
theorem list_eq (l b : Addr) : Meets (Builtin.«list.__eq__» ⟨[.ref l, .ref b], []⟩) (fun _ R s => NoT s b "list" ∧ R (.ok (.ret .notImplemented)) s) :=
  .of_wp fun prog w A R s h => by
    obtain ⟨hI, h⟩ := h
    have hh : ∀ {A' : Around} {Q : Bool → Shared → Prop} {E : Value → Shared → Prop}, Q false s → wpAny (model prog w) A' (isInstance (.ref b) (.type "list")) Q E s := fun q => (hI _).here q
    obtain ⟨hp, g, d, tk, os⟩ := s
    wp_walk using hh
    exact ⟨_, rfl, h⟩
theorem list_ne (l b : Addr) : Meets (Builtin.«list.__ne__» ⟨[.ref l, .ref b], []⟩) (fun _ R s => NoT s b "list" ∧ R (.ok (.ret .notImplemented)) s) :=
  .of_wp fun prog w A R s h => by
    obtain ⟨hI, h⟩ := h
    have hh : ∀ {A' : Around} {Q : Bool → Shared → Prop} {E : Value → Shared → Prop}, Q false s → wpAny (model prog w) A' (isInstance (.ref b) (.type "list")) Q E s := fun q => (hI _).here q
    obtain ⟨hp, g, d, tk, os⟩ := s
    wp_walk using hh
    exact ⟨_, rfl, h⟩
theorem tuple_eq (l b : Addr) : Meets (Builtin.«tuple.__eq__» ⟨[.ref l, .ref b], []⟩) (fun _ R s => NoT s b "tuple" ∧ R (.ok (.ret .notImplemented)) s) :=
  .of_wp fun prog w A R s h => by
    obtain ⟨hI, h⟩ := h
    have hh : ∀ {A' : Around} {Q : Bool → Shared → Prop} {E : Value → Shared → Prop}, Q false s → wpAny (model prog w) A' (isInstance (.ref b) (.type "tuple")) Q E s := fun q => (hI _).here q
    obtain ⟨hp, g, d, tk, os⟩ := s
    wp_walk using hh
    exact ⟨_, rfl, h⟩
theorem tuple_ne (l b : Addr) : Meets (Builtin.«tuple.__ne__» ⟨[.ref l, .ref b], []⟩) (fun _ R s => NoT s b "tuple" ∧ R (.ok (.ret .notImplemented)) s) :=
  .of_wp fun prog w A R s h => by
    obtain ⟨hI, h⟩ := h
    have hh : ∀ {A' : Around} {Q : Bool → Shared → Prop} {E : Value → Shared → Prop}, Q false s → wpAny (model prog w) A' (isInstance (.ref b) (.type "tuple")) Q E s := fun q => (hI _).here q
    obtain ⟨hp, g, d, tk, os⟩ := s
    wp_walk using hh
    exact ⟨_, rfl, h⟩
theorem dict_eq (l b : Addr) (es : Array DictEntry) (ep : Nat) (dd : Option Addr) (sl : Array (Option Value)) : Meets (Builtin.«dict.__eq__» ⟨[.ref l, .ref b], []⟩) (fun _ R s => s.heap.get? l = some (EQD.dO es ep dd sl) ∧ NoT s b "dict" ∧ R (.ok (.ret .notImplemented)) s) :=
  .of_wp fun prog w A R s h => by
    obtain ⟨hl, hI, h⟩ := h
    have hh : ∀ {A' : Around} {Q : Bool → Shared → Prop} {E : Value → Shared → Prop}, Q false s → wpAny (model prog w) A' (isInstance (.ref b) (.type "dict")) Q E s := fun q => (hI _).here q
    obtain ⟨hp, g, d, tk, os⟩ := s
    wp_walk using hh, wpAny_loadPart' hl
    exact ⟨_, rfl, h⟩
theorem dict_ne (l b : Addr) (es : Array DictEntry) (ep : Nat) (dd : Option Addr) (sl : Array (Option Value)) : Meets (Builtin.«dict.__ne__» ⟨[.ref l, .ref b], []⟩) (fun _ R s => s.heap.get? l = some (EQD.dO es ep dd sl) ∧ NoT s b "dict" ∧ R (.ok (.ret .notImplemented)) s) :=
  .of_wp fun prog w A R s h => by
    obtain ⟨hl, hI, h⟩ := h
    have hh : ∀ {A' : Around} {Q : Bool → Shared → Prop} {E : Value → Shared → Prop}, Q false s → wpAny (model prog w) A' (isInstance (.ref b) (.type "dict")) Q E s := fun q => (hI _).here q
    obtain ⟨hp, g, d, tk, os⟩ := s
    wp_walk using hh, wpAny_loadPart' hl
    exact ⟨_, rfl, h⟩
end OWQ
set_option Elab.async false
set_option linter.all false
set_option maxRecDepth 100000
set_option maxHeartbeats 4000000
/-! INO: x in xs, xs a list of instances of an own class with an own __eq__, x one of them. -/
namespace INO
open PySem PySem.Spec PyProof.Rows L2
open PySem.MeetsSeq
section
variable {X : Cx} {n k : Nat} {C : Addr} {sp : Sp}
theorem eqB (S : OW.Spc X.prog X.w X.K X.mg X.base k C "__eq__" sp) {A : Around} (sb : Sub X n A) (kn : k ≤ n) {pins : List (Addr × Obj)} {s : Shared} {σ : L2.St} {H : Hp} {a b da db : Addr} {fa fb : List (Str × V)} (I : Inv X pins σ H s)
    (hb : H b = some (.ins C db fb)) (ha : H a = some (.ins C da fa)) (hsp : sp [.ref b, .ref a] H (fun v H' => ∃ z, v = .bl z ∧ Ext H H') E0) :
    wpAny (model X.prog X.w) A (eqBool (.ref b) (.ref a)) (fun r s' => (b = a → r = true) ∧ ∃ H', Inv X pins σ H' s' ∧ Ext H H') X.xe s := by
  by_cases hne : b = a
  · subst hne
    unfold eqBool
    refine wpAny_holding ?_
    refine wpAny_ite_split (fun _ => ?_) (fun h => absurd (beq_self_eq_true _) h)
    wp_walk
    exact ⟨fun _ => rfl, H, I, Ext.rfl'⟩
  · obtain ⟨f, fd, ps, h1, h2, F, hbi⟩ := S.ex
    obtain ⟨mA, O, _⟩ := ins_get I.hok hb
    obtain ⟨od, J, _⟩ := O.look
    obtain ⟨mB, O', _⟩ := ins_get I.hok ha
    obtain ⟨od', J', _⟩ := O'.look
    obtain ⟨m, hF⟩ := I.fr
    have e0 : Env0 X.prog X.w X.K X.mg X.base A X.stack s H := by
      have z := I.env0
      exact ⟨sb.fr.trans z.frames, z.mod, z.bs, z.bsz, z.funs, z.frf, z.hok, z.bare⟩
    refine GQ.eqBool_refG hne ?_
    refine PySem.W.cmp_K (op := .Eq) (tb := .ref C) sb.room.units0 hF I.ok.mod.kin J J'.type OW.same_first h1 h2 ?_
    refine wpAny_mono (OW.run_at (E' := X.xe) (vs := [.ref b, .ref a]) F hbi (sb.room.mono kn) I e0 (.cons rfl (.cons rfl .nil)) hsp) (fun w s' z => ?_) fun _ _ x => x
    obtain ⟨z', H', I', rz, z, rfl, e⟩ := z
    cases (show w = Value.bool z from rz)
    exact ⟨z, rfl, fun h => absurd h hne, H', I', e⟩
/-- what is asked of the list -/
def Own (C : Addr) (sp : Sp) (H : Hp) (l a : Addr) (bs : List Addr) : Prop := H l = some (.lst (bs.map V.ref)) ∧ a ∈ bs ∧ (∀ b ∈ bs, ∃ d fs, H b = some (.ins C d fs)) ∧ ∀ H', Ext H H' → ∀ b ∈ bs, sp [.ref b, .ref a] H' (fun v H'' => ∃ z, v = .bl z ∧ Ext H' H'') E0
theorem loop (S : OW.Spc X.prog X.w X.K X.mg X.base k C "__eq__" sp) {A : Around} (sb : Sub X n A.in1) (kn : k ≤ n) {pins : List (Addr × Obj)} {σ : L2.St} {H0 : Hp} {l a : Addr} {bs : List Addr} {R : Result → Shared → Prop} (h0 : Own C sp H0 l a bs)
    (hE : ∀ e s', X.xe e s' → R (.error e) s') (fin : ∀ (s' : Shared) (H' : Hp), Inv X pins σ H' s' → Ext H0 H' → R (.ok (.ret (.bool true))) s') {j : Nat} (hj : bs[j]? = some a) :
    ∀ (m i : Nat) (s : Shared) (H : Hp), j - i = m → i ≤ j → Inv X pins σ H s → Ext H0 H →
      wpAny (model X.prog X.w) A.in1 (Builtin.«list.__contains__.loop» ⟨[.ref l, .ref a, rawInt i], []⟩) (fun fin s' => match fin with | .done f => R (.ok f) s' | .again c' => c'.quiet = true ∧ codeAny (model X.prog X.w) A c' R s') (fun e s' => R (.error e) s') s := by
  have hjl : j < bs.length := (List.getElem?_eq_some_iff.mp hj).1
  obtain ⟨hl, ham, hin, hsp⟩ := h0
  intro m
  induction m with
  | zero =>
    intro i s H hm hi I ex
    have hij : i = j := by omega
    subst hij
    obtain ⟨_, its, c, rv, _, e⟩ := I.lstM (ex _ _ hl)
    obtain ⟨u, e1, e2⟩ := rv.get (show (bs.map V.ref)[i]? = some (.ref a) by rw [List.getElem?_map, hj]; rfl)
    cases (show u = Value.ref a from e2)
    have hs : its.toArray[((i : Nat) : Int).toNat]? = some (.ref a) := by simpa using e1
    obtain ⟨d, fs, hb⟩ := hin a ham
    unfold Builtin.«list.__contains__.loop»
    refine wpAny_bind (wpAny_listItems e rfl ?_)
    rw [hs]
    dsimp only
    refine wpAny_bind (wpAny_mono (eqB S sb kn I (ex _ _ hb) (ex _ _ hb) (hsp H ex a ham)) (fun r s' h => ?_) fun e' s' h' => hE e' s' h')
    obtain ⟨hr, H', I', ex'⟩ := h
    rw [hr rfl]
    wp_walk
    exact fin s' H' I' (ex.trans ex')
  | succ m ih =>
    intro i s H hm hi I ex
    have hib : i < bs.length := by omega
    obtain ⟨_, its, c, rv, _, e⟩ := I.lstM (ex _ _ hl)
    obtain ⟨u, e1, e2⟩ := rv.get (show (bs.map V.ref)[i]? = some (.ref bs[i]) by rw [List.getElem?_map, List.getElem?_eq_getElem hib]; rfl)
    cases (show u = Value.ref bs[i] from e2)
    have hs : its.toArray[((i : Nat) : Int).toNat]? = some (.ref bs[i]) := by simpa using e1
    have hbm := List.getElem_mem hib
    obtain ⟨d, fs, hb⟩ := hin bs[i] hbm
    obtain ⟨da, fa, ha⟩ := hin a ham
    unfold Builtin.«list.__contains__.loop»
    refine wpAny_bind (wpAny_listItems e rfl ?_)
    rw [hs]
    dsimp only
    refine wpAny_bind (wpAny_mono (eqB S sb kn I (ex _ _ hb) (ex _ _ ha) (hsp H ex bs[i] hbm)) (fun r s' h => ?_) fun e' s' h' => hE e' s' h')
    obtain ⟨hr, H', I', ex'⟩ := h
    cases r with
    | true =>
      wp_walk
      exact fin s' H' I' (ex.trans ex')
    | false =>
      have hc : ((i : Int) + 1) = ((i + 1 : Nat) : Int) := by push_cast; rfl
      wp_walk
      rw [hc]
      exact ⟨plainId_quiet plain_contains_loop _, codeAny_builtin entry_contains_loop (by
        rw [Around.under_plainId plain_contains_loop _]
        exact ih (i + 1) s' H' (by omega) (by omega) I' (ex.trans ex'))⟩
def rInO (C : Addr) (sp : Sp) : R2 := fun x y H Q => ∃ (l a : Addr) (bs : List Addr), x = .ref a ∧ y = .ref l ∧ Own C sp H l a bs ∧ ∀ H', Ext H H' → Q (.bl true) H'
theorem op_inO (S : OW.Spc X.prog X.w X.K X.mg X.base k C "__eq__" sp) (hr : Room (k + 1) X.A) : OpR X (compareOp .In) (rInO C sp) := by
  intro pins s σ H x y v u Q I rx ry h
  obtain ⟨l, a, bs, rfl, rfl, h0, q⟩ := h
  cases (show v = Value.ref a from rx)
  cases (show u = Value.ref l from ry)
  obtain ⟨_, its, c, rv, _, e⟩ := I.lstM h0.1
  obtain ⟨j, hjl, hj⟩ := List.getElem_of_mem h0.2.1
  have sb : Sub X k X.A.in1 := ⟨hr.in1, rfl⟩
  show wpAny _ X.A (do return Value.bool (← contains (.ref l) (.ref a))) _ _ s
  have hT : s.TypeIs (.ref l) "list" := ⟨_, e, rfl⟩
  refine wpAny_bind (wpAny_contains_slot hT PySem.F.slot_list_contains (wpAny_mono (call_meetsIn (Q := fun v s2 => v = Value.bool true ∧ ∃ H2, Inv X pins σ H2 s2 ∧ Ext H H2) (B := Builtin.«list.__contains__») (S := fun A R s' => A = X.A ∧ s' = s ∧ (∀ e s', X.xe e s' → R (.error e) s') ∧ ∀ (s' : Shared) (H' : Hp), Inv X pins σ H' s' → Ext H H' → R (.ok (.ret (.bool true))) s')
    PySem.F.slot_list_contains hT PySem.F.entry_list_contains (PySem.F.args_list_contains_2 _ _) ?_ ⟨rfl, rfl, fun e s' z => z, fun s' H' I' ex => ?_⟩) (fun v s' hv => ?_) fun _ _ e => e))
  case refine_1 =>
    intro A R s' hS
    obtain ⟨rfl, rfl, hE, fin⟩ := hS
    unfold Builtin.«list.__contains__»
    wp_walk
    exact ⟨plainId_quiet plain_contains_loop _, codeAny_builtin entry_contains_loop (by
      rw [Around.under_plainId plain_contains_loop _]
      exact loop S sb (Nat.le_refl _) h0 hE fin (j := j) (List.getElem?_eq_some_iff.mpr ⟨hjl, hj⟩) _ 0 s' H rfl (Nat.zero_le _) I Ext.rfl')⟩
  case refine_2 => exact ⟨rfl, H', I', ex⟩
  case refine_3 =>
    obtain ⟨rfl, H', I', ex⟩ := hv
    exact wpAny_truthy_bool (wpAny_pure ⟨.bl true, H', I', rfl, q H' ex⟩)
end
end INO
set_option Elab.async false
set_option linter.all false
set_option maxRecDepth 100000
set_option maxHeartbeats 4000000
/-! GL: promises of defs that are asked only where no repr is under way (A.guards = some []); what such a def may do more: repr of lists and tuples. -/
namespace GL
open PySem PySem.Spec PyProof.Rows L2
/-- a def's promise, where no repr is under way -/
structure FnG (P : Program) (w : World) (K : PySem.W.Frag) (mg : Str → Option Value) (base : Heap) (k : Nat) (f : Addr) (fd : FuncData) (ps : List Str) (sp : Sp) : Prop where
  len : ∀ vs H Q E, sp vs H Q E → vs.length = ps.length
  run : ∀ (A : Around) (outer : List Env) (s : Shared) (H : Hp) (args : Args) (us : List Value) (vs : List V) (Q : VK) (E : XK), A.guards = some [] → Room k A → Env0 P w K mg base A outer s H → BindsTo s fd args (ps.zip us) → Vals vs us → sp vs H Q E →
    codeAny (model P w) A (.call (.ref f) args) (CR CX0 outer P w H s Q E) s
section
variable {P : Program} {w : World} {K : PySem.W.Frag} {mg : Str → Option Value} {base : Heap} {k : Nat} {f : Addr} {fd : FuncData} {ps : List Str} {sp : Sp}
theorem FnG.of (F : FnOk P w K mg base CX0 k f fd ps sp) : FnG P w K mg base k f fd ps sp := ⟨F.len, fun A outer s H args us vs Q E _ => F.run A outer s H args us vs Q E⟩
/-- by its body -/
theorem okG {x qual : Str} {params : Arguments} {body : List Stmt} {scope : Scope} {dvs : List V} {kws : List (Str × V)} {N : List Str} (F : FunD K x qual params body scope dvs kws f fd) (S : FnScope N ps scope) (len : ∀ vs H Q E, sp vs H Q E → vs.length = ps.length)
    (hbody : ∀ (cdv : Value) (A : Around) (outer : List Env) (s : Shared) (H : Hp) (vs : List V) (Q : VK) (E : XK), A.guards = some [] → Room k (A.deeper (envOfC qual scope s.heap.objs.size f cdv)) → sp vs H Q E →
      ∃ t, PSs (cxOf CX0 P w K mg base N qual scope f cdv A outer s H E) body t ∧ t { nx := fun _ H' => Q .non H', rt := Q } (start N vs) H) : FnG P w K mg base (k + 1) f fd ps sp := by
  refine ⟨len, fun A outer s H args us vs Q E hg hr e0 hb r hsp => ?_⟩
  obtain ⟨oc, od, dV, kV, doc, pm, an, cdv, ct, osl, hfd, lk, hcd, _, _⟩ := F.ex
  subst hfd
  obtain ⟨t, ht, hq⟩ := hbody cdv A outer s H vs Q E hg (hr.deeper _) hsp
  have keep : ∀ b o, base.get? b = some o → s.heap.get? b = some o := fun b o e => (e0.bs b o e).1
  have KX : K.In s.heap := e0.mod.kin.keeps keep
  refine codeAny_call_function hr.depth (KX _ _ lk) rfl S.co S.gen rfl (PySem.W.codeRec_of KX hcd) (hb _ _ _ _ (wpAny_newFunctionEnv_cells S.kind (fun y hy => ?_) fun env he s1 x => ?_))
  · exact (S.par y.1 (List.of_mem_zip hy).1).imp id fun q => ⟨q, PySem.W.cellsFrom_some _ _ _ (.inl q)⟩
  · subst he
    refine ⟨(e0.mod.nolimit.keeps keep).keeps x.toInCall.keep, codeAny_func (wpAny_mono (ht.run [] s1 (start N vs) H _ (inv_start S hr.hd e0 (len _ _ _ _ hsp) r x) hq) (fun fl s' hs => ?_) fun e s' hs => hs)⟩
    match fl, hs with
    | .ret u, ⟨v, σ', H', J, rv, q⟩ => exact ⟨v, H', J.os, J.bare, J.base, J.hok, rv, q⟩
    | .next, ⟨σ', H', J, q⟩ => exact ⟨.non, H', J.os, J.bare, J.base, J.hok, rfl, q⟩
    | .brk, ⟨_, _, _, q⟩ => exact q.elim
    | .cont, ⟨_, _, _, q⟩ => exact q.elim
end
/-- the package of a def of this kind -/
structure CalG (P : Program) (w : World) (K : PySem.W.Frag) (mg : Str → Option Value) (base : Heap) (k : Nat) (x : Str) (sp : Sp) (dvs : List V) : Prop where
  ex : ∃ (f : Addr) (fd : FuncData) (ps : List Str) (ds : List Value), FnG P w K mg base k f fd ps sp ∧ mg x = some (.ref f) ∧ PySem.W.keepIn K (.ref f) = true ∧ Binds K fd ps ds ∧ Vals dvs ds
section
variable {X : Cx} {k j : Nat} {x : Str} {sp : Sp} {dvs : List V} {e : Expr} {es : List Expr} {t : TA} {p pos : Pos}
theorem pe_cG (c : CalG X.prog X.w X.K X.mg X.base k x sp dvs) (hgd : X.A.guards = some []) (hr : Room j X.A) (hk : k ≤ j) (hg : Gl X x) (ha : PA X (e :: es) t)
    (hdb : (x == ("__debug__" : Str)) = false := by decide) (he : starEach (e :: es) X.env = (false, eval e X.env) :: starEach es X.env := by rfl) (hpl : (backTo pos (starEach es X.env)).any (·.1) = false := by rfl) :
    PE X (.Call (.Name x p) (e :: es) [] pos) (tCall sp dvs E0 t) := by
  obtain ⟨f, fd, ps, ds, F, hm, kp, b, d⟩ := c.ex
  refine ⟨fun pins s σ H Q I h => wpAny_Call_Name_kw (ld_glob I hg hm (PySem.W.callWith_K (h₀ := X.base) I.ok.mod.kin kp (thn (ha.run pos pins s σ H _ I h) fun us s1 ⟨vs, H1, I1, r, q⟩ => ⟨I1.kIn, ?_⟩) he hpl) hdb)⟩
  have r2 := r.append d
  refine wpAny_call (codeAny_mono (F.run X.A X.stack s1 H1 ⟨us, []⟩ (us ++ ds) (vs ++ dvs) Q E0 hgd (hr.mono hk) I1.env0 (b s1 us I1.kIn (r2.length.symm.trans (F.len _ _ _ _ q))) r2 q) fun r s' hq => ?_)
  match r, hq with
  | .error _, hq => exact hq.elim
  | .ok (.ret u), hq => exact I1.after hq
  | .ok .next, hq => exact hq.elim
  | .ok .brk, hq => exact hq.elim
  | .ok .cont, hq => exact hq.elim
/-- repr of what is flat, of lists and tuples -/
def rRepr (K : PySem.W.Frag) : List V → Hp → VK → Prop := fun xs H Q => ∃ (y : V) (d : PyData), xs = [y] ∧ Dp K H y d ∧ d.showable = true ∧ d.hasDict = false ∧ d.depth ≤ 60 ∧ d.shown.length ≤ sizeLine ∧ Q (.str d.shown) H
theorem call_reprD (hgd : X.A.guards = some []) (hu : X.A.units + 64 < cLine) : CallR X (.builtin "repr") (rRepr X.K) := by
  intro pins s σ H xs us Q I r h
  obtain ⟨y, d, rfl, hd, hs, hn, hdp, hsz, q⟩ := h
  obtain ⟨u, rfl, ru⟩ := r.one
  obtain ⟨as, rd⟩ := Dp.reads I d y u hd ru
  have fin : ∀ h' tk t, (∀ b o, s.heap.get? b = some o → h'.get? b = some o) → EP X pins σ Q (.str d.shown t) { s with heap := h', toks := tk } := fun h' tk t hk => ⟨.str d.shown, H, I.kept hk, ⟨t, rfl⟩, q⟩
  cases hd with
  | non => cases ru; exact PySem.P.repr_of_none (fin s.heap _ _ fun _ _ e => e)
  | bl b => cases ru; exact PySem.P.repr_of_bool (fin s.heap _ _ fun _ _ e => e)
  | int i =>
    obtain ⟨t, rfl⟩ := ru
    exact PySem.P.repr_of_int (of_decide_eq_true hs) (fin s.heap _ _ fun _ _ e => e)
  | str z =>
    obtain ⟨t, rfl⟩ := ru
    exact PySem.P.repr_of_str (fin s.heap _ _ fun _ _ e => e) hsz
  | lst _ _ =>
    cases ru
    exact repr_of_reads' rd hs (fun z => absurd z (by rw [hn]; decide)) hgd (by omega) (fun _ _ e => e) (fun h' u tk hk => fin h' tk u hk) hsz
  | tup _ _ =>
    cases ru
    exact repr_of_reads' rd hs (fun z => absurd z (by rw [hn]; decide)) hgd (by omega) (fun _ _ e => e) (fun h' u tk hk => fin h' tk u hk) hsz
end
end GL
set_option Elab.async false
set_option linter.all false
set_option maxRecDepth 100000
set_option maxHeartbeats 4000000
/-! RPO: repr of lists, tuples and dicts that hold own instances, of any depth. -/
namespace RPO
open PySem PySem.Spec PyProof.Rows L2
open Builtin Builtin.List
/-- the guards stand on these alone -/
def Gd (g : List Code) (outs : List Addr) : Prop := ∀ id v rest kw, Code.builtin id ⟨v :: rest, kw⟩ ∈ g → ∃ a ∈ outs, v = .ref a
theorem Gd.nil : Gd [] [] := fun _ _ _ _ h => nomatch h
theorem Gd.cons {g : List Code} {outs : List Addr} {id : String} {a : Addr} {rest : List Value} {kw : List (Str × Value)} (h : Gd g outs) : Gd (.builtin id ⟨.ref a :: rest, kw⟩ :: g) (a :: outs) := by
  intro id' v rest' kw' hm
  rcases List.mem_cons.mp hm with e | hm
  · cases e
    exact ⟨a, List.mem_cons_self, rfl⟩
  · obtain ⟨b, hb, e⟩ := h _ _ _ _ hm
    exact ⟨b, List.mem_cons_of_mem _ hb, e⟩
theorem Gd.clear {g : List Code} {outs : List Addr} {a : Addr} (h : Gd g outs) (n : a ∉ outs) : Clear g a := fun id v rest kw hm e => by
  obtain ⟨b, hb, e2⟩ := h id v rest kw hm
  rw [e] at e2
  cases e2
  exact n hb
/-- all but these are as they were -/
def Ex (outs : List Addr) (H H' : Hp) : Prop := ∀ a o, H a = some o → a ∉ outs → H' a = some o
theorem Ex.refl (outs : List Addr) (H : Hp) : Ex outs H H := fun _ _ h _ => h
theorem Ex.ext {outs : List Addr} {H H1 H2 : Hp} (x : Ex outs H H1) (e : Ext H1 H2) : Ex outs H H2 := fun a o h n => e a o (x a o h n)
theorem Ex.more {outs : List Addr} {H H1 : Hp} {a : Addr} (x : Ex outs H H1) : Ex (a :: outs) H H1 := fun b o h n => x b o h fun z => n (List.mem_cons_of_mem _ z)
section
variable {X : Cx}
/-- what a thing shows as, within containers at outs -/
def RpU (X : Cx) (n : Nat) (outs : List Addr) (H0 : Hp) (v : V) (t : Str) : Prop := ∀ (A : Around) (g : List Code) (pins : List (Addr × Obj)) (s : Shared) (σ : L2.St) (H : Hp) (u : Value) (bs : Nat),
  Ex outs H0 H → Sub X n A → A.guards = some g → Gd g outs → Inv X pins σ H s → RelV v u → bs + t.length ≤ sizeLine →
  wpAny (model X.prog X.w) A (pyReprUnder bs u) (fun r s' => r = t ∧ ∃ H', Inv X pins σ H' s' ∧ Ext H H') X.xe s
theorem RpU.mono {n m : Nat} {outs : List Addr} {H0 : Hp} {v : V} {t : Str} (h : RpU X n outs H0 v t) (nm : n ≤ m) : RpU X m outs H0 v t := fun A g pins s σ H u bs x sb => h A g pins s σ H u bs x (sb.mono nm)
theorem RpU.non {n : Nat} {outs : List Addr} {H0 : Hp} : RpU X n outs H0 .non "None" := fun A g pins s σ H u bs x sb hg gd I r hb => by
  cases r
  exact ReprIs.none bs hb _ _ _ _ fun tk => ⟨rfl, H, I.tok tk, Ext.rfl'⟩
theorem RpU.bl {n : Nat} {outs : List Addr} {H0 : Hp} {b : Bool} : RpU X n outs H0 (.bl b) (if b then "True" else "False") := fun A g pins s σ H u bs x sb hg gd I r hb => by
  cases r
  exact ReprIs.bool b bs hb _ _ _ _ fun tk => ⟨rfl, H, I.tok tk, Ext.rfl'⟩
theorem RpU.int {n : Nat} {outs : List Addr} {H0 : Hp} {i : Int} (h : i.natAbs.log2 < 1920) : RpU X n outs H0 (.int i) (toString i) := fun A g pins s σ H u bs x sb hg gd I r hb => by
  obtain ⟨t, rfl⟩ := r
  exact ReprIs.int t h bs hb _ _ _ _ fun tk => ⟨rfl, H, I.tok tk, Ext.rfl'⟩
theorem RpU.str {n : Nat} {outs : List Addr} {H0 : Hp} {z : Str} : RpU X n outs H0 (.str z) (reprText z) := fun A g pins s σ H u bs x sb hg gd I r hb => by
  obtain ⟨t, rfl⟩ := r
  exact ReprIs.str z t (by omega) bs hb _ _ _ _ fun tk => ⟨rfl, H, I.tok tk, Ext.rfl'⟩
/-- an own instance, by its own __repr__ -/
theorem RpU.own {k n : Nat} {outs : List Addr} {H0 : Hp} {a C dx : Addr} {fs : List (Str × V)} {sp : Sp} {t : Str} (S : OW.Spc X.prog X.w X.K X.mg X.base k C "__repr__" sp) (ha : H0 a = some (.ins C dx fs)) (na : a ∉ outs)
    (hsp : ∀ H, H a = some (.ins C dx fs) → sp [.ref a] H (fun v H' => v = .str t ∧ Ext H H') E0) (kn : k ≤ n) : RpU X n outs H0 (.ref a) t := fun A g pins s σ H u bs x sb hg gd I r hb => by
  obtain ⟨f, fd, ps, h1, h2, F, hbi⟩ := S.ex
  cases (show u = Value.ref a from r)
  have ea := x a _ ha na
  obtain ⟨mA, O, _⟩ := ins_get I.hok ea
  obtain ⟨od, J, _⟩ := O.look
  have KI := I.kIn
  have e0 : Env0 X.prog X.w X.K X.mg X.base A X.stack s H := by
    have z := I.env0
    exact ⟨sb.fr.trans z.frames, z.mod, z.bs, z.bsz, z.funs, z.frf, z.hok, z.bare⟩
  refine wpAny_pyReprUnder_ref (by omega) ?_
  unfold pyReprObjUnder pyReprObjBy
  refine wpAny_bind (wpAny_cRoomFor sb.room.units0 ?_)
  refine wpAny_bind (wpAny_bind (J.type.here ((PySem.W.looks_findIn KI h1).here ?_)))
  show wpAny _ _ (if (some (Value.ref f)).isNone = true then _ else _) _ _ _
  rw [if_neg (by simp)]
  have called : wpAny (model X.prog X.w) A (call (.ref f) [.ref a]) (fun v s' => ∃ tk, v = .str t tk ∧ ∃ H', Inv X pins σ H' s' ∧ Ext H H') X.xe s := by
    refine wpAny_mono (OW.run_at (E' := X.xe) (vs := [.ref a]) F hbi (sb.room.mono kn) I e0 (.cons rfl .nil) (hsp H ea)) (fun w s' z => ?_) fun _ _ x => x
    obtain ⟨z', H', I', rz, z, e⟩ := z
    rw [z] at rz
    obtain ⟨tk, rfl⟩ := rz
    exact ⟨tk, rfl, H', I', e⟩
  refine wpAny_bind (m := callSpecialIfBoundBy? _ (.ref a) (Str.ofString "__repr__")) ?_
  have fin : wpAny (model X.prog X.w) A (callSpecialIfBoundBy? (fun g first => match reprUnder? g, first with | some twin, [self] => call twin [self, rawInt bs] | _, _ => call g (first ++ [])) (.ref a) (Str.ofString "__repr__"))
      (fun r s' => ∃ tk, r = some (.str t tk) ∧ ∃ H', Inv X pins σ H' s' ∧ Ext H H') X.xe s := by
    simp only [callSpecialIfBoundBy?, bindSpecialIfBound?]
    refine wpAny_holding (wpAny_bind (wpAny_bind (wpAny_bind (J.type.here ((PySem.W.looks_findIn KI h1).here ?_)))))
    refine wpAny_bind (wpAny_askSetting (wpAny_ite ?_))
    have ends : wpAny (model X.prog X.w) A (call (.ref f) ([.ref a] ++ []) >>= fun v => pure (some v)) (fun r s' => ∃ tk, r = some (.str t tk) ∧ ∃ H', Inv X pins σ H' s' ∧ Ext H H') X.xe s :=
      wpAny_bind (wpAny_mono called (fun v s' h' => wpAny_pure (by obtain ⟨tk, rfl, h⟩ := h'; exact ⟨tk, rfl, h⟩)) fun _ _ h' => h')
    split
    · exact wpAny_bind ((PySem.W.bind_fn KI _ (beq_iff_eq.mp h2)).here (wpAny_pure (by exact ends)))
    · exact wpAny_tryCatch (wpAny_bind ((PySem.W.bind_fn KI _ (beq_iff_eq.mp h2)).here (wpAny_pure (by exact ends))))
  refine wpAny_mono fin (fun r s' h' => ?_) fun _ _ x => x
  obtain ⟨tk, rfl, h⟩ := h'
  exact wpAny_bind (wpAny_isInstance (T := "str") (b := true) rfl isSubtype_str_str (wpAny_pure ⟨_, _, rfl, rfl, h⟩))
end
end RPO
set_option Elab.async false
set_option linter.all false
set_option maxRecDepth 100000
set_option maxHeartbeats 4000000
/-! RPL: the containers of RPO: lists, tuples, dicts. -/
namespace RPO
open PySem PySem.Spec PyProof.Rows L2
open Builtin Builtin.List
theorem strs_of : ∀ {ts : List Str} {us : List Value}, Vals (ts.map V.str) us → ∃ done : List (Str × Tok), us = strValues done ∧ done.map (·.1) = ts
  | [], _, .nil => ⟨[], rfl, rfl⟩
  | t :: ts, _, .cons r h => by
    obtain ⟨tk, rfl⟩ := r
    obtain ⟨done, rfl, e⟩ := strs_of h
    exact ⟨(t, tk) :: done, rfl, by simp [e]⟩
theorem sub_loop {X : Cx} {n : Nat} {A : Around} {args : Args} (h : Sub X (n + 1) A) : Sub X n (A.under (.builtin "list.__repr__.loop" args)) := by
  have hd : (A.under (.builtin "list.__repr__.loop" args)).depth ≤ A.depth + 1 := by
    first | exact Nat.le_refl _ | simp [Around.under, Code.weight, Code.isCreation, Code.isGuard, Code.isCaller, Code.frames, Code.isFrame, guardIds]
  have hu := units_under_list_loop A args
  have hf : (A.under (.builtin "list.__repr__.loop" args)).frames = A.frames := by
    have e : (Code.builtin "list.__repr__.loop" args).envs = [] := by first | rfl | simp [Code.envs, Code.isFrame]
    have e2 : (A.under (.builtin "list.__repr__.loop" args)).frames = pushEnvs (Code.envs (.builtin "list.__repr__.loop" args)) A.frames := by first | rfl | simp [Around.under]
    rw [e2, e]
    cases A.frames <;> first | rfl | simp [pushEnvs]
  obtain ⟨⟨h1, h2, h3⟩, h4⟩ := h
  exact ⟨⟨h1, by omega, by rw [hu]; omega⟩, hf.trans h4⟩
section
variable {X : Cx} {n : Nat} {outs : List Addr} {H0 : Hp} {a : Addr} {xs : List V} {ts : List Str}
theorem list_loop {A : Around} {g : List Code} {P : Addr} {bs : Nat} {pins : List (Addr × Obj)} {σ : L2.St} {Hb : Hp} {R : Result → Shared → Prop} (sb : Sub X (n + 1) A) (hg : A.guards = some g) (gd : Gd g outs) (ha : Hb a = some (.lst xs)) (hP : Hb P = none) (xe : Ex outs H0 Hb) (hlen : ts.length = xs.length)
    (hT : ∀ (i : Nat) (x : V), xs[i]? = some x → ∃ t, ts[i]? = some t ∧ RpU X n (a :: outs) H0 x t) (hsz : bs + (listText ts).length ≤ sizeLine)
    (hE : ∀ e s', X.xe e s' → R (.error e) s')
    (fin : ∀ (s' : Shared) (H' : Hp) (u : Tok), Inv X pins σ H' s' → Ext Hb H' → R (.ok (.ret (.str (listText ts) u))) s') :
    ∀ (k i : Nat) (s : Shared) (H : Hp), xs.length - i = k → i ≤ xs.length → Inv X pins σ H s → Ext Hb H → H P = some (.lst ((ts.take i).map V.str)) →
      codeAny (model X.prog X.w) A (.builtin "list.__repr__.loop" ⟨[.ref a, rawInt i, .ref P, rawInt ((bs + piled (ts.take i) : Nat) : Int)], []⟩) R s := by
  have hX : (listText ts).length = (textFrom 0 "[" ts).length + 1 := by
    show (textFrom 0 "[" ts ++ "]").length = _
    rw [strLen_append]; rfl
  have hL := textFrom_len ts 0 "["
  have each : ∀ t ∈ ts, t.length ≤ sizeLine := fun t ht => by
    have := hL.2.1 t ht
    omega
  have many : ts.length ≤ sizeLine := by
    have h1 := hL.1
    rw [if_neg (Nat.lt_irrefl 0)] at h1
    omega
  have hp3 := piled_le_listText ts
  have uu : A.in1.units < cLine := by have := sb.room.un; show A.units + 1 < cLine; omega
  intro k
  induction k with
  | zero =>
    intro i s H hk hi I eb hPi
    have hin : i = ts.length := by omega
    obtain ⟨_, its, m, rv, _, e⟩ := I.lstM (eb _ _ ha)
    obtain ⟨_, ups, c, rp, _, ep⟩ := I.lstM hPi
    have nits : its[i]? = none := by
      have := rv.length
      exact List.getElem?_eq_none (by omega)
    refine codeAny_builtin F.entry_list_repr_loop ?_
    show wpAny _ _ («list.__repr__.loop» ⟨[.ref a, .int i 0, .ref P, .int ((bs + piled (ts.take i) : Nat) : Int) 0], []⟩) _ _ s
    rw [repr_loop_tree]
    refine wpAny_bind (wpAny_listItems e rfl ?_)
    have hnone : its.toArray[((i : Int)).toNat]? = none := by simpa using nits
    simp only [hnone]
    unfold reprEnd
    refine wpAny_bind (wpAny_listItems ep rfl ?_)
    obtain ⟨done, rfl, ed⟩ := strs_of rp
    rw [show (strValues done).toArray.toList = strValues done from by simp, repr_fold]
    refine wpAny_bind (wpAny_pure ?_)
    have hall : done.map (·.1) = ts := by rw [ed, hin, List.take_length]
    rw [hall]
    refine wpAny_bind (wpAny_mkStr (wpAny_pure ?_) (by show (listText ts).length ≤ sizeLine; omega))
    exact fin _ H _ (I.tok _) eb
  | succ k ih =>
    intro i s H hk hi I eb hPi
    have hlt : i < xs.length := by omega
    obtain ⟨t, ht, hrep⟩ := hT i xs[i] (List.getElem?_eq_getElem hlt)
    obtain ⟨_, its, m, rv, lv, e⟩ := I.lstM (eb _ _ ha)
    have hlt2 : i < its.length := by omega
    have rvi : RelV xs[i] its[i] := by
      obtain ⟨u, e1, e2⟩ := rv.get (List.getElem?_eq_getElem hlt)
      rw [List.getElem?_eq_getElem hlt2] at e1
      cases e1
      exact e2
    have hp1 := piled_take_succ ht
    have hp2 := piled_take_le ts (i + 1)
    refine codeAny_builtin F.entry_list_repr_loop ?_
    show wpAny _ _ («list.__repr__.loop» ⟨[.ref a, .int i 0, .ref P, .int ((bs + piled (ts.take i) : Nat) : Int) 0], []⟩) _ _ s
    rw [repr_loop_tree]
    refine wpAny_bind (wpAny_listItems e rfl ?_)
    have hsome : its.toArray[((i : Int)).toNat]? = some its[i] := by simp [hlt2]
    simp only [hsome]
    rw [Int.toNat_natCast]
    refine wpAny_bind (wpAny_holding (wpAny_mono (hrep _ _ pins s σ H its[i] (bs + piled (ts.take i) + 1) ((xe.ext eb).more) (sub_loop sb) (guards_under_guard (isGuard_list_loop _) hg) gd.cons I rvi (by omega)) (fun r s2 h2 => ?_) fun e' s' h' => hE e' s' h'))
    obtain ⟨rfl, H2, I2, e2⟩ := h2
    refine wpAny_bind (wpAny_mkStr ?_ (each r (List.mem_of_getElem? ht)))
    have hP2 := e2 _ _ hPi
    obtain ⟨_, ups, c, rp, _, ep⟩ := I2.lstM hP2
    refine wpAny_bind ?_
    show wpAny _ _ (updateSeq P _) _ _ _
    have lp := rp.length
    rw [List.length_map, List.length_take] at lp
    refine wpAny_updateSeq ep rfl (wpAny_pure ⟨F.quiet_list_repr_loop _, ?_⟩) (by rw [List.size_toArray]; omega) (by rw [Array.size_push, List.size_toArray]; omega)
    have e1' : ((i : Int) + 1) = ((i + 1 : Nat) : Int) := by omega
    have e2' : bs + piled (ts.take i) + (r.length + 2) = bs + piled (ts.take (i + 1)) := by omega
    rw [e1', e2']
    have I3 := I2.lset (its' := ups ++ [.str r s2.toks]) (f := fun x => x.push (.str r s2.toks)) (t' := s2.toks + 1) hP2 ep (by simp) (ys := (ts.take (i + 1)).map V.str) (by
      rw [List.take_add_one, ht, List.map_append]
      exact rp.append (.cons ⟨_, rfl⟩ .nil)) (by rw [List.length_map, List.length_take]; omega)
    exact ih (i + 1) _ _ (by omega) hlt I3 (fun b o hb => by
      rw [upd_ne (fun z => by rw [z, hP] at hb; cases hb)]
      exact e2 _ _ (eb _ _ hb)) upd_same
end
end RPO
set_option Elab.async false
set_option linter.all false
set_option maxRecDepth 100000
set_option maxHeartbeats 4000000
namespace RPO
open PySem PySem.Spec PyProof.Rows L2
open Builtin Builtin.List
/-- things one by one -/
inductive RpAll (X : Cx) (n : Nat) (outs : List Addr) (H0 : Hp) : List V → List Str → Prop
  | nil : RpAll X n outs H0 [] []
  | cons {v : V} {t : Str} {vs : List V} {ts : List Str} : RpU X n outs H0 v t → RpAll X n outs H0 vs ts → RpAll X n outs H0 (v :: vs) (t :: ts)
theorem RpAll.len {X : Cx} {n : Nat} {outs : List Addr} {H0 : Hp} : ∀ {vs : List V} {ts : List Str}, RpAll X n outs H0 vs ts → ts.length = vs.length
  | _, _, .nil => rfl
  | _, _, .cons _ h => by rw [List.length_cons, List.length_cons, h.len]
theorem RpAll.get {X : Cx} {n : Nat} {outs : List Addr} {H0 : Hp} : ∀ {vs : List V} {ts : List Str}, RpAll X n outs H0 vs ts → ∀ (i : Nat) (x : V), vs[i]? = some x → ∃ t, ts[i]? = some t ∧ RpU X n outs H0 x t
  | _, _, .nil, _, _, h => by simp at h
  | _, _, .cons r h, 0, _, e => by
    simp at e
    subst e
    exact ⟨_, rfl, r⟩
  | _, _, .cons r h, i + 1, x, e => by
    obtain ⟨t, e1, e2⟩ := h.get i x (by simpa using e)
    exact ⟨t, by simpa using e1, e2⟩
section
variable {X : Cx} {n : Nat} {outs : List Addr} {H0 : Hp} {a : Addr} {xs : List V} {ts : List Str}
/-- what is asked of the end of a text -/
def Told (X : Cx) (pins : List (Addr × Obj)) (σ : L2.St) (H : Hp) (t : Str) (v : Value) (s' : Shared) : Prop := ∃ tk, v = .str t tk ∧ ∃ H', Inv X pins σ H' s' ∧ Ext H H'
theorem list_at {A : Around} {g : List Code} {bs : Nat} {pins : List (Addr × Obj)} {σ : L2.St} {s : Shared} {H : Hp} {Q : Value → Shared → Prop} (sb : Sub X (n + 1) A) (hg : A.guards = some g) (gd : Gd g outs) (I : Inv X pins σ H s) (ha : H a = some (.lst xs)) (na : a ∉ outs) (xe : Ex outs H0 H) (hx : xs ≠ [])
    (hT : RpAll X n (a :: outs) H0 xs ts) (hsz : bs + (listText ts).length ≤ sizeLine) (fin : ∀ v s', Told X pins σ H (listText ts) v s' → Q v s') :
    wpAny (model X.prog X.w) A.in1 (Builtin.listReprAt bs ⟨[.ref a], []⟩) (fun fin s' => match fin with | .done f => callEnd Q X.xe (.ok f) s' | .again c' => c'.quiet = true ∧ codeAny (model X.prog X.w) A c' (callEnd Q X.xe) s') (fun e s' => callEnd Q X.xe (.error e) s') s := by
  obtain ⟨_, its, m, rv, lv, e⟩ := I.lstM ha
  obtain ⟨y, l, rfl⟩ : ∃ y l, its = y :: l := by
    cases its with
    | nil =>
      have : xs.length = 0 := lv
      exact absurd (List.length_eq_zero_iff.mp this) hx
    | cons y l => exact ⟨y, l, rfl⟩
  refine wpAny_list_repr_head (A := A.in1) hg (fun v rest kw hm => listSameRef_of_ne ((gd.clear na) _ _ _ _ hm)) e rfl ?_
  refine wpAny_bind (m := newList []) (wpAny_newObj_type ?_)
  refine wpAny_pure ⟨F.quiet_list_repr_loop _, ?_⟩
  have I1 := I.lnew (its := []) (ys := []) (t' := s.toks) .nil (Nat.zero_le _)
  have hn := I.fresh
  exact list_loop (n := n) (Hb := H) (R := callEnd Q X.xe) sb hg gd ha hn xe hT.len hT.get hsz (fun _ _ h => h) (fun s' H' u I' e' => fin _ _ ⟨u, rfl, H', I', e'⟩) _ 0 _ _ rfl (Nat.zero_le _) I1 (Ext.upd hn) upd_same
theorem RpU.list (ha : H0 a = some (.lst xs)) (na : a ∉ outs) (hx : xs ≠ []) (hT : RpAll X n (a :: outs) H0 xs ts) : RpU X (n + 1) outs H0 (.ref a) (listText ts) := fun A g pins s σ H u bs x sb hg gd I r hb => by
  cases (show u = Value.ref a from r)
  have ea := x a _ ha na
  obtain ⟨_, its, m, rv, lv, e⟩ := I.lstM ea
  refine wpAny_pyReprUnder_ref (by omega) (wpAny_pyReprObjUnder_twin (twin := "list.__repr__.under") ⟨_, e, rfl⟩ F.slot_list_repr.toG rfl sb.room.units0
    (call_twin_plain F.plain_list_repr_under F.entry_list_repr_under F.check_list_repr_under ⟨_, e, rfl⟩ F.slot_list_repr.toG (F.args_list_repr_1 _) (list_at sb hg gd I ea na x hx hT hb fun v s' h => ?_)))
  obtain ⟨tk, rfl, h⟩ := h
  exact ⟨⟨_, _, rfl⟩, _, _, rfl, rfl, h⟩
theorem RpU.list0 (ha : H0 a = some (.lst [])) (na : a ∉ outs) : RpU X n outs H0 (.ref a) "[]" := fun A g pins s σ H u bs x sb hg gd I r hb => by
  cases (show u = Value.ref a from r)
  have ea := x a _ ha na
  obtain ⟨_, its, m, rv, lv, e⟩ := I.lstM ea
  obtain rfl : its = [] := List.length_eq_zero_iff.mp lv.symm
  exact wpAny_pyReprUnder_ref (by omega) (wpAny_pyReprObjUnder_list_empty ⟨_, e, rfl⟩ sb.room.units0 e rfl ⟨_, _, rfl, rfl, H, I.tok _, Ext.rfl'⟩)
theorem tup_fold {A : Around} {g : List Code} {pins : List (Addr × Obj)} {σ : L2.St} {Hb : Hp} {Q : (Array Str × Nat) → Shared → Prop} (sb : Sub X n A) (hg : A.guards = some g) (gd : Gd g (a :: outs)) (xe : Ex outs H0 Hb) :
    ∀ {vs : List V} {ts : List Str}, RpAll X n (a :: outs) H0 vs ts → ∀ (us : List Value) (acc : Array Str) (m : Nat) (s : Shared) (H : Hp), Vals vs us → m + piled ts ≤ sizeLine → Inv X pins σ H s → Ext Hb H →
      (∀ s' H', Inv X pins σ H' s' → Ext Hb H' → Q ⟨acc ++ ts.toArray, m + piled ts⟩ s') → wpAny (model X.prog X.w) A (forIn us (⟨acc, m⟩ : (Array Str × Nat)) tupBody) Q X.xe s := by
  intro vs ts h
  induction h with
  | nil =>
    intro us acc m s H rv hm I eb fin
    cases rv
    have h0 := fin s H I eb
    simp only [List.forIn_nil]
    exact wpAny_pure (by simpa [piled] using h0)
  | @cons v t vs ts hr hl ih =>
    intro us acc m s H rv hm I eb fin
    cases rv with
    | @cons _ u _ us r rv =>
      rw [piled_cons] at hm
      rw [List.forIn_cons]
      refine wpAny_bind (wpAny_bind (wpAny_mono (hr A g pins s σ H u (m + 1) (xe.ext eb).more sb hg gd I r (by omega)) (fun r' s2 h2 => ?_) fun _ _ x => x))
      obtain ⟨rfl, H2, I2, e2⟩ := h2
      refine wpAny_pure ?_
      refine ih us (acc.push r') (m + (r'.length + 2)) s2 H2 rv (by omega) I2 (eb.trans e2) fun s' H' I' e' => ?_
      have h1 := fin s' H' I' e'
      have e : m + piled (r' :: ts) = m + (r'.length + 2) + piled ts := by rw [piled_cons]; omega
      rw [e] at h1
      simpa using h1
theorem tup_at {A : Around} {g : List Code} {bs : Nat} {pins : List (Addr × Obj)} {σ : L2.St} {s : Shared} {H : Hp} {Q : Value → Shared → Prop} {id : String} {rest : List Value} (hcg : (Code.builtin id ⟨.ref a :: rest, []⟩).isGuard = true) (sb : Sub X n (A.under (.builtin id ⟨.ref a :: rest, []⟩)))
    (hg : A.guards = some g) (gd : Gd g outs) (I : Inv X pins σ H s) (ha : H a = some (.tup xs)) (na : a ∉ outs) (xe : Ex outs H0 H) (hT : RpAll X n (a :: outs) H0 xs ts) (hsz : bs + (tupleText ts).length ≤ sizeLine) (fin : ∀ v s', Told X pins σ H (tupleText ts) v s' → Q v s') :
    wpOwn (model X.prog X.w) A (.builtin id ⟨.ref a :: rest, []⟩) (Builtin.tupleReprAt bs ⟨[.ref a], []⟩) (fun fin s' => match fin with | .done f => callEnd Q X.xe (.ok f) s' | .again c' => c'.quiet = true ∧ codeAny (model X.prog X.w) A c' (callEnd Q X.xe) s') (fun e s' => callEnd Q X.xe (.error e) s') s := by
  obtain ⟨its, rv, ⟨o, ho, hc, m, hd⟩, hz⟩ := I.tuple (SqT.of (K := X.K) ha)
  have hca : Clear g a := gd.clear na
  have hlen : ts.length = its.length := hT.len.trans rv.length
  have hp := piled_le_tupleText ts
  have hsz0 : (tupleText ts).length ≤ sizeLine := by omega
  rw [tuple_repr_tree, tupleReprUnderWay_eq]
  refine wpOwn_bind (wpOwn_stackTailAny hg (tupGuardF_off _) (tupGuardF_pos _) ?_)
  have hn : (g.any fun c => tupGuardF (.ref a) (c, default)) = false := by
    rw [List.any_eq_false]
    intro c hcm
    rw [tupGuardF_of_clear hca c hcm]
    exact Bool.false_ne_true
  rw [hn]
  refine wpOwn_of_wpAny ?_
  show wpAny _ _ (tupleReprRest bs (.ref a)) _ _ s
  unfold tupleReprRest Builtin.Tuple.tupleItemsOf
  refine wpAny_bind (wpAny_bind (wpAny_seqItems ho hd (wpAny_pure ?_)))
  rw [← Array.forIn_toList]
  refine wpAny_bind (tup_fold (Hb := H) sb (guards_under_guard hcg hg) gd.cons xe hT _ _ _ s H (by simpa using rv) (by omega) I Ext.rfl' fun s' H' I' e' => ?_)
  refine wpAny_bind (wpAny_mkStr (wpAny_pure ?_) (by simpa [tupleText, hlen] using hsz0))
  have h1 := fin (.str (tupleText ts) s'.toks) { s' with toks := s'.toks + 1 } ⟨_, rfl, H', I'.tok _, e'⟩
  simpa [tupleText, hlen] using h1
theorem sub_code {A : Around} {id : String} {args : Args} (h : Sub X (n + 1) A) (hw : (Code.builtin id args).weight ≤ 1) (he : (Code.builtin id args).envs = []) (hu : (A.under (.builtin id args)).units = A.units + 1) : Sub X n (A.under (.builtin id args)) := by
  have e2 : (A.under (.builtin id args)).frames = pushEnvs (Code.envs (.builtin id args)) A.frames := by first | rfl | simp [Around.under]
  have hf : (A.under (.builtin id args)).frames = A.frames := by
    rw [e2, he]
    cases A.frames <;> first | rfl | simp [pushEnvs]
  have hd : (A.under (.builtin id args)).depth = A.depth + (Code.builtin id args).weight := by first | rfl | simp [Around.under]
  obtain ⟨⟨h1, h2, h3⟩, h4⟩ := h
  exact ⟨⟨h1, by omega, by rw [hu]; omega⟩, hf.trans h4⟩
theorem w_tup {args : Args} : (Code.builtin "tuple.__repr__" args).weight ≤ 1 := by
  first | exact Nat.le_refl _ | simp [Code.weight, Code.isCreation, Code.isGuard, Code.isCaller, Code.frames, Code.isFrame, guardIds]
theorem w_tupU {args : Args} : (Code.builtin "tuple.__repr__.under" args).weight ≤ 1 := by
  first | exact Nat.le_refl _ | simp [Code.weight, Code.isCreation, Code.isGuard, Code.isCaller, Code.frames, Code.isFrame, guardIds]
theorem e_b {id : String} {args : Args} (h : (Code.builtin id args).isFrame = false := by rfl) : (Code.builtin id args).envs = [] := by simp [Code.envs, h]
theorem RpU.tup (ha : H0 a = some (.tup xs)) (na : a ∉ outs) (hT : RpAll X n (a :: outs) H0 xs ts) : RpU X (n + 1) outs H0 (.ref a) (tupleText ts) := fun A g pins s σ H u bs x sb hg gd I r hb => by
  cases (show u = Value.ref a from r)
  have ea := x a _ ha na
  obtain ⟨its, rv, ⟨o, ho, hc, m, hd⟩, hz⟩ := I.tuple (SqT.of (K := X.K) ea)
  refine wpAny_pyReprUnder_ref (by omega) (wpAny_pyReprObjUnder_twin (twin := "tuple.__repr__.under") ⟨o, ho, hc⟩ F.slot_tuple_repr rfl sb.room.units0
    (call_twin_own (F.quiet_tuple_repr_under _) F.entry_tuple_repr_under F.check_tuple_repr_under ⟨o, ho, hc⟩ F.slot_tuple_repr (F.args_tuple_repr_1 _)
      (tup_at (isGuard_tuple_repr_under _) (sub_code sb w_tupU e_b (units_under_tuple_repr_under _ _)) hg gd I ea na x hT hb fun v s' h => ?_)))
  obtain ⟨tk, rfl, h⟩ := h
  exact ⟨⟨_, _, rfl⟩, _, _, rfl, rfl, h⟩
/-- repr of a tuple, where no repr is under way -/
def rReprT (X : Cx) (n : Nat) : List V → Hp → VK → Prop := fun ys H Q => ∃ (a : Addr) (xs : List V) (ts : List Str), ys = [.ref a] ∧ H a = some (.tup xs) ∧ RpAll X n [a] H xs ts ∧ (tupleText ts).length ≤ sizeLine ∧ ∀ H', Ext H H' → Q (.str (tupleText ts)) H'
theorem call_reprT (hgd : X.A.guards = some []) (hr : Room (n + 2) X.A) : CallR X (.builtin "repr") (rReprT X n) := by
  intro pins s σ H ys us Q I r h
  obtain ⟨a, xs, ts, rfl, ea, hT, hb, q⟩ := h
  obtain ⟨u, rfl, ru⟩ := r.one
  cases (show u = Value.ref a from ru)
  obtain ⟨its, rv, ⟨o, ho, hc, m, hd⟩, hz⟩ := I.tuple (SqT.of (K := X.K) ea)
  have sb : Sub X (n + 1) X.A.in1 := ⟨hr.in1, rfl⟩
  refine call_repr_slot (by have := hr.un; omega) ⟨o, ho, hc⟩ F.slot_tuple_repr ?_
  refine wpAny_call (codeAny_call_builtin_own (Code.quiet_builtin _ (by decide +kernel)) F.entry_tuple_repr (F.slot_tuple_repr.check _ _ _ _ _ _ _ _ ⟨o, ho, hc⟩ (F.args_tuple_repr_1 _)
    (tup_at (outs := []) (H0 := H) (bs := 0) (isGuard_tuple_repr _) (sub_code sb w_tup e_b (units_under_tuple_repr _ _)) hgd Gd.nil I ea (by simp) (Ex.refl _ _) hT (by omega) fun v s' h => ?_)))
  obtain ⟨tk, rfl, H', I', e⟩ := h
  exact ⟨_, _, rfl, .str _, H', I', ⟨_, rfl⟩, q H' e⟩
end
end RPO
set_option Elab.async false
set_option linter.all false
set_option maxRecDepth 100000
set_option maxHeartbeats 4000000
namespace RPO
open PySem PySem.Spec PyProof.Rows L2
open Builtin Builtin.List
/-- what the entries of a dict show as -/
inductive RpEnt (X : Cx) (n : Nat) (outs : List Addr) (H0 : Hp) : List (Key × V) → List Str → Prop
  | nil : RpEnt X n outs H0 [] []
  | cons {k : Key} {v : V} {tk tv : Str} {kvs : List (Key × V)} {ps : List Str} : RpU X n outs H0 (kV k) tk → RpU X n outs H0 v tv → RpEnt X n outs H0 kvs ps → RpEnt X n outs H0 ((k, v) :: kvs) ((tk ++ ": " ++ tv) :: ps)
section
variable {X : Cx} {n : Nat} {outs : List Addr} {H0 : Hp} {a : Addr} {kvs : List (Key × V)} {ps : List Str}
theorem RpEnt.len : ∀ {kvs : List (Key × V)} {ps : List Str}, RpEnt X n outs H0 kvs ps → ps.length = kvs.length
  | _, _, .nil => rfl
  | _, _, .cons _ _ h => by rw [List.length_cons, List.length_cons, h.len]
theorem RpEnt.get : ∀ {kvs : List (Key × V)} {ps : List Str}, RpEnt X n outs H0 kvs ps → ∀ (i : Nat) (e : Key × V), kvs[i]? = some e → ∃ tk tv : Str, ps[i]? = some (tk ++ ": " ++ tv) ∧ RpU X n outs H0 (kV e.1) tk ∧ RpU X n outs H0 e.2 tv
  | _, _, .nil, _, _, h => by simp at h
  | _, _, .cons r1 r2 h, 0, _, e => by
    simp at e
    subst e
    exact ⟨_, _, rfl, r1, r2⟩
  | _, _, .cons _ _ h, i + 1, x, e => by
    obtain ⟨t1, t2, e1, e2⟩ := h.get i x (by simpa using e)
    exact ⟨t1, t2, by simpa using e1, e2⟩
theorem pairs_at {P : Program} {w : World} : ∀ {es : List DictEntry} {vs : List (Key × Value)}, Pairs (mixKind P w) es vs → ∀ (i : Nat) (kv : Key × Value), vs[i]? = some kv → ∃ e, es[i]? = some e ∧ (mixKind P w).is kv.1 e.key = true ∧ e.val = kv.2
  | _, _, .nil, _, _, h => by simp at h
  | _, _, .cons h1 h2 h, 0, _, e => by
    simp at e
    subst e
    exact ⟨_, rfl, h1, h2⟩
  | _, _, .cons _ _ h, i + 1, kv, e => by
    obtain ⟨en, e1, e2⟩ := pairs_at h i kv (by simpa using e)
    exact ⟨en, by simpa using e1, e2⟩
theorem key_rel {k : Key} {v : Value} (h : keyIs k v = true) : RelV (kV k) v := by
  rcases keyIs_shape h with ⟨i, t, rfl, rfl⟩ | ⟨x, t, rfl, rfl⟩
  · exact ⟨_, rfl⟩
  · exact ⟨_, rfl⟩
theorem kv_at : ∀ {ks : List (Key × V)} {va : List (Key × Value)}, KV ks va → ∀ (i : Nat) (e : Key × V), ks[i]? = some e → ∃ u : Key × Value, va[i]? = some u ∧ e.1 = u.1 ∧ RelV e.2 u.2
  | _, _, .nil, _, _, h => by simp at h
  | _, _, .cons r h, 0, _, e => by
    simp at e
    subst e
    exact ⟨_, rfl, r.1, r.2⟩
  | _, _, .cons _ h, i + 1, x, e => by
    obtain ⟨u, e1, e2⟩ := kv_at h i x (by simpa using e)
    exact ⟨u, by simpa using e1, e2⟩
/-- the entries of a locked dict -/
theorem entry_of {pins : List (Addr × Obj)} {σ : L2.St} {s : Shared} {H : Hp} {o : Obj} (I : Inv X pins σ H s) (h : H a = some (.frz o (.dK kvs))) {es : Array DictEntry} {ep : Nat} (hd : o.data = .dict es ep) (i : Nat) (hi : i < kvs.length) :
    ∃ e, es[i]? = some e ∧ RelV (kV kvs[i].1) e.key ∧ RelV kvs[i].2 e.val := by
  obtain ⟨_, hg, _, es', ep', vs, hd', hs, kv, o2, es2, g2, x2, d2, k2, p2, _⟩ := I.frzK h
  rw [hg] at g2
  cases g2
  rw [hd] at d2
  cases d2
  obtain ⟨u, e1, e2, e3⟩ := kv_at kv i kvs[i] (List.getElem?_eq_getElem hi)
  obtain ⟨e, f1, f2, f3⟩ := pairs_at p2 i u e1
  refine ⟨e, by simpa using f1, ?_, by rw [f3]; exact e3⟩
  rw [e2]
  exact key_rel f2
theorem dct_at {A : Around} {g : List Code} {bs : Nat} {pins : List (Addr × Obj)} {σ : L2.St} {s : Shared} {H : Hp} {Q : Value → Shared → Prop} {id : String} {rest : List Value} (hcg : (Code.builtin id ⟨.ref a :: rest, []⟩).isGuard = true) (sb : Sub X n (A.under (.builtin id ⟨.ref a :: rest, []⟩)))
    (hg : A.guards = some g) (gd : Gd g outs) (I : Inv X pins σ H s) (ha : H a = some (.dK kvs)) (na : a ∉ outs) (xe : Ex outs H0 H) (hT : RpEnt X n (a :: outs) H0 kvs ps) (hsz : bs + (dictText ps).length ≤ sizeLine) (fin : ∀ v s', Told X pins σ H (dictText ps) v s' → Q v s') :
    wpOwn (model X.prog X.w) A (.builtin id ⟨.ref a :: rest, []⟩) (Builtin.dictReprAt bs ⟨[.ref a], []⟩) (fun fin s' => match fin with | .done f => callEnd Q X.xe (.ok f) s' | .again c' => c'.quiet = true ∧ codeAny (model X.prog X.w) A c' (callEnd Q X.xe) s') (fun e s' => callEnd Q X.xe (.error e) s') s := by
  have mu : Mut (some (HO.dK kvs)) := trivial
  have nf := I.nofrz ha mu
  obtain ⟨o, I1⟩ := I.lock ha mu
  have e1 : (upd H a (.frz o (.dK kvs))) a = some (.frz o (.dK kvs)) := upd_same
  have x1 : Ex (a :: outs) H0 (upd H a (.frz o (.dK kvs))) := fun b u e nb => by
    rw [upd_ne fun z => nb (by rw [z]; exact List.mem_cons_self)]
    exact xe b u e fun z => nb (List.mem_cons_of_mem _ z)
  have back : ∀ {H' : Hp} {s' : Shared}, Inv X pins σ H' s' → Ext (upd H a (.frz o (.dK kvs))) H' → ∃ H2, Inv X pins σ H2 s' ∧ Ext H H2 := fun {H' s'} I' e' => by
    refine ⟨_, I'.unlock (e' _ _ e1) nf, fun b u e => ?_⟩
    by_cases hb : b = a
    · subst hb
      rw [upd_same, ← e, ha]
    · rw [upd_ne hb]
      refine e' _ _ ?_
      rw [upd_ne hb]
      exact e
  generalize upd H a (.frz o (.dK kvs)) = H1 at I1 e1 x1 back
  obtain ⟨hsys, hget, hex, es, ep, vs, hd, hsize, _, _⟩ := I1.frzK e1
  have got : ∀ {H' : Hp} {s' : Shared}, Inv X pins σ H' s' → Ext H1 H' → s'.heap.get? a = some o := fun I' e' => (I'.frzK (e' _ _ e1)).2.1
  have hTy : s.TypeIs (.ref a) "dict" := ⟨o, hget, hex.1⟩
  have hca : Clear g a := gd.clear na
  have hlen : ps.length = es.size := hT.len.trans hsize.symm
  have hp3 := piled_le_dictText ps
  have hsz0 : (dictText ps).length ≤ sizeLine := by omega
  unfold Builtin.dictReprAt
  refine wpOwn_bind (wpOwn_of_wpAny ?_)
  unfold Builtin.Dict.dictSlotNone
  refine wpAny_bind (wpAny_notOrdered_dict hTy ?_)
  show wpAny _ _ (pure (Value.ref a)) _ _ s
  refine wpAny_pure ?_
  rw [dictReprRunning_eq]
  refine wpOwn_bind (wpOwn_stackTailAny hg (dictGuardF_off _) (dictGuardF_pos _) ?_)
  have hn : (g.any fun c => dictGuardF (.ref a) (c, default)) = false := by
    rw [List.any_eq_false]
    intro c hcm
    rw [dictGuardF_of_clear hca c hcm]
    exact Bool.false_ne_true
  rw [hn]
  refine wpOwn_of_wpAny ?_
  have hg' := guards_under_guard hcg hg
  show wpAny _ _ (Builtin.Dict.addrOf (.ref a) >>= _) _ _ s
  refine wpAny_bind (wpAny_pure ?_)
  show wpAny _ _ (Builtin.Dict.showsAll a >>= _) _ _ s
  unfold Builtin.Dict.showsAll
  rw [if_neg (by rw [hsys]; exact Bool.false_ne_true)]
  refine wpAny_bind (wpAny_pure ?_)
  refine wpAny_bind (wpAny_dictEpoch hget hd ?_)
  refine wpAny_bind (wpAny_dictEntries hget hd ?_)
  refine wpAny_bind ?_
  rw [Std.Legacy.Range.forIn_eq_forIn_range']
  simp only [Std.Legacy.Range.size, Nat.sub_zero, Nat.add_sub_cancel, Nat.div_one]
  refine wpAny_forIn_list _
    (fun rest' r s' => ∃ i H', rest' = List.range' i (es.size - i) ∧ i ≤ es.size ∧ r = (⟨(ps.take i).toArray, bs + piled (ps.take i)⟩ : (Array Str × Nat)) ∧ Inv X pins σ H' s' ∧ Ext H1 H')
    _ ?_ ?_ _ _ ⟨0, H1, by simp, Nat.zero_le _, by simp [piled], I1, Ext.rfl'⟩
  · rintro x rest' _ s' ⟨i, H', hr, hi, rfl, I', e'⟩
    have hlt : i < es.size := by
      rcases Nat.lt_or_ge i es.size with h | h
      · exact h
      · rw [Nat.sub_eq_zero_of_le h] at hr; simp at hr
    obtain ⟨rfl, hrest⟩ : x = i ∧ rest' = List.range' (i + 1) (es.size - (i + 1)) := by
      have e : es.size - i = (es.size - (i + 1)) + 1 := by omega
      rw [e, List.range'_succ] at hr
      injection hr with h1 h2
      exact ⟨h1, h2⟩
    have hx2 : x < kvs.length := by omega
    obtain ⟨tk, tv, hp, rk, rv⟩ := hT.get x kvs[x] (List.getElem?_eq_getElem hx2)
    obtain ⟨en, f1, f2, f3⟩ := entry_of I' (e' _ _ e1) hd x hx2
    have hpl : (tk ++ ": " ++ tv).length = tk.length + 2 + tv.length := by
      rw [strLen_append, strLen_append]; rfl
    have hp1 := piled_take_succ hp
    have hp2 := piled_take_le ps (x + 1)
    rw [hpl] at hp1
    refine wpAny_bind (wpAny_dictEntries (got I' e') hd ?_)
    rw [f1]
    refine wpAny_bind (wpAny_holding (wpAny_bind (wpAny_mono (rk _ _ pins s' σ H' en.key (bs + piled (ps.take x) + 1) (x1.ext e') sb hg' gd.cons I' f2 (by omega)) (fun r2 s2 h2 => ?_) fun _ _ z => z)))
    obtain ⟨rfl, H2, I2, e2⟩ := h2
    refine wpAny_bind (wpAny_mono (rv _ _ pins s2 σ H2 en.val (bs + piled (ps.take x) + (r2.length + 3)) (x1.ext (e'.trans e2)) sb hg' gd.cons I2 f3 (by omega)) (fun r3 s3 h3 => ?_) fun _ _ z => z)
    obtain ⟨rfl, H3, I3, e3⟩ := h3
    have e13 := (e'.trans e2).trans e3
    refine wpAny_pure ?_
    refine wpAny_bind (wpAny_dictEpoch (got I3 e13) hd ?_)
    rw [if_neg (by simp)]
    have g1 : (ps.take x).toArray.push (r2 ++ ": " ++ r3) = (ps.take (x + 1)).toArray := by
      rw [List.take_add_one, hp]
      simp
    have g2 : bs + piled (ps.take x) + (r2.length + r3.length + 4) = bs + piled (ps.take (x + 1)) := by omega
    refine wpAny_pure ⟨x + 1, H3, hrest, hlt, ?_, I3, e13⟩
    rw [g1, g2]
  · rintro _ s' ⟨i, H', hr, hi, rfl, I', e'⟩
    have hin : i = es.size := by
      rcases Nat.lt_or_ge i es.size with h | h
      · have e : es.size - i = (es.size - (i + 1)) + 1 := by omega
        rw [e, List.range'_succ] at hr; exact nomatch hr
      · exact Nat.le_antisymm hi h
    rw [hin, ← hlen, List.take_length]
    refine wpAny_bind (wpAny_mkStr (wpAny_pure ?_) (by simpa [dictText] using hsz0))
    have h1 := fin (.str (dictText ps) s'.toks) { s' with toks := s'.toks + 1 } ⟨_, rfl, back (I'.tok _) e'⟩
    simpa [dictText] using h1
theorem w_dct {args : Args} : (Code.builtin "dict.__repr__" args).weight ≤ 1 := by
  first | exact Nat.le_refl _ | simp [Code.weight, Code.isCreation, Code.isGuard, Code.isCaller, Code.frames, Code.isFrame, guardIds]
theorem w_dctU {args : Args} : (Code.builtin "dict.__repr__.under" args).weight ≤ 1 := by
  first | exact Nat.le_refl _ | simp [Code.weight, Code.isCreation, Code.isGuard, Code.isCaller, Code.frames, Code.isFrame, guardIds]
theorem RpU.dct (ha : H0 a = some (.dK kvs)) (na : a ∉ outs) (hT : RpEnt X n (a :: outs) H0 kvs ps) : RpU X (n + 1) outs H0 (.ref a) (dictText ps) := fun A g pins s σ H u bs x sb hg gd I r hb => by
  cases (show u = Value.ref a from r)
  have ea := x a _ ha na
  have mu : Mut (some (HO.dK kvs)) := trivial
  obtain ⟨o, I1⟩ := I.lock ea mu
  obtain ⟨_, hget, hex, _⟩ := I1.frzK (upd_same : (upd H a (.frz o (.dK kvs))) a = _)
  refine wpAny_pyReprUnder_ref (by omega) (wpAny_pyReprObjUnder_twin (twin := "dict.__repr__.under") ⟨o, hget, hex.1⟩ F.slot_dict_repr rfl sb.room.units0
    (call_twin_own (F.quiet_dict_repr_under _) F.entry_dict_repr_under F.check_dict_repr_under ⟨o, hget, hex.1⟩ F.slot_dict_repr (F.args_dict_repr_1 _)
      (dct_at (isGuard_dict_repr_under _) (sub_code sb w_dctU e_b (units_under_dict_repr_under _ _)) hg gd I ea na x hT hb fun v s' h => ?_)))
  obtain ⟨tk, rfl, h⟩ := h
  exact ⟨⟨_, _, rfl⟩, _, _, rfl, rfl, h⟩
/-- repr of a list, of a dict, where no repr is under way -/
def rReprL (X : Cx) (n : Nat) : List V → Hp → VK → Prop := fun ys H Q => ∃ (a : Addr) (xs : List V) (ts : List Str), ys = [.ref a] ∧ H a = some (.lst xs) ∧ xs ≠ [] ∧ RpAll X n [a] H xs ts ∧ (listText ts).length ≤ sizeLine ∧ ∀ H', Ext H H' → Q (.str (listText ts)) H'
theorem call_reprL (hgd : X.A.guards = some []) (hr : Room (n + 2) X.A) : CallR X (.builtin "repr") (rReprL X n) := by
  intro pins s σ H ys us Q I r h
  obtain ⟨a, xs, ts, rfl, ea, hx, hT, hb, q⟩ := h
  obtain ⟨u, rfl, ru⟩ := r.one
  cases (show u = Value.ref a from ru)
  obtain ⟨_, its, m, rv, lv, e⟩ := I.lstM ea
  have sb : Sub X (n + 1) X.A.in1 := ⟨hr.in1, rfl⟩
  refine call_repr_slot (by have := hr.un; omega) ⟨_, e, rfl⟩ F.slot_list_repr.toG ?_
  refine wpAny_call (codeAny_call_builtin F.slot_list_repr.plain F.entry_list_repr (F.slot_list_repr.check _ _ _ _ _ _ _ _ ⟨_, e, rfl⟩ (F.args_list_repr_1 _)
    (list_at (outs := []) (H0 := H) (bs := 0) sb hgd Gd.nil I ea (by simp) (Ex.refl _ _) hx hT (by omega) fun v s' h => ?_)))
  obtain ⟨tk, rfl, H', I', e⟩ := h
  exact ⟨_, _, rfl, .str _, H', I', ⟨_, rfl⟩, q H' e⟩
def rReprDc (X : Cx) (n : Nat) : List V → Hp → VK → Prop := fun ys H Q => ∃ (a : Addr) (kvs : List (Key × V)) (ps : List Str), ys = [.ref a] ∧ H a = some (.dK kvs) ∧ RpEnt X n [a] H kvs ps ∧ (dictText ps).length ≤ sizeLine ∧ ∀ H', Ext H H' → Q (.str (dictText ps)) H'
theorem call_reprDc (hgd : X.A.guards = some []) (hr : Room (n + 2) X.A) : CallR X (.builtin "repr") (rReprDc X n) := by
  intro pins s σ H ys us Q I r h
  obtain ⟨a, kvs, ps, rfl, ea, hT, hb, q⟩ := h
  obtain ⟨u, rfl, ru⟩ := r.one
  cases (show u = Value.ref a from ru)
  have mu : Mut (some (HO.dK kvs)) := trivial
  obtain ⟨o, I1⟩ := I.lock ea mu
  obtain ⟨_, hget, hex, _⟩ := I1.frzK (upd_same : (upd H a (.frz o (.dK kvs))) a = _)
  have sb : Sub X (n + 1) X.A.in1 := ⟨hr.in1, rfl⟩
  refine call_repr_slot (by have := hr.un; omega) ⟨o, hget, hex.1⟩ F.slot_dict_repr ?_
  refine wpAny_call (codeAny_call_builtin_own (Code.quiet_builtin _ (by decide +kernel)) F.entry_dict_repr (F.slot_dict_repr.check _ _ _ _ _ _ _ _ ⟨o, hget, hex.1⟩ (F.args_dict_repr_1 _)
    (dct_at (outs := []) (H0 := H) (bs := 0) (isGuard_dict_repr _) (sub_code sb w_dct e_b (units_under_dict_repr _ _)) hgd Gd.nil I ea (by simp) (Ex.refl _ _) hT (by omega) fun v s' h => ?_)))
  obtain ⟨tk, rfl, H', I', e⟩ := h
  exact ⟨_, _, rfl, .str _, H', I', ⟨_, rfl⟩, q H' e⟩
end
end RPO
set_option Elab.async false
set_option linter.all false
set_option maxRecDepth 100000
set_option maxHeartbeats 4000000
/-! EQB: things of any kind compared one by one: x in a list or tuple, == and != of lists. -/
namespace EQB
open PySem PySem.Spec PyProof.Rows L2
open EQD
theorem relV_inj {x y : V} {u : Value} (h : RelV x u) (h' : RelV y u) : x = y := by
  cases x <;> cases y <;> simp only [L2.RelV] at h h' <;> grind
section
variable {X : Cx}
/-- y == x tells b, and changes nothing -/
def EqB (X : Cx) (y x : V) (H : Hp) (b : Bool) : Prop := ∀ (pins : List (Addr × Obj)) (σ : L2.St) (s : Shared) (v u : Value) (A : Around), Inv X pins σ H s → RelV y v → RelV x u → A.units + 64 < cLine → SeqAt.EqAt A s v u b
theorem EqB.dp {y x : V} {H : Hp} {d e : PyData} (hy : Dp X.K H y d) (hx : Dp X.K H x e) (sd : SeqAt.shaped d = true) (se : SeqAt.shaped e = true) : EqB X y x H (PyData.eqv d e) := fun pins σ s v u A I ry rx hu => by
  obtain ⟨as, r1⟩ := Dp.reads I d y v hy ry
  obtain ⟨bs, r2⟩ := Dp.reads I e x u hx rx
  exact SeqAt.eqAt_reads d e A s v u as bs r1 r2 (SeqAt.canLay_of_shaped sd) (SeqAt.canLay_of_shaped se) (SeqAt.room_of_shaped sd hu)
theorem isDct {pins : List (Addr × Obj)} {σ : L2.St} {s : Shared} {H : Hp} {a : Addr} {kvs : List (Key × V)} (I : Inv X pins σ H s) (h : H a = some (.dK kvs)) : IsDct s.heap a := by
  obtain ⟨_, _, _, _, o, es, ep, e, x, d, _⟩ := I.hok a _ h
  exact ⟨o, es, ep, e, x.1, d⟩
/-- a dict is no data else -/
theorem EqB.dctR {y : V} {a : Addr} {H : Hp} {d : PyData} {kvs : List (Key × V)} (hy : Dp X.K H y d) (h : H a = some (.dK kvs)) : EqB X y (.ref a) H false := fun pins σ s v u A I ry rx hu => by
  have D := isDct I h
  have hu0 : A.units < cLine := by omega
  cases (show u = Value.ref a from rx)
  cases hy with
  | non => cases ry; exact EqAt_none_dict D hu0
  | bl b => cases ry; exact EqAt_bool_dict b D hu0
  | int i => obtain ⟨t, rfl⟩ := ry; exact EqAt_int_dict i t D hu0
  | str z => obtain ⟨t, rfl⟩ := ry; exact EqAt_str_dict z t D hu0
  | lst hs _ =>
    cases ry
    obtain ⟨its, _, ⟨o, n, ho, hc, _, hd⟩, _⟩ := I.list hs
    exact EqAt_list_dict D ⟨o, ho, hc, n, hd⟩ hu0
  | tup hs _ =>
    cases ry
    obtain ⟨its, _, ⟨o, ho, hc, n, hd⟩, _⟩ := I.tuple hs
    exact EqAt_tuple_dict D ⟨o, ho, hc, n, hd⟩ hu0
theorem EqB.dctL {x : V} {a : Addr} {H : Hp} {d : PyData} {kvs : List (Key × V)} (hx : Dp X.K H x d) (h : H a = some (.dK kvs)) : EqB X (.ref a) x H false := fun pins σ s v u A I ry rx hu => by
  have D := isDct I h
  have hu0 : A.units < cLine := by omega
  cases (show v = Value.ref a from ry)
  cases hx with
  | non => cases rx; exact EqAt_dict_none D hu0
  | bl b => cases rx; exact EqAt_dict_bool b D hu0
  | int i => obtain ⟨t, rfl⟩ := rx; exact EqAt_dict_int i t D hu0
  | str z => obtain ⟨t, rfl⟩ := rx; exact EqAt_dict_str z t D hu0
  | lst hs _ =>
    cases rx
    obtain ⟨its, _, ⟨o, n, ho, hc, _, hd⟩, _⟩ := I.list hs
    exact EqAt_dict_list D ⟨o, ho, hc, n, hd⟩ hu0
  | tup hs _ =>
    cases rx
    obtain ⟨its, _, ⟨o, ho, hc, n, hd⟩, _⟩ := I.tuple hs
    exact EqAt_dict_tuple D ⟨o, ho, hc, n, hd⟩ hu0
/-- x in a list or a tuple -/
def rInB (X : Cx) (neg : Bool) : R2 := fun x y H Q => ∃ (p : Addr) (ys : List V) (e : V → Bool), y = .ref p ∧ (SqL X.K H p ys ∨ SqT X.K H p ys) ∧ (∀ z ∈ ys, EqB X z x H (e z)) ∧ Q (.bl (if neg = true then !ys.any e else ys.any e)) H
open Classical in
noncomputable def eOf (ys : List V) (e : V → Bool) (u : Value) : Bool := if h : ∃ z, z ∈ ys ∧ RelV z u then e h.choose else false
theorem eOf_eq {ys : List V} {e : V → Bool} {z : V} {u : Value} (hz : z ∈ ys) (r : RelV z u) : eOf ys e u = e z := by
  have h : ∃ z, z ∈ ys ∧ RelV z u := ⟨z, hz, r⟩
  unfold eOf
  rw [dif_pos h, relV_inj h.choose_spec.2 r]
theorem any_eOf {ws : List V} {e : V → Bool} : ∀ {ys : List V} {its : List Value}, (∀ z ∈ ys, z ∈ ws) → Vals ys its → its.any (eOf ws e) = ys.any e
  | [], _, _, .nil => rfl
  | z :: ys, _, hs, .cons r t => by
    rw [List.any_cons, List.any_cons, eOf_eq (hs z List.mem_cons_self) r, any_eOf (fun x hx => hs x (List.mem_cons_of_mem _ hx)) t]
theorem vals_mem {ys : List V} {its : List Value} (r : Vals ys its) {u : Value} (hu : u ∈ its) : ∃ z, z ∈ ys ∧ RelV z u := by
  induction r with
  | nil => cases hu
  | cons r t ih =>
    rcases List.mem_cons.mp hu with rfl | hu
    · exact ⟨_, List.mem_cons_self, r⟩
    · obtain ⟨z, hz, q⟩ := ih hu
      exact ⟨z, List.mem_cons_of_mem _ hz, q⟩
theorem op_inB (hu : X.A.units + 65 < cLine) : OpR X (compareOp .In) (rInB X false) := by
  intro pins s σ H x y v u Q I rx ry h
  obtain ⟨p, ys, e, rfl, hs, he, q⟩ := h
  cases (show u = Value.ref p from ry)
  have go : ∀ {its : List Value}, Vals ys its → (∀ w, w ∈ its.toArray → SeqAt.EqAt X.A.in1 s w v (eOf ys e w)) := fun {its} r w hw => by
    obtain ⟨z, hz, rz⟩ := vals_mem r (by simpa using hw)
    rw [eOf_eq hz rz]
    exact he z hz pins σ s w v X.A.in1 I rz rx (by show X.A.units + 1 + 64 < cLine; omega)
  rcases hs with hs | hs
  · obtain ⟨its, r, ⟨o, n, ho, hc, _, hd⟩, _⟩ := I.list hs
    refine SeqAt.in_listAt (eOf ys e) ⟨o, ho, hc, n, hd⟩ (go r) ⟨.bl _, H, I, rfl, ?_⟩
    rw [List.any_toArray, any_eOf (fun _ h => h) r]
    exact q
  · obtain ⟨its, r, ⟨o, ho, hc, n, hd⟩, _⟩ := I.tuple hs
    refine SeqAt.in_tupleAt (eOf ys e) ⟨o, ho, hc, n, hd⟩ (go r) ⟨.bl _, H, I, rfl, ?_⟩
    rw [List.any_toArray, any_eOf (fun _ h => h) r]
    exact q
theorem op_notInB (hu : X.A.units + 65 < cLine) : OpR X (compareOp .NotIn) (rInB X true) := by
  intro pins s σ H x y v u Q I rx ry h
  obtain ⟨p, ys, e, rfl, hs, he, q⟩ := h
  cases (show u = Value.ref p from ry)
  have go : ∀ {its : List Value}, Vals ys its → (∀ w, w ∈ its.toArray → SeqAt.EqAt X.A.in1 s w v (eOf ys e w)) := fun {its} r w hw => by
    obtain ⟨z, hz, rz⟩ := vals_mem r (by simpa using hw)
    rw [eOf_eq hz rz]
    exact he z hz pins σ s w v X.A.in1 I rz rx (by show X.A.units + 1 + 64 < cLine; omega)
  rcases hs with hs | hs
  · obtain ⟨its, r, ⟨o, n, ho, hc, _, hd⟩, _⟩ := I.list hs
    refine SeqAt.notIn_listAt (eOf ys e) ⟨o, ho, hc, n, hd⟩ (go r) ⟨.bl _, H, I, rfl, ?_⟩
    rw [List.any_toArray, any_eOf (fun _ h => h) r]
    exact q
  · obtain ⟨its, r, ⟨o, ho, hc, n, hd⟩, _⟩ := I.tuple hs
    refine SeqAt.notIn_tupleAt (eOf ys e) ⟨o, ho, hc, n, hd⟩ (go r) ⟨.bl _, H, I, rfl, ?_⟩
    rw [List.any_toArray, any_eOf (fun _ h => h) r]
    exact q
/-- two lists: of unlike lengths, or compared item by item -/
inductive EqL (X : Cx) (H : Hp) : List V → List V → Bool → Prop
  | len {xs ys : List V} : xs.length ≠ ys.length → EqL X H xs ys false
  | all {xs ys : List V} {e : Nat → Bool} : xs.length = ys.length → (∀ i x y, xs[i]? = some x → ys[i]? = some y → EqB X x y H (e i)) → EqL X H xs ys ((List.range xs.length).all e)
/-- == and != of two lists -/
def rLsB (X : Cx) (neg : Bool) : R2 := fun x y H Q => ∃ (p q : Addr) (xs ys : List V) (b : Bool), x = .ref p ∧ y = .ref q ∧ p ≠ q ∧ SqL X.K H p xs ∧ SqL X.K H q ys ∧ EqL X H xs ys b ∧ Q (.bl (if neg = true then !b else b)) H
theorem items {pins : List (Addr × Obj)} {σ : L2.St} {s : Shared} {H : Hp} {xs ys : List V} {e : Nat → Bool} {its js : List Value} {A : Around} (I : Inv X pins σ H s) (r1 : Vals xs its) (r2 : Vals ys js) (hu : A.units + 64 < cLine) (he : ∀ i x y, xs[i]? = some x → ys[i]? = some y → EqB X x y H (e i)) :
    ∀ j (h1 : j < its.toArray.size) (h2 : j < js.toArray.size), SeqAt.EqAt A s its.toArray[j] js.toArray[j] (e j) := fun j h1 h2 => by
  have l1 := r1.length
  have l2 := r2.length
  have h1' : j < xs.length := by rw [l1]; simpa using h1
  have h2' : j < ys.length := by rw [l2]; simpa using h2
  obtain ⟨u1, e1, q1⟩ := r1.get (List.getElem?_eq_getElem h1')
  obtain ⟨u2, e2, q2⟩ := r2.get (List.getElem?_eq_getElem h2')
  have f1 : its.toArray[j] = u1 := by
    have := (List.getElem?_eq_some_iff.mp e1).2
    simpa using this
  have f2 : js.toArray[j] = u2 := by
    have := (List.getElem?_eq_some_iff.mp e2).2
    simpa using this
  rw [f1, f2]
  exact he j _ _ (List.getElem?_eq_getElem h1') (List.getElem?_eq_getElem h2') pins σ s u1 u2 A I q1 q2 hu
theorem op_eqL (hu : X.A.units + 65 < cLine) : OpR X (compareOp .Eq) (rLsB X false) := by
  intro pins s σ H x y v u Q I rx ry h
  obtain ⟨p, q, xs, ys, b, rfl, rfl, pq, hp, hq, eb, k⟩ := h
  cases (show v = Value.ref p from rx)
  cases (show u = Value.ref q from ry)
  obtain ⟨its, r1, ⟨o, n, ho, hc, _, hd⟩, _⟩ := I.list hp
  obtain ⟨js, r2, ⟨o2, n2, ho2, hc2, _, hd2⟩, _⟩ := I.list hq
  have L1 : s.heap.IsList p its.toArray := ⟨o, ho, hc, n, hd⟩
  have L2' : s.heap.IsList q js.toArray := ⟨o2, ho2, hc2, n2, hd2⟩
  have l1 := r1.length
  have l2 := r2.length
  show wpAny _ _ (richCompare .Eq (.ref p) (.ref q)) _ _ _
  cases eb with
  | len hne => exact SeqAt.RcAt.lists_lengths L1 L2' (by simp; omega) (by omega) _ _ _ _ ⟨.bl _, H, I, rfl, k⟩
  | @all e hl he =>
    have hz : its.toArray.size = js.toArray.size := by simp; omega
    refine SeqAt.RcAt.lists L1 L2' hz (by omega) (items (A := X.A.in1) I r1 r2 (by show X.A.units + 1 + 64 < cLine; omega) he) _ _ _ _ ⟨.bl _, H, I, rfl, ?_⟩
    have : its.toArray.size = xs.length := by simp; omega
    rw [this]
    exact k
theorem op_neL (hu : X.A.units + 65 < cLine) : OpR X (compareOp .NotEq) (rLsB X true) := by
  intro pins s σ H x y v u Q I rx ry h
  obtain ⟨p, q, xs, ys, b, rfl, rfl, pq, hp, hq, eb, k⟩ := h
  cases (show v = Value.ref p from rx)
  cases (show u = Value.ref q from ry)
  obtain ⟨its, r1, ⟨o, n, ho, hc, _, hd⟩, _⟩ := I.list hp
  obtain ⟨js, r2, ⟨o2, n2, ho2, hc2, _, hd2⟩, _⟩ := I.list hq
  have L1 : s.heap.IsList p its.toArray := ⟨o, ho, hc, n, hd⟩
  have L2' : s.heap.IsList q js.toArray := ⟨o2, ho2, hc2, n2, hd2⟩
  have l1 := r1.length
  have l2 := r2.length
  show wpAny _ _ (richCompare .NotEq (.ref p) (.ref q)) _ _ _
  cases eb with
  | len hne => exact SeqAt.RcNeAt.lists_lengths L1 L2' (by simp; omega) (by omega) _ _ _ _ ⟨.bl _, H, I, rfl, k⟩
  | @all e hl he =>
    have hz : its.toArray.size = js.toArray.size := by simp; omega
    refine SeqAt.RcNeAt.lists L1 L2' hz (by omega) (items (A := X.A.in1) I r1 r2 (by show X.A.units + 1 + 64 < cLine; omega) he) _ _ _ _ ⟨.bl _, H, I, rfl, ?_⟩
    have : its.toArray.size = xs.length := by simp; omega
    rw [this]
    exact k
end
end EQB
set_option Elab.async false
set_option linter.all false
set_option maxRecDepth 100000
set_option maxHeartbeats 4000000
/-! THI: THG with the type of each thing, and the text that it is: things of many kinds (None, a bool, a number, a text, lists, tuples, dicts), each with its repr's text. -/
namespace THI
open PySem PySem.Spec PyProof.Rows L2
open Builtin Builtin.List
/-- is it a whole number, a bool, or else -/
inductive Kn where
  | whole (i : Int)
  | flag (b : Bool)
  | text (s : Str)
  | non
  | lst
  | tup
  | dct
def Kn.tyn : Kn → String
  | .whole _ => "int"
  | .flag _ => "bool"
  | .text _ => "str"
  | .non => "NoneType"
  | .lst => "list"
  | .tup => "tuple"
  | .dct => "dict"
def Kn.eqI : Kn → Int → Bool
  | .whole j, i => decide (i = j)
  | .flag b, i => decide (i = if b then 1 else 0)
  | _, _ => false
def Kn.isInt : Kn → Bool
  | .whole _ => true
  | .flag _ => true
  | _ => false
def Kn.isFlag : Kn → Bool
  | .flag _ => true
  | _ => false
def Kn.isStr : Kn → Bool
  | .text _ => true
  | _ => false
def Kn.isLst : Kn → Bool
  | .lst => true
  | _ => false
def Kn.isTup : Kn → Bool
  | .tup => true
  | _ => false
theorem Kn.kInt {K : PySem.W.Frag} (k : Kn) : PySem.W.kitOne K (.type k.tyn) (.type "int") = some k.isInt :=
  match k with
  | .whole i => (kit_ty (by decide +kernel) : PySem.W.kitOne K (.type "int") (.type "int") = some true)
  | .flag b => (kit_ty (by decide +kernel) : PySem.W.kitOne K (.type "bool") (.type "int") = some true)
  | .text s => (kit_ty (by decide +kernel) : PySem.W.kitOne K (.type "str") (.type "int") = some false)
  | .non => (kit_ty (by decide +kernel) : PySem.W.kitOne K (.type "NoneType") (.type "int") = some false)
  | .lst => (kit_ty (by decide +kernel) : PySem.W.kitOne K (.type "list") (.type "int") = some false)
  | .tup => (kit_ty (by decide +kernel) : PySem.W.kitOne K (.type "tuple") (.type "int") = some false)
  | .dct => (kit_ty (by decide +kernel) : PySem.W.kitOne K (.type "dict") (.type "int") = some false)
theorem Kn.kFlag {K : PySem.W.Frag} (k : Kn) : PySem.W.kitOne K (.type k.tyn) (.type "bool") = some k.isFlag :=
  match k with
  | .whole i => (kit_ty (by decide +kernel) : PySem.W.kitOne K (.type "int") (.type "bool") = some false)
  | .flag b => (kit_ty (by decide +kernel) : PySem.W.kitOne K (.type "bool") (.type "bool") = some true)
  | .text s => (kit_ty (by decide +kernel) : PySem.W.kitOne K (.type "str") (.type "bool") = some false)
  | .non => (kit_ty (by decide +kernel) : PySem.W.kitOne K (.type "NoneType") (.type "bool") = some false)
  | .lst => (kit_ty (by decide +kernel) : PySem.W.kitOne K (.type "list") (.type "bool") = some false)
  | .tup => (kit_ty (by decide +kernel) : PySem.W.kitOne K (.type "tuple") (.type "bool") = some false)
  | .dct => (kit_ty (by decide +kernel) : PySem.W.kitOne K (.type "dict") (.type "bool") = some false)
theorem Kn.kStr {K : PySem.W.Frag} (k : Kn) : PySem.W.kitOne K (.type k.tyn) (.type "str") = some k.isStr :=
  match k with
  | .whole i => (kit_ty (by decide +kernel) : PySem.W.kitOne K (.type "int") (.type "str") = some false)
  | .flag b => (kit_ty (by decide +kernel) : PySem.W.kitOne K (.type "bool") (.type "str") = some false)
  | .text s => (kit_ty (by decide +kernel) : PySem.W.kitOne K (.type "str") (.type "str") = some true)
  | .non => (kit_ty (by decide +kernel) : PySem.W.kitOne K (.type "NoneType") (.type "str") = some false)
  | .lst => (kit_ty (by decide +kernel) : PySem.W.kitOne K (.type "list") (.type "str") = some false)
  | .tup => (kit_ty (by decide +kernel) : PySem.W.kitOne K (.type "tuple") (.type "str") = some false)
  | .dct => (kit_ty (by decide +kernel) : PySem.W.kitOne K (.type "dict") (.type "str") = some false)
theorem Kn.kLst {K : PySem.W.Frag} (k : Kn) : PySem.W.kitOne K (.type k.tyn) (.type "list") = some k.isLst :=
  match k with
  | .whole i => (kit_ty (by decide +kernel) : PySem.W.kitOne K (.type "int") (.type "list") = some false)
  | .flag b => (kit_ty (by decide +kernel) : PySem.W.kitOne K (.type "bool") (.type "list") = some false)
  | .text s => (kit_ty (by decide +kernel) : PySem.W.kitOne K (.type "str") (.type "list") = some false)
  | .non => (kit_ty (by decide +kernel) : PySem.W.kitOne K (.type "NoneType") (.type "list") = some false)
  | .lst => (kit_ty (by decide +kernel) : PySem.W.kitOne K (.type "list") (.type "list") = some true)
  | .tup => (kit_ty (by decide +kernel) : PySem.W.kitOne K (.type "tuple") (.type "list") = some false)
  | .dct => (kit_ty (by decide +kernel) : PySem.W.kitOne K (.type "dict") (.type "list") = some false)
theorem Kn.kTup {K : PySem.W.Frag} (k : Kn) : PySem.W.kitOne K (.type k.tyn) (.type "tuple") = some k.isTup :=
  match k with
  | .whole i => (kit_ty (by decide +kernel) : PySem.W.kitOne K (.type "int") (.type "tuple") = some false)
  | .flag b => (kit_ty (by decide +kernel) : PySem.W.kitOne K (.type "bool") (.type "tuple") = some false)
  | .text s => (kit_ty (by decide +kernel) : PySem.W.kitOne K (.type "str") (.type "tuple") = some false)
  | .non => (kit_ty (by decide +kernel) : PySem.W.kitOne K (.type "NoneType") (.type "tuple") = some false)
  | .lst => (kit_ty (by decide +kernel) : PySem.W.kitOne K (.type "list") (.type "tuple") = some false)
  | .tup => (kit_ty (by decide +kernel) : PySem.W.kitOne K (.type "tuple") (.type "tuple") = some true)
  | .dct => (kit_ty (by decide +kernel) : PySem.W.kitOne K (.type "dict") (.type "tuple") = some false)
/-- all but tables stay -/
def SN (H H' : Hp) : Prop := ∀ b o, H b = some o → (∀ ps, o ≠ .tbl ps) → H' b = some o
theorem SN.of {H H' : Hp} (s : Same H H') : SN H H' := fun b o e _ => s b o e
theorem SN.up {H0 H H' : Hp} (s : Same H0 H) (s1 : SN H H') : SN H0 H' := fun b o e n => s1 b o (s b o e) n
theorem SN.trans {H0 H H' : Hp} (s : SN H0 H) (s1 : SN H H') : SN H0 H' := fun b o e n => s1 b o (s b o e n) n
/-- no cell but a table's -/
def NT (H : Hp) (a : Addr) : Prop := ∀ v, H a = some v → ∃ ps, v = .tbl ps
theorem NT.of {H : Hp} {a : Addr} (h : H a = none) : NT H a := fun v e => by
  rw [h] at e
  cases e
theorem NT.up {H H' : Hp} {a : Addr} (s : SN H H') (h : NT H' a) : NT H a := fun v e => Classical.byContradiction fun n => n (h v (s a v e fun ps z => n ⟨ps, z⟩))
/-- data, with its repr's text -/
structure Dt (H : Hp) (x : V) (y : PyData) (t : Str) (n : Nat) : Prop where
  dpN : ∀ K H1, SN H H1 → Dp K H1 x y
  rpN : ∀ X outs H1, SN H H1 → (∀ o ∈ outs, NT H o) → RPO.RpU X n outs H1 x t
inductive DtAll (H : Hp) : List V → List PyData → List Str → Nat → Prop
  | nil {n : Nat} : DtAll H [] [] [] n
  | cons {x : V} {y : PyData} {t : Str} {xs : List V} {ys : List PyData} {ts : List Str} {n : Nat} : Dt H x y t n → DtAll H xs ys ts n → DtAll H (x :: xs) (y :: ys) (t :: ts) n
theorem none_up {H H' : Hp} {o : Addr} (s : Same H H') (h : H' o = none) : H o = none := by
  cases e : H o with
  | none => rfl
  | some z =>
    rw [s _ _ e] at h
    cases h
theorem Dt.same {H H' : Hp} {x : V} {y : PyData} {t : Str} {n : Nat} (h : Dt H x y t n) (s : Same H H') : Dt H' x y t n :=
  ⟨fun K H1 s1 => h.dpN K H1 (SN.up s s1), fun X outs H1 s1 ho => h.rpN X outs H1 (SN.up s s1) fun o q => NT.up (SN.of s) (ho o q)⟩
theorem Dt.mono {H : Hp} {x : V} {y : PyData} {t : Str} {n m : Nat} (h : Dt H x y t n) (nm : n ≤ m) : Dt H x y t m :=
  ⟨h.dpN, fun X outs H1 s1 ho => (h.rpN X outs H1 s1 ho).mono nm⟩
theorem DtAll.dp {H H1 : Hp} {K : PySem.W.Frag} (s : SN H H1) : ∀ {xs : List V} {ys : List PyData} {ts : List Str} {n : Nat}, DtAll H xs ys ts n → DpAll K H1 xs ys
  | _, _, _, _, .nil => .nil
  | _, _, _, _, .cons a b => .cons (a.dpN _ _ s) (DtAll.dp s b)
theorem DtAll.rp {H H1 : Hp} {X : Cx} {outs : List Addr} (s : SN H H1) (ho : ∀ o ∈ outs, NT H o) : ∀ {xs : List V} {ys : List PyData} {ts : List Str} {n : Nat}, DtAll H xs ys ts n → RPO.RpAll X n outs H1 xs ts
  | _, _, _, _, .nil => .nil
  | _, _, _, _, .cons a b => .cons (a.rpN _ _ _ s ho) (DtAll.rp s ho b)
/-- nothing is there -/
def N0 : Hp := fun _ => none
theorem s0 (H : Hp) : Same N0 H := fun _ _ e => nomatch e
theorem Dt.non {n : Nat} : Dt N0 .non .none "None" n := ⟨fun _ _ _ => .non, fun _ _ _ _ _ => .non⟩
theorem Dt.bl {n : Nat} (b : Bool) : Dt N0 (.bl b) (.bool b) (if b then "True" else "False") n := ⟨fun _ _ _ => .bl b, fun _ _ _ _ _ => .bl⟩
theorem Dt.int {n : Nat} {i : Int} (h : i.natAbs.log2 < 1920) : Dt N0 (.int i) (.int i) (toString i) n := ⟨fun _ _ _ => .int i, fun _ _ _ _ _ => .int h⟩
theorem Dt.str {n : Nat} (z : Str) : Dt N0 (.str z) (.str z) (reprText z) n := ⟨fun _ _ _ => .str z, fun _ _ _ _ _ => .str⟩
section
variable {H0 H : Hp} {a : Addr} {xs : List V} {ys : List PyData} {ts : List Str} {n : Nat}
theorem out_of {H : Hp} {a : Addr} {o : HO} {outs : List Addr} (h : H a = some o) (nt : ∀ ps, o ≠ .tbl ps) (ho : ∀ o ∈ outs, NT H o) : a ∉ outs := fun z => by
  obtain ⟨ps, e⟩ := ho a z _ h
  exact nt ps e
theorem SN.tup {H1 : Hp} (s : SN H H1) (h : H a = some (.tup xs)) : H1 a = some (.tup xs) := s _ _ h fun _ z => nomatch z
theorem SN.lst {H1 : Hp} (s : SN H H1) (h : H a = some (.lst xs)) : H1 a = some (.lst xs) := s _ _ h fun _ z => nomatch z
theorem SN.dK {H1 : Hp} {kvs : List (Key × V)} (s : SN H H1) (h : H a = some (.dK kvs)) : H1 a = some (.dK kvs) := s _ _ h fun _ z => nomatch z
theorem Dt.tup (h : H a = some (.tup xs)) (hs : DtAll H0 xs ys ts n) (s : Same H0 H) (z : H0 a = none) : Dt H (.ref a) (.tuple ys) (tupleText ts) (n + 1) :=
  ⟨fun K H1 s1 => .tup (SqT.of (s1.tup h)) (hs.dp (SN.up s s1)), fun X outs H1 s1 ho => .tup (s1.tup h) (out_of h (fun _ z => nomatch z) ho) (hs.rp (SN.up s s1) fun o q => by
    rcases List.mem_cons.mp q with rfl | q
    · exact NT.of z
    · exact NT.up (SN.of s) (ho o q))⟩
theorem Dt.list (h : H a = some (.lst xs)) (hx : xs ≠ []) (hs : DtAll H0 xs ys ts n) (s : Same H0 H) (z : H0 a = none) : Dt H (.ref a) (.list ys) (listText ts) (n + 1) :=
  ⟨fun K H1 s1 => .lst (SqL.of (s1.lst h)) (hs.dp (SN.up s s1)), fun X outs H1 s1 ho => .list (s1.lst h) (out_of h (fun _ z => nomatch z) ho) hx (hs.rp (SN.up s s1) fun o q => by
    rcases List.mem_cons.mp q with rfl | q
    · exact NT.of z
    · exact NT.up (SN.of s) (ho o q))⟩
theorem Dt.list0 (h : H a = some (.lst [])) : Dt H (.ref a) (.list []) "[]" n :=
  ⟨fun K H1 s1 => .lst (SqL.of (s1.lst h)) .nil, fun X outs H1 s1 ho => .list0 (s1.lst h) (out_of h (fun _ z => nomatch z) ho)⟩
end
/-- a thing -/
structure Thg (H : Hp) (x : V) (k : Kn) (t : Str) (n : Nat) : Prop where
  eqN : ∀ X H1, SN H H1 → ∀ i : Int, EQB.EqB X (.int i) x H1 (k.eqI i)
  rpN : ∀ X outs H1, SN H H1 → (∀ o ∈ outs, NT H o) → RPO.RpU X n outs H1 x t
  tyN : ∀ K H1, SN H H1 → TyX K H1 x (.type k.tyn)
  val : ∀ i, k = .whole i → x = .int i
  flg : ∀ b, k = .flag b → x = .bl b
  txt : ∀ s, k = .text s → x = .str s
  len : t.length ≤ 100
section
variable {H H' : Hp} {x : V} {k : Kn} {t : Str} {n : Nat}
theorem Thg.eq (h : Thg H x k t n) (X : Cx) (H1 : Hp) (s : Same H H1) (i : Int) : EQB.EqB X (.int i) x H1 (k.eqI i) := h.eqN X H1 (SN.of s) i
theorem Thg.rp (h : Thg H x k t n) (X : Cx) (outs : List Addr) (H1 : Hp) (s : Same H H1) (ho : ∀ o ∈ outs, H o = none) : RPO.RpU X n outs H1 x t := h.rpN X outs H1 (SN.of s) fun o q => NT.of (ho o q)
theorem Thg.ty (h : Thg H x k t n) (K : PySem.W.Frag) (H1 : Hp) (s : Same H H1) : ∃ ty : String, TyX K H1 x (.type ty) ∧ PySem.W.kitOne K (.type ty) (.type "int") = some k.isInt ∧ PySem.W.kitOne K (.type ty) (.type "bool") = some k.isFlag := ⟨k.tyn, h.tyN K H1 (SN.of s), k.kInt, k.kFlag⟩
theorem Thg.same (h : Thg H x k t n) (s : Same H H') : Thg H' x k t n :=
  ⟨fun X H1 s1 => h.eqN X H1 (SN.up s s1), fun X outs H1 s1 ho => h.rpN X outs H1 (SN.up s s1) fun o q => NT.up (SN.of s) (ho o q), fun K H1 s1 => h.tyN K H1 (SN.up s s1), h.val, h.flg, h.txt, h.len⟩
theorem Thg.mono {m : Nat} (h : Thg H x k t n) (nm : n ≤ m) : Thg H x k t m := ⟨h.eqN, fun X outs H1 s1 ho => (h.rpN X outs H1 s1 ho).mono nm, h.tyN, h.val, h.flg, h.txt, h.len⟩
theorem Thg.of {y : PyData} (d : Dt H x y t n) (sh : SeqAt.shaped y = true) (e : ∀ i : Int, PyData.eqv (.int i) y = k.eqI i) (ty : ∀ K H1, SN H H1 → TyX K H1 x (.type k.tyn))
    (val : ∀ i, k = .whole i → x = .int i) (flg : ∀ b, k = .flag b → x = .bl b) (txt : ∀ s, k = .text s → x = .str s) (len : t.length ≤ 100) : Thg H x k t n :=
  ⟨fun X H1 s i => by
    rw [← e i]
    exact EQB.EqB.dp (.int i) (d.dpN _ _ s) rfl sh, d.rpN, ty, val, flg, txt, len⟩
theorem Thg.int {i : Int} (h : i.natAbs.log2 < 1920) (l : ((toString i : String) : Str).length ≤ 100) : Thg N0 (.int i) (.whole i) (toString i) n :=
  .of (Dt.int h) rfl (fun j => by rw [Bool.eq_iff_iff]; simp [PyData.eqv, Kn.eqI]) (fun K H1 _ => .base (.int i)) (fun j e => by cases e; rfl) (fun b e => by cases e) (fun s e => by cases e) l
theorem Thg.bl (b : Bool) : Thg N0 (.bl b) (.flag b) (if b then "True" else "False") n :=
  .of (Dt.bl b) rfl (fun j => by rw [Bool.eq_iff_iff]; cases b <;> simp [PyData.eqv, Kn.eqI]) (fun K H1 _ => .base (.bl b)) (fun j e => by cases e) (fun c e => by cases e; rfl) (fun s e => by cases e) (by cases b <;> decide)
theorem Thg.non : Thg N0 .non .non "None" n :=
  .of Dt.non rfl (fun j => by simp [PyData.eqv, Kn.eqI]) (fun K H1 _ => .base .non) (fun j e => by cases e) (fun b e => by cases e) (fun s e => by cases e) (by decide)
theorem Thg.str (z : Str) (ok : PyData.strOk z = true) (l : (reprText z).length ≤ 100) : Thg N0 (.str z) (.text z) (reprText z) n :=
  .of (Dt.str z) (by simp [SeqAt.shaped, PyData.canLay0, PyData.depth, ok]) (fun j => by simp [PyData.eqv, Kn.eqI]) (fun K H1 _ => .base (.str z)) (fun j e => by cases e) (fun b e => by cases e) (fun s e => by cases e; rfl) l
theorem Thg.lst {a : Addr} {xs : List V} {ys : List PyData} (h : H a = some (.lst xs)) (d : Dt H (.ref a) (.list ys) t n) (sh : SeqAt.shaped (.list ys) = true) (l : t.length ≤ 100) : Thg H (.ref a) .lst t n :=
  .of d sh (fun j => by simp [PyData.eqv, Kn.eqI]) (fun K H1 s => .base (.lst (s.lst h))) (fun j e => by cases e) (fun b e => by cases e) (fun s e => by cases e) l
theorem Thg.tup {a : Addr} {xs : List V} {ys : List PyData} (h : H a = some (.tup xs)) (d : Dt H (.ref a) (.tuple ys) t n) (sh : SeqAt.shaped (.tuple ys) = true) (l : t.length ≤ 100) : Thg H (.ref a) .tup t n :=
  .of d sh (fun j => by simp [PyData.eqv, Kn.eqI]) (fun K H1 s => .base (.tup (s.tup h))) (fun j e => by cases e) (fun b e => by cases e) (fun s e => by cases e) l
theorem Thg.dct {a : Addr} {kvs : List (Key × V)} {ps : List Str} (h : H a = some (.dK kvs)) (es : ∀ X outs H1, RPO.RpEnt X n (a :: outs) H1 kvs ps) (l : (dictText ps).length ≤ 100) : Thg H (.ref a) .dct (dictText ps) (n + 1) :=
  ⟨fun X H1 s i => EQB.EqB.dctR (.int i) (s.dK h), fun X outs H1 s ho => .dct (s.dK h) (out_of h (fun _ z => nomatch z) ho) (es X outs H1), fun K H1 s => .base (.dK (s.dK h)), fun j e => (by cases e), fun b e => (by cases e), fun s e => (by cases e), l⟩
end
open Classical in
/-- all but some cells -/
noncomputable def out (q : Addr → Prop) (H : Hp) : Hp := fun a => if q a then none else H a
section
variable {q : Addr → Prop} {H H' : Hp} {a : Addr}
theorem out_le : Same (out q H) H := fun a o e => by
  unfold out at e
  by_cases c : q a
  · rw [if_pos c] at e
    cases e
  · rw [if_neg c] at e
    exact e
theorem out_not {o : HO} (e : out q H a = some o) : ¬ q a := fun c => by
  unfold out at e
  rw [if_pos c] at e
  cases e
theorem out_at {o : HO} (e : H a = some o) (n : ¬ q a) : out q H a = some o := by
  unfold out
  rw [if_neg n]
  exact e
theorem out_none (e : H a = none) : out q H a = none := by
  unfold out
  rw [e, ite_self]
theorem out_kp (k : ∀ b o, H b = some o → ¬ q b → H' b = some o) : Same (out q H) (out q H') := fun a o e => out_at (k a o (out_le a o e) (out_not e)) (out_not e)
theorem out_same (s : Same H H') : Same (out q H) (out q H') := out_kp fun b o e _ => s b o e
theorem out_ne (e : H a = none) (n : ∀ b, q b → H b ≠ none) : ¬ q a := fun z => n a z e
theorem same_some (s : Same H H') (n : ∀ b, q b → H b ≠ none) : ∀ b, q b → H' b ≠ none := fun b c z => n b c (none_up s z)
end
/-- x in a list or a tuple, within a comprehension too -/
def rInA (K : PySem.W.Frag) (neg : Bool) : R2 := fun x y H Q => ∃ (p : Addr) (ys : List V) (e : V → Bool), y = .ref p ∧ (SqL K H p ys ∨ SqT K H p ys) ∧ (∀ X : Cx, X.K = K → ∀ z ∈ ys, EQB.EqB X z x H (e z)) ∧ Q (.bl (if neg = true then !(ys.any e) else ys.any e)) H
theorem op_inA {X : Cx} {K : PySem.W.Frag} (hX : X.K = K) (hu : X.A.units + 65 < cLine) : OpR X (compareOp .In) (rInA K false) := fun pins s σ H x y v u Q I rx ry ⟨p, ys, e, ey, hs, he, q⟩ => by
  subst hX
  exact EQB.op_inB hu pins s σ H x y v u Q I rx ry ⟨p, ys, e, ey, hs, fun z hz => he X rfl z hz, q⟩
theorem op_notInA {X : Cx} {K : PySem.W.Frag} (hX : X.K = K) (hu : X.A.units + 65 < cLine) : OpR X (compareOp .NotIn) (rInA K true) := fun pins s σ H x y v u Q I rx ry ⟨p, ys, e, ey, hs, he, q⟩ => by
  subst hX
  exact EQB.op_notInB hu pins s σ H x y v u Q I rx ry ⟨p, ys, e, ey, hs, fun z hz => he X rfl z hz, q⟩
end THI
set_option Elab.async false
set_option linter.all false
set_option maxRecDepth 100000
set_option maxHeartbeats 4000000
/-! OWQ: ==, != and in of instances of an own class with an own __eq__, beside things of any kind, both ways. -/
namespace OWQ
open PySem PySem.Spec PyProof.Rows L2
open PySem.SeqAt PySem.MeetsSeq
abbrev ts7 : List String := ["NoneType", "bool", "int", "str", "list", "tuple", "dict"]
/-- what is asked of the class -/
structure OwnC (K : PySem.W.Frag) (C : Addr) : Prop where
  no : ∀ T ∈ ts7, PySem.W.mroIn K C (.type T) = some false
  ne : PySem.W.findIn K (.ref C) "__ne__" = some (some (.builtin "object.__ne__"))
  ob : PySem.W.mroIn K C (.type "object") = some true
def ocB (K : PySem.W.Frag) (C : Addr) : Bool := ts7.all (fun T => decide (PySem.W.mroIn K C (.type T) = some false)) && (He.eqO (PySem.W.findIn K (.ref C) "__ne__") (some (some (.builtin "object.__ne__"))) && decide (PySem.W.mroIn K C (.type "object") = some true))
theorem ocB_ok {K : PySem.W.Frag} {C : Addr} (h : ocB K C = true) : OwnC K C := by
  unfold ocB at h
  simp only [Bool.and_eq_true] at h
  exact ⟨fun T hT => of_decide_eq_true (List.all_eq_true.mp h.1 T hT), He.eqO_ok h.2.1, of_decide_eq_true h.2.2⟩
/-- things of Python's own kinds -/
inductive TK (K : PySem.W.Frag) (H : Hp) : V → Prop
  | non : TK K H .non
  | bl {b : Bool} : TK K H (.bl b)
  | int {i : Int} : TK K H (.int i)
  | str {z : Str} : TK K H (.str z)
  | lst {a : Addr} {xs : List V} : SqL K H a xs → TK K H (.ref a)
  | tup {a : Addr} {xs : List V} : SqT K H a xs → TK K H (.ref a)
  | dct {a : Addr} {kvs : List (Key × V)} : H a = some (.dK kvs) → TK K H (.ref a)
theorem TK.ext {K : PySem.W.Frag} {H H' : Hp} {x : V} (h : TK K H x) (e : Ext H H') : TK K H' x := by
  cases h with
  | non => exact .non
  | bl => exact .bl
  | int => exact .int
  | str => exact .str
  | lst h => exact .lst (SqL.ext h e)
  | tup h => exact .tup (SqT.ext h e)
  | dct h => exact .dct (e _ _ h)
section
variable {X : Cx} {pins : List (Addr × Obj)} {σ : L2.St} {H : Hp} {s : Shared} {C a b dx : Addr} {fs : List (Str × V)}
theorem at_own (I : Inv X pins σ H s) (e : H a = some (.ins C dx fs)) : ∃ od, s.heap.get? a = some (iO C dx) ∧ PySem.W.InstAt s.heap a (iO C dx) C od := by
  obtain ⟨mA, O, _⟩ := ins_get I.hok e
  obtain ⟨od, J, _⟩ := O.look
  exact ⟨od, O.obj, J⟩
theorem noT (I : Inv X pins σ H s) (oc : OwnC X.K C) (e : H a = some (.ins C dx fs)) {T : String} (hT : T ∈ ts7) : NoT s a T := fun M => by
  obtain ⟨od, _, J⟩ := at_own I e
  exact J.type.andThen (PySem.W.looks_mroIn I.kIn (oc.no T hT))
/-- a thing of Python's own: its type, its slots, that it tells nothing -/
theorem TK.decl {x : V} {u : Value} (t : TK X.K H x) (oc : OwnC X.K C) (I : Inv X pins σ H s) (r : RelV x u) (eb : H b = some (.ins C dx fs)) : ∃ T ide idn, T ∈ ts7 ∧ s.TypeIs u T ∧ (u == .ref b) = false ∧ Slot T "__eq__" ide ∧ Slot T "__ne__" idn ∧
    (∀ (A : Around) (E Q' : Value → Shared → Prop), Q' .notImplemented s → wpAny (model X.prog X.w) A (call (.builtin ide) [u, .ref b]) Q' E s) ∧ (∀ (A : Around) (E Q' : Value → Shared → Prop), Q' .notImplemented s → wpAny (model X.prog X.w) A (call (.builtin idn) [u, .ref b]) Q' E s) := by
  obtain ⟨od, ho, J⟩ := at_own I eb
  have ne : ∀ {l : Addr} {o : Obj}, s.heap.get? l = some o → o.cls ≠ .ref C → (Value.ref l == Value.ref b) = false := fun {l o} e n => by
    by_cases h : l = b
    · subst h
      rw [ho] at e
      cases e
      exact absurd rfl n
    · exact beq_eq_false_iff_ne.mpr fun z => h (by injection z)
  cases t with
  | non =>
    cases r
    exact ⟨"NoneType", _, _, by simp, rfl, rfl, PySem.F.slot_NoneType_eq, PySem.F.slot_NoneType_ne, fun A E Q' q => call_meets PySem.F.slot_NoneType_eq rfl PySem.F.entry_NoneType_eq (PySem.F.args_NoneType_eq_2 _ _) (none_eq b C dx) ⟨ho, q⟩,
      fun A E Q' q => call_meets PySem.F.slot_NoneType_ne rfl PySem.F.entry_NoneType_ne (PySem.F.args_NoneType_ne_2 _ _) (none_ne b C dx) ⟨ho, q⟩⟩
  | bl =>
    cases r
    exact ⟨"bool", _, _, by simp, rfl, rfl, PySem.F.slot_bool_eq, PySem.F.slot_bool_ne, fun A E Q' q => call_meets PySem.F.slot_bool_eq rfl PySem.F.entry_int_eq (PySem.F.args_int_eq_2 _ _) (bool_eq b C dx _) ⟨ho, q⟩,
      fun A E Q' q => call_meets PySem.F.slot_bool_ne rfl PySem.F.entry_int_ne (PySem.F.args_int_ne_2 _ _) (bool_ne b C dx _) ⟨ho, q⟩⟩
  | int =>
    obtain ⟨t, rfl⟩ := r
    exact ⟨"int", _, _, by simp, rfl, rfl, PySem.F.slot_int_eq, PySem.F.slot_int_ne, fun A E Q' q => call_meets PySem.F.slot_int_eq rfl PySem.F.entry_int_eq (PySem.F.args_int_eq_2 _ _) (int_eq b C dx _ _) ⟨ho, q⟩,
      fun A E Q' q => call_meets PySem.F.slot_int_ne rfl PySem.F.entry_int_ne (PySem.F.args_int_ne_2 _ _) (int_ne b C dx _ _) ⟨ho, q⟩⟩
  | str =>
    obtain ⟨t, rfl⟩ := r
    exact ⟨"str", _, _, by simp, rfl, rfl, PySem.F.slot_str_eq, PySem.F.slot_str_ne, fun A E Q' q => call_meets PySem.F.slot_str_eq rfl PySem.F.entry_str_eq (PySem.F.args_str_eq_2 _ _) (str_eq b C dx _ _) ⟨ho, q⟩,
      fun A E Q' q => call_meets PySem.F.slot_str_ne rfl PySem.F.entry_str_ne (PySem.F.args_str_ne_2 _ _) (str_ne b C dx _ _) ⟨ho, q⟩⟩
  | @lst l xs hs =>
    cases r
    obtain ⟨its, _, ⟨o, n, hl, hc, _, hd⟩, _⟩ := I.list hs
    have tl : s.TypeIs (.ref l) "list" := ⟨o, hl, hc⟩
    have nn := noT I oc eb (T := "list") (by simp)
    exact ⟨"list", _, _, by simp, tl, ne hl (by rw [hc]; simp), PySem.F.slot_list_eq, PySem.F.slot_list_ne, fun A E Q' q => call_meets PySem.F.slot_list_eq tl PySem.F.entry_list_eq (PySem.F.args_list_eq_2 _ _) (list_eq l b) ⟨nn, q⟩,
      fun A E Q' q => call_meets PySem.F.slot_list_ne tl PySem.F.entry_list_ne (PySem.F.args_list_ne_2 _ _) (list_ne l b) ⟨nn, q⟩⟩
  | @tup l xs hs =>
    cases r
    obtain ⟨its, _, ⟨o, hl, hc, n, hd⟩, _⟩ := I.tuple hs
    have tl : s.TypeIs (.ref l) "tuple" := ⟨o, hl, hc⟩
    have nn := noT I oc eb (T := "tuple") (by simp)
    exact ⟨"tuple", _, _, by simp, tl, ne hl (by rw [hc]; simp), PySem.F.slot_tuple_eq, PySem.F.slot_tuple_ne, fun A E Q' q => call_meets PySem.F.slot_tuple_eq tl PySem.F.entry_tuple_eq (PySem.F.args_tuple_eq_2 _ _) (tuple_eq l b) ⟨nn, q⟩,
      fun A E Q' q => call_meets PySem.F.slot_tuple_ne tl PySem.F.entry_tuple_ne (PySem.F.args_tuple_ne_2 _ _) (tuple_ne l b) ⟨nn, q⟩⟩
  | @dct l kvs hd =>
    cases r
    have D := EQB.isDct I hd
    obtain ⟨⟨cls, dd, data, sl⟩, es, ep, hl, hc, hdd⟩ := id D
    simp only at hc hdd
    subst hc hdd
    have tl : s.TypeIs (.ref l) "dict" := ⟨_, hl, rfl⟩
    have nn := noT I oc eb (T := "dict") (by simp)
    exact ⟨"dict", _, _, by simp, tl, ne hl (by simp), PySem.F.slot_dict_eq, PySem.F.slot_dict_ne, fun A E Q' q => call_meets PySem.F.slot_dict_eq tl PySem.F.entry_dict_eq (PySem.F.args_dict_eq_2 _ _) (dict_eq l b es ep dd sl) ⟨hl, nn, q⟩,
      fun A E Q' q => call_meets PySem.F.slot_dict_ne tl PySem.F.entry_dict_ne (PySem.F.args_dict_ne_2 _ _) (dict_ne l b es ep dd sl) ⟨hl, nn, q⟩⟩
/-! ### the own class's own turn -/
variable {k : Nat} {sp : Sp} {y : V} {u : Value} {A : Around} {r : Bool}
/-- its __eq__, asked -/
theorem try_eq (S : OW.Spc X.prog X.w X.K X.mg X.base k C "__eq__" sp) (sb : Sub X k A) (I : Inv X pins σ H s) (ea : H a = some (.ins C dx fs)) (ru : RelV y u) (hsp : sp [.ref a, y] H (fun v H' => v = .bl r ∧ Ext H H') E0) :
    wpAny (model X.prog X.w) A (tryCompare (.ref a) "__eq__" u) (fun z s' => z = some (.bool r) ∧ ∃ H', Inv X pins σ H' s' ∧ Ext H H') X.xe s := by
  obtain ⟨f, fd, ps, h1, h2, F, hbi⟩ := S.ex
  obtain ⟨od, _, J⟩ := at_own I ea
  have e0 : Env0 X.prog X.w X.K X.mg X.base A X.stack s H := by
    have z := I.env0
    exact ⟨sb.fr.trans z.frames, z.mod, z.bs, z.bsz, z.funs, z.frf, z.hok, z.bare⟩
  unfold tryCompare
  refine wpAny_bind (PySem.W.ifBound_K I.kIn J h1 h2 (wpAny_mono (OW.run_at (E' := X.xe) (vs := [.ref a, y]) F hbi sb.room I e0 (.cons rfl (.cons ru .nil)) hsp) (fun w s' z => ?_) fun _ _ x => x))
  obtain ⟨z', H', I', rz, rfl, e⟩ := z
  cases (show w = Value.bool r from rz)
  exact wpAny_pure ⟨rfl, H', I', e⟩
open Builtin in
/-- its __ne__ (object's), asked -/
theorem try_ne (S : OW.Spc X.prog X.w X.K X.mg X.base k C "__eq__" sp) (oc : OwnC X.K C) (sb : Sub X (k + 1) A) (I : Inv X pins σ H s) (ea : H a = some (.ins C dx fs)) (ru : RelV y u) (hsp : sp [.ref a, y] H (fun v H' => v = .bl r ∧ Ext H H') E0) :
    wpAny (model X.prog X.w) A (tryCompare (.ref a) "__ne__" u) (fun z s' => z = some (.bool (!r)) ∧ ∃ H', Inv X pins σ H' s' ∧ Ext H H') X.xe s := by
  obtain ⟨f, fd, ps, h1, h2, F, hbi⟩ := S.ex
  obtain ⟨od, _, J⟩ := at_own I ea
  have KI := I.kIn
  have e0 : Env0 X.prog X.w X.K X.mg X.base A.in1 X.stack s H := by
    have z := I.env0
    exact ⟨sb.in1.fr.trans z.frames, z.mod, z.bs, z.bsz, z.funs, z.frf, z.hok, z.bare⟩
  have callEq : wpAny (model X.prog X.w) A.in1 (call (.ref f) [.ref a, u]) (fun v s' => v = .bool r ∧ ∃ H', Inv X pins σ H' s' ∧ Ext H H') X.xe s := by
    refine wpAny_mono (OW.run_at (E' := X.xe) (vs := [.ref a, y]) F hbi sb.in1.room I e0 (.cons rfl (.cons ru .nil)) hsp) (fun w s' z => ?_) fun _ _ x => x
    obtain ⟨z', H', I', rz, rfl, e⟩ := z
    exact ⟨rz, H', I', e⟩
  have slot := PySem.F.cmp_object.ne
  have sub : PySem.W.Looks (model X.prog X.w) s.heap (isInstance (.ref a) (.type "object")) true := J.type.andThen (PySem.W.looks_mroIn KI oc.ob)
  have uu : A.in1.units < cLine := sb.in1.room.units0
  have body : wpAny (model X.prog X.w) A.in1 (Builtin.«object.__ne__» ⟨[.ref a, u], []⟩) (fun fin s' => match fin with | .done f => (match f with | .ret v => v = .bool (!r) ∧ ∃ H', Inv X pins σ H' s' ∧ Ext H H' | _ => False) | .again _ => False) X.xe s := by
    unfold Builtin.«object.__ne__»
    repeat (first
      | with_reducible refine wpAny_cRoomFor uu ?_
      | (refine wpAny_bind (m := callSpecialIfBound? (.ref a) (Str.ofString "__eq__") [u]) (PySem.W.ifBound_K KI J h1 h2 (wpAny_mono callEq (fun r' s' hr => by
          obtain ⟨rfl, hq⟩ := hr
          repeat (first | exact ⟨rfl, hq⟩ | exact wpAny_pure ⟨rfl, hq⟩ | (refine wpAny_bind (m := truthy (.bool _)) (wpAny_truthy_bool ?_)) | wp_step)) fun _ _ e => e)))
      | wp_step)
  have callNe : wpAny (model X.prog X.w) A (call (.builtin "object.__ne__") [.ref a, u]) (fun v s' => v = .bool (!r) ∧ ∃ H', Inv X pins σ H' s' ∧ Ext H H') X.xe s := by
    refine wpAny_call (codeAny_call_builtin slot.plain PySem.F.cmpEntry_ne (PySem.W.check_slot PySem.F.cmpKind_ne PySem.F.cmpSplit_ne sub (PySem.F.cmpArgs_ne _ _) ?_))
    refine wpAny_mono body (fun fin s' z => ?_) fun _ _ x => x
    cases fin with
    | done fl =>
      cases fl with
      | ret v => exact z
      | next => exact z.elim
      | brk => exact z.elim
      | cont => exact z.elim
    | again c => exact z.elim
  have fin : wpAny (model X.prog X.w) A (call (.builtin "object.__ne__") ([.ref a] ++ [u]) >>= fun v => pure (some v)) (fun z s' => z = some (.bool (!r)) ∧ ∃ H', Inv X pins σ H' s' ∧ Ext H H') X.xe s :=
    wpAny_bind (wpAny_mono callNe (fun v s' h' => wpAny_pure ⟨by rw [h'.1], h'.2⟩) fun _ _ h' => h')
  have bound : wpAny (model X.prog X.w) A (callSpecialIfBound? (.ref a) "__ne__" [u]) (fun z s' => z = some (.bool (!r)) ∧ ∃ H', Inv X pins σ H' s' ∧ Ext H H') X.xe s := by
    simp only [callSpecialIfBound?, bindSpecialIfBound?]
    refine wpAny_holding (wpAny_bind (wpAny_bind (wpAny_bind (J.type.here ((PySem.W.looks_findIn KI oc.ne).here ?_)))))
    simp only [slot.bind]
    refine wpAny_bind (wpAny_askSetting (wpAny_ite ?_))
    split
    · exact wpAny_bind (wpAny_pure (wpAny_pure fin))
    · exact wpAny_tryCatch (wpAny_bind (wpAny_pure (wpAny_pure fin)))
  unfold tryCompare
  refine wpAny_bind (wpAny_mono bound (fun z s' h => ?_) fun _ _ h => h)
  obtain ⟨rfl, hq⟩ := h
  exact wpAny_pure ⟨rfl, hq⟩
end
end OWQ
set_option Elab.async false
set_option linter.all false
set_option maxRecDepth 100000
set_option maxHeartbeats 4000000
/-! OWQ2: the comparisons themselves: Cm X n x y H r says that x and y compare (==, !=, within a container) with r. -/
namespace OWQ
open PySem PySem.Spec PyProof.Rows L2
open PySem.SeqAt PySem.MeetsSeq
section
variable {X : Cx} {n k : Nat} {x y : V} {H : Hp} {r : Bool}
def CmQ (X : Cx) (n : Nat) (x y : V) (H : Hp) (r : Bool) : Prop := ∀ (A : Around) (pins : List (Addr × Obj)) (s : Shared) (σ : L2.St) (H1 : Hp) (u v : Value), Sub X n A → Inv X pins σ H1 s → Ext H H1 → RelV x u → RelV y v →
  wpAny (model X.prog X.w) A (richCompare .Eq u v) (fun z s' => z = .bool r ∧ ∃ H', Inv X pins σ H' s' ∧ Ext H1 H') X.xe s
def CmN (X : Cx) (n : Nat) (x y : V) (H : Hp) (r : Bool) : Prop := ∀ (A : Around) (pins : List (Addr × Obj)) (s : Shared) (σ : L2.St) (H1 : Hp) (u v : Value), Sub X n A → Inv X pins σ H1 s → Ext H H1 → RelV x u → RelV y v →
  wpAny (model X.prog X.w) A (richCompare .NotEq u v) (fun z s' => z = .bool (!r) ∧ ∃ H', Inv X pins σ H' s' ∧ Ext H1 H') X.xe s
def CmE (X : Cx) (n : Nat) (x y : V) (H : Hp) (r : Bool) : Prop := ∀ (A : Around) (pins : List (Addr × Obj)) (s : Shared) (σ : L2.St) (H1 : Hp) (u v : Value), Sub X n A → Inv X pins σ H1 s → Ext H H1 → RelV x u → RelV y v →
  wpAny (model X.prog X.w) A (eqBool u v) (fun z s' => z = r ∧ ∃ H', Inv X pins σ H' s' ∧ Ext H1 H') X.xe s
/-- x and y compare with r -/
structure Cm (X : Cx) (n : Nat) (x y : V) (H : Hp) (r : Bool) : Prop where
  eq : CmQ X n x y H r
  ne : CmN X n x y H r
  bq : CmE X n x y H r
theorem Cm.ext {H' : Hp} (c : Cm X n x y H r) (e : Ext H H') : Cm X n x y H' r :=
  ⟨fun A pins s σ H1 u v sb I e1 => c.eq A pins s σ H1 u v sb I (e.trans e1), fun A pins s σ H1 u v sb I e1 => c.ne A pins s σ H1 u v sb I (e.trans e1), fun A pins s σ H1 u v sb I e1 => c.bq A pins s σ H1 u v sb I (e.trans e1)⟩
theorem typeIs_looks {M : Model} {s : Shared} {u : Value} {T : String} (h : s.TypeIs u T) : PySem.W.Looks M s.heap (typeOf u) (.type T) := fun A Q E s' k q => by
  refine wpAny_typeOf ?_ q
  cases u with
  | ref a => obtain ⟨o, ho, hc⟩ := h; exact ⟨o, k _ _ ho, hc⟩
  | _ => exact h
theorem CmE.of (q : CmQ X n x y H r) (hx : (∃ a, x = .ref a) ∨ ∃ a, y = .ref a) (hs : ∀ (pins : List (Addr × Obj)) (s : Shared) (σ : L2.St) (H1 : Hp) (u v : Value), Inv X pins σ H1 s → Ext H H1 → RelV x u → RelV y v → (u == v) = true → r = true) : CmE X n x y H r := by
  intro A pins s σ H1 u v sb I e rx ry
  unfold eqBool
  refine wpAny_holding ?_
  refine wpAny_ite_split (fun h => ?_) (fun _ => ?_)
  · have hr := hs pins s σ H1 u v I e rx ry h
    subst hr
    wp_walk
    exact ⟨rfl, H1, I, Ext.rfl'⟩
  · split
    · rename_i heq
      exfalso
      rcases hx with ⟨a, rfl⟩ | ⟨a, rfl⟩
      · cases rx
        cases (Prod.mk.inj heq).1
      · cases ry
        cases (Prod.mk.inj heq).2
    · refine wpAny_bind (wpAny_mono (q A pins s σ H1 u v sb I e rx ry) (fun z s' h => ?_) fun _ _ h => h)
      obtain ⟨rfl, h⟩ := h
      exact wpAny_truthy_bool ⟨rfl, h⟩
variable {C a b dx db : Addr} {fs gs : List (Str × V)} {sp : Sp}
/-- what the own __eq__ is asked, with the answer r -/
def Ask (sp : Sp) (H : Hp) (a : Addr) (y : V) (r : Bool) : Prop := ∀ H1, Ext H H1 → sp [.ref a, y] H1 (fun v H' => v = .bl r ∧ Ext H1 H') E0
theorem ty_back {A : Around} {pins : List (Addr × Obj)} {s : Shared} {σ : L2.St} {H1 : Hp} (I : Inv X pins σ H1 s) (e : H1 b = some (.ins C db gs)) : ∃ od, PySem.W.InstAt s.heap b (iO C db) C od := by
  obtain ⟨od, _, J⟩ := at_own I e
  exact ⟨od, J⟩
open Builtin in
/-- the own one first: its turn decides -/
theorem front {op : CmpOp} {A : Around} {pins : List (Addr × Obj)} {s : Shared} {σ : L2.St} {H1 : Hp} {u tb : Value} {w : Value} (hop : op = .Eq ∨ op = .NotEq) (sb : Sub X n A) (I : Inv X pins σ H1 s) (ea : H1 a = some (.ins C dx fs)) (hb : PySem.W.Looks (model X.prog X.w) s.heap (typeOf u) tb) (hn : PySem.W.notFirst X.K C tb = true)
    (one : wpAny (model X.prog X.w) A (tryCompare (.ref a) (cmpInfo op).2.1 u) (fun z s' => z = some w ∧ ∃ H', Inv X pins σ H' s' ∧ Ext H1 H') X.xe s) :
    wpAny (model X.prog X.w) A (richCompare op (.ref a) u) (fun z s' => z = w ∧ ∃ H', Inv X pins σ H' s' ∧ Ext H1 H') X.xe s := by
  obtain ⟨od, J⟩ := ty_back (A := A) I ea
  have one' : wpAny (model X.prog X.w) A (tryCompare (.ref a) (cmpInfo op).2.1 u) (fun z s' => ∃ v, z = some v ∧ v = w ∧ ∃ H', Inv X pins σ H' s' ∧ Ext H1 H') X.xe s := wpAny_mono one (fun z s' h => ⟨w, h.1, rfl, h.2⟩) fun _ _ h => h
  unfold richCompare
  simp only [oneThing_ref]
  refine wpAny_holding (wpAny_bind (wpAny_cRoomFor sb.room.units0 ?_))
  refine wpAny_bind (J.type.here (wpAny_bind (hb.here ?_)))
  split
  · rename_i q
    have e : PySem.W.subIn X.K tb (.ref C) = some false := by
      rcases Bool.or_eq_true_iff.mp hn with e | e
      · rw [beq_iff_eq.mp e] at q; simp at q
      · exact beq_iff_eq.mp e
    refine wpAny_bind ((PySem.W.looks_subIn I.kIn e).here ?_)
    simp only [Bool.false_eq_true, if_false]
    refine wpAny_bind (wpAny_mono one' (fun r s' z => ?_) fun _ _ e => e)
    obtain ⟨v, rfl, hq⟩ := z
    exact wpAny_pure hq
  · refine wpAny_bind (wpAny_pure ?_)
    simp only [Bool.false_eq_true, if_false]
    refine wpAny_bind (wpAny_mono one' (fun r s' z => ?_) fun _ _ e => e)
    obtain ⟨v, rfl, hq⟩ := z
    exact wpAny_pure hq
/-- the own one behind a thing that tells nothing -/
theorem back {op : CmpOp} {A : Around} {pins : List (Addr × Obj)} {s : Shared} {σ : L2.St} {H1 : Hp} {u : Value} {w : Value} {T id : String} (sb : Sub X n A) (I : Inv X pins σ H1 s) (eb : H1 b = some (.ins C db gs)) (hT : PySem.W.mroIn X.K C (.type T) = some false) (tu : s.TypeIs u T) (slot : Slot T (cmpInfo op).2.1 id)
    (hc : ∀ Q' : Value → Shared → Prop, Q' .notImplemented s → wpAny (model X.prog X.w) A (call (.builtin id) [u, .ref b]) Q' X.xe s)
    (one : wpAny (model X.prog X.w) A (tryCompare (.ref b) (cmpInfo op).2.2 u) (fun z s' => z = some w ∧ ∃ H', Inv X pins σ H' s' ∧ Ext H1 H') X.xe s) :
    wpAny (model X.prog X.w) A (richCompare op u (.ref b)) (fun z s' => z = w ∧ ∃ H', Inv X pins σ H' s' ∧ Ext H1 H') X.xe s := by
  obtain ⟨od, J⟩ := ty_back (A := A) I eb
  have one' : wpAny (model X.prog X.w) A (tryCompare (.ref b) (cmpInfo op).2.2 u) (fun z s' => ∃ v, z = some v ∧ v = w ∧ ∃ H', Inv X pins σ H' s' ∧ Ext H1 H') X.xe s := wpAny_mono one (fun z s' h => ⟨w, h.1, rfl, h.2⟩) fun _ _ h => h
  rcases hi : cmpInfo op with ⟨sym, f, r⟩
  rw [hi] at slot one'
  simp only [richCompare, hi, tu.oneThing_none]
  try with_reducible refine wpAny_holding ?_
  refine wpAny_bind (wpAny_cRoomFor_or (.inr sb.room.units0) ?_)
  refine wpAny_bind (wpAny_typeOf tu (wpAny_bind (J.type.here ?_)))
  have hne : (Value.type T != Value.ref C) = true := rfl
  simp only [hne, if_true]
  refine wpAny_bind ((PySem.W.looks_mroIn I.kIn hT).here ?_)
  simp only [Bool.false_eq_true, if_false, Bool.not_false, if_true]
  refine wpAny_bind (m := tryCompare u _ (.ref b)) (wpAny_tryCompare_declines tu slot (hc _ ⟨rfl, ?_⟩))
  refine wpAny_bind (m := tryCompare (.ref b) _ u) (wpAny_mono one' (fun r s' z => ?_) fun _ _ e => e)
  obtain ⟨v, rfl, hq⟩ := z
  exact wpAny_pure hq
theorem nf_type {K : PySem.W.Frag} {T : String} (h : T ∈ ts7) : PySem.W.notFirst K C (.type T) = true := by
  have e : PySem.W.subIn K (.type T) (.ref C) = some false := by
    simp only [List.mem_cons, List.not_mem_nil, or_false] at h
    rcases h with rfl | rfl | rfl | rfl | rfl | rfl | rfl <;> rfl
  unfold PySem.W.notFirst
  rw [e]
  simp
/-- an own one beside a thing of Python's own kinds -/
theorem Cm.own (S : OW.Spc X.prog X.w X.K X.mg X.base k C "__eq__" sp) (oc : OwnC X.K C) (ea : H a = some (.ins C dx fs)) (t : TK X.K H y) (h : Ask sp H a y false) : Cm X (k + 1) (.ref a) y H false := by
  have q : CmQ X (k + 1) (.ref a) y H false := by
    intro A pins s σ H1 u v sb I e rx ry
    cases rx
    obtain ⟨T, ide, idn, hT, tu, _, _⟩ := (t.ext e).decl oc I ry (e _ _ ea)
    exact front (.inl rfl) sb I (e _ _ ea) (typeIs_looks tu) (nf_type hT) (try_eq S (sb.mono (Nat.le_succ _)) I (e _ _ ea) ry (h H1 e))
  refine ⟨q, ?_, CmE.of q (.inl ⟨_, rfl⟩) fun pins s σ H1 u v I e rx ry hb => ?_⟩
  · intro A pins s σ H1 u v sb I e rx ry
    cases rx
    obtain ⟨T, ide, idn, hT, tu, _, _⟩ := (t.ext e).decl oc I ry (e _ _ ea)
    exact front (.inr rfl) sb I (e _ _ ea) (typeIs_looks tu) (nf_type hT) (try_ne S oc sb I (e _ _ ea) ry (h H1 e))
  · cases rx
    obtain ⟨T, ide, idn, hT, tu, hne, _⟩ := (t.ext e).decl oc I ry (e _ _ ea)
    rw [beq_iff_eq.mp hb] at hne
    simp at hne
/-- a thing of Python's own kinds beside an own one -/
theorem Cm.back (S : OW.Spc X.prog X.w X.K X.mg X.base k C "__eq__" sp) (oc : OwnC X.K C) (ea : H a = some (.ins C dx fs)) (t : TK X.K H y) (h : Ask sp H a y false) : Cm X (k + 1) y (.ref a) H false := by
  have q : CmQ X (k + 1) y (.ref a) H false := by
    intro A pins s σ H1 u v sb I e rx ry
    cases ry
    obtain ⟨T, ide, idn, hT, tu, hne, se, sn, de, dn⟩ := (t.ext e).decl oc I rx (e _ _ ea)
    exact OWQ.back (op := .Eq) sb I (e _ _ ea) (oc.no T hT) tu se (de A X.xe) (try_eq S (sb.mono (Nat.le_succ _)) I (e _ _ ea) rx (h H1 e))
  refine ⟨q, ?_, CmE.of q (.inr ⟨_, rfl⟩) fun pins s σ H1 u v I e rx ry hb => ?_⟩
  · intro A pins s σ H1 u v sb I e rx ry
    cases ry
    obtain ⟨T, ide, idn, hT, tu, hne, se, sn, de, dn⟩ := (t.ext e).decl oc I rx (e _ _ ea)
    exact OWQ.back (op := .NotEq) sb I (e _ _ ea) (oc.no T hT) tu sn (dn A X.xe) (try_ne S oc sb I (e _ _ ea) rx (h H1 e))
  · cases ry
    obtain ⟨T, ide, idn, hT, tu, hne, _⟩ := (t.ext e).decl oc I rx (e _ _ ea)
    rw [hb] at hne
    cases hne
/-- two of the class -/
theorem Cm.two (S : OW.Spc X.prog X.w X.K X.mg X.base k C "__eq__" sp) (oc : OwnC X.K C) (ea : H a = some (.ins C dx fs)) (eb : H b = some (.ins C db gs)) (h : Ask sp H a (.ref b) r) (hr : a = b → r = true) : Cm X (k + 1) (.ref a) (.ref b) H r := by
  have q : CmQ X (k + 1) (.ref a) (.ref b) H r := by
    intro A pins s σ H1 u v sb I e rx ry
    cases rx
    cases ry
    obtain ⟨od, J⟩ := ty_back (A := A) I (e _ _ eb)
    exact front (.inl rfl) sb I (e _ _ ea) J.type OW.same_first (try_eq S (sb.mono (Nat.le_succ _)) I (e _ _ ea) (show RelV (.ref b) (.ref b) from rfl) (h H1 e))
  refine ⟨q, ?_, CmE.of q (.inl ⟨_, rfl⟩) fun pins s σ H1 u v I e rx ry hb => ?_⟩
  · intro A pins s σ H1 u v sb I e rx ry
    cases rx
    cases ry
    obtain ⟨od, J⟩ := ty_back (A := A) I (e _ _ eb)
    exact front (.inr rfl) sb I (e _ _ ea) J.type OW.same_first (try_ne S oc sb I (e _ _ ea) (show RelV (.ref b) (.ref b) from rfl) (h H1 e))
  · cases rx
    cases ry
    refine hr ?_
    have := beq_iff_eq.mp hb
    injection this
/-! ### the operators -/
def rCm (X : Cx) (n : Nat) (neg : Bool) : R2 := fun x y H Q => ∃ r, Cm X n x y H r ∧ ∀ H', Ext H H' → Q (.bl (if neg = true then !r else r)) H'
theorem op_eqQ (hr : Room n X.A) : OpR X (compareOp .Eq) (rCm X n false) := by
  intro pins s σ H x y v u Q I rx ry h
  obtain ⟨r, c, q⟩ := h
  show wpAny _ _ (richCompare .Eq v u) _ _ _
  refine wpAny_mono (c.eq X.A pins s σ H v u ⟨hr, rfl⟩ I Ext.rfl' rx ry) (fun z s' h => ?_) fun _ _ h => h
  obtain ⟨rfl, H', I', e⟩ := h
  exact ⟨.bl r, H', I', rfl, q H' e⟩
theorem op_neQ (hr : Room n X.A) : OpR X (compareOp .NotEq) (rCm X n true) := by
  intro pins s σ H x y v u Q I rx ry h
  obtain ⟨r, c, q⟩ := h
  show wpAny _ _ (richCompare .NotEq v u) _ _ _
  refine wpAny_mono (c.ne X.A pins s σ H v u ⟨hr, rfl⟩ I Ext.rfl' rx ry) (fun z s' h => ?_) fun _ _ h => h
  obtain ⟨rfl, H', I', e⟩ := h
  exact ⟨.bl (!r), H', I', rfl, q H' e⟩
/-- the items of a list, each compared with x -/
inductive Each (X : Cx) (n : Nat) (x : V) (H : Hp) : List V → Bool → Prop
  | nil : Each X n x H [] false
  | cons {y : V} {ys : List V} {r q : Bool} : Cm X n y x H r → Each X n x H ys q → Each X n x H (y :: ys) (r || q)
theorem Each.ext {H' : Hp} {ys : List V} (h : Each X n x H ys r) (e : Ext H H') : Each X n x H' ys r := by
  induction h with
  | nil => exact .nil
  | cons c _ ih => exact .cons (c.ext e) ih
theorem Each.drop {ys : List V} (h : Each X n x H ys r) : ∀ i, ∃ q, Each X n x H (ys.drop i) q := by
  induction h with
  | nil => intro i; exact ⟨false, by rw [List.drop_nil]; exact .nil⟩
  | @cons y ys r q c t ih =>
    intro i
    cases i with
    | zero => exact ⟨_, .cons c t⟩
    | succ i => exact ih i
theorem in_loop {A : Around} (sb : Sub X n A.in1) {pins : List (Addr × Obj)} {σ : L2.St} {H0 : Hp} {l : Addr} {ys : List V} {v : Value} {R : Result → Shared → Prop} (hl : H0 l = some (.lst ys)) (rx : RelV x v)
    (hE : ∀ e s', X.xe e s' → R (.error e) s') (fin : ∀ (r : Bool) (s' : Shared) (H' : Hp), Inv X pins σ H' s' → Ext H0 H' → r = true ∨ r = false → True) :
    ∀ (m i : Nat) (q : Bool) (s : Shared) (H : Hp), ys.length - i = m → i ≤ ys.length → Each X n x H0 (ys.drop i) q → Inv X pins σ H s → Ext H0 H → (∀ (s' : Shared) (H' : Hp), Inv X pins σ H' s' → Ext H0 H' → R (.ok (.ret (.bool q))) s') →
      wpAny (model X.prog X.w) A.in1 (Builtin.«list.__contains__.loop» ⟨[.ref l, v, rawInt i], []⟩) (fun fin s' => match fin with | .done f => R (.ok f) s' | .again c' => c'.quiet = true ∧ codeAny (model X.prog X.w) A c' R s') (fun e s' => R (.error e) s') s := by
  intro m
  induction m with
  | zero =>
    intro i q s H hm hi he I ex fin
    have hd : ys.drop i = [] := List.drop_eq_nil_of_le (by omega)
    rw [hd] at he
    cases he
    obtain ⟨_, its, c, rv, _, e⟩ := I.lstM (ex _ _ hl)
    have hs : its.toArray[((i : Nat) : Int).toNat]? = none := by
      have := rv.length
      simp
      omega
    unfold Builtin.«list.__contains__.loop»
    refine wpAny_bind (wpAny_listItems e rfl ?_)
    rw [hs]
    dsimp only
    wp_walk
    exact fin s H I ex
  | succ m ih =>
    intro i q s H hm hi he I ex fin
    have hib : i < ys.length := by omega
    obtain ⟨_, its, c, rv, _, e⟩ := I.lstM (ex _ _ hl)
    obtain ⟨u, e1, e2⟩ := rv.get (List.getElem?_eq_getElem hib)
    have hs : its.toArray[((i : Nat) : Int).toNat]? = some u := by simpa using e1
    rw [List.drop_eq_getElem_cons hib] at he
    cases he with
    | @cons _ _ r q' cm t =>
      unfold Builtin.«list.__contains__.loop»
      refine wpAny_bind (wpAny_listItems e rfl ?_)
      rw [hs]
      dsimp only
      refine wpAny_bind (wpAny_mono (cm.bq A.in1 pins s σ H u v sb I ex e2 rx) (fun z s' h => ?_) fun e' s' h' => hE e' s' h')
      obtain ⟨rfl, H', I', ex'⟩ := h
      cases z with
      | true =>
        wp_walk
        exact fin s' H' I' (ex.trans ex')
      | false =>
        have hc : ((i : Int) + 1) = ((i + 1 : Nat) : Int) := by push_cast; rfl
        wp_walk
        rw [hc]
        exact ⟨plainId_quiet plain_contains_loop _, codeAny_builtin entry_contains_loop (by
          rw [Around.under_plainId plain_contains_loop _]
          exact ih (i + 1) _ s' H' (by omega) (by omega) t I' (ex.trans ex') fin)⟩
def rInQ (X : Cx) (n : Nat) (neg : Bool) : R2 := fun x y H Q => ∃ (l : Addr) (ys : List V) (r : Bool), y = .ref l ∧ H l = some (.lst ys) ∧ Each X n x H ys r ∧ ∀ H', Ext H H' → Q (.bl (if neg = true then !r else r)) H'
theorem has_list (hr : Room (n + 1) X.A) {pins : List (Addr × Obj)} {s : Shared} {σ : L2.St} {v : Value} {l : Addr} {ys : List V} (I : Inv X pins σ H s) (rx : RelV x v) (hl : H l = some (.lst ys)) (he : Each X n x H ys r) {Q : Bool → Shared → Prop} (q : ∀ s' H', Inv X pins σ H' s' → Ext H H' → Q r s') :
    wpAny (model X.prog X.w) X.A (contains (.ref l) v) Q X.xe s := by
  obtain ⟨_, its, c, rv, _, e⟩ := I.lstM hl
  have sb : Sub X n X.A.in1 := ⟨hr.in1, rfl⟩
  have hT : s.TypeIs (.ref l) "list" := ⟨_, e, rfl⟩
  refine wpAny_contains_slot hT PySem.F.slot_list_contains (wpAny_mono (call_meetsIn (Q := fun z s2 => z = Value.bool r ∧ ∃ H2, Inv X pins σ H2 s2 ∧ Ext H H2) (B := Builtin.«list.__contains__») (S := fun A R s' => A = X.A ∧ s' = s ∧ (∀ e s', X.xe e s' → R (.error e) s') ∧ ∀ (s' : Shared) (H' : Hp), Inv X pins σ H' s' → Ext H H' → R (.ok (.ret (.bool r))) s')
    PySem.F.slot_list_contains hT PySem.F.entry_list_contains (PySem.F.args_list_contains_2 _ _) ?_ ⟨rfl, rfl, fun e s' z => z, fun s' H' I' ex => ?_⟩) (fun z s' hv => ?_) fun _ _ e => e)
  case refine_1 =>
    intro A R s' hS
    obtain ⟨rfl, rfl, hE, fin⟩ := hS
    unfold Builtin.«list.__contains__»
    wp_walk
    exact ⟨plainId_quiet plain_contains_loop _, codeAny_builtin entry_contains_loop (by
      rw [Around.under_plainId plain_contains_loop _]
      exact in_loop sb hl rx hE (fun _ _ _ _ _ _ => trivial) _ 0 r s' H rfl (Nat.zero_le _) he I Ext.rfl' fin)⟩
  case refine_2 => exact ⟨rfl, H', I', ex⟩
  case refine_3 =>
    obtain ⟨rfl, H', I', ex⟩ := hv
    exact wpAny_truthy_bool (q s' H' I' ex)
theorem op_inQ (hr : Room (n + 1) X.A) : OpR X (compareOp .In) (rInQ X n false) := by
  intro pins s σ H x y v u Q I rx ry h
  obtain ⟨l, ys, r, rfl, hl, he, q⟩ := h
  cases (show u = Value.ref l from ry)
  show wpAny _ X.A (do return Value.bool (← contains (.ref l) v)) _ _ s
  exact wpAny_bind (has_list hr I rx hl he fun s' H' I' ex => wpAny_pure ⟨.bl r, H', I', rfl, q H' ex⟩)
theorem op_notInQ (hr : Room (n + 1) X.A) : OpR X (compareOp .NotIn) (rInQ X n true) := by
  intro pins s σ H x y v u Q I rx ry h
  obtain ⟨l, ys, r, rfl, hl, he, q⟩ := h
  cases (show u = Value.ref l from ry)
  show wpAny _ X.A (do return Value.bool (!(← contains (.ref l) v))) _ _ s
  exact wpAny_bind (has_list hr I rx hl he fun s' H' I' ex => wpAny_pure ⟨.bl (!r), H', I', rfl, q H' ex⟩)
end
end OWQ
set_option Elab.async false
set_option linter.all false
set_option maxRecDepth 100000
set_option maxHeartbeats 4000000
/-! OWA: OWQ2's operators, their readings told over the program alone (for comprehensions too). -/
namespace OWQ
open PySem PySem.Spec PyProof.Rows L2
/-- the context's own part -/
structure Of (X : Cx) (P : Program) (w : World) (K : PySem.W.Frag) (mg : Str → Option Value) (base : Heap) : Prop where
  p : X.prog = P
  w : X.w = w
  k : X.K = K
  m : X.mg = mg
  b : X.base = base
section
variable {P : Program} {w : World} {K : PySem.W.Frag} {mg : Str → Option Value} {base : Heap} {X : Cx} {n : Nat}
def CmA (P : Program) (w : World) (K : PySem.W.Frag) (mg : Str → Option Value) (base : Heap) (n : Nat) (x y : V) (H : Hp) (r : Bool) : Prop := ∀ X, Of X P w K mg base → Cm X n x y H r
theorem CmA.ext {x y : V} {H H' : Hp} {r : Bool} (c : CmA P w K mg base n x y H r) (e : Ext H H') : CmA P w K mg base n x y H' r := fun X o => (c X o).ext e
def rCmA (P : Program) (w : World) (K : PySem.W.Frag) (mg : Str → Option Value) (base : Heap) (n : Nat) (neg : Bool) : R2 := fun x y H Q => ∃ r, CmA P w K mg base n x y H r ∧ ∀ H', Ext H H' → Q (.bl (if neg = true then !r else r)) H'
theorem op_eqA (o : Of X P w K mg base) (hr : Room n X.A) : OpR X (compareOp .Eq) (rCmA P w K mg base n false) := fun pins s σ H x y v u Q I rx ry ⟨r, c, q⟩ => op_eqQ hr pins s σ H x y v u Q I rx ry ⟨r, c X o, q⟩
theorem op_neA (o : Of X P w K mg base) (hr : Room n X.A) : OpR X (compareOp .NotEq) (rCmA P w K mg base n true) := fun pins s σ H x y v u Q I rx ry ⟨r, c, q⟩ => op_neQ hr pins s σ H x y v u Q I rx ry ⟨r, c X o, q⟩
end
end OWQ
set_option Elab.async false
set_option linter.all false
set_option maxRecDepth 100000
set_option maxHeartbeats 4000000
/-! TQ: things of Python's own kinds, as an own __eq__ meets them: their type, that they tell nothing. -/
namespace TQ
open PySem PySem.Spec PyProof.Rows L2
structure Tq (G : Hp) (x : V) : Prop where
  tk : ∀ K H', Same G H' → OWQ.TK K H' x
  ty : ∀ K H', Same G H' → ∃ T, T ∈ OWQ.ts7 ∧ TyX K H' x (.type T)
section
variable {G G' : Hp} {x : V} {a : Addr} {xs : List V}
theorem Tq.same (h : Tq G x) (s : Same G G') : Tq G' x := ⟨fun K H' s' => h.tk K H' (s.trans s'), fun K H' s' => h.ty K H' (s.trans s')⟩
theorem Tq.non : Tq G .non := ⟨fun _ _ _ => .non, fun _ _ _ => ⟨"NoneType", by simp, .base .non⟩⟩
theorem Tq.bl {b : Bool} : Tq G (.bl b) := ⟨fun _ _ _ => .bl, fun _ _ _ => ⟨"bool", by simp, .base (.bl b)⟩⟩
theorem Tq.int {i : Int} : Tq G (.int i) := ⟨fun _ _ _ => .int, fun _ _ _ => ⟨"int", by simp, .base (.int i)⟩⟩
theorem Tq.str {z : Str} : Tq G (.str z) := ⟨fun _ _ _ => .str, fun _ _ _ => ⟨"str", by simp, .base (.str z)⟩⟩
theorem Tq.lst (h : G a = some (.lst xs)) : Tq G (.ref a) := ⟨fun _ _ s => .lst (SqL.of (s _ _ h)), fun _ _ s => ⟨"list", by simp, .base (.lst (s _ _ h))⟩⟩
theorem Tq.tup (h : G a = some (.tup xs)) : Tq G (.ref a) := ⟨fun _ _ s => .tup (SqT.of (s _ _ h)), fun _ _ s => ⟨"tuple", by simp, .base (.tup (s _ _ h))⟩⟩
theorem Tq.dct {kvs : List (Key × V)} (h : G a = some (.dK kvs)) : Tq G (.ref a) := ⟨fun _ _ s => .dct (s _ _ h), fun _ _ s => ⟨"dict", by simp, .base (.dK (s _ _ h))⟩⟩
end
/-- what is new since H -/
noncomputable def nw (H H' : Hp) : Hp := open Classical in fun a => if H a = none then H' a else none
theorem nw_at {H H' : Hp} {a : Addr} {o : HO} (e : H' a = some o) (z : H a = none) : nw H H' a = some o := by
  unfold nw
  rw [if_pos z]
  exact e
theorem nw_le {H H' : Hp} {a : Addr} {o : HO} (e : nw H H' a = some o) : H' a = some o ∧ H a = none := by
  unfold nw at e
  by_cases z : H a = none
  · rw [if_pos z] at e
    exact ⟨e, z⟩
  · rw [if_neg z] at e
    cases e
theorem nw_same {H H' H'' : Hp} (s : Same H' H'') : Same (nw H H') (nw H H'') := fun a o e => nw_at (s _ _ (nw_le e).1) (nw_le e).2
inductive TqAll (G : Hp) : List V → Prop
  | nil : TqAll G []
  | cons {x : V} {xs : List V} : Tq G x → TqAll G xs → TqAll G (x :: xs)
theorem TqAll.mem {G : Hp} {xs : List V} (h : TqAll G xs) : ∀ x ∈ xs, Tq G x := by
  induction h with
  | nil => intro x hx; cases hx
  | cons h _ ih =>
    intro x hx
    rcases List.mem_cons.mp hx with rfl | hx
    · exact h
    · exact ih x hx
end TQ
set_option linter.all false
namespace KM
/-- top and bottom of a rational number -/
def pr (r : Rat) : Int × Int := (r.num, (r.den : Int))
theorem pr_inj {r s : Rat} (h : pr r = pr s) : r = s := by
  have h1 : r.num = s.num := congrArg Prod.fst h
  have h2 : (r.den : Int) = (s.den : Int) := congrArg Prod.snd h
  rw [← Rat.num_divInt_den r, ← Rat.num_divInt_den s, h1, h2]
theorem den_ne (r : Rat) : (r.den : Int) ≠ 0 := by
  have := r.den_nz
  omega
theorem den_pos (r : Rat) : 0 < (r.den : Int) := by
  have := r.den_nz
  omega
theorem low_eq {t b : Int} (h : b ≠ 0) : low t b = pr (Rat.divInt t b) := by
  have hp := low_pos (t := t) h
  have hc := low_cop (t := t) h
  obtain ⟨d, hd⟩ := Int.eq_ofNat_of_zero_le (Int.le_of_lt hp)
  have hd0 : d ≠ 0 := by
    intro z
    rw [z] at hd
    omega
  have hcop : (low t b).1.natAbs.Coprime d := by
    have : Int.gcd (low t b).1 (low t b).2 = 1 := hc
    rw [hd] at this
    exact this
  have e1 : Rat.divInt (low t b).1 (d : Int) = Rat.divInt t b := by
    rw [Rat.divInt_eq_divInt_iff (by omega) h, ← hd]
    have h1 := low_top (t := t) (b := b)
    have h2 := low_bot (t := t) (b := b)
    calc (low t b).1 * b = (low t b).1 * (sg t b * (low t b).2) := by rw [h2]
      _ = sg t b * (low t b).1 * (low t b).2 := by rw [← Int.mul_assoc, Int.mul_comm (low t b).1]
      _ = t * (low t b).2 := by rw [h1]
  have e2 : ({ num := (low t b).1, den := d, den_nz := hd0, reduced := hcop } : Rat) = Rat.divInt t b := by rw [Rat.mk_eq_divInt, e1]
  rw [← e2]
  exact Prod.ext rfl hd
theorem pr_plus (r s : Rat) : low ((pr r).1 * (pr s).2 + (pr s).1 * (pr r).2) ((pr r).2 * (pr s).2) = pr (r + s) := by
  show low (r.num * s.den + s.num * r.den) (r.den * s.den) = _
  rw [low_eq (Int.mul_ne_zero (den_ne r) (den_ne s)), ← Rat.divInt_add_divInt _ _ (den_ne r) (den_ne s), Rat.num_divInt_den, Rat.num_divInt_den]
theorem pr_less (r s : Rat) : low ((pr r).1 * (pr s).2 - (pr s).1 * (pr r).2) ((pr r).2 * (pr s).2) = pr (r - s) := by
  show low (r.num * s.den - s.num * r.den) (r.den * s.den) = _
  rw [low_eq (Int.mul_ne_zero (den_ne r) (den_ne s)), ← Rat.divInt_sub_divInt _ _ (den_ne r) (den_ne s), Rat.num_divInt_den, Rat.num_divInt_den]
theorem pr_times (r : Rat) (k : Int) : low ((pr r).1 * k) (pr r).2 = pr (r * (Rat.divInt k 1)) := by
  show low (r.num * k) r.den = _
  have e : Rat.divInt (r.num * k) (r.den : Int) = Rat.divInt r.num r.den * Rat.divInt k 1 := by rw [Rat.divInt_mul_divInt, Int.mul_one]
  rw [low_eq (den_ne r), e, Rat.num_divInt_den]
theorem pr_over (r : Rat) {k : Int} (h : k ≠ 0) : low (pr r).1 ((pr r).2 * k) = pr (r * (Rat.divInt 1 k)) := by
  show low r.num (r.den * k) = _
  have e : Rat.divInt r.num (r.den * k : Int) = Rat.divInt r.num r.den * Rat.divInt 1 k := by rw [Rat.divInt_mul_divInt, Int.mul_one]
  rw [low_eq (Int.mul_ne_zero (den_ne r) h), e, Rat.num_divInt_den]
theorem inv_k {k : Int} (h : k ≠ 0) : Rat.divInt k 1 * Rat.divInt 1 k = 1 := by
  rw [Rat.divInt_mul_divInt, Int.mul_one, Int.one_mul]
  exact Rat.divInt_self' h
theorem pr_lt (r s : Rat) : ((pr r).1 * (pr s).2 < (pr s).1 * (pr r).2) ↔ r < s := (Rat.lt_iff r s).symm
theorem pr_bot (r : Rat) : 0 < (pr r).2 := den_pos r
theorem add_back (r s : Rat) : r + s - s = r := by
  rw [Rat.sub_eq_add_neg, Rat.add_assoc, Rat.add_neg_cancel, Rat.add_zero]
theorem sub_back (r s : Rat) : r - s + s = r := by
  rw [Rat.sub_eq_add_neg, Rat.add_assoc, Rat.neg_add_cancel, Rat.add_zero]
theorem mul_back (r : Rat) {k : Int} (h : k ≠ 0) : r * Rat.divInt k 1 * Rat.divInt 1 k = r := by
  rw [Rat.mul_assoc, inv_k h, Rat.mul_one]
theorem div_back (r : Rat) {k : Int} (h : k ≠ 0) : r * Rat.divInt 1 k * Rat.divInt k 1 = r := by
  rw [Rat.mul_assoc, Rat.mul_comm (Rat.divInt 1 k), inv_k h, Rat.mul_one]
/-- small -/
def Sz (n : Nat) (r : Rat) : Prop := r.num.natAbs < 2 ^ n ∧ r.den < 2 ^ n
theorem Sz.mono {n m : Nat} {r : Rat} (h : Sz n r) (hm : n ≤ m) : Sz m r := ⟨Nat.lt_of_lt_of_le h.1 (Nat.pow_le_pow_right (by decide) hm), Nat.lt_of_lt_of_le h.2 (Nat.pow_le_pow_right (by decide) hm)⟩
theorem sz_of_low {t b : Int} {n : Nat} (hb : b ≠ 0) (h1 : t.natAbs < 2 ^ n) (h2 : b.natAbs < 2 ^ n) : Sz n (Rat.divInt t b) := by
  have e := low_eq (t := t) hb
  have e1 : (low t b).1 = (Rat.divInt t b).num := congrArg Prod.fst e
  have e2 : (low t b).2 = ((Rat.divInt t b).den : Int) := congrArg Prod.snd e
  have l1 := low_top_le (t := t) hb
  have l2 := low_bot_le (t := t) hb
  constructor
  · rw [← e1]; omega
  · have : ((low t b).2).natAbs < 2 ^ n := by omega
    rw [e2] at this
    simpa using this
theorem two_lt {x y n m : Nat} (h1 : x < 2 ^ n) (h2 : y < 2 ^ m) : x * y < 2 ^ (n + m) := by
  rw [Nat.pow_add]
  exact Nat.mul_lt_mul'' h1 h2
theorem sz_sum {a b c d : Int} {n m : Nat} (h1 : a.natAbs < 2 ^ n) (h2 : d.natAbs < 2 ^ m) (h3 : c.natAbs < 2 ^ m) (h4 : b.natAbs < 2 ^ n) : (a * d + c * b).natAbs < 2 ^ (n + m + 1) ∧ (a * d - c * b).natAbs < 2 ^ (n + m + 1) := by
  have e1 : (a * d).natAbs < 2 ^ (n + m) := by rw [Int.natAbs_mul]; exact two_lt h1 h2
  have e2 : (c * b).natAbs < 2 ^ (n + m) := by rw [Int.natAbs_mul, Nat.add_comm]; exact two_lt h3 h4
  have e3 : 2 ^ (n + m + 1) = 2 * 2 ^ (n + m) := by rw [Nat.pow_succ, Nat.mul_comm]
  omega
theorem sz_plus {n m : Nat} {r s : Rat} (hr : Sz n r) (hs : Sz m s) : Sz (n + m + 1) (r + s) ∧ Sz (n + m + 1) (r - s) := by
  have d1 : ((r.den : Int)).natAbs < 2 ^ n := by simpa using hr.2
  have d2 : ((s.den : Int)).natAbs < 2 ^ m := by simpa using hs.2
  have hd : ((r.den : Int) * s.den).natAbs < 2 ^ (n + m + 1) := by
    have : ((r.den : Int) * s.den).natAbs < 2 ^ (n + m) := by rw [Int.natAbs_mul]; exact two_lt d1 d2
    exact Nat.lt_of_lt_of_le this (Nat.pow_le_pow_right (by decide) (by omega))
  have hn := sz_sum hr.1 d2 hs.1 d1
  have ne := Int.mul_ne_zero (den_ne r) (den_ne s)
  constructor
  · have := sz_of_low ne hn.1 hd
    rw [← Rat.divInt_add_divInt _ _ (den_ne r) (den_ne s), Rat.num_divInt_den, Rat.num_divInt_den] at this
    exact this
  · have := sz_of_low ne hn.2 hd
    rw [← Rat.divInt_sub_divInt _ _ (den_ne r) (den_ne s), Rat.num_divInt_den, Rat.num_divInt_den] at this
    exact this
theorem sz_times {n m : Nat} {r : Rat} {k : Int} (hr : Sz n r) (hk : k.natAbs < 2 ^ m) : Sz (n + m) (r * Rat.divInt k 1) := by
  have e : r * Rat.divInt k 1 = Rat.divInt (r.num * k) r.den := by
    have : Rat.divInt (r.num * k) (r.den : Int) = Rat.divInt r.num r.den * Rat.divInt k 1 := by rw [Rat.divInt_mul_divInt, Int.mul_one]
    rw [this, Rat.num_divInt_den]
  rw [e]
  refine sz_of_low (den_ne r) (by rw [Int.natAbs_mul]; exact two_lt hr.1 hk) ?_
  have d1 : ((r.den : Int)).natAbs < 2 ^ n := by simpa using hr.2
  exact Nat.lt_of_lt_of_le d1 (Nat.pow_le_pow_right (by decide) (by omega))
theorem sz_over {n m : Nat} {r : Rat} {k : Int} (hr : Sz n r) (h : k ≠ 0) (hk : k.natAbs < 2 ^ m) : Sz (n + m) (r * Rat.divInt 1 k) := by
  have e : r * Rat.divInt 1 k = Rat.divInt r.num (r.den * k) := by
    have : Rat.divInt r.num (r.den * k : Int) = Rat.divInt r.num r.den * Rat.divInt 1 k := by rw [Rat.divInt_mul_divInt, Int.mul_one]
    rw [this, Rat.num_divInt_den]
  rw [e]
  have d1 : ((r.den : Int)).natAbs < 2 ^ n := by simpa using hr.2
  refine sz_of_low (Int.mul_ne_zero (den_ne r) h) (Nat.lt_of_lt_of_le hr.1 (Nat.pow_le_pow_right (by decide) (by omega))) ?_
  rw [Int.natAbs_mul]
  exact two_lt d1 hk
end KM
set_option linter.all false
set_option Elab.async false
set_option maxRecDepth 100000
/-! TX: the texts of whole numbers and of fractions, sign by sign. -/
namespace TX
open PySem SX TL NumText
/-- the signs of a whole number -/
def intL (i : Int) : List Nat := if i < 0 then 45 :: numL i.natAbs else numL i.natAbs
theorem tl_int (i : Int) : Str.ofString (toString i) = S (intL i) := by
  by_cases h : i < 0
  · obtain ⟨n, rfl⟩ : ∃ n : Nat, i = -((n + 1 : Nat) : Int) := ⟨i.natAbs - 1, by omega⟩
    have e : toString (-((n + 1 : Nat) : Int)) = "-" ++ toString ((n + 1 : Nat) : Int) := by rfl
    unfold intL
    rw [if_pos h, e]
    have e2 : (-((n + 1 : Nat) : Int)).natAbs = n + 1 := by omega
    rw [e2]
    refine TL.ext_tl ?_
    have e3 : (Str.ofString (toString ((n + 1 : Nat) : Int))).cps.toList = numL (n + 1) := tl_num (n + 1)
    show (Str.ofString ("-" ++ toString ((n + 1 : Nat) : Int))).cps.toList = 45 :: numL (n + 1)
    rw [← e3]
    rw [Str.ofString_eq_toList, Str.ofString_eq_toList, String.toList_append]
    rfl
  · obtain ⟨n, rfl⟩ := Int.eq_ofNat_of_zero_le (by omega : 0 ≤ i)
    unfold intL
    rw [if_neg h]
    exact num_S n
theorem no_minus (n : Nat) : 45 ∉ numL n := numL_free (.inl (by decide))
theorem no_stroke_int (i : Int) : 47 ∉ intL i := by
  unfold intL
  split
  · intro h
    rcases List.mem_cons.mp h with z | z
    · cases z
    · exact numL_free (.inl (by decide)) z
  · exact numL_free (.inl (by decide))
theorem minus_S : (Str.ofString "-") = S [45] := by decide +kernel
theorem stroke_S : (Str.ofString "/") = S [47] := by decide +kernel
theorem one_S : (Str.ofString "1") = S [49] := by decide +kernel
theorem zero_S : (Str.ofString "0") = S [48] := by decide +kernel
theorem empty_S : (Str.ofString "") = S [] := by decide +kernel
theorem rp_cons (l : List Nat) : Txt.removeprefix (S (45 :: l)) (S [45]) = S l := by
  rw [StrLaws.removeprefix_eq, StrLaws.subAt_eq]
  have h1 : (decide (0 + (S [45]).length ≤ (S (45 :: l)).length)) = true := by
    rw [S_len, S_len]
    simp
  rw [h1]
  have h2 : (((S (45 :: l)).cps.toList.drop 0).take (S [45]).length == (S [45]).cps.toList) = true := by
    rw [S_len]
    simp
  rw [h2]
  simp only [Bool.and_self, if_true]
  rw [S_len, S_len]
  simp
theorem rp_other {c : Nat} {l : List Nat} (h : c ≠ 45) : Txt.removeprefix (S (c :: l)) (S [45]) = S (c :: l) := by
  rw [StrLaws.removeprefix_eq, StrLaws.subAt_eq]
  have h2 : (((S (c :: l)).cps.toList.drop 0).take (S [45]).length == (S [45]).cps.toList) = false := by
    rw [S_len]
    simp [h]
  rw [h2, Bool.and_false]
  simp
theorem rp_int (i : Int) : Txt.removeprefix (S (intL i)) (S [45]) = S (numL i.natAbs) := by
  unfold intL
  split
  · exact rp_cons _
  · have hne := numL_ne i.natAbs
    have hno := no_minus i.natAbs
    cases hl : numL i.natAbs with
    | nil => exact absurd hl hne
    | cons c l =>
      rw [hl] at hno
      exact rp_other fun z => hno (by rw [z]; exact List.mem_cons_self ..)
theorem intL_len {i : Int} {k : Nat} (hk : 0 < k) (h : i.natAbs < 10 ^ k) : (intL i).length ≤ k + 1 := by
  have := numL_len hk h
  unfold intL
  split
  · rw [List.length_cons]; omega
  · omega
theorem int_int {i : Int} (h : (intL i).length ≤ 4300) : intText? (S (intL i)) = some i := by
  unfold intL at h ⊢
  split
  · rename_i hi
    have e := intText_neg (x := S (45 :: numL i.natAbs)) (cs := numL i.natAbs) rfl (numL_digits _) (numL_ne _) (by rw [S_len]; rw [if_pos hi] at h; exact h)
    rw [e, numL_val]
    congr 1
    omega
  · rename_i hi
    have e := intText_digits (x := S (numL i.natAbs)) (numL_digits _) (numL_ne _) (by rw [S_len]; rw [if_neg hi] at h; exact h)
    rw [e]
    show some ((digitsVal (numL i.natAbs) : Nat) : Int) = some i
    rw [numL_val]
    congr 1
    omega
/-- the text of a fraction -/
def txL (r : Rat) : List Nat := if r.den = 1 then intL r.num else intL r.num ++ (47 :: numL r.den)
theorem numL_head : ∀ n : Nat, 0 < n → ∃ c l, numL n = c :: l ∧ c ≠ 48 := by
  intro n
  induction n using Nat.strongRecOn with
  | _ n ih =>
    intro hn
    by_cases h : n < 10
    · rw [numL_lt h]
      exact ⟨48 + n, [], rfl, by omega⟩
    · rw [numL_step (by omega)]
      obtain ⟨c, l, e, hc⟩ := ih (n / 10) (by omega) (by omega)
      exact ⟨c, l ++ [48 + n % 10], by rw [e]; rfl, hc⟩
theorem numL_zero : numL 0 = [48] := numL_lt (by decide)
theorem part_one (i : Int) : Txt.partition (S (intL i)) (S [47]) = (S (intL i), S [], S []) := partition_none (by simp) (par_head_none (no_stroke_int i))
theorem part_two (i : Int) (l : List Nat) : Txt.partition (S (intL i ++ (47 :: l))) (S [47]) = (S (intL i), S [47], S l) := partition_some (by simp) (par_head (sep := []) l (no_stroke_int i))
theorem numL_pow {n k : Nat} (h : n < 2 ^ k) (hk : 0 < k) : (numL n).length ≤ k := numL_len hk (Nat.lt_of_lt_of_le h (Nat.pow_le_pow_left (by decide) k))
theorem intL_pow {i : Int} {k : Nat} (h : i.natAbs < 2 ^ k) (hk : 0 < k) : (intL i).length ≤ k + 1 := intL_len hk (Nat.lt_of_lt_of_le h (Nat.pow_le_pow_left (by decide) k))
theorem txL_len {r : Rat} {k : Nat} (h : KM.Sz k r) (hk : 0 < k) : (txL r).length ≤ 2 * k + 2 := by
  have h1 := intL_pow h.1 hk
  have h2 := numL_pow h.2 hk
  unfold txL
  split
  · omega
  · rw [List.length_append, List.length_cons]; omega
end TX
set_option Elab.async false
set_option linter.all false
set_option maxRecDepth 100000
set_option maxHeartbeats 4000000
/-! MKS: the making of an own instance that may raise, within a try. -/
namespace MKS
open PySem PySem.Spec PyProof.Rows L2
section
variable {X : Cx} {CX : CXT} {k : Nat} {f C : Addr} {fd : FuncData} {ps : List Str} {sp : Sp} {dvs : List V} {ds : List Value} {E : L2.St → XK} {x m : Str} {p pos apos : Pos} {e o : Expr} {es : List Expr} {ta : TE} {t : TA}
theorem run_makeS {E : XK} {pins : List (Addr × Obj)} {σ : L2.St} {H : Hp} {s : Shared} {Q : VK} {us : List Value} {vs : List V} (M : Mk X.K C f) (F : FnOk X.prog X.w X.K X.mg X.base CX k f fd ps sp) (hr : Room (k + 1) X.A) (hb : Binds X.K fd ps ds) (hd : Vals dvs ds)
    (hx : PassesAt CX X σ E) (I : Inv X pins σ H s) (r : Vals vs us)
    (h : ∀ x dx, H x = none → H dx = none → dx ≠ x → sp (.ref x :: (vs ++ dvs)) (upd (upd H dx (.own x)) x (.ins C dx [])) (fun v H2 => v = .non ∧ Q (.ref x) H2) E) :
    wpAny (model X.prog X.w) X.A (call (.ref C) us) (EP X pins σ Q) X.xe s := by
  have hq := h (s.heap.objs.size + 1) s.heap.objs.size (I.hok.fresh (Nat.le_succ _)) (I.hok.fresh (Nat.le_refl _)) (Nat.ne_of_lt (Nat.lt_succ_self _))
  have I2 := Inv.made (C := C) I
  have r2 : Vals (V.ref (s.heap.objs.size + 1) :: (vs ++ dvs)) (Value.ref (s.heap.objs.size + 1) :: (us ++ ds)) := .cons rfl (r.append hd)
  have hl : (Value.ref (s.heap.objs.size + 1) :: us ++ ds).length = ps.length := by
    have e := r2.length
    rw [F.len _ _ _ _ hq] at e
    exact e.symm
  refine wpAny_call (make_map (f := f) I.kIn M.makes M.init (beq_iff_eq.mp M.fn) (codeAny_mono (F.run _ X.stack _ _ ⟨Value.ref (s.heap.objs.size + 1) :: us, []⟩ (Value.ref (s.heap.objs.size + 1) :: (us ++ ds)) _ _ E (hr.make C us [])
    (I2.env0.make C us []) (hb _ (Value.ref (s.heap.objs.size + 1) :: us) I2.kIn hl) r2 hq) fun r s' hq' => ?_))
  cases r with
  | error e => exact hx pins _ _ e s' I2 hq'
  | ok fl =>
    cases fl with
    | ret u =>
      obtain ⟨v, H', I3, rv, ev, q3⟩ := I2.after hq'
      subst ev
      exact ⟨rv, ⟨V.ref (s.heap.objs.size + 1), H', I3, rfl, q3⟩⟩
    | next => exact False.elim hq'
    | brk => exact False.elim hq'
    | cont => exact False.elim hq'
def tMakeS (C : Addr) (sp : Sp) (dvs : List V) (E : L2.St → XK) (t : TA) : TE := fun σ H Q => t σ H fun vs H1 => ∀ x dx, H1 x = none → H1 dx = none → dx ≠ x →
  sp (.ref x :: (vs ++ dvs)) (upd (upd H1 dx (.own x)) x (.ins C dx [])) (fun v H2 => v = .non ∧ Q (.ref x) H2) (E σ)
theorem pe_makeS (M : Mk X.K C f) (F : FnOk X.prog X.w X.K X.mg X.base CX k f fd ps sp) (hr : Room (k + 1) X.A) (hg : Gl X x) (hm : X.mg x = some (.ref C)) (hb : Binds X.K fd ps ds) (hd : Vals dvs ds) (hx : ∀ σ, PassesAt CX X σ (E σ))
    (ha : PA X (e :: es) t) (hdb : (x == ("__debug__" : Str)) = false := by decide) (he : starEach (e :: es) X.env = (false, eval e X.env) :: starEach es X.env := by rfl) (hpl : (backTo pos (starEach es X.env)).any (·.1) = false := by rfl) :
    PE X (.Call (.Name x p) (e :: es) [] pos) (tMakeS C sp dvs E t) := by
  refine ⟨fun pins s σ H Q I h => ?_⟩
  refine wpAny_Call_Name_kw (ld_glob I hg hm ?_ hdb)
  refine PySem.W.callWith_K (h₀ := X.base) I.ok.mod.kin M.kp (thn (ha.run pos pins s σ H _ I h) fun us s1 ⟨vs, H1, I1, r, q⟩ => ⟨I1.kIn, ?_⟩) he hpl
  exact run_makeS M F hr hb hd (hx σ) I1 r q
end
end MKS
set_option Elab.async false
set_option linter.all false
set_option maxRecDepth 100000
set_option maxHeartbeats 4000000
namespace K01
open PySem PySem.Spec PyProof.Rows L2
open C8 (Cal Mak Met pe_c pe_mk pe_mt pe_mt0)
open OWQ TQ
/-! ### texts -/
theorem emp (x : Str) : Str.empty ++ x = x := by
  have e : x = SX.S x.cps.toList := rfl
  rw [e]
  exact SX.S_cat [] _
def txq (q : Int × Int) : Str := if q.2 = 1 then Str.ofString (toString q.1) else Str.ofString (toString q.1) ++ Str.ofString "/" ++ Str.ofString (toString q.2)
def rpq (q : Int × Int) : Str := Str.ofString "Share(" ++ Str.ofString (toString q.1) ++ Str.ofString ", " ++ Str.ofString (toString q.2) ++ Str.ofString ")"
/-- a number of no more than a hundred and sixty figures of two -/
def Sm (i : Int) : Prop := i.natAbs < 2 ^ 200
theorem Sm.log {i : Int} (h : Sm i) : i.natAbs.log2 < 1920 := Nat.lt_of_lt_of_le (PySem.Flt.log2_lt_of (by decide) h) (by decide)
theorem Sm.len {i : Int} (h : Sm i) : (Str.ofString (toString i)).length ≤ 201 := by
  rw [TX.tl_int, SX.S_len]
  exact TX.intL_pow h (by decide)
theorem len_cat (a b : Str) : (a ++ b).length = a.length + b.length := PySem.strLen_append a b
theorem l_sh : (Str.ofString "Share(").length = 6 := rfl
theorem l_cm : (Str.ofString ", ").length = 2 := rfl
theorem l_cl : (Str.ofString ")").length = 1 := rfl
theorem l_st : (Str.ofString "/").length = 1 := rfl
theorem big {n : Nat} (h : n ≤ 2000) : n ≤ sizeLine := Nat.le_trans h (by decide)
/-- what isinstance asks of the class -/
structure IsS (K : PySem.W.Frag) (C : Addr) : Prop where
  is : IsC K C
  kits : ∀ T ∈ OWQ.ts7, PySem.W.kitOne K (.type T) (.ref C) = some false
section
variable {P : Program} {w : World} {K : PySem.W.Frag} {mg : Str → Option Value} {base : Heap} {f C : Addr} {fd : FuncData}
/-- __eq__, its right one -/
inductive Rt (K : PySem.W.Frag) (C : Addr) (H : Hp) (q : Int × Int) : V → Bool → Prop
  | sh {a : Addr} {q' : Int × Int} : Sh C H a q' → Rt K C H q (.ref a) (decide (q = q'))
  | th {y : V} {T : String} : T ∈ OWQ.ts7 → TyX K H y (.type T) → Rt K C H q y false
def spEq (K : PySem.W.Frag) (C : Addr) : Sp := fun vs H Q _ => ∃ (p : Addr) (y : V) (q : Int × Int) (r : Bool), vs = [.ref p, y] ∧ Sh C H p q ∧ Rt K C H q y r ∧ Q (.bl r) H
theorem ok_eq (F : Dn K d_Share_eq f fd) (b : Bl mg) (T : Cl K mg C) (S' : IsS K C) : FnOk P w K mg base CX0 1 f fd ["self", "other"] (spEq K C) := by
  refine F.ok sc_Share_eq (fun vs H Q E h => ?_) (fun cdv A outer s H vs Q E hr h => ?_)
  · obtain ⟨p, y, q, r, rfl, _⟩ := h
    rfl
  · obtain ⟨p, y, q, r, rfl, ⟨dp, hp⟩, rt, hQ⟩ := h
    refine ⟨_, PSs.nox (pss_one (ps_ret (pe_and (pe_callB call_isi rfl b.isi boot_isinstance (pa_cons (pv 1) (pa_cons (pe_glob (v := .ref C) rfl T.g rfl) pa_nil)))
      (pe_and (pe_cmpR op_eq (pe_fld (pv 0) rfl) (pe_fld (pv 1) rfl) (nomark _)) (pe_one (pe_cmpR op_eq (pe_fld (pv 0) rfl) (pe_fld (pv 1) rfl) (nomark _))))))), ?_⟩
    cases rt with
    | @th _ T' hT hty => exact ⟨_, rfl, _, _, _, _, false, rfl, ClsV.own C, hty, S'.kits T' hT, false, rfl, iteF hQ⟩
    | @sh a q' ha =>
      obtain ⟨da, ha⟩ := ha
      refine ⟨_, rfl, _, _, _, _, true, rfl, ClsV.own C, TyX.base (TyOf.ins ha T.cl S'.is.ha S'.is.hn S'.is.htk S'.is.hm), S'.is.kit, true, rfl, iteT ?_⟩
      refine ⟨_, rfl, p, C, dp, _, _, rfl, hp, T.cl, T.nt, shF_top _, _, rfl, a, C, da, _, _, rfl, ha, T.cl, T.nt, shF_top _, rfl, _, rfl, ?_⟩
      refine ite2 (fun h1 => ?_) (fun h1 => ?_)
      · have e1 : q.1 = q'.1 := V.int.inj (of_decide_eq_true h1)
        refine ⟨_, rfl, p, C, dp, _, _, rfl, hp, T.cl, T.nb, shF_bot _, _, rfl, a, C, da, _, _, rfl, ha, T.cl, T.nb, shF_bot _, rfl, ?_⟩
        have e : decide (V.int q.2 = V.int q'.2) = decide (q = q') := decide_eq_decide.mpr ⟨fun z => Prod.ext e1 (V.int.inj z), fun z => by rw [z]⟩
        rw [e]
        exact hQ
      · have e : decide (q = q') = false := decide_eq_false fun z => h1 (by rw [z]; simp)
        rw [e] at hQ
        exact hQ
def spTx (C : Addr) (g : Int × Int → Str) : Sp := fun vs H Q _ => ∃ (p : Addr) (q : Int × Int), vs = [.ref p] ∧ Sh C H p q ∧ Sm q.1 ∧ Sm q.2 ∧ Q (.str (g q)) H
theorem ok_str (F : Dn K d_Share_str f fd) (T : Cl K mg C) : FnOk P w K mg base CX0 1 f fd ["self"] (spTx C txq) := by
  refine F.ok sc_Share_str (fun vs H Q E h => ?_) (fun cdv A outer s H vs Q E hr h => ?_)
  · obtain ⟨p, q, rfl, _⟩ := h
    rfl
  · obtain ⟨p, q, rfl, ⟨dp, hp⟩, s1, s2, hQ⟩ := h
    refine ⟨_, PSs.nox (pss_cons (ps_if (pt_cmpR op_eq (pe_fld (pv 0) rfl) pe_int (nomark _)) (pss_one (ps_ret (pe_joined1 (pe_fmt (pe_fld (pv 0) rfl))))) pss_nil)
      (pss_one (ps_ret (pe_joined (.cons (pe_fmt (pe_fld (pv 0) rfl)) (.cons pe_str (.cons (pe_fmt (pe_fld (pv 0) rfl)) .nil))))))), ?_⟩
    refine ⟨_, rfl, p, C, dp, _, _, rfl, hp, T.cl, T.nb, shF_bot _, rfl, _, rfl, ?_⟩
    have k1 := s1.len
    have k2 := s2.len
    refine ite2 (fun h1 => ?_) (fun h1 => ?_)
    · have e1 : q.2 = 1 := V.int.inj (of_decide_eq_true h1)
      unfold txq at hQ
      rw [if_pos e1] at hQ
      exact ⟨_, rfl, p, C, dp, _, _, rfl, hp, T.cl, T.nt, shF_top _, .inr ⟨_, rfl, s1.log, hQ⟩⟩
    · have e1 : ¬ q.2 = 1 := fun z => h1 (by rw [z]; rfl)
      unfold txq at hQ
      rw [if_neg e1] at hQ
      refine ⟨_, rfl, p, C, dp, _, _, rfl, hp, T.cl, T.nt, shF_top _, .inr ⟨_, rfl, s1.log, _, rfl, ?_, _, rfl, ?_, _, rfl, p, C, dp, _, _, rfl, hp, T.cl, T.nb, shF_bot _, .inr ⟨_, rfl, s2.log, _, rfl, ?_, ?_⟩⟩⟩
      · show (Str.empty ++ Str.ofString (toString q.1)).length ≤ sizeLine
        rw [emp]
        exact big (by omega)
      · show (Str.empty ++ Str.ofString (toString q.1) ++ Str.ofString "/").length ≤ sizeLine
        rw [emp, len_cat, l_st]
        exact big (by omega)
      · show (Str.empty ++ Str.ofString (toString q.1) ++ Str.ofString "/" ++ Str.ofString (toString q.2)).length ≤ sizeLine
        rw [emp, len_cat, len_cat, l_st]
        exact big (by omega)
      · show Q (.str (Str.empty ++ Str.ofString (toString q.1) ++ Str.ofString "/" ++ Str.ofString (toString q.2))) H
        rw [emp]
        exact hQ
theorem ok_repr (F : Dn K d_Share_repr f fd) (T : Cl K mg C) : FnOk P w K mg base CX0 1 f fd ["self"] (spTx C rpq) := by
  refine F.ok sc_Share_repr (fun vs H Q E h => ?_) (fun cdv A outer s H vs Q E hr h => ?_)
  · obtain ⟨p, q, rfl, _⟩ := h
    rfl
  · obtain ⟨p, q, rfl, ⟨dp, hp⟩, s1, s2, hQ⟩ := h
    refine ⟨_, PSs.nox (pss_one (ps_ret (pe_joined (.cons pe_str (.cons (pe_fmt (pe_fld (pv 0) rfl)) (.cons pe_str (.cons (pe_fmt (pe_fld (pv 0) rfl)) (.cons pe_str .nil)))))))), ?_⟩
    have k1 := s1.len
    have k2 := s2.len
    refine ⟨_, rfl, ?_, _, rfl, p, C, dp, _, _, rfl, hp, T.cl, T.nt, shF_top _, .inr ⟨_, rfl, s1.log, _, rfl, ?_, _, rfl, ?_, _, rfl, p, C, dp, _, _, rfl, hp, T.cl, T.nb, shF_bot _, .inr ⟨_, rfl, s2.log, _, rfl, ?_, _, rfl, ?_, ?_⟩⟩⟩
    · decide
    · show (Str.empty ++ Str.ofString "Share(" ++ Str.ofString (toString q.1)).length ≤ sizeLine
      rw [emp, len_cat, l_sh]
      exact big (by omega)
    · show (Str.empty ++ Str.ofString "Share(" ++ Str.ofString (toString q.1) ++ Str.ofString ", ").length ≤ sizeLine
      rw [emp, len_cat, len_cat, l_sh, l_cm]
      exact big (by omega)
    · show (Str.empty ++ Str.ofString "Share(" ++ Str.ofString (toString q.1) ++ Str.ofString ", " ++ Str.ofString (toString q.2)).length ≤ sizeLine
      rw [emp, len_cat, len_cat, len_cat, l_sh, l_cm]
      exact big (by omega)
    · show (Str.empty ++ Str.ofString "Share(" ++ Str.ofString (toString q.1) ++ Str.ofString ", " ++ Str.ofString (toString q.2) ++ Str.ofString ")").length ≤ sizeLine
      rw [emp, len_cat, len_cat, len_cat, len_cat, l_sh, l_cm, l_cl]
      exact big (by omega)
    · show Q (.str (Str.empty ++ Str.ofString "Share(" ++ Str.ofString (toString q.1) ++ Str.ofString ", " ++ Str.ofString (toString q.2) ++ Str.ofString ")")) H
      rw [emp]
      exact hQ
/-! ### what is no whole number -/
def Nw (H : Hp) (v : V) : Prop := ∀ K H', Same H H' → ∃ T, T ∈ OWQ.ts7 ∧ T ≠ "int" ∧ TyX K H' v (.type T)
theorem Nw.same {H H' : Hp} {v : V} (h : Nw H v) (s : Same H H') : Nw H' v := fun K H'' s' => h K H'' (s.trans s')
/-- any thing: whether it is a whole number -/
def spWh2 : Sp := fun vs H Q _ => ∃ (v : V) (r : Bool), vs = [v] ∧ ((∃ n : Int, v = .int n ∧ r = true) ∨ (Nw H v ∧ r = false)) ∧ Q (.bl r) H
theorem ok_wh2 (F : Dn K d_is_whole f fd) (b : Bl mg) : FnOk P w K mg base CX0 1 f fd ["thing"] spWh2 := by
  refine F.ok sc_is_whole (fun vs H Q E h => ?_) (fun cdv A outer s H vs Q E hr h => ?_)
  · obtain ⟨v, r, rfl, _⟩ := h
    rfl
  · obtain ⟨v, r, rfl, hv, hQ⟩ := h
    refine ⟨_, PSs.nox (pss_one (ps_ret (pe_and
      (pe_callB call_isi rfl b.isi boot_isinstance (pa_cons (pv 0) (pa_cons (pe_bltn (v := .ty "int") rfl b.int boot_int rfl) pa_nil)))
      (pe_one (pe_not (pe_callB call_isi rfl b.isi boot_isinstance (pa_cons (pv 0) (pa_cons (pe_bltn (v := .ty "bool") rfl b.bool boot_bool rfl) pa_nil)))))))), ?_⟩
    rcases hv with ⟨n, rfl, rfl⟩ | ⟨hv, rfl⟩
    · refine ⟨_, rfl, _, _, _, _, true, rfl, ClsV.ty _, TyX.base (TyOf.int n), kit_ty (by decide +kernel), true, rfl, ?_⟩
      refine iteT ?_
      exact ⟨_, rfl, _, _, _, _, false, rfl, ClsV.ty _, TyX.base (TyOf.int n), kit_ty (by decide +kernel), false, rfl, hQ⟩
    · obtain ⟨T, hT, nT, ty⟩ := hv K H (Same.refl H)
      simp only [List.mem_cons, List.not_mem_nil, or_false] at hT
      rcases hT with rfl | rfl | rfl | rfl | rfl | rfl | rfl
      · exact ⟨_, rfl, _, _, _, _, false, rfl, ClsV.ty _, ty, kit_ty (by decide +kernel), false, rfl, iteF hQ⟩
      · exact ⟨_, rfl, _, _, _, _, true, rfl, ClsV.ty _, ty, kit_ty (by decide +kernel), true, rfl, iteT ⟨_, rfl, _, _, _, _, true, rfl, ClsV.ty _, ty, kit_ty (by decide +kernel), true, rfl, hQ⟩⟩
      · exact absurd rfl nT
      · exact ⟨_, rfl, _, _, _, _, false, rfl, ClsV.ty _, ty, kit_ty (by decide +kernel), false, rfl, iteF hQ⟩
      · exact ⟨_, rfl, _, _, _, _, false, rfl, ClsV.ty _, ty, kit_ty (by decide +kernel), false, rfl, iteF hQ⟩
      · exact ⟨_, rfl, _, _, _, _, false, rfl, ClsV.ty _, ty, kit_ty (by decide +kernel), false, rfl, iteF hQ⟩
      · exact ⟨_, rfl, _, _, _, _, false, rfl, ClsV.ty _, ty, kit_ty (by decide +kernel), false, rfl, iteF hQ⟩
end
abbrev tyT : List Value := [.type "TypeError", .type "Exception", .type "BaseException", .type "object"]
/-- what is known of NoKind -/
structure Nk (K : PySem.W.Frag) (mg : Str → Option Value) (N fN : Addr) : Prop where
  gx : GX.Gx K N tyT "TypeError.__new__"
  iC : PySem.W.findIn K (.ref N) "__init__" = some (some (.ref fN))
  tI : PySem.W.typeIn K (.ref fN) = some (.type "function")
  vV : PySem.W.findCls K (.type "TypeError") (.type "type") "__init__" = some (.val (.builtin "TypeError.__init__"))
  no : PySem.W.findIn K (.ref N) "thing" = some none
  g : mg "NoKind" = some (.ref N)
  zb : mg "TypeError" = none
  xf : XfC K N
theorem typ_ty : typeOf (.type "TypeError") = pure (.type "type") := by kernel_rfl
section
variable {P : Program} {w : World} {K : PySem.W.Frag} {mg : Str → Option Value} {base : Heap} {f C N fN : Addr} {fd fdN : FuncData}
def spKI (N : Addr) : Sp := fun vs H Q _ => ∃ (a : Addr) (v : V), vs = [.ref a, v] ∧ H a = some (exo a N none) ∧ ∀ dx, H dx = none → dx ≠ a → Q .non (upd (upd H dx (exd dx [("thing", v)])) a (exo a N (some dx)))
theorem ok_KI (F : Dn K d_NoKind_init f fd) (T : Nk K mg N fN) : FnOk P w K mg base CX0 1 f fd ["self", "thing"] (spKI N) := by
  refine F.ok sc_NoKind_init (fun vs H Q E h => ?_) (fun cdv A outer s H vs Q E hr h => ?_)
  · obtain ⟨a, v, rfl, _⟩ := h
    rfl
  · obtain ⟨a, v, rfl, ha, hQ⟩ := h
    refine ⟨_, PSs.nox (pss_cons (ps_expr (GX.pe_bi PySem.F.excBase_TypeError rfl T.zb PyProof.Rows.Boot.«TypeError» typ_ty T.vV (by decide +kernel) (by decide +kernel) (pa_cons (pv 0) (pa_cons pe_str pa_nil))))
      (pss_one (GX.ps_pf PySem.F.store_TypeError (nid := "TypeError.__new__") (pv 0) (pv 1)))), ?_⟩
    refine ⟨_, rfl, a, N, _, rfl, by show 1 ≤ 1000; decide, T.gx, ha, ?_⟩
    exact ⟨_, rfl, _, rfl, a, N, rfl, T.gx, T.no, ha, hQ⟩
/-- __init__ of what is no whole number -/
def spInitK (C N : Addr) : Sp := fun vs H _ E => ∃ (p dx : Addr) (t b x : V), vs = [.ref p, t, b] ∧ H p = some (.ins C dx []) ∧ ((Nw H t ∧ x = t) ∨ ((∃ i : Int, t = .int i) ∧ Nw H b ∧ x = b)) ∧
  ∀ d H', Same H H' → H d = none → H' d = some (.xd [("thing", x)]) → E (.ref N) (some d) H'
theorem ok_initK (F : Dn K d_Share_init f fd) (cW : Cal P w K mg base 1 "is_whole" spWh2 []) (T : Nk K mg N fN) (FN : FnOk P w K mg base CX0 1 fN fdN ["self", "thing"] (spKI N)) (bN : Binds K fdN ["self", "thing"] []) : FnOk P w K mg base (L2.CX P w) 3 f fd ["self", "top", "bottom"] (spInitK C N) := by
  refine F.ok sc_Share_init (fun vs H Q E h => ?_) (fun cdv A outer s H vs Q E hr h => ?_)
  · obtain ⟨p, dx, t, b, x, rfl, _⟩ := h
    rfl
  · obtain ⟨p, dx, t, b, x, rfl, hp, hx, hE⟩ := h
    refine ⟨_, pss_cons (ps_for (passes_of rfl) rfl (pi_tup (pe_tup (pa_cons (pv 1) (pa_cons (pv 2) pa_nil)))) (pg_name (i := 3) sc_Share_init.nd rfl (.inl rfl))
        (pss_one (ps_if (pt_not (pt_val (pe_c cW hr (by decide) rfl (pa_cons (pv 3) pa_nil)))) (pss_one (ps_raise rfl (takes_of rfl rfl rfl rfl) (GX.pmk_gx PySem.F.excBase_TypeError T.gx T.iC T.tI FN hr bN .nil pass0 rfl T.g (pa_cons (pv 3) pa_nil)))) pss_nil)))
      pss_never, ?_⟩
    refine ⟨_, rfl, _, rfl, by show 2 ≤ sizeLine; decide, fun u hu => ?_⟩
    have su := same_new (o := .tup [t, b]) hu
    have raised : ∀ {E' : XK} {a d : Addr} (v : V), v = x → (upd H u (.tup [t, b])) a = none → (upd (upd H u (.tup [t, b])) a (exo a N none)) d = none → d ≠ a →
        E (.ref N) (some d) (upd (del (upd (upd (upd (upd H u (.tup [t, b])) a (exo a N none)) d (exd d [("thing", v)])) a (exo a N (some d))) a) d (.xd [("thing", v)])) := fun {E' a d} v ev ha hd ne => by
      rw [upd_ne ne] at hd
      rw [ev]
      refine hE d _ (fun c o e => ?_) (su.free hd) upd_same
      have e1 := su c o e
      have b1 : c ≠ d := ne_of_none e1 hd
      have b2 : c ≠ a := ne_of_none e1 ha
      rw [upd_ne b1, del_ne b2, upd_ne b2, upd_ne b1, upd_ne b2]
      exact e1
    refine ⟨u, rfl, ⟨_, SqT.of upd_same⟩, for_tup (K := K) (xs := [t, b]) (fun i σ H2 => H2 = upd H u (.tup [t, b]) ∧ (i = 0 ∨ (i = 1 ∧ (∃ j : Int, t = .int j) ∧ Nw H b ∧ x = b)) ∧ ∃ v, σ = [some (.ref p), some t, some b, v, none])
      ⟨rfl, .inl rfl, none, rfl⟩ (fun i σ H2 _ h => by rw [h.1]; exact SqT.of upd_same) ?_ ?_⟩
    · rintro i y σ H2 hi ⟨rfl, hi0, v, rfl⟩
      rcases hi0 with rfl | ⟨rfl, ⟨j, rfl⟩, nb, rfl⟩
      · have ey : y = t := (Option.some.inj hi).symm
        subst ey
        rcases hx with ⟨nt, rfl⟩ | ⟨⟨j, rfl⟩, nb, rfl⟩
        · refine ⟨_, rfl, _, false, rfl, .inr ⟨nt.same su, rfl⟩, false, rfl, ?_⟩
          refine iteT ?_
          exact ⟨_, rfl, by show 1 ≤ 1000; decide, fun a ha => ⟨a, _, rfl, upd_same, fun d hd ne => ⟨rfl, d, _, upd_same, (by rw [upd_ne ne]; exact upd_same), (by rw [upd_ne ne] at hd; exact hd), raised (E' := E) _ rfl ha hd ne⟩⟩⟩
        · exact ⟨_, rfl, _, true, rfl, .inl ⟨j, rfl, rfl⟩, true, rfl, iteF ⟨rfl, .inr ⟨rfl, ⟨j, rfl⟩, nb, rfl⟩, _, rfl⟩⟩
      · have ey : y = x := (Option.some.inj hi).symm
        subst ey
        refine ⟨_, rfl, _, false, rfl, .inr ⟨nb.same su, rfl⟩, false, rfl, ?_⟩
        refine iteT ?_
        exact ⟨_, rfl, by show 1 ≤ 1000; decide, fun a ha => ⟨a, _, rfl, upd_same, fun d hd ne => ⟨rfl, d, _, upd_same, (by rw [upd_ne ne]; exact upd_same), (by rw [upd_ne ne] at hd; exact hd), raised (E' := E) _ rfl ha hd ne⟩⟩⟩
    · rintro σ H2 ⟨rfl, hi0, v, rfl⟩
      rcases hi0 with h | ⟨h, _⟩
      · cases h
      · cases h
end
end K01
set_option Elab.async false
set_option linter.all false
set_option maxRecDepth 100000
set_option maxHeartbeats 4000000
namespace K01
open PySem PySem.Spec PyProof.Rows L2
open C8 (Cal Mak Met pe_c pe_mk pe_mt pe_mt0)
open THI PySem.Builtin PySem.Builtin.List
def ods : List (Kn × Str) := [(.non, "None"), ((.flag true), "True"), ((.flag false), "False"), ((.text ""), (reprText "")), ((.text "1"), (reprText "1")), ((.text "7/3"), (reprText "7/3")), (.tup, (tupleText [])), (.tup, (tupleText [(toString (1 : Int) : String), (toString (2 : Int) : String)])), (.lst, "[]"), (.lst, (listText [(toString (1 : Int) : String)])), (.dct, (dictText ([] : List Str))), (.dct, (dictText ([(toString (1 : Int) : String) ++ ": " ++ (toString (2 : Int) : String)] : List Str))), (.tup, (tupleText [(tupleText [(toString (1 : Int) : String)])])), (.lst, (listText ["None"]))]
/-- things one by one -/
inductive ThgAll (H : Hp) : List V → List (Kn × Str) → Prop
  | nil : ThgAll H [] []
  | cons {x : V} {k : Kn} {t : Str} {xs : List V} {ks : List (Kn × Str)} : Thg H x k t 4 → ThgAll H xs ks → ThgAll H (x :: xs) ((k, t) :: ks)
theorem ThgAll.len {H : Hp} {xs : List V} {ks : List (Kn × Str)} (h : ThgAll H xs ks) : xs.length = ks.length := by
  induction h with
  | nil => rfl
  | cons _ _ ih => rw [List.length_cons, List.length_cons, ih]
theorem ThgAll.get {H : Hp} {xs : List V} {ks : List (Kn × Str)} (h : ThgAll H xs ks) : ∀ {i : Nat} {v : V}, xs[i]? = some v → ∃ k t, ks[i]? = some (k, t) ∧ Thg H v k t 4 := by
  induction h with
  | nil => intro i v e; simp at e
  | cons t _ ih =>
    intro i v e
    cases i with
    | zero =>
      simp at e
      subst e
      exact ⟨_, _, rfl, t⟩
    | succ i =>
      simp at e
      obtain ⟨k, t, e1, e2⟩ := ih e
      exact ⟨k, t, by simpa using e1, e2⟩
/-- none of them a whole number -/
def Kn.wh : Kn → Bool
  | .whole _ => true
  | _ => false
theorem odd_all : ods.all (fun z => !Kn.wh z.1) = true := by decide
theorem odd_not (k : Kn) (t : Str) (h : (k, t) ∈ ods) : Kn.wh k = false := by
  have := List.all_eq_true.mp odd_all _ h
  simpa using this
section
variable {P : Program} {w : World} {K : PySem.W.Frag} {mg : Str → Option Value} {base : Heap} {f : Addr} {fd : FuncData}
def spOd : Sp := fun vs H Q _ => ∃ (h : Addr) (c : Nat), vs = [.ref h] ∧ Held H h (c + 1) ∧ ∀ v k t H', Held H' h c → Kp h H H' → Thg (out (fun b => b = h) H') v k t 4 → Kn.wh k = false → Q v H'
theorem ok_od (F : Dn K d_l_odd f fd) (b : Bl mg) (cD : CalD P w K mg base) : FnOk P w K mg base CX0 2 f fd ["_law_held_here"] spOd := by
  refine F.ok sc_l_odd (fun vs H Q E h => ?_) (fun cdv A outer s H vs Q E hr h => ?_)
  · obtain ⟨_, _, rfl, _⟩ := h
    rfl
  · obtain ⟨h, c, rfl, held, hQ⟩ := h
    generalize eq : (fun b : Addr => b = h) = q at hQ
    have hq : ∀ b, q b → H b ≠ none := fun b z => by
      subst eq
      obtain ⟨l, ns, n, m, h1, _⟩ := held
      rw [show b = h from z, h1]
      exact fun z => nomatch z
    refine ⟨_, PSs.nox (pss_cons (ps_set (i := 1) sc_l_odd.nd rfl (.inl rfl) (pe_lst (pa_cons pe_non (pa_cons pe_bl (pa_cons pe_bl (pa_cons pe_str (pa_cons pe_str (pa_cons pe_str (pa_cons (pe_tup pa_nil) (pa_cons (pe_tup (pa_cons pe_int (pa_cons pe_int pa_nil))) (pa_cons (pe_lst pa_nil) (pa_cons (pe_lst (pa_cons pe_int pa_nil)) (pa_cons pe_dnewK (pa_cons (pe_disp (pps_cons pe_int pe_int pps_nil) rfl rfl (List.cons_ne_nil _ _) (by decide)) (pa_cons (pe_tup (pa_cons (pe_tup (pa_cons pe_int pa_nil)) pa_nil)) (pa_cons (pe_lst (pa_cons pe_non pa_nil)) pa_nil))))))))))))))))
      (pss_one (ps_ret (pe_ix ix_list (pv 1) (pe_c cD hr (by decide) rfl (pa_cons (pv 0) (pa_cons (pe_callB call_len_seq rfl b.len boot_len (pa_cons (pv 1) pa_nil)) pa_nil))) (fun _ _ => rfl))))), ?_⟩
    have sm := Same.refl H
    refine ⟨by show 0 ≤ sizeLine; decide, fun t1 ft1 => ?_⟩
    have i1 : DtAll (out q H) [] [] [] 0 := DtAll.nil
    have s_ := same_new (o := .tup []) ft1
    have so_ := out_same (q := q) s_
    have nt1 : ¬ q t1 := out_ne ft1 (same_some sm hq)
    have e1 : (upd H t1 (.tup [])) t1 = some (.tup []) := upd_same
    have sm := sm.trans s_
    have d1 : Dt (out q (upd H t1 (.tup []))) (.ref t1) (.tuple []) (tupleText []) 1 := Dt.tup (out_at e1 nt1) i1 so_ (out_none ft1)
    generalize upd H t1 (.tup []) = G1 at s_ so_ sm e1 d1  ⊢
    have h6 : Thg (out q G1) (.ref t1) .tup (tupleText []) 4 := Thg.mono (Thg.tup (out_at e1 nt1) d1 (by decide +kernel) (by decide +kernel)) (by decide)
    refine ⟨by show 2 ≤ sizeLine; decide, fun t2 ft2 => ?_⟩
    have i2 : DtAll (out q G1) [.int 1, .int 2] [.int 1, .int 2] [(toString (1 : Int) : String), (toString (2 : Int) : String)] 0 := (DtAll.cons (((Dt.int (by decide +kernel)) : Dt N0 (.int 1) (.int 1) _ 0).same (s0 _)) (DtAll.cons (((Dt.int (by decide +kernel)) : Dt N0 (.int 2) (.int 2) _ 0).same (s0 _)) DtAll.nil))
    have s_ := same_new (o := .tup [.int 1, .int 2]) ft2
    have so_ := out_same (q := q) s_
    have nt2 : ¬ q t2 := out_ne ft2 (same_some sm hq)
    have e2 : (upd G1 t2 (.tup [.int 1, .int 2])) t2 = some (.tup [.int 1, .int 2]) := upd_same
    have h6 := h6.same so_
    have sm := sm.trans s_
    have d2 : Dt (out q (upd G1 t2 (.tup [.int 1, .int 2]))) (.ref t2) (.tuple [.int 1, .int 2]) (tupleText [(toString (1 : Int) : String), (toString (2 : Int) : String)]) 1 := Dt.tup (out_at e2 nt2) i2 so_ (out_none ft2)
    generalize upd G1 t2 (.tup [.int 1, .int 2]) = G2 at s_ so_ sm e2 d2 h6 ⊢
    have h7 : Thg (out q G2) (.ref t2) .tup (tupleText [(toString (1 : Int) : String), (toString (2 : Int) : String)]) 4 := Thg.mono (Thg.tup (out_at e2 nt2) d2 (by decide +kernel) (by decide +kernel)) (by decide)
    refine ⟨by show 0 ≤ sizeLine; decide, fun t3 ft3 => ?_⟩
    have i3 : DtAll (out q G2) [] [] [] 0 := DtAll.nil
    have s_ := same_new (o := .lst []) ft3
    have so_ := out_same (q := q) s_
    have nt3 : ¬ q t3 := out_ne ft3 (same_some sm hq)
    have e3 : (upd G2 t3 (.lst [])) t3 = some (.lst []) := upd_same
    have h6 := h6.same so_
    have h7 := h7.same so_
    have sm := sm.trans s_
    have d3 : Dt (out q (upd G2 t3 (.lst []))) (.ref t3) (.list []) "[]" 1 := Dt.list0 (out_at e3 nt3)
    generalize upd G2 t3 (.lst []) = G3 at s_ so_ sm e3 d3 h6 h7 ⊢
    have h8 : Thg (out q G3) (.ref t3) .lst "[]" 4 := Thg.mono (Thg.lst (out_at e3 nt3) d3 (by decide +kernel) (by decide +kernel)) (by decide)
    refine ⟨by show 1 ≤ sizeLine; decide, fun t4 ft4 => ?_⟩
    have i4 : DtAll (out q G3) [.int 1] [.int 1] [(toString (1 : Int) : String)] 0 := (DtAll.cons (((Dt.int (by decide +kernel)) : Dt N0 (.int 1) (.int 1) _ 0).same (s0 _)) DtAll.nil)
    have s_ := same_new (o := .lst [.int 1]) ft4
    have so_ := out_same (q := q) s_
    have nt4 : ¬ q t4 := out_ne ft4 (same_some sm hq)
    have e4 : (upd G3 t4 (.lst [.int 1])) t4 = some (.lst [.int 1]) := upd_same
    have h6 := h6.same so_
    have h7 := h7.same so_
    have h8 := h8.same so_
    have sm := sm.trans s_
    have d4 : Dt (out q (upd G3 t4 (.lst [.int 1]))) (.ref t4) (.list [.int 1]) (listText [(toString (1 : Int) : String)]) 1 := Dt.list (out_at e4 nt4) (List.cons_ne_nil _ _) i4 so_ (out_none ft4)
    generalize upd G3 t4 (.lst [.int 1]) = G4 at s_ so_ sm e4 d4 h6 h7 h8 ⊢
    have h9 : Thg (out q G4) (.ref t4) .lst (listText [(toString (1 : Int) : String)]) 4 := Thg.mono (Thg.lst (out_at e4 nt4) d4 (by decide +kernel) (by decide +kernel)) (by decide)
    intro t5 ft5
    have s_ := same_new (o := .dK []) ft5
    have so_ := out_same (q := q) s_
    have nt5 : ¬ q t5 := out_ne ft5 (same_some sm hq)
    have e5 : (upd G4 t5 (.dK [])) t5 = some (.dK []) := upd_same
    have h6 := h6.same so_
    have h7 := h7.same so_
    have h8 := h8.same so_
    have h9 := h9.same so_
    have sm := sm.trans s_
    generalize upd G4 t5 (.dK []) = G5 at s_ so_ sm e5 h6 h7 h8 h9 ⊢
    have h10 : Thg (out q G5) (.ref t5) .dct (dictText ([] : List Str)) 4 := Thg.dct (n := 3) (out_at e5 nt5) (fun X outs H1 => .nil) (by decide +kernel)
    intro t6 ft6
    have z6 : (upd G5 t6 (.dK [])) t6 = some (.dK []) := upd_same
    refine ⟨z6, ([((Sum.inl 1 : Key), V.int 2)] : List (Key × V)), rfl, by show 1 ≤ _; decide, ?_⟩
    have m6 : mergeK [] ([((Sum.inl 1 : Key), V.int 2)] : List (Key × V)) = [((Sum.inl 1 : Key), V.int 2)] := by rfl
    rw [m6]
    have s_ : Same G5 (upd (upd G5 t6 (.dK [])) t6 (.dK [((Sum.inl 1 : Key), V.int 2)])) := fun b o e => by rw [upd_ne (ne_of_none e ft6), upd_ne (ne_of_none e ft6)]; exact e
    have so_ := out_same (q := q) s_
    have nt6 : ¬ q t6 := out_ne ft6 (same_some sm hq)
    have e6 : (upd (upd G5 t6 (.dK [])) t6 (.dK [((Sum.inl 1 : Key), V.int 2)])) t6 = some (.dK [((Sum.inl 1 : Key), V.int 2)]) := upd_same
    have h6 := h6.same so_
    have h7 := h7.same so_
    have h8 := h8.same so_
    have h9 := h9.same so_
    have h10 := h10.same so_
    have sm := sm.trans s_
    generalize upd (upd G5 t6 (.dK [])) t6 (.dK [((Sum.inl 1 : Key), V.int 2)]) = G6 at s_ so_ sm e6 h6 h7 h8 h9 h10 ⊢
    have h11 : Thg (out q G6) (.ref t6) .dct (dictText ([(toString (1 : Int) : String) ++ ": " ++ (toString (2 : Int) : String)] : List Str)) 4 := Thg.dct (n := 3) (out_at e6 nt6) (fun X outs H1 => (.cons (.int (by decide +kernel)) (.int (by decide +kernel)) .nil)) (by decide +kernel)
    refine ⟨by show 1 ≤ sizeLine; decide, fun t7 ft7 => ?_⟩
    have i7 : DtAll (out q G6) [.int 1] [.int 1] [(toString (1 : Int) : String)] 0 := (DtAll.cons (((Dt.int (by decide +kernel)) : Dt N0 (.int 1) (.int 1) _ 0).same (s0 _)) DtAll.nil)
    have s_ := same_new (o := .tup [.int 1]) ft7
    have so_ := out_same (q := q) s_
    have nt7 : ¬ q t7 := out_ne ft7 (same_some sm hq)
    have e7 : (upd G6 t7 (.tup [.int 1])) t7 = some (.tup [.int 1]) := upd_same
    have h6 := h6.same so_
    have h7 := h7.same so_
    have h8 := h8.same so_
    have h9 := h9.same so_
    have h10 := h10.same so_
    have h11 := h11.same so_
    have sm := sm.trans s_
    have d7 : Dt (out q (upd G6 t7 (.tup [.int 1]))) (.ref t7) (.tuple [.int 1]) (tupleText [(toString (1 : Int) : String)]) 1 := Dt.tup (out_at e7 nt7) i7 so_ (out_none ft7)
    generalize upd G6 t7 (.tup [.int 1]) = G7 at s_ so_ sm e7 d7 h6 h7 h8 h9 h10 h11 ⊢
    refine ⟨by show 1 ≤ sizeLine; decide, fun t8 ft8 => ?_⟩
    have i8 : DtAll (out q G7) [.ref t7] [.tuple [.int 1]] [(tupleText [(toString (1 : Int) : String)])] 1 := (DtAll.cons d7 DtAll.nil)
    have s_ := same_new (o := .tup [.ref t7]) ft8
    have so_ := out_same (q := q) s_
    have nt8 : ¬ q t8 := out_ne ft8 (same_some sm hq)
    have e8 : (upd G7 t8 (.tup [.ref t7])) t8 = some (.tup [.ref t7]) := upd_same
    have h6 := h6.same so_
    have h7 := h7.same so_
    have h8 := h8.same so_
    have h9 := h9.same so_
    have h10 := h10.same so_
    have h11 := h11.same so_
    have sm := sm.trans s_
    have d8 : Dt (out q (upd G7 t8 (.tup [.ref t7]))) (.ref t8) (.tuple [.tuple [.int 1]]) (tupleText [(tupleText [(toString (1 : Int) : String)])]) 2 := Dt.tup (out_at e8 nt8) i8 so_ (out_none ft8)
    generalize upd G7 t8 (.tup [.ref t7]) = G8 at s_ so_ sm e8 d8 h6 h7 h8 h9 h10 h11 ⊢
    have h12 : Thg (out q G8) (.ref t8) .tup (tupleText [(tupleText [(toString (1 : Int) : String)])]) 4 := Thg.mono (Thg.tup (out_at e8 nt8) d8 (by decide +kernel) (by decide +kernel)) (by decide)
    refine ⟨by show 1 ≤ sizeLine; decide, fun t9 ft9 => ?_⟩
    have i9 : DtAll (out q G8) [.non] [.none] ["None"] 0 := (DtAll.cons ((Dt.non : Dt N0 (.non) (.none) _ 0).same (s0 _)) DtAll.nil)
    have s_ := same_new (o := .lst [.non]) ft9
    have so_ := out_same (q := q) s_
    have nt9 : ¬ q t9 := out_ne ft9 (same_some sm hq)
    have e9 : (upd G8 t9 (.lst [.non])) t9 = some (.lst [.non]) := upd_same
    have h6 := h6.same so_
    have h7 := h7.same so_
    have h8 := h8.same so_
    have h9 := h9.same so_
    have h10 := h10.same so_
    have h11 := h11.same so_
    have h12 := h12.same so_
    have sm := sm.trans s_
    have d9 : Dt (out q (upd G8 t9 (.lst [.non]))) (.ref t9) (.list [.none]) (listText ["None"]) 1 := Dt.list (out_at e9 nt9) (List.cons_ne_nil _ _) i9 so_ (out_none ft9)
    generalize upd G8 t9 (.lst [.non]) = G9 at s_ so_ sm e9 d9 h6 h7 h8 h9 h10 h11 h12 ⊢
    have h13 : Thg (out q G9) (.ref t9) .lst (listText ["None"]) 4 := Thg.mono (Thg.lst (out_at e9 nt9) d9 (by decide +kernel) (by decide +kernel)) (by decide)
    refine ⟨by show 14 ≤ sizeLine; decide, fun pa fpa => ?_⟩
    have zpa := fpa
    have s_ := same_new (o := .lst [.non, .bl true, .bl false, .str "", .str "1", .str "7/3", .ref t1, .ref t2, .ref t3, .ref t4, .ref t5, .ref t6, .ref t8, .ref t9]) fpa
    have so_ := out_same (q := q) s_
    have ea : (upd G9 pa (.lst [.non, .bl true, .bl false, .str "", .str "1", .str "7/3", .ref t1, .ref t2, .ref t3, .ref t4, .ref t5, .ref t6, .ref t8, .ref t9])) pa = some (.lst [.non, .bl true, .bl false, .str "", .str "1", .str "7/3", .ref t1, .ref t2, .ref t3, .ref t4, .ref t5, .ref t6, .ref t8, .ref t9]) := upd_same
    have h6 := h6.same so_
    have h7 := h7.same so_
    have h8 := h8.same so_
    have h9 := h9.same so_
    have h10 := h10.same so_
    have h11 := h11.same so_
    have h12 := h12.same so_
    have h13 := h13.same so_
    have sma := sm.trans s_
    generalize upd G9 pa (.lst [.non, .bl true, .bl false, .str "", .str "1", .str "7/3", .ref t1, .ref t2, .ref t3, .ref t4, .ref t5, .ref t6, .ref t8, .ref t9]) = G10 at s_ so_ sma ea h6 h7 h8 h9 h10 h11 h12 h13 ⊢
    have all : ThgAll (out q G10) [.non, .bl true, .bl false, .str "", .str "1", .str "7/3", .ref t1, .ref t2, .ref t3, .ref t4, .ref t5, .ref t6, .ref t8, .ref t9] ods := by
      refine .cons (Thg.same (Thg.non) (s0 _)) ?_
      refine .cons (Thg.same (Thg.bl true) (s0 _)) ?_
      refine .cons (Thg.same (Thg.bl false) (s0 _)) ?_
      refine .cons (Thg.same (Thg.str "" (by decide +kernel) (by decide +kernel)) (s0 _)) ?_
      refine .cons (Thg.same (Thg.str "1" (by decide +kernel) (by decide +kernel)) (s0 _)) ?_
      refine .cons (Thg.same (Thg.str "7/3" (by decide +kernel) (by decide +kernel)) (s0 _)) ?_
      refine .cons h6 ?_
      refine .cons h7 ?_
      refine .cons h8 ?_
      refine .cons h9 ?_
      refine .cons h10 ?_
      refine .cons h11 ?_
      refine .cons h12 ?_
      refine .cons h13 ?_
      exact .nil
    have npa : pa ≠ h := fun z => by
      obtain ⟨l, ns, n, m, h1, _⟩ := held
      exact ne_of_none (sm _ _ h1) (by rw [← z]; exact zpa) rfl
    generalize ([.non, .bl true, .bl false, .str "", .str "1", .str "7/3", .ref t1, .ref t2, .ref t3, .ref t4, .ref t5, .ref t6, .ref t8, .ref t9] : List V) = ws at ea all
    have lw : ws.length = 14 := all.len
    refine ⟨_, rfl, _, rfl, _, rfl, pa, _, rfl, .inl (SqL.of ea), h, c, _, rfl, held.same sma, by rw [lw]; decide, by rw [lw]; decide, fun r H' a1 b1 held1 kp1 => ?_⟩
    obtain ⟨r, rfl⟩ := Int.eq_ofNat_of_zero_le a1
    obtain ⟨v, hv⟩ : ∃ v, ws[r]? = some v := ⟨_, List.getElem?_eq_getElem (by omega)⟩
    obtain ⟨k, t, hk, th⟩ := all.get hv
    exact ⟨pa, _, _, v, rfl, rfl, SqL.of (kp1 _ _ ea npa), atI_nat hv, hQ v k t H' held1 ((Kp.same sma).trans kp1) (th.same (out_kp fun b o e n => kp1 b o e fun z => n (eq ▸ z))) (odd_not k t (List.mem_of_getElem? hk))⟩
end
end K01
set_option Elab.async false
set_option linter.all false
set_option maxRecDepth 100000
set_option maxHeartbeats 4000000
namespace K01
open PySem PySem.Spec PyProof.Rows L2
open C8 (Cal Mak Met pe_c pe_mk pe_mt pe_mt0)
open OWQ TQ
theorem dp_bls {K : PySem.W.Frag} {H : Hp} : ∀ bs : List Bool, DpAll K H (bs.map V.bl) (bs.map .bool)
  | [] => .nil
  | b :: bs => .cons (.bl b) (dp_bls bs)
theorem bls_same : ∀ bs : List Bool, PyData.eqvAll (bs.map .bool) (bs.map .bool) = true
  | [] => by simp [PyData.eqvAll]
  | b :: bs => by
    simp only [List.map_cons, PyData.eqvAll]
    rw [bls_same bs]
    cases b <;> simp [PyData.eqv]
theorem eqv_bls (bs : List Bool) : PyData.eqv (.list (bs.map .bool)) (.list (bs.map .bool)) = true := by
  rw [show ∀ a b : List PyData, PyData.eqv (.list a) (.list b) = PyData.eqvAll a b from fun a b => by rw [PyData.eqv]]
  exact bls_same _
theorem sh_bl3 (a b c : Bool) : SeqAt.shaped (.list ([a, b, c].map PyData.bool)) = true := by cases a <;> cases b <;> cases c <;> rfl
theorem eqv_pr (a b c d : Int) : PyData.eqv (.tuple [.int a, .int b]) (.tuple [.int c, .int d]) = decide ((a, b) = (c, d)) := by
  rw [Bool.eq_iff_iff]
  simp [PyData.eqv, PyData.eqvAll]
theorem sh_pr (a b : Int) : SeqAt.shaped (.tuple [.int a, .int b]) = true := rfl
theorem iteFE {c : Bool} {A B : Prop} (h : c = false) (b : B) : if c = true then A else B := by
  rw [if_neg (by simp [h])]
  exact b
theorem mk_s {C x dx : Addr} {H : Hp} {t b : Int} {n : Nat} {Qv : VK} {E : XK} (nx : H x = none) (nd : H dx = none) (hb : b ≠ 0) (hn : b.natAbs < 2 ^ n) (hn0 : 0 < n) (hn9 : n ≤ 9000) (k : ∀ H', Same H H' → H x = none → Sh C H' x (KM.low t b) → Qv .non H') :
    spInit C [.ref x, .int t, .int b] (upd (upd H dx (.own x)) x (.ins C dx [])) Qv E := by
  refine ⟨x, dx, t, b, n, rfl, hb, hn, hn0, hn9, upd_same, fun H' kp hp => k H' (fun a o e => ?_) nx ⟨dx, hp⟩⟩
  refine kp a o (ne_of_none e nx) ?_
  rw [upd_ne (ne_of_none e nx), upd_ne (ne_of_none e nd)]
  exact e
/-- in lowest terms, not too great -/
structure Lo (q : Int × Int) : Prop where
  pos : 0 < q.2
  cop : Int.gcd q.1 q.2 = 1
  s1 : Sm q.1
  s2 : Sm q.2
theorem Lo.of {t b : Int} (hb : b ≠ 0) (ht : Sm t) (hb2 : Sm b) : Lo (KM.low t b) :=
  ⟨KM.low_pos hb, KM.low_cop hb, Nat.lt_of_le_of_lt (KM.low_top_le hb) ht, Nat.lt_of_le_of_lt (KM.low_bot_le hb) hb2⟩
section
variable {P : Program} {w : World} {K : PySem.W.Frag} {mg : Str → Option Value} {base : Heap} {f C : Addr} {fd : FuncData}
def spT : Sp := fun vs H Q _ => ∃ (t : Addr) (q : Int × Int), vs = [.ref t] ∧ H t = some (tupP q) ∧ Sm q.1 ∧ Sm q.2 ∧ Q (.str (txq q)) H
theorem at0 {a b : V} : atI [a, b] 0 = some a := rfl
theorem at1 {a b : V} : atI [a, b] 1 = some b := rfl
theorem ok_t (F : Dn K d_l_text f fd) (bs : mg "str" = none) : FnOk P w K mg base CX0 1 f fd ["_law_pair_here"] spT := by
  refine F.ok sc_l_text (fun vs H Q E h => ?_) (fun cdv A outer s H vs Q E hr h => ?_)
  · obtain ⟨t, q, rfl, _⟩ := h
    rfl
  · obtain ⟨t, q, rfl, ht, s1, s2, hQ⟩ := h
    refine ⟨_, PSs.nox (pss_one (ps_ret (pe_ifExp (pt_cmpR op_eq (pe_ix ix_tup (pv 0) pe_int (fun _ _ => rfl)) pe_int (nomark _)) (pe_callTy call_str_int rfl bs boot_str (pa_cons (pe_ix ix_tup (pv 0) pe_int (fun _ _ => rfl)) pa_nil))
      (pe_op op_add_str (pe_op op_add_str (pe_callTy call_str_int rfl bs boot_str (pa_cons (pe_ix ix_tup (pv 0) pe_int (fun _ _ => rfl)) pa_nil)) pe_str) (pe_callTy call_str_int rfl bs boot_str (pa_cons (pe_ix ix_tup (pv 0) pe_int (fun _ _ => rfl)) pa_nil)))))), ?_⟩
    have k1 := s1.len
    have k2 := s2.len
    refine ⟨_, rfl, t, _, _, _, rfl, rfl, SqT.of ht, at1, rfl, _, rfl, ?_⟩
    refine ite2 (fun h1 => ?_) (fun h1 => ?_)
    · have e1 : q.2 = 1 := V.int.inj (of_decide_eq_true h1)
      unfold txq at hQ
      rw [if_pos e1] at hQ
      exact ⟨_, rfl, t, _, _, _, rfl, rfl, SqT.of ht, at0, _, rfl, s1.log, hQ⟩
    · have e1 : ¬ q.2 = 1 := fun z => h1 (by rw [z]; rfl)
      unfold txq at hQ
      rw [if_neg e1] at hQ
      refine ⟨_, rfl, t, _, _, _, rfl, rfl, SqT.of ht, at0, _, rfl, s1.log, _, _, rfl, rfl, ?_, _, rfl, t, _, _, _, rfl, rfl, SqT.of ht, at1, _, rfl, s2.log, _, _, rfl, rfl, ?_, hQ⟩
      · show (Str.ofString (toString q.1)).length + (Str.ofString "/").length ≤ sizeLine
        rw [l_st]
        exact big (by omega)
      · show (Str.ofString (toString q.1) ++ Str.ofString "/").length + (Str.ofString (toString q.2)).length ≤ sizeLine
        rw [len_cat, l_st]
        exact big (by omega)
theorem ask_th {H : Hp} {p : Addr} {q : Int × Int} {y : V} (hp : Sh C H p q) (t : Tq H y) : Ask (spEq K C) H p y false := fun H1 e => by
  obtain ⟨T, hT, ty⟩ := t.ty K H1 e
  exact ⟨p, y, q, false, rfl, hp.keep e, .th hT ty, rfl, Ext.rfl'⟩
theorem cm_th {H : Hp} {p : Addr} {q : Int × Int} {y : V} (Sp : OW.Spc P w K mg base 1 C "__eq__" (spEq K C)) (oc : OwnC K C) (hp : Sh C H p q) (t : Tq H y) : CmA P w K mg base 2 (.ref p) y H false ∧ CmA P w K mg base 2 y (.ref p) H false := by
  obtain ⟨dx, h⟩ := id hp
  constructor
  · rintro X ⟨rfl, rfl, rfl, rfl, rfl⟩
    exact Cm.own Sp oc h (t.tk _ _ (Same.refl H)) (ask_th hp t)
  · rintro X ⟨rfl, rfl, rfl, rfl, rfl⟩
    exact Cm.back Sp oc h (t.tk _ _ (Same.refl H)) (ask_th hp t)
theorem sh_inj {q q' : Int × Int} (e : shF q = shF q') : q = q' := by
  have e1 := (shF_top q).symm.trans ((congrArg (List.lookup ("top" : Str)) e).trans (shF_top q'))
  have e2 := (shF_bot q).symm.trans ((congrArg (List.lookup ("bottom" : Str)) e).trans (shF_bot q'))
  exact Prod.ext (V.int.inj (Option.some.inj e1)) (V.int.inj (Option.some.inj e2))
theorem cm_sh {H : Hp} {p p' : Addr} {q q' : Int × Int} (Sp : OW.Spc P w K mg base 1 C "__eq__" (spEq K C)) (oc : OwnC K C) (hp : Sh C H p q) (hp' : Sh C H p' q') : CmA P w K mg base 2 (.ref p) (.ref p') H (decide (q = q')) := by
  obtain ⟨dx, h⟩ := id hp
  obtain ⟨dx', h'⟩ := id hp'
  rintro X ⟨rfl, rfl, rfl, rfl, rfl⟩
  refine Cm.two Sp oc h h' (fun H1 e => ⟨p, .ref p', q, _, rfl, hp.keep e, .sh (hp'.keep e), rfl, Ext.rfl'⟩) fun z => ?_
  rw [z, h'] at h
  exact decide_eq_true (sh_inj (HO.ins.inj (Option.some.inj h)).2.2).symm
def spUn (C : Addr) : Sp := fun vs H Q _ => ∃ (h p t : Addr) (q : Int × Int), vs = [.ref h, .ref p, .ref t] ∧ Sh C H p q ∧ H t = some (tupP q) ∧ Lo q ∧ ∀ H', Same H H' → Q (.bl true) H'
theorem ok_un (F : Dn K d_l_unlike f fd) (b : Bl mg) (MS : MakS P w K mg base C) (cT : Cal P w K mg base 1 "_law_text" spT []) (cL : CalL P w K mg base) (Sp : OW.Spc P w K mg base 1 C "__eq__" (spEq K C)) (oc : OwnC K C) :
    FnOk P w K mg base CX0 4 f fd ["_law_held_here", "_law_share", "_law_pair_here"] (spUn C) := by
  refine F.ok sc_l_unlike (fun vs H Q E h => ?_) (fun cdv A outer s H vs Q E hr h => ?_)
  · obtain ⟨_, _, _, _, rfl, _⟩ := h
    rfl
  · obtain ⟨h0, p, t, q, rfl, hp, ht, lo, hQ⟩ := h
    have hu64 : (A.deeper (envOfC d_l_unlike.qual d_l_unlike.scope s.heap.objs.size f cdv)).units + 64 < cLine := by have := hr.un; omega
    have r2 : Room 2 (A.deeper (envOfC d_l_unlike.qual d_l_unlike.scope s.heap.objs.size f cdv)) := hr.mono (by decide)
    refine ⟨_, PSs.nox (pss_cons (ps_set (i := 3) sc_l_unlike.nd rfl (.inl rfl) (pe_lst (pa_cons (pe_ix ix_tup (pv 2) pe_int (fun _ _ => rfl)) (pa_cons (pe_c cT hr (by decide) rfl (pa_cons (pv 2) pa_nil)) (pa_cons (pv 2) (pa_cons (pe_callTy call_list_of rfl b.list boot_list (pa_cons (pv 2) pa_nil))
          (pa_cons pe_non (pa_cons pe_bl (pa_cons pe_bl (pa_cons pe_dnewK (pa_cons (pe_lst (pa_cons (pv 1) pa_nil)) (pa_cons (pe_tup (pa_cons (pv 1) pa_nil)) (pa_cons pe_int (pa_cons pe_int (pa_cons pe_str pa_nil)))))))))))))))
      (pss_cons (ps_if (pt_cmpR (op_neD hu64) (pe_lc (own := [("_law_thing", 6)]) (g := gName 6) rfl sc_l_unlike.nd (pi_list (pv 3)) (blkOk_by (N := N_l_unlike) (sc := defScope s_l_unlike) (by decide +kernel)) (fun _ _ _ _ _ => pg_name (i := 6) sc_l_unlike.nd rfl (Or.inl rfl))
          (fun _ _ _ _ _ => pts_one (PW.pt (pw_or (pt_cmpR (r := rCmA P w K mg base 2 false) (op_eqA ⟨rfl, rfl, rfl, rfl, rfl⟩ r2) (pv 1) (pv 6) (nomark _)) (pw_or1 (pt_cmpR (r := rCmA P w K mg base 2 false) (op_eqA ⟨rfl, rfl, rfl, rfl, rfl⟩ r2) (pv 6) (pv 1) (nomark _)))))) (fun _ _ _ _ _ => pv 6))
          (pe_lst pa_nil) (nomark _)) pss_never pss_nil)
      (pss_cons (ps_set (i := 4) sc_l_unlike.nd rfl (.inl rfl) (pe_lst (pa_cons (pe_mk MS hr (by decide) rfl (pa_cons (pe_op op_add (pe_ix ix_tup (pv 2) pe_int (fun _ _ => rfl)) pe_int) (pa_cons (pe_ix ix_tup (pv 2) pe_int (fun _ _ => rfl)) pa_nil)))
          (pa_cons (pe_mk MS hr (by decide) rfl (pa_cons (pe_ix ix_tup (pv 2) pe_int (fun _ _ => rfl)) (pa_cons (pe_op op_add (pe_ix ix_tup (pv 2) pe_int (fun _ _ => rfl)) pe_int) pa_nil)))
          (pa_cons (pe_mk MS hr (by decide) rfl (pa_cons (pe_op op_sub pe_int (pe_ix ix_tup (pv 2) pe_int (fun _ _ => rfl))) (pa_cons (pe_ix ix_tup (pv 2) pe_int (fun _ _ => rfl)) pa_nil))) pa_nil)))))
      (pss_cons (ps_set (i := 5) sc_l_unlike.nd rfl (.inl rfl) (pe_lst (pa_cons (pe_c cL hr (by decide) rfl (pa_cons (pe_op op_add (pe_ix ix_tup (pv 2) pe_int (fun _ _ => rfl)) pe_int) (pa_cons (pe_ix ix_tup (pv 2) pe_int (fun _ _ => rfl)) pa_nil)))
          (pa_cons (pe_c cL hr (by decide) rfl (pa_cons (pe_ix ix_tup (pv 2) pe_int (fun _ _ => rfl)) (pa_cons (pe_op op_add (pe_ix ix_tup (pv 2) pe_int (fun _ _ => rfl)) pe_int) pa_nil)))
          (pa_cons (pe_tup (pa_cons (pe_op op_sub pe_int (pe_ix ix_tup (pv 2) pe_int (fun _ _ => rfl))) (pa_cons (pe_ix ix_tup (pv 2) pe_int (fun _ _ => rfl)) pa_nil))) pa_nil)))))
      (pss_one (ps_ret (pe_cmpR (op_eqD hu64)
          (pe_lc (own := [("_law_one", 7)]) (g := gName 7) (tt := tYes) rfl sc_l_unlike.nd (pi_list (pv 4)) (blkOk_by (N := N_l_unlike) (sc := defScope s_l_unlike) (by decide +kernel)) (fun _ _ _ _ _ => pg_name (i := 7) sc_l_unlike.nd rfl (Or.inl rfl)) (fun _ _ _ _ _ => pts_nil)
            (fun _ _ _ _ _ => pe_cmpR (r := rCmA P w K mg base 2 false) (op_eqA ⟨rfl, rfl, rfl, rfl, rfl⟩ r2) (pv 1) (pv 7) (nomark _)))
          (pe_lc (own := [("_law_one", 7)]) (g := gName 7) (tt := tYes) rfl sc_l_unlike.nd (pi_list (pv 5)) (blkOk_by (N := N_l_unlike) (sc := defScope s_l_unlike) (by decide +kernel)) (fun _ _ _ _ _ => pg_name (i := 7) sc_l_unlike.nd rfl (Or.inl rfl)) (fun _ _ _ _ _ => pts_nil)
            (fun _ _ _ _ _ => pe_cmpR (r := rEqD K) (op_eqD hu64) (pv 7) (pv 2) (nomark _))) (nomark _)))))))), ?_⟩
    have b1 : q.2 ≠ 0 := by have := lo.pos; omega
    have b2 : q.2 + 1 ≠ 0 := by have := lo.pos; omega
    have n1 : q.2.natAbs < 2 ^ 201 := Nat.lt_trans lo.s2 (by decide)
    have n2 : (q.2 + 1).natAbs < 2 ^ 201 := by
      have h1 : q.2.natAbs < 2 ^ 200 := lo.s2
      have h2 : 2 ^ 200 + 1 < 2 ^ 201 := by decide
      omega
    refine ⟨_, rfl, t, _, _, _, rfl, rfl, SqT.of ht, at0, ?_⟩
    refine ⟨_, rfl, t, q, rfl, ht, lo.s1, lo.s2, ?_⟩
    refine ⟨_, rfl, ?_⟩
    refine ⟨_, rfl, t, _, rfl, .inr (SqT.of ht), fun l2 fl2 => ?_⟩
    have y1 := same_new (o := .lst [.int q.1, .int q.2]) fl2
    have e1 : (upd H l2 (.lst [.int q.1, .int q.2])) l2 = some (.lst [.int q.1, .int q.2]) := upd_same
    generalize upd H l2 (.lst [.int q.1, .int q.2]) = H1 at y1 e1 ⊢
    intro d fd
    have y2 := same_new (o := .dK []) fd
    have e2 : (upd H1 d (.dK [])) d = some (.dK []) := upd_same
    generalize upd H1 d (.dK []) = H2 at y2 e2 ⊢
    refine ⟨_, rfl, by show 1 ≤ sizeLine; decide, fun l3 fl3 => ?_⟩
    have y3 := same_new (o := .lst [.ref p]) fl3
    have e3 : (upd H2 l3 (.lst [.ref p])) l3 = some (.lst [.ref p]) := upd_same
    generalize upd H2 l3 (.lst [.ref p]) = H3 at y3 e3 ⊢
    refine ⟨_, rfl, by show 1 ≤ sizeLine; decide, fun t4 ft4 => ?_⟩
    have y4 := same_new (o := .tup [.ref p]) ft4
    have e4 : (upd H3 t4 (.tup [.ref p])) t4 = some (.tup [.ref p]) := upd_same
    generalize upd H3 t4 (.tup [.ref p]) = H4 at y4 e4 ⊢
    refine ⟨by show 13 ≤ sizeLine; decide, fun o fo => ?_⟩
    have y5 := same_new (o := .lst [.int q.1, .str (txq q), .ref t, .ref l2, .non, .bl true, .bl false, .ref d, .ref l3, .ref t4, .int 0, .int 1, .str ""]) fo
    have e5 : (upd H4 o (.lst [.int q.1, .str (txq q), .ref t, .ref l2, .non, .bl true, .bl false, .ref d, .ref l3, .ref t4, .int 0, .int 1, .str ""])) o = some (.lst [.int q.1, .str (txq q), .ref t, .ref l2, .non, .bl true, .bl false, .ref d, .ref l3, .ref t4, .int 0, .int 1, .str ""]) := upd_same
    generalize upd H4 o (.lst [.int q.1, .str (txq q), .ref t, .ref l2, .non, .bl true, .bl false, .ref d, .ref l3, .ref t4, .int 0, .int 1, .str ""]) = H5 at y5 e5 ⊢
    have y45 := y4.trans y5
    have y35 := y3.trans y45
    have y25 := y2.trans y35
    have y05 := y1.trans y25
    have all : ∀ y ∈ ([.int q.1, .str (txq q), .ref t, .ref l2, .non, .bl true, .bl false, .ref d, .ref l3, .ref t4, .int 0, .int 1, .str ""] : List V), Tq H5 y := by
      refine TqAll.mem (.cons Tq.int (.cons Tq.str (.cons (Tq.tup (y05 _ _ ht)) (.cons (Tq.lst (y25 _ _ e1)) (.cons Tq.non (.cons Tq.bl (.cons Tq.bl (.cons (Tq.dct (y35 _ _ e2)) (.cons (Tq.lst (y45 _ _ e3)) (.cons (Tq.tup (y5 _ _ e4)) (.cons Tq.int (.cons Tq.int (.cons Tq.str .nil)))))))))))))
    generalize ([.int q.1, .str (txq q), .ref t, .ref l2, .non, .bl true, .bl false, .ref d, .ref l3, .ref t4, .int 0, .int 1, .str ""] : List V) = ws at e5 all
    have hp5 := hp.keep y05
    refine ⟨_, rfl, o, rfl, ⟨_, SqL.of e5⟩, fun D fD => lc_list (K := K) (xs := ws) (fun i H' => Same H5 H' ∧ H' D = some (.lst [])) ⟨same_new fD, upd_same⟩ (fun i H' _ q => SqL.of (q.1 _ _ e5)) ?_ ?_⟩
    · rintro i v H' hv ⟨s, hD⟩
      obtain ⟨c1, c2⟩ := cm_th Sp oc (hp5.keep s) ((all v (List.mem_of_getElem? hv)).same s)
      refine ⟨rfl, ?_⟩
      refine ⟨_, rfl, _, rfl, false, c1, fun G1 g1 => ⟨_, rfl, iteFE rfl ?_⟩⟩
      refine ⟨_, rfl, _, rfl, false, c2.ext g1, fun G2 g2 => ⟨_, rfl, iteFE rfl ?_⟩⟩
      exact ⟨(s.trans g1).trans g2, g2 _ _ (g1 _ _ hD)⟩
    rintro H6 ⟨y6, hD⟩
    refine ⟨Nat.zero_le _, fun e fe => ?_⟩
    have y7 := same_new (o := .lst []) fe
    refine ⟨.list [], .list [], Dp.lst (SqL.of (y7 _ _ hD)) .nil, Dp.lst (SqL.of upd_same) .nil, by decide, by decide, _, rfl, iteFE (by decide) ?_⟩
    have y07 := (y05.trans y6).trans y7
    generalize upd H6 e (.lst []) = H7 at y07 ⊢
    clear y7 hD y6 hp5 all e5 y05 y25 y35 y45 y5 e4 y4 e3 y3 e2 y2 e1 y1
    -- those near
    have ht7 := y07 _ _ ht
    refine ⟨_, rfl, t, _, _, _, rfl, rfl, SqT.of ht7, at0, _, _, rfl, rfl, _, rfl, t, _, _, _, rfl, rfl, SqT.of ht7, at1, ?_⟩
    intro p1 dx1 np1 nd1 _
    refine mk_s (n := 201) np1 nd1 b1 n1 (by decide) (by decide) fun G1 g1 _ h1 => ⟨rfl, ?_⟩
    refine ⟨_, rfl, t, _, _, _, rfl, rfl, SqT.of (g1 _ _ ht7), at0, _, rfl, t, _, _, _, rfl, rfl, SqT.of (g1 _ _ ht7), at1, _, _, rfl, rfl, ?_⟩
    intro p2 dx2 np2 nd2 _
    refine mk_s (n := 201) np2 nd2 b2 n2 (by decide) (by decide) fun G2 g2 _ h2 => ⟨rfl, ?_⟩
    have g12 := g1.trans g2
    refine ⟨_, rfl, t, _, _, _, rfl, rfl, SqT.of (g12 _ _ ht7), at0, _, _, rfl, rfl, _, rfl, t, _, _, _, rfl, rfl, SqT.of (g12 _ _ ht7), at1, ?_⟩
    intro p3 dx3 np3 nd3 _
    refine mk_s (n := 201) np3 nd3 b1 n1 (by decide) (by decide) fun G3 g3 _ h3 => ⟨rfl, ?_⟩
    refine ⟨by show 3 ≤ sizeLine; decide, fun o2 fo2 => ?_⟩
    have g4 := same_new (o := .lst [.ref p1, .ref p2, .ref p3]) fo2
    have ho2 : (upd G3 o2 (.lst [.ref p1, .ref p2, .ref p3])) o2 = some (.lst [.ref p1, .ref p2, .ref p3]) := upd_same
    generalize upd G3 o2 (.lst [.ref p1, .ref p2, .ref p3]) = G4 at g4 ho2 ⊢
    have g14 := (g12.trans g3).trans g4
    have h1' := h1.keep ((g2.trans g3).trans g4)
    have h2' := h2.keep (g3.trans g4)
    have h3' := h3.keep g4
    -- what is due
    have ht4 := g14 _ _ ht7
    refine ⟨_, rfl, t, _, _, _, rfl, rfl, SqT.of ht4, at0, _, _, rfl, rfl, _, rfl, t, _, _, _, rfl, rfl, SqT.of ht4, at1, ?_⟩
    refine ⟨_, _, 201, rfl, b1, n1, by decide, by decide, fun d1 fd1 => ?_⟩
    have k1 := same_new (o := tupP (KM.low (q.1 + 1) q.2)) fd1
    have hd1 : (upd G4 d1 (tupP (KM.low (q.1 + 1) q.2))) d1 = some (tupP (KM.low (q.1 + 1) q.2)) := upd_same
    generalize upd G4 d1 (tupP (KM.low (q.1 + 1) q.2)) = G5 at k1 hd1 ⊢
    have ht5 := k1 _ _ ht4
    refine ⟨_, rfl, t, _, _, _, rfl, rfl, SqT.of ht5, at0, _, rfl, t, _, _, _, rfl, rfl, SqT.of ht5, at1, _, _, rfl, rfl, ?_⟩
    refine ⟨_, _, 201, rfl, b2, n2, by decide, by decide, fun d2 fd2 => ?_⟩
    have k2 := same_new (o := tupP (KM.low q.1 (q.2 + 1))) fd2
    have hd2 : (upd G5 d2 (tupP (KM.low q.1 (q.2 + 1)))) d2 = some (tupP (KM.low q.1 (q.2 + 1))) := upd_same
    generalize upd G5 d2 (tupP (KM.low q.1 (q.2 + 1))) = G6 at k2 hd2 ⊢
    have ht6 := k2 _ _ ht5
    refine ⟨_, rfl, t, _, _, _, rfl, rfl, SqT.of ht6, at0, _, _, rfl, rfl, _, rfl, t, _, _, _, rfl, rfl, SqT.of ht6, at1, ?_⟩
    refine ⟨by show 2 ≤ sizeLine; decide, fun d3 fd3 => ?_⟩
    dsimp only
    have k3 := same_new (o := .tup [.int (0 - q.1), .int q.2]) fd3
    have hd3 : (upd G6 d3 (.tup [.int (0 - q.1), .int q.2])) d3 = some (tupP (0 - q.1, q.2)) := upd_same
    have el : KM.low (0 - q.1) q.2 = (0 - q.1, q.2) := KM.low_id lo.pos (by rw [Int.zero_sub, Int.neg_gcd]; exact lo.cop)
    generalize upd G6 d3 (.tup [.int (0 - q.1), .int q.2]) = G6' at k3 hd3 ⊢
    refine ⟨by show 3 ≤ sizeLine; decide, fun o3 fo3 => ?_⟩
    have k4 := same_new (o := .lst [.ref d1, .ref d2, .ref d3]) fo3
    have ho3 : (upd G6' o3 (.lst [.ref d1, .ref d2, .ref d3])) o3 = some (.lst [.ref d1, .ref d2, .ref d3]) := upd_same
    have k34 := k3.trans k4
    have hd3' := k4 _ _ hd3
    clear hd3
    generalize upd G6' o3 (.lst [.ref d1, .ref d2, .ref d3]) = G7 at k34 ho3 hd3' ⊢
    have k14 := (k1.trans k2).trans k34
    have a1 := h1'.keep k14
    have a2 := h2'.keep k14
    have a3 := h3'.keep k14
    rw [el] at a3
    have c1 := (k2.trans k34) _ _ hd1
    have c2 := k34 _ _ hd2
    have ho2' := k14 _ _ ho2
    have y0 : Same H G7 := (y07.trans g14).trans k14
    have hp7 := hp.keep y0
    have shs : ∀ (i : Nat) (v : V), [V.ref p1, V.ref p2, V.ref p3][i]? = some v → ∃ p' q', v = .ref p' ∧ Sh C G7 p' q' ∧ [decide (q = KM.low (q.1 + 1) q.2), decide (q = KM.low q.1 (q.2 + 1)), decide (q = (0 - q.1, q.2))][i]? = some (decide (q = q')) := fun i v hv => by
      match i, hv with
      | 0, hv => exact ⟨p1, _, (Option.some.inj hv).symm, a1, rfl⟩
      | 1, hv => exact ⟨p2, _, (Option.some.inj hv).symm, a2, rfl⟩
      | 2, hv => exact ⟨p3, _, (Option.some.inj hv).symm, a3, rfl⟩
    have dus : ∀ (i : Nat) (v : V), [V.ref d1, V.ref d2, V.ref d3][i]? = some v → ∃ t' q', v = .ref t' ∧ G7 t' = some (tupP q') ∧ [decide (q = KM.low (q.1 + 1) q.2), decide (q = KM.low q.1 (q.2 + 1)), decide (q = (0 - q.1, q.2))][i]? = some (decide (q' = q)) := fun i v hv => by
      have sy : ∀ a : Int × Int, decide (q = a) = decide (a = q) := fun a => decide_eq_decide.mpr ⟨Eq.symm, Eq.symm⟩
      match i, hv with
      | 0, hv => exact ⟨d1, _, (Option.some.inj hv).symm, c1, congrArg some (sy _)⟩
      | 1, hv => exact ⟨d2, _, (Option.some.inj hv).symm, c2, congrArg some (sy _)⟩
      | 2, hv => exact ⟨d3, _, (Option.some.inj hv).symm, hd3', congrArg some (sy _)⟩
    have sh3 : SeqAt.shaped (.list ([decide (q = KM.low (q.1 + 1) q.2), decide (q = KM.low q.1 (q.2 + 1)), decide (q = (0 - q.1, q.2))].map PyData.bool)) = true := sh_bl3 _ _ _
    have l3 : [decide (q = KM.low (q.1 + 1) q.2), decide (q = KM.low q.1 (q.2 + 1)), decide (q = (0 - q.1, q.2))].length = 3 := rfl
    have lp3 : ([.ref p1, .ref p2, .ref p3] : List V).length = 3 := rfl
    have ld3 : ([.ref d1, .ref d2, .ref d3] : List V).length = 3 := rfl
    generalize [decide (q = KM.low (q.1 + 1) q.2), decide (q = KM.low q.1 (q.2 + 1)), decide (q = (0 - q.1, q.2))] = rs at shs dus sh3 l3
    generalize ([.ref p1, .ref p2, .ref p3] : List V) = ps at ho2' shs lp3
    generalize ([.ref d1, .ref d2, .ref d3] : List V) = ds at ho3 dus ld3
    have tk : ∀ {i : Nat} {r : Bool}, rs[i]? = some r → (rs.take (i + 1)).map V.bl = (rs.take i).map V.bl ++ [V.bl r] := fun {i r} h => by rw [take_one h]; simp
    have tl : ∀ i, ((rs.take i).map V.bl).length < sizeLine := fun i => by
      rw [List.length_map, List.length_take, l3]
      exact Nat.lt_of_lt_of_le (by omega : _ < 64) (by decide)
    refine ⟨_, rfl, o2, rfl, ⟨_, SqL.of ho2'⟩, fun D1 fD1 => lc_list (K := K) (xs := ps) (fun i H' => Same G7 H' ∧ H' D1 = some (.lst ((rs.take i).map V.bl))) ⟨same_new fD1, upd_same⟩ (fun i H' _ q => SqL.of (q.1 _ _ ho2')) ?_ ?_⟩
    · rintro i v H' hv ⟨s, hD⟩
      obtain ⟨p', q', rfl, hs, hr'⟩ := shs i v hv
      refine ⟨rfl, ?_⟩
      refine ⟨_, rfl, _, rfl, _, cm_sh Sp oc (hp7.keep s) (hs.keep s), fun G g => ?_⟩
      refine ⟨_, g _ _ hD, tl i, fun b u e => ?_, ?_⟩
      · rw [upd_ne (ne_of_none e fD1)]
        exact g _ _ (s _ _ e)
      · rw [upd_same, tk hr']
        rfl
    rintro G8 ⟨s8, hD1⟩
    rw [lp3, List.take_of_length_le (by omega)] at hD1
    refine ⟨_, rfl, o3, rfl, ⟨_, SqL.of (s8 _ _ ho3)⟩, fun D2 fD2 => lc_list (K := K) (xs := ds) (fun i H' => Same G8 H' ∧ H' D2 = some (.lst ((rs.take i).map V.bl))) ⟨same_new fD2, upd_same⟩ (fun i H' _ q => SqL.of (q.1 _ _ (s8 _ _ ho3))) ?_ ?_⟩
    · rintro i v H' hv ⟨s, hD⟩
      obtain ⟨t', q', rfl, hs, hr'⟩ := dus i v hv
      have s' := s8.trans s
      refine ⟨rfl, ?_⟩
      refine ⟨_, rfl, _, rfl, .tuple [.int q'.1, .int q'.2], .tuple [.int q.1, .int q.2], Dp.tup (SqT.of (s' _ _ hs)) (.cons (.int _) (.cons (.int _) .nil)), Dp.tup (SqT.of (s' _ _ (y0 _ _ ht))) (.cons (.int _) (.cons (.int _) .nil)), rfl, rfl, ?_⟩
      rw [eqv_pr]
      refine ⟨_, hD, tl i, fun b u e => ?_, ?_⟩
      · rw [upd_ne (ne_of_none e fD2)]
        exact s _ _ e
      · rw [upd_same, tk hr']
    rintro G9 ⟨s9, hD2⟩
    rw [ld3, List.take_of_length_le (by omega)] at hD2
    refine ⟨.list (rs.map .bool), .list (rs.map .bool), Dp.lst (SqL.of (s9 _ _ hD1)) (dp_bls rs), Dp.lst (SqL.of hD2) (dp_bls rs), sh3, sh3, ?_⟩
    rw [eqv_bls]
    exact hQ G9 ((y0.trans s8).trans s9)
end
end K01
set_option Elab.async false
set_option linter.all false
set_option maxRecDepth 100000
set_option maxHeartbeats 4000000
/-! two except clauses that keep the exception, by one name -/
namespace EXV
open PySem PySem.Spec PyProof.Rows L2
section
variable {X : Cx} {x y n : Str} {c e : Value} {i : Nat} {body suite suite2 : List Stmt} {b₀ b₁ : Stmt} {np nq pos pos' pos2 : Pos} {tb : WX → TS} {ts ts2 : Addr → Value → Option Addr → TS} {Wout : WX}
theorem ps_try_keep2 (stk : X.stack = X.env :: X.outer) (frm : X.env.frame = some X.env.locals) (nod : X.N.Nodup) (at_ : X.N[i]? = some n) (kln : X.env.kindOf n = some .local) (nm : Names X x c) (nm2 : Names X y e) (out : Takes X Wout)
    (bdy : ∀ (W : WX) (pn : List (Addr × Obj)) (xe : Value → Shared → Prop), Takes (X.tr pn xe) W → PassesOwn (model X.prog X.w) X.A X.env xe → PSs (X.tr pn xe) body (tb W))
    (sui : ∀ (a : Addr) (cls : Value) (d : Option Addr) (pn : List (Addr × Obj)), PSs (X.suite a pn) (b₀ :: suite) (ts a cls d))
    (sui2 : ∀ (a : Addr) (cls : Value) (d : Option Addr) (pn : List (Addr × Obj)), PSs (X.suite a pn) (b₁ :: suite2) (ts2 a cls d)) :
    PS X (.Try body [.ExceptHandler (some (.Name x np)) (some n) (b₀ :: suite) pos', .ExceptHandler (some (.Name y nq)) (some n) (b₁ :: suite2) pos2] [] [] pos) (fun D σ H => tb (wKeep X.K c i ts (wKeep X.K e i ts2 Wout D) D) D σ H) := by
  refine ⟨fun pins s σ H D I h => ?_⟩
  have good := I.ok
  have frs2 : X.A.frames = some (X.env :: X.outer) := by rw [good.frames, stk]
  have isLoc : Loc X.env.scope n := .inl kln
  have start := (bdy (wKeep X.K c i ts (wKeep X.K e i ts2 Wout D) D) (X.pn ++ pins) (fun e s₁ => wpAny (model X.prog X.w) X.A (noteFrame e X.env) (fun _ s₂ => wpAny (model X.prog X.w) X.A (setFlight e none)
      (fun _ s₃ => wpAny (model X.prog X.w) X.A (handleBy e X.env [.ExceptHandler (some (.Name x np)) (some n) (b₀ :: suite) pos', .ExceptHandler (some (.Name y nq)) (some n) (b₁ :: suite2) pos2]) (SP X pins D) X.xe s₃) X.xe s₂) X.xe s₁) (fun u s' xx => ?_) PassesOwn.looking).run [] s σ H D (I.toTry _) h
  · refine wpAny_Try_except (wpAny_mono start (fun f s1 fin => ?_) fun _ _ he => he)
    cases f with
    | next =>
      obtain ⟨σ1, H1, J1, q1⟩ := fin
      exact wpAny_execs_nil ⟨σ1, H1, J1.ofTry good, q1⟩
    | brk =>
      obtain ⟨σ1, H1, J1, q1⟩ := fin
      exact ⟨σ1, H1, J1.ofTry good, q1⟩
    | cont =>
      obtain ⟨σ1, H1, J1, q1⟩ := fin
      exact ⟨σ1, H1, J1.ofTry good, q1⟩
    | ret u =>
      obtain ⟨v1, σ1, H1, J1, r1, q1⟩ := fin
      exact ⟨v1, σ1, H1, J1.ofTry good, r1, q1⟩
  -- what the body lets out
  obtain ⟨a, B, sI, pins', σ', H', cls, d, rfl, J0, nb, up, sky0, na, os, ag, b, tst, yes, no⟩ := xx
  have J : Inv X pins σ' H' sI := J0.ofTry good
  have sky : Sky B (X.env :: X.outer) a (Zc cls d) X.env.locals s'.heap := by rw [← stk]; exact sky0
  show wpAny (model X.prog X.w) X.A (noteFrame (.ref a) X.env) _ _ _
  refine Sky.land Zc.steady frs2 frm sky fun h3 fl3 up3 => ?_
  have J3 : Inv X pins σ' H' { s' with heap := h3 } := J.landed nb fl3.1 (up.trans up3) os ag
  obtain ⟨oe3, vs3, he3, hz3, hd3⟩ := fl3.there
  have notFr : a ∉ frs (X.env :: X.outer) := fun hm => by
    obtain ⟨_, o', e', hnf⟩ := fl3.2.2.1.mem hm
    rw [he3] at e'
    cases e'
    exact hnf _ hd3
  have Ba : B.get? a = none := fl3.2.1
  -- the heap without it
  have cut : ∀ {h4 : Heap}, B.StaysIn h4 → s'.heap.UpToSlots h4 → ∃ G : Heap, (∀ b o, G.get? b = some o → h4.get? b = some o) ∧ G.get? a = none ∧ Inv X pins σ' H' { s' with heap := G } := fun {h4} st4 up4 => by
    obtain ⟨G, g1, g2⟩ := restrict h4 fun b => decide (b ≠ a)
    have ga : G.get? a = none := g2 a (decide_eq_false fun z => z rfl)
    have ge : ∀ b, b ≠ a → G.get? b = h4.get? b := fun b hb => g1 b (decide_eq_true hb)
    have keepB : B.StaysIn G := fun b o e => by
      rw [ge b fun z => by rw [z, Ba] at e; cases e]
      exact st4 b o e
    have upG : sI.heap.UpToSlots G := fun b o e nf => by
      have hb : b ≠ a := fun z => by
        have := nb a o (z ▸ e) (by rw [stk]; exact notFr)
        rw [Ba] at this
        cases this
      rw [ge b hb]
      exact (up.trans up4) b o e nf
    refine ⟨G, fun b o e => ?_, ga, J.landed (s' := { s' with heap := G }) nb keepB upG os ag⟩
    by_cases hb : b = a
    · rw [hb, ga] at e
      cases e
    · rw [← ge b hb]
      exact e
  have S3 := into_suite J3 a
  have typed : PySem.W.Looks (model X.prog X.w) h3 (typeOf (.ref a)) cls := fun A Q E s k q => wpAny_typeOf_ref (k _ _ he3) (by rw [hz3.1]; exact q)
  have named : ∀ {x : Str} {np : Pos} {c : Value} {Q : Value → Shared → Prop} {E : Value → Shared → Prop}, Names X x c → Q c { s' with heap := h3 } → wpAny (model X.prog X.w) (X.A.mark (some (.ref a))) (eval (.Name x np) X.env) Q E { s' with heap := h3 } := fun {x np c Q E} nm q => by
    obtain ⟨hg, hdbg, hm | ⟨hm, hv, hnn⟩⟩ := nm
    · exact ld_glob (X := X.suite a (X.pn ++ pins)) S3 hg hm q hdbg
    · exact ld_blt (X := X.suite a (X.pn ++ pins)) S3 hg hm hv q hnn hdbg
  refine wpAny_handleBy_cons (codeAny_handlers_test ?_) (by intro q; cases q)
  refine named nm ((PySem.W.exm_one (M := model X.prog X.w) (J3.kIn) typed tst).here ?_)
  cases b with
  | true =>
    refine codeAny_handlers_suite_as ?_
    refine HandSPX.lands_againZ fl3 fun h4 fl4 up4 => ?_
    obtain ⟨oe4, vs4, he4, hz4, hd4⟩ := fl4.there
    obtain ⟨G, gk, ga, JG⟩ := cut fl4.1 (up3.trans up4)
    have JK : Inv X pins σ' (upd H' a (Xc cls d a)) { s' with heap := h4 } := JG.laidN (t' := s'.toks) (h' := h4) gk ga na (xc_ok he4 hz4 hd4)
    refine store_ok (X := X.suite a (X.pn ++ pins)) (v := .ref a) (into_suite JK a) nod at_ isLoc rfl (fun s5 S5 => ?_) (.inr kln)
    refine wpAny_mono ((sui a cls d (X.pn ++ pins)).run [] s5 _ _ _ S5 (yes rfl a na)) (fun f s6 fin => ?_) (fun _ _ z => False.elim z)
    have ends : ∀ {σ6 : L2.St} {H6 : Hp} {Q : Shared → Prop}, Inv (X.suite a (X.pn ++ pins)) [] σ6 H6 s6 → (∀ s7, Inv X pins (σ6.set i none) H6 s7 → Q s7) →
        wpAny (model X.prog X.w) X.A (do bindName X.env n .none; unbindBehindTheSuite X.env n pos') (fun _ s7 => Q s7) X.xe s6 := fun {σ6 H6 Q} S6 hq => gone_ok (out_suite S6 good) nod at_ kln hq
    cases f with
    | next =>
      obtain ⟨σ6, H6, S6, q6⟩ := fin
      exact ends S6 fun s7 J7 => ⟨_, _, J7, q6⟩
    | brk =>
      obtain ⟨σ6, H6, S6, q6⟩ := fin
      exact ends S6 fun s7 J7 => ⟨_, _, J7, q6⟩
    | cont =>
      obtain ⟨σ6, H6, S6, q6⟩ := fin
      exact ends S6 fun s7 J7 => ⟨_, _, J7, q6⟩
    | ret u =>
      obtain ⟨v6, σ6, H6, S6, r6, q6⟩ := fin
      exact ends S6 fun s7 J7 => ⟨_, _, _, J7, r6, q6⟩
  | false =>
    show wpAny _ X.A (handleBy (.ref a) X.env [.ExceptHandler (some (.Name y nq)) (some n) (b₁ :: suite2) pos2]) _ _ _
    obtain ⟨b2, tst2, yes2, no2⟩ := no rfl
    refine wpAny_handleBy_cons (codeAny_handlers_test ?_) (by intro q; cases q)
    refine named nm2 ((PySem.W.exm_one (M := model X.prog X.w) (J3.kIn) typed tst2).here ?_)
    cases b2 with
    | true =>
      refine codeAny_handlers_suite_as ?_
      refine HandSPX.lands_againZ fl3 fun h4 fl4 up4 => ?_
      obtain ⟨oe4, vs4, he4, hz4, hd4⟩ := fl4.there
      obtain ⟨G, gk, ga, JG⟩ := cut fl4.1 (up3.trans up4)
      have JK : Inv X pins σ' (upd H' a (Xc cls d a)) { s' with heap := h4 } := JG.laidN (t' := s'.toks) (h' := h4) gk ga na (xc_ok he4 hz4 hd4)
      refine store_ok (X := X.suite a (X.pn ++ pins)) (v := .ref a) (into_suite JK a) nod at_ isLoc rfl (fun s5 S5 => ?_) (.inr kln)
      refine wpAny_mono ((sui2 a cls d (X.pn ++ pins)).run [] s5 _ _ _ S5 (yes2 rfl a na)) (fun f s6 fin => ?_) (fun _ _ z => False.elim z)
      have ends : ∀ {σ6 : L2.St} {H6 : Hp} {Q : Shared → Prop}, Inv (X.suite a (X.pn ++ pins)) [] σ6 H6 s6 → (∀ s7, Inv X pins (σ6.set i none) H6 s7 → Q s7) →
          wpAny (model X.prog X.w) X.A (do bindName X.env n .none; unbindBehindTheSuite X.env n pos2) (fun _ s7 => Q s7) X.xe s6 := fun {σ6 H6 Q} S6 hq => gone_ok (out_suite S6 good) nod at_ kln hq
      cases f with
      | next =>
        obtain ⟨σ6, H6, S6, q6⟩ := fin
        exact ends S6 fun s7 J7 => ⟨_, _, J7, q6⟩
      | brk =>
        obtain ⟨σ6, H6, S6, q6⟩ := fin
        exact ends S6 fun s7 J7 => ⟨_, _, J7, q6⟩
      | cont =>
        obtain ⟨σ6, H6, S6, q6⟩ := fin
        exact ends S6 fun s7 J7 => ⟨_, _, J7, q6⟩
      | ret u =>
        obtain ⟨v6, σ6, H6, S6, r6, q6⟩ := fin
        exact ends S6 fun s7 J7 => ⟨_, _, _, J7, r6, q6⟩
    | false =>
      show wpAny _ X.A (handleBy (.ref a) X.env []) _ _ _
      refine wpAny_handleBy_nil ?_
      obtain ⟨k1, k2, k3, oe, vs, T, oT, ts', he, hz, hd, h1, hr⟩ := id fl3
      unfold PySem.passOn
      refine wpAny_bind (wpAny_field he hd h1 ?_)
      rw [if_neg (show ¬ ((Value.ref T == Value.none) = true) from by simp)]
      have fin : wpAny (model X.prog X.w) X.A (setFlight (.ref a) X.env.frame) (fun _ s4 => wpAny (model X.prog X.w) X.A (throw (.ref a) : Sem Flow) (SP X pins D) X.xe s4) X.xe { s' with heap := h3 } := by
        rw [frm]
        refine HandSPX.setFlight_upZ fl3 fun h4 hh4 up4 => wpAny_throw (out _ _ ?_)
        exact ⟨a, B, sI, pins, σ', H', cls, d, rfl, J, nb, (up.trans up3).trans up4, .inr (.inr (by rw [stk]; exact hh4)), na, os, ag, no2 rfl⟩
      first
        | exact wpAny_bind (wpAny_pure (wpAny_bind fin))
        | exact wpAny_bind fin
end
end EXV
set_option Elab.async false
set_option linter.all false
set_option maxRecDepth 100000
set_option maxHeartbeats 4000000
namespace K01
open PySem PySem.Spec PyProof.Rows L2
open C8 (Cal Mak Met pe_c pe_mk pe_mt pe_mt0)
open EXV (Xc)
open EXW (Dct)
section
variable {P : Program} {w : World} {K : PySem.W.Frag} {mg : Str → Option Value} {base : Heap} {f C N fN G fG : Addr} {fd : FuncData} {ow : Str → Bool} {ab : String → Bool}
/-- what the making may raise -/
def spIX (C N G : Addr) : Sp := fun vs H Q E => spInitK C N vs H Q E ∨ spInitX C G vs H Q E
theorem ok_IX {k : Nat} {ps : List Str} {sp1 sp2 : Sp} (F1 : FnOk P w K mg base (L2.CX P w) k f fd ps sp1) (F2 : FnOk P w K mg base (L2.CX P w) k f fd ps sp2) : FnOk P w K mg base (L2.CX P w) k f fd ps (fun vs H Q E => sp1 vs H Q E ∨ sp2 vs H Q E) :=
  ⟨fun vs H Q E h => h.elim (F1.len vs H Q E) (F2.len vs H Q E), fun A outer s H args us vs Q E hr he hb hv h => h.elim (F1.run A outer s H args us vs Q E hr he hb hv) (F2.run A outer s H args us vs Q E hr he hb hv)⟩
theorem ok_IX0 {k : Nat} {ps : List Str} {sp1 sp2 : Sp} (F1 : FnOk P w K mg base CX0 k f fd ps sp1) (F2 : FnOk P w K mg base CX0 k f fd ps sp2) : FnOk P w K mg base CX0 k f fd ps (fun vs H Q E => sp1 vs H Q E ∨ sp2 vs H Q E) :=
  ⟨fun vs H Q E h => h.elim (F1.len vs H Q E) (F2.len vs H Q E), fun A outer s H args us vs Q E hr he hb hv h => h.elim (F1.run A outer s H args us vs Q E hr he hb hv) (F2.run A outer s H args us vs Q E hr he hb hv)⟩
/-- the refusal, told -/
def spRfK : Sp := fun vs H Q _ => ∃ (v b x : V), vs = [v, b] ∧ ((Nw H v ∧ x = v) ∨ ((∃ i : Int, v = .int i) ∧ Nw H b ∧ x = b)) ∧
  ∀ (t l : Addr) (H' : Hp), Same H H' → H t = none → H' t = some (.tup [.ref l, x, .bl true]) → H' l = some (.lst [.str "kind"]) → Q (.ref t) H'
theorem ok_rfK {fI : Addr} {fdI : FuncData} {pl : List Int} (F : Dn K d_l_refused f fd) (TN : Nk K mg N fN) (TG : Ng K mg G fG) (hNN : PySem.W.exmOne K (.ref N) (.ref N) = some true) (hGN : PySem.W.exmOne K (.ref G) (.ref N) = some false) (gC : mg "Share" = some (.ref C)) (MK : Mk K C fI) (FI : FnOk P w K mg base (L2.CX P w) 3 fI fdI ["self", "top", "bottom"] (spIX C N G)) (bI : Binds K fdI ["self", "top", "bottom"] [])
    (cK : Cal P w K mg base 1 "_law_kinds" (spKi N ow ab) []) (cB : Cal P w K mg base 1 "_law_bases" spBa []) (hf : fnd ow = [("kind" : Str)]) (hp : (("kind" : Str), pl) ∈ plc) (ha : (ex10.map fun x => ab x) = (List.range 10).map (abv pl)) :
    FnOk P w K mg base CX0 5 f fd ["_law_above", "_law_beneath"] spRfK := by
  refine F.ok sc_l_refused (fun vs H Q E h => ?_) (fun cdv A outer s H vs Q E hr h => ?_)
  · obtain ⟨v, b, x, rfl, _⟩ := h
    rfl
  · obtain ⟨v, b, x, rfl, hx0, hQ⟩ := h
    have hu64 : (A.deeper (envOfC d_l_refused.qual d_l_refused.scope s.heap.objs.size f cdv)).units + 64 < cLine := by have := hr.un; omega
    refine ⟨_, PSs.nox (pss_cons (ps_set (i := 2) sc_l_refused.nd rfl (.inl rfl) pe_non)
      (pss_cons (EXV.ps_try_keep2 (i := 3) (ts := fun a cls d => tSeq (tAsg (tVar 3) (gName 2)) (tAsg (EXW.tXk K "thing" (tVar 3)) (gName 4))) (ts2 := fun a cls d => tSeq (tAsg (tVar 3) (gName 2)) (tAsg (EXW.tXk K "top" (tVar 3)) (gName 4))) rfl rfl sc_l_refused.nd rfl rfl ⟨rfl, by decide, .inl TN.g⟩ ⟨rfl, by decide, .inl TG.g⟩ takes0
          (fun W pn xe tk _ => pss_one (ps_expr (MKS.pe_makeS (E := fun σ cls d H => W cls d σ H) MK FI (hr.mono (by decide)) rfl gC bI .nil (fun σ => passAt tk σ) (pa_cons (pv 0) (pa_cons (pv 1) pa_nil)))))
          (fun a cls d pn => pss_cons (ps_set (i := 2) sc_l_refused.nd rfl (.inl rfl) (pv 3)) (pss_one (ps_set (i := 4) sc_l_refused.nd rfl (.inl rfl) (EXW.pe_xk (pv 3)))))
          (fun a cls d pn => pss_cons (ps_set (i := 2) sc_l_refused.nd rfl (.inl rfl) (pv 3)) (pss_one (ps_set (i := 4) sc_l_refused.nd rfl (.inl rfl) (EXW.pe_xk (pv 3))))))
      (pss_cons (ps_if (pt_cmpR op_isN1 (pv 2) pe_non (nomark _)) pss_never pss_nil)
      (pss_cons (ps_asg (pe_c cK hr (by decide) rfl (pa_cons (pv 2) pa_nil)) (pg_tup rfl (pgs_cons (pg_name (i := 5) sc_l_refused.nd rfl (.inl rfl)) (pgs_cons (pg_name (i := 6) sc_l_refused.nd rfl (.inl rfl)) pgs_nil))))
      (pss_one (ps_ret (pe_tup (pa_cons (pv 5) (pa_cons (pv 4) (pa_cons (pe_cmpR (op_eqD hu64) (pv 6) (pe_c cB hr (by decide) rfl (pa_cons (pe_ix ix_list (pv 5) pe_int (fun _ _ => rfl)) pa_nil)) (nomark _)) pa_nil)))))))))), ?_⟩
    refine ⟨_, rfl, _, rfl, fun p0 dx0 np nd nn => .inl ?_⟩
    have sm : Same H (upd (upd H dx0 (.own p0)) p0 (.ins C dx0 [])) := (same_new nd).trans (same_new (by rw [upd_ne (Ne.symm nn)]; exact np))
    refine ⟨p0, dx0, v, b, x, rfl, upd_same, hx0.imp (fun z => ⟨z.1.same sm, z.2⟩) (fun z => ⟨z.1, z.2.1.same sm, z.2.2⟩), fun d H1 s1 fd1 hd1 => ?_⟩
    have s1 := sm.trans s1
    refine ⟨true, hNN, fun _ a ha1 => ?_, fun z => nomatch z⟩
    refine ⟨_, rfl, ?_⟩
    have sx := same_new (o := Xc (.ref N) (some d) a) ha1
    have hx : (upd H1 a (Xc (.ref N) (some d) a)) a = some (Xc (.ref N) (some d) a) := upd_same
    have hd2 := sx _ _ hd1
    have s2 := s1.trans sx
    generalize upd H1 a (Xc (.ref N) (some d) a) = H2 at s2 hx hd2 ⊢
    refine ⟨_, rfl, a, N, d, _, x, rfl, hx, hd2, TN.xf, TN.no, rfl, ?_⟩
    refine ⟨_, rfl, rfl, _, rfl, iteF ?_⟩
    refine ⟨_, rfl, a, some d, rfl, hx, .inr ⟨d, _, rfl, hd2⟩, fun t l m H3 s3 ft ht hl hm => ?_⟩
    rw [hf] at hl
    refine ⟨t, _, rfl, SqT.of ht, rfl, _, _, rfl, _, _, rfl, rfl, ?_⟩
    refine ⟨_, rfl, _, rfl, _, rfl, _, rfl, l, _, _, _, rfl, rfl, SqL.of hl, rfl, "kind", pl, rfl, hp, fun q H4 s4 fq hq => ?_⟩
    have e1 : (ex10.map fun x => V.bl (ab x)) = ((List.range 10).map (abv pl)).map V.bl := by
      rw [← ha, List.map_map]
      rfl
    have e2 : ((List.range 10).map fun i => V.bl (abv pl i)) = ((List.range 10).map (abv pl)).map V.bl := by
      rw [List.map_map]
      rfl
    rw [e1] at hm
    rw [e2] at hq
    have shp : SeqAt.shaped (.list (((List.range 10).map (abv pl)).map .bool)) = true := by rfl
    refine ⟨.list (((List.range 10).map (abv pl)).map .bool), .list (((List.range 10).map (abv pl)).map .bool), Dp.lst (SqL.of (s4 _ _ hm)) (dp_bls _), Dp.lst (SqL.of hq) (dp_bls _), shp, shp, ?_⟩
    have ev : PyData.eqv (.list (((List.range 10).map (abv pl)).map .bool)) (.list (((List.range 10).map (abv pl)).map .bool)) = true := eqv_bls _
    rw [ev]
    refine ⟨by show 3 ≤ sizeLine; decide, fun u fu => ?_⟩
    have su := same_new (o := .tup [.ref l, x, .bl true]) fu
    have sa := (s2.trans s3).trans s4
    exact hQ u l _ (sa.trans su) (sa.free fu) upd_same (su _ _ (s4 _ _ hl))
/-- the refusal, told -/
def spRfX : Sp := fun vs H Q _ => ∃ (i : Int), vs = [.int i, .int 0] ∧ 
  ∀ (t l : Addr) (H' : Hp), Same H H' → H t = none → H' t = some (.tup [.ref l, .int i, .bl true]) → H' l = some (.lst [.str "nought"]) → Q (.ref t) H'
theorem ok_rfX {fI : Addr} {fdI : FuncData} {pl : List Int} (F : Dn K d_l_refused f fd) (TN : Nk K mg N fN) (TG : Ng K mg G fG) (hNN : PySem.W.exmOne K (.ref N) (.ref N) = some true) (hGN : PySem.W.exmOne K (.ref G) (.ref N) = some false) (gC : mg "Share" = some (.ref C)) (MK : Mk K C fI) (FI : FnOk P w K mg base (L2.CX P w) 3 fI fdI ["self", "top", "bottom"] (spIX C N G)) (bI : Binds K fdI ["self", "top", "bottom"] [])
    (cK : Cal P w K mg base 1 "_law_kinds" (spKi G ow ab) []) (cB : Cal P w K mg base 1 "_law_bases" spBa []) (hf : fnd ow = [("nought" : Str)]) (hp : (("nought" : Str), pl) ∈ plc) (ha : (ex10.map fun x => ab x) = (List.range 10).map (abv pl)) :
    FnOk P w K mg base CX0 5 f fd ["_law_above", "_law_beneath"] spRfX := by
  refine F.ok sc_l_refused (fun vs H Q E h => ?_) (fun cdv A outer s H vs Q E hr h => ?_)
  · obtain ⟨i, rfl, _⟩ := h
    rfl
  · obtain ⟨i, rfl, hQ⟩ := h
    have hu64 : (A.deeper (envOfC d_l_refused.qual d_l_refused.scope s.heap.objs.size f cdv)).units + 64 < cLine := by have := hr.un; omega
    refine ⟨_, PSs.nox (pss_cons (ps_set (i := 2) sc_l_refused.nd rfl (.inl rfl) pe_non)
      (pss_cons (EXV.ps_try_keep2 (i := 3) (ts := fun a cls d => tSeq (tAsg (tVar 3) (gName 2)) (tAsg (EXW.tXk K "thing" (tVar 3)) (gName 4))) (ts2 := fun a cls d => tSeq (tAsg (tVar 3) (gName 2)) (tAsg (EXW.tXk K "top" (tVar 3)) (gName 4))) rfl rfl sc_l_refused.nd rfl rfl ⟨rfl, by decide, .inl TN.g⟩ ⟨rfl, by decide, .inl TG.g⟩ takes0
          (fun W pn xe tk _ => pss_one (ps_expr (MKS.pe_makeS (E := fun σ cls d H => W cls d σ H) MK FI (hr.mono (by decide)) rfl gC bI .nil (fun σ => passAt tk σ) (pa_cons (pv 0) (pa_cons (pv 1) pa_nil)))))
          (fun a cls d pn => pss_cons (ps_set (i := 2) sc_l_refused.nd rfl (.inl rfl) (pv 3)) (pss_one (ps_set (i := 4) sc_l_refused.nd rfl (.inl rfl) (EXW.pe_xk (pv 3)))))
          (fun a cls d pn => pss_cons (ps_set (i := 2) sc_l_refused.nd rfl (.inl rfl) (pv 3)) (pss_one (ps_set (i := 4) sc_l_refused.nd rfl (.inl rfl) (EXW.pe_xk (pv 3))))))
      (pss_cons (ps_if (pt_cmpR op_isN1 (pv 2) pe_non (nomark _)) pss_never pss_nil)
      (pss_cons (ps_asg (pe_c cK hr (by decide) rfl (pa_cons (pv 2) pa_nil)) (pg_tup rfl (pgs_cons (pg_name (i := 5) sc_l_refused.nd rfl (.inl rfl)) (pgs_cons (pg_name (i := 6) sc_l_refused.nd rfl (.inl rfl)) pgs_nil))))
      (pss_one (ps_ret (pe_tup (pa_cons (pv 5) (pa_cons (pv 4) (pa_cons (pe_cmpR (op_eqD hu64) (pv 6) (pe_c cB hr (by decide) rfl (pa_cons (pe_ix ix_list (pv 5) pe_int (fun _ _ => rfl)) pa_nil)) (nomark _)) pa_nil)))))))))), ?_⟩
    refine ⟨_, rfl, _, rfl, fun p0 dx0 np nd nn => .inr ?_⟩
    have sm : Same H (upd (upd H dx0 (.own p0)) p0 (.ins C dx0 [])) := (same_new nd).trans (same_new (by rw [upd_ne (Ne.symm nn)]; exact np))
    refine ⟨p0, dx0, i, rfl, upd_same,  fun d H1 s1 fd1 hd1 => ?_⟩
    have s1 := sm.trans s1
    refine ⟨false, hGN, (fun z => nomatch z), fun _ => ⟨true, TG.te, fun _ a ha1 => ?_, fun z => nomatch z⟩⟩
    refine ⟨_, rfl, ?_⟩
    have sx := same_new (o := Xc (.ref G) (some d) a) ha1
    have hx : (upd H1 a (Xc (.ref G) (some d) a)) a = some (Xc (.ref G) (some d) a) := upd_same
    have hd2 := sx _ _ hd1
    have s2 := s1.trans sx
    generalize upd H1 a (Xc (.ref G) (some d) a) = H2 at s2 hx hd2 ⊢
    refine ⟨_, rfl, a, G, d, _, .int i, rfl, hx, hd2, TG.xf, TG.no, rfl, ?_⟩
    refine ⟨_, rfl, rfl, _, rfl, iteF ?_⟩
    refine ⟨_, rfl, a, some d, rfl, hx, .inr ⟨d, _, rfl, hd2⟩, fun t l m H3 s3 ft ht hl hm => ?_⟩
    rw [hf] at hl
    refine ⟨t, _, rfl, SqT.of ht, rfl, _, _, rfl, _, _, rfl, rfl, ?_⟩
    refine ⟨_, rfl, _, rfl, _, rfl, _, rfl, l, _, _, _, rfl, rfl, SqL.of hl, rfl, "nought", pl, rfl, hp, fun q H4 s4 fq hq => ?_⟩
    have e1 : (ex10.map fun x => V.bl (ab x)) = ((List.range 10).map (abv pl)).map V.bl := by
      rw [← ha, List.map_map]
      rfl
    have e2 : ((List.range 10).map fun i => V.bl (abv pl i)) = ((List.range 10).map (abv pl)).map V.bl := by
      rw [List.map_map]
      rfl
    rw [e1] at hm
    rw [e2] at hq
    have shp : SeqAt.shaped (.list (((List.range 10).map (abv pl)).map .bool)) = true := by rfl
    refine ⟨.list (((List.range 10).map (abv pl)).map .bool), .list (((List.range 10).map (abv pl)).map .bool), Dp.lst (SqL.of (s4 _ _ hm)) (dp_bls _), Dp.lst (SqL.of hq) (dp_bls _), shp, shp, ?_⟩
    have ev : PyData.eqv (.list (((List.range 10).map (abv pl)).map .bool)) (.list (((List.range 10).map (abv pl)).map .bool)) = true := eqv_bls _
    rw [ev]
    refine ⟨by show 3 ≤ sizeLine; decide, fun u fu => ?_⟩
    have su := same_new (o := .tup [.ref l, .int i, .bl true]) fu
    have sa := (s2.trans s3).trans s4
    exact hQ u l _ (sa.trans su) (sa.free fu) upd_same (su _ _ (s4 _ _ hl))
end
end K01
set_option Elab.async false
set_option linter.all false
set_option maxRecDepth 100000
set_option maxHeartbeats 4000000
namespace K01
open PySem PySem.Spec PyProof.Rows L2
open C8 (Cal Mak Met pe_c pe_mk pe_mt pe_mt0)
open THI PySem.Builtin PySem.Builtin.List
/-- what may stand in a field, and its text -/
structure Fd (G : Hp) (v : V) (tx : Str) : Prop where
  rp : ∀ X outs H, Same G H → (∀ o ∈ outs, G o = none) → RPO.RpU X 4 outs H v tx
  len : tx.length ≤ 300
theorem Fd.int {G : Hp} {i : Int} (h : Sm i) : Fd G (.int i) (Str.ofString (toString i)) := ⟨fun X outs H s ho => .int h.log, Nat.le_trans h.len (by decide)⟩
theorem Fd.of {G : Hp} {v : V} {k : Kn} {t : Str} (h : Thg G v k t 4) : Fd G v t := ⟨fun X outs H s ho => h.rp X outs H s ho, Nat.le_trans h.len (by decide)⟩
theorem Nw.of {G : Hp} {v : V} {k : Kn} {t : Str} (h : Thg G v k t 4) (n : Kn.wh k = false) : Nw G v := fun K H' s => by
  have ty := h.tyN K H' (SN.of s)
  cases k with
  | whole i => cases n
  | _ => exact ⟨_, by simp [OWQ.ts7, Kn.tyn], by simp [Kn.tyn], ty⟩
/-- a row of what is asked -/
inductive Asks (G : Hp) : V → V → Str → V → Str → Prop
  | one {v b : V} {tx : Str} : Nw G v → Fd G v tx → Asks G v b "kind" v tx
  | two {i : Int} {b : V} {tx : Str} : Nw G b → Fd G b tx → Asks G (.int i) b "kind" b tx
  | no {i : Int} {tx : Str} : Fd G (.int i) tx → Asks G (.int i) (.int 0) "nought" (.int i) tx
theorem Asks.fd {G : Hp} {v b x : V} {wd tx : Str} (h : Asks G v b wd x tx) : Fd G x tx := by
  cases h with
  | one _ f => exact f
  | two _ f => exact f
  | no f => exact f
theorem Asks.wd {G : Hp} {v b x : V} {wd tx : Str} (h : Asks G v b wd x tx) : (reprText wd).length ≤ 100 := by
  cases h with
  | one _ f => decide +kernel
  | two _ f => decide +kernel
  | no f => decide +kernel
def Row (G H : Hp) (r : V) : Prop := ∃ (a : Addr) (v b x : V) (wd tx : Str), r = .ref a ∧ H a = some (.tup [v, b, .str wd, x]) ∧ Asks G v b wd x tx
theorem Row.same {G H H' : Hp} {r : V} (h : Row G H r) (s : Same H H') : Row G H' r := by
  obtain ⟨a, v, b, x, wd, tx, e, h1, h2⟩ := h
  exact ⟨a, v, b, x, wd, tx, e, s _ _ h1, h2⟩
section
variable {P : Program} {w : World} {K : PySem.W.Frag} {mg : Str → Option Value} {base : Heap} {f C N fN G : Addr} {fd : FuncData}
def spRf : Sp := fun vs H Q E => spRfK vs H Q E ∨ spRfX vs H Q E
def rowT (wd tx : Str) : List Str := [listText [reprText wd], tx, "True"]
theorem rowT_len {G : Hp} {v b x : V} {wd tx : Str} (h : Asks G v b wd x tx) : (tupleText (rowT wd tx)).length ≤ sizeLine := by
  have h1 := listText_len_le [reprText wd]
  have h2 := h.wd
  have h3 := h.fd.len
  have h4 : (Str.ofString "True").length = 4 := rfl
  have h5 := tupleText_len_le (rowT wd tx)
  refine big (Nat.le_trans h5 ?_)
  simp only [rowT, List.map_cons, List.map_nil, List.sum_cons, List.sum_nil, List.length_cons, List.length_nil] at h1 ⊢
  have h6 : ("True" : Str).length = 4 := rfl
  omega
theorem rowT_rp {X : Cx} {G H : Hp} {v b x : V} {wd tx : Str} {t l : Addr} (h : Asks G v b wd x tx) (s : Same G H) (ht : G t = none) (nl : l ≠ t) (hl : H l = some (.lst [.str wd])) : RPO.RpAll X 4 [t] H [.ref l, x, .bl true] (rowT wd tx) :=
  .cons (RPO.RpU.list (n := 3) hl (by simpa using nl) (List.cons_ne_nil _ _) (.cons .str .nil)) (.cons (h.fd.rp X [t] H s (by simpa using ht)) (.cons .bl .nil))
def spRr : Sp := fun vs H Q _ => ∃ (h : Addr) (c : Nat) (i : Int), vs = [.ref h, .int i] ∧ Held H h (c + 2) ∧ Sm i ∧ ∀ H', Held H' h c → Kp h H H' → Q (.bl true) H'
theorem ok_rr (F : Dn K d_l_refusals_right f fd) (b : Bl mg) (brep : mg "repr" = none) (cO : Cal P w K mg base 2 "_law_odd" spOd []) (cR : Cal P w K mg base 5 "_law_refused" spRf []) :
    GL.FnG P w K mg base 8 f fd ["_law_held_here", "_law_number_here"] spRr := by
  refine GL.okG F sc_l_refusals_right (fun vs H Q E h => ?_) (fun cdv A outer s H vs Q E hgd hr h => ?_)
  · obtain ⟨h, c, i, rfl, _⟩ := h
    rfl
  · obtain ⟨h, c, i, rfl, held, si, hQ⟩ := h
    have hgd2 : (A.deeper (envOfC d_l_refusals_right.qual d_l_refusals_right.scope s.heap.objs.size f cdv)).guards = some [] := hgd
    refine ⟨_, PSs.nox (pss_cons (ps_par (i := 2) (j := 3) rfl sc_l_refusals_right.nd rfl rfl (by decide) rfl rfl (pa_cons (pe_c cO hr (by decide) rfl (pa_cons (pv 0) pa_nil)) (pa_cons (pe_c cO hr (by decide) rfl (pa_cons (pv 0) pa_nil)) pa_nil)) rfl)
      (pss_cons (ps_set (i := 4) sc_l_refusals_right.nd rfl (.inl rfl) (pe_lst (pa_cons (pe_tup (pa_cons (pv 2) (pa_cons (pv 1) (pa_cons pe_str (pa_cons (pv 2) pa_nil))))) (pa_cons (pe_tup (pa_cons (pv 1) (pa_cons (pv 2) (pa_cons pe_str (pa_cons (pv 2) pa_nil)))))
          (pa_cons (pe_tup (pa_cons (pv 2) (pa_cons (pv 3) (pa_cons pe_str (pa_cons (pv 2) pa_nil))))) (pa_cons (pe_tup (pa_cons (pv 2) (pa_cons pe_int (pa_cons pe_str (pa_cons (pv 2) pa_nil))))) pa_nil))))))
      (pss_cons (ps_for PassesOwn.never rfl (pi_list (pe_op op_cat (pv 4) (pe_lst (pa_cons (pe_tup (pa_cons (pv 1) (pa_cons pe_int (pa_cons pe_str (pa_cons (pv 1) pa_nil))))) pa_nil))))
          (pg_tup rfl (pgs_cons (pg_name (i := 5) sc_l_refusals_right.nd rfl (.inl rfl)) (pgs_cons (pg_name (i := 6) sc_l_refusals_right.nd rfl (.inl rfl)) (pgs_cons (pg_name (i := 7) sc_l_refusals_right.nd rfl (.inl rfl)) (pgs_cons (pg_name (i := 8) sc_l_refusals_right.nd rfl (.inl rfl)) pgs_nil)))))
          (pss_one (ps_if (pt_cmpR op_ne (pe_callB (RPO.call_reprT (n := 4) hgd2 (hr.mono (by decide))) rfl brep boot_repr (pa_cons (pe_c cR hr (by decide) rfl (pa_cons (pv 5) (pa_cons (pv 6) pa_nil))) pa_nil))
            (pe_callB (RPO.call_reprT (n := 4) hgd2 (hr.mono (by decide))) rfl brep boot_repr (pa_cons (pe_tup (pa_cons (pe_lst (pa_cons (pv 7) pa_nil)) (pa_cons (pv 8) (pa_cons pe_bl pa_nil)))) pa_nil)) (nomark _)) pss_never pss_nil)))
      (pss_one (ps_ret pe_bl))))), ?_⟩
    refine ⟨_, rfl, h, c + 1, rfl, held, fun v1 k1 t1 H1 held1 kp1 g1 n1 => ?_⟩
    refine ⟨_, rfl, h, c, rfl, held1, fun v2 k2 t2 H2 held2 kp2 g2 n2 => ?_⟩
    have so : Same (out (fun b => b = h) H1) (out (fun b => b = h) H2) := out_kp fun b o e n => kp2 b o e n
    have g1' := g1.same so
    have nw1 := Nw.of g1' n1
    have nw2 := Nw.of g2 n2
    have f1 := Fd.of g1'
    have kp := kp1.trans kp2
    have sG : Same (out (fun b => b = h) H2) H2 := out_le
    generalize out (fun b => b = h) H2 = GG at *
    dsimp only
    refine ⟨v1, v2, rfl, ?_⟩
    refine ⟨_, rfl, _, rfl, _, rfl, by show 4 ≤ sizeLine; decide, fun a1 fa1 => ?_⟩
    have s1 := same_new (o := .tup [v1, .int i, .str "kind", v1]) fa1
    have r1 : Row GG (upd H2 a1 (.tup [v1, .int i, .str "kind", v1])) (.ref a1) := ⟨a1, _, _, _, _, _, rfl, upd_same, .one nw1 f1⟩
    generalize upd H2 a1 (.tup [v1, .int i, .str "kind", v1]) = G1 at s1 r1 ⊢
    refine ⟨_, rfl, _, rfl, _, rfl, by show 4 ≤ sizeLine; decide, fun a2 fa2 => ?_⟩
    have s2 := same_new (o := .tup [.int i, v1, .str "kind", v1]) fa2
    have r2 : Row GG (upd G1 a2 (.tup [.int i, v1, .str "kind", v1])) (.ref a2) := ⟨a2, _, _, _, _, _, rfl, upd_same, .two nw1 f1⟩
    generalize upd G1 a2 (.tup [.int i, v1, .str "kind", v1]) = G2 at s2 r2 ⊢
    refine ⟨_, rfl, _, rfl, _, rfl, by show 4 ≤ sizeLine; decide, fun a3 fa3 => ?_⟩
    have s3 := same_new (o := .tup [v1, v2, .str "kind", v1]) fa3
    have r3 : Row GG (upd G2 a3 (.tup [v1, v2, .str "kind", v1])) (.ref a3) := ⟨a3, _, _, _, _, _, rfl, upd_same, .one nw1 f1⟩
    generalize upd G2 a3 (.tup [v1, v2, .str "kind", v1]) = G3 at s3 r3 ⊢
    refine ⟨_, rfl, _, rfl, by show 4 ≤ sizeLine; decide, fun a4 fa4 => ?_⟩
    have s4 := same_new (o := .tup [v1, .int 0, .str "kind", v1]) fa4
    have r4 : Row GG (upd G3 a4 (.tup [v1, .int 0, .str "kind", v1])) (.ref a4) := ⟨a4, _, _, _, _, _, rfl, upd_same, .one nw1 f1⟩
    generalize upd G3 a4 (.tup [v1, .int 0, .str "kind", v1]) = G4 at s4 r4 ⊢
    refine ⟨by show 4 ≤ sizeLine; decide, fun l1 fl1 => ?_⟩
    have s5 := same_new (o := .lst [.ref a1, .ref a2, .ref a3, .ref a4]) fl1
    have hl1 : (upd G4 l1 (.lst [.ref a1, .ref a2, .ref a3, .ref a4])) l1 = some (.lst [.ref a1, .ref a2, .ref a3, .ref a4]) := upd_same
    generalize upd G4 l1 (.lst [.ref a1, .ref a2, .ref a3, .ref a4]) = G5 at s5 hl1 ⊢
    refine ⟨_, rfl, _, rfl, _, rfl, by show 4 ≤ sizeLine; decide, fun a5 fa5 => ?_⟩
    have s6 := same_new (o := .tup [.int i, .int 0, .str "nought", .int i]) fa5
    have r5 : Row GG (upd G5 a5 (.tup [.int i, .int 0, .str "nought", .int i])) (.ref a5) := ⟨a5, _, _, _, _, _, rfl, upd_same, .no (Fd.int si)⟩
    generalize upd G5 a5 (.tup [.int i, .int 0, .str "nought", .int i]) = G6 at s6 r5 ⊢
    refine ⟨by show 1 ≤ sizeLine; decide, fun l2 fl2 => ?_⟩
    have s7 := same_new (o := .lst [.ref a5]) fl2
    have hl2 : (upd G6 l2 (.lst [.ref a5])) l2 = some (.lst [.ref a5]) := upd_same
    generalize upd G6 l2 (.lst [.ref a5]) = G7 at s7 hl2 ⊢
    refine ⟨l1, l2, _, _, rfl, rfl, s7 _ _ (s6 _ _ hl1), hl2, by show 4 + 1 ≤ sizeLine; decide, fun l3 fl3 => ?_⟩
    have s8 := same_new (o := .lst ([.ref a1, .ref a2, .ref a3, .ref a4] ++ [.ref a5])) fl3
    have hl3 : (upd G7 l3 (.lst ([.ref a1, .ref a2, .ref a3, .ref a4] ++ [.ref a5]))) l3 = some (.lst ([.ref a1, .ref a2, .ref a3, .ref a4] ++ [.ref a5])) := upd_same
    have s78 := s7.trans s8
    generalize upd G7 l3 (.lst ([.ref a1, .ref a2, .ref a3, .ref a4] ++ [.ref a5])) = G8 at s78 hl3 ⊢
    have s68 := s6.trans s78
    have s58 := s5.trans s68
    have s48 := s4.trans s58
    have s38 := s3.trans s48
    have s28 := s2.trans s38
    have s18 := s1.trans s28
    have s08 := s18
    have rows : ∀ r ∈ ([.ref a1, .ref a2, .ref a3, .ref a4] ++ [.ref a5] : List V), Row GG G8 r := fun r hr => by
      simp only [List.cons_append, List.nil_append, List.mem_cons, List.not_mem_nil, or_false] at hr
      rcases hr with rfl | rfl | rfl | rfl | rfl
      · exact r1.same s28
      · exact r2.same s38
      · exact r3.same s48
      · exact r4.same s58
      · exact r5.same s78
    have sG8 := sG.trans s08
    generalize ([.ref a1, .ref a2, .ref a3, .ref a4] ++ [.ref a5] : List V) = rs at hl3 rows
    refine ⟨l3, rfl, ⟨_, SqL.of hl3⟩, for_list (K := K) (xs := rs) (fun j σ H' => (∃ v5 v6 v7 v8 : Option V, σ = [some (.ref h), some (.int i), some v1, some v2, some (.ref l1), v5, v6, v7, v8]) ∧ Same G8 H') ⟨⟨_, _, _, _, rfl⟩, Same.refl _⟩ (fun j σ H' _ ⟨_, s⟩ => SqL.of (s _ _ hl3)) ?_ ?_⟩
    · rintro j v σ H' hv ⟨⟨v5, v6, v7, v8, rfl⟩, s'⟩
      obtain ⟨a, v, b, x, wd, tx, rfl, ha, ask⟩ := (rows v (List.mem_of_getElem? hv)).same s'
      refine ⟨a, _, rfl, SqT.of ha, rfl, _, _, rfl, _, _, rfl, _, _, rfl, _, _, rfl, rfl, ?_⟩
      have sg' := sG8.trans s'
      refine ⟨_, rfl, _, rfl, ?_⟩
      -- what is told
      have told : ∀ {Qq : VK}, (∀ (t l : Addr) (H2 : Hp), Same H' H2 → H' t = none → H2 t = some (.tup [.ref l, x, .bl true]) → H2 l = some (.lst [.str wd]) → Qq (.ref t) H2) → spRf [v, b] H' Qq E0 := fun {Qq} q => by
        cases ask with
        | one nw fd => exact .inl ⟨_, _, _, rfl, .inl ⟨nw.same sg', rfl⟩, q⟩
        | two nw fd => exact .inl ⟨_, _, _, rfl, .inr ⟨⟨_, rfl⟩, nw.same sg', rfl⟩, q⟩
        | no fd => exact .inr ⟨_, rfl, q⟩
      refine told fun t l H2 s2 ft ht hl => ?_
      have sg2 := sg'.trans s2
      have nlt : l ≠ t := fun z => by
        rw [z, ht] at hl
        cases hl
      have gt : GG t = none := none_up sg' ft
      refine ⟨t, _, rowT wd tx, rfl, ht, rowT_rp ask sg2 gt nlt hl, rowT_len ask, fun H3 e3 => ?_⟩
      refine ⟨_, rfl, by show 1 ≤ sizeLine; decide, fun l' fl' => ?_⟩
      have y1 := same_new (o := .lst [.str wd]) fl'
      have hl' : (upd H3 l' (.lst [.str wd])) l' = some (.lst [.str wd]) := upd_same
      generalize upd H3 l' (.lst [.str wd]) = H4 at y1 hl' ⊢
      refine ⟨_, rfl, by show 3 ≤ sizeLine; decide, fun t' ft' => ?_⟩
      have y2 := same_new (o := .tup [.ref l', x, .bl true]) ft'
      have ht' : (upd H4 t' (.tup [.ref l', x, .bl true])) t' = some (.tup [.ref l', x, .bl true]) := upd_same
      generalize upd H4 t' (.tup [.ref l', x, .bl true]) = H5 at y2 ht' ⊢
      have e3' : Same H2 H3 := e3
      have sg4 := (sg2.trans e3').trans y1
      have gt' : GG t' = none := none_up sg4 ft'
      have nlt' : l' ≠ t' := fun z => by
        rw [z, ft'] at hl'
        cases hl'
      refine ⟨t', _, rowT wd tx, rfl, ht', rowT_rp ask (sg4.trans y2) gt' nlt' (y2 _ _ hl'), rowT_len ask, fun H6 e6 => ?_⟩
      have e6' : Same H5 H6 := e6
      refine ⟨rfl, _, rfl, iteFE (by simp) ?_⟩
      exact ⟨⟨_, _, _, _, rfl⟩, ((((s'.trans s2).trans e3').trans y1).trans y2).trans e6'⟩
    · rintro σ H' ⟨⟨v5, v6, v7, v8, rfl⟩, s'⟩
      have s0 := s08.trans s'
      exact hQ _ (held2.same s0) (kp.trans (Kp.same s0))
end
end K01
set_option Elab.async false
set_option linter.all false
set_option maxRecDepth 100000
set_option maxHeartbeats 4000000
namespace K01
open PySem PySem.Spec PyProof.Rows L2
open C8 (Cal Mak Met pe_c pe_mk pe_mt pe_mt0)
open OWQ TQ
theorem ne_same {K : PySem.W.Frag} {H : Hp} {r s : Addr} {q q' : Int × Int} {Q : VK} (h1 : H r = some (tupP q)) (h2 : H s = some (tupP q')) (e : q = q') (hQ : Q (.bl false) H) : rNeD K (.ref r) (.ref s) H Q := by
  subst e
  refine ⟨.tuple [.int q.1, .int q.2], .tuple [.int q.1, .int q.2], Dp.tup (SqT.of h1) (.cons (.int _) (.cons (.int _) .nil)), Dp.tup (SqT.of h2) (.cons (.int _) (.cons (.int _) .nil)), rfl, rfl, ?_⟩
  have z : PyData.eqv (.tuple [.int q.1, .int q.2]) (.tuple [.int q.1, .int q.2]) = true := by simp [PyData.eqv, PyData.eqvAll]
  rw [z]
  exact hQ
theorem low_mul {q : Int × Int} (l : Lo q) {p : Int} (hp : 0 < p) : KM.low (q.1 * p) (q.2 * p) = q := by
  have h2 := l.pos
  have h0 : q.2 ≠ 0 := by omega
  have h1 : q.2 * p ≠ 0 := Int.mul_ne_zero h0 (by omega)
  rw [KM.low_eq h1]
  have e : Rat.divInt (q.1 * p) (q.2 * p) = Rat.divInt q.1 q.2 := (Rat.divInt_eq_divInt_iff h1 h0).mpr (by rw [Int.mul_assoc, Int.mul_comm p q.2])
  rw [e, ← KM.low_eq h0, KM.low_id l.pos l.cop]
theorem low_one (t : Int) : KM.low t 1 = (t, 1) := KM.low_id (by decide) (by simp)
theorem mul_lt {x p : Int} {n m : Nat} (h : x.natAbs < 2 ^ n) (h2 : p.natAbs < 2 ^ m) : (x * p).natAbs < 2 ^ (n + m) := by
  rw [Int.natAbs_mul, Nat.pow_add]
  exact Nat.mul_lt_mul'' h h2
theorem Kp.tup {h p : Addr} {H H' : Hp} {c : Nat} {q : Int × Int} (k : Kp h H H') (x : Held H h c) (e : H p = some (tupP q)) : H' p = some (tupP q) := by
  obtain ⟨l, ns, n, m, h1, _⟩ := x
  exact k p _ e (ne_of e h1 (by intro z; cases z))
theorem Kp.sh {C h p : Addr} {H H' : Hp} {c : Nat} {q : Int × Int} (k : Kp h H H') (x : Held H h c) (e : Sh C H p q) : Sh C H' p q := by
  obtain ⟨l, ns, n, m, h1, _⟩ := x
  obtain ⟨dx, e⟩ := e
  exact ⟨dx, k p _ e (ne_of e h1 (by intro z; cases z))⟩
/-- between the statements of a turn -/
def St1 (a h : Addr) (c : Nat) (σ : L2.St) (H : Hp) : Prop := ∃ (v2 v4 v5 v6 v7 v8 v9 : Option V) (pt : Int), σ = [some (.ref a), some (.ref h), v2, some (.int pt), v4, v5, v6, v7, v8, v9] ∧ Held H h c ∧ 0 < pt ∧ pt ≤ 10 ^ 9
def St2 (a h : Addr) (c : Nat) (σ : L2.St) (H : Hp) : Prop := ∃ (v2 v6 v7 v8 v9 : Option V) (pt x y : Int), σ = [some (.ref a), some (.ref h), v2, some (.int pt), some (.int x), some (.int y), v6, v7, v8, v9] ∧ Held H h c ∧ 0 < pt ∧ pt ≤ 10 ^ 9 ∧ x.natAbs < 2 ^ 130 ∧ y.natAbs < 2 ^ 130 ∧ y ≠ 0
def St3 (C a h : Addr) (c : Nat) (σ : L2.St) (H : Hp) : Prop := ∃ (v2 v7 v9 : Option V) (pt x : Int) (q : Int × Int) (t p : Addr) (v5 : Option V), σ = [some (.ref a), some (.ref h), v2, some (.int pt), some (.int x), v5, some (.ref t), v7, some (.ref p), v9] ∧ Held H h c ∧ 0 < pt ∧ pt ≤ 10 ^ 9 ∧ x.natAbs < 2 ^ 130 ∧
  q.1.natAbs < 2 ^ 130 ∧ q.2.natAbs < 2 ^ 130 ∧ Lo q ∧ H t = some (tupP q) ∧ Sh C H p q
theorem ten9 : (10 : Int) ^ 9 < 2 ^ 30 := by decide
theorem at2 {a b : V} {r : Int} (h0 : 0 ≤ r) (h1 : r < 2) : ∃ v, atI [a, b] r = some v ∧ (v = a ∨ v = b) := by
  rcases (show r = 0 ∨ r = 1 by omega) with rfl | rfl
  · exact ⟨a, rfl, .inl rfl⟩
  · exact ⟨b, rfl, .inr rfl⟩
section
variable {P : Program} {w : World} {K : PySem.W.Frag} {mg : Str → Option Value} {base : Heap} {f C fI : Addr} {fd fdI : FuncData}
abbrev psS : List Str := ["self", "top", "bottom"]
def spLaw (K : PySem.W.Frag) : Sp := fun vs H Q _ => ∃ (a : Addr) (ns : List Int), vs = [.ref a] ∧ SqL K H a (ns.map V.int) ∧ ns.length ≤ 63 ∧ ∀ H', Q (.bl true) H'
theorem ok_law (F : Dn K d_law f fd) (b : Bl mg) (bs : mg "str" = none) (brep : mg "repr" = none) (gC : mg "Share" = some (.ref C)) (cH : Cal P w K mg base 1 "_law_held" (spHeld K) []) (cD : CalD P w K mg base) (cG : CalGr P w K mg base) (cN : Cal P w K mg base 3 "_law_number" spNumber []) (cL : CalL P w K mg base)
    (MS : MakS P w K mg base C) (M1 : Mak P w K mg base 2 "Share" C (spInit C) [.int 1]) (Mk1 : Mk K C fI) (FI : FnOk P w K mg base CX0 2 fI fdI psS (spInit C)) {i1 : List Value}
    (ka : KBn K fdI psS 1 ["bottom", "top"] (fun us ws => us ++ ws.reverse) (fun vs zs => vs ++ zs.reverse)) (kb : KBn K fdI psS 2 ["bottom"] (fun us ws => us ++ ws) (fun vs zs => vs ++ zs)) (kc : KBn K fdI psS 1 ["top"] (fun us ws => us ++ (ws ++ i1)) (fun vs zs => vs ++ (zs ++ [.int 1])))
    (Se : OW.Spc P w K mg base 1 C "__eq__" (spEq K C)) (oc : OwnC K C) (Ss : OW.Spc P w K mg base 1 C "__str__" (spTx C txq)) (Sr : OW.Spc P w K mg base 1 C "__repr__" (spTx C rpq))
    (cP : Cal P w K mg base 1 "_law_pair" (spPair C) []) (cT : Cal P w K mg base 1 "_law_text" spT []) (cU : Cal P w K mg base 4 "_law_unlike" (spUn C) []) (cR : GL.CalG P w K mg base 8 "_law_refusals_right" spRr []) : GL.FnG P w K mg base 9 f fd ["_law_script"] (spLaw K) := by
  refine GL.okG F sc_law (fun vs H Q E h => ?_) (fun cdv A outer s H vs Q E hgd hr h => ?_)
  · obtain ⟨a, ns, rfl, _⟩ := h
    rfl
  · obtain ⟨a, ns, rfl, hS, hlen, hQ⟩ := h
    have hgd2 : (A.deeper (envOfC d_law.qual d_law.scope s.heap.objs.size f cdv)).guards = some [] := hgd
    have hu64 : (A.deeper (envOfC d_law.qual d_law.scope s.heap.objs.size f cdv)).units + 64 < cLine := by have := hr.un; omega
    refine ⟨_, PSs.nox (pss_cons (ps_set (i := 1) sc_law.nd rfl (.inl rfl) (pe_c cH hr (by decide) rfl (pa_cons (pv 0) pa_nil)))
      (pss_cons (ps_for PassesOwn.never rfl (pi_range1 rfl b.range (pa_cons pe_int pa_nil)) (pg_name (i := 2) sc_law.nd rfl (.inl rfl))
        (C8.pss_cut (ps_set (i := 3) sc_law.nd rfl (.inl rfl) (pe_op op_add pe_int (pe_ix ix_list (pe_lst (pa_cons (pe_c cD hr (by decide) rfl (pa_cons (pv 1) (pa_cons pe_int pa_nil))) (pa_cons (pe_c cG hr (by decide) rfl (pa_cons (pv 1) (pa_cons (pe_op op_pow pe_int pe_int) pa_nil))) pa_nil))) (pe_c cD hr (by decide) rfl (pa_cons (pv 1) (pa_cons pe_int pa_nil))) (fun _ _ => rfl))))
        (C8.pss_cut (ps_par (i := 4) (j := 5) rfl sc_law.nd rfl rfl (by decide) rfl rfl (pa_cons (pe_op op_mul (pe_c cN hr (by decide) rfl (pa_cons (pv 1) pa_nil)) (pv 3)) (pa_cons (pe_op op_mul (pe_orT (pe_c cN hr (by decide) rfl (pa_cons (pv 1) pa_nil)) (pe_one pe_int)) (pv 3)) pa_nil)) rfl)
        (pss_cons (ps_set (i := 6) sc_law.nd rfl (.inl rfl) (pe_c cL hr (by decide) rfl (pa_cons (pv 4) (pa_cons (pv 5) pa_nil))))
        (pss_cons (ps_set (i := 7) sc_law.nd rfl (.inl rfl) (pe_lst (pa_cons (pe_mk MS hr (by decide) rfl (pa_cons (pv 4) (pa_cons (pv 5) pa_nil)))
            (pa_cons (pe_makeK0 (E := E0) Mk1 FI (hr.mono (by decide)) rfl gC ka (fun _ _ _ _ _ _ _ h => False.elim h) (pk_cons (pv 5) (pk_cons (pv 4) pk_nil)))
            (pa_cons (pe_makeN (E := E0) (n := 1) Mk1 FI (hr.mono (by decide)) rfl gC kb (fun _ _ _ _ _ _ _ h => False.elim h) (pa_cons (pv 4) pa_nil) (pk_cons (pv 5) pk_nil)) pa_nil)))))
        (C8.pss_cut (ps_set (i := 8) sc_law.nd rfl (.inl rfl) (pe_ix ix_list (pv 7) (pe_c cD hr (by decide) rfl (pa_cons (pv 1) (pa_cons pe_int pa_nil))) (fun _ _ => rfl)))
        (pss_cons (ps_if (PW.pt (pw_or (pt_cmpR (op_neD hu64) (pe_c cP hr (by decide) rfl (pa_cons (pv 8) pa_nil)) (pv 6) (nomark _))
            (pw_or1 (pt_cmpR op_ne (pe_callTy (OW.call_strO Ss (hr.mono (by decide))) rfl bs boot_str (pa_cons (pv 8) pa_nil)) (pe_c cT hr (by decide) rfl (pa_cons (pv 6) pa_nil)) (nomark _))))) pss_never pss_nil)
        (pss_cons (ps_if (pt_cmpR op_ne (pe_callB (OW.call_reprO Sr (hr.mono (by decide))) rfl brep boot_repr (pa_cons (pv 8) pa_nil))
            (pe_op op_add_str (pe_op op_add_str (pe_op op_add_str (pe_op op_add_str pe_str (pe_callTy call_str_int rfl bs boot_str (pa_cons (pe_ix ix_tup (pv 6) pe_int (fun _ _ => rfl)) pa_nil))) pe_str) (pe_callTy call_str_int rfl bs boot_str (pa_cons (pe_ix ix_tup (pv 6) pe_int (fun _ _ => rfl)) pa_nil))) pe_str) (nomark _)) pss_never pss_nil)
        (pss_cons (ps_set (i := 9) sc_law.nd rfl (.inl rfl) (pe_mk MS hr (by decide) rfl (pa_cons (pe_op op_mul (pe_ix ix_tup (pv 6) pe_int (fun _ _ => rfl)) (pv 3)) (pa_cons (pe_op op_mul (pe_ix ix_tup (pv 6) pe_int (fun _ _ => rfl)) (pv 3)) pa_nil))))
        (pss_cons (ps_if (PW.pt (pw_or (pt_not (pt_cmpR (r := rCmA P w K mg base 2 false) (op_eqA ⟨rfl, rfl, rfl, rfl, rfl⟩ (hr.mono (by decide))) (pv 8) (pv 9) (nomark _)))
            (pw_or (pt_cmpR (op_notInQ (n := 2) (hr.mono (by decide))) (pv 9) (pe_lst (pa_cons pe_non (pa_cons pe_int (pa_cons (pv 8) pa_nil)))) (by rfl))
            (pw_or1 (pt_not (pt_val (pe_c cU hr (by decide) rfl (pa_cons (pv 1) (pa_cons (pv 8) (pa_cons (pv 6) pa_nil)))))))))) pss_never pss_nil)
        (pss_cons (ps_if (PW.pt (pw_or (pt_cmpR (op_neD hu64) (pe_c cP hr (by decide) rfl (pa_cons (pe_mk M1 hr (by decide) rfl (pa_cons (pv 4) pa_nil)) pa_nil)) (pe_tup (pa_cons (pv 4) (pa_cons pe_int pa_nil))) (nomark _))
            (pw_or1 (pt_cmpR (op_neD hu64) (pe_c cP hr (by decide) rfl (pa_cons (pe_makeK0 (E := E0) Mk1 FI (hr.mono (by decide)) rfl gC kc (fun _ _ _ _ _ _ _ h => False.elim h) (pk_cons (pv 4) pk_nil)) pa_nil)) (pe_tup (pa_cons (pv 4) (pa_cons pe_int pa_nil))) (nomark _))))) pss_never pss_nil)
        (pss_one (ps_if (pt_not (pt_val (GL.pe_cG cR hgd2 hr (by decide) rfl (pa_cons (pv 1) (pa_cons (pv 4) pa_nil))))) pss_never pss_nil)))))))))))))
      (pss_one (ps_ret pe_bl)))), ?_⟩
    refine ⟨_, rfl, a, ns, rfl, hS, hlen, fun h H1 s1 f1 held1 => ?_⟩
    refine ⟨6, rfl, by decide, by decide, for_range (n := 6) (fun i σ H2 => ∃ v2 v3 v4 v5 v6 v7 v8 v9, σ = [some (.ref a), some (.ref h), v2, v3, v4, v5, v6, v7, v8, v9] ∧ Held H2 h (200 * (7 - i)))
      ⟨_, _, _, _, _, _, _, _, rfl, held1.weak (by decide)⟩ ?_ ?_⟩
    · rintro i σ H2 hi ⟨v2, v3, v4, v5, v6, v7, v8, v9, rfl, held2⟩
      -- the part
      refine ⟨St1 a h (200 * (7 - i) - 12), ?_, ?_⟩
      · refine ⟨_, rfl, h, 200 * (7 - i) - 1, 12, rfl, held2.weak (by omega), by decide, by decide, fun r1 H3 a1 b1 held3 k3 => ?_⟩
        refine ⟨_, rfl, _, _, rfl, rfl, ⟨by decide, by decide, by decide⟩, h, 200 * (7 - i) - 11, _, rfl, held3.weak (by omega), by decide, by decide, fun r2 H4 a2 b2 held4 k4 => ?_⟩
        refine ⟨by show 2 ≤ sizeLine; decide, fun u hu => ?_⟩
        have su := same_new (o := .lst [.int r1, .int r2]) hu
        refine ⟨_, rfl, h, 200 * (7 - i) - 12, 2, rfl, (held4.same su).weak (by omega), by decide, by decide, fun r3 H5 a3 b3 held5 k5 => ?_⟩
        have nuh : u ≠ h := by
          obtain ⟨l, ns, n, m, h1, _⟩ := held4
          exact (ne_of_none h1 hu).symm
        have hu5 : H5 u = some (.lst [.int r1, .int r2]) := k5 u _ upd_same nuh
        obtain ⟨v, hv, hv2⟩ := at2 (a := .int r1) (b := .int r2) a3 b3
        obtain ⟨x, rfl, hx0, hx1⟩ : ∃ x : Int, v = .int x ∧ 0 ≤ x ∧ x < 10 ^ 9 := by
          have t9 : (12 : Int) ≤ 10 ^ 9 := by decide
          have b2' : r2 < 10 ^ 9 := b2
          rcases hv2 with rfl | rfl
          · exact ⟨r1, rfl, a1, by omega⟩
          · exact ⟨r2, rfl, a2, b2'⟩
        exact ⟨u, _, _, _, rfl, rfl, SqL.of hu5, hv, _, _, rfl, rfl, _, _, _, _, _, _, _, _, rfl, held5, by omega, by omega⟩
      clear held2
      rintro σ' H3 ⟨v2, v4, v5, v6, v7, v8, v9, pt, rfl, held3, pt0, pt1⟩
      have ptS : pt.natAbs < 2 ^ 30 := by have := ten9; omega
      -- top and bottom
      refine ⟨St2 a h (200 * (7 - i) - 52), ?_, ?_⟩
      · refine ⟨_, rfl, h, 200 * (7 - i) - 32, rfl, held3.weak (by omega), fun t1 H4 b1 held4 k4 => ?_⟩
        refine ⟨_, rfl, _, _, rfl, rfl, cb_r (by omega) (by omega), ?_⟩
        refine ⟨_, rfl, h, 200 * (7 - i) - 52, rfl, held4.weak (by omega), fun u1 H5 c1 held5 k5 => ?_⟩
        refine ⟨_, rfl, ?_⟩
        have p30 := ten9
        by_cases hu : u1 = 0
        · subst hu
          refine iteF ?_
          refine ⟨_, rfl, _, _, rfl, rfl, cb_r (by omega) (by omega), _, _, rfl, ?_⟩
          exact ⟨_, _, _, _, _, _, _, _, rfl, held5, pt0, pt1, mul_lt (n := 100) (m := 30) b1 ptS, mul_lt (n := 100) (m := 30) (by decide) ptS, Int.mul_ne_zero (by decide) (by omega)⟩
        · have z : (u1 != 0) = true := by simp [hu]
          rw [z]
          refine iteT ?_
          refine ⟨_, rfl, _, _, rfl, rfl, cb_r (by omega) (by omega), _, _, rfl, ?_⟩
          exact ⟨_, _, _, _, _, _, _, _, rfl, held5, pt0, pt1, mul_lt (n := 100) (m := 30) b1 ptS, mul_lt (n := 100) (m := 30) c1 ptS, Int.mul_ne_zero hu (by omega)⟩
      clear held3
      rintro σ' H3 ⟨v2, v6, v7, v8, v9, pt, x, y, rfl, held3, pt0, pt1, hx, hy, y0⟩
      have smx : Sm x := Nat.lt_trans hx (by decide)
      have smy : Sm y := Nat.lt_trans hy (by decide)
      refine ⟨_, rfl, _, rfl, x, y, 200, rfl, y0, smy, by decide, by decide, fun t ft => ?_⟩
      have y1 := same_new (o := tupP (KM.low x y)) ft
      have ht : (upd H3 t (tupP (KM.low x y))) t = some (tupP (KM.low x y)) := upd_same
      generalize upd H3 t (tupP (KM.low x y)) = H4 at y1 ht ⊢
      refine ⟨_, rfl, _, rfl, ?_⟩
      intro p1 dx1 np1 nd1 _
      refine mk_s (n := 200) np1 nd1 y0 smy (by decide) (by decide) fun G1 g1 _ h1 => ⟨rfl, ?_⟩
      refine ⟨_, rfl, _, rfl, rfl, rfl, ?_⟩
      intro p2 dx2 np2 nd2 _
      refine mk_s (n := 200) np2 nd2 y0 smy (by decide) (by decide) fun G2 g2 _ h2 => ⟨rfl, ?_⟩
      refine ⟨_, rfl, _, rfl, rfl, rfl, ?_⟩
      intro p3 dx3 np3 nd3 _
      refine mk_s (n := 200) np3 nd3 y0 smy (by decide) (by decide) fun G3 g3 _ h3 => ⟨rfl, ?_⟩
      refine ⟨by show 3 ≤ sizeLine; decide, fun o fo => ?_⟩
      have g4 := same_new (o := .lst [.ref p1, .ref p2, .ref p3]) fo
      have ho : (upd G3 o (.lst [.ref p1, .ref p2, .ref p3])) o = some (.lst [.ref p1, .ref p2, .ref p3]) := upd_same
      generalize upd G3 o (.lst [.ref p1, .ref p2, .ref p3]) = G4 at g4 ho ⊢
      have g34 := g3.trans g4
      have g24 := g2.trans g34
      have g14 := g1.trans g24
      have held4 := (held3.same y1).same g14
      have ht4 := g14 _ _ ht
      have a1 := h1.keep g24
      have a2 := h2.keep g34
      have a3 := h3.keep g4
      refine ⟨St3 C a h (200 * (7 - i) - 53), ?_, ?_⟩
      · refine ⟨_, rfl, _, rfl, h, 200 * (7 - i) - 53, 3, rfl, held4.weak (by omega), by decide, by decide, fun r H5 r0 r1 held5 k5 => ?_⟩
        obtain ⟨v, hv, hv3⟩ := at3 (a := .ref p1) (b := .ref p2) (c := .ref p3) r0 r1
        have ho5 : H5 o = some (.lst [.ref p1, .ref p2, .ref p3]) := k5 o _ ho fun z => by
          obtain ⟨l, ns, n, m, e1, _⟩ := held4
          rw [z, e1] at ho
          cases ho
        obtain ⟨p, rfl, hp⟩ : ∃ p : Addr, v = .ref p ∧ Sh C H5 p (KM.low x y) := by
          rcases hv3 with rfl | rfl | rfl
          · exact ⟨p1, rfl, k5.sh held4 a1⟩
          · exact ⟨p2, rfl, k5.sh held4 a2⟩
          · exact ⟨p3, rfl, k5.sh held4 a3⟩
        exact ⟨o, _, _, _, rfl, rfl, SqL.of ho5, hv, _, _, _, _, _, KM.low x y, t, p, _, rfl, held5, pt0, pt1, hx, Nat.lt_of_le_of_lt (KM.low_top_le y0) hx, Nat.lt_of_le_of_lt (KM.low_bot_le y0) hy, Lo.of y0 smx smy, k5.tup held4 ht4, hp⟩
      clear held3 held4 ht4 a1 a2 a3 ho g4 g34 g24 g14 h1 h2 h3 g1 g2 g3 ht y1
      rintro σ' H3 ⟨v2, v7, v9, pt, x, q, t, p, v5, rfl, held3, pt0, pt1, hx, hq1, hq2, lo, ht, hp⟩
      have smx : Sm x := Nat.lt_trans hx (by decide)
      -- its fields and its text
      refine ⟨_, rfl, p, q, rfl, hp, fun r1 H4 s4 f4 h4 => ?_⟩
      refine ⟨_, rfl, ne_same h4 (s4 _ _ ht) rfl ⟨_, rfl, iteF ?_⟩⟩
      have hp4 := hp.keep s4
      obtain ⟨dp, hp4'⟩ := id hp4
      refine ⟨_, rfl, p, dp, _, rfl, hp4', ⟨p, q, rfl, hp4, lo.s1, lo.s2, _, rfl, ?_⟩⟩
      have ht4 := s4 _ _ ht
      have held4 := held3.same s4
      have k1 := lo.s1.len
      have k2 := lo.s2.len
      refine ⟨_, rfl, t, q, rfl, ht4, lo.s1, lo.s2, rfl, _, rfl, iteFE (by simp) ?_⟩
      -- how it is shown
      refine ⟨_, rfl, p, dp, _, rfl, hp4', ⟨p, q, rfl, hp4, lo.s1, lo.s2, _, rfl, ?_⟩⟩
      refine ⟨_, rfl, t, _, _, _, rfl, rfl, SqT.of ht4, at0, _, rfl, lo.s1.log, _, _, rfl, rfl, ?_, _, _, rfl, rfl, ?_, _, rfl, t, _, _, _, rfl, rfl, SqT.of ht4, at1, _, rfl, lo.s2.log, _, _, rfl, rfl, ?_, _, _, rfl, rfl, ?_, rfl, _, rfl, iteFE ?_ ?_⟩
      · rw [l_sh]
        exact big (by omega)
      · rw [len_cat, l_sh, l_cm]
        exact big (by omega)
      · rw [len_cat, len_cat, l_sh, l_cm]
        exact big (by omega)
      · rw [len_cat, len_cat, len_cat, l_sh, l_cm, l_cl]
        exact big (by omega)
      · simp [rpq]
      have p30 := ten9
      have ptS : pt.natAbs < 2 ^ 30 := by omega
      have q0 : q.2 * pt ≠ 0 := Int.mul_ne_zero (by have := lo.pos; omega) (by omega)
      have sq : (q.2 * pt).natAbs < 2 ^ 200 := Nat.lt_trans (mul_lt (n := 130) (m := 30) hq2 ptS) (by decide)
      -- again
      refine ⟨_, rfl, t, _, _, _, rfl, rfl, SqT.of ht4, at0, _, rfl, _, _, rfl, rfl, cb_r (by omega) (by omega), _, rfl, t, _, _, _, rfl, rfl, SqT.of ht4, at1, _, rfl, _, _, rfl, rfl, cb_r (by omega) (by omega), ?_⟩
      intro ag dx1 np1 nd1 _
      refine mk_s (n := 200) np1 nd1 q0 sq (by decide) (by decide) fun G1 g1 _ hag => ⟨rfl, ?_⟩
      rw [low_mul lo pt0] at hag
      have hp5 := hp4.keep g1
      have ht5 := g1 _ _ ht4
      have held5 := held4.same g1
      have dq : decide (q = q) = true := by simp
      have cm1 := cm_sh Se oc hp5 hag
      rw [dq] at cm1
      refine ⟨_, rfl, _, rfl, true, cm1, fun G2 g2 => ⟨_, rfl, iteFE rfl ?_⟩⟩
      have hp6 := hp5.keep g2
      have hag6 := hag.keep g2
      refine ⟨_, rfl, _, rfl, by show 3 ≤ sizeLine; decide, fun l fl => ?_⟩
      have y1 := same_new (o := .lst [.non, .int 7, .ref p]) fl
      have hl : (upd G2 l (.lst [.non, .int 7, .ref p])) l = some (.lst [.non, .int 7, .ref p]) := upd_same
      generalize upd G2 l (.lst [.non, .int 7, .ref p]) = G3 at y1 hl ⊢
      have hp7 := hp6.keep y1
      have hag7 := hag6.keep y1
      have cm2 := cm_sh Se oc hp7 hag7
      rw [dq] at cm2
      refine ⟨l, _, true, rfl, hl, .cons ((cm_th Se oc hag7 Tq.non).2 _ ⟨rfl, rfl, rfl, rfl, rfl⟩) (.cons ((cm_th Se oc hag7 Tq.int).2 _ ⟨rfl, rfl, rfl, rfl, rfl⟩) (.cons (cm2 _ ⟨rfl, rfl, rfl, rfl, rfl⟩) .nil)), fun G4 g4 => ⟨_, rfl, iteFE rfl ?_⟩⟩
      have hp8 := hp7.keep g4
      have g24 : Same G1 G4 := (g2.trans y1).trans g4
      have held8 := held5.same g24
      refine ⟨_, rfl, _, rfl, _, rfl, h, p, t, q, rfl, hp8, g24 _ _ ht5, lo, fun G5 g5 => ⟨true, rfl, iteF ?_⟩⟩
      have held9 := held8.same g5
      clear hp8 hp7 hag7 hag6 hag hp6 hp5 ht5 held5 held8 held4 ht4 hp4 hp4' cm1 cm2 g24 y1 hl g1
      -- by one thing
      refine ⟨_, rfl, ?_⟩
      intro p1 dx1 np1 nd1 _
      refine mk_s (n := 200) np1 nd1 (by decide) (by decide) (by decide) (by decide) fun G6 g6 _ h1 => ⟨rfl, ?_⟩
      rw [low_one] at h1
      refine ⟨p1, _, rfl, h1, fun r1 G7 g7 _ e1 => ?_⟩
      refine ⟨_, rfl, by show 2 ≤ sizeLine; decide, fun u1 fu1 => ?_⟩
      have u7 := same_new (o := .tup [.int x, .int 1]) fu1
      refine ne_same (q' := (x, 1)) (u7 _ _ e1) upd_same rfl ⟨_, rfl, iteF ?_⟩
      have held10 := ((held9.same g6).same g7).same u7
      generalize upd G7 u1 (.tup [.int x, .int 1]) = G8 at held10 ⊢
      refine ⟨_, rfl, rfl, rfl, ?_⟩
      intro p2 dx2 np2 nd2 _
      refine mk_s (n := 200) np2 nd2 (by decide) (by decide) (by decide) (by decide) fun G9 g9 _ h2 => ⟨rfl, ?_⟩
      rw [low_one] at h2
      refine ⟨p2, _, rfl, h2, fun r2 G10 g10 _ e2 => ?_⟩
      refine ⟨_, rfl, by show 2 ≤ sizeLine; decide, fun u2 fu2 => ?_⟩
      have u10 := same_new (o := .tup [.int x, .int 1]) fu2
      refine ne_same (q' := (x, 1)) (u10 _ _ e2) upd_same rfl ⟨_, rfl, iteF ?_⟩
      have held11 := ((held10.same g9).same g10).same u10
      generalize upd G10 u2 (.tup [.int x, .int 1]) = G11 at held11 ⊢
      refine ⟨_, rfl, _, rfl, h, 200 * (7 - i) - 60, x, rfl, held11.weak (by omega), smx, fun G12 held12 _ => ⟨true, rfl, iteF ?_⟩⟩
      exact ⟨_, _, _, _, _, _, _, _, rfl, held12.weak (by omega)⟩
    · rintro σ H2 _
      exact hQ H2
end
end K01
set_option Elab.async false
set_option linter.all false
set_option maxRecDepth 100000
set_option maxHeartbeats 4000000
/-! GE: a law's end by a promise that is asked only where no repr is under way. -/
namespace GL
open PySem PySem.Spec PyProof.Rows L2
theorem lawG {P : Program} {w : World} {K : PySem.W.Frag} {mg mb : Str → Option Value} {k : Nat} {fa a : Addr} {fd : FuncData} {x : Str} {sp : Sp} {s₁ : Shared} {vs : List Value} {ns : List Int}
    (KX : K.In s₁.heap) (hns : s₁.heap.Ns mainGlobals mg) (hb : s₁.heap.Ns builtinsNs mb) (hbb : ∀ x : Str, x ≠ "__name__" → mb x = bootBuiltins x) (hlim : s₁.heap.NoLimit) (hg : s₁.gens = #[])
    (ha : s₁.heap.get? a = some { cls := .type "list", data := .seq vs.toArray }) (hi : IntsAre vs ns) (hl : ns.length ≤ sizeLine) (hr : Room k callerA)
    (F : ∀ base : Heap, K.In base → base.Ns mainGlobals mg → FnG P w K mg base k fa fd [x] sp) (hbind : ∀ (s : Shared) (u : Value), BindsTo s fd ⟨[u], []⟩ [(x, u)])
    (hsp : ∀ H : Hp, SqL K H a (ns.map V.int) → sp [.ref a] H (fun v _ => v = .bl true) fun _ _ _ => False) :
    codeAny (model P w) callerA (.call (.ref fa) ⟨[.ref a], []⟩) (fun r s' => r = .ok (.ret (.bool true)) ∧ OldK s₁.heap s'.heap ∧ s'.os = s₁.os ∧ AllBare s'.gens) s₁ := by
  -- the script alone is tracked, as it is, or nothing
  have from_ : ∀ H : Hp, SqL K H a (ns.map V.int) → HOk P w H s₁.heap → (∀ b u, H b = some u → b = a ∧ K.lookup a = none ∧ ∃ o xs, u = .frz o (.lst xs)) →
      codeAny (model P w) callerA (.call (.ref fa) ⟨[.ref a], []⟩) (fun r s' => r = .ok (.ret (.bool true)) ∧ OldK s₁.heap s'.heap ∧ s'.os = s₁.os ∧ AllBare s'.gens) s₁ := by
    intro H hS hok hA
    have off : ∀ b, (b = a → K.lookup a ≠ none) → H b = none := fun b n => by
      cases q : H b with
      | none => rfl
      | some u => exact absurd (hA b u q).2.1 (n (hA b u q).1)
    have nsK : ∀ {b : Addr} {m : Str → Option Value}, s₁.heap.Ns b m → (hidT s₁.heap H).Ns b m := by
      rintro b m ⟨o, es, ep, e, d, r⟩
      refine ⟨o, es, ep, hidT_get e (off b fun z => ?_), d, r⟩
      subst z
      rw [ha] at e
      cases e
      cases d
    have inK : K.In (hidT s₁.heap H) := fun b o e => hidT_get (KX b o e) (off b fun z => by rw [← z, e]; simp)
    have hM : Mod K mg (hidT s₁.heap H) := ⟨inK, nsK hns, ⟨mb, nsK hb, hbb⟩, by obtain ⟨mc, h1, h2⟩ := hlim; exact ⟨mc, nsK h1, h2⟩⟩
    have nofr : ∀ b : Addr, b ∉ frs ([] : List Env) := fun b z => nomatch z
    have e0 : Env0 P w K mg (hidT s₁.heap H) callerA [] s₁ H := ⟨rfl, hM, fun b o e => of_hidT e, Nat.le_of_eq (hidT_size _ _), trivial, fun b z => absurd z (nofr b), hok, .of_eq hg⟩
    refine codeAny_mono ((F _ inK (nsK hns)).run callerA [] s₁ H ⟨[.ref a], []⟩ [.ref a] [.ref a] _ _ rfl hr e0 (hbind s₁ (.ref a)) (.cons rfl .nil) (hsp H hS)) fun r s' h => ?_
    match r, h with
    | .error e, h => exact False.elim h
    | .ok .next, h => exact False.elim h
    | .ok .brk, h => exact False.elim h
    | .ok .cont, h => exact False.elim h
    | .ok (.ret u), ⟨v, H', os, bare, un, hok', r', q⟩ =>
      cases (show v = .bl true from q)
      cases (show u = Value.bool true from r')
      refine ⟨rfl, OldK.of_keep fun b o e => ?_, os, bare⟩
      cases q : H b with
      | none => exact un.keep b o e q (nofr b) (by simp)
      | some u =>
        obtain ⟨_, _, ob, xs, rfl⟩ := hA b u q
        have e1 := (hok b _ q).1
        have e2 := (hok' b _ (un.frzs b ob _ q)).1
        rw [e] at e1
        cases e1
        exact e2
  have rv := vals_ints hi
  cases hk : K.lookup a with
  | some o =>
    have e := KX a o hk
    rw [ha] at e
    cases e
    exact from_ (fun _ => none) (.inr ⟨_, vs.toArray, _, hk, rfl, rfl, rfl, by rw [List.size_toArray, hi.length]; exact hl, by simpa using rv⟩) (fun b u z => nomatch z) (fun b u z => nomatch z)
  | none =>
    have at_ : ∀ (b : Addr) (u : HO), (if b = a then some (HO.frz { cls := .type "list", data := .seq vs.toArray } (.lst (ns.map V.int))) else none) = some u → b = a ∧ u = HO.frz { cls := .type "list", data := .seq vs.toArray } (.lst (ns.map V.int)) := fun b u z => by
      by_cases h : b = a
      · rw [if_pos h] at z
        exact ⟨h, (Option.some.inj z).symm⟩
      · rw [if_neg h] at z
        cases z
    refine from_ (fun b => if b = a then some (.frz { cls := .type "list", data := .seq vs.toArray } (.lst (ns.map V.int))) else none) (.inl (.inr ⟨{ cls := .type "list", data := .seq vs.toArray }, if_pos rfl⟩)) (fun b u z => ?_) (fun b u z => ?_)
    · obtain ⟨rfl, rfl⟩ := at_ b u z
      exact ⟨ha, by rw [List.length_map]; exact hl, vs, _, rv, ha⟩
    · obtain ⟨rfl, rfl⟩ := at_ b u z
      exact ⟨rfl, hk, _, _, rfl⟩
/-- a law: F gives the written part, the function object, the promise over every base -/
theorem walkG {l : PySem.W.OpenLaw} {n k : Nat} {q : Program} {loose : List Str} {XP : (Str → Option Value) → Heap → Prop} {YP : World → Heap → Prop} {d : DefRec} {x : Str} (hn : l.most = some n) (hn2 : n ≤ sizeLine) (hdf : d.params.defaults = []) (hr : Room k callerA)
    (F : ∀ (w : World) (mg : Str → Option Value) (fa : Addr) (h : Heap), YP w h → h.Ns mainGlobals mg → mg d.name = some (.ref fa) →
      ∃ (K : PySem.W.Frag) (fd : FuncData) (sp : Sp), K.In h ∧ (∀ (s : Shared) (u : Value), BindsTo s fd ⟨[u], []⟩ [(x, u)]) ∧
        (∀ (H : Hp) (a : Addr) (ns : List Int), ns.length ≤ n → SqL K H a (ns.map V.int) → sp [.ref a] H (fun v _ => v = .bl true) fun _ _ _ => False) ∧
        ∀ base : Heap, K.In base → base.Ns mainGlobals mg → FnG l.prog w K mg base k fa fd [x] sp) : PySem.W.WalkO q loose XP YP l.row.toRowW d [] (fun f vs => PySem.call f vs) := by
  refine Att.attach_call hn hdf fun w s₀ s₁ mg mb fa o pm cd doc a vs ns G Y ho hd hcd hmg hobj hints hlen hg => ?_
  obtain ⟨K, fd, sp, KX, hb, hsp, hF⟩ := F w mg fa _ Y G.T.g hmg
  exact lawG KX G.T.g G.T.b G.T.builtins G.T.nolimit hg hobj hints (Nat.le_trans hlen hn2) hr hF hb fun H hS => hsp H a ns hlen hS
end GL
set_option Elab.async false
set_option linter.all false
set_option maxRecDepth 100000
set_option maxHeartbeats 4000000
/-! KW: calls by keywords alone: f(k = v, ..), o.m(k = v, ..). -/
namespace KW
open PySem PySem.Spec PyProof.Rows L2
section
variable {X : Cx} {k j : Nat} {C f : Addr} {fd : FuncData} {ps ks : List Str} {sp : Sp} {x m : Str} {p pos apos : Pos} {o : Expr} {kws : List Keyword} {ta : TE} {tk : TA} {g : List Value → List Value → List Value} {gV : List V → List V → List V}
theorem pe_cK (F : FnOk X.prog X.w X.K X.mg X.base CX0 k f fd ps sp) (hr : Room k X.A) (hg : Gl X x) (hm : X.mg x = some (.ref f)) (hk : PySem.W.keepIn X.K (.ref f) = true) (hb : KBn X.K fd ps 0 ks g gV) (hkw : PK X kws tk)
    (hall : (backToKw pos (keywordEach kws X.env)).all (·.1.isSome) = true := by rfl) (hks : (backToKw pos (keywordEach kws X.env)).filterMap (·.1) = ks := by rfl) (hdb : (x == ("__debug__" : Str)) = false := by decide)
    (hpl : ((backTo pos (starEach [] X.env)).any (·.1) || (backToKw pos (keywordEach kws X.env)).any (·.1.isNone)) = false := by rfl) :
    PE X (.Call (.Name x p) [] kws pos) (fun σ H Q => tk σ H fun zs H1 => zs.length = ks.length ∧ sp (gV [] zs) H1 Q E0) := by
  refine ⟨fun pins s σ H Q I h => wpAny_Call_Name_kw (ld_glob I hg hm (PySem.W.callWith_KW0 (h₀ := X.base) I.ok.mod.kin hk hall ?_ hpl) hdb)⟩
  refine thn (hkw.run pos pins s σ H _ I h) fun ws s2 ⟨zs, H2, I2, rz, l2, q2⟩ => ⟨I2.kIn, ?_⟩
  rw [hks]
  exact run_fnN (us := []) (vs := []) F hr hb (fun _ _ _ _ _ _ _ h => False.elim h) I2 .nil rz rfl l2 q2
theorem pe_mtK {pl : Sem Bool} (he : PE X o ta) (c : Cls X.K C) (hm : Meth X.K C m f) (F : FnOk X.prog X.w X.K X.mg X.base CX0 k f fd ps sp) (hr : Room k X.A) (hb : KBn X.K fd ps 1 ks g gV) (hkw : PK X kws tk)
    (hall : (backToKw pos (keywordEach kws X.env)).all (·.1.isSome) = true := by rfl) (hks : (backToKw pos (keywordEach kws X.env)).filterMap (·.1) = ks := by rfl)
    (hpl : ((backTo pos (starEach [] X.env)).any (·.1) || (backToKw pos (keywordEach kws X.env)).any (·.1.isNone)) = false := by rfl)
    (ht : eval (.Call (.Attribute o m apos) [] kws pos) X.env = (do
      let ov ← eval o X.env
      standAt apos.atName
      let (f, first) ← holding [ov] (getMethod ov m pl)
      callWith pos f first (backTo pos (starEach [] X.env)) (backToKw pos (keywordEach kws X.env))) := by rfl) :
    PE X (.Call (.Attribute o m apos) [] kws pos) (fun σ H Q => ta σ H fun x H1 => ∃ a dx fs, x = .ref a ∧ H1 a = some (.ins C dx fs) ∧ fs.lookup m = none ∧ tk σ H1 fun zs H2 => zs.length = ks.length ∧ sp (gV [.ref a] zs) H2 Q E0) := by
  refine ⟨fun pins s σ H Q I h => ?_⟩
  refine PySem.W.methodCall_KW (pl := pl) (thn (he.run pins s σ H _ I h) fun u s1 ⟨x, H1, I1, rx, a, dx, fs, ex, ea, l, q⟩ => ?_) ht
  subst ex
  obtain rfl : u = Value.ref a := rx
  refine getmeth_ok I1 ea c hm l (PySem.W.callWith_KW0 (first := [.ref a]) (h₀ := X.base) I.ok.mod.kin hm.kp hall ?_ hpl)
  refine thn (hkw.run pos pins s1 σ H1 _ I1 q) fun ws s2 ⟨zs, H2, I2, rz, l2, q2⟩ => ⟨I2.kIn, ?_⟩
  rw [hks]
  exact run_fnN (us := [.ref a]) (vs := [.ref a]) F hr hb (fun _ _ _ _ _ _ _ h => False.elim h) I2 (.cons rfl .nil) rz rfl l2 q2
end
end KW
set_option Elab.async false
set_option linter.all false
set_option maxRecDepth 100000
set_option maxHeartbeats 4000000
/-! KB: what a call by keywords binds, for a def without keyword-only parameters. -/
namespace KW
open PySem PySem.Spec PyProof.Rows L2
section
variable {K : PySem.W.Frag} {x qual : Str} {params : Arguments} {body : List Stmt} {scope : Scope} {dvs : List V} {kws : List (Str × V)} {f : Addr} {fd : FuncData} {ps : List Str}
theorem kb1 (F : FunD K x qual params body scope dvs kws f fd) (n : Nat) (ks : List Str) (g : {α : Type} → List α → List α → List α → List α) (hd : dvs ≠ [])
    (hrel : ∀ {vs ds zs : List V} {us its ws : List Value}, Vals vs us → Vals ds its → Vals zs ws → Vals (g vs ds zs) (g us its ws))
    (h : ∀ (T : Addr) (kV doc pm : Value) (an : Option Addr) (cdv ct : Value) (us its ws : List Value), us.length = n → its.length = dvs.length → ws.length = ks.length →
      ∃ k, bindArgs (PySem.W.fnOf x qual params body scope (.ref T) kV doc pm an cdv ct) ⟨us, ks.zip ws⟩ = seqItems? (.ref T) >>= k ∧ k (some its.toArray) = pure (ps.zip (g us its ws))) :
    ∃ its : List Value, KBn K fd ps n ks (fun us ws => g us its ws) (fun vs zs => g vs dvs zs) := by
  obtain ⟨oc, od, dV, kV, doc, pm, an, cdv, ct, osl, rfl, lk, hcd, hD, hK⟩ := F.ex
  rcases hD with ⟨e, _⟩ | ⟨_, T, o, its, m, rfl, lT, oT, rT⟩
  · exact absurd e hd
  · refine ⟨its, ⟨fun s us ws X l1 l2 => ?_, fun r1 r2 => hrel r1 rT r2⟩⟩
    obtain ⟨k, e1, e2⟩ := h T kV doc pm an cdv ct us its ws l1 rT.length.symm l2
    refine BindsTo.of_looks fun M => ?_
    rw [e1]
    exact looks_items X lT oT (.of_pure e2)
theorem kb0 (F : FunD K x qual params body scope [] kws f fd) (n : Nat) (ks : List Str) (g : {α : Type} → List α → List α → List α)
    (hrel : ∀ {vs zs : List V} {us ws : List Value}, Vals vs us → Vals zs ws → Vals (g vs zs) (g us ws))
    (h : ∀ (kV doc pm : Value) (an : Option Addr) (cdv ct : Value) (us ws : List Value), us.length = n → ws.length = ks.length →
      bindArgs (PySem.W.fnOf x qual params body scope .none kV doc pm an cdv ct) ⟨us, ks.zip ws⟩ = pure (ps.zip (g us ws))) :
    KBn K fd ps n ks (fun us ws => g us ws) (fun vs zs => g vs zs) := by
  obtain ⟨oc, od, dV, kV, doc, pm, an, cdv, ct, osl, rfl, lk, hcd, hD, hK⟩ := F.ex
  rcases hD with ⟨_, rfl⟩ | ⟨e, _⟩
  · exact ⟨fun s us ws X l1 l2 => .of_eq (h kV doc pm an cdv ct us ws l1 l2), fun r1 r2 => hrel r1 r2⟩
  · exact absurd rfl e
end
end KW
set_option Elab.async false
set_option linter.all false
/-! VR: values related, turned about. -/
namespace KW
open PySem PySem.Spec PyProof.Rows L2
theorem vals_rev {vs : List V} {us : List Value} (h : Vals vs us) : Vals vs.reverse us.reverse := by
  induction h with
  | nil => exact .nil
  | cons r t ih =>
    rw [List.reverse_cons, List.reverse_cons]
    exact ih.append (.cons r .nil)
end KW
set_option Elab.async false
set_option linter.all false
set_option maxRecDepth 100000
set_option maxHeartbeats 4000000
namespace K01
open PySem PySem.Spec PyProof.Rows L2
/-! what the head asks of Share, NoKind, Nought -/
def owK : Str → Bool := fun x => decide (x = "NoKind")
def abK : String → Bool := fun x => x == "TypeError"
def owG : Str → Bool := fun x => decide (x = "Nought")
def abG : String → Bool := fun x => x == "ZeroDivisionError" || x == "ArithmeticError"
def xkC (K : PySem.W.Frag) (n : Str) (tr : List Value) (nid B bid : String) (ow : Str → Bool) (ab : String → Bool) : Bool := GX.gxB K (He.ga K n) tr nid && (GX.vvB K B bid && (xfB K (He.ga K n) && (decide (PySem.W.exmOne K (.ref (He.ga K n)) (.ref (He.ga K n)) = some true) && (GX.isB K (He.ga K n) &&
  (ex16.all (fun x => decide (PySem.W.kitOne K (.ref (He.ga K n)) (.ref (He.ga K x)) = some (ow x))) && ex10.all (fun x => decide (PySem.W.kitOne K (.ref (He.ga K n)) (.type x) = some (ab x))))))))
theorem isB_ok {K : PySem.W.Frag} {C : Addr} (h : GX.isB K C = true) : PySem.W.findIn K (.ref C) "__class__" = some (some (.builtin "object.__class__")) ∧ PySem.W.specialIn K (.builtin "object.__class__") "__get__" = some (some (.builtin "getset_descriptor.__get__")) ∧ PySem.W.takesIn K (.builtin "object.__class__") = some true ∧ PySem.W.mroIn K C (.type "object") = some true := by
  unfold GX.isB at h
  simp only [Bool.and_eq_true, decide_eq_true_eq] at h
  exact ⟨He.eqO_ok h.1, He.eqO_ok h.2.1, h.2.2.1, h.2.2.2⟩
theorem exc_of {K : PySem.W.Frag} {C : Addr} (h : GX.isB K C = true) (x : XfC K C) : ExcC K C := by
  obtain ⟨a, b, c, d⟩ := isB_ok h
  exact ⟨x.ga, x.gg, x.exC, x.hdC, a, b, c, d⟩
theorem xkC_ok {K : PySem.W.Frag} {n : Str} {tr : List Value} {nid B bid : String} {ow : Str → Bool} {ab : String → Bool} (h : xkC K n tr nid B bid ow ab = true) : GX.Gx K (He.ga K n) tr nid ∧ PySem.W.findCls K (.type B) (.type "type") "__init__" = some (.val (.builtin bid)) ∧ XfC K (He.ga K n) ∧
    PySem.W.exmOne K (.ref (He.ga K n)) (.ref (He.ga K n)) = some true ∧ ExcC K (He.ga K n) ∧ (∀ x ∈ ex16, PySem.W.kitOne K (.ref (He.ga K n)) (.ref (He.ga K x)) = some (ow x)) ∧ ∀ x ∈ ex10, PySem.W.kitOne K (.ref (He.ga K n)) (.type x) = some (ab x) := by
  unfold xkC at h
  obtain ⟨h2, h⟩ := Bool.and_eq_true_iff.mp h
  obtain ⟨h3, h⟩ := Bool.and_eq_true_iff.mp h
  obtain ⟨h4, h⟩ := Bool.and_eq_true_iff.mp h
  obtain ⟨h5, h⟩ := Bool.and_eq_true_iff.mp h
  obtain ⟨h6, h⟩ := Bool.and_eq_true_iff.mp h
  obtain ⟨h7, h8⟩ := Bool.and_eq_true_iff.mp h
  exact ⟨GX.gxB_ok h2, GX.vvB_ok h3, xfB_ok h4, of_decide_eq_true h5, exc_of h6 (xfB_ok h4), fun x hx => of_decide_eq_true (List.all_eq_true.mp h7 x hx), fun x hx => of_decide_eq_true (List.all_eq_true.mp h8 x hx)⟩
def xk1 (K : PySem.W.Frag) : Bool := (GX.isB K (He.ga K "Share") && (OWQ.ocB K (He.ga K "Share") && OWQ.ts7.all fun T => decide (PySem.W.kitOne K (.type T) (.ref (He.ga K "Share")) = some false))) &&
  (xkC K "NoKind" tyT "TypeError.__new__" "TypeError" "TypeError.__init__" owK abK && (xkC K "Nought" zdT "ZeroDivisionError.__new__" "ZeroDivisionError" "ZeroDivisionError.__init__" owG abG && decide (PySem.W.exmOne K (.ref (He.ga K "Nought")) (.ref (He.ga K "NoKind")) = some false)))
theorem xk_ok {K : PySem.W.Frag} (h : xk1 K = true) : (IsS K (He.ga K "Share") ∧ OWQ.OwnC K (He.ga K "Share")) ∧ xkC K "NoKind" tyT "TypeError.__new__" "TypeError" "TypeError.__init__" owK abK = true ∧ xkC K "Nought" zdT "ZeroDivisionError.__new__" "ZeroDivisionError" "ZeroDivisionError.__init__" owG abG = true ∧
    PySem.W.exmOne K (.ref (He.ga K "Nought")) (.ref (He.ga K "NoKind")) = some false := by
  unfold xk1 at h
  obtain ⟨h1, h⟩ := Bool.and_eq_true_iff.mp h
  obtain ⟨h2, h⟩ := Bool.and_eq_true_iff.mp h
  obtain ⟨h3, h4⟩ := Bool.and_eq_true_iff.mp h
  obtain ⟨a1, h⟩ := Bool.and_eq_true_iff.mp h1
  obtain ⟨a2, a3⟩ := Bool.and_eq_true_iff.mp h
  obtain ⟨b1, b2, b3, b4⟩ := isB_ok a1
  exact ⟨⟨⟨⟨b1, b2, b3, b4, by unfold PySem.W.kitOne; rw [if_pos (beq_self_eq_true _)]⟩, fun T hT => of_decide_eq_true (List.all_eq_true.mp a3 T hT)⟩, OWQ.ocB_ok a2⟩, h2, h3, of_decide_eq_true h4⟩
theorem fndK : fnd owK = [("kind" : Str)] := by decide +kernel
theorem fndG : fnd owG = [("nought" : Str)] := by decide +kernel
theorem abvK : (ex10.map fun x => abK x) = (List.range 10).map (abv [0]) := by decide +kernel
theorem abvG : (ex10.map fun x => abG x) = (List.range 10).map (abv [1, 2]) := by decide +kernel
theorem plcK : (("kind" : Str), ([0] : List Int)) ∈ plc := by decide +kernel
theorem plcG : (("nought" : Str), ([1, 2] : List Int)) ∈ plc := by decide +kernel
theorem ex_of {K : PySem.W.Frag} {mg : Str → Option Value} {D : Addr} {ow : Str → Bool} {ab : String → Bool} (gl : ∀ x ∈ ex16, mg x = some (.ref (He.ga K x))) (bt : ∀ x ∈ ex10, mg (Str.ofString x) = none) (xc : ExcC K D)
    (ko : ∀ x ∈ ex16, PySem.W.kitOne K (.ref D) (.ref (He.ga K x)) = some (ow x)) (kb : ∀ x ∈ ex10, PySem.W.kitOne K (.ref D) (.type x) = some (ab x)) : Ex K mg D ow ab := ⟨gl, bt, xc, ko, kb⟩
end K01
set_option Elab.async false
set_option linter.all false
set_option maxRecDepth 100000
set_option maxHeartbeats 0
namespace K01
open PySem PySem.Spec PyProof.Rows L2
open C8 (Cal Mak Met pe_c pe_mk pe_mt pe_mt0)
def fa : List He.Fa := [.glo "is_whole", .glo "common_part", .glo "_law_held", .glo "_law_draw", .glo "_law_great", .glo "_law_low", .glo "_law_pair", .glo "_law_kinds", .glo "_law_bases", .glo "_law_number", .glo "_law_odd", .glo "_law_text", .glo "_law_unlike", .glo "_law_refused", .glo "_law_refusals_right", .glo "law", .free "isinstance", .free "int", .free "bool", .free "str", .free "abs", .free "list", .free "range", .free "len", .free "zip", .free "repr", .free "TypeError", .free "ZeroDivisionError", .free "ArithmeticError", .free "ValueError", .free "KeyError", .free "LookupError", .free "IndexError", .free "OverflowError", .free "RuntimeError", .free "NotImplementedError", .glo "Share", .cls "Share", .mkr "Share", .glo "NoKind", .glo "Nought", .glo "NoShare", .glo "Uneven", .glo "BadName", .glo "NoNumber", .glo "NoRide", .glo "NoText", .glo "NoName", .glo "NoDay", .glo "NoSeats", .glo "TooMany", .glo "Taken", .glo "NoRule", .glo "NothingDone", .glo "NoRow", .noat "Share" "top", .noat "Share" "bottom", .noat "NoKind" "thing", .noat "Nought" "top", .meth "Share" "__eq__", .meth "Share" "__str__", .meth "Share" "__repr__", .meth "NoKind" "__init__", .meth "Nought" "__init__"]
def xk (K : PySem.W.Frag) : Bool := (xk1) K
abbrev R : PySem.W.OpenRow := PySem.W.OpenLaw.row PySem.Challenge.rw_rideturns_k01_shares_made
abbrev hk : PySem.W.Hook := He.hookX 6 fa fn [] [] xk
def ob (s : PySem.W.SharedT) : He.AlX := He.obsX 6 fa fn [] [] xk (HandSHeadRun.getT s)
theorem ob_eq (s : PySem.W.SharedT) : ob s = hk.obs s.abs := He.obsX_eq (HandSHeadRun.getT_eq s)
abbrev loose : List Str := [("_wall" : Str), ("NoKind" : Str), ("Nought" : Str), ("NoShare" : Str), ("Uneven" : Str), ("BadName" : Str), ("NoNumber" : Str), ("NoRide" : Str), ("NoText" : Str), ("NoName" : Str), ("NoDay" : Str), ("NoSeats" : Str), ("TooMany" : Str), ("Taken" : Str), ("NoRule" : Str), ("NothingDone" : Str), ("NoRow" : Str), ("is_whole" : Str), ("common_part" : Str), ("Share" : Str), ("_law_held" : Str), ("_law_draw" : Str), ("_law_great" : Str), ("_law_low" : Str), ("_law_pair" : Str), ("_law_kinds" : Str), ("_law_bases" : Str), ("_law_number" : Str), ("_law_odd" : Str), ("_law_text" : Str), ("_law_unlike" : Str), ("_law_refused" : Str), ("_law_refusals_right" : Str)]
theorem run_ (w : World) : HandSHeadRun.RunEq R (PySem.W.view R.prog [37]) hk ob 8000 loose w := by
  intro os
  kernel_rfl
theorem cal_of {P : Program} {w : World} {K : PySem.W.Frag} {mg : Str → Option Value} {base : Heap} {f : Addr} {fd : FuncData} {ps : List Str} {k : Nat} {x : Str} {sp : Sp} (F : FnOk P w K mg base CX0 k f fd ps sp) (g : mg x = some (.ref f)) (kp : PySem.W.keepIn K (.ref f) = true) (b : Binds K fd ps []) : Cal P w K mg base k x sp [] :=
  ⟨f, fd, ps, [], F, g, kp, b, .nil⟩
theorem met_of {P : Program} {w : World} {K : PySem.W.Frag} {mg : Str → Option Value} {base : Heap} {f C : Addr} {fd : FuncData} {ps : List Str} {k : Nat} {m : Str} {sp : Sp} (c : Cls K C) (h : Meth K C m f) (F : FnOk P w K mg base CX0 k f fd ps sp) (b : Binds K fd ps []) : Met P w K mg base k C m sp [] :=
  ⟨f, fd, ps, [], c, h, F, b, .nil⟩
theorem facts {P : Program} {w : World} {K : PySem.W.Frag} {h h0 : Heap} {mg : Str → Option Value} {f : Addr} (X : K.In h) (G : h.Ns mainGlobals mg) (hfa : mg ("law" : Str) = some (.ref f)) (c : He.SaysX fa fn [] [] xk w h0 K) :
    ∃ fd : FuncData, (∀ (s : Shared) (v : Value), BindsTo s fd ⟨[v], []⟩ [("_law_script", v)]) ∧ ∀ base : Heap, K.In base → base.Ns mainGlobals mg → GL.FnG P w K mg base 9 f fd ["_law_script"] (spLaw K) := by
  have d := c.t.d
  have x := c.more
  have gl : ∀ (i : Nat) (x : Str), fa[i]? = some (.glo x) → mg x = some (.ref (He.ga K x)) := fun i x e => He.glo_ok X G (d.fact i e)
  have fr : ∀ (i : Nat) (x : Str), fa[i]? = some (.free x) → mg x = none := fun i x e => He.free_ok X G (d.fact i e)
  have me : ∀ (i : Nat) (C m : Str), fa[i]? = some (.meth C m) → Meth K (He.ga K C) m (He.ma K (He.ga K C) m) := fun i C m e => He.meth_ok (d.fact i e)
  have gl_is_whole := gl 0 "is_whole" rfl
  have gl_common_part := gl 1 "common_part" rfl
  have gl__law_held := gl 2 "_law_held" rfl
  have gl__law_draw := gl 3 "_law_draw" rfl
  have gl__law_great := gl 4 "_law_great" rfl
  have gl__law_low := gl 5 "_law_low" rfl
  have gl__law_pair := gl 6 "_law_pair" rfl
  have gl__law_kinds := gl 7 "_law_kinds" rfl
  have gl__law_bases := gl 8 "_law_bases" rfl
  have gl__law_number := gl 9 "_law_number" rfl
  have gl__law_odd := gl 10 "_law_odd" rfl
  have gl__law_text := gl 11 "_law_text" rfl
  have gl__law_unlike := gl 12 "_law_unlike" rfl
  have gl__law_refused := gl 13 "_law_refused" rfl
  have gl__law_refusals_right := gl 14 "_law_refusals_right" rfl
  have gl_law := gl 15 "law" rfl
  have fr_isinstance := fr 16 "isinstance" rfl
  have fr_int := fr 17 "int" rfl
  have fr_bool := fr 18 "bool" rfl
  have fr_str := fr 19 "str" rfl
  have fr_abs := fr 20 "abs" rfl
  have fr_list := fr 21 "list" rfl
  have fr_range := fr 22 "range" rfl
  have fr_len := fr 23 "len" rfl
  have fr_zip := fr 24 "zip" rfl
  have fr_repr := fr 25 "repr" rfl
  have fr_TypeError := fr 26 "TypeError" rfl
  have fr_ZeroDivisionError := fr 27 "ZeroDivisionError" rfl
  have fr_ArithmeticError := fr 28 "ArithmeticError" rfl
  have fr_ValueError := fr 29 "ValueError" rfl
  have fr_KeyError := fr 30 "KeyError" rfl
  have fr_LookupError := fr 31 "LookupError" rfl
  have fr_IndexError := fr 32 "IndexError" rfl
  have fr_OverflowError := fr 33 "OverflowError" rfl
  have fr_RuntimeError := fr 34 "RuntimeError" rfl
  have fr_NotImplementedError := fr 35 "NotImplementedError" rfl
  have gl_Share := gl 36 "Share" rfl
  have cls_Share := He.cls_ok (d.fact 37 (f := .cls "Share") rfl)
  have mk_Share := He.mkr_ok (d.fact 38 (f := .mkr "Share") rfl)
  have gl_NoKind := gl 39 "NoKind" rfl
  have gl_Nought := gl 40 "Nought" rfl
  have gl_NoShare := gl 41 "NoShare" rfl
  have gl_Uneven := gl 42 "Uneven" rfl
  have gl_BadName := gl 43 "BadName" rfl
  have gl_NoNumber := gl 44 "NoNumber" rfl
  have gl_NoRide := gl 45 "NoRide" rfl
  have gl_NoText := gl 46 "NoText" rfl
  have gl_NoName := gl 47 "NoName" rfl
  have gl_NoDay := gl 48 "NoDay" rfl
  have gl_NoSeats := gl 49 "NoSeats" rfl
  have gl_TooMany := gl 50 "TooMany" rfl
  have gl_Taken := gl 51 "Taken" rfl
  have gl_NoRule := gl 52 "NoRule" rfl
  have gl_NothingDone := gl 53 "NothingDone" rfl
  have gl_NoRow := gl 54 "NoRow" rfl
  have no_Share_top := He.noat_ok (d.fact 55 (f := .noat "Share" "top") rfl)
  have no_Share_bottom := He.noat_ok (d.fact 56 (f := .noat "Share" "bottom") rfl)
  have no_NoKind_thing := He.noat_ok (d.fact 57 (f := .noat "NoKind" "thing") rfl)
  have no_Nought_top := He.noat_ok (d.fact 58 (f := .noat "Nought" "top") rfl)
  have me_Share_eq := me 59 "Share" "__eq__" rfl
  have me_Share_str := me 60 "Share" "__str__" rfl
  have me_Share_repr := me 61 "Share" "__repr__" rfl
  have me_NoKind_init := me 62 "NoKind" "__init__" rfl
  have me_Nought_init := me 63 "Nought" "__init__" rfl
  obtain ⟨fd_NoKind_init, D_NoKind_init⟩ := d.def_ 1 (d := d_NoKind_init) rfl
  obtain ⟨fd_Nought_init, D_Nought_init⟩ := d.def_ 2 (d := d_Nought_init) rfl
  obtain ⟨fd_is_whole, D_is_whole⟩ := d.def_ 17 (d := d_is_whole) rfl
  obtain ⟨fd_common_part, D_common_part⟩ := d.def_ 18 (d := d_common_part) rfl
  obtain ⟨fd_Share_init, D_Share_init⟩ := d.def_ 19 (d := d_Share_init) rfl
  obtain ⟨fd_Share_eq, D_Share_eq⟩ := d.def_ 20 (d := d_Share_eq) rfl
  obtain ⟨fd_Share_str, D_Share_str⟩ := d.def_ 21 (d := d_Share_str) rfl
  obtain ⟨fd_Share_repr, D_Share_repr⟩ := d.def_ 22 (d := d_Share_repr) rfl
  obtain ⟨fd_l_held, D_l_held⟩ := d.def_ 29 (d := d_l_held) rfl
  obtain ⟨fd_l_draw, D_l_draw⟩ := d.def_ 30 (d := d_l_draw) rfl
  obtain ⟨fd_l_great, D_l_great⟩ := d.def_ 31 (d := d_l_great) rfl
  obtain ⟨fd_l_low, D_l_low⟩ := d.def_ 32 (d := d_l_low) rfl
  obtain ⟨fd_l_pair, D_l_pair⟩ := d.def_ 33 (d := d_l_pair) rfl
  obtain ⟨fd_l_kinds, D_l_kinds⟩ := d.def_ 34 (d := d_l_kinds) rfl
  obtain ⟨fd_l_bases, D_l_bases⟩ := d.def_ 35 (d := d_l_bases) rfl
  obtain ⟨fd_l_number, D_l_number⟩ := d.def_ 36 (d := d_l_number) rfl
  obtain ⟨fd_l_odd, D_l_odd⟩ := d.def_ 37 (d := d_l_odd) rfl
  obtain ⟨fd_l_text, D_l_text⟩ := d.def_ 38 (d := d_l_text) rfl
  obtain ⟨fd_l_unlike, D_l_unlike⟩ := d.def_ 39 (d := d_l_unlike) rfl
  obtain ⟨fd_l_refused, D_l_refused⟩ := d.def_ 40 (d := d_l_refused) rfl
  obtain ⟨fd_l_refusals_right, D_l_refusals_right⟩ := d.def_ 41 (d := d_l_refusals_right) rfl
  obtain ⟨fd_law, D_law⟩ := d.def_ 42 (d := d_law) rfl
  have e := hfa.symm.trans gl_law
  cases e
  have bL := FunD.bindsA (ps := ["_law_script"]) D_law fun _ _ _ _ _ _ us hl => match us, hl with | [_], _ => rfl
  refine ⟨fd_law, fun s v => bL s [v] rfl, fun base _ _ => ?_⟩
  have b_NoKind_init : Binds K fd_NoKind_init ["self", "thing"] [] := D_NoKind_init.bindsN fun _ _ _ _ _ _ us hl => match us, hl with | [_, _], _ => rfl
  have b_Nought_init : Binds K fd_Nought_init ["self", "top"] [] := D_Nought_init.bindsN fun _ _ _ _ _ _ us hl => match us, hl with | [_, _], _ => rfl
  have b_is_whole : Binds K fd_is_whole ["thing"] [] := D_is_whole.bindsN fun _ _ _ _ _ _ us hl => match us, hl with | [_], _ => rfl
  have b_common_part : Binds K fd_common_part ["one", "other"] [] := D_common_part.bindsN fun _ _ _ _ _ _ us hl => match us, hl with | [_, _], _ => rfl
  have b_Share_init : Binds K fd_Share_init ["self", "top", "bottom"] [] := by
    obtain ⟨ds, h1, h2⟩ := D_Share_init.binds1 (ps := ["self", "top", "bottom"]) 3 1 (List.cons_ne_nil _ _) rfl (fun T kV doc pm an cdv ct us its hl h1 => match us, hl, its, h1 with | [_, _, _], _, [_], _ => ⟨_, rfl, rfl⟩)
    cases h1
    exact h2
  obtain ⟨ds1_Share_init, v1_Share_init, b1_Share_init⟩ := D_Share_init.binds1 (ps := ["self", "top", "bottom"]) 2 0 (List.cons_ne_nil _ _) rfl (fun T kV doc pm an cdv ct us its hl h1 => match us, hl, its, h1 with | [_, _], _, [_], _ => ⟨_, rfl, rfl⟩)
  have b_Share_eq : Binds K fd_Share_eq ["self", "other"] [] := D_Share_eq.bindsN fun _ _ _ _ _ _ us hl => match us, hl with | [_, _], _ => rfl
  have b_Share_str : Binds K fd_Share_str ["self"] [] := D_Share_str.bindsN fun _ _ _ _ _ _ us hl => match us, hl with | [_], _ => rfl
  have b_Share_repr : Binds K fd_Share_repr ["self"] [] := D_Share_repr.bindsN fun _ _ _ _ _ _ us hl => match us, hl with | [_], _ => rfl
  have b_l_held : Binds K fd_l_held ["_law_script"] [] := D_l_held.bindsN fun _ _ _ _ _ _ us hl => match us, hl with | [_], _ => rfl
  have b_l_draw : Binds K fd_l_draw ["_law_held_here", "_law_many"] [] := D_l_draw.bindsN fun _ _ _ _ _ _ us hl => match us, hl with | [_, _], _ => rfl
  have b_l_great : Binds K fd_l_great ["_law_held_here", "_law_many"] [] := D_l_great.bindsN fun _ _ _ _ _ _ us hl => match us, hl with | [_, _], _ => rfl
  have b_l_low : Binds K fd_l_low ["_law_above", "_law_beneath"] [] := D_l_low.bindsN fun _ _ _ _ _ _ us hl => match us, hl with | [_, _], _ => rfl
  have b_l_pair : Binds K fd_l_pair ["_law_share"] [] := D_l_pair.bindsN fun _ _ _ _ _ _ us hl => match us, hl with | [_], _ => rfl
  have b_l_kinds : Binds K fd_l_kinds ["_law_error"] [] := D_l_kinds.bindsN fun _ _ _ _ _ _ us hl => match us, hl with | [_], _ => rfl
  have b_l_bases : Binds K fd_l_bases ["_law_word"] [] := D_l_bases.bindsN fun _ _ _ _ _ _ us hl => match us, hl with | [_], _ => rfl
  have b_l_number : Binds K fd_l_number ["_law_held_here"] [] := D_l_number.bindsN fun _ _ _ _ _ _ us hl => match us, hl with | [_], _ => rfl
  have b_l_odd : Binds K fd_l_odd ["_law_held_here"] [] := D_l_odd.bindsN fun _ _ _ _ _ _ us hl => match us, hl with | [_], _ => rfl
  have b_l_text : Binds K fd_l_text ["_law_pair_here"] [] := D_l_text.bindsN fun _ _ _ _ _ _ us hl => match us, hl with | [_], _ => rfl
  have b_l_unlike : Binds K fd_l_unlike ["_law_held_here", "_law_share", "_law_pair_here"] [] := D_l_unlike.bindsN fun _ _ _ _ _ _ us hl => match us, hl with | [_, _, _], _ => rfl
  have b_l_refused : Binds K fd_l_refused ["_law_above", "_law_beneath"] [] := D_l_refused.bindsN fun _ _ _ _ _ _ us hl => match us, hl with | [_, _], _ => rfl
  have b_l_refusals_right : Binds K fd_l_refusals_right ["_law_held_here", "_law_number_here"] [] := D_l_refusals_right.bindsN fun _ _ _ _ _ _ us hl => match us, hl with | [_, _], _ => rfl
  have b_law : Binds K fd_law ["_law_script"] [] := D_law.bindsN fun _ _ _ _ _ _ us hl => match us, hl with | [_], _ => rfl
  obtain ⟨⟨IS, OC⟩, yK, yG, yGK⟩ := xk_ok x
  obtain ⟨kG, kV, kF, kE, kC, k16, k10⟩ := xkC_ok yK
  obtain ⟨gG, gV, gF, gE, gC, g16, g10⟩ := xkC_ok yG
  have B : Bl mg := ⟨fr_isinstance, fr_int, fr_bool, fr_abs, fr_list, fr_range, fr_len⟩
  have T : Cl K mg (He.ga K "Share") := ⟨cls_Share, no_Share_top, no_Share_bottom, gl_Share⟩
  have cW : CalW P w K mg base := cal_of (ok_whole D_is_whole B) gl_is_whole D_is_whole.kp b_is_whole
  have cW2 := cal_of (P := P) (w := w) (base := base) (ok_wh2 D_is_whole B) gl_is_whole D_is_whole.kp b_is_whole
  have cG : CalG P w K mg base := cal_of (ok_gcd D_common_part B) gl_common_part D_common_part.kp b_common_part
  have FI := ok_init D_Share_init cW cG T
  have MS : MakS P w K mg base (He.ga K "Share") := ⟨_, _, _, _, mk_Share, FI, T.g, b_Share_init, .nil⟩
  have M1 : Mak P w K mg base 2 "Share" (He.ga K "Share") (spInit (He.ga K "Share")) [.int 1] := ⟨_, _, _, _, mk_Share, FI, T.g, b1_Share_init, v1_Share_init⟩
  obtain ⟨_, ka⟩ := KW.kb1 (ps := psS) D_Share_init 1 ["bottom", "top"] (fun us its ws => us ++ ws.reverse) (List.cons_ne_nil _ _) (fun r _ s => r.append (KW.vals_rev s)) (fun T kV doc pm an cdv ct us its ws h1 h2 h3 => match us, h1, its, h2, ws, h3 with | [_], _, [_], _, [_, _], _ => ⟨_, rfl, rfl⟩)
  obtain ⟨_, kb⟩ := KW.kb1 (ps := psS) D_Share_init 2 ["bottom"] (fun us its ws => us ++ ws) (List.cons_ne_nil _ _) (fun r _ s => r.append s) (fun T kV doc pm an cdv ct us its ws h1 h2 h3 => match us, h1, its, h2, ws, h3 with | [_, _], _, [_], _, [_], _ => ⟨_, rfl, rfl⟩)
  obtain ⟨i1, kc⟩ := KW.kb1 (ps := psS) D_Share_init 1 ["top"] (fun us its ws => us ++ (ws ++ its)) (List.cons_ne_nil _ _) (fun r d s => r.append (s.append d)) (fun T kV doc pm an cdv ct us its ws h1 h2 h3 => match us, h1, its, h2, ws, h3 with | [_], _, [_], _, [_], _ => ⟨_, rfl, rfl⟩)
  have Se : OW.Spc P w K mg base 1 (He.ga K "Share") "__eq__" (spEq K (He.ga K "Share")) := ⟨_, _, _, me_Share_eq.at_, me_Share_eq.fn, ok_eq D_Share_eq B T IS, b_Share_eq⟩
  have Ss : OW.Spc P w K mg base 1 (He.ga K "Share") "__str__" (spTx (He.ga K "Share") txq) := ⟨_, _, _, me_Share_str.at_, me_Share_str.fn, ok_str D_Share_str T, b_Share_str⟩
  have Sr : OW.Spc P w K mg base 1 (He.ga K "Share") "__repr__" (spTx (He.ga K "Share") rpq) := ⟨_, _, _, me_Share_repr.at_, me_Share_repr.fn, ok_repr D_Share_repr T, b_Share_repr⟩
  have NK : Nk K mg (He.ga K "NoKind") (He.ma K (He.ga K "NoKind") "__init__") := ⟨kG, me_NoKind_init.1, eq_of_beq me_NoKind_init.2, kV, no_NoKind_thing, gl_NoKind, fr_TypeError, kF⟩
  have NG : Ng K mg (He.ga K "Nought") (He.ma K (He.ga K "Nought") "__init__") := ⟨gG, me_Nought_init.1, eq_of_beq me_Nought_init.2, gV, no_Nought_top, gl_Nought, fr_ZeroDivisionError, gF, gE⟩
  have g16' : ∀ x ∈ ex16, mg x = some (.ref (He.ga K x)) := fun x hx => by
    simp only [List.mem_cons, List.not_mem_nil, or_false] at hx
    rcases hx with rfl | rfl | rfl | rfl | rfl | rfl | rfl | rfl | rfl | rfl | rfl | rfl | rfl | rfl | rfl | rfl
    · exact gl_NoKind
    · exact gl_Nought
    · exact gl_NoShare
    · exact gl_Uneven
    · exact gl_BadName
    · exact gl_NoNumber
    · exact gl_NoRide
    · exact gl_NoText
    · exact gl_NoName
    · exact gl_NoDay
    · exact gl_NoSeats
    · exact gl_TooMany
    · exact gl_Taken
    · exact gl_NoRule
    · exact gl_NothingDone
    · exact gl_NoRow
  have g10' : ∀ x ∈ ex10, mg (Str.ofString x) = none := fun x hx => by
    simp only [List.mem_cons, List.not_mem_nil, or_false] at hx
    rcases hx with rfl | rfl | rfl | rfl | rfl | rfl | rfl | rfl | rfl | rfl
    · exact fr_TypeError
    · exact fr_ZeroDivisionError
    · exact fr_ArithmeticError
    · exact fr_ValueError
    · exact fr_KeyError
    · exact fr_LookupError
    · exact fr_IndexError
    · exact fr_OverflowError
    · exact fr_RuntimeError
    · exact fr_NotImplementedError
  have cKk := cal_of (P := P) (w := w) (base := base) (ok_ki D_l_kinds B fr_zip (ex_of g16' g10' kC k16 k10)) gl__law_kinds D_l_kinds.kp b_l_kinds
  have cKg := cal_of (P := P) (w := w) (base := base) (ok_ki D_l_kinds B fr_zip (ex_of g16' g10' gC g16 g10)) gl__law_kinds D_l_kinds.kp b_l_kinds
  have cBa := cal_of (P := P) (w := w) (base := base) (ok_ba D_l_bases B) gl__law_bases D_l_bases.kp b_l_bases
  have cH := cal_of (P := P) (w := w) (base := base) (ok_held D_l_held B) gl__law_held D_l_held.kp b_l_held
  have cD : CalD P w K mg base := cal_of (ok_draw D_l_draw B) gl__law_draw D_l_draw.kp b_l_draw
  have cGr : CalGr P w K mg base := cal_of (ok_great D_l_great cD) gl__law_great D_l_great.kp b_l_great
  have cLo : CalL P w K mg base := cal_of (ok_low D_l_low B) gl__law_low D_l_low.kp b_l_low
  have cP := cal_of (P := P) (w := w) (base := base) (ok_pair D_l_pair B T IS.is) gl__law_pair D_l_pair.kp b_l_pair
  have cN := cal_of (ok_number D_l_number cD cGr) gl__law_number D_l_number.kp b_l_number
  have cOd := cal_of (ok_od D_l_odd B cD) gl__law_odd D_l_odd.kp b_l_odd
  have cTx := cal_of (P := P) (w := w) (base := base) (ok_t D_l_text fr_str) gl__law_text D_l_text.kp b_l_text
  have cUn := cal_of (ok_un D_l_unlike B MS cTx cLo Se OC) gl__law_unlike D_l_unlike.kp b_l_unlike
  have FK := ok_initK (P := P) (w := w) (base := base) D_Share_init cW2 NK (ok_KI D_NoKind_init NK) b_NoKind_init (C := He.ga K "Share")
  have FX := ok_initX (P := P) (w := w) (base := base) D_Share_init cW NG (ok_NI D_Nought_init NG) b_Nought_init (C := He.ga K "Share")
  have FIX := ok_IX FK FX
  have cRf := cal_of (P := P) (w := w) (base := base) (ok_IX0 (ok_rfK D_l_refused NK NG kE yGK gl_Share mk_Share FIX b_Share_init cKk cBa fndK plcK abvK) (ok_rfX D_l_refused NK NG kE yGK gl_Share mk_Share FIX b_Share_init cKg cBa fndG plcG abvG)) gl__law_refused D_l_refused.kp b_l_refused
  have cRr : GL.CalG P w K mg base 8 "_law_refusals_right" spRr [] := ⟨_, _, _, _, ok_rr D_l_refusals_right B fr_repr cOd cRf, gl__law_refusals_right, D_l_refusals_right.kp, b_l_refusals_right, .nil⟩
  exact ok_law D_law B fr_str fr_repr gl_Share cH cD cGr cN cLo MS M1 mk_Share FI ka kb kc Se OC Ss Sr cP cTx cUn cRr
end K01
open PySem PySem.W PySem.Calls PyProof.Rows
set_option maxRecDepth 100000 in
set_option maxHeartbeats 0 in
theorem PySem.Challenge.cw_rideturns_k01_shares_made_holds : PySem.Challenge.rw_rideturns_k01_shares_made.Holds := by
  w_on; o_law
  refine HandSHeadRun.head_any (r := OpenLaw.row PySem.Challenge.rw_rideturns_k01_shares_made) (q := view (OpenLaw.row PySem.Challenge.rw_rideturns_k01_shares_made).prog [37]) (H := K01.hk) (ob := K01.ob) (M := 8000) (loose := K01.loose) (d := HandSHeadRun.topDef (OpenLaw.row PySem.Challenge.rw_rideturns_k01_shares_made).prog 37) (kwd := []) K01.ob_eq
    (by kernel_rfl) (fun s => by kernel_rfl) K01.run_ (by kernel_rfl) (by kernel_rfl) (by kernel_rfl) (by rfl) (by first | assumption | decide +kernel) (by decide +kernel) ⟨rfl, rfl, rfl, rfl, rfl, by decide +kernel⟩ ?hw ?hc
  case hw => w_witness2
  case hc =>
    refine GL.walkG (l := PySem.Challenge.rw_rideturns_k01_shares_made) (n := 63) (k := 9) (x := "_law_script") rfl (by decide) (by kernel_rfl) ⟨rfl, by decide, by decide⟩ ?F
    intro w mg fa h Y G hmg0
    obtain ⟨K, KX, c⟩ := Y
    have hmg : mg ("law" : PySem.Str) = some (.ref fa) := by
      have e : (HandSHeadRun.topDef (OpenLaw.row PySem.Challenge.rw_rideturns_k01_shares_made).prog 37).name = ("law" : PySem.Str) := by kernel_rfl
      rw [← e]
      exact hmg0
    obtain ⟨fd, hb, hF⟩ := K01.facts (P := (PySem.Challenge.rw_rideturns_k01_shares_made).prog) (w := w) KX G hmg c
    exact ⟨K, fd, K01.spLaw K, KX, hb, fun H a ns hl hS => ⟨a, ns, rfl, hS, hl, fun _ => rfl⟩, hF⟩
