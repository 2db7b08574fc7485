import PyProof.Rows.All
import Wide.All
import OpenK.AllK
import Wide.FinOn
import HandS.ForMost
import HandS.ForExc
import HandS.Defaults
import HandS.Codes
import HandS.IsInst
import HandS.Wide
import HandS.Flow
import HandS.Evl
import HandS.Steps
import HandS.ExcField
import HandS.Head0
import HandS.Head1
import HandS.Head2
import HandS.HeadEnd
import HandS.HeadHook1
import HandS.HeadHook2
import HandS.HeadHook3
import HandS.HeadHook4
import KE.KExcInit
import HandS.ExcInit
import KE.IntTextLaws
import PyProof.StrLawsAffix
import KE.KCallOwn
import PyProof.Rows.StrFirst
import PyProof.Rows.StrCut
import KE.IntTextText
import HandS.FStr
import KE.KEqSeq
import KE.KIsAll
import KE.KTryMore
import HandS.ExcIs
import HandS.ExcValue
import HandS.Dict
import HandS.List
import HandS.Call
import PyProof.DictUpdate
import HandS.Walk
import HandS.Zip
import HandS.Text
import HandS.AnyAll
import HandS.Comp
import HandS.StrMore
import PyProof.ExcBaseAll.ArithmeticError
import PyProof.EqKinds
import PyProof.NeKinds
import PyProof.FactsAll.dict_1
import HandS.ListEq
import HandS.Deep
import KE.KEqNest
import HandS.Replace
import HandS.ReplaceLit
import HandS.ReplaceList
import PyProof.ReprRoads
import PyProof.ReprDict
import HandS.Iter
import HandS.OwnEq
import PyProof.StrLawsRepr
import HandS.Conv
import HandS.Words
import HandS.MakeKw
import HandS.MakeKwOnly
import PySem.Challenge.RW_rideturns_k04_texts_of_shares
set_option Elab.async false
set_option linter.all false
set_option maxRecDepth 100000
set_option maxHeartbeats 4000000
namespace K04
open PySem PySem.Spec PyProof.Rows L2
def top (i : Nat) : Stmt := PySem.Challenge.pw_rideturns_k04_texts_of_shares.main.body.getD i (.Pass ⟨0, 0, 0, 0⟩)
abbrev s__wall : Stmt := top 0
abbrev N__wall : List Str := ["k"]
theorem sc__wall : FnScope N__wall ["k"] (defScope s__wall) := ⟨rfl, rfl, rfl, by decide +kernel, rfl, by decide +kernel, by decide +kernel⟩
def d__wall : He.DefD := ⟨("_wall", none), "_wall", "_wall", defArgs s__wall, defBody s__wall, defScope s__wall, [], []⟩
abbrev s_NoKind_init : Stmt := inClass (top 2) 0
abbrev N_NoKind_init : List Str := ["self", "thing"]
theorem sc_NoKind_init : FnScope N_NoKind_init ["self", "thing"] (defScope s_NoKind_init) := ⟨rfl, rfl, rfl, by decide +kernel, rfl, by decide +kernel, by decide +kernel⟩
def d_NoKind_init : He.DefD := ⟨("NoKind", some "__init__"), "__init__", "NoKind.__init__", defArgs s_NoKind_init, defBody s_NoKind_init, defScope s_NoKind_init, [], []⟩
abbrev s_Nought_init : Stmt := inClass (top 3) 0
abbrev N_Nought_init : List Str := ["self", "top"]
theorem sc_Nought_init : FnScope N_Nought_init ["self", "top"] (defScope s_Nought_init) := ⟨rfl, rfl, rfl, by decide +kernel, rfl, by decide +kernel, by decide +kernel⟩
def d_Nought_init : He.DefD := ⟨("Nought", some "__init__"), "__init__", "Nought.__init__", defArgs s_Nought_init, defBody s_Nought_init, defScope s_Nought_init, [], []⟩
abbrev s_NoShare_init : Stmt := inClass (top 4) 0
abbrev N_NoShare_init : List Str := ["self", "text"]
theorem sc_NoShare_init : FnScope N_NoShare_init ["self", "text"] (defScope s_NoShare_init) := ⟨rfl, rfl, rfl, by decide +kernel, rfl, by decide +kernel, by decide +kernel⟩
def d_NoShare_init : He.DefD := ⟨("NoShare", some "__init__"), "__init__", "NoShare.__init__", defArgs s_NoShare_init, defBody s_NoShare_init, defScope s_NoShare_init, [], []⟩
abbrev s_Uneven_init : Stmt := inClass (top 5) 0
abbrev N_Uneven_init : List Str := ["self", "rest"]
theorem sc_Uneven_init : FnScope N_Uneven_init ["self", "rest"] (defScope s_Uneven_init) := ⟨rfl, rfl, rfl, by decide +kernel, rfl, by decide +kernel, by decide +kernel⟩
def d_Uneven_init : He.DefD := ⟨("Uneven", some "__init__"), "__init__", "Uneven.__init__", defArgs s_Uneven_init, defBody s_Uneven_init, defScope s_Uneven_init, [], []⟩
abbrev s_BadName_init : Stmt := inClass (top 6) 0
abbrev N_BadName_init : List Str := ["self", "name"]
theorem sc_BadName_init : FnScope N_BadName_init ["self", "name"] (defScope s_BadName_init) := ⟨rfl, rfl, rfl, by decide +kernel, rfl, by decide +kernel, by decide +kernel⟩
def d_BadName_init : He.DefD := ⟨("BadName", some "__init__"), "__init__", "BadName.__init__", defArgs s_BadName_init, defBody s_BadName_init, defScope s_BadName_init, [], []⟩
abbrev s_NoNumber_init : Stmt := inClass (top 7) 0
abbrev N_NoNumber_init : List Str := ["self", "thing"]
theorem sc_NoNumber_init : FnScope N_NoNumber_init ["self", "thing"] (defScope s_NoNumber_init) := ⟨rfl, rfl, rfl, by decide +kernel, rfl, by decide +kernel, by decide +kernel⟩
def d_NoNumber_init : He.DefD := ⟨("NoNumber", some "__init__"), "__init__", "NoNumber.__init__", defArgs s_NoNumber_init, defBody s_NoNumber_init, defScope s_NoNumber_init, [], []⟩
abbrev s_NoRide_init : Stmt := inClass (top 8) 0
abbrev N_NoRide_init : List Str := ["self", "reason"]
theorem sc_NoRide_init : FnScope N_NoRide_init ["self", "reason"] (defScope s_NoRide_init) := ⟨rfl, rfl, rfl, by decide +kernel, rfl, by decide +kernel, by decide +kernel⟩
def d_NoRide_init : He.DefD := ⟨("NoRide", some "__init__"), "__init__", "NoRide.__init__", defArgs s_NoRide_init, defBody s_NoRide_init, defScope s_NoRide_init, [], []⟩
abbrev s_NoText_init : Stmt := inClass (top 9) 0
abbrev N_NoText_init : List Str := ["self", "row"]
theorem sc_NoText_init : FnScope N_NoText_init ["self", "row"] (defScope s_NoText_init) := ⟨rfl, rfl, rfl, by decide +kernel, rfl, by decide +kernel, by decide +kernel⟩
def d_NoText_init : He.DefD := ⟨("NoText", some "__init__"), "__init__", "NoText.__init__", defArgs s_NoText_init, defBody s_NoText_init, defScope s_NoText_init, [], []⟩
abbrev s_NoName_init : Stmt := inClass (top 10) 0
abbrev N_NoName_init : List Str := ["self", "name"]
theorem sc_NoName_init : FnScope N_NoName_init ["self", "name"] (defScope s_NoName_init) := ⟨rfl, rfl, rfl, by decide +kernel, rfl, by decide +kernel, by decide +kernel⟩
def d_NoName_init : He.DefD := ⟨("NoName", some "__init__"), "__init__", "NoName.__init__", defArgs s_NoName_init, defBody s_NoName_init, defScope s_NoName_init, [], []⟩
abbrev s_NoDay_init : Stmt := inClass (top 11) 0
abbrev N_NoDay_init : List Str := ["self", "day"]
theorem sc_NoDay_init : FnScope N_NoDay_init ["self", "day"] (defScope s_NoDay_init) := ⟨rfl, rfl, rfl, by decide +kernel, rfl, by decide +kernel, by decide +kernel⟩
def d_NoDay_init : He.DefD := ⟨("NoDay", some "__init__"), "__init__", "NoDay.__init__", defArgs s_NoDay_init, defBody s_NoDay_init, defScope s_NoDay_init, [], []⟩
abbrev s_NoSeats_init : Stmt := inClass (top 12) 0
abbrev N_NoSeats_init : List Str := ["self", "lack"]
theorem sc_NoSeats_init : FnScope N_NoSeats_init ["self", "lack"] (defScope s_NoSeats_init) := ⟨rfl, rfl, rfl, by decide +kernel, rfl, by decide +kernel, by decide +kernel⟩
def d_NoSeats_init : He.DefD := ⟨("NoSeats", some "__init__"), "__init__", "NoSeats.__init__", defArgs s_NoSeats_init, defBody s_NoSeats_init, defScope s_NoSeats_init, [], []⟩
abbrev s_TooMany_init : Stmt := inClass (top 13) 0
abbrev N_TooMany_init : List Str := ["self", "most"]
theorem sc_TooMany_init : FnScope N_TooMany_init ["self", "most"] (defScope s_TooMany_init) := ⟨rfl, rfl, rfl, by decide +kernel, rfl, by decide +kernel, by decide +kernel⟩
def d_TooMany_init : He.DefD := ⟨("TooMany", some "__init__"), "__init__", "TooMany.__init__", defArgs s_TooMany_init, defBody s_TooMany_init, defScope s_TooMany_init, [], []⟩
abbrev s_Taken_init : Stmt := inClass (top 14) 0
abbrev N_Taken_init : List Str := ["self", "name"]
theorem sc_Taken_init : FnScope N_Taken_init ["self", "name"] (defScope s_Taken_init) := ⟨rfl, rfl, rfl, by decide +kernel, rfl, by decide +kernel, by decide +kernel⟩
def d_Taken_init : He.DefD := ⟨("Taken", some "__init__"), "__init__", "Taken.__init__", defArgs s_Taken_init, defBody s_Taken_init, defScope s_Taken_init, [], []⟩
abbrev s_NoRule_init : Stmt := inClass (top 15) 0
abbrev N_NoRule_init : List Str := ["self", "thing"]
theorem sc_NoRule_init : FnScope N_NoRule_init ["self", "thing"] (defScope s_NoRule_init) := ⟨rfl, rfl, rfl, by decide +kernel, rfl, by decide +kernel, by decide +kernel⟩
def d_NoRule_init : He.DefD := ⟨("NoRule", some "__init__"), "__init__", "NoRule.__init__", defArgs s_NoRule_init, defBody s_NoRule_init, defScope s_NoRule_init, [], []⟩
abbrev s_NothingDone_init : Stmt := inClass (top 16) 0
abbrev N_NothingDone_init : List Str := ["self", "text"]
theorem sc_NothingDone_init : FnScope N_NothingDone_init ["self", "text"] (defScope s_NothingDone_init) := ⟨rfl, rfl, rfl, by decide +kernel, rfl, by decide +kernel, by decide +kernel⟩
def d_NothingDone_init : He.DefD := ⟨("NothingDone", some "__init__"), "__init__", "NothingDone.__init__", defArgs s_NothingDone_init, defBody s_NothingDone_init, defScope s_NothingDone_init, [], []⟩
abbrev s_NoRow_init : Stmt := inClass (top 17) 0
abbrev N_NoRow_init : List Str := ["self", "text"]
theorem sc_NoRow_init : FnScope N_NoRow_init ["self", "text"] (defScope s_NoRow_init) := ⟨rfl, rfl, rfl, by decide +kernel, rfl, by decide +kernel, by decide +kernel⟩
def d_NoRow_init : He.DefD := ⟨("NoRow", some "__init__"), "__init__", "NoRow.__init__", defArgs s_NoRow_init, defBody s_NoRow_init, defScope s_NoRow_init, [], []⟩
abbrev s_is_whole : Stmt := top 19
abbrev N_is_whole : List Str := ["thing"]
theorem sc_is_whole : FnScope N_is_whole ["thing"] (defScope s_is_whole) := ⟨rfl, rfl, rfl, by decide +kernel, rfl, by decide +kernel, by decide +kernel⟩
def d_is_whole : He.DefD := ⟨("is_whole", none), "is_whole", "is_whole", defArgs s_is_whole, defBody s_is_whole, defScope s_is_whole, [], []⟩
abbrev s_common_part : Stmt := top 22
abbrev N_common_part : List Str := ["one", "other"]
theorem sc_common_part : FnScope N_common_part ["one", "other"] (defScope s_common_part) := ⟨rfl, rfl, rfl, by decide +kernel, rfl, by decide +kernel, by decide +kernel⟩
def d_common_part : He.DefD := ⟨("common_part", none), "common_part", "common_part", defArgs s_common_part, defBody s_common_part, defScope s_common_part, [], []⟩
abbrev s_Share_init : Stmt := inClass (top 23) 0
abbrev N_Share_init : List Str := ["self", "top", "bottom", "thing", "common"]
theorem sc_Share_init : FnScope N_Share_init ["self", "top", "bottom"] (defScope s_Share_init) := ⟨rfl, rfl, rfl, by decide +kernel, rfl, by decide +kernel, by decide +kernel⟩
def d_Share_init : He.DefD := ⟨("Share", some "__init__"), "__init__", "Share.__init__", defArgs s_Share_init, defBody s_Share_init, defScope s_Share_init, [.int 1], []⟩
abbrev s_Share_eq : Stmt := inClass (top 23) 1
abbrev N_Share_eq : List Str := ["self", "other"]
theorem sc_Share_eq : FnScope N_Share_eq ["self", "other"] (defScope s_Share_eq) := ⟨rfl, rfl, rfl, by decide +kernel, rfl, by decide +kernel, by decide +kernel⟩
def d_Share_eq : He.DefD := ⟨("Share", some "__eq__"), "__eq__", "Share.__eq__", defArgs s_Share_eq, defBody s_Share_eq, defScope s_Share_eq, [], []⟩
abbrev s_Share_str : Stmt := inClass (top 23) 2
abbrev N_Share_str : List Str := ["self"]
theorem sc_Share_str : FnScope N_Share_str ["self"] (defScope s_Share_str) := ⟨rfl, rfl, rfl, by decide +kernel, rfl, by decide +kernel, by decide +kernel⟩
def d_Share_str : He.DefD := ⟨("Share", some "__str__"), "__str__", "Share.__str__", defArgs s_Share_str, defBody s_Share_str, defScope s_Share_str, [], []⟩
abbrev s_Share_repr : Stmt := inClass (top 23) 3
abbrev N_Share_repr : List Str := ["self"]
theorem sc_Share_repr : FnScope N_Share_repr ["self"] (defScope s_Share_repr) := ⟨rfl, rfl, rfl, by decide +kernel, rfl, by decide +kernel, by decide +kernel⟩
def d_Share_repr : He.DefD := ⟨("Share", some "__repr__"), "__repr__", "Share.__repr__", defArgs s_Share_repr, defBody s_Share_repr, defScope s_Share_repr, [], []⟩
abbrev s_Share_plus : Stmt := inClass (top 23) 4
abbrev N_Share_plus : List Str := ["self", "other"]
theorem sc_Share_plus : FnScope N_Share_plus ["self", "other"] (defScope s_Share_plus) := ⟨rfl, rfl, rfl, by decide +kernel, rfl, by decide +kernel, by decide +kernel⟩
def d_Share_plus : He.DefD := ⟨("Share", some "plus"), "plus", "Share.plus", defArgs s_Share_plus, defBody s_Share_plus, defScope s_Share_plus, [], []⟩
abbrev s_Share_less : Stmt := inClass (top 23) 5
abbrev N_Share_less : List Str := ["self", "other"]
theorem sc_Share_less : FnScope N_Share_less ["self", "other"] (defScope s_Share_less) := ⟨rfl, rfl, rfl, by decide +kernel, rfl, by decide +kernel, by decide +kernel⟩
def d_Share_less : He.DefD := ⟨("Share", some "less"), "less", "Share.less", defArgs s_Share_less, defBody s_Share_less, defScope s_Share_less, [], []⟩
abbrev s_Share_times : Stmt := inClass (top 23) 6
abbrev N_Share_times : List Str := ["self", "many"]
theorem sc_Share_times : FnScope N_Share_times ["self", "many"] (defScope s_Share_times) := ⟨rfl, rfl, rfl, by decide +kernel, rfl, by decide +kernel, by decide +kernel⟩
def d_Share_times : He.DefD := ⟨("Share", some "times"), "times", "Share.times", defArgs s_Share_times, defBody s_Share_times, defScope s_Share_times, [], []⟩
abbrev s_Share_over : Stmt := inClass (top 23) 7
abbrev N_Share_over : List Str := ["self", "many"]
theorem sc_Share_over : FnScope N_Share_over ["self", "many"] (defScope s_Share_over) := ⟨rfl, rfl, rfl, by decide +kernel, rfl, by decide +kernel, by decide +kernel⟩
def d_Share_over : He.DefD := ⟨("Share", some "over"), "over", "Share.over", defArgs s_Share_over, defBody s_Share_over, defScope s_Share_over, [], []⟩
abbrev s_Share_below : Stmt := inClass (top 23) 8
abbrev N_Share_below : List Str := ["self", "other"]
theorem sc_Share_below : FnScope N_Share_below ["self", "other"] (defScope s_Share_below) := ⟨rfl, rfl, rfl, by decide +kernel, rfl, by decide +kernel, by decide +kernel⟩
def d_Share_below : He.DefD := ⟨("Share", some "below"), "below", "Share.below", defArgs s_Share_below, defBody s_Share_below, defScope s_Share_below, [], []⟩
abbrev s_Share_whole : Stmt := inClass (top 23) 9
abbrev N_Share_whole : List Str := ["self"]
theorem sc_Share_whole : FnScope N_Share_whole ["self"] (defScope s_Share_whole) := ⟨rfl, rfl, rfl, by decide +kernel, rfl, by decide +kernel, by decide +kernel⟩
def d_Share_whole : He.DefD := ⟨("Share", some "whole"), "whole", "Share.whole", defArgs s_Share_whole, defBody s_Share_whole, defScope s_Share_whole, [], []⟩
abbrev s_is_number_text : Stmt := top 24
abbrev N_is_number_text : List Str := ["text", "sign"]
theorem sc_is_number_text : FnScope N_is_number_text ["text"] (defScope s_is_number_text) := ⟨rfl, rfl, rfl, by decide +kernel, rfl, by decide +kernel, by decide +kernel⟩
def d_is_number_text : He.DefD := ⟨("is_number_text", none), "is_number_text", "is_number_text", defArgs s_is_number_text, defBody s_is_number_text, defScope s_is_number_text, [], []⟩
abbrev s_share_of : Stmt := top 25
abbrev N_share_of : List Str := ["text", "top", "stroke", "bottom", "share"]
theorem sc_share_of : FnScope N_share_of ["text"] (defScope s_share_of) := ⟨rfl, rfl, rfl, by decide +kernel, rfl, by decide +kernel, by decide +kernel⟩
def d_share_of : He.DefD := ⟨("share_of", none), "share_of", "share_of", defArgs s_share_of, defBody s_share_of, defScope s_share_of, [], []⟩
abbrev s_l_held : Stmt := top 27
abbrev N_l_held : List Str := ["_law_script"]
theorem sc_l_held : FnScope N_l_held ["_law_script"] (defScope s_l_held) := ⟨rfl, rfl, rfl, by decide +kernel, rfl, by decide +kernel, by decide +kernel⟩
def d_l_held : He.DefD := ⟨("_law_held", none), "_law_held", "_law_held", defArgs s_l_held, defBody s_l_held, defScope s_l_held, [], []⟩
abbrev s_l_draw : Stmt := top 28
abbrev N_l_draw : List Str := ["_law_held_here", "_law_many", "_law_found", "_law_at", "_law_cell", "_law_number_here"]
theorem sc_l_draw : FnScope N_l_draw ["_law_held_here", "_law_many"] (defScope s_l_draw) := ⟨rfl, rfl, rfl, by decide +kernel, rfl, by decide +kernel, by decide +kernel⟩
def d_l_draw : He.DefD := ⟨("_law_draw", none), "_law_draw", "_law_draw", defArgs s_l_draw, defBody s_l_draw, defScope s_l_draw, [], []⟩
abbrev s_l_great : Stmt := top 29
abbrev N_l_great : List Str := ["_law_held_here", "_law_many", "_law_number_here", "_law_width"]
theorem sc_l_great : FnScope N_l_great ["_law_held_here", "_law_many"] (defScope s_l_great) := ⟨rfl, rfl, rfl, by decide +kernel, rfl, by decide +kernel, by decide +kernel⟩
def d_l_great : He.DefD := ⟨("_law_great", none), "_law_great", "_law_great", defArgs s_l_great, defBody s_l_great, defScope s_l_great, [], []⟩
abbrev s_l_low : Stmt := top 30
abbrev N_l_low : List Str := ["_law_top", "_law_bottom", "_law_one", "_law_other"]
theorem sc_l_low : FnScope N_l_low ["_law_top", "_law_bottom"] (defScope s_l_low) := ⟨rfl, rfl, rfl, by decide +kernel, rfl, by decide +kernel, by decide +kernel⟩
def d_l_low : He.DefD := ⟨("_law_low", none), "_law_low", "_law_low", defArgs s_l_low, defBody s_l_low, defScope s_l_low, [], []⟩
abbrev s_l_pair : Stmt := top 31
abbrev N_l_pair : List Str := ["_law_share", "_law_part"]
theorem sc_l_pair : FnScope N_l_pair ["_law_share"] (defScope s_l_pair) := ⟨rfl, rfl, rfl, by decide +kernel, rfl, by decide +kernel, by decide +kernel⟩
def d_l_pair : He.DefD := ⟨("_law_pair", none), "_law_pair", "_law_pair", defArgs s_l_pair, defBody s_l_pair, defScope s_l_pair, [], []⟩
abbrev s_l_kinds : Stmt := top 32
abbrev N_l_kinds : List Str := ["_law_error", "_law_own", "_law_words", "_law_found", "_law_bases_here", "_law_word", "_law_so"]
theorem sc_l_kinds : FnScope N_l_kinds ["_law_error"] (defScope s_l_kinds) := ⟨rfl, rfl, rfl, by decide +kernel, rfl, by decide +kernel, by decide +kernel⟩
def d_l_kinds : He.DefD := ⟨("_law_kinds", none), "_law_kinds", "_law_kinds", defArgs s_l_kinds, defBody s_l_kinds, defScope s_l_kinds, [], []⟩
abbrev s_l_bases : Stmt := top 33
abbrev N_l_bases : List Str := ["_law_word", "_law_places", "_law_k"]
theorem sc_l_bases : FnScope N_l_bases ["_law_word"] (defScope s_l_bases) := ⟨rfl, rfl, rfl, by decide +kernel, rfl, by decide +kernel, by decide +kernel⟩
def d_l_bases : He.DefD := ⟨("_law_bases", none), "_law_bases", "_law_bases", defArgs s_l_bases, defBody s_l_bases, defScope s_l_bases, [], []⟩
abbrev s_l_number : Stmt := top 34
abbrev N_l_number : List Str := ["_law_held_here", "_law_number_here"]
theorem sc_l_number : FnScope N_l_number ["_law_held_here"] (defScope s_l_number) := ⟨rfl, rfl, rfl, by decide +kernel, rfl, by decide +kernel, by decide +kernel⟩
def d_l_number : He.DefD := ⟨("_law_number", none), "_law_number", "_law_number", defArgs s_l_number, defBody s_l_number, defScope s_l_number, [], []⟩
abbrev s_l_whole : Stmt := top 35
abbrev N_l_whole : List Str := ["_law_text", "_law_figures"]
theorem sc_l_whole : FnScope N_l_whole ["_law_text"] (defScope s_l_whole) := ⟨rfl, rfl, rfl, by decide +kernel, rfl, by decide +kernel, by decide +kernel⟩
def d_l_whole : He.DefD := ⟨("_law_whole", none), "_law_whole", "_law_whole", defArgs s_l_whole, defBody s_l_whole, defScope s_l_whole, [], []⟩
abbrev s_l_read : Stmt := top 36
abbrev N_l_read : List Str := ["_law_thing", "_law_at", "_law_top", "_law_bottom"]
theorem sc_l_read : FnScope N_l_read ["_law_thing"] (defScope s_l_read) := ⟨rfl, rfl, rfl, by decide +kernel, rfl, by decide +kernel, by decide +kernel⟩
def d_l_read : He.DefD := ⟨("_law_read", none), "_law_read", "_law_read", defArgs s_l_read, defBody s_l_read, defScope s_l_read, [], []⟩
abbrev s_l_bent : Stmt := top 37
abbrev N_l_bent : List Str := ["_law_held_here", "_law_text", "_law_signs", "_law_at", "_law_sign", "_law_some"]
theorem sc_l_bent : FnScope N_l_bent ["_law_held_here", "_law_text"] (defScope s_l_bent) := ⟨rfl, rfl, rfl, by decide +kernel, rfl, by decide +kernel, by decide +kernel⟩
def d_l_bent : He.DefD := ⟨("_law_bent", none), "_law_bent", "_law_bent", defArgs s_l_bent, defBody s_l_bent, defScope s_l_bent, [], []⟩
abbrev s_l_told : Stmt := top 38
abbrev N_l_told : List Str := ["_law_thing", "_law_caught", "_law_share", "e", "_law_found", "_law_bases_here"]
theorem sc_l_told : FnScope N_l_told ["_law_thing"] (defScope s_l_told) := ⟨rfl, rfl, rfl, by decide +kernel, rfl, by decide +kernel, by decide +kernel⟩
def d_l_told : He.DefD := ⟨("_law_told", none), "_law_told", "_law_told", defArgs s_l_told, defBody s_l_told, defScope s_l_told, [], []⟩
abbrev s_l_is_long : Stmt := top 39
abbrev N_l_is_long : List Str := ["_law_thing", "_law_many", "_law_most", "_law_said", "_law_sign"]
theorem sc_l_is_long : FnScope N_l_is_long ["_law_thing"] (defScope s_l_is_long) := ⟨rfl, rfl, rfl, by decide +kernel, rfl, by decide +kernel, by decide +kernel⟩
def d_l_is_long : He.DefD := ⟨("_law_is_long", none), "_law_is_long", "_law_is_long", defArgs s_l_is_long, defBody s_l_is_long, defScope s_l_is_long, [], []⟩
abbrev s_law : Stmt := top 40
abbrev N_law : List Str := ["_law_script", "_law_held_here", "_law_turn", "_law_pair_here", "_law_text", "_law_things", "_law_part", "_law_thing", "_law_due"]
theorem sc_law : FnScope N_law ["_law_script"] (defScope s_law) := ⟨rfl, rfl, rfl, by decide +kernel, rfl, by decide +kernel, by decide +kernel⟩
def d_law : He.DefD := ⟨("law", none), "law", "law", defArgs s_law, defBody s_law, defScope s_law, [], []⟩
def fn : List He.DefD := [d__wall, d_NoKind_init, d_Nought_init, d_NoShare_init, d_Uneven_init, d_BadName_init, d_NoNumber_init, d_NoRide_init, d_NoText_init, d_NoName_init, d_NoDay_init, d_NoSeats_init, d_TooMany_init, d_Taken_init, d_NoRule_init, d_NothingDone_init, d_NoRow_init, d_is_whole, d_common_part, d_Share_init, d_Share_eq, d_Share_str, d_Share_repr, d_Share_plus, d_Share_less, d_Share_times, d_Share_over, d_Share_below, d_Share_whole, d_is_number_text, d_share_of, d_l_held, d_l_draw, d_l_great, d_l_low, d_l_pair, d_l_kinds, d_l_bases, d_l_number, d_l_whole, d_l_read, d_l_bent, d_l_told, d_l_is_long, d_law]
end K04
set_option Elab.async false
set_option linter.all false
set_option maxRecDepth 100000
set_option maxHeartbeats 4000000
/-! GX: own exceptions over any built-in base, whose own __init__ calls the base's and stores a field. -/
namespace GX
open PySem PySem.Spec PyProof.Rows L2

/-- what the written part tells of the class -/
structure Gx (K : PySem.W.Frag) (C : Addr) (bmB : List Value) (nid : String) : Prop where
  over : PySem.W.excOver K C bmB = true
  made : PySem.W.excInitIn K C bmB nid = true
  hasd : ∃ cd, PySem.W.clsIn K C = some cd ∧ cd.hasDict = true
  sets : PySem.W.findIn K (.ref C) "__setattr__" = some (some (.builtin "object.__setattr__"))
  base : PySem.W.subIn K (.ref C) (.type "BaseException") = some true
  typ : PySem.W.typeIn K (.ref C) = some (.type "type")
  keep : PySem.W.keepIn K (.ref C) = true

section
open Builtin Builtin.ObjectAttr
variable {prog : Program} {w : World} {A : Around} {R : Result → Shared → Prop} {hp : Heap} {g : Array GenState} {d : Drawn} {t : Nat} {os : OsState} {B : String} {bmB : List Value}
theorem first_store {K : PySem.W.Frag} {name : Str} {tk : Tok} {v : Value} {x C : Addr} {fv : Array Value} {cd : ClassData} (SF : StoreFacts B bmB "object.__setattr__" "object")
    (X : K.In hp) (hx : hp.get? x = some { cls := .ref C, data := .fields fv }) (ho : PySem.W.excOver K C bmB = true) (hc : PySem.W.clsIn K C = some cd) (hd : cd.hasDict = true)
    (hf : PySem.W.findIn K (.ref C) name = some none)
    (post : ∀ h' tk' dx, (∀ b o, b ≠ x → hp.get? b = some o → h'.get? b = some o) → hp.objs.size ≤ dx → dx ≠ x →
      h'.get? x = some { cls := .ref C, dict := some dx, data := .fields fv } → h'.Ns1 dx (fun y => if y = name then some v else none) → R (.ok (.ret .none)) ⟨h', g, d, tk', os⟩) :
    codeAny (model prog w) A (.call (.builtin "object.__setattr__") ⟨[.ref x, .str name tk, v], []⟩) R ⟨hp, g, d, t, os⟩ := by
  have inst : PySem.W.InstAt hp x { cls := .ref C, data := .fields fv } C none := ⟨hx, rfl, rfl, trivial⟩
  have far : x ≠ hp.objs.size := Nat.ne_of_lt (Heap.lt_size hx)
  have lc : PySem.W.Looks (model prog w) hp (classData C) cd := PySem.W.looks_clsIn X hc
  refine PySem.W.osa_openX (r := none) SF X inst ho (by unfold PySem.W.takerIn; rw [hf]; rfl) fun b => ?_
  dsimp only
  obtain ⟨n1, n2, n3, n4, n5, n6, n7, n8, n9, n10, n11⟩ := cd
  dsimp only at hd
  subst hd
  unfold storeInOwnDict ownDictForStores
  repeat (first | with_reducible refine PySem.HandSPX.store_in_new ?_ ?_ | with_reducible refine wpAny_loadPart_at hx ?_ | with_reducible refine lc.at ?_ | wp_step)
  · exact ⟨_, #[], _, (Heap.get?_update_ne _ _ _ _ far.symm).trans (Heap.get?_push_at rfl rfl), rfl, fun e he => absurd he (by simp), fun _ => rfl⟩
  · intro h' tk' hn hs
    have hx1 : (hp.push { cls := .type "dict", data := .dict #[] }).get? x = some { cls := .ref C, data := .fields fv } := Heap.get?_push_of_some _ hx
    refine post h' tk' hp.objs.size (fun b o hb hob => ?_) (Nat.le_refl _) far.symm ?_ hn
    · have e1 := hs.2 b (Nat.ne_of_lt (Heap.lt_size hob))
      rw [e1, Heap.get?_update_ne _ _ _ _ hb]
      exact Heap.get?_push_of_some _ hob
    · rw [hs.2 x far]
      exact Heap.get?_update_self _ hx1 rfl
end

section
variable {X : Cx} {pins : List (Addr × Obj)} {σ : L2.St} {H : Hp} {s : Shared} {a C dx : Addr} {f : Str} {y : V} {u : Value} {Q : Unit → Shared → Prop} {E : Value → Shared → Prop} {A : Around} {B : String} {bmB : List Value} {nid iid : String}
/-- self.f = y, the first store -/
theorem put_first (SF : StoreFacts B bmB "object.__setattr__" "object") (T : Gx X.K C bmB nid) (I : Inv X pins σ H s) (e : H a = some (exo a C none)) (hno : PySem.W.findIn X.K (.ref C) f = some none) (ry : RelV y u)
    (post : ∀ dx s', H dx = none → dx ≠ a → Inv X pins σ (upd (upd H dx (exd dx [(f, y)])) a (exo a C (some dx))) s' → Q () s') : wpAny (model X.prog X.w) A (setAttr (.ref a) f u) Q E s := by
  obtain ⟨cd, hcd, hdd⟩ := T.hasd
  obtain ⟨t1, at1⟩ := exo_at I.hok e
  obtain ⟨hp, g, d, t, os⟩ := s
  refine PySem.W.set_plain I.kIn (ox := { cls := .ref C, dict := none, data := .fields #[.ref t1, .none, .none, .none, .bool false, .none] }) (od := none) ⟨at1, rfl, rfl, trivial⟩ T.sets ?_
  refine first_store SF I.kIn at1 T.over hcd hdd hno (fun h' tk' dx kp dn dne hx hn => ?_)
  have fresh : H dx = none := I.hok.fresh dn
  have old : ∀ {b : Addr} {o : Obj}, hp.get? b = some o → b ≠ dx := fun {b o} q => Nat.ne_of_lt (Nat.lt_of_lt_of_le (Heap.lt_size q) dn)
  have other : ∀ {b : Addr}, H b = none → b ≠ a := fun {b} n z => by
    rw [z, e] at n
    cases n
  have un : Un X.fs [] H (upd (upd H dx (exd dx [(f, y)])) a (exo a C (some dx))) hp h' := {
    keep := fun b o q n _ _ => kp b o (other n) q
    slot := fun b o q n _ _ => ⟨o.slots, kp b o (other n) q⟩
    free := fun b o q n _ => by rw [upd_ne (other n), upd_ne (old q)]; exact n
    there := fun b o q _ => by
      by_cases hb : b = a
      · exact ⟨_, hb ▸ hx⟩
      · exact ⟨o, kp b o hb q⟩
    tups := fun b xs q => by rw [upd_ne (at_ne e q exo_tup), upd_ne (ne_of_none q fresh)]; exact q
    frzs := fun b o v q => by rw [upd_ne (at_ne e q exo_frz), upd_ne (ne_of_none q fresh)]; exact q
    tbls := fun b ps q => ⟨#[], by rw [upd_ne (at_ne e q exo_tbl), upd_ne (ne_of_none q fresh), q]; simp⟩ }
  refine post dx _ fresh dne (I.un (t' := tk') un fun b o q => ?_)
  by_cases hb : b = a
  · subst hb
    rw [upd_same] at q
    cases q
    exact exo_ok hx
  · rw [upd_ne hb] at q
    by_cases hd : b = dx
    · subst hd
      rw [upd_same] at q
      cases q
      exact exd_ok hn (relO_put (fs := []) ry fun g => True.intro)
    · rw [upd_ne hd] at q
      refine (I.hok b o q).stay (fun c v hc z => kp c v ?_ z) (fun c hc => ?_) (fun c xs hc => ?_)
      · rcases hc with hc | hc
        · exact hc ▸ hb
        · exact at_ne e hc exo_own
      · rw [upd_ne (at_ne e hc exo_own), upd_ne (ne_of_none hc fresh)]; exact hc
      · rw [upd_ne (at_ne e hc exo_tup), upd_ne (ne_of_none hc fresh)]; exact hc
/-- Base.__init__(self, ..) -/
theorem base_init {us : List Value} {Q : Value → Shared → Prop} (FB : ExcBaseFacts B nid iid bmB) (T : Gx X.K C bmB nid) (I : Inv X pins σ H s) (e : H a = some (exo a C none)) (hl : us.length ≤ sizeLine) (post : ∀ s', Inv X pins σ H s' → Q .none s') :
    wpAny (model X.prog X.w) A (call (.builtin iid) (.ref a :: us)) Q E s := by
  obtain ⟨nm, N, qn, bs, bm, hdct, sn, sub, ab, col, dd, k0, k1, k2, k3, k5, hC, hT⟩ := PySem.W.excInit_of I.kIn T.made
  obtain ⟨t1, at1⟩ := exo_at I.hok e
  obtain ⟨hp, g, d, t, os⟩ := s
  refine wpAny_call (PySem.HandSPX.init_base FB hT hC at1 hl fun h' t2 kp hx => ?_)
  have J := I.write (t' := t) (x := a) (e := a) (o := exo a C none) (by rw [e]; exact True.intro) (.inl rfl) kp ⟨_, hx⟩ (exo_ok hx)
  have same : upd H a (exo a C none) = H := funext fun b => by
    by_cases hb : b = a
    · rw [hb, upd_same, e]
    · rw [upd_ne hb]
  rw [same] at J
  exact post _ J
end

/-! ### readings and rules -/
/-- Base.__init__(self, ..) -/
def tBi (K : PySem.W.Frag) (bmB : List Value) (nid : String) (ta : TA) : TE := fun σ H Q => ta σ H fun vs H1 => ∃ (a C : Addr) (ws : List V), vs = .ref a :: ws ∧ ws.length ≤ 1000 ∧ Gx K C bmB nid ∧ H1 a = some (exo a C none) ∧ Q .non H1
/-- self.f = e, the first one -/
def tPf (K : PySem.W.Frag) (bmB : List Value) (nid : String) (f : Str) (to te : TE) : TS := fun D σ H => te σ H fun y H1 => to σ H1 fun x H2 => ∃ a C : Addr, x = .ref a ∧ Gx K C bmB nid ∧ PySem.W.findIn K (.ref C) f = some none ∧
  H2 a = some (exo a C none) ∧ ∀ dx, H2 dx = none → dx ≠ a → D.nx σ (upd (upd H2 dx (exd dx [(f, y)])) a (exo a C (some dx)))
section
variable {X : Cx} {o e : Expr} {es : List Expr} {to te : TE} {ta : TA} {f : Str} {p p' p1 p2 pos : Pos} {B nid iid : String} {bmB : List Value} {x : Str}
theorem pe_bi {pl : Sem Bool} (FB : ExcBaseFacts B nid iid bmB) (hg : Gl X x) (hm : X.mg x = none) (hv : bootBuiltins x = some (.type B)) (ty : typeOf (.type B) = pure (.type "type"))
    (vV : PySem.W.findCls X.K (.type B) (.type "type") "__init__" = some (.val (.builtin iid))) (hb : PySem.W.handedIn (.builtin iid) = true) (hst : Manifest.isStub B = false) (ha : PA X (e :: es) ta)
    (hc : eval (.Call (.Attribute (.Name x p1) "__init__" p2) (e :: es) [] pos) X.env = (do
      let ov ← eval (.Name x p1) X.env
      standAt p2.atName
      let (f, first) ← holding [ov] (getMethod ov "__init__" pl)
      callWith pos f first (backTo pos (starEach (e :: es) X.env)) (backToKw pos (keywordEach [] X.env))) := by rfl)
    (hn : x ≠ "__name__" := by decide) (hd : (x == ("__debug__" : Str)) = false := by decide)
    (he : starEach (e :: es) X.env = (false, eval e X.env) :: starEach es X.env := by rfl) (hpl : (backTo pos (starEach es X.env)).any (·.1) = false := by rfl) :
    PE X (.Call (.Attribute (.Name x p1) "__init__" p2) (e :: es) [] pos) (tBi X.K bmB nid ta) := by
  refine ⟨fun pins s σ H Q I h => ?_⟩
  refine PySem.W.methodCall_KW (ld_blt I hg hm hv ?_ hn hd) hc
  obtain ⟨m, fr⟩ := I.fr
  refine PySem.W.method_type fr I.ok.mod.kin ty hst vV hb ?_
  show wpAny _ _ (callWith pos (Value.builtin iid) [] (backTo pos (starEach (e :: es) X.env)) []) _ _ _
  refine PyProof.Rows.callWith_method1 (thn (ha.run pos pins _ σ H _ (I.tok _) h) fun us s1 hh => ?_) he hpl
  obtain ⟨vs, H1, I1, r1, a, C, ws, ev, hl, T, ea, q⟩ := hh
  subst ev
  cases r1 with
  | @cons _ u0 _ ur ra rw' =>
    obtain rfl : u0 = Value.ref a := ra
    have hlen : ur.length ≤ sizeLine := by
      have := Paired.length rw'
      rw [sizeLine_eq]
      omega
    exact base_init FB T I1 ea hlen fun s' J => ⟨.non, H1, J, rfl, q⟩
theorem ps_pf (SF : StoreFacts B bmB "object.__setattr__" "object") (ho : PE X o to) (he : PE X e te) (hs : swapsWith e (some (.Attribute o f p')) pos.line X.env = pure false := by rfl) : PS X (.Assign [.Attribute o f p'] e pos) (tPf X.K bmB nid f to te) := by
  refine ⟨fun pins s σ H D I h => ?_⟩
  refine plainObj_wpAny_Assign_Attribute (thn (he.run pins s σ H _ I h) fun v s1 h1 => ?_) hs
  obtain ⟨y, H1, I1, r1, q1⟩ := h1
  refine thn (ho.run pins s1 σ H1 _ I1 q1) fun u s2 h2 => ?_
  obtain ⟨z, H2, I2, r2, a, C, ex, T, hno, ea, q⟩ := h2
  subst ex
  obtain rfl : u = Value.ref a := r2
  exact put_first SF T I2 ea hno r1 fun dx s' n ne J => ⟨σ, _, J, q dx n ne⟩
/-- C(e, ..) as what is raised, C's own __init__ keeping sp -/
theorem pmk_gx {CX : CXT} {C fI : Addr} {k : Nat} {fd : FuncData} {ps : List Str} {sp : Sp} {ds : List Value} {dvs : List V} (FB : ExcBaseFacts B nid iid bmB) (T : Gx X.K C bmB nid) (iC : PySem.W.findIn X.K (.ref C) "__init__" = some (some (.ref fI)))
    (tI : PySem.W.typeIn X.K (.ref fI) = some (.type "function"))
    (F1 : FnOk X.prog X.w X.K X.mg X.base CX k fI fd ps sp) (hr : Room (k + 1) X.A) (hb : Binds X.K fd ps ds) (hd : Vals dvs ds) (hx : Passes CX X (fun _ _ _ => False)) (hg : Gl X x) (hm : X.mg x = some (.ref C)) (ha : PA X (e :: es) ta)
    (hdb : (x == ("__debug__" : Str)) = false := by decide) (he : starEach (e :: es) X.env = (false, eval e X.env) :: starEach es X.env := by rfl) (hpl : (backTo pos (starEach es X.env)).any (·.1) = false := by rfl) :
    PMk X (.Call (.Name x p) (e :: es) [] pos) (tMkO C sp dvs ta) := by
  intro pins s σ H Q I h
  refine wpAny_Call_Name_kw (ld_glob I hg hm ?_ hdb)
  refine PySem.W.callWith_K (h₀ := X.base) I.ok.mod.kin T.keep (thn (ha.run pos pins s σ H _ I h) fun us s1 hh => ?_) he hpl
  obtain ⟨vs, H1, I1, r1, hz, q1⟩ := hh
  refine ⟨I1.kIn, ?_⟩
  show wpAny _ _ (call (.ref C) us) _ _ _
  obtain ⟨nm, N, qn, bs, bm, hdct, sn, sub, ab, col, dd, k0, k1, k2, k3, k5, hC, hT⟩ := PySem.W.excInit_of I1.kIn T.made
  obtain ⟨hp, g, dr, tk, os⟩ := s1
  have big : hp.objs.size ≤ hp.objs.size + 1 := Nat.le_succ _
  have hq := q1 (hp.objs.size + 1) (I1.hok.fresh big)
  have kk : ∀ b o, hp.get? b = some o → ((hp.push (PySem.W.kdv_tup us)).push (PySem.HandSPX.excO C hp.objs.size)).get? b = some o := fun b o z =>
    Heap.get?_push_of_some _ (Heap.get?_push_of_some _ z)
  have there : ((hp.push (PySem.W.kdv_tup us)).push (PySem.HandSPX.excO C hp.objs.size)).get? (hp.objs.size + 1) = some (PySem.HandSPX.excO C hp.objs.size) := by heap_get
  have I2 := I1.laid (t' := tk) (a := hp.objs.size + 1) (o := exo (hp.objs.size + 1) C none) (h' := (hp.push (PySem.W.kdv_tup us)).push (PySem.HandSPX.excO C hp.objs.size)) kk big (exo_ok there)
  have r2 : Vals (V.ref (hp.objs.size + 1) :: (vs ++ dvs)) (Value.ref (hp.objs.size + 1) :: (us ++ ds)) := .cons rfl (r1.append hd)
  have hl : (Value.ref (hp.objs.size + 1) :: us ++ ds).length = ps.length := by
    have e1 := r2.length
    rw [F1.len _ _ _ _ hq] at e1
    exact e1.symm
  have few : us.length ≤ sizeLine := by
    have := Paired.length r1
    rw [sizeLine_eq]
    omega
  refine wpAny_call (PySem.HandSPX.call_own FB hT hC (PySem.W.looks_findIn I1.kIn iC) (fun self => PySem.W.bind_fn I1.kIn self tI) few (codeAny_mono
    (F1.run _ X.stack _ _ ⟨Value.ref (hp.objs.size + 1) :: us, []⟩ (Value.ref (hp.objs.size + 1) :: (us ++ ds)) _ _ (fun _ _ _ => False) (hr.make C us []) (I2.env0.make C us []) (hb _ (Value.ref (hp.objs.size + 1) :: us) I2.kIn hl) r2 hq) fun r s' hq' => ?_))
  cases r with
  | error er => exact hx pins σ _ _ er s' I2 hq'
  | ok fl =>
    cases fl with
    | ret u =>
      obtain ⟨v, H2, os2, bare2, un2, hok2, rv, ev, d, fs, ea, ed, hd1, q2⟩ := hq'
      subst ev
      obtain ⟨h2, g2, d2, t2, os'⟩ := s'
      exact ⟨rv, mk_end (raises_own T.base T.typ) I1 big kk un2 hok2 os2 bare2 ea ed hd1 q2⟩
    | next => exact False.elim hq'
    | brk => exact False.elim hq'
    | cont => exact False.elim hq'
end
/-! ### the head's look at such a class -/
def hasDB (K : PySem.W.Frag) (C : Addr) : Bool := match PySem.W.clsIn K C with
  | some cd => cd.hasDict
  | none => false
/-- Base.__init__, read off the class Base -/
def vvB (K : PySem.W.Frag) (B iid : String) : Bool := match PySem.W.findCls K (.type B) (.type "type") "__init__" with
  | some (.val (.builtin n)) => n == iid
  | _ => false
theorem vvB_ok {K : PySem.W.Frag} {B iid : String} (h : vvB K B iid = true) : PySem.W.findCls K (.type B) (.type "type") "__init__" = some (.val (.builtin iid)) := by
  unfold vvB at h
  split at h
  · rename_i n e
    rw [e, eq_of_beq h]
  · cases h
/-- what isinstance asks of an own class -/
def isB (K : PySem.W.Frag) (C : Addr) : Bool := He.eqO (PySem.W.findIn K (.ref C) "__class__") (some (some (.builtin "object.__class__"))) && (He.eqO (PySem.W.specialIn K (.builtin "object.__class__") "__get__") (some (some (.builtin "getset_descriptor.__get__"))) &&
  (decide (PySem.W.takesIn K (.builtin "object.__class__") = some true) && decide (PySem.W.mroIn K C (.type "object") = some true)))
def gxB (K : PySem.W.Frag) (C : Addr) (bmB : List Value) (nid : String) : Bool := PySem.W.excOver K C bmB && (PySem.W.excInitIn K C bmB nid && (hasDB K C &&
  (He.eqO (PySem.W.findIn K (.ref C) "__setattr__") (some (some (.builtin "object.__setattr__"))) && (decide (PySem.W.subIn K (.ref C) (.type "BaseException") = some true) &&
  (decide (PySem.W.typeIn K (.ref C) = some (.type "type")) && PySem.W.keepIn K (.ref C))))))
theorem gxB_ok {K : PySem.W.Frag} {C : Addr} {bmB : List Value} {nid : String} (h : gxB K C bmB nid = true) : Gx K C bmB nid := by
  unfold gxB at h
  simp only [Bool.and_eq_true, decide_eq_true_eq] at h
  obtain ⟨h1, h2, h3, h4, h5, h6, h7⟩ := h
  refine ⟨h1, h2, ?_, He.eqO_ok h4, h5, h6, h7⟩
  unfold hasDB at h3
  split at h3
  · rename_i cd e
    exact ⟨cd, e, h3⟩
  · cases h3
end GX
set_option linter.all false
namespace KM
/-- the signed common part -/
def sg (t b : Int) : Int := if b < 0 then -(Int.gcd t b : Int) else (Int.gcd t b : Int)
/-- a fraction in lowest terms -/
def low (t b : Int) : Int × Int := (t.fdiv (sg t b), b.fdiv (sg t b))
theorem gcd_pos {t b : Int} (h : b ≠ 0) : 0 < Int.gcd t b := Int.gcd_pos_of_ne_zero_right t h
theorem sg_ne {t b : Int} (h : b ≠ 0) : sg t b ≠ 0 := by
  have := gcd_pos (t := t) h
  unfold sg
  split <;> omega
theorem sg_dvd_left (t b : Int) : sg t b ∣ t := by
  unfold sg
  split
  · exact Int.neg_dvd.mpr (Int.gcd_dvd_left ..)
  · exact Int.gcd_dvd_left ..
theorem sg_dvd_right (t b : Int) : sg t b ∣ b := by
  unfold sg
  split
  · exact Int.neg_dvd.mpr (Int.gcd_dvd_right ..)
  · exact Int.gcd_dvd_right ..
theorem low_top {t b : Int} : sg t b * (low t b).1 = t := by
  show sg t b * t.fdiv (sg t b) = t
  rw [Int.fdiv_eq_ediv_of_dvd (sg_dvd_left t b)]
  exact Int.mul_ediv_cancel' (sg_dvd_left t b)
theorem low_bot {t b : Int} : sg t b * (low t b).2 = b := by
  show sg t b * b.fdiv (sg t b) = b
  rw [Int.fdiv_eq_ediv_of_dvd (sg_dvd_right t b)]
  exact Int.mul_ediv_cancel' (sg_dvd_right t b)
theorem sg_abs (t b : Int) : (sg t b).natAbs = Int.gcd t b := by
  unfold sg
  split <;> simp
theorem low_pos {t b : Int} (h : b ≠ 0) : 0 < (low t b).2 := by
  have e := low_bot (t := t) (b := b)
  have g := gcd_pos (t := t) h
  by_cases hb : b < 0
  · have hs : sg t b < 0 := by unfold sg; rw [if_pos hb]; omega
    refine Int.lt_of_not_ge fun hc => ?_
    have := Int.mul_nonneg_of_nonpos_of_nonpos (Int.le_of_lt hs) hc
    omega
  · have hs : 0 < sg t b := by unfold sg; rw [if_neg hb]; omega
    refine Int.lt_of_not_ge fun hc => ?_
    have := Int.mul_nonpos_of_nonneg_of_nonpos (Int.le_of_lt hs) hc
    omega
theorem low_cop {t b : Int} (h : b ≠ 0) : Int.gcd (low t b).1 (low t b).2 = 1 := by
  have e : Int.gcd (sg t b * (low t b).1) (sg t b * (low t b).2) = (sg t b).natAbs * Int.gcd (low t b).1 (low t b).2 := Int.gcd_mul_left ..
  rw [low_top, low_bot, sg_abs] at e
  have g := gcd_pos (t := t) h
  have : Int.gcd t b * Int.gcd (low t b).1 (low t b).2 = Int.gcd t b * 1 := by omega
  exact Nat.eq_of_mul_eq_mul_left g this
theorem low_id {t b : Int} (hb : 0 < b) (h : Int.gcd t b = 1) : low t b = (t, b) := by
  have e : sg t b = 1 := by unfold sg; rw [if_neg (by omega), h]; rfl
  unfold low
  rw [e]
  simp
theorem low_low {t b : Int} (h : b ≠ 0) : low (low t b).1 (low t b).2 = low t b := low_id (low_pos h) (low_cop h)
/-- the bottom stays: nothing is taken out -/
theorem low_same {t b : Int} (hb : 0 < b) (h : (low t b).2 = b) : low t b = (t, b) := by
  have e := low_bot (t := t) (b := b)
  rw [h] at e
  have e1 : sg t b * b = 1 * b := by omega
  have e2 := Int.eq_of_mul_eq_mul_right (Int.ne_of_gt hb) e1
  have e3 := low_top (t := t) (b := b)
  rw [e2] at e3
  refine Prod.ext ?_ h
  show (low t b).1 = t
  omega
theorem dvd_le {x y : Int} (h : x * y ≠ 0) : y.natAbs ≤ (x * y).natAbs := by
  rw [Int.natAbs_mul]
  have : x ≠ 0 := fun z => h (by rw [z, Int.zero_mul])
  exact Nat.le_mul_of_pos_left _ (by omega)
theorem low_top_le {t b : Int} (h : b ≠ 0) : (low t b).1.natAbs ≤ t.natAbs := by
  by_cases ht : t = 0
  · subst ht
    have e := low_top (t := 0) (b := b)
    rcases Int.mul_eq_zero.mp e with z | z
    · exact absurd z (sg_ne h)
    · rw [z]; exact Nat.le_refl _
  · have e := low_top (t := t) (b := b)
    have := dvd_le (x := sg t b) (y := (low t b).1) (by omega)
    rw [e] at this
    exact this
theorem low_bot_le {t b : Int} (h : b ≠ 0) : (low t b).2.natAbs ≤ b.natAbs := by
  have e := low_bot (t := t) (b := b)
  have := dvd_le (x := sg t b) (y := (low t b).2) (by omega)
  rw [e] at this
  exact this
theorem sg_le {t b : Int} (h : b ≠ 0) : (sg t b).natAbs ≤ b.natAbs := by
  have e := low_bot (t := t) (b := b)
  have := dvd_le (x := (low t b).2) (y := sg t b) (by rw [Int.mul_comm]; omega)
  rw [Int.mul_comm, e] at this
  exact this
/-- Euclid's turn over whole numbers from 0 on -/
theorem gcd_turn {a b : Int} (ha : 0 ≤ a) (hb : 0 < b) : Int.gcd b (a % b) = Int.gcd a b := by
  obtain ⟨m, rfl⟩ := Int.eq_ofNat_of_zero_le ha
  obtain ⟨n, rfl⟩ := Int.eq_ofNat_of_zero_le (Int.le_of_lt hb)
  show Nat.gcd (Int.natAbs (n : Int)) (Int.natAbs ((m : Int) % (n : Int))) = Nat.gcd (Int.natAbs (m : Int)) (Int.natAbs (n : Int))
  rw [← Int.natCast_emod, Int.natAbs_natCast, Int.natAbs_natCast, Int.natAbs_natCast, Nat.gcd_comm n, Nat.gcd_comm m n]
  exact (Nat.gcd_rec n m).symm
theorem gcd_succ (a : Int) : Int.gcd a (a + 1) = 1 := by
  have : Int.gcd (a + 1) a = Int.gcd 1 a := by
    rw [Int.add_comm, Int.gcd_add_self_left]
  rw [Int.gcd_comm, this, Int.gcd_comm]
  simp
end KM
set_option Elab.async false
set_option linter.all false
set_option maxRecDepth 100000
set_option maxHeartbeats 4000000
namespace K04
open PySem PySem.Spec PyProof.Rows L2
/-- a def of the text -/
abbrev Dn (K : PySem.W.Frag) (d : He.DefD) (f : Addr) (fd : FuncData) : Prop := FunD K d.name d.qual d.params d.body d.scope (d.dvs K) (d.kws K) f fd
/-- what the module's names are -/
structure Bl (mg : Str → Option Value) : Prop where
  isi : mg "isinstance" = none
  int : mg "int" = none
  bool : mg "bool" = none
  abs : mg "abs" = none
  list : mg "list" = none
  range : mg "range" = none
  len : mg "len" = none
theorem op_fdW {X : Cx} : OpR X (binaryOp .FloorDiv) (rI (fun _ j => j ≠ 0 ∧ j.natAbs.log2 < 9000) fun i j => .int (i.fdiv j)) := opI fun _ _ _ _ _ _ _ hc q => floordiv_int hc.1 q (.inl (PyProof.noPylong_of_log2 hc.2))
/-- the fields of a Share -/
def shF (q : Int × Int) : List (Str × V) := putF "bottom" (.int q.2) (putF "top" (.int q.1) [])
theorem tb : ¬ (("top" : Str) = "bottom") := by decide +kernel
theorem shF_top (q : Int × Int) : (shF q).lookup ("top" : Str) = some (.int q.1) := by
  unfold shF
  rw [lookup_putF, if_neg tb, lookup_putF, if_pos rfl]
theorem shF_bot (q : Int × Int) : (shF q).lookup ("bottom" : Str) = some (.int q.2) := by
  unfold shF
  rw [lookup_putF, if_pos rfl]
theorem shF_no (q : Int × Int) {m : Str} (h1 : ¬ m = "bottom") (h2 : ¬ m = "top") : (shF q).lookup m = none := by
  unfold shF
  rw [lookup_putF, if_neg h1, lookup_putF, if_neg h2]
  all_goals rfl
/-- a Share stands at p -/
def Sh (C : Addr) (H : Hp) (p : Addr) (q : Int × Int) : Prop := ∃ dx, H p = some (.ins C dx (shF q))
/-- small enough, the bottom above nought -/
def Bd (n : Nat) (q : Int × Int) : Prop := q.1.natAbs < 2 ^ n ∧ 0 < q.2 ∧ q.2.natAbs < 2 ^ n
theorem Sh.keep {C : Addr} {H H' : Hp} {p : Addr} {q : Int × Int} (s : Same H H') (h : Sh C H p q) : Sh C H' p q := let ⟨dx, e⟩ := h; ⟨dx, s _ _ e⟩
theorem log_lt {j : Int} {n : Nat} (h : j.natAbs < 2 ^ n) (h0 : 0 < n) (h9 : n ≤ 9000) : j.natAbs.log2 < 9000 := Nat.lt_of_lt_of_le (PySem.Flt.log2_lt_of h0 h) h9
/-- what is known of the class -/
structure Cl (K : PySem.W.Frag) (mg : Str → Option Value) (C : Addr) : Prop where
  cl : Cls K C
  nt : NoAttr K C "top"
  nb : NoAttr K C "bottom"
  g : mg "Share" = some (.ref C)
section
variable {P : Program} {w : World} {K : PySem.W.Frag} {mg : Str → Option Value} {base : Heap} {f C : Addr} {fd : FuncData}

def spWhole : Sp := fun vs H Q _ => ∃ n : Int, vs = [.int n] ∧ Q (.bl true) H
theorem ok_whole (F : Dn K d_is_whole f fd) (b : Bl mg) : FnOk P w K mg base CX0 1 f fd ["thing"] spWhole := by
  refine F.ok sc_is_whole (fun vs H Q E h => ?_) (fun cdv A outer s H vs Q E hr h => ?_)
  · obtain ⟨n, rfl, _⟩ := h
    rfl
  · obtain ⟨n, rfl, hQ⟩ := h
    refine ⟨_, PSs.nox (pss_one (ps_ret (pe_and
      (pe_callB call_isi rfl b.isi boot_isinstance (pa_cons (pv 0) (pa_cons (pe_bltn (v := .ty "int") rfl b.int boot_int rfl) pa_nil)))
      (pe_one (pe_not (pe_callB call_isi rfl b.isi boot_isinstance (pa_cons (pv 0) (pa_cons (pe_bltn (v := .ty "bool") rfl b.bool boot_bool rfl) pa_nil)))))))), ?_⟩
    refine ⟨_, rfl, _, _, _, _, true, rfl, ClsV.ty _, TyX.base (TyOf.int n), kit_ty (by decide +kernel), true, rfl, ?_⟩
    refine iteT ?_
    exact ⟨_, rfl, _, _, _, _, false, rfl, ClsV.ty _, TyX.base (TyOf.int n), kit_ty (by decide +kernel), false, rfl, hQ⟩
def spGcd : Sp := fun vs H Q _ => ∃ x y : Int, vs = [.int x, .int y] ∧ Q (.int (Int.gcd x y : Int)) H
theorem abs_eq (x : Int) : (if x < 0 then -x else x) = (x.natAbs : Int) := by split <;> omega
theorem ok_gcd (F : Dn K d_common_part f fd) (b : Bl mg) : FnOk P w K mg base CX0 1 f fd ["one", "other"] spGcd := by
  refine F.ok sc_common_part (fun vs H Q E h => ?_) (fun cdv A outer s H vs Q E hr h => ?_)
  · obtain ⟨x, y, rfl, _⟩ := h
    rfl
  · obtain ⟨x, y, rfl, hQ⟩ := h
    refine ⟨_, PSs.nox (pss_cons (ps_set (i := 0) sc_common_part.nd rfl (.inl rfl) (pe_callB call_abs rfl b.abs boot_abs (pa_cons (pv 0) pa_nil)))
      (pss_cons (ps_set (i := 1) sc_common_part.nd rfl (.inl rfl) (pe_callB call_abs rfl b.abs boot_abs (pa_cons (pv 1) pa_nil)))
      (pss_cons (ps_while PassesOwn.never (pt_cmpR op_ne (pv 1) pe_int (nomark _)) (pss_one (ps_par (i := 0) (j := 1) rfl sc_common_part.nd rfl rfl (by decide) rfl rfl (pa_cons (pv 1) (pa_cons (pe_op op_mod (pv 0) (pv 1)) pa_nil)) rfl)))
      (pss_one (ps_ret (pv 0)))))), ?_⟩
    refine ⟨_, rfl, _, rfl, _, rfl, _, rfl, while_by (fun σ H2 => H2 = H ∧ ∃ a c : Int, σ = [some (.int a), some (.int c)] ∧ 0 ≤ a ∧ 0 ≤ c ∧ Int.gcd a c = Int.gcd x y)
      (fun σ _ => match σ with | [_, some (.int c)] => c.toNat | _ => 0) ⟨rfl, _, _, rfl, ?_, ?_, ?_⟩ ?_ ?_⟩
    · split <;> omega
    · split <;> omega
    · rw [abs_eq, abs_eq]
      rfl
    · rintro σ H2 ⟨rfl, a, c, rfl, ha, hc, hg⟩
      refine ⟨_, rfl, rfl, _, rfl, ?_⟩
      by_cases h0 : c = 0
      · subst h0
        refine iteNS rfl ?_
        refine ⟨_, rfl, ?_⟩
        have e : Int.gcd x y = a.natAbs := by rw [← hg]; simp
        have e2 : (Int.gcd x y : Int) = a := by omega
        rw [e2] at hQ
        exact hQ
      · have hne : (!decide (V.int c = V.int 0)) = true := by simp [h0]
        rw [hne]
        refine iteT ?_
        have hp : 0 < c := by omega
        refine ⟨_, rfl, _, rfl, _, rfl, _, _, rfl, rfl, hp, _, _, rfl, ⟨rfl, _, _, rfl, hc, Int.emod_nonneg _ h0, ?_⟩, ?_⟩
        · rw [KM.gcd_turn ha hp, hg]
        · show (a % c).toNat < c.toNat
          have h1 := Int.emod_nonneg a h0
          have h2 := Int.emod_lt_of_pos a hp
          omega
    · rintro σ H2 Q1 Q2 hm ⟨v, hv, h1, k, hk, q⟩
      exact ⟨v, hv, h1, k, hk, hm _ _ q⟩
end
end K04
set_option Elab.async false
set_option linter.all false
set_option maxRecDepth 100000
set_option maxHeartbeats 4000000
namespace K04
open PySem PySem.Spec PyProof.Rows L2
open C8 (Cal Mak Met pe_c pe_mk pe_mt pe_mt0)
section
variable {P : Program} {w : World} {K : PySem.W.Frag} {mg : Str → Option Value} {base : Heap} {f C : Addr} {fd : FuncData}
abbrev CalW (P : Program) (w : World) (K : PySem.W.Frag) (mg : Str → Option Value) (base : Heap) : Prop := Cal P w K mg base 1 "is_whole" spWhole []
abbrev CalG (P : Program) (w : World) (K : PySem.W.Frag) (mg : Str → Option Value) (base : Heap) : Prop := Cal P w K mg base 1 "common_part" spGcd []
/-- __init__: a Share in lowest terms -/
def spInit (C : Addr) : Sp := fun vs H Q _ => ∃ (p dx : Addr) (t b : Int) (n : Nat), vs = [.ref p, .int t, .int b] ∧ b ≠ 0 ∧ b.natAbs < 2 ^ n ∧ 0 < n ∧ n ≤ 9000 ∧ H p = some (.ins C dx []) ∧
  ∀ H', (∀ a o, a ≠ p → H a = some o → H' a = some o) → H' p = some (.ins C dx (shF (KM.low t b))) → Q .non H'
theorem ok_init (F : Dn K d_Share_init f fd) (cW : CalW P w K mg base) (cG : CalG P w K mg base) (T : Cl K mg C) : FnOk P w K mg base CX0 2 f fd ["self", "top", "bottom"] (spInit C) := by
  refine F.ok sc_Share_init (fun vs H Q E h => ?_) (fun cdv A outer s H vs Q E hr h => ?_)
  · obtain ⟨p, dx, t, b, n, rfl, _⟩ := h
    rfl
  · obtain ⟨p, dx, t, b, n, rfl, hb, hn, hn0, hn9, hp, hQ⟩ := h
    refine ⟨_, PSs.nox (pss_cons (ps_for PassesOwn.never rfl (pi_tup (pe_tup (pa_cons (pv 1) (pa_cons (pv 2) pa_nil)))) (pg_name (i := 3) sc_Share_init.nd rfl (.inl rfl))
        (pss_one (ps_if (pt_not (pt_val (pe_c cW hr (by decide) rfl (pa_cons (pv 3) pa_nil)))) pss_never pss_nil)))
      (pss_cons (ps_if (pt_cmpR op_eq (pv 2) pe_int (nomark _)) pss_never pss_nil)
      (pss_cons (ps_set (i := 4) sc_Share_init.nd rfl (.inl rfl) (pe_c cG hr (by decide) rfl (pa_cons (pv 1) (pa_cons (pv 2) pa_nil))))
      (pss_cons (ps_if (pt_cmpR op_lt (pv 2) pe_int (nomark _)) (pss_one (ps_set (i := 4) sc_Share_init.nd rfl (.inl rfl) (pe_un un_neg (pv 4)))) pss_nil)
      (pss_cons (ps_fld (pv 0) (pe_op op_fdW (pv 1) (pv 4)) rfl)
      (pss_one (ps_fld (pv 0) (pe_op op_fdW (pv 2) (pv 4)) rfl))))))), ?_⟩
    refine ⟨_, rfl, _, rfl, by show 2 ≤ sizeLine; decide, fun u hu => ?_⟩
    have npu : p ≠ u := ne_of_none hp hu
    refine ⟨u, rfl, ⟨_, SqT.of upd_same⟩, for_tup (K := K) (xs := [.int t, .int b]) (fun i σ H2 => H2 = upd H u (.tup [.int t, .int b]) ∧ ∃ v, σ = [some (.ref p), some (.int t), some (.int b), v, none])
      ⟨rfl, none, rfl⟩ (fun i σ H2 _ h => by rw [h.1]; exact SqT.of upd_same) ?_ ?_⟩
    · rintro i y σ H2 hi ⟨rfl, v, rfl⟩
      have hy : ∃ n : Int, y = .int n := by
        match i, hi with
        | 0, e => exact ⟨t, (Option.some.inj e).symm⟩
        | 1, e => exact ⟨b, (Option.some.inj e).symm⟩
      obtain ⟨n, rfl⟩ := hy
      refine ⟨_, rfl, n, rfl, true, rfl, ?_⟩
      refine iteF ?_
      exact ⟨rfl, _, rfl⟩
    · rintro σ H2 ⟨rfl, v, rfl⟩
      refine ⟨_, rfl, rfl, _, rfl, ?_⟩
      have hb0 : decide (V.int b = V.int 0) = false := by simp [hb]
      rw [hb0]
      refine iteF ?_
      refine ⟨_, rfl, _, rfl, t, b, rfl, ?_⟩
      refine ⟨_, rfl, _, _, rfl, rfl, _, rfl, ?_⟩
      have hs9 : (KM.sg t b).natAbs.log2 < 9000 := log_lt (Nat.lt_of_le_of_lt (KM.sg_le hb) hn) hn0 hn9
      have fin : ∀ c : Int, c = KM.sg t b → ∀ v, tSeq (sFld K (tVar 0) (tOp (rI (fun _ j => j ≠ 0 ∧ j.natAbs.log2 < 9000) fun i j => .int (i.fdiv j)) (tVar 1) (tVar 4)) "top") (sFld K (tVar 0) (tOp (rI (fun _ j => j ≠ 0 ∧ j.natAbs.log2 < 9000) fun i j => .int (i.fdiv j)) (tVar 2) (tVar 4)) "bottom")
          { nx := fun _ H' => Q .non H', rt := Q } [some (.ref p), some (.int t), some (.int b), v, some (.int c)] (upd H u (.tup [.int t, .int b])) := by
        rintro c rfl v
        refine ⟨_, rfl, _, rfl, _, _, rfl, rfl, ⟨KM.sg_ne hb, hs9⟩, _, rfl, p, C, dx, _, rfl, (by rw [upd_ne npu]; exact hp), T.cl, T.nt, (by show 0 < 1000; decide), ?_⟩
        refine ⟨_, rfl, _, rfl, _, _, rfl, rfl, ⟨KM.sg_ne hb, hs9⟩, _, rfl, p, C, dx, _, rfl, upd_same, T.cl, T.nb, (by show 1 < 1000; decide), ?_⟩
        refine hQ _ (fun a o ha e => ?_) upd_same
        rw [upd_ne ha, upd_ne ha, upd_ne (ne_of_none e hu)]
        exact e
      refine ite2 (fun h => ?_) (fun h => ?_)
      · have h' : b < 0 := of_decide_eq_true h
        refine ⟨_, rfl, _, rfl, ?_⟩
        exact fin _ (by unfold KM.sg; rw [if_pos h']) _
      · have h' : ¬ b < 0 := fun z => h (decide_eq_true z)
        exact fin _ (by unfold KM.sg; rw [if_neg h']) _
end
end K04
set_option Elab.async false
set_option linter.all false
set_option maxRecDepth 100000
set_option maxHeartbeats 4000000
namespace K04
open PySem PySem.Spec PyProof.Rows L2
open C8 (Cal Mak Met pe_c pe_mk pe_mt pe_mt0)
section
variable {P : Program} {w : World} {K : PySem.W.Frag} {mg : Str → Option Value} {base : Heap} {f C : Addr} {fd : FuncData}
abbrev MakS (P : Program) (w : World) (K : PySem.W.Frag) (mg : Str → Option Value) (base : Heap) (C : Addr) : Prop := Mak P w K mg base 2 "Share" C (spInit C) []
/-- Share(t, b): what is left to show -/
theorem mk_at {H1 : Hp} {t b : Int} {n : Nat} {Q : VK} (hb : b ≠ 0) (hn : b.natAbs < 2 ^ n) (hn0 : 0 < n) (hn9 : n ≤ 9000)
    (hQ : ∀ r H', Same H1 H' → H1 r = none → Sh C H' r (KM.low t b) → Q (.ref r) H') :
    ∀ x dx, H1 x = none → H1 dx = none → dx ≠ x → spInit C (.ref x :: ([V.int t, V.int b] ++ [])) (upd (upd H1 dx (.own x)) x (.ins C dx [])) (fun v H2 => v = .non ∧ Q (.ref x) H2) E0 := by
  intro x dx nx nd ne
  refine ⟨x, dx, t, b, n, rfl, hb, hn, hn0, hn9, upd_same, fun H' kp hp => ⟨rfl, hQ x H' (fun a o e => ?_) nx ⟨dx, hp⟩⟩⟩
  refine kp a o (ne_of_none e nx) ?_
  rw [upd_ne (ne_of_none e nx), upd_ne (ne_of_none e nd)]
  exact e
theorem mul_pos_ne {a b : Int} (ha : 0 < a) (hb : 0 < b) : a * b ≠ 0 := fun z => by
  have := Int.mul_pos ha hb
  omega
def two (n : Nat) (a b : Int × Int) : Prop := Bd n a ∧ Bd n b ∧ 0 < n ∧ n ≤ 4000

end
end K04
set_option linter.all false
namespace KM
/-- top and bottom of a rational number -/
def pr (r : Rat) : Int × Int := (r.num, (r.den : Int))
theorem pr_inj {r s : Rat} (h : pr r = pr s) : r = s := by
  have h1 : r.num = s.num := congrArg Prod.fst h
  have h2 : (r.den : Int) = (s.den : Int) := congrArg Prod.snd h
  rw [← Rat.num_divInt_den r, ← Rat.num_divInt_den s, h1, h2]
theorem den_ne (r : Rat) : (r.den : Int) ≠ 0 := by
  have := r.den_nz
  omega
theorem den_pos (r : Rat) : 0 < (r.den : Int) := by
  have := r.den_nz
  omega
theorem low_eq {t b : Int} (h : b ≠ 0) : low t b = pr (Rat.divInt t b) := by
  have hp := low_pos (t := t) h
  have hc := low_cop (t := t) h
  obtain ⟨d, hd⟩ := Int.eq_ofNat_of_zero_le (Int.le_of_lt hp)
  have hd0 : d ≠ 0 := by
    intro z
    rw [z] at hd
    omega
  have hcop : (low t b).1.natAbs.Coprime d := by
    have : Int.gcd (low t b).1 (low t b).2 = 1 := hc
    rw [hd] at this
    exact this
  have e1 : Rat.divInt (low t b).1 (d : Int) = Rat.divInt t b := by
    rw [Rat.divInt_eq_divInt_iff (by omega) h, ← hd]
    have h1 := low_top (t := t) (b := b)
    have h2 := low_bot (t := t) (b := b)
    calc (low t b).1 * b = (low t b).1 * (sg t b * (low t b).2) := by rw [h2]
      _ = sg t b * (low t b).1 * (low t b).2 := by rw [← Int.mul_assoc, Int.mul_comm (low t b).1]
      _ = t * (low t b).2 := by rw [h1]
  have e2 : ({ num := (low t b).1, den := d, den_nz := hd0, reduced := hcop } : Rat) = Rat.divInt t b := by rw [Rat.mk_eq_divInt, e1]
  rw [← e2]
  exact Prod.ext rfl hd
theorem pr_plus (r s : Rat) : low ((pr r).1 * (pr s).2 + (pr s).1 * (pr r).2) ((pr r).2 * (pr s).2) = pr (r + s) := by
  show low (r.num * s.den + s.num * r.den) (r.den * s.den) = _
  rw [low_eq (Int.mul_ne_zero (den_ne r) (den_ne s)), ← Rat.divInt_add_divInt _ _ (den_ne r) (den_ne s), Rat.num_divInt_den, Rat.num_divInt_den]
theorem pr_less (r s : Rat) : low ((pr r).1 * (pr s).2 - (pr s).1 * (pr r).2) ((pr r).2 * (pr s).2) = pr (r - s) := by
  show low (r.num * s.den - s.num * r.den) (r.den * s.den) = _
  rw [low_eq (Int.mul_ne_zero (den_ne r) (den_ne s)), ← Rat.divInt_sub_divInt _ _ (den_ne r) (den_ne s), Rat.num_divInt_den, Rat.num_divInt_den]
theorem pr_times (r : Rat) (k : Int) : low ((pr r).1 * k) (pr r).2 = pr (r * (Rat.divInt k 1)) := by
  show low (r.num * k) r.den = _
  have e : Rat.divInt (r.num * k) (r.den : Int) = Rat.divInt r.num r.den * Rat.divInt k 1 := by rw [Rat.divInt_mul_divInt, Int.mul_one]
  rw [low_eq (den_ne r), e, Rat.num_divInt_den]
theorem pr_over (r : Rat) {k : Int} (h : k ≠ 0) : low (pr r).1 ((pr r).2 * k) = pr (r * (Rat.divInt 1 k)) := by
  show low r.num (r.den * k) = _
  have e : Rat.divInt r.num (r.den * k : Int) = Rat.divInt r.num r.den * Rat.divInt 1 k := by rw [Rat.divInt_mul_divInt, Int.mul_one]
  rw [low_eq (Int.mul_ne_zero (den_ne r) h), e, Rat.num_divInt_den]
theorem inv_k {k : Int} (h : k ≠ 0) : Rat.divInt k 1 * Rat.divInt 1 k = 1 := by
  rw [Rat.divInt_mul_divInt, Int.mul_one, Int.one_mul]
  exact Rat.divInt_self' h
theorem pr_lt (r s : Rat) : ((pr r).1 * (pr s).2 < (pr s).1 * (pr r).2) ↔ r < s := (Rat.lt_iff r s).symm
theorem pr_bot (r : Rat) : 0 < (pr r).2 := den_pos r
theorem add_back (r s : Rat) : r + s - s = r := by
  rw [Rat.sub_eq_add_neg, Rat.add_assoc, Rat.add_neg_cancel, Rat.add_zero]
theorem sub_back (r s : Rat) : r - s + s = r := by
  rw [Rat.sub_eq_add_neg, Rat.add_assoc, Rat.neg_add_cancel, Rat.add_zero]
theorem mul_back (r : Rat) {k : Int} (h : k ≠ 0) : r * Rat.divInt k 1 * Rat.divInt 1 k = r := by
  rw [Rat.mul_assoc, inv_k h, Rat.mul_one]
theorem div_back (r : Rat) {k : Int} (h : k ≠ 0) : r * Rat.divInt 1 k * Rat.divInt k 1 = r := by
  rw [Rat.mul_assoc, Rat.mul_comm (Rat.divInt 1 k), inv_k h, Rat.mul_one]
/-- small -/
def Sz (n : Nat) (r : Rat) : Prop := r.num.natAbs < 2 ^ n ∧ r.den < 2 ^ n
theorem Sz.mono {n m : Nat} {r : Rat} (h : Sz n r) (hm : n ≤ m) : Sz m r := ⟨Nat.lt_of_lt_of_le h.1 (Nat.pow_le_pow_right (by decide) hm), Nat.lt_of_lt_of_le h.2 (Nat.pow_le_pow_right (by decide) hm)⟩
theorem sz_of_low {t b : Int} {n : Nat} (hb : b ≠ 0) (h1 : t.natAbs < 2 ^ n) (h2 : b.natAbs < 2 ^ n) : Sz n (Rat.divInt t b) := by
  have e := low_eq (t := t) hb
  have e1 : (low t b).1 = (Rat.divInt t b).num := congrArg Prod.fst e
  have e2 : (low t b).2 = ((Rat.divInt t b).den : Int) := congrArg Prod.snd e
  have l1 := low_top_le (t := t) hb
  have l2 := low_bot_le (t := t) hb
  constructor
  · rw [← e1]; omega
  · have : ((low t b).2).natAbs < 2 ^ n := by omega
    rw [e2] at this
    simpa using this
theorem two_lt {x y n m : Nat} (h1 : x < 2 ^ n) (h2 : y < 2 ^ m) : x * y < 2 ^ (n + m) := by
  rw [Nat.pow_add]
  exact Nat.mul_lt_mul'' h1 h2
theorem sz_sum {a b c d : Int} {n m : Nat} (h1 : a.natAbs < 2 ^ n) (h2 : d.natAbs < 2 ^ m) (h3 : c.natAbs < 2 ^ m) (h4 : b.natAbs < 2 ^ n) : (a * d + c * b).natAbs < 2 ^ (n + m + 1) ∧ (a * d - c * b).natAbs < 2 ^ (n + m + 1) := by
  have e1 : (a * d).natAbs < 2 ^ (n + m) := by rw [Int.natAbs_mul]; exact two_lt h1 h2
  have e2 : (c * b).natAbs < 2 ^ (n + m) := by rw [Int.natAbs_mul, Nat.add_comm]; exact two_lt h3 h4
  have e3 : 2 ^ (n + m + 1) = 2 * 2 ^ (n + m) := by rw [Nat.pow_succ, Nat.mul_comm]
  omega
theorem sz_plus {n m : Nat} {r s : Rat} (hr : Sz n r) (hs : Sz m s) : Sz (n + m + 1) (r + s) ∧ Sz (n + m + 1) (r - s) := by
  have d1 : ((r.den : Int)).natAbs < 2 ^ n := by simpa using hr.2
  have d2 : ((s.den : Int)).natAbs < 2 ^ m := by simpa using hs.2
  have hd : ((r.den : Int) * s.den).natAbs < 2 ^ (n + m + 1) := by
    have : ((r.den : Int) * s.den).natAbs < 2 ^ (n + m) := by rw [Int.natAbs_mul]; exact two_lt d1 d2
    exact Nat.lt_of_lt_of_le this (Nat.pow_le_pow_right (by decide) (by omega))
  have hn := sz_sum hr.1 d2 hs.1 d1
  have ne := Int.mul_ne_zero (den_ne r) (den_ne s)
  constructor
  · have := sz_of_low ne hn.1 hd
    rw [← Rat.divInt_add_divInt _ _ (den_ne r) (den_ne s), Rat.num_divInt_den, Rat.num_divInt_den] at this
    exact this
  · have := sz_of_low ne hn.2 hd
    rw [← Rat.divInt_sub_divInt _ _ (den_ne r) (den_ne s), Rat.num_divInt_den, Rat.num_divInt_den] at this
    exact this
theorem sz_times {n m : Nat} {r : Rat} {k : Int} (hr : Sz n r) (hk : k.natAbs < 2 ^ m) : Sz (n + m) (r * Rat.divInt k 1) := by
  have e : r * Rat.divInt k 1 = Rat.divInt (r.num * k) r.den := by
    have : Rat.divInt (r.num * k) (r.den : Int) = Rat.divInt r.num r.den * Rat.divInt k 1 := by rw [Rat.divInt_mul_divInt, Int.mul_one]
    rw [this, Rat.num_divInt_den]
  rw [e]
  refine sz_of_low (den_ne r) (by rw [Int.natAbs_mul]; exact two_lt hr.1 hk) ?_
  have d1 : ((r.den : Int)).natAbs < 2 ^ n := by simpa using hr.2
  exact Nat.lt_of_lt_of_le d1 (Nat.pow_le_pow_right (by decide) (by omega))
theorem sz_over {n m : Nat} {r : Rat} {k : Int} (hr : Sz n r) (h : k ≠ 0) (hk : k.natAbs < 2 ^ m) : Sz (n + m) (r * Rat.divInt 1 k) := by
  have e : r * Rat.divInt 1 k = Rat.divInt r.num (r.den * k) := by
    have : Rat.divInt r.num (r.den * k : Int) = Rat.divInt r.num r.den * Rat.divInt 1 k := by rw [Rat.divInt_mul_divInt, Int.mul_one]
    rw [this, Rat.num_divInt_den]
  rw [e]
  have d1 : ((r.den : Int)).natAbs < 2 ^ n := by simpa using hr.2
  refine sz_of_low (Int.mul_ne_zero (den_ne r) h) (Nat.lt_of_lt_of_le hr.1 (Nat.pow_le_pow_right (by decide) (by omega))) ?_
  rw [Int.natAbs_mul]
  exact two_lt d1 hk
end KM
set_option linter.all false
set_option Elab.async false
set_option maxRecDepth 100000
/-! TX: the texts of whole numbers and of fractions, sign by sign. -/
namespace TX
open PySem SX TL NumText
/-- the signs of a whole number -/
def intL (i : Int) : List Nat := if i < 0 then 45 :: numL i.natAbs else numL i.natAbs
theorem tl_int (i : Int) : Str.ofString (toString i) = S (intL i) := by
  by_cases h : i < 0
  · obtain ⟨n, rfl⟩ : ∃ n : Nat, i = -((n + 1 : Nat) : Int) := ⟨i.natAbs - 1, by omega⟩
    have e : toString (-((n + 1 : Nat) : Int)) = "-" ++ toString ((n + 1 : Nat) : Int) := by rfl
    unfold intL
    rw [if_pos h, e]
    have e2 : (-((n + 1 : Nat) : Int)).natAbs = n + 1 := by omega
    rw [e2]
    refine TL.ext_tl ?_
    have e3 : (Str.ofString (toString ((n + 1 : Nat) : Int))).cps.toList = numL (n + 1) := tl_num (n + 1)
    show (Str.ofString ("-" ++ toString ((n + 1 : Nat) : Int))).cps.toList = 45 :: numL (n + 1)
    rw [← e3]
    rw [Str.ofString_eq_toList, Str.ofString_eq_toList, String.toList_append]
    rfl
  · obtain ⟨n, rfl⟩ := Int.eq_ofNat_of_zero_le (by omega : 0 ≤ i)
    unfold intL
    rw [if_neg h]
    exact num_S n
theorem no_minus (n : Nat) : 45 ∉ numL n := numL_free (.inl (by decide))
theorem no_stroke_int (i : Int) : 47 ∉ intL i := by
  unfold intL
  split
  · intro h
    rcases List.mem_cons.mp h with z | z
    · cases z
    · exact numL_free (.inl (by decide)) z
  · exact numL_free (.inl (by decide))
theorem minus_S : (Str.ofString "-") = S [45] := by decide +kernel
theorem stroke_S : (Str.ofString "/") = S [47] := by decide +kernel
theorem one_S : (Str.ofString "1") = S [49] := by decide +kernel
theorem zero_S : (Str.ofString "0") = S [48] := by decide +kernel
theorem empty_S : (Str.ofString "") = S [] := by decide +kernel
theorem rp_cons (l : List Nat) : Txt.removeprefix (S (45 :: l)) (S [45]) = S l := by
  rw [StrLaws.removeprefix_eq, StrLaws.subAt_eq]
  have h1 : (decide (0 + (S [45]).length ≤ (S (45 :: l)).length)) = true := by
    rw [S_len, S_len]
    simp
  rw [h1]
  have h2 : (((S (45 :: l)).cps.toList.drop 0).take (S [45]).length == (S [45]).cps.toList) = true := by
    rw [S_len]
    simp
  rw [h2]
  simp only [Bool.and_self, if_true]
  rw [S_len, S_len]
  simp
theorem rp_other {c : Nat} {l : List Nat} (h : c ≠ 45) : Txt.removeprefix (S (c :: l)) (S [45]) = S (c :: l) := by
  rw [StrLaws.removeprefix_eq, StrLaws.subAt_eq]
  have h2 : (((S (c :: l)).cps.toList.drop 0).take (S [45]).length == (S [45]).cps.toList) = false := by
    rw [S_len]
    simp [h]
  rw [h2, Bool.and_false]
  simp
theorem rp_int (i : Int) : Txt.removeprefix (S (intL i)) (S [45]) = S (numL i.natAbs) := by
  unfold intL
  split
  · exact rp_cons _
  · have hne := numL_ne i.natAbs
    have hno := no_minus i.natAbs
    cases hl : numL i.natAbs with
    | nil => exact absurd hl hne
    | cons c l =>
      rw [hl] at hno
      exact rp_other fun z => hno (by rw [z]; exact List.mem_cons_self ..)
theorem intL_len {i : Int} {k : Nat} (hk : 0 < k) (h : i.natAbs < 10 ^ k) : (intL i).length ≤ k + 1 := by
  have := numL_len hk h
  unfold intL
  split
  · rw [List.length_cons]; omega
  · omega
theorem int_int {i : Int} (h : (intL i).length ≤ 4300) : intText? (S (intL i)) = some i := by
  unfold intL at h ⊢
  split
  · rename_i hi
    have e := intText_neg (x := S (45 :: numL i.natAbs)) (cs := numL i.natAbs) rfl (numL_digits _) (numL_ne _) (by rw [S_len]; rw [if_pos hi] at h; exact h)
    rw [e, numL_val]
    congr 1
    omega
  · rename_i hi
    have e := intText_digits (x := S (numL i.natAbs)) (numL_digits _) (numL_ne _) (by rw [S_len]; rw [if_neg hi] at h; exact h)
    rw [e]
    show some ((digitsVal (numL i.natAbs) : Nat) : Int) = some i
    rw [numL_val]
    congr 1
    omega
/-- the text of a fraction -/
def txL (r : Rat) : List Nat := if r.den = 1 then intL r.num else intL r.num ++ (47 :: numL r.den)
theorem numL_head : ∀ n : Nat, 0 < n → ∃ c l, numL n = c :: l ∧ c ≠ 48 := by
  intro n
  induction n using Nat.strongRecOn with
  | _ n ih =>
    intro hn
    by_cases h : n < 10
    · rw [numL_lt h]
      exact ⟨48 + n, [], rfl, by omega⟩
    · rw [numL_step (by omega)]
      obtain ⟨c, l, e, hc⟩ := ih (n / 10) (by omega) (by omega)
      exact ⟨c, l ++ [48 + n % 10], by rw [e]; rfl, hc⟩
theorem numL_zero : numL 0 = [48] := numL_lt (by decide)
theorem part_one (i : Int) : Txt.partition (S (intL i)) (S [47]) = (S (intL i), S [], S []) := partition_none (by simp) (par_head_none (no_stroke_int i))
theorem part_two (i : Int) (l : List Nat) : Txt.partition (S (intL i ++ (47 :: l))) (S [47]) = (S (intL i), S [47], S l) := partition_some (by simp) (par_head (sep := []) l (no_stroke_int i))
theorem numL_pow {n k : Nat} (h : n < 2 ^ k) (hk : 0 < k) : (numL n).length ≤ k := numL_len hk (Nat.lt_of_lt_of_le h (Nat.pow_le_pow_left (by decide) k))
theorem intL_pow {i : Int} {k : Nat} (h : i.natAbs < 2 ^ k) (hk : 0 < k) : (intL i).length ≤ k + 1 := intL_len hk (Nat.lt_of_lt_of_le h (Nat.pow_le_pow_left (by decide) k))
theorem txL_len {r : Rat} {k : Nat} (h : KM.Sz k r) (hk : 0 < k) : (txL r).length ≤ 2 * k + 2 := by
  have h1 := intL_pow h.1 hk
  have h2 := numL_pow h.2 hk
  unfold txL
  split
  · omega
  · rw [List.length_append, List.length_cons]; omega
end TX
set_option Elab.async false
set_option linter.all false
set_option maxRecDepth 100000
set_option maxHeartbeats 4000000
/-! OW: ==, !=, str and repr of instances of an own class by its own __eq__, __str__, __repr__. -/
namespace OW
open PySem PySem.Spec PyProof.Rows L2
/-- what is known of a special def of the class: where it stands, that it keeps its promise -/
structure Spc (P : Program) (w : World) (K : PySem.W.Frag) (mg : Str → Option Value) (base : Heap) (k : Nat) (C : Addr) (m : Str) (sp : Sp) : Prop where
  ex : ∃ (f : Addr) (fd : FuncData) (ps : List Str), PySem.W.findIn K (.ref C) m = some (some (.ref f)) ∧ PySem.W.isFn K (.ref f) = true ∧ FnOk P w K mg base CX0 k f fd ps sp ∧ Binds K fd ps []
section
variable {X : Cx} {pins : List (Addr × Obj)} {σ : L2.St} {H : Hp} {s : Shared} {Q : VK} {k : Nat} {C a b : Addr} {sp : Sp}
/-- a def called at any around with room -/
theorem run_at {f : Addr} {fd : FuncData} {ps : List Str} {A : Around} {us : List Value} {vs : List V} {E' : Value → Shared → Prop} (F : FnOk X.prog X.w X.K X.mg X.base CX0 k f fd ps sp) (hb : Binds X.K fd ps []) (hr : Room k A) (I : Inv X pins σ H s)
    (he : Env0 X.prog X.w X.K X.mg X.base A X.stack s H) (r : Vals vs us) (h : sp vs H Q E0) : wpAny (model X.prog X.w) A (call (.ref f) us) (EP X pins σ Q) E' s := by
  have hl : us.length = ps.length := by rw [← r.length]; exact F.len _ _ _ _ h
  have b := hb s us I.kIn (by rw [List.append_nil]; exact hl)
  rw [List.append_nil] at b
  refine wpAny_call (codeAny_mono (F.run A X.stack s H ⟨us, []⟩ us vs Q E0 hr he b r h) fun r s' hq => ?_)
  cases r with
  | error e => exact False.elim hq
  | ok fl =>
    cases fl with
    | ret u => exact I.after hq
    | next => exact False.elim hq
    | brk => exact False.elim hq
    | cont => exact False.elim hq
theorem same_first : PySem.W.notFirst X.K C (.ref C) = true := by
  unfold PySem.W.notFirst
  rw [beq_self_eq_true, Bool.true_or]
/-- x == y, both of the class -/
def rEqO (C : Addr) (sp : Sp) : R2 := fun x y H Q => ∃ a dx fs b dy gs, x = .ref a ∧ y = .ref b ∧ H a = some (.ins C dx fs) ∧ H b = some (.ins C dy gs) ∧ sp [x, y] H (fun v H' => ∃ z, v = .bl z ∧ Q (.bl z) H') E0
def rNeO (C : Addr) (sp : Sp) : R2 := fun x y H Q => ∃ a dx fs b dy gs, x = .ref a ∧ y = .ref b ∧ H a = some (.ins C dx fs) ∧ H b = some (.ins C dy gs) ∧ sp [x, y] H (fun v H' => ∃ z, v = .bl z ∧ Q (.bl (!z)) H') E0
theorem op_eqO (S : Spc X.prog X.w X.K X.mg X.base k C "__eq__" sp) (hr : Room k X.A) : OpR X (compareOp .Eq) (rEqO C sp) := by
  obtain ⟨f, fd, ps, h1, h2, F, hb⟩ := S.ex
  intro pins s σ H x y v u Q I rx ry h
  obtain ⟨a, dx, fs, b, dy, gs, rfl, rfl, ea, eb, q⟩ := h
  cases (show v = Value.ref a from rx)
  cases (show u = Value.ref b from ry)
  obtain ⟨mA, O, _⟩ := ins_get I.hok ea
  obtain ⟨od, J, _⟩ := O.look
  obtain ⟨mB, O', _⟩ := ins_get I.hok eb
  obtain ⟨od', J', _⟩ := O'.look
  obtain ⟨m, hF⟩ := I.fr
  show wpAny _ _ (richCompare .Eq (.ref a) (.ref b)) _ _ _
  refine PySem.W.cmp_K (op := .Eq) (tb := .ref C) hr.units0 hF I.ok.mod.kin J J'.type same_first h1 h2 ?_
  refine wpAny_mono (run_at (E' := X.xe) (vs := [.ref a, .ref b]) F hb hr I I.env0 (.cons rfl (.cons rfl .nil)) q) (fun w s' z => ?_) fun _ _ x => x
  obtain ⟨z', H', I', rz, z, rfl, qz⟩ := z
  cases (show w = Value.bool z from rz)
  exact ⟨.bl z, H', I', rfl, qz⟩
open Builtin in
theorem op_neO (S : Spc X.prog X.w X.K X.mg X.base (k + 1) C "__eq__" sp) (hn : PySem.W.findIn X.K (.ref C) "__ne__" = some (some (.builtin "object.__ne__"))) (hm : PySem.W.mroIn X.K C (.type "object") = some true) (hr : Room (k + 2) X.A) : OpR X (compareOp .NotEq) (rNeO C sp) := by
  obtain ⟨f, fd, ps, h1, h2, F, hb⟩ := S.ex
  intro pins s σ H x y v u Q I rx ry h
  obtain ⟨a, dx, fs, b, dy, gs, rfl, rfl, ea, eb, q⟩ := h
  cases (show v = Value.ref a from rx)
  cases (show u = Value.ref b from ry)
  obtain ⟨mA, O, _⟩ := ins_get I.hok ea
  obtain ⟨od, J, _⟩ := O.look
  obtain ⟨mB, O', _⟩ := ins_get I.hok eb
  obtain ⟨od', J', _⟩ := O'.look
  have KI := I.kIn
  have callEq : wpAny (model X.prog X.w) X.A.in1 (call (.ref f) [.ref a, .ref b]) (fun v s' => ∃ z, v = .bool z ∧ EP X pins σ Q (.bool (!z)) s') X.xe s := by
    refine wpAny_mono (run_at (E' := X.xe) (vs := [.ref a, .ref b]) F hb hr.in1 I I.env0.in1 (.cons rfl (.cons rfl .nil)) q) (fun w s' z => ?_) fun _ _ x => x
    obtain ⟨z', H', I', rz, z, rfl, qz⟩ := z
    exact ⟨z, rz, .bl (!z), H', I', rfl, qz⟩
  have slot := PySem.F.cmp_object.ne
  have sub : PySem.W.Looks (model X.prog X.w) s.heap (isInstance (.ref a) (.type "object")) true := J.type.andThen (PySem.W.looks_mroIn KI hm)
  have uu : X.A.in1.units < cLine := hr.in1.units0
  have body : wpAny (model X.prog X.w) X.A.in1 (Builtin.«object.__ne__» ⟨[.ref a, .ref b], []⟩) (fun fin s' => match fin with | .done f => (match f with | .ret v => EP X pins σ Q v s' ∧ ∃ z, v = .bool z | _ => False) | .again _ => False) X.xe s := by
    unfold Builtin.«object.__ne__»
    repeat (first
      | with_reducible refine wpAny_cRoomFor uu ?_
      | (refine wpAny_bind (m := callSpecialIfBound? (.ref a) (Str.ofString "__eq__") [.ref b]) (PySem.W.ifBound_K KI J h1 h2 (wpAny_mono callEq (fun r s' hr => by
          obtain ⟨z, rfl, hq⟩ := hr
          repeat (first | exact ⟨hq, _, rfl⟩ | exact wpAny_pure ⟨hq, _, rfl⟩ | (refine wpAny_bind (m := truthy (.bool _)) (wpAny_truthy_bool ?_)) | wp_step)) fun _ _ e => e)))
      | wp_step)
  have callNe : wpAny (model X.prog X.w) X.A (call (.builtin "object.__ne__") [.ref a, .ref b]) (fun v s' => EP X pins σ Q v s' ∧ ∃ z, v = .bool z) X.xe s := by
    refine wpAny_call (codeAny_call_builtin slot.plain PySem.F.cmpEntry_ne (PySem.W.check_slot PySem.F.cmpKind_ne PySem.F.cmpSplit_ne sub (PySem.F.cmpArgs_ne _ _) ?_))
    refine wpAny_mono body (fun fin s' z => ?_) fun _ _ x => x
    cases fin with
    | done fl =>
      cases fl with
      | ret v => exact z
      | next => exact z.elim
      | brk => exact z.elim
      | cont => exact z.elim
    | again c => exact z.elim
  show wpAny _ _ (richCompare .NotEq (.ref a) (.ref b)) _ _ _
  unfold richCompare
  simp only [oneThing_ref]
  refine wpAny_holding (wpAny_bind (wpAny_cRoomFor hr.units0 ?_))
  rw [cmpInfo_NotEq]
  dsimp only
  refine wpAny_bind (J.type.here (wpAny_bind (J'.type.here ?_)))
  rw [show (Value.ref C != Value.ref C) = false from by simp]
  simp only [Bool.false_eq_true, if_false]
  refine wpAny_bind (wpAny_pure ?_)
  simp only [Bool.false_eq_true, if_false, tryCompare]
  have fin : wpAny (model X.prog X.w) X.A (call (.builtin "object.__ne__") ([.ref a] ++ [.ref b]) >>= fun v => pure (some v)) (fun r s' => ∃ v, r = some v ∧ EP X pins σ Q v s' ∧ ∃ z, v = .bool z) X.xe s :=
    wpAny_bind (wpAny_mono callNe (fun v s' h' => wpAny_pure ⟨v, rfl, h'⟩) fun _ _ h' => h')
  have bound : wpAny (model X.prog X.w) X.A (callSpecialIfBound? (.ref a) "__ne__" [.ref b]) (fun r s' => ∃ v, r = some v ∧ EP X pins σ Q v s' ∧ ∃ z, v = .bool z) X.xe s := by
    simp only [callSpecialIfBound?, bindSpecialIfBound?]
    refine wpAny_holding (wpAny_bind (wpAny_bind (wpAny_bind (J.type.here ((PySem.W.looks_findIn KI hn).here ?_)))))
    simp only [slot.bind]
    refine wpAny_bind (wpAny_askSetting (wpAny_ite ?_))
    split
    · exact wpAny_bind (wpAny_pure (wpAny_pure fin))
    · exact wpAny_tryCatch (wpAny_bind (wpAny_pure (wpAny_pure fin)))
  refine wpAny_bind (wpAny_bind (wpAny_mono bound (fun r s' z => ?_) fun _ _ h => h))
  obtain ⟨v, rfl, hq, z, rfl⟩ := z
  first | exact wpAny_pure (wpAny_pure hq) | exact wpAny_pure hq
/-- str(x), repr(x) -/
def rStrO (C : Addr) (sp : Sp) : List V → Hp → VK → Prop := fun xs H Q => ∃ a dx fs, xs = [.ref a] ∧ H a = some (.ins C dx fs) ∧ sp [.ref a] H (fun v H' => ∃ z, v = .str z ∧ Q (.str z) H') E0
theorem call_strO (S : Spc X.prog X.w X.K X.mg X.base k C "__str__" sp) (hr : Room (k + 2) X.A) : CallR X (.type "str") (rStrO C sp) := by
  obtain ⟨f, fd, ps, h1, h2, F, hb⟩ := S.ex
  intro pins s σ H xs us Q I r h
  obtain ⟨a, dx, fs, rfl, ea, q⟩ := h
  obtain ⟨u, rfl, ru⟩ := vals1 r
  cases (show u = Value.ref a from ru)
  obtain ⟨mA, O, _⟩ := ins_get I.hok ea
  obtain ⟨od, J, _⟩ := O.look
  refine PySem.W.kso_call hr.in1.in1.units0 I.kIn J h1 h2 ?_
  refine wpAny_mono (run_at (E' := X.xe) (vs := [.ref a]) F hb hr.in1.in1 I I.env0.in1.in1 (.cons rfl .nil) q) (fun w s' z => ?_) fun _ _ x => x
  obtain ⟨z', H', I', rz, z, rfl, qz⟩ := z
  obtain ⟨t, rfl⟩ := rz
  exact ⟨.str z, H', I', ⟨t, rfl⟩, qz⟩
theorem call_reprO (S : Spc X.prog X.w X.K X.mg X.base k C "__repr__" sp) (hr : Room (k + 1) X.A) : CallR X (.builtin "repr") (rStrO C sp) := by
  obtain ⟨f, fd, ps, h1, h2, F, hb⟩ := S.ex
  intro pins s σ H xs us Q I r h
  obtain ⟨a, dx, fs, rfl, ea, q⟩ := h
  obtain ⟨u, rfl, ru⟩ := vals1 r
  cases (show u = Value.ref a from ru)
  obtain ⟨mA, O, _⟩ := ins_get I.hok ea
  obtain ⟨od, J, _⟩ := O.look
  obtain ⟨m, hF⟩ := I.fr
  refine PySem.W.repr_K hr.in1.units0 hF I.ok.mod.kin J h1 h2 ?_
  refine wpAny_mono (run_at (E' := X.xe) (vs := [.ref a]) F hb hr.in1 I I.env0.in1 (.cons rfl .nil) q) (fun w s' z => ?_) fun _ _ x => x
  obtain ⟨z', H', I', rz, z, rfl, qz⟩ := z
  obtain ⟨t, rfl⟩ := rz
  exact ⟨.str z, H', I', ⟨t, rfl⟩, qz⟩
end
end OW
set_option Elab.async false
set_option linter.all false
set_option maxRecDepth 100000
set_option maxHeartbeats 4000000
/-! TD: texts of whole numbers and of fractions, read. -/
namespace TD
open PySem SX TL NumText TX PyProof.Rows
def Dig (l : List Nat) : Prop := ∀ c ∈ l, 48 ≤ c ∧ c ≤ 57
/-- the figures of a number: no nought before another -/
def IsN (l : List Nat) : Prop := l = [48] ∨ (l ≠ [] ∧ l.head? ≠ some 48 ∧ Dig l)
theorem isN_num (n : Nat) : IsN (numL n) := by
  by_cases h : n = 0
  · subst h
    exact .inl numL_zero
  · obtain ⟨c, l, e, hc⟩ := numL_head n (by omega)
    refine .inr ⟨numL_ne n, ?_, numL_digits n⟩
    rw [e]
    simpa using hc
theorem IsN.dig {l : List Nat} (h : IsN l) : Dig l := by
  rcases h with rfl | h
  · intro c hc
    simp at hc
    omega
  · exact h.2.2
theorem IsN.ne {l : List Nat} (h : IsN l) : l ≠ [] := by
  rcases h with rfl | h
  · simp
  · exact h.1
theorem num_of : ∀ (n : Nat) (l : List Nat), l.length = n → l ≠ [] → l.head? ≠ some 48 → Dig l → numL (digitsVal l) = l ∧ 0 < digitsVal l
  | 0, l, e, h, _, _ => absurd (List.length_eq_zero_iff.mp e) h
  | n + 1, l, e, h, h0, hd => by
    obtain ⟨m, c, rfl⟩ : ∃ m c, l = m ++ [c] := ⟨l.dropLast, l.getLast h, (List.dropLast_concat_getLast h).symm⟩
    have hc := hd c (by simp)
    rw [digitsVal_snoc]
    by_cases hm : m = []
    · subst hm
      have c48 : c ≠ 48 := by simpa using h0
      have z : digitsVal [] = 0 := rfl
      rw [z, Nat.zero_mul, Nat.zero_add, numL_lt (by omega)]
      refine ⟨?_, by omega⟩
      have : 48 + (c - 48) = c := by omega
      rw [this]
      rfl
    · have hl : m.length = n := by simp at e; omega
      have h0' : m.head? ≠ some 48 := by
        cases m with
        | nil => exact absurd rfl hm
        | cons a r => simpa using h0
      obtain ⟨i1, i2⟩ := num_of n m hl hm h0' fun x hx => hd x (by simp [hx])
      have ge : 10 ≤ digitsVal m * 10 + (c - 48) := by omega
      rw [numL_step ge]
      have d1 : (digitsVal m * 10 + (c - 48)) / 10 = digitsVal m := by omega
      have d2 : (digitsVal m * 10 + (c - 48)) % 10 = c - 48 := by omega
      rw [d1, d2, i1]
      refine ⟨?_, by omega⟩
      have : 48 + (c - 48) = c := by omega
      rw [this]
theorem isN_val {l : List Nat} (h : IsN l) : l = numL (digitsVal l) := by
  rcases h with rfl | ⟨h1, h2, h3⟩
  · exact numL_zero.symm
  · exact (num_of _ l rfl h1 h2 h3).1.symm
/-- what int makes of a sign and figures -/
theorem int_pos {l : List Nat} (h : Dig l) (n : l ≠ []) (k : l.length ≤ 4300) : intText? (S l) = some ((digitsVal l : Nat) : Int) := intText_digits (x := S l) (by rw [show (S l).cps.toList = l by simp [S]]; exact h) (by rw [show (S l).cps.toList = l by simp [S]]; exact n) (by rw [S_len]; exact k)
theorem int_neg {l : List Nat} (h : Dig l) (n : l ≠ []) (k : l.length ≤ 4000) : intText? (S (45 :: l)) = some (-((digitsVal l : Nat) : Int)) := intText_neg (x := S (45 :: l)) (by simp [S]) h n (by rw [S_len, List.length_cons]; omega)
/-- of the form of a whole number: a stroke perhaps, figures -/
def IsW (t : List Nat) : Prop := IsN t ∨ ∃ l, t = 45 :: l ∧ IsN l
theorem isW_int (i : Int) : IsW (intL i) := by
  unfold intL
  split
  · exact .inr ⟨_, rfl, isN_num _⟩
  · exact .inl (isN_num _)
/-- its number -/
def wv (t : List Nat) : Int := match t with
  | 45 :: l => -((digitsVal l : Nat) : Int)
  | l => ((digitsVal l : Nat) : Int)
theorem wv_neg (l : List Nat) : wv (45 :: l) = -((digitsVal l : Nat) : Int) := rfl
theorem wv_pos {l : List Nat} (h : Dig l) : wv l = ((digitsVal l : Nat) : Int) := by
  unfold wv
  split
  · rename_i m
    have := (h 45 (by simp)).1
    omega
  · rfl
theorem isW_text {t : List Nat} (h : IsW t) (k : t.length ≤ 640) : intText? (S t) = some (wv t) := by
  rcases h with h | ⟨l, rfl, h⟩
  · rw [wv_pos h.dig]
    exact int_pos h.dig h.ne (by omega)
  · rw [wv_neg]
    exact int_neg h.dig h.ne (by simp at k; omega)
/-- all but -0 -/
theorem isW_back {t : List Nat} (h : IsW t) (n : t ≠ [45, 48]) : t = intL (wv t) := by
  rcases h with h | ⟨l, rfl, h⟩
  · rw [wv_pos h.dig]
    unfold intL
    rw [if_neg (by omega), Int.natAbs_natCast]
    exact isN_val h
  · rw [wv_neg]
    have pos : 0 < digitsVal l := by
      rcases h with rfl | ⟨h1, h2, h3⟩
      · exact absurd rfl n
      · exact (num_of _ l rfl h1 h2 h3).2
    unfold intL
    rw [if_pos (by omega), Int.natAbs_neg, Int.natAbs_natCast, ← isN_val h]
theorem intL_not (i : Int) : intL i ≠ [45, 48] := by
  unfold intL
  split
  · intro h
    have h2 : numL i.natAbs = [48] := by simpa using h
    have := numL_inj (h2.trans numL_zero.symm)
    omega
  · intro h
    exact no_minus i.natAbs (by rw [h]; simp)
theorem intL_wv (i : Int) : wv (intL i) = i := by
  unfold intL
  split
  · rw [wv_neg, numL_val]
    omega
  · rw [wv_pos (numL_digits _), numL_val]
    omega
theorem intL_inj {i j : Int} (h : intL i = intL j) : i = j := by rw [← intL_wv i, h, intL_wv]
/-! ### fractions -/
def tq (q : Int × Int) : List Nat := if q.2 = 1 then intL q.1 else intL q.1 ++ 47 :: intL q.2
/-- the text of a fraction in lowest terms -/
def Fr (z : List Nat) (q : Int × Int) : Prop := z = tq q ∧ 0 < q.2 ∧ Int.gcd q.1 q.2 = 1
def NoFr (z : List Nat) : Prop := ∀ q, ¬ Fr z q
theorem cut_eq {a b c d : List Nat} (h1 : 47 ∉ a) (h2 : 47 ∉ c) (e : a ++ 47 :: b = c ++ 47 :: d) : a = c ∧ b = d := by
  induction a generalizing c with
  | nil =>
    cases c with
    | nil => exact ⟨rfl, by simpa using e⟩
    | cons x c =>
      simp at e
      exact absurd (by rw [← e.1]; simp) h2
  | cons y a ih =>
    cases c with
    | nil =>
      simp at e
      exact absurd (by rw [e.1]; simp) h1
    | cons x c =>
      simp at e
      obtain ⟨i1, i2⟩ := ih (c := c) (fun z => h1 (List.mem_cons_of_mem _ z)) (fun z => h2 (List.mem_cons_of_mem _ z)) e.2
      exact ⟨by rw [e.1, i1], i2⟩
/-- without a stroke -/
theorem fr_one {z : List Nat} {q : Int × Int} (h : 47 ∉ z) (f : Fr z q) : z = intL q.1 ∧ q.2 = 1 := by
  obtain ⟨e, p, g⟩ := f
  unfold tq at e
  split at e
  · exact ⟨e, by assumption⟩
  · exact absurd (by rw [e]; simp) h
theorem fr_two {a b : List Nat} {q : Int × Int} (h : 47 ∉ a) (f : Fr (a ++ 47 :: b) q) : a = intL q.1 ∧ b = intL q.2 ∧ 2 ≤ q.2 := by
  obtain ⟨e, p, g⟩ := f
  unfold tq at e
  split at e
  · exact absurd (by rw [← e]; simp) (no_stroke_int q.1)
  · obtain ⟨h1, h2⟩ := cut_eq h (no_stroke_int _) e
    exact ⟨h1, h2, by omega⟩
theorem split47 : ∀ (z : List Nat), 47 ∈ z → ∃ a b, z = a ++ 47 :: b ∧ 47 ∉ a
  | [], h => by simp at h
  | c :: z, h => by
    by_cases hc : c = 47
    · exact ⟨[], z, by rw [hc]; rfl, by simp⟩
    · have hz : 47 ∈ z := by
        rcases List.mem_cons.mp h with e | e
        · exact absurd e.symm hc
        · exact e
      obtain ⟨a, b, e, n⟩ := split47 z hz
      exact ⟨c :: a, b, by rw [e]; rfl, fun x => by
        rcases List.mem_cons.mp x with y | y
        · exact hc y.symm
        · exact n y⟩
theorem par_no {z : List Nat} (h : 47 ∉ z) : Txt.partition (S z) (S [47]) = (S z, S [], S []) := partition_none (by simp) (par_head_none h)
theorem par_at {a : List Nat} (b : List Nat) (h : 47 ∉ a) : Txt.partition (S (a ++ 47 :: b)) (S [47]) = (S a, S [47], S b) := partition_some (by simp) (par_head (sep := []) b h)
theorem at_iff {l : List Nat} {i : Nat} : StrLaws.At (S l) (S [47]) (S l).length i ↔ l[i]? = some 47 := by
  unfold StrLaws.At
  rw [StrLaws.subAt_eq, S_len, S_len]
  simp only [List.length_cons, List.length_nil, Bool.and_eq_true, decide_eq_true_eq, beq_iff_eq]
  constructor
  · rintro ⟨h1, h3⟩
    have hi : i < l.length := by omega
    have : (l.drop i).take 1 = [47] := by simpa [S] using h3
    rw [List.drop_eq_getElem_cons hi] at this
    rw [List.getElem?_eq_getElem hi]
    exact congrArg some (List.cons.inj this).1
  · intro h
    have hi : i < l.length := by
      by_cases z : i < l.length
      · exact z
      · rw [List.getElem?_eq_none (by omega)] at h
        cases h
    rw [List.getElem?_eq_getElem hi] at h
    have h := Option.some.inj h
    refine ⟨by omega, ?_⟩
    show ((S l).cps.toList.drop i).take 1 = (S [47]).cps.toList
    have e1 : (S l).cps.toList = l := by simp [S]
    have e2 : (S [47]).cps.toList = [47] := by simp [S]
    rw [e1, e2, List.drop_eq_getElem_cons hi, h]
    rfl
theorem find_no {l : List Nat} (h : 47 ∉ l) : Txt.find (S l) (S [47]) = -1 := by
  rcases find_whole (S l) (S [47]) with ⟨e, _⟩ | ⟨i, _, a, _⟩
  · exact e
  · exact absurd (List.mem_of_getElem? (at_iff.mp a)) h
theorem find_at {a : List Nat} (b : List Nat) (h : 47 ∉ a) : Txt.find (S (a ++ 47 :: b)) (S [47]) = (a.length : Int) := by
  have hl : (a ++ 47 :: b)[a.length]? = some 47 := by simp
  rcases find_whole (S (a ++ 47 :: b)) (S [47]) with ⟨_, n⟩ | ⟨i, e, x, n⟩
  · exact absurd (at_iff.mpr hl) (n _)
  · rw [e]
    have h1 : ¬ a.length < i := fun z => n _ z (at_iff.mpr hl)
    have h2 : ¬ i < a.length := fun z => by
      have := at_iff.mp x
      rw [List.getElem?_append_left z] at this
      exact h (List.mem_of_getElem? this)
    have : i = a.length := by omega
    rw [this]
/-! ### strip -/
theorem tw_all {g : Nat → Bool} : ∀ {l : List Nat}, (∀ c ∈ l, g c = true) → l.takeWhile g = l
  | [], _ => rfl
  | c :: l, h => by
    rw [List.takeWhile_cons, if_pos (h c List.mem_cons_self), tw_all fun d hd => h d (List.mem_cons_of_mem _ hd)]
theorem tw_le {g : Nat → Bool} : ∀ (l : List Nat), (l.takeWhile g).length ≤ l.length
  | [] => Nat.le_refl _
  | c :: l => by
    rw [List.takeWhile_cons]
    split
    · simp only [List.length_cons]
      exact Nat.succ_le_succ (tw_le l)
    · simp
theorem tw_len {g : Nat → Bool} : ∀ {l : List Nat}, (l.takeWhile g).length = l.length → ∀ c ∈ l, g c = true
  | [], _ => by simp
  | c :: l, h => by
    rw [List.takeWhile_cons] at h
    split at h
    · rename_i hc
      simp only [List.length_cons, Nat.succ.injEq] at h
      intro d hd
      rcases List.mem_cons.mp hd with rfl | hd
      · exact hc
      · exact tw_len (by omega) d hd
    · simp at h
theorem fig_iff (c : Nat) : (Str.ofString "0123456789").cps.contains c = true ↔ 48 ≤ c ∧ c ≤ 57 := by
  have e : (Str.ofString "0123456789").cps = #[48, 49, 50, 51, 52, 53, 54, 55, 56, 57] := by decide +kernel
  rw [e]
  simp
  omega
theorem strip_cut (l : List Nat) : Txt.stripChars (S l) (Str.ofString "0123456789") = S ((l.take (l.length - (((l.drop (l.takeWhile (Str.ofString "0123456789").cps.contains).length).reverse.takeWhile (Str.ofString "0123456789").cps.contains).length))).drop (l.takeWhile (Str.ofString "0123456789").cps.contains).length) := by
  unfold Txt.stripChars
  rw [stripBy_eq]
  unfold stripLo stripHi
  rw [if_pos rfl, if_pos rfl, show (S l).cps.toList = l by simp [S], S_len]
  refine TL.ext_tl ?_
  simp [Builtin.Str.strSub, S, TL.tl, List.drop_take]
theorem strip_dig {l : List Nat} (h : Dig l) : Txt.stripChars (S l) (Str.ofString "0123456789") = S [] := by
  rw [strip_cut, tw_all fun c hc => (fig_iff c).mpr (h c hc)]
  simp
theorem strip_not {l : List Nat} (h : ¬ Dig l) : Txt.stripChars (S l) (Str.ofString "0123456789") ≠ S [] := by
  rw [strip_cut]
  generalize eg : (Str.ofString "0123456789").cps.contains = g
  intro z
  have z2 : ((l.take (l.length - ((l.drop (l.takeWhile g).length).reverse.takeWhile g).length)).drop (l.takeWhile g).length).length = 0 := by
    have := congrArg Str.length z
    rw [S_len, S_len] at this
    exact this
  rw [List.length_drop, List.length_take] at z2
  have t1 := tw_le (g := g) l
  have t2 := tw_le (g := g) (l.drop (l.takeWhile g).length).reverse
  rw [List.length_reverse, List.length_drop] at t2
  have t3 : ((l.drop (l.takeWhile g).length).reverse.takeWhile g).length = (l.drop (l.takeWhile g).length).reverse.length := by
    rw [List.length_reverse, List.length_drop]
    omega
  have t4 := tw_len t3
  refine h fun c hc => (fig_iff c).mp ?_
  rw [eg]
  have e : l.takeWhile g ++ l.drop (l.takeWhile g).length = l := by
    have := List.takeWhile_append_dropWhile (p := g) (l := l)
    have d : l.drop (l.takeWhile g).length = l.dropWhile g := by
      have h1 : (l.takeWhile g ++ l.dropWhile g).drop (l.takeWhile g).length = l.dropWhile g := List.drop_left
      rw [this] at h1
      exact h1
    rw [d, this]
  rw [← e] at hc
  rcases List.mem_append.mp hc with hc | hc
  · have : ∀ (l : List Nat), c ∈ l.takeWhile g → g c = true := fun l => by
      induction l with
      | nil => intro h; simp at h
      | cons d l ih =>
        intro h
        rw [List.takeWhile_cons] at h
        split at h
        · rename_i hd
          rcases List.mem_cons.mp h with rfl | h
          · exact hd
          · exact ih h
        · simp at h
    exact this l hc
  · exact t4 c (by simpa using hc)
end TD
set_option Elab.async false
set_option linter.all false
set_option maxRecDepth 100000
set_option maxHeartbeats 4000000
namespace K04
open PySem PySem.Spec PyProof.Rows L2
open C8 (Cal Mak Met pe_c pe_mk pe_mt pe_mt0)
/-! ### texts -/
theorem emp (x : Str) : Str.empty ++ x = x := by
  have e : x = SX.S x.cps.toList := rfl
  rw [e]
  exact SX.S_cat [] _
def txq (q : Int × Int) : Str := if q.2 = 1 then Str.ofString (toString q.1) else Str.ofString (toString q.1) ++ Str.ofString "/" ++ Str.ofString (toString q.2)
/-- a number of no more than a hundred and sixty figures of two -/
def Sm (i : Int) : Prop := i.natAbs < 2 ^ 400
theorem Sm.log {i : Int} (h : Sm i) : i.natAbs.log2 < 1920 := Nat.lt_of_lt_of_le (PySem.Flt.log2_lt_of (by decide) h) (by decide)
theorem Sm.len {i : Int} (h : Sm i) : (Str.ofString (toString i)).length ≤ 401 := by
  rw [TX.tl_int, SX.S_len]
  exact TX.intL_pow h (by decide)
theorem len_cat (a b : Str) : (a ++ b).length = a.length + b.length := PySem.strLen_append a b
theorem l_sh : (Str.ofString "Share(").length = 6 := rfl
theorem l_cm : (Str.ofString ", ").length = 2 := rfl
theorem l_cl : (Str.ofString ")").length = 1 := rfl
theorem l_st : (Str.ofString "/").length = 1 := rfl
theorem big {n : Nat} (h : n ≤ 2000) : n ≤ sizeLine := Nat.le_trans h (by decide)
section
variable {P : Program} {w : World} {K : PySem.W.Frag} {mg : Str → Option Value} {base : Heap} {f C : Addr} {fd : FuncData}
def spTx (C : Addr) (g : Int × Int → Str) : Sp := fun vs H Q _ => ∃ (p : Addr) (q : Int × Int), vs = [.ref p] ∧ Sh C H p q ∧ Sm q.1 ∧ Sm q.2 ∧ Q (.str (g q)) H
theorem ok_str (F : Dn K d_Share_str f fd) (T : Cl K mg C) : FnOk P w K mg base CX0 1 f fd ["self"] (spTx C txq) := by
  refine F.ok sc_Share_str (fun vs H Q E h => ?_) (fun cdv A outer s H vs Q E hr h => ?_)
  · obtain ⟨p, q, rfl, _⟩ := h
    rfl
  · obtain ⟨p, q, rfl, ⟨dp, hp⟩, s1, s2, hQ⟩ := h
    refine ⟨_, PSs.nox (pss_cons (ps_if (pt_cmpR op_eq (pe_fld (pv 0) rfl) pe_int (nomark _)) (pss_one (ps_ret (pe_joined1 (pe_fmt (pe_fld (pv 0) rfl))))) pss_nil)
      (pss_one (ps_ret (pe_joined (.cons (pe_fmt (pe_fld (pv 0) rfl)) (.cons pe_str (.cons (pe_fmt (pe_fld (pv 0) rfl)) .nil))))))), ?_⟩
    refine ⟨_, rfl, p, C, dp, _, _, rfl, hp, T.cl, T.nb, shF_bot _, rfl, _, rfl, ?_⟩
    have k1 := s1.len
    have k2 := s2.len
    refine ite2 (fun h1 => ?_) (fun h1 => ?_)
    · have e1 : q.2 = 1 := V.int.inj (of_decide_eq_true h1)
      unfold txq at hQ
      rw [if_pos e1] at hQ
      exact ⟨_, rfl, p, C, dp, _, _, rfl, hp, T.cl, T.nt, shF_top _, .inr ⟨_, rfl, s1.log, hQ⟩⟩
    · have e1 : ¬ q.2 = 1 := fun z => h1 (by rw [z]; rfl)
      unfold txq at hQ
      rw [if_neg e1] at hQ
      refine ⟨_, rfl, p, C, dp, _, _, rfl, hp, T.cl, T.nt, shF_top _, .inr ⟨_, rfl, s1.log, _, rfl, ?_, _, rfl, ?_, _, rfl, p, C, dp, _, _, rfl, hp, T.cl, T.nb, shF_bot _, .inr ⟨_, rfl, s2.log, _, rfl, ?_, ?_⟩⟩⟩
      · show (Str.empty ++ Str.ofString (toString q.1)).length ≤ sizeLine
        rw [emp]
        exact big (by omega)
      · show (Str.empty ++ Str.ofString (toString q.1) ++ Str.ofString "/").length ≤ sizeLine
        rw [emp, len_cat, l_st]
        exact big (by omega)
      · show (Str.empty ++ Str.ofString (toString q.1) ++ Str.ofString "/" ++ Str.ofString (toString q.2)).length ≤ sizeLine
        rw [emp, len_cat, len_cat, l_st]
        exact big (by omega)
      · show Q (.str (Str.empty ++ Str.ofString (toString q.1) ++ Str.ofString "/" ++ Str.ofString (toString q.2))) H
        rw [emp]
        exact hQ
end
theorem txq_S (q : Int × Int) : txq q = SX.S (TD.tq q) := by
  unfold txq TD.tq
  split
  · exact TX.tl_int _
  · rw [TX.tl_int, TX.tl_int, TX.stroke_S, SX.S_cat, SX.S_cat]
    simp
end K04
set_option Elab.async false
set_option linter.all false
set_option maxRecDepth 100000
set_option maxHeartbeats 4000000
namespace K04
open PySem PySem.Spec PyProof.Rows L2
open C8 (Cal Mak Met pe_c pe_mk pe_mt pe_mt0)
/-- the held dict's pairs -/
def hd0 (l : Addr) (n m : Int) : List (Key × V) := [(Sum.inr "cells", .ref l), (Sum.inr "at", .int n), (Sum.inr "left", .int m)]
theorem hd_cells (l : Addr) (n m : Int) : valV (hd0 l n m) (Sum.inr "cells") = some (.ref l) := valV_pos rfl
theorem k1 : ¬ (("cells" : Str) = "at") := by decide +kernel
theorem k2 : ¬ (("cells" : Str) = "left") := by decide +kernel
theorem k3 : ¬ (("at" : Str) = "left") := by decide +kernel
theorem k1' : ¬ (("at" : Str) = "cells") := by decide +kernel
theorem k3' : ¬ (("left" : Str) = "at") := by decide +kernel
theorem inr_ne {x y : Str} (h : ¬ x = y) : ¬ ((Sum.inr x : Key) = Sum.inr y) := fun z => h (Sum.inr.inj z)
theorem hd_at (l : Addr) (n m : Int) : valV (hd0 l n m) (Sum.inr "at") = some (.int n) := (valV_neg (inr_ne k1)).trans (valV_pos rfl)
theorem hd_left (l : Addr) (n m : Int) : valV (hd0 l n m) (Sum.inr "left") = some (.int m) := (valV_neg (inr_ne k2)).trans ((valV_neg (inr_ne k3)).trans (valV_pos rfl))
theorem put_at (l : Addr) (n m k : Int) : putK (hd0 l n m) (Sum.inr "at") (.int k) = hd0 l k m := by
  unfold putK hd0
  simp [k1, k3']
theorem put_left (l : Addr) (n m k : Int) : putK (hd0 l n m) (Sum.inr "left") (.int k) = hd0 l n k := by
  unfold putK hd0
  simp [k2, k3]
theorem hd_merge (l : Addr) (n m : Int) : mergeK [] (hd0 l n m) = hd0 l n m := by
  simp [mergeK, hd0, putK, k1, k2, k3]
/-- the held dict at h, good for c draws more -/
def Held (H : Hp) (h : Addr) (c : Nat) : Prop := ∃ (l : Addr) (ns : List Int) (n m : Int), H h = some (.dK (hd0 l n m)) ∧ H l = some (.lst (ns.map V.int)) ∧ 0 ≤ n ∧ n + c ≤ 1000000000
theorem Held.weak {H : Hp} {h : Addr} {c c' : Nat} (hc : c' ≤ c) (x : Held H h c) : Held H h c' := by
  obtain ⟨l, ns, n, m, h1, h2, h3, h4⟩ := x
  exact ⟨l, ns, n, m, h1, h2, h3, by omega⟩
/-- all but h is kept -/
def Kp (h : Addr) (H H' : Hp) : Prop := (∀ b o, H b = some o → b ≠ h → H' b = some o) ∧ ∀ l n m, H h = some (.dK (hd0 l n m)) → ∃ n' m', H' h = some (.dK (hd0 l n' m'))
theorem Kp.refl (h : Addr) (H : Hp) : Kp h H H := ⟨fun _ _ e _ => e, fun _ n m e => ⟨n, m, e⟩⟩
theorem Kp.trans {h : Addr} {H H1 H2 : Hp} (a : Kp h H H1) (b : Kp h H1 H2) : Kp h H H2 := ⟨fun c o e n => b.1 c o (a.1 c o e n) n, fun l n m e => let ⟨n', m', e'⟩ := a.2 l n m e; b.2 l n' m' e'⟩
theorem Kp.same {h : Addr} {H H1 : Hp} (a : Same H H1) : Kp h H H1 := ⟨fun c o e _ => a c o e, fun _ n m e => ⟨n, m, a _ _ e⟩⟩
theorem hd_inj {l l' : Addr} {n m n' m' : Int} (h : HO.dK (hd0 l n m) = HO.dK (hd0 l' n' m')) : l = l' := by
  injection h with h
  injection h with h _
  injection h with _ h
  injection h
/-- the held dict put anew -/
theorem Kp.put {h l : Addr} {H : Hp} {n m : Int} (n' m' : Int) (e : H h = some (.dK (hd0 l n m))) : Kp h H (upd H h (.dK (hd0 l n' m'))) := by
  refine ⟨fun c o z ne => by rw [upd_ne ne]; exact z, fun l' n1 m1 z => ⟨n', m', ?_⟩⟩
  rw [upd_same, hd_inj (Option.some.inj (z.symm.trans e))]
theorem Held.same {H H' : Hp} {h : Addr} {c : Nat} (s : Same H H') (x : Held H h c) : Held H' h c := by
  obtain ⟨l, ns, n, m, h1, h2, h3, h4⟩ := x
  exact ⟨l, ns, n, m, s _ _ h1, s _ _ h2, h3, h4⟩
theorem same_new {H : Hp} {p : Addr} {o : HO} (h : H p = none) : Same H (upd H p o) := fun a u e => by
  rw [upd_ne (ne_of_none e h)]
  exact e
theorem dpInts {K : PySem.W.Frag} {H : Hp} : ∀ ns : List Int, DpAll K H (ns.map V.int) (ns.map PyData.int)
  | [] => .nil
  | n :: ns => .cons (.int n) (dpInts ns)
section
variable {P : Program} {w : World} {K : PySem.W.Frag} {mg : Str → Option Value} {base : Heap} {f C : Addr} {fd : FuncData}
def spHeld (K : PySem.W.Frag) : Sp := fun vs H Q _ => ∃ (a : Addr) (ns : List Int), vs = [.ref a] ∧ SqL K H a (ns.map V.int) ∧ ns.length ≤ 63 ∧ ∀ h H', Same H H' → H h = none → Held H' h 900000000 → Q (.ref h) H'
theorem ok_held (F : Dn K d_l_held f fd) (b : Bl mg) : FnOk P w K mg base CX0 1 f fd ["_law_script"] (spHeld K) := by
  refine F.ok sc_l_held (fun vs H Q E h => ?_) (fun cdv A outer s H vs Q E hr h => ?_)
  · obtain ⟨a, ns, rfl, _⟩ := h
    rfl
  · obtain ⟨a, ns, rfl, hS, hlen, hQ⟩ := h
    refine ⟨_, PSs.nox (pss_one (ps_ret (pe_disp (pps_cons pe_str (pe_callTy call_list_of rfl b.list boot_list (pa_cons (pe_slice sl_list (pv 0) po_none (po_some pe_int)) pa_nil)) (pps_cons pe_str pe_int (pps_cons pe_str pe_int pps_nil))) rfl rfl (by simp) (by decide)))), ?_⟩
    intro h hh
    have sS : SqL K (upd H h (.dK [])) a (ns.map V.int) := (same_new hh).seq hS
    refine ⟨_, rfl, 63, rfl, a, _, rfl, sS, fun p hp => ⟨p, _, rfl, Or.inl (SqL.of upd_same), fun l hl => ?_⟩⟩
    have nhp : h ≠ p := ne_of_none upd_same hp
    have nhl : h ≠ l := ne_of_none (by rw [upd_ne nhp]; exact upd_same) hl
    refine ⟨by rw [upd_ne nhl, upd_ne nhp, upd_same], hd0 l 0 0, rfl, by show 3 ≤ 15; decide, ?_⟩
    have e : cutV (ns.map V.int) none (some 63) = (ns.take 63).map V.int := by
      unfold cutV
      simp [HT.sIx, List.map_take]
    refine hQ h _ (fun c o z => ?_) hh ⟨l, ns.take 63, 0, 0, ?_, ?_, by decide, by decide⟩
    · have z1 : c ≠ h := ne_of_none z hh
      have z2 : (upd H h (.dK [])) c = some o := by rw [upd_ne z1]; exact z
      have z3 : c ≠ p := ne_of_none z2 hp
      have z4 : c ≠ l := ne_of_none (by rw [upd_ne z3]; exact z2) hl
      rw [upd_ne z1, upd_ne z4, upd_ne z3]
      exact z2
    · rw [upd_same, hd_merge]
    · rw [upd_ne nhl.symm, upd_same, ← e]

def spDraw : Sp := fun vs H Q _ => ∃ (h : Addr) (c : Nat) (k : Int), vs = [.ref h, .int k] ∧ Held H h (c + 1) ∧ 0 < k ∧ k < 1073741824 ∧
  ∀ r H', 0 ≤ r → r < k → Held H' h c → Kp h H H' → Q (.int r) H'
theorem cb_l {i j : Int} (h1 : -(2 ^ 64) < i) (h2 : i < 2 ^ 64) : CMul i j := .inl ⟨h1, h2⟩
theorem cb_r {i j : Int} (h1 : -(2 ^ 64) < j) (h2 : j < 2 ^ 64) : CMul i j := .inr ⟨h1, h2⟩
theorem ok_draw (F : Dn K d_l_draw f fd) (b : Bl mg) : FnOk P w K mg base CX0 1 f fd ["_law_held_here", "_law_many"] spDraw := by
  refine F.ok sc_l_draw (fun vs H Q E h => ?_) (fun cdv A outer s H vs Q E hr h => ?_)
  · obtain ⟨h, c, k, rfl, _⟩ := h
    rfl
  · obtain ⟨h, c, k, rfl, ⟨l, ns, n, m, hh, hl, hn, hc⟩, hk0, hk1, hQ⟩ := h
    have hu := hu_of hr
    have hu64 : (A.deeper (envOfC d_l_draw.qual d_l_draw.scope s.heap.objs.size f cdv)).units + 64 < cLine := by have := hr.un; omega
    have nlh : l ≠ h := ne_of hl hh (by intro z; cases z)
    refine ⟨_, PSs.nox (pss_cons (ps_if (pt_cmpR op_gt (pe_dget hu (pv 0) pe_str (fun _ _ => rfl)) pe_int (nomark _))
         (pss_cons (ps_set (i := 2) sc_l_draw.nd rfl (.inl rfl) (pe_op op_mod (pe_dget hu (pv 0) pe_str (fun _ _ => rfl)) (pv 1)))
         (pss_cons (ps_dput hu (pv 0) pe_str (pe_op op_fdiv (pe_dget hu (pv 0) pe_str (fun _ _ => rfl)) (pv 1)) rfl)
         (pss_one (ps_ret (pv 2))))) pss_nil)
      (pss_cons (ps_set (i := 3) sc_l_draw.nd rfl (.inl rfl) (pe_dget hu (pv 0) pe_str (fun _ _ => rfl)))
      (pss_cons (ps_dput hu (pv 0) pe_str (pe_op op_add (pv 3) pe_int) rfl)
      (C8.pss_cut (ps_set (i := 4) sc_l_draw.nd rfl (.inl rfl) (pe_ifExp (pt_cmpR (op_neD hu64) (pe_dget hu (pv 0) pe_str (fun _ _ => rfl)) (pe_lst pa_nil) (nomark _))
        (pe_ix ix_list (pe_dget hu (pv 0) pe_str (fun _ _ => rfl)) (pe_op op_mod (pv 3) (pe_callB call_len_seq rfl b.len boot_len (pa_cons (pe_dget hu (pv 0) pe_str (fun _ _ => rfl)) pa_nil))) (fun _ _ => rfl)) pe_int))
      (pss_cons (ps_if (PW.pt (pw_and (pt_cmpR op_ge (pv 4) (pe_op op_pow pe_int pe_int) (nomark _)) (pw_and1 (pt_cmpR op_lt (pv 3) (pe_callB call_len_seq rfl b.len boot_len (pa_cons (pe_dget hu (pv 0) pe_str (fun _ _ => rfl)) pa_nil)) (nomark _)))))
         (pss_cons (ps_dput hu (pv 0) pe_str (pe_op op_fdiv (pe_op op_sub (pv 4) (pe_op op_pow pe_int pe_int)) (pv 1)) rfl)
         (pss_one (ps_ret (pe_op op_mod (pe_op op_sub (pv 4) (pe_op op_pow pe_int pe_int)) (pv 1))))) pss_nil)
      (pss_cons (ps_set (i := 5) sc_l_draw.nd rfl (.inl rfl) (pe_op op_mod (pe_op op_add (pe_op op_add (pe_op op_add (pe_op op_mul (pe_op op_mod (pv 4) pe_int) pe_int) (pe_op op_mul (pe_op op_mul pe_int (pv 3)) (pv 3))) (pe_op op_mul pe_int (pv 3))) pe_int) pe_int))
      (pss_cons (ps_set (i := 5) sc_l_draw.nd rfl (.inl rfl) (pe_op op_mod (pe_op op_add (pe_op op_add (pe_op op_mul (pv 5) pe_int) (pe_op op_fdiv (pv 5) pe_int)) pe_int) pe_int))
      (pss_one (ps_ret (pe_op op_mod (pe_op op_fdiv (pv 5) pe_int) (pv 1))))))))))), ?_⟩
    have cM : ∀ x y : Int, 0 < y → (0 ≤ x % y ∧ x % y < y) := fun x y hy => ⟨Int.emod_nonneg _ (by omega), Int.emod_lt_of_pos _ hy⟩
    refine ⟨_, rfl, h, _, rfl, hd_left l n m ▸ DGet.k (k := Sum.inr "left") hh, _, _, rfl, rfl, _, rfl, ?_⟩
    refine ite2 (fun h1 => ?_) (fun h1 => ?_)
    · refine ⟨_, rfl, h, _, rfl, hd_left l n m ▸ DGet.k (k := Sum.inr "left") hh, _, rfl, _, _, rfl, rfl, hk0, ?_⟩
      refine ⟨_, rfl, h, _, rfl, hd_left l n m ▸ DGet.k (k := Sum.inr "left") hh, _, rfl, _, _, rfl, rfl, ⟨hk0, hk1⟩, _, rfl, h, _, rfl, DPut.k (k := Sum.inr "left") hh (by show 3 < sizeLine; decide), ?_⟩
      refine ⟨_, rfl, hQ _ _ (cM _ _ hk0).1 (cM _ _ hk0).2 ⟨l, ns, n, m / k, ?_, ?_, hn, by omega⟩ ?_⟩
      · rw [upd_same, put_left]
      · rw [upd_ne nlh]; exact hl
      · rw [put_left]; exact Kp.put _ _ hh
    · refine ⟨_, rfl, h, _, rfl, hd_at l n m ▸ DGet.k (k := Sum.inr "at") hh, ?_⟩
      refine ⟨_, rfl, _, _, rfl, rfl, _, rfl, h, _, rfl, DPut.k (k := Sum.inr "at") hh (by show 3 < sizeLine; decide), ?_⟩
      rw [put_at]
      have hh1 : (upd H h (.dK (hd0 l (n + 1) m))) h = some (.dK (hd0 l (n + 1) m)) := upd_same
      have hl1 : (upd H h (.dK (hd0 l (n + 1) m))) l = some (.lst (ns.map V.int)) := by rw [upd_ne nlh]; exact hl
      have kp1 : Kp h H (upd H h (.dK (hd0 l (n + 1) m))) := Kp.put _ _ hh
      refine ⟨fun σ' H' => ∃ (cell : Int), σ' = [some (.ref h), some (.int k), none, some (.int n), some (.int cell), none] ∧ H' h = some (.dK (hd0 l (n + 1) m)) ∧ H' l = some (.lst (ns.map V.int)) ∧ Kp h H H', ?_, ?_⟩
      · refine ⟨_, rfl, h, _, rfl, hd_cells l (n + 1) m ▸ DGet.k (k := Sum.inr "cells") hh1, (by show 0 ≤ sizeLine; decide), fun e he => ?_⟩
        have nhe : h ≠ e := ne_of_none hh1 he
        have nle : l ≠ e := ne_of_none hl1 he
        have hh2 : (upd (upd H h (.dK (hd0 l (n + 1) m))) e (.lst [])) h = some (.dK (hd0 l (n + 1) m)) := by rw [upd_ne nhe]; exact hh1
        have hl2 : (upd (upd H h (.dK (hd0 l (n + 1) m))) e (.lst [])) l = some (.lst (ns.map V.int)) := by rw [upd_ne nle]; exact hl1
        have kp2 : Kp h H (upd (upd H h (.dK (hd0 l (n + 1) m))) e (.lst [])) := kp1.trans (Kp.same (same_new he))
        refine ⟨.list (ns.map .int), .list [], Dp.lst (SqL.of hl2) (dpInts ns), Dp.lst (SqL.of upd_same) .nil, PySem.W.ke_shaped_ints ns, by decide, _, rfl, ?_⟩
        cases ns with
        | nil => exact iteF ⟨0, rfl, hh2, hl2, kp2⟩
        | cons z zs =>
          refine iteT ?_
          have hlen : (0 : Int) < (((z :: zs).map V.int).length : Int) := by simp
          refine ⟨_, rfl, h, _, rfl, hd_cells l (n + 1) m ▸ DGet.k (k := Sum.inr "cells") hh2, _, rfl, _, rfl, h, _, rfl, hd_cells l (n + 1) m ▸ DGet.k (k := Sum.inr "cells") hh2, l, _, rfl, Or.inl (SqL.of hl2), _, _, rfl, rfl, hlen, ?_⟩
          obtain ⟨q, hq⟩ := Int.eq_ofNat_of_zero_le (cM n _ hlen).1
          have hq2 := (cM n _ hlen).2
          rw [hq] at hq2
          have hq3 : q < (z :: zs).length := by rw [List.length_map] at hq2; omega
          refine ⟨l, _, _, .int ((z :: zs)[q]), rfl, rfl, SqL.of hl2, (by rw [hq]; exact atI_nat (by rw [List.getElem?_map, List.getElem?_eq_getElem hq3]; rfl)), ?_⟩
          exact ⟨_, rfl, hh2, hl2, kp2⟩
      · rintro σ' H' ⟨cell, rfl, hh2, hl2, kp2⟩
        have stay : ∀ m', Held (upd H' h (.dK (hd0 l (n + 1) m'))) h c := fun m' => ⟨l, ns, n + 1, m', upd_same, by rw [upd_ne nlh]; exact hl2, by omega, by omega⟩
        have stay0 : Held H' h c := ⟨l, ns, n + 1, m, hh2, hl2, by omega, by omega⟩
        have last : ∀ D : Ends, D.rt = Q → tSeq (tAsg (tOp (rI (fun _ j => 0 < j) fun i j => .int (i % j)) (tOp (rI0 fun i j => .int (i + j)) (tOp (rI0 fun i j => .int (i + j)) (tOp (rI0 fun i j => .int (i + j))
            (tOp (rI CMul fun i j => .int (i * j)) (tOp (rI (fun _ j => 0 < j) fun i j => .int (i % j)) (tVar 4) (tC (.int 2147483587))) (tC (.int 40692))) (tOp (rI CMul fun i j => .int (i * j)) (tOp (rI CMul fun i j => .int (i * j)) (tC (.int 7907)) (tVar 3)) (tVar 3)))
            (tOp (rI CMul fun i j => .int (i * j)) (tC (.int 104729)) (tVar 3))) (tC (.int 17))) (tC (.int 2147483629))) (gName 5))
          (tSeq (tAsg (tOp (rI (fun _ j => 0 < j) fun i j => .int (i % j)) (tOp (rI0 fun i j => .int (i + j)) (tOp (rI0 fun i j => .int (i + j)) (tOp (rI CMul fun i j => .int (i * j)) (tVar 5) (tC (.int 48271))) (tOp (rI CDiv fun i j => .int (i / j)) (tVar 5) (tC (.int 127)))) (tC (.int 31))) (tC (.int 2147483647))) (gName 5))
          (tRet (tOp (rI (fun _ j => 0 < j) fun i j => .int (i % j)) (tOp (rI CDiv fun i j => .int (i / j)) (tVar 5) (tC (.int 89))) (tVar 1)))) D [some (.ref h), some (.int k), none, some (.int n), some (.int cell), none] H' := by
          intro D hD
          refine ⟨_, rfl, _, _, rfl, rfl, (by decide : (0 : Int) < 2147483587), _, _, rfl, rfl, cb_r (by decide) (by decide), _, rfl, _, _, rfl, rfl, cb_l (by decide) (by decide), _, rfl, _, _, rfl, rfl, cb_r (by omega) (by omega), _, _, rfl, rfl, ?_⟩
          refine ⟨_, rfl, _, _, rfl, rfl, cb_l (by decide) (by decide), _, _, rfl, rfl, _, _, rfl, rfl, _, _, rfl, rfl, (by decide : (0 : Int) < 2147483629), ?_⟩
          refine ⟨_, rfl, _, _, rfl, rfl, cb_r (by decide) (by decide), _, rfl, _, _, rfl, rfl, ⟨by decide, by decide⟩, _, _, rfl, rfl, _, _, rfl, rfl, _, _, rfl, rfl, (by decide : (0 : Int) < 2147483647), ?_⟩
          refine ⟨_, rfl, _, _, rfl, rfl, ⟨by decide, by decide⟩, _, rfl, _, _, rfl, rfl, hk0, ?_⟩
          rw [hD]
          exact hQ _ _ (cM _ _ hk0).1 (cM _ _ hk0).2 stay0 kp2
        refine ⟨_, rfl, _, _, rfl, rfl, ⟨by decide, by decide, by decide⟩, _, _, rfl, rfl, _, rfl, ?_⟩
        refine ite2 (fun g1 => ?_) (fun g1 => iteF (last _ rfl))
        refine ⟨_, rfl, _, rfl, h, _, rfl, hd_cells l (n + 1) m ▸ DGet.k (k := Sum.inr "cells") hh2, l, _, rfl, Or.inl (SqL.of hl2), _, _, rfl, rfl, _, rfl, ?_⟩
        refine ite2 (fun g2 => ?_) (fun g2 => last _ rfl)
        refine ⟨_, rfl, _, _, rfl, rfl, ⟨by decide, by decide, by decide⟩, _, _, rfl, rfl, _, rfl, _, _, rfl, rfl, ⟨hk0, hk1⟩, _, rfl, h, _, rfl, DPut.k (k := Sum.inr "left") hh2 (by show 3 < sizeLine; decide), ?_⟩
        refine ⟨_, rfl, _, _, rfl, rfl, ⟨by decide, by decide, by decide⟩, _, _, rfl, rfl, _, rfl, _, _, rfl, rfl, hk0, ?_⟩
        rw [put_left]
        refine hQ _ _ (cM _ _ hk0).1 (cM _ _ hk0).2 (stay _) (kp2.trans (Kp.put _ _ hh2))
end
end K04
set_option Elab.async false
set_option linter.all false
set_option maxRecDepth 100000
set_option maxHeartbeats 4000000
namespace K04
open PySem PySem.Spec PyProof.Rows L2
open C8 (Cal Mak Met pe_c pe_mk pe_mt pe_mt0)
section
variable {P : Program} {w : World} {K : PySem.W.Frag} {mg : Str → Option Value} {base : Heap} {f C : Addr} {fd : FuncData}
abbrev CalD (P : Program) (w : World) (K : PySem.W.Frag) (mg : Str → Option Value) (base : Heap) : Prop := Cal P w K mg base 1 "_law_draw" spDraw []
theorem six_le : ∀ k, k ≤ 6 → ((1000000 : Int) ^ k < 10 ^ 30) → k ≤ 4 := by decide
theorem six_pos : ∀ k, k ≤ 6 → (0 : Int) < 1000000 ^ k := by decide
theorem six_lt : ∀ k, k ≤ 6 → ((1000000 : Int) ^ k) < 2 ^ 128 := by decide
def spGreat : Sp := fun vs H Q _ => ∃ (h : Addr) (c : Nat) (k : Int), vs = [.ref h, .int k] ∧ Held H h (c + 10) ∧ 0 < k ∧ k ≤ 10 ^ 30 ∧
  ∀ r H', 0 ≤ r → r < k → Held H' h c → Kp h H H' → Q (.int r) H'
theorem ok_great (F : Dn K d_l_great f fd) (cD : CalD P w K mg base) : FnOk P w K mg base CX0 2 f fd ["_law_held_here", "_law_many"] spGreat := by
  refine F.ok sc_l_great (fun vs H Q E h => ?_) (fun cdv A outer s H vs Q E hr h => ?_)
  · obtain ⟨h, c, k, rfl, _⟩ := h
    rfl
  · obtain ⟨h, c, k, rfl, held, hk0, hk1, hQ⟩ := h
    refine ⟨_, PSs.nox (pss_cons (ps_asg (pe_tup (pa_cons pe_int (pa_cons pe_int pa_nil))) (pg_tup rfl (pgs_cons (pg_name (i := 2) sc_l_great.nd rfl (.inl rfl)) (pgs_cons (pg_name (i := 3) sc_l_great.nd rfl (.inl rfl)) pgs_nil))))
      (pss_cons (ps_while PassesOwn.never (pt_cmpR op_lt (pv 3) (pv 1) (nomark _)) (pss_one (ps_par (i := 2) (j := 3) rfl sc_l_great.nd rfl rfl (by decide) rfl rfl
        (pa_cons (pe_op op_add (pe_op op_mul (pv 2) (pe_op op_pow pe_int pe_int)) (pe_c cD hr (by decide) rfl (pa_cons (pv 0) (pa_cons (pe_op op_pow pe_int pe_int) pa_nil)))) (pa_cons (pe_op op_mul (pv 3) (pe_op op_pow pe_int pe_int)) pa_nil)) rfl)))
      (pss_one (ps_ret (pe_op op_mod (pv 2) (pv 1)))))), ?_⟩
    refine ⟨(by show 2 ≤ sizeLine; decide), fun u hu => ⟨u, _, rfl, SqT.of upd_same, rfl, _, _, rfl, _, _, rfl, rfl, ?_⟩⟩
    have su := same_new (o := .tup [.int 0, .int 1]) hu
    refine while_by (fun σ H2 => ∃ (x : Int) (i : Nat), σ = [some (.ref h), some (.int k), some (.int x), some (.int (1000000 ^ i))] ∧ i ≤ 6 ∧ Held H2 h (c + (10 - i)) ∧ Kp h H H2)
      (fun σ _ => match σ with | [_, _, _, some (.int c)] => (10 ^ 36 - c).toNat | _ => 0) ⟨0, 0, rfl, by decide, held.same su, Kp.same su⟩ ?_ ?_
    · rintro σ H2 ⟨x, i, rfl, hi, held2, kp2⟩
      refine ⟨_, rfl, _, rfl, _, _, rfl, rfl, _, rfl, ?_⟩
      refine ite2 (fun g => ?_) (fun g => ?_)
      · have g' : (1000000 : Int) ^ i < k := of_decide_eq_true g
        have i4 : i ≤ 4 := six_le i hi (by omega)
        refine ⟨_, rfl, _, _, rfl, rfl, ⟨by decide, by decide, by decide⟩, _, _, rfl, rfl, cb_r (by decide) (by decide), ?_⟩
        refine ⟨_, rfl, _, _, rfl, rfl, ⟨by decide, by decide, by decide⟩, h, c + (10 - (i + 1)), _, rfl, held2.weak (by omega), by decide, by decide, fun r H3 r0 r1 held3 kp3 => ?_⟩
        refine ⟨_, _, rfl, rfl, ?_⟩
        refine ⟨_, rfl, _, _, rfl, rfl, ⟨by decide, by decide, by decide⟩, _, _, rfl, rfl, cb_r (by decide) (by decide), _, _, rfl, ?_⟩
        refine ⟨⟨_, i + 1, rfl, by omega, held3, kp2.trans kp3⟩, ?_⟩
        show (10 ^ 36 - (1000000 : Int) ^ i * 10 ^ 6).toNat < (10 ^ 36 - (1000000 : Int) ^ i).toNat
        have := six_pos i hi
        omega
      · exact ⟨_, rfl, _, rfl, _, _, rfl, rfl, hk0, hQ _ _ (Int.emod_nonneg _ (by omega)) (Int.emod_lt_of_pos _ hk0) (held2.weak (by omega)) kp2⟩
    · rintro σ H2 Q1 Q2 hm ⟨v, hv, v2, hv2, i, j, e1, e2, k, hk, q⟩
      exact ⟨v, hv, v2, hv2, i, j, e1, e2, k, hk, hm _ _ q⟩
def tupP (q : Int × Int) : HO := .tup [.int q.1, .int q.2]
def spLow : Sp := fun vs H Q _ => ∃ (t b : Int) (n : Nat), vs = [.int t, .int b] ∧ b ≠ 0 ∧ b.natAbs < 2 ^ n ∧ 0 < n ∧ n ≤ 9000 ∧ ∀ r, H r = none → Q (.ref r) (upd H r (tupP (KM.low t b)))
theorem ok_low (F : Dn K d_l_low f fd) (b : Bl mg) : FnOk P w K mg base CX0 1 f fd ["_law_top", "_law_bottom"] spLow := by
  refine F.ok sc_l_low (fun vs H Q E h => ?_) (fun cdv A outer s H vs Q E hr h => ?_)
  · obtain ⟨t, b, n, rfl, _⟩ := h
    rfl
  · obtain ⟨x, y, n, rfl, hy, hn, hn0, hn9, hQ⟩ := h
    refine ⟨_, PSs.nox (pss_cons (ps_par (i := 2) (j := 3) rfl sc_l_low.nd rfl rfl (by decide) rfl rfl (pa_cons (pe_callB call_abs rfl b.abs boot_abs (pa_cons (pv 0) pa_nil)) (pa_cons (pe_callB call_abs rfl b.abs boot_abs (pa_cons (pv 1) pa_nil)) pa_nil)) rfl)
      (pss_cons (ps_while PassesOwn.never (pt_cmpR op_gt (pv 3) pe_int (nomark _)) (pss_one (ps_par (i := 2) (j := 3) rfl sc_l_low.nd rfl rfl (by decide) rfl rfl (pa_cons (pv 3) (pa_cons (pe_op op_mod (pv 2) (pv 3)) pa_nil)) rfl)))
      (C8.pss_cut (ps_if (pt_cmpR op_lt (pv 1) pe_int (nomark _)) (pss_one (ps_set (i := 2) sc_l_low.nd rfl (.inl rfl) (pe_op op_sub pe_int (pv 2)))) pss_nil)
      (pss_one (ps_ret (pe_tup (pa_cons (pe_op op_fdW (pv 0) (pv 2)) (pa_cons (pe_op op_fdW (pv 1) (pv 2)) pa_nil)))))))), ?_⟩
    refine ⟨_, rfl, _, rfl, _, rfl, _, rfl, _, _, rfl, while_by (fun σ H2 => H2 = H ∧ ∃ a c : Int, σ = [some (.int x), some (.int y), some (.int a), some (.int c)] ∧ 0 ≤ a ∧ 0 ≤ c ∧ Int.gcd a c = Int.gcd x y)
      (fun σ _ => match σ with | [_, _, _, some (.int c)] => c.toNat | _ => 0) ⟨rfl, _, _, rfl, ?_, ?_, ?_⟩ ?_ ?_⟩
    · split <;> omega
    · split <;> omega
    · rw [abs_eq, abs_eq]
      rfl
    · rintro σ H2 ⟨rfl, a, c, rfl, ha, hc, hg⟩
      refine ⟨_, rfl, _, _, rfl, rfl, _, rfl, ?_⟩
      refine ite2 (fun g => ?_) (fun g => ?_)
      · have hp : 0 < c := of_decide_eq_true g
        refine ⟨_, rfl, _, rfl, _, rfl, _, _, rfl, rfl, hp, _, _, rfl, ⟨rfl, _, _, rfl, hc, Int.emod_nonneg _ (by omega), ?_⟩, ?_⟩
        · rw [KM.gcd_turn ha hp, hg]
        · show (a % c).toNat < c.toNat
          have h1 := Int.emod_nonneg a (show c ≠ 0 by omega)
          have h2 := Int.emod_lt_of_pos a hp
          omega
      · have h0 : c = 0 := by
          have : ¬ 0 < c := fun z => g (decide_eq_true z)
          omega
        subst h0
        have e : Int.gcd x y = a.natAbs := by rw [← hg]; simp
        refine ⟨fun σ' H' => H' = H2 ∧ ∃ v, σ' = [some (.int x), some (.int y), some (.int (KM.sg x y)), v], ?_, ?_⟩
        · refine ⟨_, rfl, _, _, rfl, rfl, _, rfl, ?_⟩
          refine ite2 (fun g1 => ?_) (fun g1 => ?_)
          · refine ⟨_, rfl, _, _, rfl, rfl, rfl, some (.int 0), ?_⟩
            have e2 : KM.sg x y = 0 - a := by unfold KM.sg; rw [if_pos (of_decide_eq_true g1), e]; omega
            rw [e2]
            rfl
          · refine ⟨rfl, some (.int 0), ?_⟩
            have e2 : KM.sg x y = a := by unfold KM.sg; rw [if_neg (fun z => g1 (decide_eq_true z)), e]; omega
            rw [e2]
        · rintro σ' H' ⟨rfl, v, rfl⟩
          have hs9 : (KM.sg x y).natAbs.log2 < 9000 := log_lt (Nat.lt_of_le_of_lt (KM.sg_le hy) hn) hn0 hn9
          refine ⟨_, rfl, _, rfl, _, _, rfl, rfl, ⟨KM.sg_ne hy, hs9⟩, _, rfl, _, rfl, _, _, rfl, rfl, ⟨KM.sg_ne hy, hs9⟩, (by show 2 ≤ sizeLine; decide), fun r hr => hQ r hr⟩
    · rintro σ H2 Q1 Q2 hm ⟨v, hv, i, j, e1, e2, k, hk, q⟩
      exact ⟨v, hv, i, j, e1, e2, k, hk, hm _ _ q⟩
abbrev CalL (P : Program) (w : World) (K : PySem.W.Frag) (mg : Str → Option Value) (base : Heap) : Prop := Cal P w K mg base 1 "_law_low" spLow []
end
end K04
set_option Elab.async false
set_option linter.all false
set_option maxRecDepth 100000
set_option maxHeartbeats 4000000
namespace K04
open PySem PySem.Spec PyProof.Rows L2
open C8 (Cal Mak Met pe_c pe_mk pe_mt pe_mt0)
/-- what isinstance asks of the class -/
structure IsC (K : PySem.W.Frag) (C : Addr) : Prop where
  ha : PySem.W.findIn K (.ref C) "__class__" = some (some (.builtin "object.__class__"))
  hn : PySem.W.specialIn K (.builtin "object.__class__") "__get__" = some (some (.builtin "getset_descriptor.__get__"))
  htk : PySem.W.takesIn K (.builtin "object.__class__") = some true
  hm : PySem.W.mroIn K C (.type "object") = some true
  kit : PySem.W.kitOne K (.ref C) (.ref C) = some true
section
variable {P : Program} {w : World} {K : PySem.W.Frag} {mg : Str → Option Value} {base : Heap} {f C N fN : Addr} {fd fdN : FuncData}
def spPair (C : Addr) : Sp := fun vs H Q _ => ∃ (p : Addr) (q : Int × Int), vs = [.ref p] ∧ Sh C H p q ∧ ∀ r H', Same H H' → H r = none → H' r = some (tupP q) → Q (.ref r) H'
theorem ok_pair (F : Dn K d_l_pair f fd) (b : Bl mg) (T : Cl K mg C) (S : IsC K C) : FnOk P w K mg base CX0 1 f fd ["_law_share"] (spPair C) := by
  refine F.ok sc_l_pair (fun vs H Q E h => ?_) (fun cdv A outer s H vs Q E hr h => ?_)
  · obtain ⟨p, q, rfl, _⟩ := h
    rfl
  · obtain ⟨p, q, rfl, ⟨dp, hp⟩, hQ⟩ := h
    refine ⟨_, PSs.nox (pss_cons (ps_if (pt_not (pt_val (pe_callB call_isi rfl b.isi boot_isinstance (pa_cons (pv 0) (pa_cons (pe_glob (v := .ref C) rfl T.g rfl) pa_nil))))) pss_never pss_nil)
      (pss_cons (ps_for PassesOwn.never rfl (pi_tup (pe_tup (pa_cons (pe_fld (pv 0) rfl) (pa_cons (pe_fld (pv 0) rfl) pa_nil)))) (pg_name (i := 1) sc_l_pair.nd rfl (.inl rfl))
        (pss_one (ps_if (PW.pt (pw_or (pt_not (pt_val (pe_callB call_isi rfl b.isi boot_isinstance (pa_cons (pv 1) (pa_cons (pe_bltn (v := .ty "int") rfl b.int boot_int rfl) pa_nil)))))
          (pw_or1 (pt_val (pe_callB call_isi rfl b.isi boot_isinstance (pa_cons (pv 1) (pa_cons (pe_bltn (v := .ty "bool") rfl b.bool boot_bool rfl) pa_nil))))))) pss_never pss_nil)))
      (pss_one (ps_ret (pe_tup (pa_cons (pe_fld (pv 0) rfl) (pa_cons (pe_fld (pv 0) rfl) pa_nil))))))), ?_⟩
    refine ⟨_, rfl, _, _, _, _, true, rfl, ClsV.own C, TyX.base (TyOf.ins hp T.cl S.ha S.hn S.htk S.hm), S.kit, true, rfl, ?_⟩
    refine iteF ?_
    refine ⟨_, rfl, p, C, dp, _, _, rfl, hp, T.cl, T.nt, shF_top q, _, rfl, p, C, dp, _, _, rfl, hp, T.cl, T.nb, shF_bot q, by show 2 ≤ sizeLine; decide, fun u hu => ?_⟩
    have npu : p ≠ u := ne_of_none hp hu
    refine ⟨u, rfl, ⟨_, SqT.of upd_same⟩, for_tup (K := K) (xs := [.int q.1, .int q.2]) (fun i σ H2 => H2 = upd H u (.tup [.int q.1, .int q.2]) ∧ ∃ v, σ = [some (.ref p), v])
      ⟨rfl, none, rfl⟩ (fun i σ H2 _ h => by rw [h.1]; exact SqT.of upd_same) ?_ ?_⟩
    · rintro i y σ H2 hi ⟨rfl, v, rfl⟩
      have hy : ∃ n : Int, y = .int n := by
        match i, hi with
        | 0, e => exact ⟨_, (Option.some.inj e).symm⟩
        | 1, e => exact ⟨_, (Option.some.inj e).symm⟩
      obtain ⟨n, rfl⟩ := hy
      refine ⟨_, rfl, _, _, _, _, true, rfl, ClsV.ty _, TyX.base (TyOf.int n), kit_ty (by decide +kernel), true, rfl, ?_⟩
      refine iteF ?_
      refine ⟨_, rfl, _, _, _, _, false, rfl, ClsV.ty _, TyX.base (TyOf.int n), kit_ty (by decide +kernel), false, rfl, ?_⟩
      exact iteF ⟨rfl, _, rfl⟩
    · rintro σ H2 ⟨rfl, v, rfl⟩
      have hp2 : (upd H u (.tup [.int q.1, .int q.2])) p = some (.ins C dp (shF q)) := by rw [upd_ne npu]; exact hp
      refine ⟨_, rfl, p, C, dp, _, _, rfl, hp2, T.cl, T.nt, shF_top q, _, rfl, p, C, dp, _, _, rfl, hp2, T.cl, T.nb, shF_bot q, by show 2 ≤ sizeLine; decide, fun r hr => ?_⟩
      exact hQ r _ ((same_new hu).trans (same_new hr)) ((same_new hu).free hr) upd_same
abbrev CalGr (P : Program) (w : World) (K : PySem.W.Frag) (mg : Str → Option Value) (base : Heap) : Prop := Cal P w K mg base 2 "_law_great" spGreat []
def spNumber : Sp := fun vs H Q _ => ∃ (h : Addr) (c : Nat), vs = [.ref h] ∧ Held H h (c + 20) ∧ ∀ r H', r.natAbs < 2 ^ 100 → Held H' h c → Kp h H H' → Q (.int r) H'
theorem at3 {a b c : V} {r : Int} (h0 : 0 ≤ r) (h1 : r < 3) : ∃ v, atI [a, b, c] r = some v ∧ (v = a ∨ v = b ∨ v = c) := by
  rcases (show r = 0 ∨ r = 1 ∨ r = 2 by omega) with rfl | rfl | rfl
  · exact ⟨a, rfl, .inl rfl⟩
  · exact ⟨b, rfl, .inr (.inl rfl)⟩
  · exact ⟨c, rfl, .inr (.inr rfl)⟩
theorem ten30 : (10 : Int) ^ 28 < 2 ^ 100 := by decide
theorem ok_number (F : Dn K d_l_number f fd) (cD : CalD P w K mg base) (cG : CalGr P w K mg base) : FnOk P w K mg base CX0 3 f fd ["_law_held_here"] spNumber := by
  refine F.ok sc_l_number (fun vs H Q E h => ?_) (fun cdv A outer s H vs Q E hr h => ?_)
  · obtain ⟨h, c, rfl, _⟩ := h
    rfl
  · obtain ⟨h, c, rfl, held, hQ⟩ := h
    refine ⟨_, PSs.nox (pss_cons (ps_set (i := 1) sc_l_number.nd rfl (.inl rfl) (pe_ix ix_list (pe_lst (pa_cons (pe_c cD hr (by decide) rfl (pa_cons (pv 0) (pa_cons pe_int pa_nil)))
        (pa_cons (pe_c cD hr (by decide) rfl (pa_cons (pv 0) (pa_cons (pe_op op_pow pe_int pe_int) pa_nil))) (pa_cons (pe_c cG hr (by decide) rfl (pa_cons (pv 0) (pa_cons (pe_op op_pow pe_int pe_int) pa_nil))) pa_nil))))
        (pe_c cD hr (by decide) rfl (pa_cons (pv 0) (pa_cons pe_int pa_nil))) (fun _ _ => rfl)))
      (pss_one (ps_ret (pe_op op_mul (pv 1) (pe_ix ix_list (pe_lst (pa_cons pe_int (pa_cons pe_int (pa_cons (pe_un un_neg pe_int) pa_nil)))) (pe_c cD hr (by decide) rfl (pa_cons (pv 0) (pa_cons pe_int pa_nil))) (fun _ _ => rfl)))))), ?_⟩
    refine ⟨_, rfl, h, c + 19, 13, rfl, held, by decide, by decide, fun r1 H1 a1 b1 held1 kp1 => ?_⟩
    refine ⟨_, rfl, _, _, rfl, rfl, ⟨by decide, by decide, by decide⟩, h, c + 18, _, rfl, held1, by decide, by decide, fun r2 H2 a2 b2 held2 kp2 => ?_⟩
    refine ⟨_, rfl, _, _, rfl, rfl, ⟨by decide, by decide, by decide⟩, h, c + 8, _, rfl, held2, by decide, by decide, fun r3 H3 a3 b3 held3 kp3 => ?_⟩
    refine ⟨by show 3 ≤ sizeLine; decide, fun u hu => ?_⟩
    have su := same_new (o := .lst [.int r1, .int r2, .int r3]) hu
    refine ⟨_, rfl, h, c + 7, 3, rfl, held3.same su, by decide, by decide, fun r4 H4 a4 b4 held4 kp4 => ?_⟩
    have nuh : u ≠ h := by
      obtain ⟨l, ns, n, m, h1, _⟩ := held3
      exact (ne_of_none h1 hu).symm
    have hu4 : H4 u = some (.lst [.int r1, .int r2, .int r3]) := kp4.1 u _ upd_same nuh
    obtain ⟨v, hv, hv3⟩ := at3 (a := .int r1) (b := .int r2) (c := .int r3) a4 b4
    refine ⟨u, _, _, v, rfl, rfl, SqL.of hu4, hv, ?_⟩
    obtain ⟨x, rfl, hx⟩ : ∃ x : Int, v = .int x ∧ x.natAbs < 2 ^ 100 := by
      have t30 := ten30
      have b2' : r2 < 1000000 := b2
      have b3' : r3 < 10 ^ 28 := b3
      rcases hv3 with rfl | rfl | rfl
      · exact ⟨r1, rfl, by omega⟩
      · exact ⟨r2, rfl, by omega⟩
      · exact ⟨r3, rfl, by omega⟩
    refine ⟨_, rfl, _, rfl, by show 3 ≤ sizeLine; decide, fun u2 hu2 => ?_⟩
    have su2 := same_new (o := .lst [.int 1, .int 1, .int (-1)]) hu2
    refine ⟨_, rfl, h, c + 6, 3, rfl, held4.same su2, by decide, by decide, fun r5 H5 a5 b5 held5 kp5 => ?_⟩
    have nuh2 : u2 ≠ h := by
      obtain ⟨l, ns, n, m, h1, _⟩ := held4
      exact (ne_of_none h1 hu2).symm
    have hu5 : H5 u2 = some (.lst [.int 1, .int 1, .int (-1)]) := kp5.1 u2 _ upd_same nuh2
    obtain ⟨v, hv, hv3⟩ := at3 (a := .int 1) (b := .int 1) (c := .int (-1)) a5 b5
    obtain ⟨y, rfl, hy⟩ : ∃ y : Int, v = .int y ∧ (y = 1 ∨ y = -1) := by
      rcases hv3 with rfl | rfl | rfl
      · exact ⟨1, rfl, .inl rfl⟩
      · exact ⟨1, rfl, .inl rfl⟩
      · exact ⟨-1, rfl, .inr rfl⟩
    refine ⟨u2, _, _, _, rfl, rfl, SqL.of hu5, hv, _, _, rfl, rfl, cb_r (by omega) (by omega), ?_⟩
    refine hQ _ _ ?_ (held5.weak (by omega)) ((((kp1.trans kp2).trans kp3).trans (Kp.same su)).trans ((kp4.trans (Kp.same su2)).trans kp5))
    show (x * y).natAbs < 2 ^ 100
    rcases hy with rfl | rfl <;> omega
end
end K04
set_option Elab.async false
set_option linter.all false
set_option maxRecDepth 100000
set_option maxHeartbeats 4000000
/-! EXV: a caught exception that is kept behind its except clause: isinstance of it, its fields. -/
namespace EXV
open PySem PySem.Spec PyProof.Rows L2
/-- an exception object at a, of the class cls, with the dict d -/
def XcP (cls : Value) (d : Option Addr) (a : Addr) (h : Heap) : Prop := ∃ (oe : Obj) (vs : Array Value), h.get? a = some oe ∧ Zc cls d oe ∧ oe.data = .fields vs
def Xc (cls : Value) (d : Option Addr) (a : Addr) : HO := .ext (XcP cls d a)
theorem xc_ok {P : Program} {w : World} {H : Hp} {h : Heap} {a : Addr} {cls : Value} {d : Option Addr} {oe : Obj} {vs : Array Value} (g : h.get? a = some oe) (z : Zc cls d oe) (f : oe.data = .fields vs) : ObjOk P w H h a (Xc cls d a) :=
  ⟨⟨oe, vs, g, z, f⟩, ⟨oe, g⟩, fun h1 h2 ⟨u, v, g1, z1, f1⟩ k => ⟨u, v, k u g1, z1, f1⟩⟩
theorem xc_at {P : Program} {w : World} {H : Hp} {h : Heap} {a : Addr} {cls : Value} {d : Option Addr} (ok : HOk P w H h) (e : H a = some (Xc cls d a)) : XcP cls d a h := by
  have x : ObjOk P w H h a (.ext (XcP cls d a)) := ok a _ e
  exact x.1
theorem xc_lst {a b : Addr} {cls : Value} {d : Option Addr} {xs : List V} {H : Hp} (e : H a = some (Xc cls d a)) (e2 : H b = some (.lst xs)) : a ≠ b := fun z => by
  rw [z, e2] at e
  have e' : HO.lst xs = HO.ext (XcP cls d b) := Option.some.inj (z ▸ e)
  cases e'
section
variable {X : Cx} {pins : List (Addr × Obj)} {σ : L2.St} {H : Hp} {s : Shared}
theorem into_suite (I : Inv X pins σ H s) (a : Addr) : Inv (X.suite a (X.pn ++ pins)) [] σ H s where
  ok := I.ok.suite a (X.pn ++ pins)
  os := I.os
  bare := I.bare
  base := I.base
  loc := I.loc
  cell := I.cell
  free := I.free
  freeC := I.freeC
  pin := fun p hp => I.pin p (by simpa using hp)
  hok := I.hok
  len := I.len
theorem out_suite {a : Addr} {ps : List (Addr × Obj)} (I : Inv (X.suite a (X.pn ++ pins)) ps σ H s) (good : X.Ok) : Inv X pins σ H s where
  ok := good
  os := I.os
  bare := I.bare
  base := I.base
  loc := I.loc
  cell := I.cell
  free := I.free
  freeC := I.freeC
  pin := fun p hp => I.pin p (List.mem_append_left ps hp)
  hok := I.hok
  len := I.len
end
/-- what an except clause that keeps the exception wishes of the body: slot i is the clause's name -/
def wKeep (K : PySem.W.Frag) (c : Value) (i : Nat) (ts : Addr → Value → Option Addr → TS) (Wout : WX) (D : Ends) : WX := fun cls d σ H => ∃ b, PySem.W.exmOne K cls c = some b ∧
  (b = true → ∀ a, H a = none → ts a cls d { nx := fun σ' H' => D.nx (σ'.set i none) H', rt := D.rt, bk := fun σ' H' => D.bk (σ'.set i none) H', ct := fun σ' H' => D.ct (σ'.set i none) H' } (σ.set i (some (.ref a))) (upd H a (Xc cls d a))) ∧ (b = false → Wout cls d σ H)
section
variable {X : Cx} {x n : Str} {c : Value} {i : Nat} {body suite : List Stmt} {b₀ : Stmt} {np pos pos' : Pos} {tb : WX → TS} {ts : Addr → Value → Option Addr → TS} {Wout : WX}
theorem ps_try_keep (stk : X.stack = X.env :: X.outer) (frm : X.env.frame = some X.env.locals) (nod : X.N.Nodup) (at_ : X.N[i]? = some n) (kln : X.env.kindOf n = some .local) (nm : Names X x c) (out : Takes X Wout)
    (bdy : ∀ (W : WX) (pn : List (Addr × Obj)) (xe : Value → Shared → Prop), Takes (X.tr pn xe) W → PassesOwn (model X.prog X.w) X.A X.env xe → PSs (X.tr pn xe) body (tb W))
    (sui : ∀ (a : Addr) (cls : Value) (d : Option Addr) (pn : List (Addr × Obj)), PSs (X.suite a pn) (b₀ :: suite) (ts a cls d)) :
    PS X (.Try body [.ExceptHandler (some (.Name x np)) (some n) (b₀ :: suite) pos'] [] [] pos) (fun D σ H => tb (wKeep X.K c i ts Wout D) D σ H) := by
  refine ⟨fun pins s σ H D I h => ?_⟩
  have good := I.ok
  have frs2 : X.A.frames = some (X.env :: X.outer) := by rw [good.frames, stk]
  have isLoc : Loc X.env.scope n := .inl kln
  have start := (bdy (wKeep X.K c i ts Wout D) (X.pn ++ pins) (fun e s₁ => wpAny (model X.prog X.w) X.A (noteFrame e X.env) (fun _ s₂ => wpAny (model X.prog X.w) X.A (setFlight e none)
      (fun _ s₃ => wpAny (model X.prog X.w) X.A (handleBy e X.env [.ExceptHandler (some (.Name x np)) (some n) (b₀ :: suite) pos']) (SP X pins D) X.xe s₃) X.xe s₂) X.xe s₁) (fun u s' xx => ?_) PassesOwn.looking).run [] s σ H D (I.toTry _) h
  · refine wpAny_Try_except (wpAny_mono start (fun f s1 fin => ?_) fun _ _ he => he)
    cases f with
    | next =>
      obtain ⟨σ1, H1, J1, q1⟩ := fin
      exact wpAny_execs_nil ⟨σ1, H1, J1.ofTry good, q1⟩
    | brk =>
      obtain ⟨σ1, H1, J1, q1⟩ := fin
      exact ⟨σ1, H1, J1.ofTry good, q1⟩
    | cont =>
      obtain ⟨σ1, H1, J1, q1⟩ := fin
      exact ⟨σ1, H1, J1.ofTry good, q1⟩
    | ret u =>
      obtain ⟨v1, σ1, H1, J1, r1, q1⟩ := fin
      exact ⟨v1, σ1, H1, J1.ofTry good, r1, q1⟩
  -- what the body lets out
  obtain ⟨a, B, sI, pins', σ', H', cls, d, rfl, J0, nb, up, sky0, na, os, ag, b, tst, yes, no⟩ := xx
  have J : Inv X pins σ' H' sI := J0.ofTry good
  have sky : Sky B (X.env :: X.outer) a (Zc cls d) X.env.locals s'.heap := by rw [← stk]; exact sky0
  show wpAny (model X.prog X.w) X.A (noteFrame (.ref a) X.env) _ _ _
  refine Sky.land Zc.steady frs2 frm sky fun h3 fl3 up3 => ?_
  have J3 : Inv X pins σ' H' { s' with heap := h3 } := J.landed nb fl3.1 (up.trans up3) os ag
  obtain ⟨oe3, vs3, he3, hz3, hd3⟩ := fl3.there
  have notFr : a ∉ frs (X.env :: X.outer) := fun hm => by
    obtain ⟨_, o', e', hnf⟩ := fl3.2.2.1.mem hm
    rw [he3] at e'
    cases e'
    exact hnf _ hd3
  have Ba : B.get? a = none := fl3.2.1
  -- the heap without it
  have cut : ∀ {h4 : Heap}, B.StaysIn h4 → s'.heap.UpToSlots h4 → ∃ G : Heap, (∀ b o, G.get? b = some o → h4.get? b = some o) ∧ G.get? a = none ∧ Inv X pins σ' H' { s' with heap := G } := fun {h4} st4 up4 => by
    obtain ⟨G, g1, g2⟩ := restrict h4 fun b => decide (b ≠ a)
    have ga : G.get? a = none := g2 a (decide_eq_false fun z => z rfl)
    have ge : ∀ b, b ≠ a → G.get? b = h4.get? b := fun b hb => g1 b (decide_eq_true hb)
    have keepB : B.StaysIn G := fun b o e => by
      rw [ge b fun z => by rw [z, Ba] at e; cases e]
      exact st4 b o e
    have upG : sI.heap.UpToSlots G := fun b o e nf => by
      have hb : b ≠ a := fun z => by
        have := nb a o (z ▸ e) (by rw [stk]; exact notFr)
        rw [Ba] at this
        cases this
      rw [ge b hb]
      exact (up.trans up4) b o e nf
    refine ⟨G, fun b o e => ?_, ga, J.landed (s' := { s' with heap := G }) nb keepB upG os ag⟩
    by_cases hb : b = a
    · rw [hb, ga] at e
      cases e
    · rw [← ge b hb]
      exact e
  have S3 := into_suite J3 a
  refine wpAny_handleBy_cons (codeAny_handlers_test ?_) (by intro q; cases q)
  have typed : PySem.W.Looks (model X.prog X.w) h3 (typeOf (.ref a)) cls := fun A Q E s k q => wpAny_typeOf_ref (k _ _ he3) (by rw [hz3.1]; exact q)
  have matched := PySem.W.exm_one (M := model X.prog X.w) (J3.kIn) typed tst
  have named : ∀ {Q : Value → Shared → Prop} {E : Value → Shared → Prop}, Q c { s' with heap := h3 } → wpAny (model X.prog X.w) (X.A.mark (some (.ref a))) (eval (.Name x np) X.env) Q E { s' with heap := h3 } := fun {Q E} q => by
    obtain ⟨hg, hdbg, hm | ⟨hm, hv, hnn⟩⟩ := nm
    · exact ld_glob (X := X.suite a (X.pn ++ pins)) S3 hg hm q hdbg
    · exact ld_blt (X := X.suite a (X.pn ++ pins)) S3 hg hm hv q hnn hdbg
  refine named (matched.here ?_)
  cases b with
  | true =>
    refine codeAny_handlers_suite_as ?_
    refine HandSPX.lands_againZ fl3 fun h4 fl4 up4 => ?_
    obtain ⟨oe4, vs4, he4, hz4, hd4⟩ := fl4.there
    obtain ⟨G, gk, ga, JG⟩ := cut fl4.1 (up3.trans up4)
    have JK : Inv X pins σ' (upd H' a (Xc cls d a)) { s' with heap := h4 } := JG.laidN (t' := s'.toks) (h' := h4) gk ga na (xc_ok he4 hz4 hd4)
    refine store_ok (X := X.suite a (X.pn ++ pins)) (v := .ref a) (into_suite JK a) nod at_ isLoc rfl (fun s5 S5 => ?_) (.inr kln)
    refine wpAny_mono ((sui a cls d (X.pn ++ pins)).run [] s5 _ _ _ S5 (yes rfl a na)) (fun f s6 fin => ?_) (fun _ _ z => False.elim z)
    have ends : ∀ {σ6 : L2.St} {H6 : Hp} {Q : Shared → Prop}, Inv (X.suite a (X.pn ++ pins)) [] σ6 H6 s6 → (∀ s7, Inv X pins (σ6.set i none) H6 s7 → Q s7) →
        wpAny (model X.prog X.w) X.A (do bindName X.env n .none; unbindBehindTheSuite X.env n pos') (fun _ s7 => Q s7) X.xe s6 := fun {σ6 H6 Q} S6 hq => gone_ok (out_suite S6 good) nod at_ kln hq
    cases f with
    | next =>
      obtain ⟨σ6, H6, S6, q6⟩ := fin
      exact ends S6 fun s7 J7 => ⟨_, _, J7, q6⟩
    | brk =>
      obtain ⟨σ6, H6, S6, q6⟩ := fin
      exact ends S6 fun s7 J7 => ⟨_, _, J7, q6⟩
    | cont =>
      obtain ⟨σ6, H6, S6, q6⟩ := fin
      exact ends S6 fun s7 J7 => ⟨_, _, J7, q6⟩
    | ret u =>
      obtain ⟨v6, σ6, H6, S6, r6, q6⟩ := fin
      exact ends S6 fun s7 J7 => ⟨_, _, _, J7, r6, q6⟩
  | false =>
    show wpAny _ X.A (handleBy (.ref a) X.env []) _ _ _
    refine wpAny_handleBy_nil ?_
    obtain ⟨k1, k2, k3, oe, vs, T, oT, ts', he, hz, hd, h1, hr⟩ := id fl3
    unfold PySem.passOn
    refine wpAny_bind (wpAny_field he hd h1 ?_)
    rw [if_neg (show ¬ ((Value.ref T == Value.none) = true) from by simp)]
    have fin : wpAny (model X.prog X.w) X.A (setFlight (.ref a) X.env.frame) (fun _ s4 => wpAny (model X.prog X.w) X.A (throw (.ref a) : Sem Flow) (SP X pins D) X.xe s4) X.xe { s' with heap := h3 } := by
      rw [frm]
      refine HandSPX.setFlight_upZ fl3 fun h4 hh4 up4 => wpAny_throw (out _ _ ?_)
      exact ⟨a, B, sI, pins, σ', H', cls, d, rfl, J, nb, (up.trans up3).trans up4, .inr (.inr (by rw [stk]; exact hh4)), na, os, ag, no rfl⟩
    first
      | exact wpAny_bind (wpAny_pure (wpAny_bind fin))
      | exact wpAny_bind fin
end
end EXV
set_option Elab.async false
set_option linter.all false
set_option maxRecDepth 100000
set_option maxHeartbeats 4000000
/-! EXW: isinstance of a kept exception, and its fields -/
namespace EXW
open PySem PySem.Spec PySem.Calls PyProof.Rows
section
open PySem.W
variable {prog : Program} {w : World} {A : Around} {E : Value → Shared → Prop} {s : Shared} {K : Frag} {x D : Addr} {ox : Obj} {od : Option Obj}
theorem bound {C : Addr} {m : Str} {a g : Value} (hc : (clsIn K C).isSome = true) (ha : findIn K (.ref C) m = some (some a)) (hg : specialIn K a "__get__" = some (some g)) (ht : takesIn K a = some true) : findObj K C od m = some (.bind g a) := by
  obtain ⟨cd, hc⟩ := Option.isSome_iff_exists.mp hc
  simp only [findObj, hc, ha, hg, ht, Option.bind_some]
theorem cls_of {Q : Option Value → Shared → Prop} (X : L2.ExcC K D) (kin : K.In s.heap) (I : InstAt s.heap x ox D od) (post : Q (some (.ref D)) { s with toks := s.toks + 1 }) : wpAny (model prog w) A (getAttr? (.ref x) "__class__") Q E s := by
  have hf : findObj K D od "__class__" = some (.bind (.builtin "getset_descriptor.__get__") (.builtin "object.__class__")) := bound (by obtain ⟨cd, hc, _⟩ := any_some X.hd; rw [hc]; rfl) X.ha X.hn X.ht
  obtain ⟨hp, g, d, t, os⟩ := s
  have t0 := I.type (M := model prog w)
  have g1 := looks_findIn (M := model prog w) kin X.hg
  have g2 := looks_findIn (M := model prog w) kin X.hk
  have g3 := looks_find (M := model prog w) kin I hf
  have exc : Looks (model prog w) hp (isInstance (.ref x) (.type "BaseException")) true := t0.andThen (looks_subIn kin X.hs)
  have no1 : (Value.builtin "BaseException.__getattribute__" == Value.builtin "object.__getattribute__") = false := by decide +kernel
  have no2 : (onTheHeap (Value.ref D) && Value.builtin "BaseException.__getattribute__" == Value.builtin "object.__getattribute__") = false := by rw [no1]; rfl
  have no3 : (false && onTheHeap (Value.builtin "BaseException.__getattribute__")) = false := rfl
  unfold getAttr? getAttrBy? getAttrBy
  refine wpAny_bind (wpAny_mkText (wpAny_bind (wpAny_attempt (wpAny_holding (wpAny_bind (t0.at (wpAny_bind (g1.at ?_))))))))
  show wpAny _ _ (if (onTheHeap (Value.ref D) && Value.builtin "BaseException.__getattribute__" == Value.builtin "object.__getattribute__") = true then _ else _) _ _ _; rw [no2, if_neg Bool.false_ne_true]
  unfold getAttrByItsOwn hookBefore; refine wpAny_bind ?_
  rw [if_pos (show onTheHeap (Value.ref D) = true from rfl)]; refine g2.at ?_
  refine wpAny_bind (wpAny_attempt (wpAny_holding ?_)); unfold callGetattribute
  rw [no3, if_neg Bool.false_ne_true]; unfold boundAndCalled
  rw [PySem.F.excAttr_ValueError.ga.bind (.ref x)]; refine wpAny_bind (wpAny_pure ?_)
  show wpAny _ _ (call (.builtin "BaseException.__getattribute__") [.ref x, .str "__class__" t]) _ _ _; refine wpAny_call (codeAny_call_builtin PySem.F.excAttr_ValueError.ga.plain PySem.F.entry_bexc_ga ?_)
  refine @check_slot (model prog w) _ _ ⟨hp, g, d, t + 1, os⟩ "BaseException.__getattribute__" "BaseException" "__getattribute__" (.ref x) [.str "__class__" t] [] _ (by decide +kernel) (by decide +kernel) exc (PySem.F.args_bexc_ga (.ref x) (.str "__class__" t)) ?_
  unfold Builtin.«object.__getattribute__»; refine wpAny_bind (wpAny_of_eq (a := ((Value.ref x : Value), [Value.str "__class__" t])) (by first | rfl | (simp only [slotArgs]; rfl)) ?_)
  refine wpAny_bind (wpAny_pure (wpAny_bind (t0.at (wpAny_bind (g3.at ?_)))))
  show wpAny _ _ (holding [Value.builtin "object.__class__"] (call (.builtin "getset_descriptor.__get__") [.builtin "object.__class__", .ref x, .ref D]) >>= ret) _ _ _; refine wpAny_bind (wpAny_holding (wpAny_call (class_get (s := ⟨hp, g, d, t + 1, os⟩) (ox := ox) (od := od) kin I X.hm ?_)))
  refine wpAny_pure ?_; show wpAny _ _ (handedOut (.ref D)) _ _ _
  rw [handedOut_of (v := .ref D) rfl]
  first | exact wpAny_pure (wpAny_pure post) | exact wpAny_pure post | exact wpAny_pure (wpAny_bind (wpAny_pure (wpAny_pure post)))
theorem kit_of (X : L2.ExcC K D) : KitX K (.ref x) (.ref D) (fun h => ∃ ox od, InstAt h x ox D od) where
  ty := fun _ _ _ ⟨_, _, I⟩ => I.type
  it := fun _ _ kin _ => by
    obtain ⟨cdD, hcD, _⟩ := any_some X.hd
    unfold clsIn at hcD
    split at hcD
    · rename_i c' d' cd' sl' ho
      intro A' Q' E' s' k q; unfold isType loadHead
      exact wpAny_bind (wpAny_loadPart (k _ _ (kin _ _ ho)) (wpAny_pure q))
    · cases hcD
  ne := fun h tp dd its n sl kin htp => by
    obtain ⟨cdD, hcD, _⟩ := any_some X.hd
    refine Bool.eq_false_iff.mpr fun q => ?_
    obtain rfl : D = tp := Value.ref.inj (beq_iff_eq.mp q)
    unfold clsIn at hcD
    split at hcD
    · rename_i c' d' cd' sl' ho
      cases (kin _ _ ho).symm.trans htp
    · cases hcD
  ca := fun kin ⟨_, _, I⟩ k => cls_of X kin I k
end
open L2 EXV
/-- the dict of a kept exception, if it has one, is ours too -/
def Dct (H : Hp) (d : Option Addr) : Prop := d = none ∨ ∃ (dd : Addr) (fs : List (Str × V)), d = some dd ∧ H dd = some (.xd fs)
section
variable {X : Cx} {pins : List (Addr × Obj)} {σ : L2.St} {H : Hp} {s : Shared} {a D : Addr} {d : Option Addr}
theorem inst (I : Inv X pins σ H s) (e : H a = some (Xc (.ref D) d a)) (hd : Dct H d) : ∃ ox od, PySem.W.InstAt s.heap a ox D od ∧ ∀ dd fs, d = some dd → H dd = some (.xd fs) → ∃ (o : Obj) (mA : Str → Option Value), od = some o ∧ (∀ m, RelO (fs.lookup m) (mA m)) ∧ ∀ m, PySem.W.lookIn m o = some (mA m) := by
  obtain ⟨oe, vs, g, z, f⟩ := xc_at I.hok e
  have nc : PySem.W.notCls oe = true := by unfold PySem.W.notCls; rw [f] <;> rfl
  rcases hd with rfl | ⟨dd, fs, rfl, hx⟩
  · exact ⟨oe, none, ⟨g, z.1, nc, by rw [z.2]; trivial⟩, fun dd fs e => by cases e⟩
  · have hx' : ObjOk X.prog X.w H s.heap dd (.xd fs) := I.hok dd _ hx
    obtain ⟨mA, hns, hr⟩ := hx'
    obtain ⟨o, ho, hl⟩ := lookIn_ns hns
    refine ⟨oe, some o, ⟨g, z.1, nc, by rw [z.2]; exact ho⟩, fun dd' fs' e1 e2 => ?_⟩
    cases e1
    rw [hx] at e2
    cases e2
    exact ⟨o, mA, rfl, hr, hl⟩
/-- isinstance(e, c) of a kept exception -/
def rIsK (K : PySem.W.Frag) : List V → Hp → VK → Prop := fun xs H Q => ∃ (a D : Addr) (d : Option Addr) (c : V) (cv : Value) (b : Bool), xs = [.ref a, c] ∧ H a = some (Xc (.ref D) d a) ∧ Dct H d ∧ ExcC K D ∧ (∀ u, RelV c u → u = cv) ∧ PySem.W.kitOne K (.ref D) cv = some b ∧ Q (.bl b) H
theorem call_isK : CallR X (.builtin "isinstance") (rIsK X.K) := by
  intro pins s σ H xs us Q I r h
  obtain ⟨a, D, d, c, cv, b, rfl, ea, hd, C, hcv, e, q⟩ := h
  match us, r with
  | [_, _], .cons rx (.cons rt .nil) =>
    cases rx
    have ec := hcv _ rt
    subst ec
    obtain ⟨ox, od, J, _⟩ := inst I ea hd
    exact PySem.W.kia_one (kit_of C) I.kIn ⟨ox, od, J⟩ e (fun z => nomatch z) fun tk => ⟨.bl b, H, I.kept (t' := tk) fun _ _ z => z, rfl, q⟩
end
/-- e.f of a kept exception -/
def tXk (K : PySem.W.Frag) (f : Str) (te : TE) : TE := fun σ H Q => te σ H fun x H1 => ∃ (a C dd : Addr) (fs : List (Str × V)) (v : V), x = .ref a ∧ H1 a = some (Xc (.ref C) (some dd) a) ∧ H1 dd = some (.xd fs) ∧ XfC K C ∧ PySem.W.findIn K (.ref C) f = some none ∧ fs.lookup f = some v ∧ Q v H1
theorem pe_xk {X : Cx} {e : Expr} {te : TE} {pos : Pos} {n : Str} (he : PE X e te) (hb : attributeBase e n X.env (eval e X.env) = eval e X.env := by rfl) : PE X (.Attribute e n pos) (tXk X.K n te) := by
  refine ⟨fun pins s σ H Q I h => ?_⟩
  refine attr_of hb (thn (he.run pins s σ H _ I h) fun u s1 hh => ?_)
  obtain ⟨x, H1, I1, rx, a, C, dd, fs, v, rfl, ea, ed, T, hno, l, q⟩ := hh
  obtain rfl : u = Value.ref a := rx
  obtain ⟨ox, od, J, more⟩ := inst I1 ea (.inr ⟨dd, fs, rfl, ed⟩)
  obtain ⟨o, mA, rfl, hr, hl⟩ := more dd fs rfl ed
  obtain ⟨u, hu, ru⟩ := RelO.some_of (v := v) (o := mA n) (by rw [← l]; exact hr n)
  exact HandSPX.exc_get I1.kIn J T.ga T.gg T.exC (PySem.W.findObj_own T.hdC hno rfl (by rw [hl, hu])) (handed_of ru) ⟨v, H1, I1.tok _, ru, q⟩
end EXW
set_option Elab.async false
set_option linter.all false
set_option maxRecDepth 100000
set_option maxHeartbeats 4000000
/-! d.update(e), both dicts by texts or numbers -/
namespace DU
open PySem PySem.Spec PyProof.Rows L2
def rUpd : V → List V → Hp → VK → Prop := fun x xs H Q => ∃ (d o : Addr) (kvs more : List (Key × V)), x = .ref d ∧ xs = [.ref o] ∧ d ≠ o ∧ H d = some (.dK kvs) ∧ H o = some (.dK more) ∧ kvs.length + more.length ≤ sizeLine ∧ Q .non (upd H d (.dK (mergeK kvs more)))
theorem putK_len (kvs : List (Key × V)) (k : Key) (v : V) : (putK kvs k v).length ≤ kvs.length + 1 := by
  unfold putK
  split
  · rw [List.length_map]; omega
  · rw [List.length_append]; exact Nat.le_refl _
theorem mergeK_len : ∀ (more kvs : List (Key × V)), (mergeK kvs more).length ≤ kvs.length + more.length
  | [], kvs => Nat.le_refl _
  | p :: more, kvs => by
    have ih := mergeK_len more (putK kvs p.1 p.2)
    have h := putK_len kvs p.1 p.2
    show (mergeK (putK kvs p.1 p.2) more).length ≤ _
    rw [List.length_cons]
    omega
theorem mt_upd {X : Cx} : MtR X "dict.update" rUpd := by
  intro pins s σ H x xs v us Q I rx rxs h
  obtain ⟨d, o, kvs, more, rfl, rfl, ne, hd, ho, hz, q⟩ := h
  cases rx
  obtain ⟨u, rfl, ru⟩ := rxs.one
  cases ru
  obtain ⟨l1, s1, vs, kv1, D1⟩ := I.hok d _ hd
  obtain ⟨l2, s2, ws, kv2, D2⟩ := I.hok o _ ho
  have e1 : vs.length = kvs.length := (Paired.length kv1).symm
  have e2 : ws.length = more.length := (Paired.length kv2).symm
  have T := D1.typeIs
  refine call_meetsIn PySem.F.slot_dict_update T PySem.F.entry_dict_update (PySem.F.args_dict_update_2 _ _) (meets_dict_update (mixKind X.prog X.w) d o ne s2) ⟨vs, ws, D1, D2, by omega, fun h' D1' D2' same => ?_⟩
  have J := I.write (t' := s.toks) (x := d) (e := d) (o := .dK (mergeK kvs more)) (by rw [hd]; exact True.intro) (.inl rfl) (fun b u hb e => (same.2 b hb).trans e) (by obtain ⟨ob, es, ep, e, _⟩ := D1'; exact ⟨ob, e⟩) ⟨Nat.le_trans (mergeK_len more kvs) hz, s1, _, KV.merge kv2 kv1, D1'⟩
  exact ⟨.non, _, J, rfl, q⟩
end DU
set_option Elab.async false
set_option linter.all false
set_option maxRecDepth 100000
set_option maxHeartbeats 4000000
/-! a walk over zip of two lists of one length -/
namespace ZL
open PySem PySem.Spec PyProof.Rows L2
theorem walk_zipL {K : PySem.W.Frag} {a b : Addr} {xs ys : List V} (hl : ys.length = xs.length) : Walk (Itz K a b) xs.length (fun H => SqL K H a xs ∧ SqL K H b ys) (fun i H v H' => ∃ T x y, v = .ref T ∧ H T = none ∧ H' = upd H T (.tup [x, y]) ∧ xs[i]? = some x ∧ ys[i]? = some y) where
  goes := fun i H hi ⟨hx, hy⟩ => ⟨xs, ys, _, _, hx, hy, List.getElem?_eq_getElem hi, List.getElem?_eq_getElem (by omega)⟩
  yields := fun i H x H' hi ⟨hx, hy⟩ ⟨T, x', y', e1, e2, e3, f1, f2⟩ => ⟨T, x', y', e1, e2, e3, f1 xs hx, f2 ys hy⟩
  stops := fun H ⟨hx, hy⟩ => ⟨xs, ys, hx, hy, .inl (Nat.le_refl _)⟩
end ZL
set_option Elab.async false
set_option linter.all false
set_option maxRecDepth 100000
set_option maxHeartbeats 4000000
namespace K04
open PySem PySem.Spec PyProof.Rows L2
open C8 (Cal Mak Met pe_c pe_mk pe_mt pe_mt0)
open EXV (Xc)
open EXW (Dct)
theorem take_one {α : Type} {l : List α} {i : Nat} {x : α} (h : l[i]? = some x) : l.take (i + 1) = l.take i ++ [x] := by rw [List.take_succ, h]; rfl
theorem line_of {n : Nat} (h : n ≤ 100000) : n ≤ sizeLine := by have := sizeLine_eq; omega
theorem line_lt {n : Nat} (h : n ≤ 100000) : n < sizeLine := by have := sizeLine_eq; omega
/-- the own classes of refusals, the classes above them, the words -/
abbrev ex16 : List Str := [("NoKind" : Str), ("Nought" : Str), ("NoShare" : Str), ("Uneven" : Str), ("BadName" : Str), ("NoNumber" : Str), ("NoRide" : Str), ("NoText" : Str), ("NoName" : Str), ("NoDay" : Str), ("NoSeats" : Str), ("TooMany" : Str), ("Taken" : Str), ("NoRule" : Str), ("NothingDone" : Str), ("NoRow" : Str)]
abbrev ex10 : List String := ["TypeError", "ZeroDivisionError", "ArithmeticError", "ValueError", "KeyError", "LookupError", "IndexError", "OverflowError", "RuntimeError", "NotImplementedError"]
abbrev kw16 : List Str := [("kind" : Str), ("nought" : Str), ("share" : Str), ("uneven" : Str), ("badname" : Str), ("number" : Str), ("ride" : Str), ("text" : Str), ("name" : Str), ("day" : Str), ("seats" : Str), ("many" : Str), ("taken" : Str), ("rule" : Str), ("done" : Str), ("row" : Str)]
/-- what is known of a refusal's class D: which of the sixteen it is (ow), which of the ten stand above it (ab) -/
structure Ex (K : PySem.W.Frag) (mg : Str → Option Value) (D : Addr) (ow : Str → Bool) (ab : String → Bool) : Prop where
  gl : ∀ x ∈ ex16, mg x = some (.ref (He.ga K x))
  bt : ∀ x ∈ ex10, mg (Str.ofString x) = none
  xc : ExcC K D
  ko : ∀ x ∈ ex16, PySem.W.kitOne K (.ref D) (.ref (He.ga K x)) = some (ow x)
  kb : ∀ x ∈ ex10, PySem.W.kitOne K (.ref D) (.type x) = some (ab x)
section
variable {P : Program} {w : World} {K : PySem.W.Frag} {mg : Str → Option Value} {base : Heap} {f C CT D : Addr} {fd : FuncData} {ow : Str → Bool} {ab : String → Bool}
theorem isO {a : Addr} {d : Option Addr} {H : Hp} {x : Str} {Q : VK} (T : Ex K mg D ow ab) (ha : H a = some (Xc (.ref D) d a)) (hd : Dct H d) (hx : x ∈ ex16) (q : Q (.bl (ow x)) H) : EXW.rIsK K [.ref a, .ref (He.ga K x)] H Q :=
  ⟨a, D, d, _, _, _, rfl, ha, hd, T.xc, fun u r => by cases r; rfl, T.ko x hx, q⟩
theorem isB {a : Addr} {d : Option Addr} {H : Hp} {x : String} {Q : VK} (T : Ex K mg D ow ab) (ha : H a = some (Xc (.ref D) d a)) (hd : Dct H d) (hx : x ∈ ex10) (q : Q (.bl (ab x)) H) : EXW.rIsK K [.ref a, .ty x] H Q :=
  ⟨a, D, d, _, _, _, rfl, ha, hd, T.xc, fun u r => by cases r; rfl, T.kb x hx, q⟩
theorem dct_same {H H' : Hp} {d : Option Addr} (h : Dct H d) (s : Same H H') : Dct H' d := by
  rcases h with h | ⟨dd, fs, e, h⟩
  · exact .inl h
  · exact .inr ⟨dd, fs, e, s _ _ h⟩
/-- the words of what it is -/
def fnd (ow : Str → Bool) : List Str := ((kw16.zip (ex16.map ow)).filter (·.2)).map (·.1)
theorem split16 : Txt.split "kind nought share uneven badname number ride text name day seats many taken rule done row" " " = kw16 := by decide +kernel
def spKi (D : Addr) (ow : Str → Bool) (ab : String → Bool) : Sp := fun vs H Q _ => ∃ (a : Addr) (d : Option Addr), vs = [.ref a] ∧ H a = some (Xc (.ref D) d a) ∧ Dct H d ∧
  ∀ (t l m : Addr) (H' : Hp), Same H H' → H t = none → H' t = some (.tup [.ref l, .ref m]) → H' l = some (.lst ((fnd ow).map V.str)) → H' m = some (.lst (ex10.map fun x => V.bl (ab x))) → Q (.ref t) H'
theorem ok_ki (F : Dn K d_l_kinds f fd) (b : Bl mg) (bz : mg "zip" = none) (T : Ex K mg D ow ab) : FnOk P w K mg base CX0 1 f fd ["_law_error"] (spKi D ow ab) := by
  refine F.ok sc_l_kinds (fun vs H Q E h => ?_) (fun cdv A outer s H vs Q E hr h => ?_)
  · obtain ⟨a, d, rfl, _⟩ := h
    rfl
  · obtain ⟨a, d, rfl, ha, hd, hQ⟩ := h
    refine ⟨_, PSs.nox (pss_cons (ps_set (i := 1) sc_l_kinds.nd rfl (.inl rfl) (pe_lst (pa_cons (pe_callB (r := EXW.rIsK K) EXW.call_isK rfl b.isi boot_isinstance (pa_cons (pv 0) (pa_cons (pe_glob (v := .ref (He.ga K "NoKind")) rfl (T.gl "NoKind" (by decide +kernel)) rfl) pa_nil))) (pa_cons (pe_callB (r := EXW.rIsK K) EXW.call_isK rfl b.isi boot_isinstance (pa_cons (pv 0) (pa_cons (pe_glob (v := .ref (He.ga K "Nought")) rfl (T.gl "Nought" (by decide +kernel)) rfl) pa_nil))) (pa_cons (pe_callB (r := EXW.rIsK K) EXW.call_isK rfl b.isi boot_isinstance (pa_cons (pv 0) (pa_cons (pe_glob (v := .ref (He.ga K "NoShare")) rfl (T.gl "NoShare" (by decide +kernel)) rfl) pa_nil))) (pa_cons (pe_callB (r := EXW.rIsK K) EXW.call_isK rfl b.isi boot_isinstance (pa_cons (pv 0) (pa_cons (pe_glob (v := .ref (He.ga K "Uneven")) rfl (T.gl "Uneven" (by decide +kernel)) rfl) pa_nil))) pa_nil))))))
      (pss_cons (ps_set (i := 1) sc_l_kinds.nd rfl (.inl rfl) (pe_op op_cat (pv 1) (pe_lst (pa_cons (pe_callB (r := EXW.rIsK K) EXW.call_isK rfl b.isi boot_isinstance (pa_cons (pv 0) (pa_cons (pe_glob (v := .ref (He.ga K "BadName")) rfl (T.gl "BadName" (by decide +kernel)) rfl) pa_nil))) (pa_cons (pe_callB (r := EXW.rIsK K) EXW.call_isK rfl b.isi boot_isinstance (pa_cons (pv 0) (pa_cons (pe_glob (v := .ref (He.ga K "NoNumber")) rfl (T.gl "NoNumber" (by decide +kernel)) rfl) pa_nil))) (pa_cons (pe_callB (r := EXW.rIsK K) EXW.call_isK rfl b.isi boot_isinstance (pa_cons (pv 0) (pa_cons (pe_glob (v := .ref (He.ga K "NoRide")) rfl (T.gl "NoRide" (by decide +kernel)) rfl) pa_nil))) pa_nil))))))
      (pss_cons (ps_set (i := 1) sc_l_kinds.nd rfl (.inl rfl) (pe_op op_cat (pv 1) (pe_lst (pa_cons (pe_callB (r := EXW.rIsK K) EXW.call_isK rfl b.isi boot_isinstance (pa_cons (pv 0) (pa_cons (pe_glob (v := .ref (He.ga K "NoText")) rfl (T.gl "NoText" (by decide +kernel)) rfl) pa_nil))) (pa_cons (pe_callB (r := EXW.rIsK K) EXW.call_isK rfl b.isi boot_isinstance (pa_cons (pv 0) (pa_cons (pe_glob (v := .ref (He.ga K "NoName")) rfl (T.gl "NoName" (by decide +kernel)) rfl) pa_nil))) (pa_cons (pe_callB (r := EXW.rIsK K) EXW.call_isK rfl b.isi boot_isinstance (pa_cons (pv 0) (pa_cons (pe_glob (v := .ref (He.ga K "NoDay")) rfl (T.gl "NoDay" (by decide +kernel)) rfl) pa_nil))) pa_nil))))))
      (pss_cons (ps_set (i := 1) sc_l_kinds.nd rfl (.inl rfl) (pe_op op_cat (pv 1) (pe_lst (pa_cons (pe_callB (r := EXW.rIsK K) EXW.call_isK rfl b.isi boot_isinstance (pa_cons (pv 0) (pa_cons (pe_glob (v := .ref (He.ga K "NoSeats")) rfl (T.gl "NoSeats" (by decide +kernel)) rfl) pa_nil))) (pa_cons (pe_callB (r := EXW.rIsK K) EXW.call_isK rfl b.isi boot_isinstance (pa_cons (pv 0) (pa_cons (pe_glob (v := .ref (He.ga K "TooMany")) rfl (T.gl "TooMany" (by decide +kernel)) rfl) pa_nil))) (pa_cons (pe_callB (r := EXW.rIsK K) EXW.call_isK rfl b.isi boot_isinstance (pa_cons (pv 0) (pa_cons (pe_glob (v := .ref (He.ga K "Taken")) rfl (T.gl "Taken" (by decide +kernel)) rfl) pa_nil))) pa_nil))))))
      (pss_cons (ps_set (i := 1) sc_l_kinds.nd rfl (.inl rfl) (pe_op op_cat (pv 1) (pe_lst (pa_cons (pe_callB (r := EXW.rIsK K) EXW.call_isK rfl b.isi boot_isinstance (pa_cons (pv 0) (pa_cons (pe_glob (v := .ref (He.ga K "NoRule")) rfl (T.gl "NoRule" (by decide +kernel)) rfl) pa_nil))) (pa_cons (pe_callB (r := EXW.rIsK K) EXW.call_isK rfl b.isi boot_isinstance (pa_cons (pv 0) (pa_cons (pe_glob (v := .ref (He.ga K "NothingDone")) rfl (T.gl "NothingDone" (by decide +kernel)) rfl) pa_nil))) (pa_cons (pe_callB (r := EXW.rIsK K) EXW.call_isK rfl b.isi boot_isinstance (pa_cons (pv 0) (pa_cons (pe_glob (v := .ref (He.ga K "NoRow")) rfl (T.gl "NoRow" (by decide +kernel)) rfl) pa_nil))) pa_nil))))))
      (pss_cons (ps_set (i := 2) sc_l_kinds.nd rfl (.inl rfl) (pe_bm PySem.F.plainAttrs_str PySem.F.slot_str_split PySem.F.type_str_split mt_split pe_str (pa_cons pe_str pa_nil)))
      (pss_cons (ps_setLc (i := 3) (own := [("_law_word", 5), ("_law_so", 6)]) (g := gTup K 2 (gCons (gName 5) (gCons (gName 6) gNil))) rfl sc_l_kinds.nd rfl rfl (sw_true rfl rfl rfl (by decide +kernel)) (RZ.pi_zipA rfl bz (pa_cons (pv 2) (pa_cons (pv 1) pa_nil))) (blkOk_by (N := N_l_kinds) (sc := defScope s_l_kinds) (by decide +kernel))
          (fun _ _ _ _ _ => pg_tup rfl (pgs_cons (pg_name (i := 5) sc_l_kinds.nd rfl (.inl rfl)) (pgs_cons (pg_name (i := 6) sc_l_kinds.nd rfl (.inl rfl)) pgs_nil))) (fun _ _ _ _ _ => pts_one (pt_val (pv 6))) (fun _ _ _ _ _ => pv 5))
      (pss_cons (ps_set (i := 4) sc_l_kinds.nd rfl (.inl rfl) (pe_lst (pa_cons (pe_callB (r := EXW.rIsK K) EXW.call_isK rfl b.isi boot_isinstance (pa_cons (pv 0) (pa_cons (pe_bltn (v := .ty "TypeError") rfl (T.bt "TypeError" (by decide +kernel)) PyProof.Rows.Boot.«TypeError» rfl) pa_nil))) (pa_cons (pe_callB (r := EXW.rIsK K) EXW.call_isK rfl b.isi boot_isinstance (pa_cons (pv 0) (pa_cons (pe_bltn (v := .ty "ZeroDivisionError") rfl (T.bt "ZeroDivisionError" (by decide +kernel)) PyProof.Rows.Boot.«ZeroDivisionError» rfl) pa_nil))) (pa_cons (pe_callB (r := EXW.rIsK K) EXW.call_isK rfl b.isi boot_isinstance (pa_cons (pv 0) (pa_cons (pe_bltn (v := .ty "ArithmeticError") rfl (T.bt "ArithmeticError" (by decide +kernel)) PyProof.Rows.Boot.«ArithmeticError» rfl) pa_nil))) pa_nil)))))
      (pss_cons (ps_set (i := 4) sc_l_kinds.nd rfl (.inl rfl) (pe_op op_cat (pv 4) (pe_lst (pa_cons (pe_callB (r := EXW.rIsK K) EXW.call_isK rfl b.isi boot_isinstance (pa_cons (pv 0) (pa_cons (pe_bltn (v := .ty "ValueError") rfl (T.bt "ValueError" (by decide +kernel)) PyProof.Rows.Boot.«ValueError» rfl) pa_nil))) (pa_cons (pe_callB (r := EXW.rIsK K) EXW.call_isK rfl b.isi boot_isinstance (pa_cons (pv 0) (pa_cons (pe_bltn (v := .ty "KeyError") rfl (T.bt "KeyError" (by decide +kernel)) PyProof.Rows.Boot.«KeyError» rfl) pa_nil))) (pa_cons (pe_callB (r := EXW.rIsK K) EXW.call_isK rfl b.isi boot_isinstance (pa_cons (pv 0) (pa_cons (pe_bltn (v := .ty "LookupError") rfl (T.bt "LookupError" (by decide +kernel)) PyProof.Rows.Boot.«LookupError» rfl) pa_nil))) pa_nil))))))
      (pss_cons (ps_set (i := 4) sc_l_kinds.nd rfl (.inl rfl) (pe_op op_cat (pv 4) (pe_lst (pa_cons (pe_callB (r := EXW.rIsK K) EXW.call_isK rfl b.isi boot_isinstance (pa_cons (pv 0) (pa_cons (pe_bltn (v := .ty "IndexError") rfl (T.bt "IndexError" (by decide +kernel)) PyProof.Rows.Boot.«IndexError» rfl) pa_nil))) (pa_cons (pe_callB (r := EXW.rIsK K) EXW.call_isK rfl b.isi boot_isinstance (pa_cons (pv 0) (pa_cons (pe_bltn (v := .ty "OverflowError") rfl (T.bt "OverflowError" (by decide +kernel)) PyProof.Rows.Boot.«OverflowError» rfl) pa_nil))) (pa_cons (pe_callB (r := EXW.rIsK K) EXW.call_isK rfl b.isi boot_isinstance (pa_cons (pv 0) (pa_cons (pe_bltn (v := .ty "RuntimeError") rfl (T.bt "RuntimeError" (by decide +kernel)) PyProof.Rows.Boot.«RuntimeError» rfl) pa_nil))) pa_nil))))))
      (pss_one (ps_ret (pe_tup (pa_cons (pv 3) (pa_cons (pe_op op_cat (pv 4) (pe_lst (pa_cons (pe_callB (r := EXW.rIsK K) EXW.call_isK rfl b.isi boot_isinstance (pa_cons (pv 0) (pa_cons (pe_bltn (v := .ty "NotImplementedError") rfl (T.bt "NotImplementedError" (by decide +kernel)) PyProof.Rows.Boot.«NotImplementedError» rfl) pa_nil))) pa_nil))) pa_nil))))))))))))))), ?_⟩
    refine ⟨_, rfl, a, D, d, _, _, _, rfl, ha, hd, T.xc, fun u r => (by cases r; rfl), T.ko "NoKind" (by decide +kernel), ?_⟩
    refine ⟨_, rfl, a, D, d, _, _, _, rfl, ha, hd, T.xc, fun u r => (by cases r; rfl), T.ko "Nought" (by decide +kernel), ?_⟩
    refine ⟨_, rfl, a, D, d, _, _, _, rfl, ha, hd, T.xc, fun u r => (by cases r; rfl), T.ko "NoShare" (by decide +kernel), ?_⟩
    refine ⟨_, rfl, a, D, d, _, _, _, rfl, ha, hd, T.xc, fun u r => (by cases r; rfl), T.ko "Uneven" (by decide +kernel), ?_⟩
    refine ⟨by show 4 ≤ sizeLine; decide, fun p1 f1 => ?_⟩
    have s1 := same_new (o := .lst [V.bl (ow "NoKind"), V.bl (ow "Nought"), V.bl (ow "NoShare"), V.bl (ow "Uneven")]) f1
    have ha := s1 _ _ ha
    have hd := dct_same hd s1
    have hl : _ = some (HO.lst [V.bl (ow "NoKind"), V.bl (ow "Nought"), V.bl (ow "NoShare"), V.bl (ow "Uneven")]) := (upd_same : (upd H p1 (.lst [V.bl (ow "NoKind"), V.bl (ow "Nought"), V.bl (ow "NoShare"), V.bl (ow "Uneven")])) p1 = _)
    generalize upd H p1 (.lst [V.bl (ow "NoKind"), V.bl (ow "Nought"), V.bl (ow "NoShare"), V.bl (ow "Uneven")]) = G1 at s1 ha hd hl ⊢
    have sm := s1
    refine ⟨_, rfl, _, rfl, a, D, d, _, _, _, rfl, ha, hd, T.xc, fun u r => (by cases r; rfl), T.ko "BadName" (by decide +kernel), ?_⟩
    refine ⟨_, rfl, a, D, d, _, _, _, rfl, ha, hd, T.xc, fun u r => (by cases r; rfl), T.ko "NoNumber" (by decide +kernel), ?_⟩
    refine ⟨_, rfl, a, D, d, _, _, _, rfl, ha, hd, T.xc, fun u r => (by cases r; rfl), T.ko "NoRide" (by decide +kernel), ?_⟩
    refine ⟨by show 3 ≤ sizeLine; decide, fun p2 f2 => ?_⟩
    have s2 := same_new (o := .lst [V.bl (ow "BadName"), V.bl (ow "NoNumber"), V.bl (ow "NoRide")]) f2
    have ha := s2 _ _ ha
    have hd := dct_same hd s2
    have hl2 := s2 _ _ hl
    have hm2 : (upd G1 p2 (.lst [V.bl (ow "BadName"), V.bl (ow "NoNumber"), V.bl (ow "NoRide")])) p2 = some (.lst [V.bl (ow "BadName"), V.bl (ow "NoNumber"), V.bl (ow "NoRide")]) := upd_same
    have sm2 := sm.trans s2
    generalize upd G1 p2 (.lst [V.bl (ow "BadName"), V.bl (ow "NoNumber"), V.bl (ow "NoRide")]) = G2 at sm2 ha hd hl2 hm2 ⊢
    refine ⟨p1, p2, _, _, rfl, rfl, hl2, hm2, by show 7 ≤ sizeLine; decide, fun p3 f3 => ?_⟩
    have s3 := same_new (o := .lst [V.bl (ow "NoKind"), V.bl (ow "Nought"), V.bl (ow "NoShare"), V.bl (ow "Uneven"), V.bl (ow "BadName"), V.bl (ow "NoNumber"), V.bl (ow "NoRide")]) f3
    have ha := s3 _ _ ha
    have hd := dct_same hd s3
    have hl : (upd G2 p3 (.lst [V.bl (ow "NoKind"), V.bl (ow "Nought"), V.bl (ow "NoShare"), V.bl (ow "Uneven"), V.bl (ow "BadName"), V.bl (ow "NoNumber"), V.bl (ow "NoRide")])) p3 = some (.lst [V.bl (ow "NoKind"), V.bl (ow "Nought"), V.bl (ow "NoShare"), V.bl (ow "Uneven"), V.bl (ow "BadName"), V.bl (ow "NoNumber"), V.bl (ow "NoRide")]) := upd_same
    have sm := sm2.trans s3
    replace hl : (upd G2 p3 _) p3 = some (.lst [V.bl (ow "NoKind"), V.bl (ow "Nought"), V.bl (ow "NoShare"), V.bl (ow "Uneven"), V.bl (ow "BadName"), V.bl (ow "NoNumber"), V.bl (ow "NoRide")]) := hl
    dsimp only [List.cons_append, List.nil_append] at *
    generalize upd G2 p3 (.lst [V.bl (ow "NoKind"), V.bl (ow "Nought"), V.bl (ow "NoShare"), V.bl (ow "Uneven"), V.bl (ow "BadName"), V.bl (ow "NoNumber"), V.bl (ow "NoRide")]) = G3 at sm ha hd hl ⊢
    clear hl2 hm2 sm2
    refine ⟨_, rfl, _, rfl, a, D, d, _, _, _, rfl, ha, hd, T.xc, fun u r => (by cases r; rfl), T.ko "NoText" (by decide +kernel), ?_⟩
    refine ⟨_, rfl, a, D, d, _, _, _, rfl, ha, hd, T.xc, fun u r => (by cases r; rfl), T.ko "NoName" (by decide +kernel), ?_⟩
    refine ⟨_, rfl, a, D, d, _, _, _, rfl, ha, hd, T.xc, fun u r => (by cases r; rfl), T.ko "NoDay" (by decide +kernel), ?_⟩
    refine ⟨by show 3 ≤ sizeLine; decide, fun p4 f4 => ?_⟩
    have s4 := same_new (o := .lst [V.bl (ow "NoText"), V.bl (ow "NoName"), V.bl (ow "NoDay")]) f4
    have ha := s4 _ _ ha
    have hd := dct_same hd s4
    have hl2 := s4 _ _ hl
    have hm2 : (upd G3 p4 (.lst [V.bl (ow "NoText"), V.bl (ow "NoName"), V.bl (ow "NoDay")])) p4 = some (.lst [V.bl (ow "NoText"), V.bl (ow "NoName"), V.bl (ow "NoDay")]) := upd_same
    have sm2 := sm.trans s4
    generalize upd G3 p4 (.lst [V.bl (ow "NoText"), V.bl (ow "NoName"), V.bl (ow "NoDay")]) = G4 at sm2 ha hd hl2 hm2 ⊢
    refine ⟨p3, p4, _, _, rfl, rfl, hl2, hm2, by show 10 ≤ sizeLine; decide, fun p5 f5 => ?_⟩
    have s5 := same_new (o := .lst [V.bl (ow "NoKind"), V.bl (ow "Nought"), V.bl (ow "NoShare"), V.bl (ow "Uneven"), V.bl (ow "BadName"), V.bl (ow "NoNumber"), V.bl (ow "NoRide"), V.bl (ow "NoText"), V.bl (ow "NoName"), V.bl (ow "NoDay")]) f5
    have ha := s5 _ _ ha
    have hd := dct_same hd s5
    have hl : (upd G4 p5 (.lst [V.bl (ow "NoKind"), V.bl (ow "Nought"), V.bl (ow "NoShare"), V.bl (ow "Uneven"), V.bl (ow "BadName"), V.bl (ow "NoNumber"), V.bl (ow "NoRide"), V.bl (ow "NoText"), V.bl (ow "NoName"), V.bl (ow "NoDay")])) p5 = some (.lst [V.bl (ow "NoKind"), V.bl (ow "Nought"), V.bl (ow "NoShare"), V.bl (ow "Uneven"), V.bl (ow "BadName"), V.bl (ow "NoNumber"), V.bl (ow "NoRide"), V.bl (ow "NoText"), V.bl (ow "NoName"), V.bl (ow "NoDay")]) := upd_same
    have sm := sm2.trans s5
    replace hl : (upd G4 p5 _) p5 = some (.lst [V.bl (ow "NoKind"), V.bl (ow "Nought"), V.bl (ow "NoShare"), V.bl (ow "Uneven"), V.bl (ow "BadName"), V.bl (ow "NoNumber"), V.bl (ow "NoRide"), V.bl (ow "NoText"), V.bl (ow "NoName"), V.bl (ow "NoDay")]) := hl
    dsimp only [List.cons_append, List.nil_append] at *
    generalize upd G4 p5 (.lst [V.bl (ow "NoKind"), V.bl (ow "Nought"), V.bl (ow "NoShare"), V.bl (ow "Uneven"), V.bl (ow "BadName"), V.bl (ow "NoNumber"), V.bl (ow "NoRide"), V.bl (ow "NoText"), V.bl (ow "NoName"), V.bl (ow "NoDay")]) = G5 at sm ha hd hl ⊢
    clear hl2 hm2 sm2
    refine ⟨_, rfl, _, rfl, a, D, d, _, _, _, rfl, ha, hd, T.xc, fun u r => (by cases r; rfl), T.ko "NoSeats" (by decide +kernel), ?_⟩
    refine ⟨_, rfl, a, D, d, _, _, _, rfl, ha, hd, T.xc, fun u r => (by cases r; rfl), T.ko "TooMany" (by decide +kernel), ?_⟩
    refine ⟨_, rfl, a, D, d, _, _, _, rfl, ha, hd, T.xc, fun u r => (by cases r; rfl), T.ko "Taken" (by decide +kernel), ?_⟩
    refine ⟨by show 3 ≤ sizeLine; decide, fun p6 f6 => ?_⟩
    have s6 := same_new (o := .lst [V.bl (ow "NoSeats"), V.bl (ow "TooMany"), V.bl (ow "Taken")]) f6
    have ha := s6 _ _ ha
    have hd := dct_same hd s6
    have hl2 := s6 _ _ hl
    have hm2 : (upd G5 p6 (.lst [V.bl (ow "NoSeats"), V.bl (ow "TooMany"), V.bl (ow "Taken")])) p6 = some (.lst [V.bl (ow "NoSeats"), V.bl (ow "TooMany"), V.bl (ow "Taken")]) := upd_same
    have sm2 := sm.trans s6
    generalize upd G5 p6 (.lst [V.bl (ow "NoSeats"), V.bl (ow "TooMany"), V.bl (ow "Taken")]) = G6 at sm2 ha hd hl2 hm2 ⊢
    refine ⟨p5, p6, _, _, rfl, rfl, hl2, hm2, by show 13 ≤ sizeLine; decide, fun p7 f7 => ?_⟩
    have s7 := same_new (o := .lst [V.bl (ow "NoKind"), V.bl (ow "Nought"), V.bl (ow "NoShare"), V.bl (ow "Uneven"), V.bl (ow "BadName"), V.bl (ow "NoNumber"), V.bl (ow "NoRide"), V.bl (ow "NoText"), V.bl (ow "NoName"), V.bl (ow "NoDay"), V.bl (ow "NoSeats"), V.bl (ow "TooMany"), V.bl (ow "Taken")]) f7
    have ha := s7 _ _ ha
    have hd := dct_same hd s7
    have hl : (upd G6 p7 (.lst [V.bl (ow "NoKind"), V.bl (ow "Nought"), V.bl (ow "NoShare"), V.bl (ow "Uneven"), V.bl (ow "BadName"), V.bl (ow "NoNumber"), V.bl (ow "NoRide"), V.bl (ow "NoText"), V.bl (ow "NoName"), V.bl (ow "NoDay"), V.bl (ow "NoSeats"), V.bl (ow "TooMany"), V.bl (ow "Taken")])) p7 = some (.lst [V.bl (ow "NoKind"), V.bl (ow "Nought"), V.bl (ow "NoShare"), V.bl (ow "Uneven"), V.bl (ow "BadName"), V.bl (ow "NoNumber"), V.bl (ow "NoRide"), V.bl (ow "NoText"), V.bl (ow "NoName"), V.bl (ow "NoDay"), V.bl (ow "NoSeats"), V.bl (ow "TooMany"), V.bl (ow "Taken")]) := upd_same
    have sm := sm2.trans s7
    replace hl : (upd G6 p7 _) p7 = some (.lst [V.bl (ow "NoKind"), V.bl (ow "Nought"), V.bl (ow "NoShare"), V.bl (ow "Uneven"), V.bl (ow "BadName"), V.bl (ow "NoNumber"), V.bl (ow "NoRide"), V.bl (ow "NoText"), V.bl (ow "NoName"), V.bl (ow "NoDay"), V.bl (ow "NoSeats"), V.bl (ow "TooMany"), V.bl (ow "Taken")]) := hl
    dsimp only [List.cons_append, List.nil_append] at *
    generalize upd G6 p7 (.lst [V.bl (ow "NoKind"), V.bl (ow "Nought"), V.bl (ow "NoShare"), V.bl (ow "Uneven"), V.bl (ow "BadName"), V.bl (ow "NoNumber"), V.bl (ow "NoRide"), V.bl (ow "NoText"), V.bl (ow "NoName"), V.bl (ow "NoDay"), V.bl (ow "NoSeats"), V.bl (ow "TooMany"), V.bl (ow "Taken")]) = G7 at sm ha hd hl ⊢
    clear hl2 hm2 sm2
    refine ⟨_, rfl, _, rfl, a, D, d, _, _, _, rfl, ha, hd, T.xc, fun u r => (by cases r; rfl), T.ko "NoRule" (by decide +kernel), ?_⟩
    refine ⟨_, rfl, a, D, d, _, _, _, rfl, ha, hd, T.xc, fun u r => (by cases r; rfl), T.ko "NothingDone" (by decide +kernel), ?_⟩
    refine ⟨_, rfl, a, D, d, _, _, _, rfl, ha, hd, T.xc, fun u r => (by cases r; rfl), T.ko "NoRow" (by decide +kernel), ?_⟩
    refine ⟨by show 3 ≤ sizeLine; decide, fun p8 f8 => ?_⟩
    have s8 := same_new (o := .lst [V.bl (ow "NoRule"), V.bl (ow "NothingDone"), V.bl (ow "NoRow")]) f8
    have ha := s8 _ _ ha
    have hd := dct_same hd s8
    have hl2 := s8 _ _ hl
    have hm2 : (upd G7 p8 (.lst [V.bl (ow "NoRule"), V.bl (ow "NothingDone"), V.bl (ow "NoRow")])) p8 = some (.lst [V.bl (ow "NoRule"), V.bl (ow "NothingDone"), V.bl (ow "NoRow")]) := upd_same
    have sm2 := sm.trans s8
    generalize upd G7 p8 (.lst [V.bl (ow "NoRule"), V.bl (ow "NothingDone"), V.bl (ow "NoRow")]) = G8 at sm2 ha hd hl2 hm2 ⊢
    refine ⟨p7, p8, _, _, rfl, rfl, hl2, hm2, by show 16 ≤ sizeLine; decide, fun p9 f9 => ?_⟩
    have s9 := same_new (o := .lst [V.bl (ow "NoKind"), V.bl (ow "Nought"), V.bl (ow "NoShare"), V.bl (ow "Uneven"), V.bl (ow "BadName"), V.bl (ow "NoNumber"), V.bl (ow "NoRide"), V.bl (ow "NoText"), V.bl (ow "NoName"), V.bl (ow "NoDay"), V.bl (ow "NoSeats"), V.bl (ow "TooMany"), V.bl (ow "Taken"), V.bl (ow "NoRule"), V.bl (ow "NothingDone"), V.bl (ow "NoRow")]) f9
    have ha := s9 _ _ ha
    have hd := dct_same hd s9
    have hl : (upd G8 p9 (.lst [V.bl (ow "NoKind"), V.bl (ow "Nought"), V.bl (ow "NoShare"), V.bl (ow "Uneven"), V.bl (ow "BadName"), V.bl (ow "NoNumber"), V.bl (ow "NoRide"), V.bl (ow "NoText"), V.bl (ow "NoName"), V.bl (ow "NoDay"), V.bl (ow "NoSeats"), V.bl (ow "TooMany"), V.bl (ow "Taken"), V.bl (ow "NoRule"), V.bl (ow "NothingDone"), V.bl (ow "NoRow")])) p9 = some (.lst [V.bl (ow "NoKind"), V.bl (ow "Nought"), V.bl (ow "NoShare"), V.bl (ow "Uneven"), V.bl (ow "BadName"), V.bl (ow "NoNumber"), V.bl (ow "NoRide"), V.bl (ow "NoText"), V.bl (ow "NoName"), V.bl (ow "NoDay"), V.bl (ow "NoSeats"), V.bl (ow "TooMany"), V.bl (ow "Taken"), V.bl (ow "NoRule"), V.bl (ow "NothingDone"), V.bl (ow "NoRow")]) := upd_same
    have sm := sm2.trans s9
    replace hl : (upd G8 p9 _) p9 = some (.lst [V.bl (ow "NoKind"), V.bl (ow "Nought"), V.bl (ow "NoShare"), V.bl (ow "Uneven"), V.bl (ow "BadName"), V.bl (ow "NoNumber"), V.bl (ow "NoRide"), V.bl (ow "NoText"), V.bl (ow "NoName"), V.bl (ow "NoDay"), V.bl (ow "NoSeats"), V.bl (ow "TooMany"), V.bl (ow "Taken"), V.bl (ow "NoRule"), V.bl (ow "NothingDone"), V.bl (ow "NoRow")]) := hl
    dsimp only [List.cons_append, List.nil_append] at *
    generalize upd G8 p9 (.lst [V.bl (ow "NoKind"), V.bl (ow "Nought"), V.bl (ow "NoShare"), V.bl (ow "Uneven"), V.bl (ow "BadName"), V.bl (ow "NoNumber"), V.bl (ow "NoRide"), V.bl (ow "NoText"), V.bl (ow "NoName"), V.bl (ow "NoDay"), V.bl (ow "NoSeats"), V.bl (ow "TooMany"), V.bl (ow "Taken"), V.bl (ow "NoRule"), V.bl (ow "NothingDone"), V.bl (ow "NoRow")]) = G9 at sm ha hd hl ⊢
    clear hl2 hm2 sm2
    have hl : G9 p9 = some (.lst ((ex16.map ow).map V.bl)) := hl
    refine ⟨rfl, _, _, rfl, rfl, by decide +kernel, by decide +kernel, fun wl fw => ?_⟩
    rw [split16]
    have sw := same_new (o := .lst (kw16.map V.str)) fw
    have hw : (upd G9 wl (.lst (kw16.map V.str))) wl = some (.lst (kw16.map V.str)) := upd_same
    have hl := sw _ _ hl
    have ha := sw _ _ ha
    have hd := dct_same hd sw
    have sm := sm.trans sw
    generalize upd G9 wl (.lst (kw16.map V.str)) = J1 at sm ha hd hl hw ⊢
    clear sw
    refine ⟨_, rfl, _, rfl, wl, p9, _, _, rfl, .inl ⟨SqL.of hw, SqL.of hl, fun D1 hD1 => lc_it (ZL.walk_zipL (by rfl)) (fun i H' => H' D1 = some (.lst ((((kw16.zip (ex16.map ow)).take i).filter (·.2)).map fun q => V.str q.1)) ∧ Same J1 H') ⟨upd_same, same_new hD1⟩ (fun i H' _ z => ⟨SqL.of (z.2 _ _ hw), SqL.of (z.2 _ _ hl)⟩) ?_ ?_⟩⟩
    · rintro i v H2 H3 hi ⟨hdd, s2⟩ ⟨Tp, x, y, rfl, hT, rfl, hx, hy⟩
      rw [List.getElem?_map] at hx hy
      obtain ⟨z, hz, rfl⟩ := Option.map_eq_some_iff.mp hx
      obtain ⟨c, hc, rfl⟩ := Option.map_eq_some_iff.mp hy
      have hzc : (kw16.zip (ex16.map ow))[i]? = some (z, c) := by
        rw [List.getElem?_zip_eq_some]
        exact ⟨hz, hc⟩
      have sT := same_new (o := .tup [V.str z, V.bl c]) hT
      have hdd3 := sT _ _ hdd
      refine ⟨Tp, _, rfl, SqT.of upd_same, rfl, _, _, rfl, _, _, rfl, rfl, rfl, ?_⟩
      have i16 : i < 16 := hi
      refine ⟨_, rfl, c, rfl, ?_⟩
      cases c with
      | true =>
        refine iteT ⟨_, rfl, _, hdd3, ?_, ?_, ?_⟩
        · rw [List.length_map]
          refine line_lt (Nat.le_trans (List.length_filter_le _ _) ?_)
          rw [List.length_take]
          omega
        · rw [upd_same, take_one hzc, List.filter_append, List.map_append]
          rfl
        · intro b o e
          rw [upd_ne (ne_of_none e hD1)]
          exact sT _ _ (s2 _ _ e)
      | false =>
        refine iteF ⟨?_, s2.trans sT⟩
        rw [take_one hzc, List.filter_append, show ([(z, false)] : List (Str × Bool)).filter (·.2) = [] from rfl, List.append_nil]
        exact hdd3
    rintro J2 ⟨hfd, s2⟩
    have hfd : J2 D1 = some (.lst ((fnd ow).map V.str)) := by
      rw [hfd]
      unfold fnd
      rw [List.map_map]
      rfl
    have ha := s2 _ _ ha
    have hd := dct_same hd s2
    have sm := sm.trans s2
    clear s2
    refine ⟨_, rfl, a, D, d, _, _, _, rfl, ha, hd, T.xc, fun u r => (by cases r; rfl), T.kb "TypeError" (by decide +kernel), ?_⟩
    refine ⟨_, rfl, a, D, d, _, _, _, rfl, ha, hd, T.xc, fun u r => (by cases r; rfl), T.kb "ZeroDivisionError" (by decide +kernel), ?_⟩
    refine ⟨_, rfl, a, D, d, _, _, _, rfl, ha, hd, T.xc, fun u r => (by cases r; rfl), T.kb "ArithmeticError" (by decide +kernel), ?_⟩
    refine ⟨by show 3 ≤ sizeLine; decide, fun p10 f10 => ?_⟩
    have s10 := same_new (o := .lst [V.bl (ab "TypeError"), V.bl (ab "ZeroDivisionError"), V.bl (ab "ArithmeticError")]) f10
    have ha := s10 _ _ ha
    have hd := dct_same hd s10
    have hfd := s10 _ _ hfd
    have hl : (upd J2 p10 (.lst [V.bl (ab "TypeError"), V.bl (ab "ZeroDivisionError"), V.bl (ab "ArithmeticError")])) p10 = some (.lst [V.bl (ab "TypeError"), V.bl (ab "ZeroDivisionError"), V.bl (ab "ArithmeticError")]) := upd_same
    have sm := sm.trans s10
    generalize upd J2 p10 (.lst [V.bl (ab "TypeError"), V.bl (ab "ZeroDivisionError"), V.bl (ab "ArithmeticError")]) = G10 at sm ha hd hl hfd ⊢
    clear s10
    refine ⟨_, rfl, _, rfl, a, D, d, _, _, _, rfl, ha, hd, T.xc, fun u r => (by cases r; rfl), T.kb "ValueError" (by decide +kernel), ?_⟩
    refine ⟨_, rfl, a, D, d, _, _, _, rfl, ha, hd, T.xc, fun u r => (by cases r; rfl), T.kb "KeyError" (by decide +kernel), ?_⟩
    refine ⟨_, rfl, a, D, d, _, _, _, rfl, ha, hd, T.xc, fun u r => (by cases r; rfl), T.kb "LookupError" (by decide +kernel), ?_⟩
    refine ⟨by show 3 ≤ sizeLine; decide, fun p11 f11 => ?_⟩
    have s11 := same_new (o := .lst [V.bl (ab "ValueError"), V.bl (ab "KeyError"), V.bl (ab "LookupError")]) f11
    have ha := s11 _ _ ha
    have hd := dct_same hd s11
    have hfd := s11 _ _ hfd
    have hl2 := s11 _ _ hl
    have hm2 : (upd G10 p11 (.lst [V.bl (ab "ValueError"), V.bl (ab "KeyError"), V.bl (ab "LookupError")])) p11 = some (.lst [V.bl (ab "ValueError"), V.bl (ab "KeyError"), V.bl (ab "LookupError")]) := upd_same
    have sm2 := sm.trans s11
    generalize upd G10 p11 (.lst [V.bl (ab "ValueError"), V.bl (ab "KeyError"), V.bl (ab "LookupError")]) = G11 at sm2 ha hd hl2 hm2 hfd ⊢
    clear s11
    refine ⟨p10, p11, _, _, rfl, rfl, hl2, hm2, by show 6 ≤ sizeLine; decide, fun p12 f12 => ?_⟩
    have s12 := same_new (o := .lst [V.bl (ab "TypeError"), V.bl (ab "ZeroDivisionError"), V.bl (ab "ArithmeticError"), V.bl (ab "ValueError"), V.bl (ab "KeyError"), V.bl (ab "LookupError")]) f12
    have ha := s12 _ _ ha
    have hd := dct_same hd s12
    have hfd := s12 _ _ hfd
    have hl : (upd G11 p12 (.lst [V.bl (ab "TypeError"), V.bl (ab "ZeroDivisionError"), V.bl (ab "ArithmeticError"), V.bl (ab "ValueError"), V.bl (ab "KeyError"), V.bl (ab "LookupError")])) p12 = some (.lst [V.bl (ab "TypeError"), V.bl (ab "ZeroDivisionError"), V.bl (ab "ArithmeticError"), V.bl (ab "ValueError"), V.bl (ab "KeyError"), V.bl (ab "LookupError")]) := upd_same
    have sm := sm2.trans s12
    dsimp only [List.cons_append, List.nil_append] at *
    generalize upd G11 p12 (.lst [V.bl (ab "TypeError"), V.bl (ab "ZeroDivisionError"), V.bl (ab "ArithmeticError"), V.bl (ab "ValueError"), V.bl (ab "KeyError"), V.bl (ab "LookupError")]) = G12 at sm ha hd hl hfd ⊢
    clear hl2 hm2 sm2 s12
    refine ⟨_, rfl, _, rfl, a, D, d, _, _, _, rfl, ha, hd, T.xc, fun u r => (by cases r; rfl), T.kb "IndexError" (by decide +kernel), ?_⟩
    refine ⟨_, rfl, a, D, d, _, _, _, rfl, ha, hd, T.xc, fun u r => (by cases r; rfl), T.kb "OverflowError" (by decide +kernel), ?_⟩
    refine ⟨_, rfl, a, D, d, _, _, _, rfl, ha, hd, T.xc, fun u r => (by cases r; rfl), T.kb "RuntimeError" (by decide +kernel), ?_⟩
    refine ⟨by show 3 ≤ sizeLine; decide, fun p13 f13 => ?_⟩
    have s13 := same_new (o := .lst [V.bl (ab "IndexError"), V.bl (ab "OverflowError"), V.bl (ab "RuntimeError")]) f13
    have ha := s13 _ _ ha
    have hd := dct_same hd s13
    have hfd := s13 _ _ hfd
    have hl2 := s13 _ _ hl
    have hm2 : (upd G12 p13 (.lst [V.bl (ab "IndexError"), V.bl (ab "OverflowError"), V.bl (ab "RuntimeError")])) p13 = some (.lst [V.bl (ab "IndexError"), V.bl (ab "OverflowError"), V.bl (ab "RuntimeError")]) := upd_same
    have sm2 := sm.trans s13
    generalize upd G12 p13 (.lst [V.bl (ab "IndexError"), V.bl (ab "OverflowError"), V.bl (ab "RuntimeError")]) = G13 at sm2 ha hd hl2 hm2 hfd ⊢
    clear s13
    refine ⟨p12, p13, _, _, rfl, rfl, hl2, hm2, by show 9 ≤ sizeLine; decide, fun p14 f14 => ?_⟩
    have s14 := same_new (o := .lst [V.bl (ab "TypeError"), V.bl (ab "ZeroDivisionError"), V.bl (ab "ArithmeticError"), V.bl (ab "ValueError"), V.bl (ab "KeyError"), V.bl (ab "LookupError"), V.bl (ab "IndexError"), V.bl (ab "OverflowError"), V.bl (ab "RuntimeError")]) f14
    have ha := s14 _ _ ha
    have hd := dct_same hd s14
    have hfd := s14 _ _ hfd
    have hl : (upd G13 p14 (.lst [V.bl (ab "TypeError"), V.bl (ab "ZeroDivisionError"), V.bl (ab "ArithmeticError"), V.bl (ab "ValueError"), V.bl (ab "KeyError"), V.bl (ab "LookupError"), V.bl (ab "IndexError"), V.bl (ab "OverflowError"), V.bl (ab "RuntimeError")])) p14 = some (.lst [V.bl (ab "TypeError"), V.bl (ab "ZeroDivisionError"), V.bl (ab "ArithmeticError"), V.bl (ab "ValueError"), V.bl (ab "KeyError"), V.bl (ab "LookupError"), V.bl (ab "IndexError"), V.bl (ab "OverflowError"), V.bl (ab "RuntimeError")]) := upd_same
    have sm := sm2.trans s14
    dsimp only [List.cons_append, List.nil_append] at *
    generalize upd G13 p14 (.lst [V.bl (ab "TypeError"), V.bl (ab "ZeroDivisionError"), V.bl (ab "ArithmeticError"), V.bl (ab "ValueError"), V.bl (ab "KeyError"), V.bl (ab "LookupError"), V.bl (ab "IndexError"), V.bl (ab "OverflowError"), V.bl (ab "RuntimeError")]) = G14 at sm ha hd hl hfd ⊢
    clear hl2 hm2 sm2 s14
    refine ⟨_, rfl, _, rfl, _, rfl, a, D, d, _, _, _, rfl, ha, hd, T.xc, fun u r => (by cases r; rfl), T.kb "NotImplementedError" (by decide +kernel), by show 1 ≤ sizeLine; decide, fun pz fz => ?_⟩
    have sz := same_new (o := .lst [V.bl (ab "NotImplementedError")]) fz
    refine ⟨p14, pz, _, _, rfl, rfl, sz _ _ hl, upd_same, by show 10 ≤ sizeLine; decide, fun m fm => ?_⟩
    have hm : (upd (upd G14 pz (.lst [V.bl (ab "NotImplementedError")])) m (.lst (ex10.map fun x => V.bl (ab x)))) m = some (.lst (ex10.map fun x => V.bl (ab x))) := upd_same
    have sm3 := same_new (o := .lst (ex10.map fun x => V.bl (ab x))) fm
    refine ⟨by show 2 ≤ sizeLine; decide, fun t ft => ?_⟩
    have st := same_new (o := .tup [.ref D1, .ref m]) ft
    have sall := (sm.trans sz).trans sm3
    exact hQ t D1 m _ (sall.trans st) (sall.free ft) upd_same (st _ _ (sm3 _ _ (sz _ _ hfd))) (st _ _ hm)
end
end K04
set_option Elab.async false
set_option linter.all false
set_option maxRecDepth 100000
set_option maxHeartbeats 4000000
namespace K04
open PySem PySem.Spec PyProof.Rows L2
open C8 (Cal Mak Met pe_c pe_mk pe_mt pe_mt0)
section
variable {P : Program} {w : World} {K : PySem.W.Frag} {mg : Str → Option Value} {base : Heap} {f C CT D : Addr} {fd : FuncData}
def plc : List (Str × List Int) := [("kind", [0]), ("nought", [1, 2]), ("share", [2]), ("uneven", [2]), ("name", [4, 5]), ("day", [5]), ("seats", [5, 6]), ("many", [2, 7]), ("taken", [8]), ("rule", [8, 9]), ("done", []), ("row", [])]
/-- which of the ten stand above, by the word -/
def abv (l : List Int) (i : Nat) : Bool := inV (.int (i : Int)) (l.map V.int)
def spBa : Sp := fun vs H Q _ => ∃ (wd : Str) (l : List Int), vs = [.str wd] ∧ (wd, l) ∈ plc ∧ ∀ (t : Addr) (H' : Hp), Same H H' → H t = none → H' t = some (.lst ((List.range 10).map fun i => V.bl (abv l i))) → Q (.ref t) H'
theorem ok_ba (F : Dn K d_l_bases f fd) (b : Bl mg) : FnOk P w K mg base CX0 1 f fd ["_law_word"] spBa := by
  refine F.ok sc_l_bases (fun vs H Q E h => ?_) (fun cdv A outer s H vs Q E hr h => ?_)
  · obtain ⟨wd, l, rfl, _⟩ := h
    rfl
  · obtain ⟨wd, l, rfl, hw, hQ⟩ := h
    have hu : (A.deeper (envOfC d_l_bases.qual d_l_bases.scope s.heap.objs.size f cdv)).units + 1 < cLine := hu_of hr
    refine ⟨_, PSs.nox (pss_cons (ps_set (i := 1) sc_l_bases.nd rfl (.inr rfl) (pe_disp (pps_cons pe_str (pe_lst (pa_cons pe_int pa_nil)) (pps_cons pe_str (pe_lst (pa_cons pe_int (pa_cons pe_int pa_nil))) (pps_cons pe_str (pe_lst (pa_cons pe_int pa_nil)) (pps_cons pe_str (pe_lst (pa_cons pe_int pa_nil)) (pps_cons pe_str (pe_lst (pa_cons pe_int (pa_cons pe_int pa_nil))) (pps_cons pe_str (pe_lst (pa_cons pe_int pa_nil)) (pps_cons pe_str (pe_lst (pa_cons pe_int (pa_cons pe_int pa_nil))) pps_nil))))))) rfl rfl (List.cons_ne_nil _ _) (by decide)))
      (pss_cons (ps_expr (pe_bm PySem.F.plainAttrs_dict PySem.F.slot_dict_update PySem.F.type_dict_update DU.mt_upd (pv 1) (pa_cons (pe_disp (pps_cons pe_str (pe_lst (pa_cons pe_int (pa_cons pe_int pa_nil))) (pps_cons pe_str (pe_lst (pa_cons pe_int pa_nil)) (pps_cons pe_str (pe_lst (pa_cons pe_int (pa_cons pe_int pa_nil))) (pps_cons pe_str (pe_lst pa_nil) (pps_cons pe_str (pe_lst pa_nil) pps_nil))))) rfl rfl (List.cons_ne_nil _ _) (by decide)) pa_nil)))
      (pss_one (ps_ret (pe_lc (own := [("_law_k", 2)]) (g := gName 2) (tt := tYes) rfl sc_l_bases.nd (pi_range1 rfl b.range (pa_cons pe_int pa_nil)) (blkOk_by (N := N_l_bases) (sc := defScope s_l_bases) (by decide +kernel))
          (fun _ _ _ _ _ => pg_name (i := 2) sc_l_bases.nd rfl (Or.inl rfl)) (fun _ _ _ _ _ => pts_nil) (fun _ _ _ _ _ => pe_cmpR (r := rIn K false) op_in_seq (pv 2) (pe_dget2 hu (pv 1) (pv 0) (pe_lst (pa_cons pe_int pa_nil)) ⟨rfl, rfl, rfl, rfl⟩) (by rfl))))))), ?_⟩
    have sm := Same.refl H
    intro p1 fp1
    have sp := same_new (o := .dK []) fp1
    have ep1 : (upd H p1 (.dK [])) p1 = some (.dK []) := upd_same
    have sm := sm.trans sp
    generalize upd H p1 (.dK []) = Jp1 at sm ep1 ⊢
    clear sp
    refine ⟨by show 1 ≤ sizeLine; decide, fun q1 g1 => ?_⟩
    have sp := same_new (o := .lst [.int 0]) g1
    have h1 : (upd Jp1 q1 (.lst [.int 0])) q1 = some (.lst [.int 0]) := upd_same
    have ep1 := sp _ _ ep1
    have sm := sm.trans sp
    generalize upd Jp1 q1 (.lst [.int 0]) = J1 at sm ep1 h1 ⊢
    clear sp
    refine ⟨by show 2 ≤ sizeLine; decide, fun q2 g2 => ?_⟩
    have sp := same_new (o := .lst [.int 1, .int 2]) g2
    have h2 : (upd J1 q2 (.lst [.int 1, .int 2])) q2 = some (.lst [.int 1, .int 2]) := upd_same
    have ep1 := sp _ _ ep1
    have h1 := sp _ _ h1
    have sm := sm.trans sp
    generalize upd J1 q2 (.lst [.int 1, .int 2]) = J2 at sm ep1 h1 h2 ⊢
    clear sp
    refine ⟨by show 1 ≤ sizeLine; decide, fun q3 g3 => ?_⟩
    have sp := same_new (o := .lst [.int 2]) g3
    have h3 : (upd J2 q3 (.lst [.int 2])) q3 = some (.lst [.int 2]) := upd_same
    have ep1 := sp _ _ ep1
    have h1 := sp _ _ h1
    have h2 := sp _ _ h2
    have sm := sm.trans sp
    generalize upd J2 q3 (.lst [.int 2]) = J3 at sm ep1 h1 h2 h3 ⊢
    clear sp
    refine ⟨by show 1 ≤ sizeLine; decide, fun q4 g4 => ?_⟩
    have sp := same_new (o := .lst [.int 2]) g4
    have h4 : (upd J3 q4 (.lst [.int 2])) q4 = some (.lst [.int 2]) := upd_same
    have ep1 := sp _ _ ep1
    have h1 := sp _ _ h1
    have h2 := sp _ _ h2
    have h3 := sp _ _ h3
    have sm := sm.trans sp
    generalize upd J3 q4 (.lst [.int 2]) = J4 at sm ep1 h1 h2 h3 h4 ⊢
    clear sp
    refine ⟨by show 2 ≤ sizeLine; decide, fun q5 g5 => ?_⟩
    have sp := same_new (o := .lst [.int 4, .int 5]) g5
    have h5 : (upd J4 q5 (.lst [.int 4, .int 5])) q5 = some (.lst [.int 4, .int 5]) := upd_same
    have ep1 := sp _ _ ep1
    have h1 := sp _ _ h1
    have h2 := sp _ _ h2
    have h3 := sp _ _ h3
    have h4 := sp _ _ h4
    have sm := sm.trans sp
    generalize upd J4 q5 (.lst [.int 4, .int 5]) = J5 at sm ep1 h1 h2 h3 h4 h5 ⊢
    clear sp
    refine ⟨by show 1 ≤ sizeLine; decide, fun q6 g6 => ?_⟩
    have sp := same_new (o := .lst [.int 5]) g6
    have h6 : (upd J5 q6 (.lst [.int 5])) q6 = some (.lst [.int 5]) := upd_same
    have ep1 := sp _ _ ep1
    have h1 := sp _ _ h1
    have h2 := sp _ _ h2
    have h3 := sp _ _ h3
    have h4 := sp _ _ h4
    have h5 := sp _ _ h5
    have sm := sm.trans sp
    generalize upd J5 q6 (.lst [.int 5]) = J6 at sm ep1 h1 h2 h3 h4 h5 h6 ⊢
    clear sp
    refine ⟨by show 2 ≤ sizeLine; decide, fun q7 g7 => ?_⟩
    have sp := same_new (o := .lst [.int 5, .int 6]) g7
    have h7 : (upd J6 q7 (.lst [.int 5, .int 6])) q7 = some (.lst [.int 5, .int 6]) := upd_same
    have ep1 := sp _ _ ep1
    have h1 := sp _ _ h1
    have h2 := sp _ _ h2
    have h3 := sp _ _ h3
    have h4 := sp _ _ h4
    have h5 := sp _ _ h5
    have h6 := sp _ _ h6
    have sm := sm.trans sp
    generalize upd J6 q7 (.lst [.int 5, .int 6]) = J7 at sm ep1 h1 h2 h3 h4 h5 h6 h7 ⊢
    clear sp
    have np1 : H p1 = none := fp1
    refine ⟨ep1, [((Sum.inr "kind" : Key), V.ref q1), ((Sum.inr "nought" : Key), V.ref q2), ((Sum.inr "share" : Key), V.ref q3), ((Sum.inr "uneven" : Key), V.ref q4), ((Sum.inr "name" : Key), V.ref q5), ((Sum.inr "day" : Key), V.ref q6), ((Sum.inr "seats" : Key), V.ref q7)], rfl, (show 7 ≤ 15 by decide), ?_⟩
    have ne1 : ∀ {b : Addr} {ys : List V}, J7 b = some (.lst ys) → b ≠ p1 := fun e z => by rw [z, ep1] at e; cases e
    have h1 : (upd J7 p1 (.dK (mergeK [] [((Sum.inr "kind" : Key), V.ref q1), ((Sum.inr "nought" : Key), V.ref q2), ((Sum.inr "share" : Key), V.ref q3), ((Sum.inr "uneven" : Key), V.ref q4), ((Sum.inr "name" : Key), V.ref q5), ((Sum.inr "day" : Key), V.ref q6), ((Sum.inr "seats" : Key), V.ref q7)]))) q1 = some (.lst [.int 0]) := by rw [upd_ne (ne1 h1)]; exact h1
    have h2 : (upd J7 p1 (.dK (mergeK [] [((Sum.inr "kind" : Key), V.ref q1), ((Sum.inr "nought" : Key), V.ref q2), ((Sum.inr "share" : Key), V.ref q3), ((Sum.inr "uneven" : Key), V.ref q4), ((Sum.inr "name" : Key), V.ref q5), ((Sum.inr "day" : Key), V.ref q6), ((Sum.inr "seats" : Key), V.ref q7)]))) q2 = some (.lst [.int 1, .int 2]) := by rw [upd_ne (ne1 h2)]; exact h2
    have h3 : (upd J7 p1 (.dK (mergeK [] [((Sum.inr "kind" : Key), V.ref q1), ((Sum.inr "nought" : Key), V.ref q2), ((Sum.inr "share" : Key), V.ref q3), ((Sum.inr "uneven" : Key), V.ref q4), ((Sum.inr "name" : Key), V.ref q5), ((Sum.inr "day" : Key), V.ref q6), ((Sum.inr "seats" : Key), V.ref q7)]))) q3 = some (.lst [.int 2]) := by rw [upd_ne (ne1 h3)]; exact h3
    have h4 : (upd J7 p1 (.dK (mergeK [] [((Sum.inr "kind" : Key), V.ref q1), ((Sum.inr "nought" : Key), V.ref q2), ((Sum.inr "share" : Key), V.ref q3), ((Sum.inr "uneven" : Key), V.ref q4), ((Sum.inr "name" : Key), V.ref q5), ((Sum.inr "day" : Key), V.ref q6), ((Sum.inr "seats" : Key), V.ref q7)]))) q4 = some (.lst [.int 2]) := by rw [upd_ne (ne1 h4)]; exact h4
    have h5 : (upd J7 p1 (.dK (mergeK [] [((Sum.inr "kind" : Key), V.ref q1), ((Sum.inr "nought" : Key), V.ref q2), ((Sum.inr "share" : Key), V.ref q3), ((Sum.inr "uneven" : Key), V.ref q4), ((Sum.inr "name" : Key), V.ref q5), ((Sum.inr "day" : Key), V.ref q6), ((Sum.inr "seats" : Key), V.ref q7)]))) q5 = some (.lst [.int 4, .int 5]) := by rw [upd_ne (ne1 h5)]; exact h5
    have h6 : (upd J7 p1 (.dK (mergeK [] [((Sum.inr "kind" : Key), V.ref q1), ((Sum.inr "nought" : Key), V.ref q2), ((Sum.inr "share" : Key), V.ref q3), ((Sum.inr "uneven" : Key), V.ref q4), ((Sum.inr "name" : Key), V.ref q5), ((Sum.inr "day" : Key), V.ref q6), ((Sum.inr "seats" : Key), V.ref q7)]))) q6 = some (.lst [.int 5]) := by rw [upd_ne (ne1 h6)]; exact h6
    have h7 : (upd J7 p1 (.dK (mergeK [] [((Sum.inr "kind" : Key), V.ref q1), ((Sum.inr "nought" : Key), V.ref q2), ((Sum.inr "share" : Key), V.ref q3), ((Sum.inr "uneven" : Key), V.ref q4), ((Sum.inr "name" : Key), V.ref q5), ((Sum.inr "day" : Key), V.ref q6), ((Sum.inr "seats" : Key), V.ref q7)]))) q7 = some (.lst [.int 5, .int 6]) := by rw [upd_ne (ne1 h7)]; exact h7
    have hp1 : (upd J7 p1 (.dK (mergeK [] [((Sum.inr "kind" : Key), V.ref q1), ((Sum.inr "nought" : Key), V.ref q2), ((Sum.inr "share" : Key), V.ref q3), ((Sum.inr "uneven" : Key), V.ref q4), ((Sum.inr "name" : Key), V.ref q5), ((Sum.inr "day" : Key), V.ref q6), ((Sum.inr "seats" : Key), V.ref q7)]))) p1 = some (.dK (mergeK [] [((Sum.inr "kind" : Key), V.ref q1), ((Sum.inr "nought" : Key), V.ref q2), ((Sum.inr "share" : Key), V.ref q3), ((Sum.inr "uneven" : Key), V.ref q4), ((Sum.inr "name" : Key), V.ref q5), ((Sum.inr "day" : Key), V.ref q6), ((Sum.inr "seats" : Key), V.ref q7)])) := upd_same
    have sm2 : Same H (upd J7 p1 (.dK (mergeK [] [((Sum.inr "kind" : Key), V.ref q1), ((Sum.inr "nought" : Key), V.ref q2), ((Sum.inr "share" : Key), V.ref q3), ((Sum.inr "uneven" : Key), V.ref q4), ((Sum.inr "name" : Key), V.ref q5), ((Sum.inr "day" : Key), V.ref q6), ((Sum.inr "seats" : Key), V.ref q7)]))) := fun b o e => by rw [upd_ne (ne_of_none e np1)]; exact sm _ _ e
    clear ne1 ep1 sm
    have sm := sm2
    clear sm2
    generalize upd J7 p1 (.dK (mergeK [] [((Sum.inr "kind" : Key), V.ref q1), ((Sum.inr "nought" : Key), V.ref q2), ((Sum.inr "share" : Key), V.ref q3), ((Sum.inr "uneven" : Key), V.ref q4), ((Sum.inr "name" : Key), V.ref q5), ((Sum.inr "day" : Key), V.ref q6), ((Sum.inr "seats" : Key), V.ref q7)])) = Ja at sm hp1 h1 h2 h3 h4 h5 h6 h7 ⊢
    have smJ := sm
    have hp1J := hp1
    refine ⟨_, rfl, .inr (.inr (.inl ⟨rfl, .inl ⟨_, hp1⟩⟩)), fun p2 fp2 => ?_⟩
    have sp := same_new (o := .dK []) fp2
    have ep2 : (upd Ja p2 (.dK [])) p2 = some (.dK []) := upd_same
    have h1 := sp _ _ h1
    have h2 := sp _ _ h2
    have h3 := sp _ _ h3
    have h4 := sp _ _ h4
    have h5 := sp _ _ h5
    have h6 := sp _ _ h6
    have h7 := sp _ _ h7
    have hp1 := sp _ _ hp1
    have sm := sm.trans sp
    generalize upd Ja p2 (.dK []) = Jp2 at sm h1 h2 h3 h4 h5 h6 h7 hp1 ep2 ⊢
    clear sp
    refine ⟨by show 2 ≤ sizeLine; decide, fun q8 g8 => ?_⟩
    have sp := same_new (o := .lst [.int 2, .int 7]) g8
    have h8 : (upd Jp2 q8 (.lst [.int 2, .int 7])) q8 = some (.lst [.int 2, .int 7]) := upd_same
    have h1 := sp _ _ h1
    have h2 := sp _ _ h2
    have h3 := sp _ _ h3
    have h4 := sp _ _ h4
    have h5 := sp _ _ h5
    have h6 := sp _ _ h6
    have h7 := sp _ _ h7
    have hp1 := sp _ _ hp1
    have ep2 := sp _ _ ep2
    have sm := sm.trans sp
    generalize upd Jp2 q8 (.lst [.int 2, .int 7]) = J8 at sm h1 h2 h3 h4 h5 h6 h7 hp1 ep2 h8 ⊢
    clear sp
    refine ⟨by show 1 ≤ sizeLine; decide, fun q9 g9 => ?_⟩
    have sp := same_new (o := .lst [.int 8]) g9
    have h9 : (upd J8 q9 (.lst [.int 8])) q9 = some (.lst [.int 8]) := upd_same
    have h1 := sp _ _ h1
    have h2 := sp _ _ h2
    have h3 := sp _ _ h3
    have h4 := sp _ _ h4
    have h5 := sp _ _ h5
    have h6 := sp _ _ h6
    have h7 := sp _ _ h7
    have hp1 := sp _ _ hp1
    have ep2 := sp _ _ ep2
    have h8 := sp _ _ h8
    have sm := sm.trans sp
    generalize upd J8 q9 (.lst [.int 8]) = J9 at sm h1 h2 h3 h4 h5 h6 h7 hp1 ep2 h8 h9 ⊢
    clear sp
    refine ⟨by show 2 ≤ sizeLine; decide, fun q10 g10 => ?_⟩
    have sp := same_new (o := .lst [.int 8, .int 9]) g10
    have h10 : (upd J9 q10 (.lst [.int 8, .int 9])) q10 = some (.lst [.int 8, .int 9]) := upd_same
    have h1 := sp _ _ h1
    have h2 := sp _ _ h2
    have h3 := sp _ _ h3
    have h4 := sp _ _ h4
    have h5 := sp _ _ h5
    have h6 := sp _ _ h6
    have h7 := sp _ _ h7
    have hp1 := sp _ _ hp1
    have ep2 := sp _ _ ep2
    have h8 := sp _ _ h8
    have h9 := sp _ _ h9
    have sm := sm.trans sp
    generalize upd J9 q10 (.lst [.int 8, .int 9]) = J10 at sm h1 h2 h3 h4 h5 h6 h7 hp1 ep2 h8 h9 h10 ⊢
    clear sp
    refine ⟨by show 0 ≤ sizeLine; decide, fun q11 g11 => ?_⟩
    have sp := same_new (o := .lst []) g11
    have h11 : (upd J10 q11 (.lst [])) q11 = some (.lst []) := upd_same
    have h1 := sp _ _ h1
    have h2 := sp _ _ h2
    have h3 := sp _ _ h3
    have h4 := sp _ _ h4
    have h5 := sp _ _ h5
    have h6 := sp _ _ h6
    have h7 := sp _ _ h7
    have hp1 := sp _ _ hp1
    have ep2 := sp _ _ ep2
    have h8 := sp _ _ h8
    have h9 := sp _ _ h9
    have h10 := sp _ _ h10
    have sm := sm.trans sp
    generalize upd J10 q11 (.lst []) = J11 at sm h1 h2 h3 h4 h5 h6 h7 hp1 ep2 h8 h9 h10 h11 ⊢
    clear sp
    refine ⟨by show 0 ≤ sizeLine; decide, fun q12 g12 => ?_⟩
    have sp := same_new (o := .lst []) g12
    have h12 : (upd J11 q12 (.lst [])) q12 = some (.lst []) := upd_same
    have h1 := sp _ _ h1
    have h2 := sp _ _ h2
    have h3 := sp _ _ h3
    have h4 := sp _ _ h4
    have h5 := sp _ _ h5
    have h6 := sp _ _ h6
    have h7 := sp _ _ h7
    have hp1 := sp _ _ hp1
    have ep2 := sp _ _ ep2
    have h8 := sp _ _ h8
    have h9 := sp _ _ h9
    have h10 := sp _ _ h10
    have h11 := sp _ _ h11
    have sm := sm.trans sp
    generalize upd J11 q12 (.lst []) = J12 at sm h1 h2 h3 h4 h5 h6 h7 hp1 ep2 h8 h9 h10 h11 h12 ⊢
    clear sp
    have n12 : p1 ≠ p2 := ne_of_none hp1J fp2
    refine ⟨ep2, [((Sum.inr "many" : Key), V.ref q8), ((Sum.inr "taken" : Key), V.ref q9), ((Sum.inr "rule" : Key), V.ref q10), ((Sum.inr "done" : Key), V.ref q11), ((Sum.inr "row" : Key), V.ref q12)], rfl, (show 5 ≤ 15 by decide), ?_⟩
    have ne1 : ∀ {b : Addr} {ys : List V}, J12 b = some (.lst ys) → b ≠ p2 := fun e z => by rw [z, ep2] at e; cases e
    have np2 : H p2 = none := smJ.free fp2
    have h1 : (upd J12 p2 (.dK (mergeK [] [((Sum.inr "many" : Key), V.ref q8), ((Sum.inr "taken" : Key), V.ref q9), ((Sum.inr "rule" : Key), V.ref q10), ((Sum.inr "done" : Key), V.ref q11), ((Sum.inr "row" : Key), V.ref q12)]))) q1 = some (.lst [.int 0]) := by rw [upd_ne (ne1 h1)]; exact h1
    have h2 : (upd J12 p2 (.dK (mergeK [] [((Sum.inr "many" : Key), V.ref q8), ((Sum.inr "taken" : Key), V.ref q9), ((Sum.inr "rule" : Key), V.ref q10), ((Sum.inr "done" : Key), V.ref q11), ((Sum.inr "row" : Key), V.ref q12)]))) q2 = some (.lst [.int 1, .int 2]) := by rw [upd_ne (ne1 h2)]; exact h2
    have h3 : (upd J12 p2 (.dK (mergeK [] [((Sum.inr "many" : Key), V.ref q8), ((Sum.inr "taken" : Key), V.ref q9), ((Sum.inr "rule" : Key), V.ref q10), ((Sum.inr "done" : Key), V.ref q11), ((Sum.inr "row" : Key), V.ref q12)]))) q3 = some (.lst [.int 2]) := by rw [upd_ne (ne1 h3)]; exact h3
    have h4 : (upd J12 p2 (.dK (mergeK [] [((Sum.inr "many" : Key), V.ref q8), ((Sum.inr "taken" : Key), V.ref q9), ((Sum.inr "rule" : Key), V.ref q10), ((Sum.inr "done" : Key), V.ref q11), ((Sum.inr "row" : Key), V.ref q12)]))) q4 = some (.lst [.int 2]) := by rw [upd_ne (ne1 h4)]; exact h4
    have h5 : (upd J12 p2 (.dK (mergeK [] [((Sum.inr "many" : Key), V.ref q8), ((Sum.inr "taken" : Key), V.ref q9), ((Sum.inr "rule" : Key), V.ref q10), ((Sum.inr "done" : Key), V.ref q11), ((Sum.inr "row" : Key), V.ref q12)]))) q5 = some (.lst [.int 4, .int 5]) := by rw [upd_ne (ne1 h5)]; exact h5
    have h6 : (upd J12 p2 (.dK (mergeK [] [((Sum.inr "many" : Key), V.ref q8), ((Sum.inr "taken" : Key), V.ref q9), ((Sum.inr "rule" : Key), V.ref q10), ((Sum.inr "done" : Key), V.ref q11), ((Sum.inr "row" : Key), V.ref q12)]))) q6 = some (.lst [.int 5]) := by rw [upd_ne (ne1 h6)]; exact h6
    have h7 : (upd J12 p2 (.dK (mergeK [] [((Sum.inr "many" : Key), V.ref q8), ((Sum.inr "taken" : Key), V.ref q9), ((Sum.inr "rule" : Key), V.ref q10), ((Sum.inr "done" : Key), V.ref q11), ((Sum.inr "row" : Key), V.ref q12)]))) q7 = some (.lst [.int 5, .int 6]) := by rw [upd_ne (ne1 h7)]; exact h7
    have hp1 := (upd_ne n12 : (upd J12 p2 (.dK (mergeK [] [((Sum.inr "many" : Key), V.ref q8), ((Sum.inr "taken" : Key), V.ref q9), ((Sum.inr "rule" : Key), V.ref q10), ((Sum.inr "done" : Key), V.ref q11), ((Sum.inr "row" : Key), V.ref q12)]))) p1 = _).trans hp1
    have h8 : (upd J12 p2 (.dK (mergeK [] [((Sum.inr "many" : Key), V.ref q8), ((Sum.inr "taken" : Key), V.ref q9), ((Sum.inr "rule" : Key), V.ref q10), ((Sum.inr "done" : Key), V.ref q11), ((Sum.inr "row" : Key), V.ref q12)]))) q8 = some (.lst [.int 2, .int 7]) := by rw [upd_ne (ne1 h8)]; exact h8
    have h9 : (upd J12 p2 (.dK (mergeK [] [((Sum.inr "many" : Key), V.ref q8), ((Sum.inr "taken" : Key), V.ref q9), ((Sum.inr "rule" : Key), V.ref q10), ((Sum.inr "done" : Key), V.ref q11), ((Sum.inr "row" : Key), V.ref q12)]))) q9 = some (.lst [.int 8]) := by rw [upd_ne (ne1 h9)]; exact h9
    have h10 : (upd J12 p2 (.dK (mergeK [] [((Sum.inr "many" : Key), V.ref q8), ((Sum.inr "taken" : Key), V.ref q9), ((Sum.inr "rule" : Key), V.ref q10), ((Sum.inr "done" : Key), V.ref q11), ((Sum.inr "row" : Key), V.ref q12)]))) q10 = some (.lst [.int 8, .int 9]) := by rw [upd_ne (ne1 h10)]; exact h10
    have h11 : (upd J12 p2 (.dK (mergeK [] [((Sum.inr "many" : Key), V.ref q8), ((Sum.inr "taken" : Key), V.ref q9), ((Sum.inr "rule" : Key), V.ref q10), ((Sum.inr "done" : Key), V.ref q11), ((Sum.inr "row" : Key), V.ref q12)]))) q11 = some (.lst []) := by rw [upd_ne (ne1 h11)]; exact h11
    have h12 : (upd J12 p2 (.dK (mergeK [] [((Sum.inr "many" : Key), V.ref q8), ((Sum.inr "taken" : Key), V.ref q9), ((Sum.inr "rule" : Key), V.ref q10), ((Sum.inr "done" : Key), V.ref q11), ((Sum.inr "row" : Key), V.ref q12)]))) q12 = some (.lst []) := by rw [upd_ne (ne1 h12)]; exact h12
    have hp2 : (upd J12 p2 (.dK (mergeK [] [((Sum.inr "many" : Key), V.ref q8), ((Sum.inr "taken" : Key), V.ref q9), ((Sum.inr "rule" : Key), V.ref q10), ((Sum.inr "done" : Key), V.ref q11), ((Sum.inr "row" : Key), V.ref q12)]))) p2 = some (.dK (mergeK [] [((Sum.inr "many" : Key), V.ref q8), ((Sum.inr "taken" : Key), V.ref q9), ((Sum.inr "rule" : Key), V.ref q10), ((Sum.inr "done" : Key), V.ref q11), ((Sum.inr "row" : Key), V.ref q12)])) := upd_same
    have sm2 : Same H (upd J12 p2 (.dK (mergeK [] [((Sum.inr "many" : Key), V.ref q8), ((Sum.inr "taken" : Key), V.ref q9), ((Sum.inr "rule" : Key), V.ref q10), ((Sum.inr "done" : Key), V.ref q11), ((Sum.inr "row" : Key), V.ref q12)]))) := fun b o e => by rw [upd_ne (ne_of_none e np2)]; exact sm _ _ e
    clear ne1 ep2 sm
    have sm := sm2
    clear sm2
    generalize upd J12 p2 (.dK (mergeK [] [((Sum.inr "many" : Key), V.ref q8), ((Sum.inr "taken" : Key), V.ref q9), ((Sum.inr "rule" : Key), V.ref q10), ((Sum.inr "done" : Key), V.ref q11), ((Sum.inr "row" : Key), V.ref q12)])) = Jb at sm hp2 h1 h2 h3 h4 h5 h6 h7 hp1 h8 h9 h10 h11 h12 ⊢
    refine ⟨p1, p2, _, _, rfl, rfl, n12, hp1, hp2, Nat.le_trans (Nat.add_le_add (DU.mergeK_len _ _) (DU.mergeK_len _ _)) (line_of (by simp)), ?_⟩
    have ne1 : ∀ {b : Addr} {ys : List V}, Jb b = some (.lst ys) → b ≠ p1 := fun e z => by rw [z, hp1] at e; cases e
    have h1 : (upd Jb p1 (.dK (mergeK (mergeK [] [((Sum.inr "kind" : Key), V.ref q1), ((Sum.inr "nought" : Key), V.ref q2), ((Sum.inr "share" : Key), V.ref q3), ((Sum.inr "uneven" : Key), V.ref q4), ((Sum.inr "name" : Key), V.ref q5), ((Sum.inr "day" : Key), V.ref q6), ((Sum.inr "seats" : Key), V.ref q7)]) (mergeK [] [((Sum.inr "many" : Key), V.ref q8), ((Sum.inr "taken" : Key), V.ref q9), ((Sum.inr "rule" : Key), V.ref q10), ((Sum.inr "done" : Key), V.ref q11), ((Sum.inr "row" : Key), V.ref q12)])))) q1 = some (.lst [.int 0]) := by rw [upd_ne (ne1 h1)]; exact h1
    have h2 : (upd Jb p1 (.dK (mergeK (mergeK [] [((Sum.inr "kind" : Key), V.ref q1), ((Sum.inr "nought" : Key), V.ref q2), ((Sum.inr "share" : Key), V.ref q3), ((Sum.inr "uneven" : Key), V.ref q4), ((Sum.inr "name" : Key), V.ref q5), ((Sum.inr "day" : Key), V.ref q6), ((Sum.inr "seats" : Key), V.ref q7)]) (mergeK [] [((Sum.inr "many" : Key), V.ref q8), ((Sum.inr "taken" : Key), V.ref q9), ((Sum.inr "rule" : Key), V.ref q10), ((Sum.inr "done" : Key), V.ref q11), ((Sum.inr "row" : Key), V.ref q12)])))) q2 = some (.lst [.int 1, .int 2]) := by rw [upd_ne (ne1 h2)]; exact h2
    have h3 : (upd Jb p1 (.dK (mergeK (mergeK [] [((Sum.inr "kind" : Key), V.ref q1), ((Sum.inr "nought" : Key), V.ref q2), ((Sum.inr "share" : Key), V.ref q3), ((Sum.inr "uneven" : Key), V.ref q4), ((Sum.inr "name" : Key), V.ref q5), ((Sum.inr "day" : Key), V.ref q6), ((Sum.inr "seats" : Key), V.ref q7)]) (mergeK [] [((Sum.inr "many" : Key), V.ref q8), ((Sum.inr "taken" : Key), V.ref q9), ((Sum.inr "rule" : Key), V.ref q10), ((Sum.inr "done" : Key), V.ref q11), ((Sum.inr "row" : Key), V.ref q12)])))) q3 = some (.lst [.int 2]) := by rw [upd_ne (ne1 h3)]; exact h3
    have h4 : (upd Jb p1 (.dK (mergeK (mergeK [] [((Sum.inr "kind" : Key), V.ref q1), ((Sum.inr "nought" : Key), V.ref q2), ((Sum.inr "share" : Key), V.ref q3), ((Sum.inr "uneven" : Key), V.ref q4), ((Sum.inr "name" : Key), V.ref q5), ((Sum.inr "day" : Key), V.ref q6), ((Sum.inr "seats" : Key), V.ref q7)]) (mergeK [] [((Sum.inr "many" : Key), V.ref q8), ((Sum.inr "taken" : Key), V.ref q9), ((Sum.inr "rule" : Key), V.ref q10), ((Sum.inr "done" : Key), V.ref q11), ((Sum.inr "row" : Key), V.ref q12)])))) q4 = some (.lst [.int 2]) := by rw [upd_ne (ne1 h4)]; exact h4
    have h5 : (upd Jb p1 (.dK (mergeK (mergeK [] [((Sum.inr "kind" : Key), V.ref q1), ((Sum.inr "nought" : Key), V.ref q2), ((Sum.inr "share" : Key), V.ref q3), ((Sum.inr "uneven" : Key), V.ref q4), ((Sum.inr "name" : Key), V.ref q5), ((Sum.inr "day" : Key), V.ref q6), ((Sum.inr "seats" : Key), V.ref q7)]) (mergeK [] [((Sum.inr "many" : Key), V.ref q8), ((Sum.inr "taken" : Key), V.ref q9), ((Sum.inr "rule" : Key), V.ref q10), ((Sum.inr "done" : Key), V.ref q11), ((Sum.inr "row" : Key), V.ref q12)])))) q5 = some (.lst [.int 4, .int 5]) := by rw [upd_ne (ne1 h5)]; exact h5
    have h6 : (upd Jb p1 (.dK (mergeK (mergeK [] [((Sum.inr "kind" : Key), V.ref q1), ((Sum.inr "nought" : Key), V.ref q2), ((Sum.inr "share" : Key), V.ref q3), ((Sum.inr "uneven" : Key), V.ref q4), ((Sum.inr "name" : Key), V.ref q5), ((Sum.inr "day" : Key), V.ref q6), ((Sum.inr "seats" : Key), V.ref q7)]) (mergeK [] [((Sum.inr "many" : Key), V.ref q8), ((Sum.inr "taken" : Key), V.ref q9), ((Sum.inr "rule" : Key), V.ref q10), ((Sum.inr "done" : Key), V.ref q11), ((Sum.inr "row" : Key), V.ref q12)])))) q6 = some (.lst [.int 5]) := by rw [upd_ne (ne1 h6)]; exact h6
    have h7 : (upd Jb p1 (.dK (mergeK (mergeK [] [((Sum.inr "kind" : Key), V.ref q1), ((Sum.inr "nought" : Key), V.ref q2), ((Sum.inr "share" : Key), V.ref q3), ((Sum.inr "uneven" : Key), V.ref q4), ((Sum.inr "name" : Key), V.ref q5), ((Sum.inr "day" : Key), V.ref q6), ((Sum.inr "seats" : Key), V.ref q7)]) (mergeK [] [((Sum.inr "many" : Key), V.ref q8), ((Sum.inr "taken" : Key), V.ref q9), ((Sum.inr "rule" : Key), V.ref q10), ((Sum.inr "done" : Key), V.ref q11), ((Sum.inr "row" : Key), V.ref q12)])))) q7 = some (.lst [.int 5, .int 6]) := by rw [upd_ne (ne1 h7)]; exact h7
    have h8 : (upd Jb p1 (.dK (mergeK (mergeK [] [((Sum.inr "kind" : Key), V.ref q1), ((Sum.inr "nought" : Key), V.ref q2), ((Sum.inr "share" : Key), V.ref q3), ((Sum.inr "uneven" : Key), V.ref q4), ((Sum.inr "name" : Key), V.ref q5), ((Sum.inr "day" : Key), V.ref q6), ((Sum.inr "seats" : Key), V.ref q7)]) (mergeK [] [((Sum.inr "many" : Key), V.ref q8), ((Sum.inr "taken" : Key), V.ref q9), ((Sum.inr "rule" : Key), V.ref q10), ((Sum.inr "done" : Key), V.ref q11), ((Sum.inr "row" : Key), V.ref q12)])))) q8 = some (.lst [.int 2, .int 7]) := by rw [upd_ne (ne1 h8)]; exact h8
    have h9 : (upd Jb p1 (.dK (mergeK (mergeK [] [((Sum.inr "kind" : Key), V.ref q1), ((Sum.inr "nought" : Key), V.ref q2), ((Sum.inr "share" : Key), V.ref q3), ((Sum.inr "uneven" : Key), V.ref q4), ((Sum.inr "name" : Key), V.ref q5), ((Sum.inr "day" : Key), V.ref q6), ((Sum.inr "seats" : Key), V.ref q7)]) (mergeK [] [((Sum.inr "many" : Key), V.ref q8), ((Sum.inr "taken" : Key), V.ref q9), ((Sum.inr "rule" : Key), V.ref q10), ((Sum.inr "done" : Key), V.ref q11), ((Sum.inr "row" : Key), V.ref q12)])))) q9 = some (.lst [.int 8]) := by rw [upd_ne (ne1 h9)]; exact h9
    have h10 : (upd Jb p1 (.dK (mergeK (mergeK [] [((Sum.inr "kind" : Key), V.ref q1), ((Sum.inr "nought" : Key), V.ref q2), ((Sum.inr "share" : Key), V.ref q3), ((Sum.inr "uneven" : Key), V.ref q4), ((Sum.inr "name" : Key), V.ref q5), ((Sum.inr "day" : Key), V.ref q6), ((Sum.inr "seats" : Key), V.ref q7)]) (mergeK [] [((Sum.inr "many" : Key), V.ref q8), ((Sum.inr "taken" : Key), V.ref q9), ((Sum.inr "rule" : Key), V.ref q10), ((Sum.inr "done" : Key), V.ref q11), ((Sum.inr "row" : Key), V.ref q12)])))) q10 = some (.lst [.int 8, .int 9]) := by rw [upd_ne (ne1 h10)]; exact h10
    have h11 : (upd Jb p1 (.dK (mergeK (mergeK [] [((Sum.inr "kind" : Key), V.ref q1), ((Sum.inr "nought" : Key), V.ref q2), ((Sum.inr "share" : Key), V.ref q3), ((Sum.inr "uneven" : Key), V.ref q4), ((Sum.inr "name" : Key), V.ref q5), ((Sum.inr "day" : Key), V.ref q6), ((Sum.inr "seats" : Key), V.ref q7)]) (mergeK [] [((Sum.inr "many" : Key), V.ref q8), ((Sum.inr "taken" : Key), V.ref q9), ((Sum.inr "rule" : Key), V.ref q10), ((Sum.inr "done" : Key), V.ref q11), ((Sum.inr "row" : Key), V.ref q12)])))) q11 = some (.lst []) := by rw [upd_ne (ne1 h11)]; exact h11
    have h12 : (upd Jb p1 (.dK (mergeK (mergeK [] [((Sum.inr "kind" : Key), V.ref q1), ((Sum.inr "nought" : Key), V.ref q2), ((Sum.inr "share" : Key), V.ref q3), ((Sum.inr "uneven" : Key), V.ref q4), ((Sum.inr "name" : Key), V.ref q5), ((Sum.inr "day" : Key), V.ref q6), ((Sum.inr "seats" : Key), V.ref q7)]) (mergeK [] [((Sum.inr "many" : Key), V.ref q8), ((Sum.inr "taken" : Key), V.ref q9), ((Sum.inr "rule" : Key), V.ref q10), ((Sum.inr "done" : Key), V.ref q11), ((Sum.inr "row" : Key), V.ref q12)])))) q12 = some (.lst []) := by rw [upd_ne (ne1 h12)]; exact h12
    have sm2 : Same H (upd Jb p1 (.dK (mergeK (mergeK [] [((Sum.inr "kind" : Key), V.ref q1), ((Sum.inr "nought" : Key), V.ref q2), ((Sum.inr "share" : Key), V.ref q3), ((Sum.inr "uneven" : Key), V.ref q4), ((Sum.inr "name" : Key), V.ref q5), ((Sum.inr "day" : Key), V.ref q6), ((Sum.inr "seats" : Key), V.ref q7)]) (mergeK [] [((Sum.inr "many" : Key), V.ref q8), ((Sum.inr "taken" : Key), V.ref q9), ((Sum.inr "rule" : Key), V.ref q10), ((Sum.inr "done" : Key), V.ref q11), ((Sum.inr "row" : Key), V.ref q12)])))) := fun b o e => by rw [upd_ne (ne_of_none e np1)]; exact sm _ _ e
    have hp1 : (upd Jb p1 (.dK (mergeK (mergeK [] [((Sum.inr "kind" : Key), V.ref q1), ((Sum.inr "nought" : Key), V.ref q2), ((Sum.inr "share" : Key), V.ref q3), ((Sum.inr "uneven" : Key), V.ref q4), ((Sum.inr "name" : Key), V.ref q5), ((Sum.inr "day" : Key), V.ref q6), ((Sum.inr "seats" : Key), V.ref q7)]) (mergeK [] [((Sum.inr "many" : Key), V.ref q8), ((Sum.inr "taken" : Key), V.ref q9), ((Sum.inr "rule" : Key), V.ref q10), ((Sum.inr "done" : Key), V.ref q11), ((Sum.inr "row" : Key), V.ref q12)])))) p1 = some (.dK (mergeK (mergeK [] [((Sum.inr "kind" : Key), V.ref q1), ((Sum.inr "nought" : Key), V.ref q2), ((Sum.inr "share" : Key), V.ref q3), ((Sum.inr "uneven" : Key), V.ref q4), ((Sum.inr "name" : Key), V.ref q5), ((Sum.inr "day" : Key), V.ref q6), ((Sum.inr "seats" : Key), V.ref q7)]) (mergeK [] [((Sum.inr "many" : Key), V.ref q8), ((Sum.inr "taken" : Key), V.ref q9), ((Sum.inr "rule" : Key), V.ref q10), ((Sum.inr "done" : Key), V.ref q11), ((Sum.inr "row" : Key), V.ref q12)]))) := upd_same
    clear ne1 hp2 sm
    generalize upd Jb p1 (.dK (mergeK (mergeK [] [((Sum.inr "kind" : Key), V.ref q1), ((Sum.inr "nought" : Key), V.ref q2), ((Sum.inr "share" : Key), V.ref q3), ((Sum.inr "uneven" : Key), V.ref q4), ((Sum.inr "name" : Key), V.ref q5), ((Sum.inr "day" : Key), V.ref q6), ((Sum.inr "seats" : Key), V.ref q7)]) (mergeK [] [((Sum.inr "many" : Key), V.ref q8), ((Sum.inr "taken" : Key), V.ref q9), ((Sum.inr "rule" : Key), V.ref q10), ((Sum.inr "done" : Key), V.ref q11), ((Sum.inr "row" : Key), V.ref q12)]))) = Jc at sm2 hp1 h1 h2 h3 h4 h5 h6 h7 h8 h9 h10 h11 h12 ⊢
    -- which list it is
    obtain ⟨qw, hqw, hv⟩ : ∃ qw, Jc qw = some (.lst (l.map V.int)) ∧ valV (mergeK (mergeK [] [((Sum.inr "kind" : Key), V.ref q1), ((Sum.inr "nought" : Key), V.ref q2), ((Sum.inr "share" : Key), V.ref q3), ((Sum.inr "uneven" : Key), V.ref q4), ((Sum.inr "name" : Key), V.ref q5), ((Sum.inr "day" : Key), V.ref q6), ((Sum.inr "seats" : Key), V.ref q7)]) (mergeK [] [((Sum.inr "many" : Key), V.ref q8), ((Sum.inr "taken" : Key), V.ref q9), ((Sum.inr "rule" : Key), V.ref q10), ((Sum.inr "done" : Key), V.ref q11), ((Sum.inr "row" : Key), V.ref q12)])) (Sum.inr wd : Key) = some (.ref qw) := by
      unfold plc at hw
      simp only [List.mem_cons, List.not_mem_nil, or_false, Prod.mk.injEq] at hw
      rcases hw with ⟨rfl, rfl⟩ | ⟨rfl, rfl⟩ | ⟨rfl, rfl⟩ | ⟨rfl, rfl⟩ | ⟨rfl, rfl⟩ | ⟨rfl, rfl⟩ | ⟨rfl, rfl⟩ | ⟨rfl, rfl⟩ | ⟨rfl, rfl⟩ | ⟨rfl, rfl⟩ | ⟨rfl, rfl⟩ | ⟨rfl, rfl⟩
      · exact ⟨q1, h1, by kernel_rfl⟩
      · exact ⟨q2, h2, by kernel_rfl⟩
      · exact ⟨q3, h3, by kernel_rfl⟩
      · exact ⟨q4, h4, by kernel_rfl⟩
      · exact ⟨q5, h5, by kernel_rfl⟩
      · exact ⟨q6, h6, by kernel_rfl⟩
      · exact ⟨q7, h7, by kernel_rfl⟩
      · exact ⟨q8, h8, by kernel_rfl⟩
      · exact ⟨q9, h9, by kernel_rfl⟩
      · exact ⟨q10, h10, by kernel_rfl⟩
      · exact ⟨q11, h11, by kernel_rfl⟩
      · exact ⟨q12, h12, by kernel_rfl⟩
    have dg : ∀ H', Same Jc H' → DGet H' p1 (.str wd) (some (.ref qw)) := fun H' s' => by
      have := DGet.k (k := Sum.inr wd) (s' _ _ hp1)
      rw [hv] at this
      exact this
    refine ⟨_, rfl, by decide, by decide, ?_⟩
    intro E1 hE1
    refine lc_range (n := 10) (fun i H' => H' E1 = some (.lst ((List.range i).map fun i => V.bl (abv l i))) ∧ Same Jc H') ⟨upd_same, same_new hE1⟩ ?_ ?_
    · rintro i H2 hi ⟨he, s2⟩
      refine ⟨rfl, ?_⟩
      refine ⟨_, rfl, _, rfl, p1, rfl, .inl ⟨_, .inl (s2 _ _ hp1)⟩, _, rfl, by show 1 ≤ sizeLine; decide, fun q fq => ?_⟩
      have sq := same_new (o := .lst [.int 3]) fq
      have s3 := s2.trans sq
      have fl : (l.map V.int).all flatV = true := by
        rw [List.all_eq_true]
        intro x hx
        obtain ⟨y, _, rfl⟩ := List.mem_map.mp hx
        rfl
      refine ⟨some (.ref qw), dg _ s3, qw, _, rfl, .inl (SqL.of (s3 _ _ hqw)), rfl, fl, ?_⟩
      have he3 := sq _ _ he
      refine ⟨_, he3, by rw [List.length_map, List.length_range]; exact line_lt (by omega), ?_, fun b o e => ?_⟩
      · rw [upd_same, List.range_succ, List.map_append]
        simp only [Bool.false_eq_true, if_false]
        unfold abv
        rw [show (0 : Int) + (i : Nat) = (i : Int) by omega]
        rfl
      · rw [upd_ne (ne_of_none e hE1)]
        exact s3 _ _ e
    · rintro H2 ⟨he, s2⟩
      exact hQ E1 H2 (sm2.trans s2) (sm2.free hE1) he
end
end K04
set_option Elab.async false
set_option linter.all false
set_option maxRecDepth 100000
set_option maxHeartbeats 4000000
namespace K04
open PySem PySem.Spec PyProof.Rows L2
open C8 (Cal Mak Met pe_c pe_mk pe_mt pe_mt0)
open SX (S)
open TD
theorem iteFE {c : Bool} {A B : Prop} (h : c = false) (b : B) : if c = true then A else B := by
  rw [if_neg (by simp [h])]
  exact b
theorem iteTE {c : Bool} {A B : Prop} (h : c = true) (a : A) : if c = true then A else B := by
  rw [if_pos h]
  exact a
def digB (c : Nat) : Bool := decide (48 ≤ c) && decide (c ≤ 57)
def isNb : List Nat → Bool
  | [] => false
  | c :: l => (c == 48 && l.isEmpty) || (c != 48 && (c :: l).all digB)
theorem dig_all {l : List Nat} : l.all digB = true ↔ Dig l := by
  unfold digB Dig
  simp
theorem isNb_iff (l : List Nat) : isNb l = true ↔ IsN l := by
  unfold IsN
  cases l with
  | nil => simp [isNb]
  | cons c l =>
    have := dig_all (l := c :: l)
    unfold isNb
    rw [Bool.or_eq_true, Bool.and_eq_true, Bool.and_eq_true, this]
    simp
def rpL : List Nat → List Nat
  | 45 :: l => l
  | l => l
theorem rp_all (z : List Nat) : Txt.removeprefix (S z) (S [45]) = S (rpL z) := by
  cases z with
  | nil => decide +kernel
  | cons c l =>
    by_cases h : c = 45
    · subst h
      exact TX.rp_cons l
    · rw [TX.rp_other h]
      unfold rpL
      split
      · rename_i e
        exact absurd (List.cons.inj e).1 h
      · rfl
theorem rp_isW {z : List Nat} : IsN (rpL z) ↔ IsW z := by
  unfold rpL
  split
  · rename_i l
    constructor
    · intro h
      exact .inr ⟨l, rfl, h⟩
    · rintro (h | ⟨l', e, h⟩)
      · have := (h.dig 45 (by simp)).1
        omega
      · rw [(List.cons.inj e).2]
        exact h
  · rename_i n
    constructor
    · exact .inl
    · rintro (h | ⟨l', e, h⟩)
      · exact h
      · exact absurd e (n l')
section
variable {P : Program} {w : World} {K : PySem.W.Frag} {mg : Str → Option Value} {base : Heap} {f C : Addr} {fd : FuncData}
def spNt : Sp := fun vs H Q _ => ∃ l : List Nat, vs = [.str (S l)] ∧ l.length ≤ 4000 ∧ ∀ H', Same H H' → Q (.bl (isNb l)) H'
theorem fig_S : (Str.ofString "0123456789").cps.toList = [48, 49, 50, 51, 52, 53, 54, 55, 56, 57] := by decide +kernel
theorem ok_nt (F : Dn K d_is_number_text f fd) (ba : mg "all" = none) (gF : ∃ t, mg "FIGURES" = some (.str "0123456789" t)) : FnOk P w K mg base CX0 1 f fd ["text"] spNt := by
  refine F.ok sc_is_number_text (fun vs H Q E h => ?_) (fun cdv A outer s H vs Q E hr h => ?_)
  · obtain ⟨n, rfl, _⟩ := h
    rfl
  · obtain ⟨l, rfl, hl, hQ⟩ := h
    obtain ⟨tf, gF⟩ := gF
    refine ⟨_, PSs.nox (pss_cons (ps_if (pt_cmpR op_eq (pv 0) pe_str (nomark _)) (pss_one (ps_ret pe_bl)) pss_nil)
      (pss_one (ps_ret (pe_and (pe_cmpR op_ne (pv 0) pe_str (nomark _)) (pe_and (pe_cmpR op_ne (pe_ix ix_str (pv 0) pe_int (fun _ _ => rfl)) pe_str (nomark _))
        (pe_one (pe_callB (cr_all rfl) rfl ba boot_all (pa_cons (pe_lc (own := [("sign", 1)]) (g := gName 1) (tt := tYes) rfl sc_is_number_text.nd (pi_str (pv 0)) (blkOk_by (N := N_is_number_text) (sc := defScope s_is_number_text) (by decide +kernel))
          (fun _ _ _ _ _ => pg_name (i := 1) sc_is_number_text.nd rfl (Or.inl rfl)) (fun _ _ _ _ _ => pts_nil) (fun _ _ _ _ _ => pe_cmpR op_in_sign (pv 1) (pe_glob (v := .str "0123456789") rfl gF ⟨tf, rfl⟩) rfl)) pa_nil)))))))), ?_⟩
    refine ⟨_, rfl, rfl, _, rfl, ?_⟩
    refine ite2 (fun h1 => ?_) (fun h1 => ?_)
    · have e : l = [48] := SX.S_inj (V.str.inj ((of_decide_eq_true h1).trans (congrArg V.str TX.zero_S)))
      subst e
      exact hQ H (Same.refl H)
    have n48 : l ≠ [48] := fun e => h1 (by rw [e, TX.zero_S]; simp)
    refine ⟨_, rfl, rfl, _, rfl, ?_⟩
    cases l with
    | nil =>
      have e1 : (!decide (V.str (S []) = V.str (Str.ofString ""))) = false := by rw [TX.empty_S]; simp
      rw [e1]
      exact iteF (hQ H (Same.refl H))
    | cons c l =>
    have e1 : (!decide (V.str (S (c :: l)) = V.str (Str.ofString ""))) = true := by
      rw [TX.empty_S]
      simp [SX.S]
    rw [e1]
    refine iteT ?_
    refine ⟨_, rfl, _, _, c, rfl, rfl, ?_, atI_nat (j := 0) rfl, rfl, _, rfl, ?_⟩
    · rw [SX.S_len]
      exact Nat.le_trans hl (by decide)
    by_cases hc : c = 48
    · subst hc
      have e2 : (!decide (V.str ⟨#[48]⟩ = V.str (Str.ofString "0"))) = false := by
        rw [TX.zero_S]
        simp [SX.S]
      rw [e2]
      refine iteF ?_
      have : isNb (48 :: l) = false := by
        have : l ≠ [] := fun z => n48 (by rw [z])
        simp [isNb, this]
      rw [this] at hQ
      exact hQ H (Same.refl H)
    have e2 : (!decide (V.str ⟨#[c]⟩ = V.str (Str.ofString "0"))) = true := by
      rw [TX.zero_S]
      simp [SX.S, hc]
    rw [e2]
    refine iteT ?_
    have e0 : isNb (c :: l) = (c :: l).all digB := by
      have z1 : (c == 48) = false := by simpa using hc
      have z2 : (c != 48) = true := by simpa using hc
      show (c == 48 && l.isEmpty || (c != 48 && (c :: l).all digB)) = _
      rw [z1, z2, Bool.false_and, Bool.false_or, Bool.true_and]
    rw [e0] at hQ
    generalize c :: l = l at hQ hl
    refine ⟨_, rfl, _, rfl, fun D hD => lc_it walk_str (fun i H2 => H2 D = some (.lst (((l.take i).map digB).map V.bl)) ∧ Same H H2) ⟨upd_same, same_new hD⟩ (fun _ _ _ _ => trivial) ?_ ?_⟩
    · rintro i x H2 H3 hi ⟨hd, sm⟩ ⟨rfl, c', hc', rfl⟩
      refine ⟨rfl, ?_⟩
      refine ⟨_, rfl, c', _, rfl, rfl, ?_⟩
      have hi' : i < l.length := by simpa [SX.S] using hi
      have hm : decide (c' ∈ (Str.ofString "0123456789").cps.toList) = digB c' := by
        rw [fig_S]
        unfold digB
        rw [Bool.eq_iff_iff]
        simp
        omega
      rw [hm]
      have hg : l[i]? = some c' := by
        have h3 := hc'
        simpa [SX.S] using h3
      refine ⟨_, hd, ?_, ?_, ?_⟩
      · rw [List.length_map, List.length_map, List.length_take]
        exact Nat.lt_of_lt_of_le (by omega : _ < 5000) (by decide)
      · rw [upd_same, List.take_succ, hg]
        simp
      · intro a o e
        rw [upd_ne (ne_of_none e hD)]
        exact sm a o e
    · rintro H2 ⟨hd, sm⟩
      refine ⟨D, _, rfl, SqL.of hd, ?_⟩
      have e3 : ((l.take (S l).cps.size).map digB).all id = l.all digB := by
        rw [List.take_of_length_le (by simp [SX.S])]
        simp
      rw [e3]
      exact hQ H2 sm
end
end K04
set_option Elab.async false
set_option linter.all false
set_option maxRecDepth 100000
set_option maxHeartbeats 4000000
namespace K04
open PySem PySem.Spec PyProof.Rows L2
open C8 (Cal Mak Met pe_c pe_mk pe_mt pe_mt0)
open SX (S)
open TD
abbrev arT : List Value := [.type "ArithmeticError", .type "Exception", .type "BaseException", .type "object"]
/-- what is known of NoShare -/
structure Na (K : PySem.W.Frag) (mg : Str → Option Value) (N fN : Addr) : Prop where
  gx : GX.Gx K N arT "ArithmeticError.__new__"
  iC : PySem.W.findIn K (.ref N) "__init__" = some (some (.ref fN))
  tI : PySem.W.typeIn K (.ref fN) = some (.type "function")
  vV : PySem.W.findCls K (.type "ArithmeticError") (.type "type") "__init__" = some (.val (.builtin "ArithmeticError.__init__"))
  no : PySem.W.findIn K (.ref N) "text" = some none
  g : mg "NoShare" = some (.ref N)
  zb : mg "ArithmeticError" = none
  xf : XfC K N
  te : PySem.W.exmOne K (.ref N) (.ref N) = some true
theorem typ_ar : typeOf (.type "ArithmeticError") = pure (.type "type") := by kernel_rfl
section
variable {P : Program} {w : World} {K : PySem.W.Frag} {mg : Str → Option Value} {base : Heap} {f C N fN : Addr} {fd fdN : FuncData}
def spNA (N : Addr) : Sp := fun vs H Q _ => ∃ (a : Addr) (v : V), vs = [.ref a, v] ∧ H a = some (exo a N none) ∧ ∀ dx, H dx = none → dx ≠ a → Q .non (upd (upd H dx (exd dx [("text", v)])) a (exo a N (some dx)))
theorem ok_NA (F : Dn K d_NoShare_init f fd) (T : Na K mg N fN) : FnOk P w K mg base CX0 1 f fd ["self", "text"] (spNA N) := by
  refine F.ok sc_NoShare_init (fun vs H Q E h => ?_) (fun cdv A outer s H vs Q E hr h => ?_)
  · obtain ⟨a, v, rfl, _⟩ := h
    rfl
  · obtain ⟨a, v, rfl, ha, hQ⟩ := h
    refine ⟨_, PSs.nox (pss_cons (ps_expr (GX.pe_bi PySem.F.excBase_ArithmeticError rfl T.zb PyProof.Rows.Boot.«ArithmeticError» typ_ar T.vV (by decide +kernel) (by decide +kernel) (pa_cons (pv 0) (pa_cons pe_str pa_nil))))
      (pss_one (GX.ps_pf PySem.F.store_ArithmeticError (nid := "ArithmeticError.__new__") (pv 0) (pv 1)))), ?_⟩
    refine ⟨_, rfl, a, N, _, rfl, by show 1 ≤ 1000; decide, T.gx, ha, ?_⟩
    exact ⟨_, rfl, _, rfl, a, N, rfl, T.gx, T.no, ha, hQ⟩
/-- no text at all -/
def Ns (H : Hp) (v : V) : Prop := ∀ K H', Same H H' → ∃ T : String, TyX K H' v (.type T) ∧ PySem.W.kitOne K (.type T) (.type "str") = some false
theorem Ns.same {H H' : Hp} {v : V} (h : Ns H v) (s : Same H H') : Ns H' v := fun K H'' s' => h K H'' (s.trans s')
/-- a text or another thing: the fraction that it tells -/
inductive Th (H : Hp) : V → (Int × Int → Prop) → Prop
  | txt {z : List Nat} : z.length ≤ 100 → Th H (.str (S z)) (Fr z)
  | oth {v : V} : Ns H v → Th H v fun _ => False
def spSo (C N : Addr) : Sp := fun vs H Q E => ∃ (v : V) (T : Int × Int → Prop), vs = [v] ∧ Th H v T ∧ (∀ q, T q → ∀ p H', Same H H' → H p = none → Sh C H' p q → Q (.ref p) H') ∧
  ((∀ q, ¬ T q) → ∀ d H', Same H H' → H d = none → H' d = some (.xd [("text", v)]) → E (.ref N) (some d) H')
theorem dig_lt {l : List Nat} (h : l.length ≤ 100) (d : Dig l) : NumText.digitsVal l < 2 ^ 400 := by
  have : ∀ (l : List Nat) (a : Nat), (∀ c ∈ l, 48 ≤ c ∧ c ≤ 57) → l.foldl (fun acc c => acc * 10 + (c - 48)) a < (a + 1) * 10 ^ l.length := by
    intro l
    induction l with
    | nil => intro a _; simp
    | cons c l ih =>
      intro a hd
      have hc := hd c (by simp)
      have h1 := ih (a * 10 + (c - 48)) fun x hx => hd x (by simp [hx])
      refine Nat.lt_of_lt_of_le h1 ?_
      rw [List.length_cons, Nat.pow_succ, Nat.mul_comm (10 ^ l.length) 10, ← Nat.mul_assoc]
      exact Nat.mul_le_mul_right _ (by omega)
  have h1 := this l 0 d
  have h2 : (0 + 1) * 10 ^ l.length ≤ 10 ^ 100 := by rw [Nat.zero_add, Nat.one_mul]; exact Nat.pow_le_pow_right (by decide) h
  have h3 : 10 ^ 100 ≤ 2 ^ 400 := by
    rw [show 400 = 4 * 100 from rfl, Nat.pow_mul]
    exact Nat.pow_le_pow_left (by decide) 100
  exact Nat.lt_of_lt_of_le h1 (Nat.le_trans h2 h3)
theorem wv_lt {z : List Nat} (h : z.length ≤ 100) (w : IsW z) : (wv z).natAbs < 2 ^ 400 := by
  rcases w with w | ⟨l, rfl, w⟩
  · rw [wv_pos w.dig]
    have := dig_lt h w.dig
    omega
  · rw [wv_neg]
    have := dig_lt (by simp at h; omega) w.dig
    omega
theorem mk_in {C x dx : Addr} {H1 : Hp} {t b : Int} {n : Nat} {Qv : VK} {E : XK} (nx : H1 x = none) (nd : H1 dx = none) (hb : b ≠ 0) (hn : b.natAbs < 2 ^ n) (hn0 : 0 < n) (hn9 : n ≤ 9000)
    (hQ : ∀ H', Same H1 H' → Sh C H' x (KM.low t b) → Qv .non H') : spInit C [.ref x, .int t, .int b] (upd (upd H1 dx (.own x)) x (.ins C dx [])) Qv E := by
  refine ⟨x, dx, t, b, n, rfl, hb, hn, hn0, hn9, upd_same, fun H' kp hp => hQ H' (fun a o e => ?_) ⟨dx, hp⟩⟩
  refine kp a o (ne_of_none e nx) ?_
  rw [upd_ne (ne_of_none e nx), upd_ne (ne_of_none e nd)]
  exact e
theorem low_one (t : Int) : KM.low t 1 = (t, 1) := KM.low_id (by decide) (by simp)
theorem isN_49 : isNb [49] = true := by decide
theorem intN {i : Int} (h : 0 ≤ i) : TX.intL i = TL.numL i.natAbs := by
  unfold TX.intL
  rw [if_neg (by omega)]
open TX (intL)
/-- the two parts of a text -/
def Pt (z a b : List Nat) : Prop := (47 ∉ z ∧ a = z ∧ b = [49]) ∨ (z = a ++ 47 :: b ∧ 47 ∉ a)
theorem Pt.fr {z a b : List Nat} {q : Int × Int} (h : Pt z a b) (f : Fr z q) : a = intL q.1 ∧ b = intL q.2 := by
  rcases h with ⟨h1, rfl, rfl⟩ | ⟨rfl, h⟩
  · obtain ⟨e1, e2⟩ := fr_one h1 f
    refine ⟨e1, ?_⟩
    rw [e2]
    decide +kernel
  · obtain ⟨e1, e2, _⟩ := fr_two h f
    exact ⟨e1, e2⟩
theorem Pt.len {z a b : List Nat} (h : Pt z a b) (l : z.length ≤ 100) : a.length ≤ 100 ∧ b.length ≤ 100 := by
  rcases h with ⟨h1, rfl, rfl⟩ | ⟨rfl, h⟩
  · exact ⟨l, by decide⟩
  · simp at l
    omega
theorem no1 {z a b : List Nat} (h : Pt z a b) (n : isNb (rpL a) = false) : ∀ q, ¬ Fr z q := fun q f => by
  have e := (h.fr f).1
  have : isNb (rpL a) = true := (isNb_iff _).mpr (rp_isW.mpr (by rw [e]; exact isW_int _))
  rw [n] at this
  cases this
theorem no2 {z a b : List Nat} (h : Pt z a b) (n : isNb b = false) : ∀ q, ¬ Fr z q := fun q f => by
  have e := (h.fr f).2
  have : isNb b = true := (isNb_iff _).mpr (by rw [e, intN (by have := f.2.1; omega)]; exact isN_num _)
  rw [n] at this
  cases this
theorem no3 {z a : List Nat} (h : Pt z a [48]) : ∀ q, ¬ Fr z q := fun q f => by
  have e := (h.fr f).2
  have p := f.2.1
  rw [intN (by omega)] at e
  have := TL.numL_inj (TX.numL_zero.trans e)
  omega
theorem no4 {z a b : List Nat} (h : Pt z a b) (n : z ≠ tq (KM.low (wv a) (wv b))) : ∀ q, ¬ Fr z q := fun q f => by
  obtain ⟨e1, e2⟩ := h.fr f
  refine n ?_
  rw [e1, e2, intL_wv, intL_wv, KM.low_id f.2.1 f.2.2]
  exact f.1
theorem wv_pos' {b : List Nat} (h : IsN b) (n : b ≠ [48]) : 0 < wv b := by
  rw [wv_pos h.dig]
  rcases h with h | ⟨h1, h2, h3⟩
  · exact absurd h n
  · have := (num_of _ b rfl h1 h2 h3).2
    omega
section
variable {P : Program} {w : World} {K : PySem.W.Frag} {mg : Str → Option Value} {base : Heap} {f C N fN : Addr} {fd fdN : FuncData}
theorem ok_so (F : Dn K d_share_of f fd) (bl : Bl mg) (bs : mg "str" = none) (cN : Cal P w K mg base 1 "is_number_text" spNt []) (MS : MakS P w K mg base C) (SS : OW.Spc P w K mg base 1 C "__str__" (spTx C txq))
    (T : Na K mg N fN) (FN : FnOk P w K mg base CX0 1 fN fdN ["self", "text"] (spNA N)) (bN : Binds K fdN ["self", "text"] []) : FnOk P w K mg base (L2.CX P w) 5 f fd ["text"] (spSo C N) := by
  refine F.ok sc_share_of (fun vs H Q E h => ?_) (fun cdv A outer s H vs Q E hr h => ?_)
  · obtain ⟨v, T', rfl, _⟩ := h
    rfl
  · obtain ⟨v, TT, rfl, th, hQ, hE⟩ := h
    have hr2 : Room 2 (A.deeper (envOfC d_share_of.qual d_share_of.scope s.heap.objs.size f cdv)) := hr.mono (by decide)
    refine ⟨_, pss_cons (ps_if (pt_not (pt_val (pe_callB call_isi rfl bl.isi boot_isinstance (pa_cons (pv 0) (pa_cons (pe_bltn (v := .ty "str") rfl bs boot_str rfl) pa_nil))))) (pss_one (ps_raise rfl (takes_of rfl rfl rfl rfl) (GX.pmk_gx PySem.F.excBase_ArithmeticError T.gx T.iC T.tI FN hr2 bN .nil pass0 rfl T.g (pa_cons (pv 0) pa_nil)))) pss_nil)
      (C8.pss_cut (ps_asg (pe_partition (pv 0) pe_str) (pg_tup rfl (pgs_cons (pg_name (i := 1) sc_share_of.nd rfl (.inl rfl)) (pgs_cons (pg_name (i := 2) sc_share_of.nd rfl (.inl rfl)) (pgs_cons (pg_name (i := 3) sc_share_of.nd rfl (.inl rfl)) pgs_nil)))))
      (C8.pss_cut (ps_if (pt_cmpR op_eq (pv 2) pe_str (nomark _)) (pss_one (ps_set (i := 3) sc_share_of.nd rfl (.inl rfl) pe_str)) pss_nil)
      (pss_cons (ps_if (PW.pt (pw_or (pt_not (pt_val (pe_c cN hr (by decide) rfl (pa_cons (pe_m1 PySem.F.slot_str_removeprefix PySem.F.type_str_removeprefix mt_removeprefix (pv 1) pe_str) pa_nil))))
          (pw_or (pt_not (pt_val (pe_c cN hr (by decide) rfl (pa_cons (pv 3) pa_nil)))) (pw_or1 (pt_cmpR op_eq (pv 3) pe_str (nomark _)))))) (pss_one (ps_raise rfl (takes_of rfl rfl rfl rfl) (GX.pmk_gx PySem.F.excBase_ArithmeticError T.gx T.iC T.tI FN hr2 bN .nil pass0 rfl T.g (pa_cons (pv 0) pa_nil)))) pss_nil)
      (pss_cons (ps_set (i := 4) sc_share_of.nd rfl (.inl rfl) (pe_mk MS hr (by decide) rfl (pa_cons (pe_callTy call_int_str rfl bl.int boot_int (pa_cons (pv 1) pa_nil)) (pa_cons (pe_callTy call_int_str rfl bl.int boot_int (pa_cons (pv 3) pa_nil)) pa_nil))))
      (pss_cons (ps_if (pt_cmpR op_ne (pe_callTy (OW.call_strO SS (hr.mono (by decide))) rfl bs boot_str (pa_cons (pv 4) pa_nil)) (pv 0) (nomark _)) (pss_one (ps_raise rfl (takes_of rfl rfl rfl rfl) (GX.pmk_gx PySem.F.excBase_ArithmeticError T.gx T.iC T.tI FN hr2 bN .nil pass0 rfl T.g (pa_cons (pv 0) pa_nil)))) pss_nil)
      (pss_one (ps_ret (pv 4)))))))), ?_⟩
    have raised : ∀ {H1 : Hp} {a d : Addr}, Same H H1 → (∀ q, ¬ TT q) → H1 a = none → (upd H1 a (exo a N none)) d = none → d ≠ a →
        E (.ref N) (some d) (upd (del (upd (upd (upd H1 a (exo a N none)) d (exd d [("text", v)])) a (exo a N (some d))) a) d (.xd [("text", v)])) := fun {H1 a d} su no ha hd ne => by
      rw [upd_ne ne] at hd
      refine hE no d _ (fun c o e => ?_) (su.free hd) upd_same
      have e1 := su c o e
      have b1 : c ≠ d := ne_of_none e1 hd
      have b2 : c ≠ a := ne_of_none e1 ha
      rw [upd_ne b1, del_ne b2, upd_ne b2, upd_ne b1, upd_ne b2]
      exact e1
    cases th with
    | oth ns =>
      obtain ⟨TY, ty, kt⟩ := ns K H (Same.refl H)
      refine ⟨_, rfl, _, _, _, _, false, rfl, ClsV.ty _, ty, kt, false, rfl, iteT ?_⟩
      exact ⟨_, rfl, by show 1 ≤ 1000; decide, fun a ha => ⟨a, _, rfl, upd_same, fun d hd ne => ⟨rfl, d, _, upd_same, (by rw [upd_ne ne]; exact upd_same), (by rw [upd_ne ne] at hd; exact hd), raised (Same.refl H) (fun _ x => x) ha hd ne⟩⟩⟩
    | @txt z lz =>
    refine ⟨_, rfl, _, _, _, _, true, rfl, ClsV.ty _, TyX.base (TyOf.str _), kit_ty (by decide +kernel), true, rfl, iteF ?_⟩
    have sl : ∀ {l : List Nat}, l.length ≤ 100 → (S l).length ≤ sizeLine := fun {l} h => by
      rw [SX.S_len]
      exact big (by omega)
    refine ⟨fun σ' H' => Same H H' ∧ ∃ a st b, σ' = [some (.str (S z)), some (.str (S a)), some (.str (S st)), some (.str (S b)), none] ∧ ((47 ∉ z ∧ a = z ∧ st = []) ∨ (z = a ++ 47 :: b ∧ 47 ∉ a ∧ st = [47])), ?_, ?_⟩
    · refine ⟨_, rfl, ⟨_, rfl⟩, _, _, rfl, rfl, by decide +kernel, sl lz, fun u hu => ?_⟩
      refine ⟨u, _, rfl, SqT.of upd_same, rfl, _, _, rfl, _, _, rfl, _, _, rfl, rfl, same_new hu, ?_⟩
      by_cases h47 : 47 ∈ z
      · obtain ⟨a, b, rfl, na⟩ := split47 z h47
        rw [TX.stroke_S, par_at b na]
        exact ⟨a, [47], b, rfl, .inr ⟨rfl, na, rfl⟩⟩
      · rw [TX.stroke_S, par_no h47]
        exact ⟨z, [], [], rfl, .inl ⟨h47, rfl, rfl⟩⟩
    rintro σ' H1 ⟨s1, a, st, b, rfl, hv⟩
    refine ⟨fun σ' H' => H' = H1 ∧ ∃ v2 b, σ' = [some (.str (S z)), some (.str (S a)), v2, some (.str (S b)), none] ∧ Pt z a b, ?_, ?_⟩
    · refine ⟨_, rfl, rfl, _, rfl, ?_⟩
      rcases hv with ⟨hd, ea, rfl⟩ | ⟨hd, na, rfl⟩
      · have zz : decide (V.str (S []) = V.str (Str.ofString "")) = true := by rw [TX.empty_S]; simp
        rw [zz]
        refine iteT ⟨rfl, some (.str (S [])), [49], ?_, .inl ⟨hd, ea, rfl⟩⟩
        rw [← TX.one_S]
        rfl
      · have zz : decide (V.str (S [47]) = V.str (Str.ofString "")) = false := by rw [TX.empty_S]; simp [SX.S]
        rw [zz]
        exact iteF ⟨rfl, _, b, rfl, .inr ⟨hd, na⟩⟩
    clear hv
    rintro σ' H2 ⟨rfl, v2, b, rfl, pt⟩
    obtain ⟨la, lb⟩ := pt.len lz
    have lr : (rpL a).length ≤ 100 := by
      unfold rpL
      split
      · simp at la
        omega
      · exact la
    refine ⟨_, rfl, ⟨_, rfl⟩, _, _, rfl, rfl, sl la, rpL a, by rw [TX.minus_S, rp_all]; rfl, by omega, fun H3 s3 => ⟨isNb (rpL a), rfl, ?_⟩⟩
    cases hb1 : isNb (rpL a) with
    | false =>
      refine iteT ?_
      exact ⟨_, rfl, by show 1 ≤ 1000; decide, fun a ha => ⟨a, _, rfl, upd_same, fun d hd ne => ⟨rfl, d, _, upd_same, (by rw [upd_ne ne]; exact upd_same), (by rw [upd_ne ne] at hd; exact hd), raised (s1.trans s3) (no1 pt hb1) ha hd ne⟩⟩⟩
    | true =>
    refine iteF ?_
    refine ⟨_, rfl, b, rfl, by omega, fun H4 s4 => ⟨isNb b, rfl, ?_⟩⟩
    have s14 := (s1.trans s3).trans s4
    cases hb2 : isNb b with
    | false =>
      refine iteT ?_
      exact ⟨_, rfl, by show 1 ≤ 1000; decide, fun a ha => ⟨a, _, rfl, upd_same, fun d hd ne => ⟨rfl, d, _, upd_same, (by rw [upd_ne ne]; exact upd_same), (by rw [upd_ne ne] at hd; exact hd), raised s14 (no2 pt hb2) ha hd ne⟩⟩⟩
    | true =>
    refine iteF ?_
    refine ⟨_, rfl, rfl, _, rfl, ?_⟩
    by_cases h48 : b = [48]
    · subst h48
      have zz : decide (V.str (S [48]) = V.str (Str.ofString "0")) = true := by rw [TX.zero_S]; simp
      rw [zz]
      refine iteT ?_
      exact ⟨_, rfl, by show 1 ≤ 1000; decide, fun a ha => ⟨a, _, rfl, upd_same, fun d hd ne => ⟨rfl, d, _, upd_same, (by rw [upd_ne ne]; exact upd_same), (by rw [upd_ne ne] at hd; exact hd), raised s14 (no3 pt) ha hd ne⟩⟩⟩
    have zz : decide (V.str (S b) = V.str (Str.ofString "0")) = false := by
      rw [TX.zero_S]
      exact decide_eq_false fun z => h48 (SX.S_inj (V.str.inj z))
    rw [zz]
    refine iteF ?_
    have wa : IsW a := rp_isW.mp ((isNb_iff _).mp hb1)
    have nb : IsN b := (isNb_iff _).mp hb2
    have wb0 := wv_pos' nb h48
    have wal := wv_lt la wa
    have wbl := wv_lt lb (.inl nb)
    refine ⟨_, rfl, _, wv a, rfl, isW_text wa (by omega), by rw [SX.S_len]; omega, _, rfl, _, wv b, rfl, isW_text (.inl nb) (by omega), by rw [SX.S_len]; omega, ?_⟩
    intro p pd np nd ne
    refine mk_in (n := 400) np nd (by omega) wbl (by decide) (by decide) fun H5 s5 hp => ⟨rfl, ?_⟩
    obtain ⟨dp, hp1⟩ := id hp
    have s15 := s14.trans s5
    have q1 : Sm (KM.low (wv a) (wv b)).1 := Nat.lt_of_le_of_lt (KM.low_top_le (by omega)) wal
    have q2 : Sm (KM.low (wv a) (wv b)).2 := Nat.lt_of_le_of_lt (KM.low_bot_le (by omega)) wbl
    refine ⟨_, rfl, p, dp, _, rfl, hp1, p, _, rfl, hp, q1, q2, _, rfl, _, rfl, rfl, _, rfl, ?_⟩
    by_cases hz : z = tq (KM.low (wv a) (wv b))
    · have e : (!decide (V.str (txq (KM.low (wv a) (wv b))) = V.str (S z))) = false := by
        rw [txq_S, ← hz]
        simp
      rw [e]
      refine iteF ?_
      exact ⟨_, rfl, hQ _ ⟨hz, KM.low_pos (by omega), KM.low_cop (by omega)⟩ p H5 s15 (s14.free np) hp⟩
    · have e : (!decide (V.str (txq (KM.low (wv a) (wv b))) = V.str (S z))) = true := by
        rw [txq_S, decide_eq_false fun z' => hz (SX.S_inj (V.str.inj z')).symm]
        rfl
      rw [e]
      refine iteT ?_
      exact ⟨_, rfl, by show 1 ≤ 1000; decide, fun a ha => ⟨a, _, rfl, upd_same, fun d hd ne => ⟨rfl, d, _, upd_same, (by rw [upd_ne ne]; exact upd_same), (by rw [upd_ne ne] at hd; exact hd), raised s15 (no4 pt hz) ha hd ne⟩⟩⟩
end
end
end K04
set_option Elab.async false
set_option linter.all false
set_option maxRecDepth 100000
set_option maxHeartbeats 4000000
/-! EQD: a dict beside things of other kinds: never equal; x in a list or tuple of any things, == and != of lists of any things. -/
namespace EQD
open PySem PySem.Spec PyProof.Rows L2
open PySem.SeqAt
abbrev dO (es : Array DictEntry) (ep : Nat) (dd : Option Addr) (sl : Array (Option Value)) : Obj := { cls := .type "dict", dict := dd, data := .dict es ep, slots := sl }

theorem dict_declines_none (l : Addr) (es : Array DictEntry) (ep : Nat) (dd : Option Addr) (sl : Array (Option Value))  :
    Meets (Builtin.«dict.__eq__» ⟨[.ref l, .none], []⟩) (fun _ R s => s.heap.get? l = some (dO es ep dd sl) ∧ R (.ok (.ret .notImplemented)) s) :=
  .of_wp fun prog w A R s h => by obtain ⟨hp, g, d, tk, os⟩ := s; obtain ⟨hl, h⟩ := h; have f1 := F.sub_NoneType_dict; wp_walk using wpAny_loadPart' hl; exact ⟨_, rfl, h⟩
theorem dict_declines_bool (l : Addr) (es : Array DictEntry) (ep : Nat) (dd : Option Addr) (sl : Array (Option Value)) (b : Bool) :
    Meets (Builtin.«dict.__eq__» ⟨[.ref l, .bool b], []⟩) (fun _ R s => s.heap.get? l = some (dO es ep dd sl) ∧ R (.ok (.ret .notImplemented)) s) :=
  .of_wp fun prog w A R s h => by obtain ⟨hp, g, d, tk, os⟩ := s; obtain ⟨hl, h⟩ := h; have f1 := F.sub_bool_dict; wp_walk using wpAny_loadPart' hl; exact ⟨_, rfl, h⟩
theorem dict_declines_int (l : Addr) (es : Array DictEntry) (ep : Nat) (dd : Option Addr) (sl : Array (Option Value)) (b : Int) (u : Tok) :
    Meets (Builtin.«dict.__eq__» ⟨[.ref l, .int b u], []⟩) (fun _ R s => s.heap.get? l = some (dO es ep dd sl) ∧ R (.ok (.ret .notImplemented)) s) :=
  .of_wp fun prog w A R s h => by obtain ⟨hp, g, d, tk, os⟩ := s; obtain ⟨hl, h⟩ := h; have f1 := F.sub_int_dict; wp_walk using wpAny_loadPart' hl; exact ⟨_, rfl, h⟩
theorem dict_declines_str (l : Addr) (es : Array DictEntry) (ep : Nat) (dd : Option Addr) (sl : Array (Option Value)) (b : Str) (u : Tok) :
    Meets (Builtin.«dict.__eq__» ⟨[.ref l, .str b u], []⟩) (fun _ R s => s.heap.get? l = some (dO es ep dd sl) ∧ R (.ok (.ret .notImplemented)) s) :=
  .of_wp fun prog w A R s h => by obtain ⟨hp, g, d, tk, os⟩ := s; obtain ⟨hl, h⟩ := h; have f1 := F.sub_str_dict; wp_walk using wpAny_loadPart' hl; exact ⟨_, rfl, h⟩
theorem bool_declines_dict (l : Addr) (es : Array DictEntry) (ep : Nat) (dd : Option Addr) (sl : Array (Option Value)) (b : Bool) :
    Meets (Builtin.«int.__eq__» ⟨[.bool b, .ref l], []⟩) (fun _ R s => s.heap.get? l = some (dO es ep dd sl) ∧ R (.ok (.ret .notImplemented)) s) :=
  .of_wp fun prog w A R s h => by obtain ⟨hp, g, d, tk, os⟩ := s; obtain ⟨hl, h⟩ := h; wp_walk using wpAny_loadPart' hl, wpAny_load hl; exact ⟨_, rfl, h⟩
theorem int_declines_dict (l : Addr) (es : Array DictEntry) (ep : Nat) (dd : Option Addr) (sl : Array (Option Value)) (b : Int) (u : Tok) :
    Meets (Builtin.«int.__eq__» ⟨[.int b u, .ref l], []⟩) (fun _ R s => s.heap.get? l = some (dO es ep dd sl) ∧ R (.ok (.ret .notImplemented)) s) :=
  .of_wp fun prog w A R s h => by obtain ⟨hp, g, d, tk, os⟩ := s; obtain ⟨hl, h⟩ := h; wp_walk using wpAny_loadPart' hl, wpAny_load hl; exact ⟨_, rfl, h⟩
theorem str_declines_dict (l : Addr) (es : Array DictEntry) (ep : Nat) (dd : Option Addr) (sl : Array (Option Value)) (b : Str) (u : Tok) :
    Meets (Builtin.«str.__eq__» ⟨[.str b u, .ref l], []⟩) (fun _ R s => s.heap.get? l = some (dO es ep dd sl) ∧ R (.ok (.ret .notImplemented)) s) :=
  .of_wp fun prog w A R s h => by obtain ⟨hp, g, d, tk, os⟩ := s; obtain ⟨hl, h⟩ := h; wp_walk using wpAny_loadPart' hl, wpAny_load hl; exact ⟨_, rfl, h⟩
theorem dict_declines_list (l b : Addr) (es : Array DictEntry) (ep : Nat) (dd dd2 : Option Addr) (sl sl2 : Array (Option Value)) (items : Array Value) (n : Nat) :
    Meets (Builtin.«dict.__eq__» ⟨[.ref l, .ref b], []⟩) (fun _ R s => s.heap.get? l = some (dO es ep dd sl) ∧ s.heap.get? b = some { cls := .type "list", dict := dd2, data := .seq items n, slots := sl2 } ∧ R (.ok (.ret .notImplemented)) s) :=
  .of_wp fun prog w A R s h => by obtain ⟨hp, g, d, tk, os⟩ := s; obtain ⟨hl, hb, h⟩ := h; have f1 := F.sub_list_dict; wp_walk using wpAny_loadPart' hl, wpAny_loadPart' hb; exact ⟨_, rfl, h⟩
theorem list_declines_dict (l b : Addr) (es : Array DictEntry) (ep : Nat) (dd dd2 : Option Addr) (sl sl2 : Array (Option Value)) (items : Array Value) (n : Nat) :
    Meets (Builtin.«list.__eq__» ⟨[.ref b, .ref l], []⟩) (fun _ R s => s.heap.get? l = some (dO es ep dd sl) ∧ s.heap.get? b = some { cls := .type "list", dict := dd2, data := .seq items n, slots := sl2 } ∧ R (.ok (.ret .notImplemented)) s) :=
  .of_wp fun prog w A R s h => by obtain ⟨hp, g, d, tk, os⟩ := s; obtain ⟨hl, hb, h⟩ := h; have f1 := F.sub_dict_list; wp_walk using wpAny_loadPart' hl, wpAny_loadPart' hb; exact ⟨_, rfl, h⟩
theorem dict_declines_tuple (l b : Addr) (es : Array DictEntry) (ep : Nat) (dd dd2 : Option Addr) (sl sl2 : Array (Option Value)) (items : Array Value) (n : Nat) :
    Meets (Builtin.«dict.__eq__» ⟨[.ref l, .ref b], []⟩) (fun _ R s => s.heap.get? l = some (dO es ep dd sl) ∧ s.heap.get? b = some { cls := .type "tuple", dict := dd2, data := .seq items n, slots := sl2 } ∧ R (.ok (.ret .notImplemented)) s) :=
  .of_wp fun prog w A R s h => by obtain ⟨hp, g, d, tk, os⟩ := s; obtain ⟨hl, hb, h⟩ := h; have f1 := F.sub_tuple_dict; wp_walk using wpAny_loadPart' hl, wpAny_loadPart' hb; exact ⟨_, rfl, h⟩
theorem tuple_declines_dict (l b : Addr) (es : Array DictEntry) (ep : Nat) (dd dd2 : Option Addr) (sl sl2 : Array (Option Value)) (items : Array Value) (n : Nat) :
    Meets (Builtin.«tuple.__eq__» ⟨[.ref b, .ref l], []⟩) (fun _ R s => s.heap.get? l = some (dO es ep dd sl) ∧ s.heap.get? b = some { cls := .type "tuple", dict := dd2, data := .seq items n, slots := sl2 } ∧ R (.ok (.ret .notImplemented)) s) :=
  .of_wp fun prog w A R s h => by obtain ⟨hp, g, d, tk, os⟩ := s; obtain ⟨hl, hb, h⟩ := h; have f1 := F.sub_dict_tuple; wp_walk using wpAny_loadPart' hl, wpAny_loadPart' hb; exact ⟨_, rfl, h⟩
/-- a dict stands at l -/
def IsDct (h : Heap) (l : Addr) : Prop := ∃ (o : Obj) (es : Array DictEntry) (ep : Nat), h.get? l = some o ∧ o.cls = .type "dict" ∧ o.data = .dict es ep
section
variable {A : Around} {s : Shared}
theorem RcAt_dict_none {l : Addr}  (hl : IsDct s.heap l) (hu : A.units < cLine) : RcAt A s (.ref l) .none false := fun prog w E Q h => by
  obtain ⟨⟨cls, dd, data, sl⟩, es, ep, ho, hc, hd⟩ := id hl
  simp only at hc hd
  subst hc hd
  exact rc_eq_decline_or (k := false) ⟨_, ho, rfl⟩ rfl (by decide) F.sub_NoneType_dict F.slot_dict_eq F.slot_NoneType_eq_refl
    (fun _ hq => call_meets F.slot_dict_eq ⟨_, ho, rfl⟩ F.entry_dict_eq (F.args_dict_eq_2 _ _) (dict_declines_none l es ep dd sl ) ⟨ho, hq⟩)
    (fun _ hq => call_gives F.slot_NoneType_eq_refl rfl F.entry_NoneType_eq (F.args_NoneType_eq_2 _ _) (NoneType___eq___none_ref_0 l) hq)
    (fun _ hq => wpAny_of_eq (rfl : isSame (.ref l) .none = pure false) hq) (.inr hu) h
theorem RcAt_none_dict {l : Addr}  (hl : IsDct s.heap l) (hu : A.units < cLine) : RcAt A s .none (.ref l) false := fun prog w E Q h => by
  obtain ⟨⟨cls, dd, data, sl⟩, es, ep, ho, hc, hd⟩ := id hl
  simp only at hc hd
  subst hc hd
  exact rc_eq_decline_or (k := false) rfl ⟨_, ho, rfl⟩ (by decide) F.sub_dict_NoneType F.slot_NoneType_eq F.slot_dict_eq_refl
    (fun _ hq => call_gives F.slot_NoneType_eq rfl F.entry_NoneType_eq (F.args_NoneType_eq_2 _ _) (NoneType___eq___none_ref_0 l) hq)
    (fun _ hq => call_meets F.slot_dict_eq_refl ⟨_, ho, rfl⟩ F.entry_dict_eq (F.args_dict_eq_2 _ _) (dict_declines_none l es ep dd sl ) ⟨ho, hq⟩)
    (fun _ hq => wpAny_of_eq (rfl : isSame .none (.ref l) = pure false) hq) (.inr hu) h
theorem EqAt_dict_none {l : Addr}  (hl : IsDct s.heap l) (hu : A.units < cLine) : EqAt A s (.ref l) .none false := fun prog w E Q h => by
  unfold eqBool
  refine wpAny_holding ?_
  refine wpAny_ite_split (fun hab => absurd (eq_of_beq hab) nofun) (fun _ => ?_)
  exact wpAny_bind (RcAt_dict_none  hl hu prog w E _ (wpAny_truthy_bool h))
theorem EqAt_none_dict {l : Addr}  (hl : IsDct s.heap l) (hu : A.units < cLine) : EqAt A s .none (.ref l) false := fun prog w E Q h => by
  unfold eqBool
  refine wpAny_holding ?_
  refine wpAny_ite_split (fun hab => absurd (eq_of_beq hab) nofun) (fun _ => ?_)
  exact wpAny_bind (RcAt_none_dict  hl hu prog w E _ (wpAny_truthy_bool h))
theorem RcAt_dict_bool {l : Addr} (b : Bool) (hl : IsDct s.heap l) (hu : A.units < cLine) : RcAt A s (.ref l) (.bool b) false := fun prog w E Q h => by
  obtain ⟨⟨cls, dd, data, sl⟩, es, ep, ho, hc, hd⟩ := id hl
  simp only at hc hd
  subst hc hd
  exact rc_eq_decline_or (k := false) ⟨_, ho, rfl⟩ rfl (by decide) F.sub_bool_dict F.slot_dict_eq F.slot_bool_eq_refl
    (fun _ hq => call_meets F.slot_dict_eq ⟨_, ho, rfl⟩ F.entry_dict_eq (F.args_dict_eq_2 _ _) (dict_declines_bool l es ep dd sl b) ⟨ho, hq⟩)
    (fun _ hq => call_meets F.slot_bool_eq_refl rfl F.entry_int_eq (F.args_int_eq_2 _ _) (bool_declines_dict l es ep dd sl b) ⟨ho, hq⟩)
    (fun _ hq => wpAny_of_eq (rfl : isSame (.ref l) (.bool b) = pure false) hq) (.inr hu) h
theorem RcAt_bool_dict {l : Addr} (b : Bool) (hl : IsDct s.heap l) (hu : A.units < cLine) : RcAt A s (.bool b) (.ref l) false := fun prog w E Q h => by
  obtain ⟨⟨cls, dd, data, sl⟩, es, ep, ho, hc, hd⟩ := id hl
  simp only at hc hd
  subst hc hd
  exact rc_eq_decline_or (k := false) rfl ⟨_, ho, rfl⟩ (by decide) F.sub_dict_bool F.slot_bool_eq F.slot_dict_eq_refl
    (fun _ hq => call_meets F.slot_bool_eq rfl F.entry_int_eq (F.args_int_eq_2 _ _) (bool_declines_dict l es ep dd sl b) ⟨ho, hq⟩)
    (fun _ hq => call_meets F.slot_dict_eq_refl ⟨_, ho, rfl⟩ F.entry_dict_eq (F.args_dict_eq_2 _ _) (dict_declines_bool l es ep dd sl b) ⟨ho, hq⟩)
    (fun _ hq => wpAny_of_eq (rfl : isSame (.bool b) (.ref l) = pure false) hq) (.inr hu) h
theorem EqAt_dict_bool {l : Addr} (b : Bool) (hl : IsDct s.heap l) (hu : A.units < cLine) : EqAt A s (.ref l) (.bool b) false := fun prog w E Q h => by
  unfold eqBool
  refine wpAny_holding ?_
  refine wpAny_ite_split (fun hab => absurd (eq_of_beq hab) nofun) (fun _ => ?_)
  exact wpAny_bind (RcAt_dict_bool b hl hu prog w E _ (wpAny_truthy_bool h))
theorem EqAt_bool_dict {l : Addr} (b : Bool) (hl : IsDct s.heap l) (hu : A.units < cLine) : EqAt A s (.bool b) (.ref l) false := fun prog w E Q h => by
  unfold eqBool
  refine wpAny_holding ?_
  refine wpAny_ite_split (fun hab => absurd (eq_of_beq hab) nofun) (fun _ => ?_)
  exact wpAny_bind (RcAt_bool_dict b hl hu prog w E _ (wpAny_truthy_bool h))
theorem RcAt_dict_int {l : Addr} (b : Int) (u : Tok) (hl : IsDct s.heap l) (hu : A.units < cLine) : RcAt A s (.ref l) (.int b u) false := fun prog w E Q h => by
  obtain ⟨⟨cls, dd, data, sl⟩, es, ep, ho, hc, hd⟩ := id hl
  simp only at hc hd
  subst hc hd
  exact rc_eq_decline_or (k := false) ⟨_, ho, rfl⟩ (typeIs_int s b u) (by decide) F.sub_int_dict F.slot_dict_eq F.slot_int_eq_refl
    (fun _ hq => call_meets F.slot_dict_eq ⟨_, ho, rfl⟩ F.entry_dict_eq (F.args_dict_eq_2 _ _) (dict_declines_int l es ep dd sl b u) ⟨ho, hq⟩)
    (fun _ hq => call_meets F.slot_int_eq_refl (typeIs_int s b u) F.entry_int_eq (F.args_int_eq_2 _ _) (int_declines_dict l es ep dd sl b u) ⟨ho, hq⟩)
    (fun _ hq => wpAny_of_eq (rfl : isSame (.ref l) (.int b u) = pure false) hq) (.inr hu) h
theorem RcAt_int_dict {l : Addr} (b : Int) (u : Tok) (hl : IsDct s.heap l) (hu : A.units < cLine) : RcAt A s (.int b u) (.ref l) false := fun prog w E Q h => by
  obtain ⟨⟨cls, dd, data, sl⟩, es, ep, ho, hc, hd⟩ := id hl
  simp only at hc hd
  subst hc hd
  exact rc_eq_decline_or (k := false) (typeIs_int s b u) ⟨_, ho, rfl⟩ (by decide) F.sub_dict_int F.slot_int_eq F.slot_dict_eq_refl
    (fun _ hq => call_meets F.slot_int_eq (typeIs_int s b u) F.entry_int_eq (F.args_int_eq_2 _ _) (int_declines_dict l es ep dd sl b u) ⟨ho, hq⟩)
    (fun _ hq => call_meets F.slot_dict_eq_refl ⟨_, ho, rfl⟩ F.entry_dict_eq (F.args_dict_eq_2 _ _) (dict_declines_int l es ep dd sl b u) ⟨ho, hq⟩)
    (fun _ hq => wpAny_of_eq (rfl : isSame (.int b u) (.ref l) = pure false) hq) (.inr hu) h
theorem EqAt_dict_int {l : Addr} (b : Int) (u : Tok) (hl : IsDct s.heap l) (hu : A.units < cLine) : EqAt A s (.ref l) (.int b u) false := fun prog w E Q h => by
  unfold eqBool
  refine wpAny_holding ?_
  refine wpAny_ite_split (fun hab => absurd (eq_of_beq hab) nofun) (fun _ => ?_)
  exact wpAny_bind (RcAt_dict_int b u hl hu prog w E _ (wpAny_truthy_bool h))
theorem EqAt_int_dict {l : Addr} (b : Int) (u : Tok) (hl : IsDct s.heap l) (hu : A.units < cLine) : EqAt A s (.int b u) (.ref l) false := fun prog w E Q h => by
  unfold eqBool
  refine wpAny_holding ?_
  refine wpAny_ite_split (fun hab => absurd (eq_of_beq hab) nofun) (fun _ => ?_)
  exact wpAny_bind (RcAt_int_dict b u hl hu prog w E _ (wpAny_truthy_bool h))
theorem RcAt_dict_str {l : Addr} (b : Str) (u : Tok) (hl : IsDct s.heap l) (hu : A.units < cLine) : RcAt A s (.ref l) (.str b u) false := fun prog w E Q h => by
  obtain ⟨⟨cls, dd, data, sl⟩, es, ep, ho, hc, hd⟩ := id hl
  simp only at hc hd
  subst hc hd
  exact rc_eq_decline_or (k := false) ⟨_, ho, rfl⟩ (typeIs_str s b u) (by decide) F.sub_str_dict F.slot_dict_eq F.slot_str_eq_refl
    (fun _ hq => call_meets F.slot_dict_eq ⟨_, ho, rfl⟩ F.entry_dict_eq (F.args_dict_eq_2 _ _) (dict_declines_str l es ep dd sl b u) ⟨ho, hq⟩)
    (fun _ hq => call_meets F.slot_str_eq_refl (typeIs_str s b u) F.entry_str_eq (F.args_str_eq_2 _ _) (str_declines_dict l es ep dd sl b u) ⟨ho, hq⟩)
    (fun _ hq => wpAny_of_eq (rfl : isSame (.ref l) (.str b u) = pure false) hq) (.inr hu) h
theorem RcAt_str_dict {l : Addr} (b : Str) (u : Tok) (hl : IsDct s.heap l) (hu : A.units < cLine) : RcAt A s (.str b u) (.ref l) false := fun prog w E Q h => by
  obtain ⟨⟨cls, dd, data, sl⟩, es, ep, ho, hc, hd⟩ := id hl
  simp only at hc hd
  subst hc hd
  exact rc_eq_decline_or (k := false) (typeIs_str s b u) ⟨_, ho, rfl⟩ (by decide) F.sub_dict_str F.slot_str_eq F.slot_dict_eq_refl
    (fun _ hq => call_meets F.slot_str_eq (typeIs_str s b u) F.entry_str_eq (F.args_str_eq_2 _ _) (str_declines_dict l es ep dd sl b u) ⟨ho, hq⟩)
    (fun _ hq => call_meets F.slot_dict_eq_refl ⟨_, ho, rfl⟩ F.entry_dict_eq (F.args_dict_eq_2 _ _) (dict_declines_str l es ep dd sl b u) ⟨ho, hq⟩)
    (fun _ hq => wpAny_of_eq (rfl : isSame (.str b u) (.ref l) = pure false) hq) (.inr hu) h
theorem EqAt_dict_str {l : Addr} (b : Str) (u : Tok) (hl : IsDct s.heap l) (hu : A.units < cLine) : EqAt A s (.ref l) (.str b u) false := fun prog w E Q h => by
  unfold eqBool
  refine wpAny_holding ?_
  refine wpAny_ite_split (fun hab => absurd (eq_of_beq hab) nofun) (fun _ => ?_)
  exact wpAny_bind (RcAt_dict_str b u hl hu prog w E _ (wpAny_truthy_bool h))
theorem EqAt_str_dict {l : Addr} (b : Str) (u : Tok) (hl : IsDct s.heap l) (hu : A.units < cLine) : EqAt A s (.str b u) (.ref l) false := fun prog w E Q h => by
  unfold eqBool
  refine wpAny_holding ?_
  refine wpAny_ite_split (fun hab => absurd (eq_of_beq hab) nofun) (fun _ => ?_)
  exact wpAny_bind (RcAt_str_dict b u hl hu prog w E _ (wpAny_truthy_bool h))
theorem ne_dict_list {l b : Addr} {items : Array Value} (hl : IsDct s.heap l) (hb : s.heap.IsList b items) : l ≠ b := fun e => by
  subst e
  obtain ⟨o, _, _, ho, hc, _⟩ := hl
  obtain ⟨o2, ho2, hc2, _⟩ := hb
  rw [ho] at ho2
  cases ho2
  rw [hc] at hc2
  exact absurd hc2 (by simp)
theorem RcAt_dict_list {l b : Addr} {items : Array Value} (hl : IsDct s.heap l) (hb : s.heap.IsList b items) (hu : A.units < cLine) : RcAt A s (.ref l) (.ref b) false := fun prog w E Q h => by
  have hne := ne_dict_list hl hb
  obtain ⟨⟨cls, dd, data, sl⟩, es, ep, ho, hc, hd⟩ := id hl
  obtain ⟨⟨cls2, dd2, data2, sl2⟩, ho2, hc2, n2, hd2⟩ := id hb
  simp only at hc hd hc2 hd2
  subst hc hd hc2 hd2
  exact (rc_eq_decline_or (k := false) ⟨_, ho, rfl⟩ ⟨_, ho2, rfl⟩ (by decide) F.sub_list_dict F.slot_dict_eq F.slot_list_eq_refl
    (fun _ hq => call_meets F.slot_dict_eq ⟨_, ho, rfl⟩ F.entry_dict_eq (F.args_dict_eq_2 _ _) (dict_declines_list l b es ep dd dd2 sl sl2 items n2) ⟨ho, ho2, hq⟩)
    (fun _ hq => call_meets F.slot_list_eq_refl ⟨_, ho2, rfl⟩ F.entry_list_eq (F.args_list_eq_2 _ _) (list_declines_dict l b es ep dd dd2 sl sl2 items n2) ⟨ho, ho2, hq⟩)
    (fun _ hq => wpAny_isSame_ref_other hne ho ho2 (by simp) hq) (.inr hu) h)
theorem RcAt_list_dict {l b : Addr} {items : Array Value} (hl : IsDct s.heap l) (hb : s.heap.IsList b items) (hu : A.units < cLine) : RcAt A s (.ref b) (.ref l) false := fun prog w E Q h => by
  have hne := (ne_dict_list hl hb).symm
  obtain ⟨⟨cls, dd, data, sl⟩, es, ep, ho, hc, hd⟩ := id hl
  obtain ⟨⟨cls2, dd2, data2, sl2⟩, ho2, hc2, n2, hd2⟩ := id hb
  simp only at hc hd hc2 hd2
  subst hc hd hc2 hd2
  exact (rc_eq_decline_or (k := false) ⟨_, ho2, rfl⟩ ⟨_, ho, rfl⟩ (by decide) F.sub_dict_list F.slot_list_eq F.slot_dict_eq_refl
    (fun _ hq => call_meets F.slot_list_eq ⟨_, ho2, rfl⟩ F.entry_list_eq (F.args_list_eq_2 _ _) (list_declines_dict l b es ep dd dd2 sl sl2 items n2) ⟨ho, ho2, hq⟩)
    (fun _ hq => call_meets F.slot_dict_eq_refl ⟨_, ho, rfl⟩ F.entry_dict_eq (F.args_dict_eq_2 _ _) (dict_declines_list l b es ep dd dd2 sl sl2 items n2) ⟨ho, ho2, hq⟩)
    (fun _ hq => wpAny_isSame_ref_other' hne ho2 ho (by simp) hq) (.inr hu) h)
theorem EqAt_dict_list {l b : Addr} {items : Array Value} (hl : IsDct s.heap l) (hb : s.heap.IsList b items) (hu : A.units < cLine) : EqAt A s (.ref l) (.ref b) false := .of_refs (ne_dict_list hl hb) (RcAt_dict_list hl hb hu)
theorem EqAt_list_dict {l b : Addr} {items : Array Value} (hl : IsDct s.heap l) (hb : s.heap.IsList b items) (hu : A.units < cLine) : EqAt A s (.ref b) (.ref l) false := .of_refs (ne_dict_list hl hb).symm (RcAt_list_dict hl hb hu)
theorem ne_dict_tuple {l b : Addr} {items : Array Value} (hl : IsDct s.heap l) (hb : s.heap.IsTuple b items) : l ≠ b := fun e => by
  subst e
  obtain ⟨o, _, _, ho, hc, _⟩ := hl
  obtain ⟨o2, ho2, hc2, _⟩ := hb
  rw [ho] at ho2
  cases ho2
  rw [hc] at hc2
  exact absurd hc2 (by simp)
theorem RcAt_dict_tuple {l b : Addr} {items : Array Value} (hl : IsDct s.heap l) (hb : s.heap.IsTuple b items) (hu : A.units < cLine) : RcAt A s (.ref l) (.ref b) false := fun prog w E Q h => by
  have hne := ne_dict_tuple hl hb
  obtain ⟨⟨cls, dd, data, sl⟩, es, ep, ho, hc, hd⟩ := id hl
  obtain ⟨⟨cls2, dd2, data2, sl2⟩, ho2, hc2, n2, hd2⟩ := id hb
  simp only at hc hd hc2 hd2
  subst hc hd hc2 hd2
  exact (rc_eq_decline_or (k := false) ⟨_, ho, rfl⟩ ⟨_, ho2, rfl⟩ (by decide) F.sub_tuple_dict F.slot_dict_eq F.slot_tuple_eq_refl
    (fun _ hq => call_meets F.slot_dict_eq ⟨_, ho, rfl⟩ F.entry_dict_eq (F.args_dict_eq_2 _ _) (dict_declines_tuple l b es ep dd dd2 sl sl2 items n2) ⟨ho, ho2, hq⟩)
    (fun _ hq => call_meets F.slot_tuple_eq_refl ⟨_, ho2, rfl⟩ F.entry_tuple_eq (F.args_tuple_eq_2 _ _) (tuple_declines_dict l b es ep dd dd2 sl sl2 items n2) ⟨ho, ho2, hq⟩)
    (fun _ hq => wpAny_isSame_ref_other hne ho ho2 (by simp) hq) (.inr hu) h)
theorem RcAt_tuple_dict {l b : Addr} {items : Array Value} (hl : IsDct s.heap l) (hb : s.heap.IsTuple b items) (hu : A.units < cLine) : RcAt A s (.ref b) (.ref l) false := fun prog w E Q h => by
  have hne := (ne_dict_tuple hl hb).symm
  obtain ⟨⟨cls, dd, data, sl⟩, es, ep, ho, hc, hd⟩ := id hl
  obtain ⟨⟨cls2, dd2, data2, sl2⟩, ho2, hc2, n2, hd2⟩ := id hb
  simp only at hc hd hc2 hd2
  subst hc hd hc2 hd2
  exact (rc_eq_decline_or (k := false) ⟨_, ho2, rfl⟩ ⟨_, ho, rfl⟩ (by decide) F.sub_dict_tuple F.slot_tuple_eq F.slot_dict_eq_refl
    (fun _ hq => call_meets F.slot_tuple_eq ⟨_, ho2, rfl⟩ F.entry_tuple_eq (F.args_tuple_eq_2 _ _) (tuple_declines_dict l b es ep dd dd2 sl sl2 items n2) ⟨ho, ho2, hq⟩)
    (fun _ hq => call_meets F.slot_dict_eq_refl ⟨_, ho, rfl⟩ F.entry_dict_eq (F.args_dict_eq_2 _ _) (dict_declines_tuple l b es ep dd dd2 sl sl2 items n2) ⟨ho, ho2, hq⟩)
    (fun _ hq => wpAny_isSame_ref_other' hne ho2 ho (by simp) hq) (.inr hu) h)
theorem EqAt_dict_tuple {l b : Addr} {items : Array Value} (hl : IsDct s.heap l) (hb : s.heap.IsTuple b items) (hu : A.units < cLine) : EqAt A s (.ref l) (.ref b) false := .of_refs (ne_dict_tuple hl hb) (RcAt_dict_tuple hl hb hu)
theorem EqAt_tuple_dict {l b : Addr} {items : Array Value} (hl : IsDct s.heap l) (hb : s.heap.IsTuple b items) (hu : A.units < cLine) : EqAt A s (.ref b) (.ref l) false := .of_refs (ne_dict_tuple hl hb).symm (RcAt_tuple_dict hl hb hu)
end
end EQD
set_option Elab.async false
set_option linter.all false
set_option maxRecDepth 100000
set_option maxHeartbeats 4000000
namespace K04
open PySem PySem.Spec PyProof.Rows L2
open C8 (Cal Mak Met pe_c pe_mk pe_mt pe_mt0)
open SX (S)
open TD
open TX (intL)
theorem cut_t {l : List Nat} {x : Int} {j : Nat} (e : x = (j : Int)) (h : j ≤ l.length) : cutS (S l) none (some x) = S (l.take j) := by
  rw [e]
  unfold cutS
  rw [HT.sIx_nat, HT.sIx_none, SX.S_len, Nat.min_eq_left h]
  simp [S]
theorem cut_d {l : List Nat} {x : Int} {j : Nat} (e : x = (j : Int)) (h : j ≤ l.length) : cutS (S l) (some x) none = S (l.drop j) := by
  rw [e]
  unfold cutS
  rw [HT.sIx_nat, HT.sIx_none, SX.S_len, Nat.min_eq_left h]
  have : (l.drop j).take (l.length - j) = l.drop j := List.take_of_length_le (by rw [List.length_drop]; exact Nat.le_refl _)
  simp [S, this]
open Classical in
/-- the whole number that a text tells -/
noncomputable def wres (t : List Nat) : V := if ∃ i, t = intL i then .int (wv t) else .non
theorem wres_int (i : Int) : wres (intL i) = .int i := by
  unfold wres
  rw [if_pos ⟨i, rfl⟩, intL_wv]
theorem wres_non {t : List Nat} (h : ∀ i, t ≠ intL i) : wres t = .non := by
  unfold wres
  rw [if_neg]
  rintro ⟨i, e⟩
  exact h i e
section
variable {P : Program} {w : World} {K : PySem.W.Frag} {mg : Str → Option Value} {base : Heap} {f C : Addr} {fd : FuncData}
def spW : Sp := fun vs H Q _ => ∃ t : List Nat, vs = [.str (S t)] ∧ t.length ≤ 100 ∧ Q (wres t) H
theorem ok_w (F : Dn K d_l_whole f fd) (bl : Bl mg) : FnOk P w K mg base CX0 1 f fd ["_law_text"] spW := by
  refine F.ok sc_l_whole (fun vs H Q E h => ?_) (fun cdv A outer s H vs Q E hr h => ?_)
  · obtain ⟨t, rfl, _⟩ := h
    rfl
  · obtain ⟨t, rfl, lt, hQ⟩ := h
    have sl : ∀ {l : List Nat}, l.length ≤ 100 → (S l).length ≤ sizeLine := fun {l} h => by
      rw [SX.S_len]
      exact big (by omega)
    refine ⟨_, PSs.nox (C8.pss_cut (ps_set (i := 1) sc_l_whole.nd rfl (.inl rfl) (pe_ifExp (pt_cmpR op_eq (pe_slice sl_str (pv 0) po_none (po_some pe_int)) pe_str (nomark _)) (pe_slice sl_str (pv 0) (po_some pe_int) po_none) (pv 0)))
      (pss_cons (ps_if (PW.pt (pw_or (pt_cmpR op_eq (pv 1) pe_str (nomark _)) (pw_or (pt_cmpR op_ne (pe_m1 PySem.F.slot_str_strip PySem.F.type_str_strip mt_stripChars (pv 1) pe_str) pe_str (nomark _))
          (pw_or1 (PW.pt (pw_and (pt_cmpR op_gt (pe_callB call_len_str rfl bl.len boot_len (pa_cons (pv 1) pa_nil)) pe_int (nomark _)) (pw_and1 (pt_cmpR op_eq (pe_ix ix_str (pv 1) pe_int (fun _ _ => rfl)) pe_str (nomark _))))))))) (pss_one (ps_ret pe_non)) pss_nil)
      (pss_one (ps_ret (pe_ifExp (pt_cmpR op_eq (pv 0) pe_str (nomark _)) pe_non (pe_callTy call_int_str rfl bl.int boot_int (pa_cons (pv 0) pa_nil))))))), ?_⟩
    refine ⟨fun σ' H' => H' = H ∧ σ' = [some (.str (S t)), some (.str (S (rpL t)))], ?_, ?_⟩
    · refine ⟨_, rfl, _, rfl, _, rfl, sl lt, rfl, _, rfl, ?_⟩
      cases t with
      | nil =>
        have e : decide (V.str (cutS (S []) none (some 1)) = V.str (Str.ofString "-")) = false := by decide +kernel
        rw [e]
        exact iteF ⟨_, rfl, rfl, rfl⟩
      | cons c l =>
        rw [cut_t (l := c :: l) (x := 1) (j := 1) rfl (by simp)]
        by_cases hc : c = 45
        · subst hc
          have e : decide (V.str (S ((45 :: l).take 1)) = V.str (Str.ofString "-")) = true := by rw [TX.minus_S]; simp
          rw [e]
          refine iteT ⟨_, rfl, _, rfl, _, rfl, sl lt, ?_⟩
          rw [cut_d (l := 45 :: l) (x := 1) (j := 1) rfl (by simp)]
          exact ⟨rfl, rfl⟩
        · have e : decide (V.str (S ((c :: l).take 1)) = V.str (Str.ofString "-")) = false := by
            rw [TX.minus_S]
            refine decide_eq_false fun z => hc ?_
            have := SX.S_inj (V.str.inj z)
            simpa using this
          rw [e]
          refine iteF ⟨_, rfl, rfl, ?_⟩
          have : rpL (c :: l) = c :: l := by
            unfold rpL
            split
            · rename_i e
              exact absurd (List.cons.inj e).1 hc
            · rfl
          rw [this]
          rfl
    rintro σ' H' ⟨rfl, rfl⟩
    have lg : (rpL t).length ≤ 100 := by
      unfold rpL
      split
      · simp at lt
        omega
      · exact lt
    have key : ¬ IsN (rpL t) → wres t = .non := fun n => wres_non fun i e => n (rp_isW.mpr (by rw [e]; exact isW_int i))
    generalize eg : rpL t = g at lg key
    refine ⟨_, rfl, rfl, _, rfl, ?_⟩
    by_cases hg : g = []
    · subst hg
      have e : decide (V.str (S []) = V.str (Str.ofString "")) = true := by rw [TX.empty_S]; simp
      rw [e]
      refine iteT ?_
      rw [key (fun z => z.ne rfl)] at hQ
      exact hQ
    have e : decide (V.str (S g) = V.str (Str.ofString "")) = false := by
      rw [TX.empty_S]
      exact decide_eq_false fun z => hg (SX.S_inj (V.str.inj z))
    rw [e]
    refine iteF ?_
    refine ⟨_, rfl, ⟨_, rfl⟩, _, _, rfl, rfl, sl lg, rfl, _, rfl, ?_⟩
    by_cases hd : Dig g
    rotate_left
    · have e : (!decide (V.str (Txt.stripChars (S g) (Str.ofString "0123456789")) = V.str (Str.ofString ""))) = true := by
        rw [TX.empty_S, decide_eq_false fun z => strip_not hd (V.str.inj z)]
        rfl
      rw [e]
      refine iteT ?_
      rw [key (fun z => hd z.dig)] at hQ
      exact hQ
    have e : (!decide (V.str (Txt.stripChars (S g) (Str.ofString "0123456789")) = V.str (Str.ofString ""))) = false := by
      rw [TX.empty_S, strip_dig hd]
      simp
    rw [e]
    refine iteF ?_
    cases g with
    | nil => exact absurd rfl hg
    | cons c l =>
    refine ⟨_, rfl, _, rfl, sl lg, _, _, rfl, rfl, _, rfl, ?_⟩
    have fin : IsN (c :: l) → ∀ {Pp : Prop}, ((t = [45, 48] → Q .non H') → (t ≠ [45, 48] → intText? (S t) = some (wv t) ∧ Q (.int (wv t)) H') → Pp) → Pp := fun isn Pp k => by
      have ww : IsW t := rp_isW.mp (by rw [eg]; exact isn)
      refine k (fun z => ?_) fun z => ⟨isW_text ww (by omega), ?_⟩
      · have : wres t = .non := wres_non fun i e => intL_not i (e ▸ z)
        rw [this] at hQ
        exact hQ
      · have e := isW_back ww z
        have : wres t = .int (wv t) := by
          conv => lhs; rw [e]
          exact wres_int _
        rw [this] at hQ
        exact hQ
    have last : IsN (c :: l) → (tIf (tTest (tOp rEq (tVar 0) (tC (V.str (Str.ofString "-0"))))) (tC V.non)
                      (tCB (fun xs H Q => ∃ a n, xs = [V.str a] ∧ intText? a = some n ∧ a.length ≤ 640 ∧ Q (V.int n) H)
                        (tCons (tVar 0) tNil))) [some (V.str (S t)), some (V.str (S (c :: l)))] H' Q := fun isn => by
      refine fin isn fun k1 k2 => ?_
      refine ⟨_, rfl, rfl, _, rfl, ?_⟩
      have z0 : Str.ofString "-0" = S [45, 48] := by decide +kernel
      by_cases ht : t = [45, 48]
      · have e : decide (V.str (S t) = V.str (Str.ofString "-0")) = true := by rw [z0, ht]; simp
        rw [e]
        exact iteT (k1 ht)
      · have e : decide (V.str (S t) = V.str (Str.ofString "-0")) = false := by
          rw [z0]
          exact decide_eq_false fun z => ht (SX.S_inj (V.str.inj z))
        rw [e]
        obtain ⟨k3, k4⟩ := k2 ht
        exact iteF ⟨_, rfl, _, _, rfl, k3, by rw [SX.S_len]; omega, k4⟩
    dsimp only
    by_cases hl : l = []
    · subst hl
      have e : decide ((1 : Int) < (((S [c]).length : Nat) : Int)) = false := by rw [SX.S_len]; simp
      refine iteFE e ?_
      refine last ?_
      by_cases h48 : c = 48
      · exact .inl (by rw [h48])
      · exact .inr ⟨by simp, by simpa using h48, hd⟩
    · have e : decide ((1 : Int) < (((S (c :: l)).length : Nat) : Int)) = true := by
        have : 0 < l.length := List.length_pos_iff.mpr hl
        rw [SX.S_len, List.length_cons]
        exact decide_eq_true (by omega)
      refine iteTE e ?_
      refine ⟨_, rfl, _, _, c, rfl, rfl, sl lg, atI_nat (j := 0) rfl, rfl, _, rfl, ?_⟩
      by_cases h48 : c = 48
      · have e : decide (V.str ⟨#[c]⟩ = V.str (Str.ofString "0")) = true := by rw [TX.zero_S, h48]; simp [SX.S]
        rw [e]
        refine iteT ?_
        have : ¬ IsN (c :: l) := by
          rintro (z | ⟨_, z, _⟩)
          · exact hl (List.cons.inj z).2
          · exact z (by rw [h48]; rfl)
        rw [key this] at hQ
        exact hQ
      · have e : decide (V.str ⟨#[c]⟩ = V.str (Str.ofString "0")) = false := by
          rw [TX.zero_S]
          refine decide_eq_false fun z => h48 ?_
          have := V.str.inj z
          simpa [SX.S] using this
        rw [e]
        exact iteF (last (.inr ⟨by simp, by simpa using h48, hd⟩))
end
end K04
set_option Elab.async false
set_option linter.all false
set_option maxRecDepth 100000
set_option maxHeartbeats 4000000
namespace K04
open PySem PySem.Spec PyProof.Rows L2
open C8 (Cal Mak Met pe_c pe_mk pe_mt pe_mt0)
open SX (S)
open TD
open TX (intL)
theorem eqv_pr (a b c d : Int) : PyData.eqv (.tuple [.int a, .int b]) (.tuple [.int c, .int d]) = decide ((a, b) = (c, d)) := by
  simp only [PyData.eqv, PyData.eqvAll]
  rw [Bool.eq_iff_iff]
  simp
theorem neT {K : PySem.W.Frag} {H : Hp} {r s : Addr} {q q' : Int × Int} {Q : VK} (h1 : H r = some (tupP q)) (h2 : H s = some (tupP q')) (hQ : Q (.bl (!decide (q = q'))) H) : rNeD K (.ref r) (.ref s) H Q := by
  refine ⟨.tuple [.int q.1, .int q.2], .tuple [.int q'.1, .int q'.2], Dp.tup (SqT.of h1) (.cons (.int _) (.cons (.int _) .nil)), Dp.tup (SqT.of h2) (.cons (.int _) (.cons (.int _) .nil)), rfl, rfl, ?_⟩
  rw [eqv_pr]
  exact hQ
section
variable {P : Program} {w : World} {K : PySem.W.Frag} {mg : Str → Option Value} {base : Heap} {f C : Addr} {fd : FuncData}
def spRd : Sp := fun vs H Q _ => ∃ (v : V) (T : Int × Int → Prop), vs = [v] ∧ Th H v T ∧ (∀ q, T q → ∀ r H', Same H H' → H r = none → H' r = some (tupP q) → Q (.ref r) H') ∧ ((∀ q, ¬ T q) → ∀ H', Same H H' → Q .non H')
theorem int_lt {t : List Nat} {i : Int} (l : t.length ≤ 100) (e : t = intL i) : i.natAbs < 2 ^ 400 := by
  have := wv_lt l (by rw [e]; exact isW_int i)
  rw [e, intL_wv] at this
  exact this
theorem ok_rd (F : Dn K d_l_read f fd) (bl : Bl mg) (bs : mg "str" = none) (cW : Cal P w K mg base 1 "_law_whole" spW []) (cL : CalL P w K mg base) : FnOk P w K mg base CX0 3 f fd ["_law_thing"] spRd := by
  refine F.ok sc_l_read (fun vs H Q E h => ?_) (fun cdv A outer s H vs Q E hr h => ?_)
  · obtain ⟨v, T, rfl, _⟩ := h
    rfl
  · obtain ⟨v, TT, rfl, th, hQ, hN⟩ := h
    have hu64 : (A.deeper (envOfC d_l_read.qual d_l_read.scope s.heap.objs.size f cdv)).units + 64 < cLine := by have := hr.un; omega
    refine ⟨_, PSs.nox (pss_cons (ps_if (pt_not (pt_val (pe_callB call_isi rfl bl.isi boot_isinstance (pa_cons (pv 0) (pa_cons (pe_bltn (v := .ty "str") rfl bs boot_str rfl) pa_nil))))) (pss_one (ps_ret pe_non)) pss_nil)
      (pss_cons (ps_set (i := 1) sc_l_read.nd rfl (.inl rfl) (pe_m1 PySem.F.slot_str_find PySem.F.type_str_find mt_find (pv 0) pe_str))
      (C8.pss_cut (ps_set (i := 2) sc_l_read.nd rfl (.inl rfl) (pe_c cW hr (by decide) rfl (pa_cons (pe_ifExp (pt_cmpR op_lt (pv 1) pe_int (nomark _)) (pv 0) (pe_slice sl_str (pv 0) po_none (po_some (pv 1)))) pa_nil)))
      (C8.pss_cut (ps_set (i := 3) sc_l_read.nd rfl (.inl rfl) (pe_ifExp (pt_cmpR op_lt (pv 1) pe_int (nomark _)) pe_int (pe_c cW hr (by decide) rfl (pa_cons (pe_slice sl_str (pv 0) (po_some (pe_op op_add (pv 1) pe_int)) po_none) pa_nil))))
      (pss_cons (ps_if (PW.pt (pw_or (pt_cmpR op_isN1 (pv 2) pe_non (nomark _)) (pw_or (pt_cmpR op_isN1 (pv 3) pe_non (nomark _)) (pw_or (PW.pt (pw_and (pt_cmpR op_ge (pv 1) pe_int (nomark _)) (pw_and1 (pt_cmpR op_lt (pv 3) pe_int (nomark _)))))
          (pw_or1 (pt_cmpR (op_neD hu64) (pe_c cL hr (by decide) rfl (pa_cons (pv 2) (pa_cons (pv 3) pa_nil))) (pe_tup (pa_cons (pv 2) (pa_cons (pv 3) pa_nil))) (nomark _))))))) (pss_one (ps_ret pe_non)) pss_nil)
      (pss_one (ps_ret (pe_tup (pa_cons (pv 2) (pa_cons (pv 3) pa_nil)))))))))), ?_⟩
    cases th with
    | oth ns =>
      obtain ⟨TY, ty, kt⟩ := ns K H (Same.refl H)
      refine ⟨_, rfl, _, _, _, _, false, rfl, ClsV.ty _, ty, kt, false, rfl, iteT ?_⟩
      exact hN (fun _ x => x) H (Same.refl H)
    | @txt z lz =>
    refine ⟨_, rfl, _, _, _, _, true, rfl, ClsV.ty _, TyX.base (TyOf.str _), kit_ty (by decide +kernel), true, rfl, iteF ?_⟩
    have sl : ∀ {l : List Nat}, l.length ≤ 100 → (S l).length ≤ sizeLine := fun {l} h => by
      rw [SX.S_len]
      exact big (by omega)
    refine ⟨_, rfl, ⟨_, rfl⟩, _, _, rfl, rfl, ?_⟩
    -- the two parts
    obtain ⟨at_, a, eAt, hpt⟩ : ∃ (at_ : Int) (a : List Nat), Txt.find (S z) (Str.ofString "/") = at_ ∧ ((47 ∉ z ∧ at_ = -1 ∧ a = z) ∨ (∃ b, z = a ++ 47 :: b ∧ 47 ∉ a ∧ at_ = (a.length : Int))) := by
      rw [TX.stroke_S]
      by_cases h47 : 47 ∈ z
      · obtain ⟨a, b, rfl, na⟩ := split47 z h47
        exact ⟨_, a, find_at b na, .inr ⟨b, rfl, na, rfl⟩⟩
      · exact ⟨_, z, find_no h47, .inl ⟨h47, rfl, rfl⟩⟩
    rw [eAt]
    refine ⟨fun σ' H' => H' = H ∧ σ' = [some (.str (S z)), some (.int at_), some (wres a), none], ?_, ?_⟩
    · refine ⟨_, rfl, _, _, rfl, rfl, _, rfl, ?_⟩
      rcases hpt with ⟨h47, rfl, rfl⟩ | ⟨b, rfl, na, rfl⟩
      · refine iteTE (by decide) ?_
        exact ⟨_, rfl, a, rfl, lz, rfl, rfl⟩
      · refine iteFE (decide_eq_false (by omega)) ?_
        refine ⟨_, rfl, _, rfl, _, rfl, _, rfl, sl lz, ?_⟩
        rw [cut_t (l := a ++ 47 :: b) (j := a.length) rfl (by simp), List.take_left]
        exact ⟨a, rfl, by simp at lz; omega, rfl, rfl⟩
    rintro σ' H' ⟨rfl, rfl⟩
    refine ⟨fun σ' H'' => H'' = H' ∧ ∃ b, σ' = [some (.str (S z)), some (.int at_), some (wres a), some (wres b)] ∧ Pt z a b ∧ ((at_ = -1 ∧ b = [49] ∧ a = z) ∨ (0 ≤ at_ ∧ z = a ++ 47 :: b ∧ 47 ∉ a)), ?_, ?_⟩
    · refine ⟨_, rfl, _, _, rfl, rfl, _, rfl, ?_⟩
      rcases hpt with ⟨h47, rfl, rfl⟩ | ⟨b, rfl, na, rfl⟩
      · refine iteTE (by decide) ?_
        refine ⟨rfl, [49], ?_, .inl ⟨h47, rfl, rfl⟩, .inl ⟨rfl, rfl, rfl⟩⟩
        have e : wres [49] = .int 1 := by
          have : [49] = intL 1 := by decide +kernel
          rw [this]
          exact wres_int 1
        rw [e]
        rfl
      · refine iteFE (decide_eq_false (by omega)) ?_
        refine ⟨_, rfl, _, rfl, _, _, rfl, rfl, _, rfl, _, rfl, sl lz, ?_⟩
        rw [cut_d (l := a ++ 47 :: b) (j := a.length + 1) (by omega) (by simp)]
        have e : (a ++ 47 :: b).drop (a.length + 1) = b := by
          rw [← List.drop_drop, List.drop_left]
          rfl
        rw [e]
        exact ⟨b, rfl, by simp at lz; omega, rfl, b, rfl, .inr ⟨rfl, na⟩, .inr ⟨by omega, rfl, na⟩⟩
    clear hpt
    rintro σ' H'' ⟨rfl, b, rfl, pt, hat⟩
    obtain ⟨la, lb⟩ := pt.len lz
    by_cases ha : ∃ i, a = intL i
    rotate_left
    · have e : wres a = .non := wres_non fun i e => ha ⟨i, e⟩
      rw [e]
      exact ⟨_, rfl, rfl, _, rfl, iteT (hN (fun q f => ha ⟨_, (pt.fr f).1⟩) H'' (Same.refl _))⟩
    obtain ⟨i, ei⟩ := ha
    have e : wres a = .int i := by rw [ei]; exact wres_int i
    rw [e]
    refine ⟨_, rfl, rfl, _, rfl, iteF ?_⟩
    by_cases hb : ∃ i, b = intL i
    rotate_left
    · have e : wres b = .non := wres_non fun i e => hb ⟨i, e⟩
      rw [e]
      exact ⟨_, rfl, rfl, _, rfl, iteT (hN (fun q f => hb ⟨_, (pt.fr f).2⟩) H'' (Same.refl _))⟩
    obtain ⟨j, ej⟩ := hb
    have e : wres b = .int j := by rw [ej]; exact wres_int j
    rw [e]
    refine ⟨_, rfl, rfl, _, rfl, iteF ?_⟩
    have bi := int_lt la ei
    have bj := int_lt lb ej
    have e1 : intL 1 = [49] := by decide +kernel
    have last : (j = 1 ∧ a = z ∨ 2 ≤ j ∧ z = a ++ 47 :: b) → ∀ {Pp : Prop}, (j ≠ 0 → (KM.low i j = (i, j) → Fr z (i, j)) → (KM.low i j ≠ (i, j) → ∀ q, ¬ Fr z q) → Pp) → Pp := fun hj Pp k => by
      refine k (by omega) (fun e => ?_) fun n q f => ?_
      · rcases hj with ⟨h1, h2⟩ | ⟨h1, h2⟩
        · subst h1
          refine ⟨?_, by show (0 : Int) < 1; decide, by show Int.gcd i 1 = 1; simp⟩
          rw [← h2, ei]
          rfl
        · refine ⟨?_, by show 0 < j; omega, ?_⟩
          · rw [h2, ei, ej]
            unfold tq
            rw [if_neg (by show ¬ j = 1; omega)]
          · have := KM.low_cop (t := i) (b := j) (by omega)
            rw [e] at this
            exact this
      · obtain ⟨f1, f2⟩ := pt.fr f
        have z1 : i = q.1 := intL_inj (ei.symm.trans f1)
        have z2 : j = q.2 := intL_inj (ej.symm.trans f2)
        rw [z1, z2] at n
        exact n (KM.low_id f.2.1 f.2.2)
    refine ⟨_, rfl, _, _, rfl, rfl, _, rfl, ?_⟩
    rcases hat with ⟨rfl, eb, ez⟩ | ⟨h0, ez, na⟩
    · refine iteFE (by decide) ?_
      have j1 : j = 1 := intL_inj (by rw [← ej, eb, e1])
      refine last (.inl ⟨j1, ez⟩) fun j0 yes no => ?_
      refine ⟨_, rfl, _, rfl, i, j, 400, rfl, j0, bj, by decide, by decide, fun r fr => ?_⟩
      refine ⟨_, rfl, _, rfl, by show 2 ≤ sizeLine; decide, fun u fu => ?_⟩
      have s1 := same_new (o := tupP (KM.low i j)) fr
      have s2 := same_new (o := .tup [.int i, .int j]) fu
      refine neT (q := KM.low i j) (q' := (i, j)) (s2 _ _ upd_same) upd_same ⟨_, rfl, ?_⟩
      by_cases hl : KM.low i j = (i, j)
      · refine iteFE (by simp [hl]) ?_
        exact ⟨_, rfl, _, rfl, by show 2 ≤ sizeLine; decide, fun t ft => hQ _ (yes hl) t _ ((s1.trans s2).trans (same_new ft)) ((s1.trans s2).free ft) upd_same⟩
      · refine iteTE (by simp [hl]) ?_
        exact hN (no hl) _ (s1.trans s2)
    · refine iteTE (decide_eq_true h0) ?_
      refine ⟨_, rfl, _, _, rfl, rfl, _, rfl, ?_⟩
      by_cases j2 : j < 2
      · refine iteTE (decide_eq_true j2) ?_
        refine hN (fun q f => ?_) _ (Same.refl _)
        have z2 : j = q.2 := intL_inj (ej.symm.trans (pt.fr f).2)
        rw [ez] at f
        have := (fr_two na f).2.2
        omega
      · refine iteFE (decide_eq_false j2) ?_
        refine last (.inr ⟨by omega, ez⟩) fun j0 yes no => ?_
        refine ⟨_, rfl, _, rfl, i, j, 400, rfl, j0, bj, by decide, by decide, fun r fr => ?_⟩
        refine ⟨_, rfl, _, rfl, by show 2 ≤ sizeLine; decide, fun u fu => ?_⟩
        have s1 := same_new (o := tupP (KM.low i j)) fr
        have s2 := same_new (o := .tup [.int i, .int j]) fu
        refine neT (q := KM.low i j) (q' := (i, j)) (s2 _ _ upd_same) upd_same ⟨_, rfl, ?_⟩
        by_cases hl : KM.low i j = (i, j)
        · refine iteFE (by simp [hl]) ?_
          exact ⟨_, rfl, _, rfl, by show 2 ≤ sizeLine; decide, fun t ft => hQ _ (yes hl) t _ ((s1.trans s2).trans (same_new ft)) ((s1.trans s2).free ft) upd_same⟩
        · refine iteTE (by simp [hl]) ?_
          exact hN (no hl) _ (s1.trans s2)
/-- whether a text has many figures in a row: whatever it says -/
def spLg : Sp := fun vs H Q _ => ∃ (v : V) (T : Int × Int → Prop), vs = [v] ∧ Th H v T ∧ ∀ b H', Same H H' → Q (.bl b) H'
theorem ok_lg (F : Dn K d_l_is_long f fd) (bl : Bl mg) (bs : mg "str" = none) (bm : mg "max" = none) : FnOk P w K mg base CX0 1 f fd ["_law_thing"] spLg := by
  refine F.ok sc_l_is_long (fun vs H Q E h => ?_) (fun cdv A outer s H vs Q E hr h => ?_)
  · obtain ⟨v, T, rfl, _⟩ := h
    rfl
  · obtain ⟨v, T, rfl, th, hQ⟩ := h
    refine ⟨_, PSs.nox (pss_cons (ps_asg (pe_tup (pa_cons pe_int (pa_cons pe_int pa_nil))) (pg_tup rfl (pgs_cons (pg_name (i := 1) sc_l_is_long.nd rfl (.inl rfl)) (pgs_cons (pg_name (i := 2) sc_l_is_long.nd rfl (.inl rfl)) pgs_nil))))
      (C8.pss_cut (ps_set (i := 3) sc_l_is_long.nd rfl (.inl rfl) (pe_ifExp (pt_val (pe_callB call_isi rfl bl.isi boot_isinstance (pa_cons (pv 0) (pa_cons (pe_bltn (v := .ty "str") rfl bs boot_str rfl) pa_nil)))) (pv 0) pe_str))
      (pss_cons (ps_for PassesOwn.never rfl (pi_str (pv 3)) (pg_name (i := 4) sc_l_is_long.nd rfl (.inl rfl))
        (pss_cons (ps_set (i := 1) sc_l_is_long.nd rfl (.inl rfl) (pe_ifExp (pt_cmpR op_in_sign (pv 4) pe_str rfl) (pe_op op_add (pv 1) pe_int) pe_int))
        (pss_one (ps_set (i := 2) sc_l_is_long.nd rfl (.inl rfl) (pe_callB (call_max2 rfl) rfl bm boot_max (pa_cons (pv 2) (pa_cons (pv 1) pa_nil)))))))
      (pss_one (ps_ret (pe_cmpR op_gt (pv 2) pe_int (nomark _))))))), ?_⟩
    refine ⟨by show 2 ≤ sizeLine; decide, fun u fu => ⟨u, _, rfl, SqT.of upd_same, rfl, _, _, rfl, _, _, rfl, rfl, ?_⟩⟩
    have s1 := same_new (o := .tup [.int 0, .int 0]) fu
    generalize upd H u (.tup [.int 0, .int 0]) = H1 at s1 ⊢
    refine ⟨fun σ' H' => H' = H1 ∧ ∃ zz, σ' = [some v, some (.int 0), some (.int 0), some (.str zz), none], ?_, ?_⟩
    · cases th with
      | oth ns =>
        obtain ⟨TY, ty, kt⟩ := ns K H1 s1
        exact ⟨_, rfl, _, _, _, _, false, rfl, ClsV.ty _, ty, kt, false, rfl, iteF ⟨rfl, _, rfl⟩⟩
      | txt lz =>
        exact ⟨_, rfl, _, _, _, _, true, rfl, ClsV.ty _, TyX.base (TyOf.str _), kit_ty (by decide +kernel), true, rfl, iteT ⟨_, rfl, rfl, _, rfl⟩⟩
    rintro σ' H' ⟨rfl, zz, rfl⟩
    refine ⟨_, rfl, _, rfl, for_it walk_str (fun i σ H2 => H2 = H' ∧ ∃ (m n : Int) (v4 : Option V), σ = [some v, some (.int m), some (.int n), some (.str zz), v4]) ⟨rfl, _, _, _, rfl⟩ (fun _ _ _ _ _ => trivial) ?_ ?_⟩
    · rintro i x σ H2 H3 hi ⟨rfl, m, n, v4, rfl⟩ ⟨rfl, c', hc', rfl⟩
      refine ⟨_, rfl, c', _, rfl, rfl, _, rfl, ite2 (fun _ => ?_) (fun _ => ?_)⟩
      · exact ⟨_, rfl, _, _, rfl, rfl, _, rfl, _, rfl, _, _, rfl, rfl, _, _, _, rfl⟩
      · exact ⟨_, rfl, _, rfl, _, _, rfl, rfl, _, _, _, rfl⟩
    · rintro σ H2 ⟨rfl, m, n, v4, rfl⟩
      exact ⟨_, rfl, _, _, rfl, rfl, hQ _ _ s1⟩
end
end K04
set_option Elab.async false
set_option linter.all false
set_option maxRecDepth 100000
set_option maxHeartbeats 4000000
/-! two except clauses that keep the exception, by one name -/
namespace EXV
open PySem PySem.Spec PyProof.Rows L2
section
variable {X : Cx} {x y n : Str} {c e : Value} {i : Nat} {body suite suite2 : List Stmt} {b₀ b₁ : Stmt} {np nq pos pos' pos2 : Pos} {tb : WX → TS} {ts ts2 : Addr → Value → Option Addr → TS} {Wout : WX}
theorem ps_try_keep2 (stk : X.stack = X.env :: X.outer) (frm : X.env.frame = some X.env.locals) (nod : X.N.Nodup) (at_ : X.N[i]? = some n) (kln : X.env.kindOf n = some .local) (nm : Names X x c) (nm2 : Names X y e) (out : Takes X Wout)
    (bdy : ∀ (W : WX) (pn : List (Addr × Obj)) (xe : Value → Shared → Prop), Takes (X.tr pn xe) W → PassesOwn (model X.prog X.w) X.A X.env xe → PSs (X.tr pn xe) body (tb W))
    (sui : ∀ (a : Addr) (cls : Value) (d : Option Addr) (pn : List (Addr × Obj)), PSs (X.suite a pn) (b₀ :: suite) (ts a cls d))
    (sui2 : ∀ (a : Addr) (cls : Value) (d : Option Addr) (pn : List (Addr × Obj)), PSs (X.suite a pn) (b₁ :: suite2) (ts2 a cls d)) :
    PS X (.Try body [.ExceptHandler (some (.Name x np)) (some n) (b₀ :: suite) pos', .ExceptHandler (some (.Name y nq)) (some n) (b₁ :: suite2) pos2] [] [] pos) (fun D σ H => tb (wKeep X.K c i ts (wKeep X.K e i ts2 Wout D) D) D σ H) := by
  refine ⟨fun pins s σ H D I h => ?_⟩
  have good := I.ok
  have frs2 : X.A.frames = some (X.env :: X.outer) := by rw [good.frames, stk]
  have isLoc : Loc X.env.scope n := .inl kln
  have start := (bdy (wKeep X.K c i ts (wKeep X.K e i ts2 Wout D) D) (X.pn ++ pins) (fun e s₁ => wpAny (model X.prog X.w) X.A (noteFrame e X.env) (fun _ s₂ => wpAny (model X.prog X.w) X.A (setFlight e none)
      (fun _ s₃ => wpAny (model X.prog X.w) X.A (handleBy e X.env [.ExceptHandler (some (.Name x np)) (some n) (b₀ :: suite) pos', .ExceptHandler (some (.Name y nq)) (some n) (b₁ :: suite2) pos2]) (SP X pins D) X.xe s₃) X.xe s₂) X.xe s₁) (fun u s' xx => ?_) PassesOwn.looking).run [] s σ H D (I.toTry _) h
  · refine wpAny_Try_except (wpAny_mono start (fun f s1 fin => ?_) fun _ _ he => he)
    cases f with
    | next =>
      obtain ⟨σ1, H1, J1, q1⟩ := fin
      exact wpAny_execs_nil ⟨σ1, H1, J1.ofTry good, q1⟩
    | brk =>
      obtain ⟨σ1, H1, J1, q1⟩ := fin
      exact ⟨σ1, H1, J1.ofTry good, q1⟩
    | cont =>
      obtain ⟨σ1, H1, J1, q1⟩ := fin
      exact ⟨σ1, H1, J1.ofTry good, q1⟩
    | ret u =>
      obtain ⟨v1, σ1, H1, J1, r1, q1⟩ := fin
      exact ⟨v1, σ1, H1, J1.ofTry good, r1, q1⟩
  -- what the body lets out
  obtain ⟨a, B, sI, pins', σ', H', cls, d, rfl, J0, nb, up, sky0, na, os, ag, b, tst, yes, no⟩ := xx
  have J : Inv X pins σ' H' sI := J0.ofTry good
  have sky : Sky B (X.env :: X.outer) a (Zc cls d) X.env.locals s'.heap := by rw [← stk]; exact sky0
  show wpAny (model X.prog X.w) X.A (noteFrame (.ref a) X.env) _ _ _
  refine Sky.land Zc.steady frs2 frm sky fun h3 fl3 up3 => ?_
  have J3 : Inv X pins σ' H' { s' with heap := h3 } := J.landed nb fl3.1 (up.trans up3) os ag
  obtain ⟨oe3, vs3, he3, hz3, hd3⟩ := fl3.there
  have notFr : a ∉ frs (X.env :: X.outer) := fun hm => by
    obtain ⟨_, o', e', hnf⟩ := fl3.2.2.1.mem hm
    rw [he3] at e'
    cases e'
    exact hnf _ hd3
  have Ba : B.get? a = none := fl3.2.1
  -- the heap without it
  have cut : ∀ {h4 : Heap}, B.StaysIn h4 → s'.heap.UpToSlots h4 → ∃ G : Heap, (∀ b o, G.get? b = some o → h4.get? b = some o) ∧ G.get? a = none ∧ Inv X pins σ' H' { s' with heap := G } := fun {h4} st4 up4 => by
    obtain ⟨G, g1, g2⟩ := restrict h4 fun b => decide (b ≠ a)
    have ga : G.get? a = none := g2 a (decide_eq_false fun z => z rfl)
    have ge : ∀ b, b ≠ a → G.get? b = h4.get? b := fun b hb => g1 b (decide_eq_true hb)
    have keepB : B.StaysIn G := fun b o e => by
      rw [ge b fun z => by rw [z, Ba] at e; cases e]
      exact st4 b o e
    have upG : sI.heap.UpToSlots G := fun b o e nf => by
      have hb : b ≠ a := fun z => by
        have := nb a o (z ▸ e) (by rw [stk]; exact notFr)
        rw [Ba] at this
        cases this
      rw [ge b hb]
      exact (up.trans up4) b o e nf
    refine ⟨G, fun b o e => ?_, ga, J.landed (s' := { s' with heap := G }) nb keepB upG os ag⟩
    by_cases hb : b = a
    · rw [hb, ga] at e
      cases e
    · rw [← ge b hb]
      exact e
  have S3 := into_suite J3 a
  have typed : PySem.W.Looks (model X.prog X.w) h3 (typeOf (.ref a)) cls := fun A Q E s k q => wpAny_typeOf_ref (k _ _ he3) (by rw [hz3.1]; exact q)
  have named : ∀ {x : Str} {np : Pos} {c : Value} {Q : Value → Shared → Prop} {E : Value → Shared → Prop}, Names X x c → Q c { s' with heap := h3 } → wpAny (model X.prog X.w) (X.A.mark (some (.ref a))) (eval (.Name x np) X.env) Q E { s' with heap := h3 } := fun {x np c Q E} nm q => by
    obtain ⟨hg, hdbg, hm | ⟨hm, hv, hnn⟩⟩ := nm
    · exact ld_glob (X := X.suite a (X.pn ++ pins)) S3 hg hm q hdbg
    · exact ld_blt (X := X.suite a (X.pn ++ pins)) S3 hg hm hv q hnn hdbg
  refine wpAny_handleBy_cons (codeAny_handlers_test ?_) (by intro q; cases q)
  refine named nm ((PySem.W.exm_one (M := model X.prog X.w) (J3.kIn) typed tst).here ?_)
  cases b with
  | true =>
    refine codeAny_handlers_suite_as ?_
    refine HandSPX.lands_againZ fl3 fun h4 fl4 up4 => ?_
    obtain ⟨oe4, vs4, he4, hz4, hd4⟩ := fl4.there
    obtain ⟨G, gk, ga, JG⟩ := cut fl4.1 (up3.trans up4)
    have JK : Inv X pins σ' (upd H' a (Xc cls d a)) { s' with heap := h4 } := JG.laidN (t' := s'.toks) (h' := h4) gk ga na (xc_ok he4 hz4 hd4)
    refine store_ok (X := X.suite a (X.pn ++ pins)) (v := .ref a) (into_suite JK a) nod at_ isLoc rfl (fun s5 S5 => ?_) (.inr kln)
    refine wpAny_mono ((sui a cls d (X.pn ++ pins)).run [] s5 _ _ _ S5 (yes rfl a na)) (fun f s6 fin => ?_) (fun _ _ z => False.elim z)
    have ends : ∀ {σ6 : L2.St} {H6 : Hp} {Q : Shared → Prop}, Inv (X.suite a (X.pn ++ pins)) [] σ6 H6 s6 → (∀ s7, Inv X pins (σ6.set i none) H6 s7 → Q s7) →
        wpAny (model X.prog X.w) X.A (do bindName X.env n .none; unbindBehindTheSuite X.env n pos') (fun _ s7 => Q s7) X.xe s6 := fun {σ6 H6 Q} S6 hq => gone_ok (out_suite S6 good) nod at_ kln hq
    cases f with
    | next =>
      obtain ⟨σ6, H6, S6, q6⟩ := fin
      exact ends S6 fun s7 J7 => ⟨_, _, J7, q6⟩
    | brk =>
      obtain ⟨σ6, H6, S6, q6⟩ := fin
      exact ends S6 fun s7 J7 => ⟨_, _, J7, q6⟩
    | cont =>
      obtain ⟨σ6, H6, S6, q6⟩ := fin
      exact ends S6 fun s7 J7 => ⟨_, _, J7, q6⟩
    | ret u =>
      obtain ⟨v6, σ6, H6, S6, r6, q6⟩ := fin
      exact ends S6 fun s7 J7 => ⟨_, _, _, J7, r6, q6⟩
  | false =>
    show wpAny _ X.A (handleBy (.ref a) X.env [.ExceptHandler (some (.Name y nq)) (some n) (b₁ :: suite2) pos2]) _ _ _
    obtain ⟨b2, tst2, yes2, no2⟩ := no rfl
    refine wpAny_handleBy_cons (codeAny_handlers_test ?_) (by intro q; cases q)
    refine named nm2 ((PySem.W.exm_one (M := model X.prog X.w) (J3.kIn) typed tst2).here ?_)
    cases b2 with
    | true =>
      refine codeAny_handlers_suite_as ?_
      refine HandSPX.lands_againZ fl3 fun h4 fl4 up4 => ?_
      obtain ⟨oe4, vs4, he4, hz4, hd4⟩ := fl4.there
      obtain ⟨G, gk, ga, JG⟩ := cut fl4.1 (up3.trans up4)
      have JK : Inv X pins σ' (upd H' a (Xc cls d a)) { s' with heap := h4 } := JG.laidN (t' := s'.toks) (h' := h4) gk ga na (xc_ok he4 hz4 hd4)
      refine store_ok (X := X.suite a (X.pn ++ pins)) (v := .ref a) (into_suite JK a) nod at_ isLoc rfl (fun s5 S5 => ?_) (.inr kln)
      refine wpAny_mono ((sui2 a cls d (X.pn ++ pins)).run [] s5 _ _ _ S5 (yes2 rfl a na)) (fun f s6 fin => ?_) (fun _ _ z => False.elim z)
      have ends : ∀ {σ6 : L2.St} {H6 : Hp} {Q : Shared → Prop}, Inv (X.suite a (X.pn ++ pins)) [] σ6 H6 s6 → (∀ s7, Inv X pins (σ6.set i none) H6 s7 → Q s7) →
          wpAny (model X.prog X.w) X.A (do bindName X.env n .none; unbindBehindTheSuite X.env n pos2) (fun _ s7 => Q s7) X.xe s6 := fun {σ6 H6 Q} S6 hq => gone_ok (out_suite S6 good) nod at_ kln hq
      cases f with
      | next =>
        obtain ⟨σ6, H6, S6, q6⟩ := fin
        exact ends S6 fun s7 J7 => ⟨_, _, J7, q6⟩
      | brk =>
        obtain ⟨σ6, H6, S6, q6⟩ := fin
        exact ends S6 fun s7 J7 => ⟨_, _, J7, q6⟩
      | cont =>
        obtain ⟨σ6, H6, S6, q6⟩ := fin
        exact ends S6 fun s7 J7 => ⟨_, _, J7, q6⟩
      | ret u =>
        obtain ⟨v6, σ6, H6, S6, r6, q6⟩ := fin
        exact ends S6 fun s7 J7 => ⟨_, _, _, J7, r6, q6⟩
    | false =>
      show wpAny _ X.A (handleBy (.ref a) X.env []) _ _ _
      refine wpAny_handleBy_nil ?_
      obtain ⟨k1, k2, k3, oe, vs, T, oT, ts', he, hz, hd, h1, hr⟩ := id fl3
      unfold PySem.passOn
      refine wpAny_bind (wpAny_field he hd h1 ?_)
      rw [if_neg (show ¬ ((Value.ref T == Value.none) = true) from by simp)]
      have fin : wpAny (model X.prog X.w) X.A (setFlight (.ref a) X.env.frame) (fun _ s4 => wpAny (model X.prog X.w) X.A (throw (.ref a) : Sem Flow) (SP X pins D) X.xe s4) X.xe { s' with heap := h3 } := by
        rw [frm]
        refine HandSPX.setFlight_upZ fl3 fun h4 hh4 up4 => wpAny_throw (out _ _ ?_)
        exact ⟨a, B, sI, pins, σ', H', cls, d, rfl, J, nb, (up.trans up3).trans up4, .inr (.inr (by rw [stk]; exact hh4)), na, os, ag, no2 rfl⟩
      first
        | exact wpAny_bind (wpAny_pure (wpAny_bind fin))
        | exact wpAny_bind fin
end
end EXV
set_option Elab.async false
set_option linter.all false
set_option maxRecDepth 100000
set_option maxHeartbeats 4000000
namespace K04
open PySem PySem.Spec PyProof.Rows L2
open C8 (Cal Mak Met pe_c pe_mk pe_mt pe_mt0)
open SX (S)
open TD
open EXV (Xc)
open EXW (Dct)
theorem dp_bls {K : PySem.W.Frag} {H : Hp} : ∀ bs : List Bool, DpAll K H (bs.map V.bl) (bs.map .bool)
  | [] => .nil
  | b :: bs => .cons (.bl b) (dp_bls bs)
theorem eqv_consB (a b : PyData) (as bs : List PyData) : PyData.eqvAll (a :: as) (b :: bs) = (PyData.eqv a b && PyData.eqvAll as bs) := by simp [PyData.eqvAll]
theorem bls_same : ∀ bs : List Bool, PyData.eqvAll (bs.map .bool) (bs.map .bool) = true
  | [] => by simp [PyData.eqvAll]
  | b :: bs => by
    rw [List.map_cons, eqv_consB, bls_same bs]
    cases b <;> simp [PyData.eqv]
theorem eqv_bls (bs : List Bool) : PyData.eqv (.list (bs.map .bool)) (.list (bs.map .bool)) = true := by
  rw [show ∀ a b : List PyData, PyData.eqv (.list a) (.list b) = PyData.eqvAll a b from fun a b => by rw [PyData.eqv]]
  exact bls_same bs
section
variable {P : Program} {w : World} {K : PySem.W.Frag} {mg : Str → Option Value} {base : Heap} {f C N fN : Addr} {fd : FuncData} {ow : Str → Bool} {ab : String → Bool}
def spTo : Sp := fun vs H Q _ => ∃ (v : V) (T : Int × Int → Prop), vs = [v] ∧ Th H v T ∧ (∀ q, T q → ∀ r H', Same H H' → H r = none → H' r = some (tupP q) → Q (.ref r) H') ∧
  ((∀ q, ¬ T q) → ∀ l t H', Same H H' → H t = none → H' t = some (.lst [.ref l, v, .bl true]) → H' l = some (.lst [.str "share"]) → Q (.ref t) H')
theorem ok_to {fS : Addr} {fdS : FuncData} {pl : List Int} (F : Dn K d_l_told f fd) (TN : Na K mg N fN) (gS : mg "share_of" = some (.ref fS)) (kS : PySem.W.keepIn K (.ref fS) = true) (FS : FnOk P w K mg base (L2.CX P w) 5 fS fdS ["text"] (spSo C N)) (bS : Binds K fdS ["text"] [])
    (cP : Cal P w K mg base 1 "_law_pair" (spPair C) []) (cK : Cal P w K mg base 1 "_law_kinds" (spKi N ow ab) []) (cB : Cal P w K mg base 1 "_law_bases" spBa []) (hf : fnd ow = [("share" : Str)]) (hp : (("share" : Str), pl) ∈ plc) (ha : (ex10.map fun x => ab x) = (List.range 10).map (abv pl)) :
    FnOk P w K mg base CX0 6 f fd ["_law_thing"] spTo := by
  refine F.ok sc_l_told (fun vs H Q E h => ?_) (fun cdv A outer s H vs Q E hr h => ?_)
  · obtain ⟨v, T, rfl, _⟩ := h
    rfl
  · obtain ⟨v, T, rfl, th, hQ, hN⟩ := h
    have hu64 : (A.deeper (envOfC d_l_told.qual d_l_told.scope s.heap.objs.size f cdv)).units + 64 < cLine := by have := hr.un; omega
    refine ⟨_, PSs.nox (pss_cons (ps_set (i := 1) sc_l_told.nd rfl (.inl rfl) pe_non)
      (pss_cons (ps_set (i := 2) sc_l_told.nd rfl (.inl rfl) pe_non)
      (pss_cons (EXV.ps_try_keep (i := 3) (ts := fun a cls d => tAsg (tVar 3) (gName 1)) rfl rfl sc_l_told.nd rfl rfl ⟨rfl, by decide, .inl TN.g⟩ takes0
          (fun W pn xe tk _ => pss_one (ps_set (i := 2) sc_l_told.nd rfl (.inl rfl) (pe_callS (E := fun σ cls d H => W cls d σ H) FS (hr.mono (by decide)) rfl gS kS bS (fun σ => passAt tk σ) (pa_cons (pv 0) pa_nil))))
          (fun a cls d pn => pss_one (ps_set (i := 1) sc_l_told.nd rfl (.inl rfl) (pv 3))))
      (pss_cons (ps_if (pt_cmpR op_isN1 (pv 1) pe_non (nomark _)) (pss_one (ps_ret (pe_c cP hr (by decide) rfl (pa_cons (pv 2) pa_nil)))) pss_nil)
      (pss_cons (ps_asg (pe_c cK hr (by decide) rfl (pa_cons (pv 1) pa_nil)) (pg_tup rfl (pgs_cons (pg_name (i := 4) sc_l_told.nd rfl (.inl rfl)) (pgs_cons (pg_name (i := 5) sc_l_told.nd rfl (.inl rfl)) pgs_nil))))
      (pss_one (ps_ret (pe_lst (pa_cons (pv 4) (pa_cons (EXW.pe_xk (pv 1)) (pa_cons (pe_cmpR (op_eqD hu64) (pv 5) (pe_c cB hr (by decide) rfl (pa_cons pe_str pa_nil)) (nomark _)) pa_nil))))))))))), ?_⟩
    refine ⟨_, rfl, v, T, rfl, th, fun q hq p H1 s1 np hp1 => ?_, fun no d H1 s1 fd1 hd1 => ?_⟩
    · refine ⟨_, rfl, rfl, _, rfl, iteT ?_⟩
      exact ⟨_, rfl, p, q, rfl, hp1, fun r H2 s2 fr hr2 => hQ q hq r H2 (s1.trans s2) (s1.free fr) hr2⟩
    · refine ⟨true, TN.te, fun _ a ha1 => ?_, fun z => nomatch z⟩
      refine ⟨_, rfl, ?_⟩
      have sx := same_new (o := Xc (.ref N) (some d) a) ha1
      have hx : (upd H1 a (Xc (.ref N) (some d) a)) a = some (Xc (.ref N) (some d) a) := upd_same
      have hd2 := sx _ _ hd1
      have s2 := s1.trans sx
      generalize upd H1 a (Xc (.ref N) (some d) a) = H2 at s2 hx hd2 ⊢
      refine ⟨_, rfl, rfl, _, rfl, iteF ?_⟩
      refine ⟨_, rfl, a, some d, rfl, hx, .inr ⟨d, _, rfl, hd2⟩, fun t l m H3 s3 ft ht hl hm => ?_⟩
      rw [hf] at hl
      refine ⟨t, _, rfl, SqT.of ht, rfl, _, _, rfl, _, _, rfl, rfl, ?_⟩
      refine ⟨_, rfl, _, rfl, a, N, d, _, v, rfl, s3 _ _ hx, s3 _ _ hd2, TN.xf, TN.no, rfl, ?_⟩
      refine ⟨_, rfl, "share", pl, rfl, hp, fun q H4 s4 fq hq => ?_⟩
      have e1 : (ex10.map fun x => V.bl (ab x)) = ((List.range 10).map (abv pl)).map V.bl := by
        rw [← ha, List.map_map]
        rfl
      have e2 : ((List.range 10).map fun i => V.bl (abv pl i)) = ((List.range 10).map (abv pl)).map V.bl := by
        rw [List.map_map]
        rfl
      rw [e1] at hm
      rw [e2] at hq
      have shp : SeqAt.shaped (.list (((List.range 10).map (abv pl)).map .bool)) = true := by rfl
      refine ⟨.list (((List.range 10).map (abv pl)).map .bool), .list (((List.range 10).map (abv pl)).map .bool), Dp.lst (SqL.of (s4 _ _ hm)) (dp_bls _), Dp.lst (SqL.of hq) (dp_bls _), shp, shp, ?_⟩
      rw [eqv_bls]
      refine ⟨by show 3 ≤ sizeLine; decide, fun u fu => ?_⟩
      have su := same_new (o := .lst [.ref l, v, .bl true]) fu
      have sa := (s2.trans s3).trans s4
      exact hN no l u _ (sa.trans su) (sa.free fu) upd_same (su _ _ (s4 _ _ hl))
end
end K04
set_option Elab.async false
set_option linter.all false
set_option maxRecDepth 100000
set_option maxHeartbeats 4000000
namespace K04
open PySem PySem.Spec PyProof.Rows L2
open C8 (Cal Mak Met pe_c pe_mk pe_mt pe_mt0)
open SX (S)
open TD
theorem cut_d2 {l : List Nat} {x : Int} {j : Nat} (e : x = (j : Int)) : cutS (S l) (some x) none = S (l.drop j) := by
  rw [e]
  unfold cutS
  rw [HT.sIx_nat, HT.sIx_none, SX.S_len]
  by_cases h : j ≤ l.length
  · rw [Nat.min_eq_left h]
    have : (l.drop j).take (l.length - j) = l.drop j := List.take_of_length_le (by rw [List.length_drop]; exact Nat.le_refl _)
    simp [S, this]
  · rw [Nat.min_eq_right (by omega), List.drop_eq_nil_of_le (by omega : l.length ≤ j)]
    simp [S]
/-- a text of bounded length, with few strokes, all signs small -/
structure Tz (n m : Nat) (z : List Nat) : Prop where
  len : z.length ≤ n
  cnt : z.count 47 ≤ m
  sm : ∀ c ∈ z, c < 128
theorem Tz.app {n m n' m' : Nat} {a b : List Nat} (x : Tz n m a) (y : Tz n' m' b) : Tz (n + n') (m + m') (a ++ b) := ⟨by rw [List.length_append]; have := x.len; have := y.len; omega, by rw [List.count_append]; have := x.cnt; have := y.cnt; omega, fun c hc => (List.mem_append.mp hc).elim (x.sm c) (y.sm c)⟩
theorem Tz.mono {n m n' m' : Nat} {a : List Nat} (x : Tz n m a) (h1 : n ≤ n') (h2 : m ≤ m') : Tz n' m' a := ⟨Nat.le_trans x.len h1, Nat.le_trans x.cnt h2, x.sm⟩
theorem rep_all : ∀ l : List Nat, StrLaws.replL [47] [32, 47, 32] l = l.flatMap fun c => if c = 47 then [32, 47, 32] else [c]
  | [] => StrLaws.replL_nil
  | c :: l => by
    by_cases h : c = 47
    · subst h
      rw [StrLaws.replL_hit (by simp) (by simp)]
      show [32, 47, 32] ++ StrLaws.replL [47] [32, 47, 32] l = _
      rw [rep_all l, List.flatMap_cons, if_pos rfl]
    · rw [StrLaws.replL_miss (by simpa using h), rep_all l, List.flatMap_cons, if_neg h]
      rfl
theorem rep_len : ∀ l : List Nat, (l.flatMap fun c => if c = 47 then [32, 47, 32] else [c]).length = l.length + 2 * l.count 47 ∧ (l.flatMap fun c => if c = 47 then [32, 47, 32] else [c]).count 47 = l.count 47
  | [] => ⟨rfl, rfl⟩
  | c :: l => by
    obtain ⟨i1, i2⟩ := rep_len l
    by_cases h : c = 47
    · subst h
      rw [List.flatMap_cons, if_pos rfl]
      refine ⟨?_, ?_⟩
      · rw [List.length_append, i1, List.count_cons_self]
        show 3 + (l.length + 2 * List.count 47 l) = (l.length + 1) + 2 * (List.count 47 l + 1)
        omega
      · rw [List.count_append, i2, List.count_cons_self]
        show 1 + _ = _
        omega
    · rw [List.flatMap_cons, if_neg h]
      refine ⟨?_, ?_⟩
      · rw [List.length_append, i1, List.count_cons_of_ne (by simpa using h)]
        show 1 + (l.length + 2 * List.count 47 l) = (l.length + 1) + 2 * List.count 47 l
        omega
      · have h1 : List.count 47 [c] = 0 := List.count_eq_zero_of_not_mem (by simpa using fun z => h z.symm)
        have h2 : List.count 47 (c :: l) = List.count 47 l := List.count_cons_of_ne (by simpa using h)
        rw [List.count_append, i2, h1, h2]
        omega
theorem rep_S (l : List Nat) : Txt.replace (S l) (Str.ofString "/") (Str.ofString " / ") = S (l.flatMap fun c => if c = 47 then [32, 47, 32] else [c]) := by
  have e1 : (Str.ofString "/") = S [47] := by decide +kernel
  have e2 : (Str.ofString " / ") = S [32, 47, 32] := by decide +kernel
  refine TL.ext_tl ?_
  show (Txt.replace (S l) (Str.ofString "/") (Str.ofString " / ")).cps.toList = _
  rw [e1, e2, StrLaws.replace_list (by decide), ← rep_all]
theorem Tz.rep {n m : Nat} {z : List Nat} (x : Tz n m z) : Tz (n + 2 * m) m (z.flatMap fun c => if c = 47 then [32, 47, 32] else [c]) := by
  obtain ⟨i1, i2⟩ := rep_len z
  refine ⟨by rw [i1]; have := x.len; have := x.cnt; omega, by rw [i2]; exact x.cnt, fun c hc => ?_⟩
  obtain ⟨d, hd, h⟩ := List.mem_flatMap.mp hc
  split at h
  · simp at h
    omega
  · rw [List.mem_singleton.mp h]
    exact x.sm d hd
theorem Tz.sub {n m : Nat} {a b : List Nat} (x : Tz n m b) (h : a.Sublist b) : Tz n m a := ⟨Nat.le_trans h.length_le x.len, Nat.le_trans (h.count_le 47) x.cnt, fun c hc => x.sm c (h.subset hc)⟩
theorem Tz.take {n m : Nat} {z : List Nat} (x : Tz n m z) (j : Nat) : Tz n m (z.take j) := x.sub (List.take_sublist j z)
theorem Tz.drop {n m : Nat} {z : List Nat} (x : Tz n m z) (j : Nat) : Tz n m (z.drop j) := x.sub (List.drop_sublist j z)
/-- the part before and the part behind -/
theorem Tz.two {n m : Nat} {z : List Nat} (x : Tz n m z) (j : Nat) {s : List Nat} (y : Tz 1 1 s) : Tz (n + 1) (m + 1) (z.take j ++ s ++ z.drop j) := by
  have e : z.take j ++ z.drop j = z := List.take_append_drop j z
  have l := congrArg List.length e
  have c := congrArg (List.count 47) e
  rw [List.length_append] at l
  rw [List.count_append] at c
  refine ⟨?_, ?_, fun d hd => ?_⟩
  · rw [List.length_append, List.length_append]
    have := x.len
    have := y.len
    omega
  · rw [List.count_append, List.count_append]
    have := x.cnt
    have := y.cnt
    omega
  · simp only [List.mem_append] at hd
    rcases hd with (hd | hd) | hd
    · exact x.sm d (List.mem_of_mem_take hd)
    · exact y.sm d hd
    · exact x.sm d (List.mem_of_mem_drop hd)
def TAll (n m : Nat) (xs : List V) : Prop := ∀ v ∈ xs, ∃ z, v = .str (S z) ∧ Tz n m z
theorem TAll.nil {n m : Nat} : TAll n m [] := fun v h => nomatch h
theorem TAll.cons {n m : Nat} {z : List Nat} {x : Str} {xs : List V} (e : x = S z) (t : Tz n m z) (h : TAll n m xs) : TAll n m (.str x :: xs) := fun v hv => by
  rcases List.mem_cons.mp hv with rfl | hv
  · exact ⟨z, by rw [e], t⟩
  · exact h v hv
theorem TAll.app {n m : Nat} {xs ys : List V} (h : TAll n m xs) (k : TAll n m ys) : TAll n m (xs ++ ys) := fun v hv => (List.mem_append.mp hv).elim (h v) (k v)
theorem pst_set {X : Cx} {i : Nat} {x : Str} {e : Expr} {te : TE} {pos pos' : Pos} (hN : X.N.Nodup) (hi : X.N[i]? = some x) (hx : Loc X.env.scope x) (he : PET X e te) (hs : swapsWith e (some (.Name x pos')) pos.line X.env = pure false := by rfl) (hf : X.fn x = true ∨ X.env.scope.names.lookup x = some .local := by first | exact .inl rfl | exact .inr rfl | assumption) :
    PST X (.Assign [.Name x pos'] e pos) (tAsg te (gName i)) := by
  intro pins s σ H D h0 I h
  refine wpAny_Assign_Name (thn (he pins s σ H _ h0 I h) fun v s1 ⟨y, H1, I1, r1, q1⟩ => ?_) hs
  exact store_ok I1 hN hi hx r1 (fun s2 I2 => ⟨_, H1, I2, q1⟩) hf
section
variable {P : Program} {w : World} {K : PySem.W.Frag} {mg : Str → Option Value} {base : Heap} {f : Addr} {fd : FuncData}
def spBe : Sp := fun vs H Q _ => ∃ (h : Addr) (c n m : Nat) (z : List Nat), vs = [.ref h, .str (S z)] ∧ Held H h (c + 3) ∧ Tz n m z ∧ n + 2 * m ≤ 90 ∧ ∀ z' H', Tz (n + 3 + 2 * m) (m + 1) z' → Held H' h c → Kp h H H' → Q (.str (S z')) H'
theorem ok_be (F : Dn K d_l_bent f fd) (bl : Bl mg) (cD : CalD P w K mg base) : FnOk P w K mg base CX0 2 f fd ["_law_held_here", "_law_text"] spBe := by
  refine F.ok sc_l_bent (fun vs H Q E h => ?_) (fun cdv A outer s H vs Q E hr h => ?_)
  · obtain ⟨h, c, n, m, z, rfl, _⟩ := h
    rfl
  · obtain ⟨h, c, n, m, z, rfl, held, tz, nm, hQ⟩ := h
    refine ⟨_, PSs.nox (pss_str (i := 2) sc_l_bent.nd rfl (.inl rfl)
      (psst_cons (PST.of (ps_par (i := 3) (j := 4) rfl sc_l_bent.nd rfl rfl (by decide) rfl rfl (pa_cons (pe_c cD hr (by decide) rfl (pa_cons (pv 0) (pa_cons (pe_op op_add (pe_callB call_len_str rfl bl.len boot_len (pa_cons (pv 1) pa_nil)) pe_int) pa_nil)))
          (pa_cons (pe_ix ix_str (pv 2) (pe_c cD hr (by decide) rfl (pa_cons (pv 0) (pa_cons (pe_callB call_len_str rfl bl.len boot_len (pa_cons (pv 2) pa_nil)) pa_nil))) (fun _ _ => rfl)) pa_nil)) rfl))
      (psst_cons (PST.of (ps_set (i := 5) sc_l_bent.nd rfl (.inl rfl) (pe_lst (pa_cons (pe_op op_add_str (pe_op op_add_str (pe_slice sl_str (pv 1) po_none (po_some (pv 3))) (pv 4)) (pe_slice sl_str (pv 1) (po_some (pv 3)) po_none))
          (pa_cons (pe_op op_add_str (pe_slice sl_str (pv 1) po_none (po_some (pv 3))) (pe_slice sl_str (pv 1) (po_some (pe_op op_add (pv 3) pe_int)) po_none))
          (pa_cons (pe_op op_add_str (pe_op op_add_str (pe_slice sl_str (pv 1) po_none (po_some (pv 3))) (pv 4)) (pe_slice sl_str (pv 1) (po_some (pe_op op_add (pv 3) pe_int)) po_none)) pa_nil))))))
      (psst_cons (PST.of (ps_set (i := 5) sc_l_bent.nd rfl (.inl rfl) (pe_op op_cat (pv 5) (pe_lst (pa_cons (pe_op op_add_str pe_str (pv 1)) (pa_cons (pe_op op_add_str pe_str (pv 1)) (pa_cons (pe_op op_add_str pe_str (pv 1)) (pa_cons (pe_op op_add_str (pv 1) pe_str)
          (pa_cons (pe_op op_add_str (pv 1) pe_str) (pa_cons (pe_op op_add_str (pv 1) pe_str) (pa_cons (pe_op op_add_str (pv 1) pe_str) (pa_cons (pe_op op_add_str (pv 1) pe_str) pa_nil))))))))))))
      (psst_cons (pst_set (i := 5) sc_l_bent.nd rfl (.inl rfl) (CwR.pet_op op_cat (CwR.PET.of (pv 5)) (pet_lst (pat_cons (CwR.PET.of (pe_op op_add_str pe_str (pv 1))) (pat_cons (CwR.PET.of (pe_op op_add_str (pv 1) pe_str)) (pat_cons (CwR.PET.of (pe_op op_add_str pe_str (pv 1)))
          (pat_cons (CwR.pet_replC (pv 1)) (pat_cons (CwR.PET.of (pe_op op_add_str (pv 1) pe_str)) pat_nil))))))))
      (psst_cons (PST.of (ps_set (i := 5) sc_l_bent.nd rfl (.inl rfl) (pe_op op_cat (pv 5) (pe_lst (pa_cons pe_str (pa_cons pe_str (pa_cons pe_str (pa_cons pe_str (pa_cons pe_str pa_nil)))))))))
      (CwR.psst_one (PST.of (ps_ret (pe_ix ix_list (pv 5) (pe_c cD hr (by decide) rfl (pa_cons (pv 0) (pa_cons (pe_callB call_len_seq rfl bl.len boot_len (pa_cons (pv 5) pa_nil)) pa_nil))) (fun _ _ => rfl))))))))))), ?_⟩
    have lz : z.length ≤ 90 := by have := tz.len; omega
    have ln : z.length ≤ n := tz.len
    have sl : ∀ {l : List Nat}, l.length ≤ 100 → (S l).length ≤ sizeLine := fun {l} h => by
      rw [SX.S_len]
      exact big (by omega)
    have s2 : ∀ {a b : List Nat}, a.length + b.length ≤ 300 → (S a).length + (S b).length ≤ sizeLine := fun {a b} h => by
      rw [SX.S_len, SX.S_len]
      exact big (by omega)
    have sk : ∀ {x : Str}, x.length ≤ 5 → x.length + (S z).length ≤ sizeLine := fun {x} h => by
      rw [show (S z).length = z.length from SX.S_len z]
      exact big (by omega)
    have sk' : ∀ {x : Str}, x.length ≤ 5 → (S z).length + x.length ≤ sizeLine := fun {x} h => by
      rw [show (S z).length = z.length from SX.S_len z]
      exact big (by omega)
    refine ⟨_, rfl, _, rfl, _, rfl, sl (by omega), _, _, rfl, rfl, h, c + 2, _, rfl, held, ?_, ?_, fun r H1 a1 b1 held1 k1 => ?_⟩
    · rw [SX.S_len]
      omega
    · rw [SX.S_len]
      omega
    rw [SX.S_len] at b1
    obtain ⟨j, rfl⟩ := Int.eq_ofNat_of_zero_le a1
    have hj : j ≤ z.length := by omega
    refine ⟨_, rfl, _, rfl, _, rfl, _, rfl, by decide +kernel, h, c + 1, _, rfl, held1, by decide +kernel, by decide +kernel, fun r H2 a2 b2 held2 k2 => ?_⟩
    obtain ⟨g, hg, hc⟩ : ∃ g, atI (Str.ofString " !\"#$&'()*+,-./0123456789:;<=>?@ABCXYZ[\\]^_`abcdefghijklmnopqrstuvwxyz{|}~\n").cps.toList r = some g ∧ g < 128 := by
      obtain ⟨i, rfl⟩ := Int.eq_ofNat_of_zero_le a2
      have hi : i < (Str.ofString " !\"#$&'()*+,-./0123456789:;<=>?@ABCXYZ[\\]^_`abcdefghijklmnopqrstuvwxyz{|}~\n").cps.toList.length := by
        have e : (Str.ofString " !\"#$&'()*+,-./0123456789:;<=>?@ABCXYZ[\\]^_`abcdefghijklmnopqrstuvwxyz{|}~\n").length = (Str.ofString " !\"#$&'()*+,-./0123456789:;<=>?@ABCXYZ[\\]^_`abcdefghijklmnopqrstuvwxyz{|}~\n").cps.toList.length := by simp [Str.length]
        rw [← e]
        omega
      refine ⟨_, atI_nat (List.getElem?_eq_getElem hi), ?_⟩
      have al : (Str.ofString " !\"#$&'()*+,-./0123456789:;<=>?@ABCXYZ[\\]^_`abcdefghijklmnopqrstuvwxyz{|}~\n").cps.toList.all (fun x => decide (x < 128)) = true := by decide +kernel
      exact of_decide_eq_true (List.all_eq_true.mp al _ (List.getElem_mem hi))
    refine ⟨_, _, g, rfl, rfl, by decide +kernel, hg, _, _, rfl, ?_⟩
    have kp := k1.trans k2
    clear k1 k2 held1 held hg a2 b2 a1 b1
    have tg : Tz 1 1 [g] := ⟨Nat.le_refl _, by
      have := List.count_le_length (a := 47) (l := [g])
      exact this, fun x hx => by rw [List.mem_singleton.mp hx]; exact hc⟩
    have eg : (⟨#[g]⟩ : Str) = S [g] := rfl
    have tl := List.length_take_le j z
    have t1 := (tz.take j).len
    have t2 := (tz.drop j).len
    have t3 := (tz.drop (j + 1)).len
    have n90 : n ≤ 90 := by omega
    -- the three
    refine ⟨_, rfl, _, rfl, _, rfl, _, rfl, sl (by omega), ?_⟩
    rw [cut_t (l := z) (j := j) rfl hj]
    refine ⟨_, rfl, _, _, rfl, rfl, s2 (b := [g]) (by simp only [List.length_singleton]; omega), ?_⟩
    rw [eg, SX.S_cat]
    refine ⟨_, rfl, _, rfl, _, rfl, _, rfl, sl (by omega), ?_⟩
    rw [cut_d2 (l := z) (j := j) rfl]
    refine ⟨_, _, rfl, rfl, s2 (by simp only [List.length_append, List.length_singleton]; omega), ?_⟩
    rw [SX.S_cat]
    refine ⟨_, rfl, _, rfl, _, rfl, _, rfl, sl (by omega), ?_⟩
    rw [cut_t (l := z) (j := j) rfl hj]
    refine ⟨_, rfl, _, rfl, _, _, rfl, rfl, _, rfl, _, rfl, sl (by omega), ?_⟩
    rw [cut_d2 (l := z) (j := j + 1) (by omega)]
    refine ⟨_, _, rfl, rfl, s2 (by omega), ?_⟩
    rw [SX.S_cat]
    refine ⟨_, rfl, _, rfl, _, rfl, _, rfl, sl (by omega), ?_⟩
    rw [cut_t (l := z) (j := j) rfl hj]
    refine ⟨_, rfl, _, _, rfl, rfl, s2 (b := [g]) (by simp only [List.length_singleton]; omega), ?_⟩
    rw [SX.S_cat]
    refine ⟨_, rfl, _, rfl, _, _, rfl, rfl, _, rfl, _, rfl, sl (by omega), ?_⟩
    rw [cut_d2 (l := z) (j := j + 1) (by omega)]
    refine ⟨_, _, rfl, rfl, s2 (by simp only [List.length_append, List.length_singleton]; omega), ?_⟩
    rw [SX.S_cat]
    have w1 : TAll (n + 3 + 2 * m) (m + 1) [.str (S (z.take j ++ [g] ++ z.drop j)), .str (S (z.take j ++ z.drop (j + 1))), .str (S (z.take j ++ [g] ++ z.drop (j + 1)))] := by
      have q1 : Tz (n + 1) (m + 1) (z.take j ++ [g] ++ z.drop j) := tz.two j tg
      have q3 : Tz (n + 1) (m + 1) (z.take j ++ [g] ++ z.drop (j + 1)) := q1.sub (List.Sublist.append_left (by
        have := List.drop_sublist 1 (z.drop j)
        rw [List.drop_drop] at this
        exact this) _)
      have q2 : Tz (n + 1) (m + 1) (z.take j ++ z.drop (j + 1)) := q3.sub (by
        rw [List.append_assoc]
        exact List.Sublist.append_left (List.sublist_append_right _ _) _)
      exact .cons rfl (q1.mono (by omega) (by omega)) (.cons rfl (q2.mono (by omega) (by omega)) (.cons rfl (q3.mono (by omega) (by omega)) .nil))
    refine ⟨by show 3 ≤ sizeLine; decide, fun u1 f1 => ?_⟩
    have s1 := same_new (o := .lst [.str (S (z.take j ++ [g] ++ z.drop j)), .str (S (z.take j ++ z.drop (j + 1))), .str (S (z.take j ++ [g] ++ z.drop (j + 1)))]) f1
    have e1 : (upd H2 u1 (.lst [.str (S (z.take j ++ [g] ++ z.drop j)), .str (S (z.take j ++ z.drop (j + 1))), .str (S (z.take j ++ [g] ++ z.drop (j + 1)))])) u1 = some (.lst [.str (S (z.take j ++ [g] ++ z.drop j)), .str (S (z.take j ++ z.drop (j + 1))), .str (S (z.take j ++ [g] ++ z.drop (j + 1)))]) := upd_same
    have h1 := held2.same s1
    have kp := kp.trans (Kp.same s1)
    generalize upd H2 u1 (.lst [.str (S (z.take j ++ [g] ++ z.drop j)), .str (S (z.take j ++ z.drop (j + 1))), .str (S (z.take j ++ [g] ++ z.drop (j + 1)))]) = G1 at s1 e1 h1 kp ⊢
    have n1 : ([.str (S (z.take j ++ [g] ++ z.drop j)), .str (S (z.take j ++ z.drop (j + 1))), .str (S (z.take j ++ [g] ++ z.drop (j + 1)))] : List V).length = 3 := rfl
    generalize ([.str (S (z.take j ++ [g] ++ z.drop j)), .str (S (z.take j ++ z.drop (j + 1))), .str (S (z.take j ++ [g] ++ z.drop (j + 1)))] : List V) = x1 at e1 w1 n1
    clear s1 held2
    refine ⟨_, rfl, ?_⟩
    refine ⟨_, rfl, _, _, rfl, rfl, sk (by decide +kernel), ?_⟩
    refine ⟨_, rfl, _, _, rfl, rfl, sk (by decide +kernel), ?_⟩
    refine ⟨_, rfl, _, _, rfl, rfl, sk (by decide +kernel), ?_⟩
    refine ⟨_, rfl, _, _, rfl, rfl, sk' (by decide +kernel), ?_⟩
    refine ⟨_, rfl, _, _, rfl, rfl, sk' (by decide +kernel), ?_⟩
    refine ⟨_, rfl, _, _, rfl, rfl, sk' (by decide +kernel), ?_⟩
    refine ⟨_, rfl, _, _, rfl, rfl, sk' (by decide +kernel), ?_⟩
    refine ⟨_, rfl, _, _, rfl, rfl, sk' (by decide +kernel), ?_⟩
    have v2 : TAll (n + 3 + 2 * m) (m + 1) [.str (Str.ofString "+" ++ S z), .str (Str.ofString "0" ++ S z), .str (Str.ofString " " ++ S z), .str (S z ++ Str.ofString " "), .str (S z ++ Str.ofString "/"), .str (S z ++ Str.ofString "/1"), .str (S z ++ Str.ofString "/0"), .str (S z ++ Str.ofString "\n")] := (.cons (z := [43] ++ z) (by rw [show Str.ofString "+" = S [43] by decide +kernel, SX.S_cat]) (((Tz.mono ⟨by decide, by decide, by decide⟩ (Nat.le_refl 3) (Nat.le_refl 1) : Tz 3 1 [43]).app tz).mono (by omega) (by omega)) (.cons (z := [48] ++ z) (by rw [show Str.ofString "0" = S [48] by decide +kernel, SX.S_cat]) (((Tz.mono ⟨by decide, by decide, by decide⟩ (Nat.le_refl 3) (Nat.le_refl 1) : Tz 3 1 [48]).app tz).mono (by omega) (by omega)) (.cons (z := [32] ++ z) (by rw [show Str.ofString " " = S [32] by decide +kernel, SX.S_cat]) (((Tz.mono ⟨by decide, by decide, by decide⟩ (Nat.le_refl 3) (Nat.le_refl 1) : Tz 3 1 [32]).app tz).mono (by omega) (by omega)) (.cons (z := z ++ [32]) (by rw [show Str.ofString " " = S [32] by decide +kernel, SX.S_cat]) ((tz.app (Tz.mono ⟨by decide, by decide, by decide⟩ (Nat.le_refl 3) (Nat.le_refl 1) : Tz 3 1 [32])).mono (by omega) (by omega)) (.cons (z := z ++ [47]) (by rw [show Str.ofString "/" = S [47] by decide +kernel, SX.S_cat]) ((tz.app (Tz.mono ⟨by decide, by decide, by decide⟩ (Nat.le_refl 3) (Nat.le_refl 1) : Tz 3 1 [47])).mono (by omega) (by omega)) (.cons (z := z ++ [47, 49]) (by rw [show Str.ofString "/1" = S [47, 49] by decide +kernel, SX.S_cat]) ((tz.app (Tz.mono ⟨by decide, by decide, by decide⟩ (Nat.le_refl 3) (Nat.le_refl 1) : Tz 3 1 [47, 49])).mono (by omega) (by omega)) (.cons (z := z ++ [47, 48]) (by rw [show Str.ofString "/0" = S [47, 48] by decide +kernel, SX.S_cat]) ((tz.app (Tz.mono ⟨by decide, by decide, by decide⟩ (Nat.le_refl 3) (Nat.le_refl 1) : Tz 3 1 [47, 48])).mono (by omega) (by omega)) (.cons (z := z ++ [10]) (by rw [show Str.ofString "\n" = S [10] by decide +kernel, SX.S_cat]) ((tz.app (Tz.mono ⟨by decide, by decide, by decide⟩ (Nat.le_refl 3) (Nat.le_refl 1) : Tz 3 1 [10])).mono (by omega) (by omega)) .nil))))))))
    refine ⟨by show 8 ≤ sizeLine; decide, fun u2 f2 => ?_⟩
    have s2 := same_new (o := .lst [.str (Str.ofString "+" ++ S z), .str (Str.ofString "0" ++ S z), .str (Str.ofString " " ++ S z), .str (S z ++ Str.ofString " "), .str (S z ++ Str.ofString "/"), .str (S z ++ Str.ofString "/1"), .str (S z ++ Str.ofString "/0"), .str (S z ++ Str.ofString "\n")]) f2
    have g2 : (upd G1 u2 (.lst [.str (Str.ofString "+" ++ S z), .str (Str.ofString "0" ++ S z), .str (Str.ofString " " ++ S z), .str (S z ++ Str.ofString " "), .str (S z ++ Str.ofString "/"), .str (S z ++ Str.ofString "/1"), .str (S z ++ Str.ofString "/0"), .str (S z ++ Str.ofString "\n")])) u2 = some (.lst [.str (Str.ofString "+" ++ S z), .str (Str.ofString "0" ++ S z), .str (Str.ofString " " ++ S z), .str (S z ++ Str.ofString " "), .str (S z ++ Str.ofString "/"), .str (S z ++ Str.ofString "/1"), .str (S z ++ Str.ofString "/0"), .str (S z ++ Str.ofString "\n")]) := upd_same
    have b2 := s2 _ _ e1
    have h2 := h1.same s2
    have kp := kp.trans (Kp.same s2)
    generalize upd G1 u2 (.lst [.str (Str.ofString "+" ++ S z), .str (Str.ofString "0" ++ S z), .str (Str.ofString " " ++ S z), .str (S z ++ Str.ofString " "), .str (S z ++ Str.ofString "/"), .str (S z ++ Str.ofString "/1"), .str (S z ++ Str.ofString "/0"), .str (S z ++ Str.ofString "\n")]) = J2 at s2 g2 b2 h2 kp ⊢
    have m2 : ([.str (Str.ofString "+" ++ S z), .str (Str.ofString "0" ++ S z), .str (Str.ofString " " ++ S z), .str (S z ++ Str.ofString " "), .str (S z ++ Str.ofString "/"), .str (S z ++ Str.ofString "/1"), .str (S z ++ Str.ofString "/0"), .str (S z ++ Str.ofString "\n")] : List V).length = 8 := rfl
    generalize ([.str (Str.ofString "+" ++ S z), .str (Str.ofString "0" ++ S z), .str (Str.ofString " " ++ S z), .str (S z ++ Str.ofString " "), .str (S z ++ Str.ofString "/"), .str (S z ++ Str.ofString "/1"), .str (S z ++ Str.ofString "/0"), .str (S z ++ Str.ofString "\n")] : List V) = y2 at g2 v2 m2
    refine ⟨u1, u2, _, _, rfl, rfl, b2, g2, by rw [n1, m2]; decide, fun p2 fp2 => ?_⟩
    have r2 := same_new (o := .lst (x1 ++ y2)) fp2
    have e2 : (upd J2 p2 (.lst (x1 ++ y2))) p2 = some (.lst (x1 ++ y2)) := upd_same
    have h2 := h2.same r2
    have kp := kp.trans (Kp.same r2)
    have w2 := w1.app v2
    have n2 : (x1 ++ y2).length = 11 := by rw [List.length_append, n1, m2]
    generalize upd J2 p2 (.lst (x1 ++ y2)) = G2 at r2 e2 h2 kp ⊢
    generalize x1 ++ y2 = x2 at e2 w2 n2
    refine ⟨_, rfl, ?_⟩
    refine ⟨_, rfl, _, _, rfl, rfl, sk (by decide +kernel), ?_⟩
    refine ⟨_, rfl, _, _, rfl, rfl, sk' (by decide +kernel), ?_⟩
    refine ⟨_, rfl, _, _, rfl, rfl, sk (by decide +kernel), ?_⟩
    refine ⟨_, rfl, _, rfl, ?_, ?_⟩
    · rw [show (S z).length = z.length from SX.S_len z, show (Str.ofString " / ").length = 3 by decide +kernel]
      omega
    refine ⟨_, rfl, _, _, rfl, rfl, sk' (by decide +kernel), ?_⟩
    have v3 : TAll (n + 3 + 2 * m) (m + 1) [.str (Str.ofString "-" ++ S z), .str (S z ++ Str.ofString "/-2"), .str (Str.ofString "/" ++ S z), .str (Txt.replace (S z) (Str.ofString "/") (Str.ofString " / ")), .str (S z ++ Str.ofString "0")] := (.cons (z := [45] ++ z) (by rw [show Str.ofString "-" = S [45] by decide +kernel, SX.S_cat]) (((Tz.mono ⟨by decide, by decide, by decide⟩ (Nat.le_refl 3) (Nat.le_refl 1) : Tz 3 1 [45]).app tz).mono (by omega) (by omega)) (.cons (z := z ++ [47, 45, 50]) (by rw [show Str.ofString "/-2" = S [47, 45, 50] by decide +kernel, SX.S_cat]) ((tz.app (Tz.mono ⟨by decide, by decide, by decide⟩ (Nat.le_refl 3) (Nat.le_refl 1) : Tz 3 1 [47, 45, 50])).mono (by omega) (by omega)) (.cons (z := [47] ++ z) (by rw [show Str.ofString "/" = S [47] by decide +kernel, SX.S_cat]) (((Tz.mono ⟨by decide, by decide, by decide⟩ (Nat.le_refl 3) (Nat.le_refl 1) : Tz 3 1 [47]).app tz).mono (by omega) (by omega)) (.cons (rep_S z) (tz.rep.mono (by omega) (by omega)) (.cons (z := z ++ [48]) (by rw [show Str.ofString "0" = S [48] by decide +kernel, SX.S_cat]) ((tz.app (Tz.mono ⟨by decide, by decide, by decide⟩ (Nat.le_refl 3) (Nat.le_refl 1) : Tz 3 1 [48])).mono (by omega) (by omega)) .nil)))))
    refine ⟨by show 5 ≤ sizeLine; decide, fun u3 f3 => ?_⟩
    have s3 := same_new (o := .lst [.str (Str.ofString "-" ++ S z), .str (S z ++ Str.ofString "/-2"), .str (Str.ofString "/" ++ S z), .str (Txt.replace (S z) (Str.ofString "/") (Str.ofString " / ")), .str (S z ++ Str.ofString "0")]) f3
    have g3 : (upd G2 u3 (.lst [.str (Str.ofString "-" ++ S z), .str (S z ++ Str.ofString "/-2"), .str (Str.ofString "/" ++ S z), .str (Txt.replace (S z) (Str.ofString "/") (Str.ofString " / ")), .str (S z ++ Str.ofString "0")])) u3 = some (.lst [.str (Str.ofString "-" ++ S z), .str (S z ++ Str.ofString "/-2"), .str (Str.ofString "/" ++ S z), .str (Txt.replace (S z) (Str.ofString "/") (Str.ofString " / ")), .str (S z ++ Str.ofString "0")]) := upd_same
    have b3 := s3 _ _ e2
    have h3 := h2.same s3
    have kp := kp.trans (Kp.same s3)
    generalize upd G2 u3 (.lst [.str (Str.ofString "-" ++ S z), .str (S z ++ Str.ofString "/-2"), .str (Str.ofString "/" ++ S z), .str (Txt.replace (S z) (Str.ofString "/") (Str.ofString " / ")), .str (S z ++ Str.ofString "0")]) = J3 at s3 g3 b3 h3 kp ⊢
    have m3 : ([.str (Str.ofString "-" ++ S z), .str (S z ++ Str.ofString "/-2"), .str (Str.ofString "/" ++ S z), .str (Txt.replace (S z) (Str.ofString "/") (Str.ofString " / ")), .str (S z ++ Str.ofString "0")] : List V).length = 5 := rfl
    generalize ([.str (Str.ofString "-" ++ S z), .str (S z ++ Str.ofString "/-2"), .str (Str.ofString "/" ++ S z), .str (Txt.replace (S z) (Str.ofString "/") (Str.ofString " / ")), .str (S z ++ Str.ofString "0")] : List V) = y3 at g3 v3 m3
    refine ⟨p2, u3, _, _, rfl, rfl, b3, g3, by rw [n2, m3]; decide, fun p3 fp3 => ?_⟩
    have r3 := same_new (o := .lst (x2 ++ y3)) fp3
    have e3 : (upd J3 p3 (.lst (x2 ++ y3))) p3 = some (.lst (x2 ++ y3)) := upd_same
    have h3 := h3.same r3
    have kp := kp.trans (Kp.same r3)
    have w3 := w2.app v3
    have n3 : (x2 ++ y3).length = 16 := by rw [List.length_append, n2, m3]
    generalize upd J3 p3 (.lst (x2 ++ y3)) = G3 at r3 e3 h3 kp ⊢
    generalize x2 ++ y3 = x3 at e3 w3 n3
    refine ⟨_, rfl, ?_⟩
    have v4 : TAll (n + 3 + 2 * m) (m + 1) [.str (Str.ofString "1_0"), .str (Str.ofString "--1"), .str (Str.ofString ""), .str (Str.ofString "/"), .str (Str.ofString "-")] := (.cons (z := [49, 95, 48]) (by decide +kernel) ((Tz.mono ⟨by decide, by decide, by decide⟩ (Nat.le_refl 3) (Nat.le_refl 1) : Tz 3 1 [49, 95, 48]).mono (by omega) (by omega)) (.cons (z := [45, 45, 49]) (by decide +kernel) ((Tz.mono ⟨by decide, by decide, by decide⟩ (Nat.le_refl 3) (Nat.le_refl 1) : Tz 3 1 [45, 45, 49]).mono (by omega) (by omega)) (.cons (z := []) (by decide +kernel) ((Tz.mono ⟨by decide, by decide, by decide⟩ (Nat.le_refl 3) (Nat.le_refl 1) : Tz 3 1 []).mono (by omega) (by omega)) (.cons (z := [47]) (by decide +kernel) ((Tz.mono ⟨by decide, by decide, by decide⟩ (Nat.le_refl 3) (Nat.le_refl 1) : Tz 3 1 [47]).mono (by omega) (by omega)) (.cons (z := [45]) (by decide +kernel) ((Tz.mono ⟨by decide, by decide, by decide⟩ (Nat.le_refl 3) (Nat.le_refl 1) : Tz 3 1 [45]).mono (by omega) (by omega)) .nil)))))
    refine ⟨by show 5 ≤ sizeLine; decide, fun u4 f4 => ?_⟩
    have s4 := same_new (o := .lst [.str (Str.ofString "1_0"), .str (Str.ofString "--1"), .str (Str.ofString ""), .str (Str.ofString "/"), .str (Str.ofString "-")]) f4
    have g4 : (upd G3 u4 (.lst [.str (Str.ofString "1_0"), .str (Str.ofString "--1"), .str (Str.ofString ""), .str (Str.ofString "/"), .str (Str.ofString "-")])) u4 = some (.lst [.str (Str.ofString "1_0"), .str (Str.ofString "--1"), .str (Str.ofString ""), .str (Str.ofString "/"), .str (Str.ofString "-")]) := upd_same
    have b4 := s4 _ _ e3
    have h4 := h3.same s4
    have kp := kp.trans (Kp.same s4)
    generalize upd G3 u4 (.lst [.str (Str.ofString "1_0"), .str (Str.ofString "--1"), .str (Str.ofString ""), .str (Str.ofString "/"), .str (Str.ofString "-")]) = J4 at s4 g4 b4 h4 kp ⊢
    have m4 : ([.str (Str.ofString "1_0"), .str (Str.ofString "--1"), .str (Str.ofString ""), .str (Str.ofString "/"), .str (Str.ofString "-")] : List V).length = 5 := rfl
    generalize ([.str (Str.ofString "1_0"), .str (Str.ofString "--1"), .str (Str.ofString ""), .str (Str.ofString "/"), .str (Str.ofString "-")] : List V) = y4 at g4 v4 m4
    refine ⟨p3, u4, _, _, rfl, rfl, b4, g4, by rw [n3, m4]; decide, fun p4 fp4 => ?_⟩
    have r4 := same_new (o := .lst (x3 ++ y4)) fp4
    have e4 : (upd J4 p4 (.lst (x3 ++ y4))) p4 = some (.lst (x3 ++ y4)) := upd_same
    have h4 := h4.same r4
    have kp := kp.trans (Kp.same r4)
    have w4 := w3.app v4
    have n4 : (x3 ++ y4).length = 21 := by rw [List.length_append, n3, m4]
    generalize upd J4 p4 (.lst (x3 ++ y4)) = G4 at r4 e4 h4 kp ⊢
    generalize x3 ++ y4 = x4 at e4 w4 n4
    refine ⟨_, rfl, _, rfl, _, rfl, p4, _, rfl, .inl (SqL.of e4), h, c, _, rfl, h4, ?_, ?_, fun r H9 a9 b9 held9 k9 => ?_⟩
    · rw [n4]
      decide
    · rw [n4]
      decide
    obtain ⟨i, rfl⟩ := Int.eq_ofNat_of_zero_le a9
    obtain ⟨v, hv⟩ : ∃ v, x4[i]? = some v := ⟨_, List.getElem?_eq_getElem (by omega)⟩
    obtain ⟨z', rfl, tz'⟩ := w4 v (List.mem_of_getElem? hv)
    have np : p4 ≠ h := fun y => by
      obtain ⟨l', ns, n', m', q1, _⟩ := h4
      rw [y, q1] at e4
      cases e4
    exact ⟨p4, _, _, _, rfl, rfl, SqL.of (k9.1 _ _ e4 np), atI_nat hv, hQ z' H9 tz' held9 (kp.trans k9)⟩
end
end K04
set_option Elab.async false
set_option linter.all false
set_option maxRecDepth 100000
set_option maxHeartbeats 4000000
/-! GL: promises of defs that are asked only where no repr is under way (A.guards = some []); what such a def may do more: repr of lists and tuples. -/
namespace GL
open PySem PySem.Spec PyProof.Rows L2
/-- a def's promise, where no repr is under way -/
structure FnG (P : Program) (w : World) (K : PySem.W.Frag) (mg : Str → Option Value) (base : Heap) (k : Nat) (f : Addr) (fd : FuncData) (ps : List Str) (sp : Sp) : Prop where
  len : ∀ vs H Q E, sp vs H Q E → vs.length = ps.length
  run : ∀ (A : Around) (outer : List Env) (s : Shared) (H : Hp) (args : Args) (us : List Value) (vs : List V) (Q : VK) (E : XK), A.guards = some [] → Room k A → Env0 P w K mg base A outer s H → BindsTo s fd args (ps.zip us) → Vals vs us → sp vs H Q E →
    codeAny (model P w) A (.call (.ref f) args) (CR CX0 outer P w H s Q E) s
section
variable {P : Program} {w : World} {K : PySem.W.Frag} {mg : Str → Option Value} {base : Heap} {k : Nat} {f : Addr} {fd : FuncData} {ps : List Str} {sp : Sp}
theorem FnG.of (F : FnOk P w K mg base CX0 k f fd ps sp) : FnG P w K mg base k f fd ps sp := ⟨F.len, fun A outer s H args us vs Q E _ => F.run A outer s H args us vs Q E⟩
/-- by its body -/
theorem okG {x qual : Str} {params : Arguments} {body : List Stmt} {scope : Scope} {dvs : List V} {kws : List (Str × V)} {N : List Str} (F : FunD K x qual params body scope dvs kws f fd) (S : FnScope N ps scope) (len : ∀ vs H Q E, sp vs H Q E → vs.length = ps.length)
    (hbody : ∀ (cdv : Value) (A : Around) (outer : List Env) (s : Shared) (H : Hp) (vs : List V) (Q : VK) (E : XK), A.guards = some [] → Room k (A.deeper (envOfC qual scope s.heap.objs.size f cdv)) → sp vs H Q E →
      ∃ t, PSs (cxOf CX0 P w K mg base N qual scope f cdv A outer s H E) body t ∧ t { nx := fun _ H' => Q .non H', rt := Q } (start N vs) H) : FnG P w K mg base (k + 1) f fd ps sp := by
  refine ⟨len, fun A outer s H args us vs Q E hg hr e0 hb r hsp => ?_⟩
  obtain ⟨oc, od, dV, kV, doc, pm, an, cdv, ct, osl, hfd, lk, hcd, _, _⟩ := F.ex
  subst hfd
  obtain ⟨t, ht, hq⟩ := hbody cdv A outer s H vs Q E hg (hr.deeper _) hsp
  have keep : ∀ b o, base.get? b = some o → s.heap.get? b = some o := fun b o e => (e0.bs b o e).1
  have KX : K.In s.heap := e0.mod.kin.keeps keep
  refine codeAny_call_function hr.depth (KX _ _ lk) rfl S.co S.gen rfl (PySem.W.codeRec_of KX hcd) (hb _ _ _ _ (wpAny_newFunctionEnv_cells S.kind (fun y hy => ?_) fun env he s1 x => ?_))
  · exact (S.par y.1 (List.of_mem_zip hy).1).imp id fun q => ⟨q, PySem.W.cellsFrom_some _ _ _ (.inl q)⟩
  · subst he
    refine ⟨(e0.mod.nolimit.keeps keep).keeps x.toInCall.keep, codeAny_func (wpAny_mono (ht.run [] s1 (start N vs) H _ (inv_start S hr.hd e0 (len _ _ _ _ hsp) r x) hq) (fun fl s' hs => ?_) fun e s' hs => hs)⟩
    match fl, hs with
    | .ret u, ⟨v, σ', H', J, rv, q⟩ => exact ⟨v, H', J.os, J.bare, J.base, J.hok, rv, q⟩
    | .next, ⟨σ', H', J, q⟩ => exact ⟨.non, H', J.os, J.bare, J.base, J.hok, rfl, q⟩
    | .brk, ⟨_, _, _, q⟩ => exact q.elim
    | .cont, ⟨_, _, _, q⟩ => exact q.elim
end
/-- the package of a def of this kind -/
structure CalG (P : Program) (w : World) (K : PySem.W.Frag) (mg : Str → Option Value) (base : Heap) (k : Nat) (x : Str) (sp : Sp) (dvs : List V) : Prop where
  ex : ∃ (f : Addr) (fd : FuncData) (ps : List Str) (ds : List Value), FnG P w K mg base k f fd ps sp ∧ mg x = some (.ref f) ∧ PySem.W.keepIn K (.ref f) = true ∧ Binds K fd ps ds ∧ Vals dvs ds
section
variable {X : Cx} {k j : Nat} {x : Str} {sp : Sp} {dvs : List V} {e : Expr} {es : List Expr} {t : TA} {p pos : Pos}
theorem pe_cG (c : CalG X.prog X.w X.K X.mg X.base k x sp dvs) (hgd : X.A.guards = some []) (hr : Room j X.A) (hk : k ≤ j) (hg : Gl X x) (ha : PA X (e :: es) t)
    (hdb : (x == ("__debug__" : Str)) = false := by decide) (he : starEach (e :: es) X.env = (false, eval e X.env) :: starEach es X.env := by rfl) (hpl : (backTo pos (starEach es X.env)).any (·.1) = false := by rfl) :
    PE X (.Call (.Name x p) (e :: es) [] pos) (tCall sp dvs E0 t) := by
  obtain ⟨f, fd, ps, ds, F, hm, kp, b, d⟩ := c.ex
  refine ⟨fun pins s σ H Q I h => wpAny_Call_Name_kw (ld_glob I hg hm (PySem.W.callWith_K (h₀ := X.base) I.ok.mod.kin kp (thn (ha.run pos pins s σ H _ I h) fun us s1 ⟨vs, H1, I1, r, q⟩ => ⟨I1.kIn, ?_⟩) he hpl) hdb)⟩
  have r2 := r.append d
  refine wpAny_call (codeAny_mono (F.run X.A X.stack s1 H1 ⟨us, []⟩ (us ++ ds) (vs ++ dvs) Q E0 hgd (hr.mono hk) I1.env0 (b s1 us I1.kIn (r2.length.symm.trans (F.len _ _ _ _ q))) r2 q) fun r s' hq => ?_)
  match r, hq with
  | .error _, hq => exact hq.elim
  | .ok (.ret u), hq => exact I1.after hq
  | .ok .next, hq => exact hq.elim
  | .ok .brk, hq => exact hq.elim
  | .ok .cont, hq => exact hq.elim
/-- repr of what is flat, of lists and tuples -/
def rRepr (K : PySem.W.Frag) : List V → Hp → VK → Prop := fun xs H Q => ∃ (y : V) (d : PyData), xs = [y] ∧ Dp K H y d ∧ d.showable = true ∧ d.hasDict = false ∧ d.depth ≤ 60 ∧ d.shown.length ≤ sizeLine ∧ Q (.str d.shown) H
theorem call_reprD (hgd : X.A.guards = some []) (hu : X.A.units + 64 < cLine) : CallR X (.builtin "repr") (rRepr X.K) := by
  intro pins s σ H xs us Q I r h
  obtain ⟨y, d, rfl, hd, hs, hn, hdp, hsz, q⟩ := h
  obtain ⟨u, rfl, ru⟩ := r.one
  obtain ⟨as, rd⟩ := Dp.reads I d y u hd ru
  have fin : ∀ h' tk t, (∀ b o, s.heap.get? b = some o → h'.get? b = some o) → EP X pins σ Q (.str d.shown t) { s with heap := h', toks := tk } := fun h' tk t hk => ⟨.str d.shown, H, I.kept hk, ⟨t, rfl⟩, q⟩
  cases hd with
  | non => cases ru; exact PySem.P.repr_of_none (fin s.heap _ _ fun _ _ e => e)
  | bl b => cases ru; exact PySem.P.repr_of_bool (fin s.heap _ _ fun _ _ e => e)
  | int i =>
    obtain ⟨t, rfl⟩ := ru
    exact PySem.P.repr_of_int (of_decide_eq_true hs) (fin s.heap _ _ fun _ _ e => e)
  | str z =>
    obtain ⟨t, rfl⟩ := ru
    exact PySem.P.repr_of_str (fin s.heap _ _ fun _ _ e => e) hsz
  | lst _ _ =>
    cases ru
    exact repr_of_reads' rd hs (fun z => absurd z (by rw [hn]; decide)) hgd (by omega) (fun _ _ e => e) (fun h' u tk hk => fin h' tk u hk) hsz
  | tup _ _ =>
    cases ru
    exact repr_of_reads' rd hs (fun z => absurd z (by rw [hn]; decide)) hgd (by omega) (fun _ _ e => e) (fun h' u tk hk => fin h' tk u hk) hsz
end
end GL
set_option Elab.async false
set_option linter.all false
set_option maxRecDepth 100000
set_option maxHeartbeats 4000000
/-! RPO: repr of lists, tuples and dicts that hold own instances, of any depth. -/
namespace RPO
open PySem PySem.Spec PyProof.Rows L2
open Builtin Builtin.List
/-- the guards stand on these alone -/
def Gd (g : List Code) (outs : List Addr) : Prop := ∀ id v rest kw, Code.builtin id ⟨v :: rest, kw⟩ ∈ g → ∃ a ∈ outs, v = .ref a
theorem Gd.nil : Gd [] [] := fun _ _ _ _ h => nomatch h
theorem Gd.cons {g : List Code} {outs : List Addr} {id : String} {a : Addr} {rest : List Value} {kw : List (Str × Value)} (h : Gd g outs) : Gd (.builtin id ⟨.ref a :: rest, kw⟩ :: g) (a :: outs) := by
  intro id' v rest' kw' hm
  rcases List.mem_cons.mp hm with e | hm
  · cases e
    exact ⟨a, List.mem_cons_self, rfl⟩
  · obtain ⟨b, hb, e⟩ := h _ _ _ _ hm
    exact ⟨b, List.mem_cons_of_mem _ hb, e⟩
theorem Gd.clear {g : List Code} {outs : List Addr} {a : Addr} (h : Gd g outs) (n : a ∉ outs) : Clear g a := fun id v rest kw hm e => by
  obtain ⟨b, hb, e2⟩ := h id v rest kw hm
  rw [e] at e2
  cases e2
  exact n hb
/-- all but these are as they were -/
def Ex (outs : List Addr) (H H' : Hp) : Prop := ∀ a o, H a = some o → a ∉ outs → H' a = some o
theorem Ex.refl (outs : List Addr) (H : Hp) : Ex outs H H := fun _ _ h _ => h
theorem Ex.ext {outs : List Addr} {H H1 H2 : Hp} (x : Ex outs H H1) (e : Ext H1 H2) : Ex outs H H2 := fun a o h n => e a o (x a o h n)
theorem Ex.more {outs : List Addr} {H H1 : Hp} {a : Addr} (x : Ex outs H H1) : Ex (a :: outs) H H1 := fun b o h n => x b o h fun z => n (List.mem_cons_of_mem _ z)
section
variable {X : Cx}
/-- what a thing shows as, within containers at outs -/
def RpU (X : Cx) (n : Nat) (outs : List Addr) (H0 : Hp) (v : V) (t : Str) : Prop := ∀ (A : Around) (g : List Code) (pins : List (Addr × Obj)) (s : Shared) (σ : L2.St) (H : Hp) (u : Value) (bs : Nat),
  Ex outs H0 H → Sub X n A → A.guards = some g → Gd g outs → Inv X pins σ H s → RelV v u → bs + t.length ≤ sizeLine →
  wpAny (model X.prog X.w) A (pyReprUnder bs u) (fun r s' => r = t ∧ ∃ H', Inv X pins σ H' s' ∧ Ext H H') X.xe s
theorem RpU.mono {n m : Nat} {outs : List Addr} {H0 : Hp} {v : V} {t : Str} (h : RpU X n outs H0 v t) (nm : n ≤ m) : RpU X m outs H0 v t := fun A g pins s σ H u bs x sb => h A g pins s σ H u bs x (sb.mono nm)
theorem RpU.non {n : Nat} {outs : List Addr} {H0 : Hp} : RpU X n outs H0 .non "None" := fun A g pins s σ H u bs x sb hg gd I r hb => by
  cases r
  exact ReprIs.none bs hb _ _ _ _ fun tk => ⟨rfl, H, I.tok tk, Ext.rfl'⟩
theorem RpU.bl {n : Nat} {outs : List Addr} {H0 : Hp} {b : Bool} : RpU X n outs H0 (.bl b) (if b then "True" else "False") := fun A g pins s σ H u bs x sb hg gd I r hb => by
  cases r
  exact ReprIs.bool b bs hb _ _ _ _ fun tk => ⟨rfl, H, I.tok tk, Ext.rfl'⟩
theorem RpU.int {n : Nat} {outs : List Addr} {H0 : Hp} {i : Int} (h : i.natAbs.log2 < 1920) : RpU X n outs H0 (.int i) (toString i) := fun A g pins s σ H u bs x sb hg gd I r hb => by
  obtain ⟨t, rfl⟩ := r
  exact ReprIs.int t h bs hb _ _ _ _ fun tk => ⟨rfl, H, I.tok tk, Ext.rfl'⟩
theorem RpU.str {n : Nat} {outs : List Addr} {H0 : Hp} {z : Str} : RpU X n outs H0 (.str z) (reprText z) := fun A g pins s σ H u bs x sb hg gd I r hb => by
  obtain ⟨t, rfl⟩ := r
  exact ReprIs.str z t (by omega) bs hb _ _ _ _ fun tk => ⟨rfl, H, I.tok tk, Ext.rfl'⟩
/-- an own instance, by its own __repr__ -/
theorem RpU.own {k n : Nat} {outs : List Addr} {H0 : Hp} {a C dx : Addr} {fs : List (Str × V)} {sp : Sp} {t : Str} (S : OW.Spc X.prog X.w X.K X.mg X.base k C "__repr__" sp) (ha : H0 a = some (.ins C dx fs)) (na : a ∉ outs)
    (hsp : ∀ H, H a = some (.ins C dx fs) → sp [.ref a] H (fun v H' => v = .str t ∧ Ext H H') E0) (kn : k ≤ n) : RpU X n outs H0 (.ref a) t := fun A g pins s σ H u bs x sb hg gd I r hb => by
  obtain ⟨f, fd, ps, h1, h2, F, hbi⟩ := S.ex
  cases (show u = Value.ref a from r)
  have ea := x a _ ha na
  obtain ⟨mA, O, _⟩ := ins_get I.hok ea
  obtain ⟨od, J, _⟩ := O.look
  have KI := I.kIn
  have e0 : Env0 X.prog X.w X.K X.mg X.base A X.stack s H := by
    have z := I.env0
    exact ⟨sb.fr.trans z.frames, z.mod, z.bs, z.bsz, z.funs, z.frf, z.hok, z.bare⟩
  refine wpAny_pyReprUnder_ref (by omega) ?_
  unfold pyReprObjUnder pyReprObjBy
  refine wpAny_bind (wpAny_cRoomFor sb.room.units0 ?_)
  refine wpAny_bind (wpAny_bind (J.type.here ((PySem.W.looks_findIn KI h1).here ?_)))
  show wpAny _ _ (if (some (Value.ref f)).isNone = true then _ else _) _ _ _
  rw [if_neg (by simp)]
  have called : wpAny (model X.prog X.w) A (call (.ref f) [.ref a]) (fun v s' => ∃ tk, v = .str t tk ∧ ∃ H', Inv X pins σ H' s' ∧ Ext H H') X.xe s := by
    refine wpAny_mono (OW.run_at (E' := X.xe) (vs := [.ref a]) F hbi (sb.room.mono kn) I e0 (.cons rfl .nil) (hsp H ea)) (fun w s' z => ?_) fun _ _ x => x
    obtain ⟨z', H', I', rz, z, e⟩ := z
    rw [z] at rz
    obtain ⟨tk, rfl⟩ := rz
    exact ⟨tk, rfl, H', I', e⟩
  refine wpAny_bind (m := callSpecialIfBoundBy? _ (.ref a) (Str.ofString "__repr__")) ?_
  have fin : wpAny (model X.prog X.w) A (callSpecialIfBoundBy? (fun g first => match reprUnder? g, first with | some twin, [self] => call twin [self, rawInt bs] | _, _ => call g (first ++ [])) (.ref a) (Str.ofString "__repr__"))
      (fun r s' => ∃ tk, r = some (.str t tk) ∧ ∃ H', Inv X pins σ H' s' ∧ Ext H H') X.xe s := by
    simp only [callSpecialIfBoundBy?, bindSpecialIfBound?]
    refine wpAny_holding (wpAny_bind (wpAny_bind (wpAny_bind (J.type.here ((PySem.W.looks_findIn KI h1).here ?_)))))
    refine wpAny_bind (wpAny_askSetting (wpAny_ite ?_))
    have ends : wpAny (model X.prog X.w) A (call (.ref f) ([.ref a] ++ []) >>= fun v => pure (some v)) (fun r s' => ∃ tk, r = some (.str t tk) ∧ ∃ H', Inv X pins σ H' s' ∧ Ext H H') X.xe s :=
      wpAny_bind (wpAny_mono called (fun v s' h' => wpAny_pure (by obtain ⟨tk, rfl, h⟩ := h'; exact ⟨tk, rfl, h⟩)) fun _ _ h' => h')
    split
    · exact wpAny_bind ((PySem.W.bind_fn KI _ (beq_iff_eq.mp h2)).here (wpAny_pure (by exact ends)))
    · exact wpAny_tryCatch (wpAny_bind ((PySem.W.bind_fn KI _ (beq_iff_eq.mp h2)).here (wpAny_pure (by exact ends))))
  refine wpAny_mono fin (fun r s' h' => ?_) fun _ _ x => x
  obtain ⟨tk, rfl, h⟩ := h'
  exact wpAny_bind (wpAny_isInstance (T := "str") (b := true) rfl isSubtype_str_str (wpAny_pure ⟨_, _, rfl, rfl, h⟩))
end
end RPO
set_option Elab.async false
set_option linter.all false
set_option maxRecDepth 100000
set_option maxHeartbeats 4000000
/-! RPL: the containers of RPO: lists, tuples, dicts. -/
namespace RPO
open PySem PySem.Spec PyProof.Rows L2
open Builtin Builtin.List
theorem strs_of : ∀ {ts : List Str} {us : List Value}, Vals (ts.map V.str) us → ∃ done : List (Str × Tok), us = strValues done ∧ done.map (·.1) = ts
  | [], _, .nil => ⟨[], rfl, rfl⟩
  | t :: ts, _, .cons r h => by
    obtain ⟨tk, rfl⟩ := r
    obtain ⟨done, rfl, e⟩ := strs_of h
    exact ⟨(t, tk) :: done, rfl, by simp [e]⟩
theorem sub_loop {X : Cx} {n : Nat} {A : Around} {args : Args} (h : Sub X (n + 1) A) : Sub X n (A.under (.builtin "list.__repr__.loop" args)) := by
  have hd : (A.under (.builtin "list.__repr__.loop" args)).depth ≤ A.depth + 1 := by
    first | exact Nat.le_refl _ | simp [Around.under, Code.weight, Code.isCreation, Code.isGuard, Code.isCaller, Code.frames, Code.isFrame, guardIds]
  have hu := units_under_list_loop A args
  have hf : (A.under (.builtin "list.__repr__.loop" args)).frames = A.frames := by
    have e : (Code.builtin "list.__repr__.loop" args).envs = [] := by first | rfl | simp [Code.envs, Code.isFrame]
    have e2 : (A.under (.builtin "list.__repr__.loop" args)).frames = pushEnvs (Code.envs (.builtin "list.__repr__.loop" args)) A.frames := by first | rfl | simp [Around.under]
    rw [e2, e]
    cases A.frames <;> first | rfl | simp [pushEnvs]
  obtain ⟨⟨h1, h2, h3⟩, h4⟩ := h
  exact ⟨⟨h1, by omega, by rw [hu]; omega⟩, hf.trans h4⟩
section
variable {X : Cx} {n : Nat} {outs : List Addr} {H0 : Hp} {a : Addr} {xs : List V} {ts : List Str}
theorem list_loop {A : Around} {g : List Code} {P : Addr} {bs : Nat} {pins : List (Addr × Obj)} {σ : L2.St} {Hb : Hp} {R : Result → Shared → Prop} (sb : Sub X (n + 1) A) (hg : A.guards = some g) (gd : Gd g outs) (ha : Hb a = some (.lst xs)) (hP : Hb P = none) (xe : Ex outs H0 Hb) (hlen : ts.length = xs.length)
    (hT : ∀ (i : Nat) (x : V), xs[i]? = some x → ∃ t, ts[i]? = some t ∧ RpU X n (a :: outs) H0 x t) (hsz : bs + (listText ts).length ≤ sizeLine)
    (hE : ∀ e s', X.xe e s' → R (.error e) s')
    (fin : ∀ (s' : Shared) (H' : Hp) (u : Tok), Inv X pins σ H' s' → Ext Hb H' → R (.ok (.ret (.str (listText ts) u))) s') :
    ∀ (k i : Nat) (s : Shared) (H : Hp), xs.length - i = k → i ≤ xs.length → Inv X pins σ H s → Ext Hb H → H P = some (.lst ((ts.take i).map V.str)) →
      codeAny (model X.prog X.w) A (.builtin "list.__repr__.loop" ⟨[.ref a, rawInt i, .ref P, rawInt ((bs + piled (ts.take i) : Nat) : Int)], []⟩) R s := by
  have hX : (listText ts).length = (textFrom 0 "[" ts).length + 1 := by
    show (textFrom 0 "[" ts ++ "]").length = _
    rw [strLen_append]; rfl
  have hL := textFrom_len ts 0 "["
  have each : ∀ t ∈ ts, t.length ≤ sizeLine := fun t ht => by
    have := hL.2.1 t ht
    omega
  have many : ts.length ≤ sizeLine := by
    have h1 := hL.1
    rw [if_neg (Nat.lt_irrefl 0)] at h1
    omega
  have hp3 := piled_le_listText ts
  have uu : A.in1.units < cLine := by have := sb.room.un; show A.units + 1 < cLine; omega
  intro k
  induction k with
  | zero =>
    intro i s H hk hi I eb hPi
    have hin : i = ts.length := by omega
    obtain ⟨_, its, m, rv, _, e⟩ := I.lstM (eb _ _ ha)
    obtain ⟨_, ups, c, rp, _, ep⟩ := I.lstM hPi
    have nits : its[i]? = none := by
      have := rv.length
      exact List.getElem?_eq_none (by omega)
    refine codeAny_builtin F.entry_list_repr_loop ?_
    show wpAny _ _ («list.__repr__.loop» ⟨[.ref a, .int i 0, .ref P, .int ((bs + piled (ts.take i) : Nat) : Int) 0], []⟩) _ _ s
    rw [repr_loop_tree]
    refine wpAny_bind (wpAny_listItems e rfl ?_)
    have hnone : its.toArray[((i : Int)).toNat]? = none := by simpa using nits
    simp only [hnone]
    unfold reprEnd
    refine wpAny_bind (wpAny_listItems ep rfl ?_)
    obtain ⟨done, rfl, ed⟩ := strs_of rp
    rw [show (strValues done).toArray.toList = strValues done from by simp, repr_fold]
    refine wpAny_bind (wpAny_pure ?_)
    have hall : done.map (·.1) = ts := by rw [ed, hin, List.take_length]
    rw [hall]
    refine wpAny_bind (wpAny_mkStr (wpAny_pure ?_) (by show (listText ts).length ≤ sizeLine; omega))
    exact fin _ H _ (I.tok _) eb
  | succ k ih =>
    intro i s H hk hi I eb hPi
    have hlt : i < xs.length := by omega
    obtain ⟨t, ht, hrep⟩ := hT i xs[i] (List.getElem?_eq_getElem hlt)
    obtain ⟨_, its, m, rv, lv, e⟩ := I.lstM (eb _ _ ha)
    have hlt2 : i < its.length := by omega
    have rvi : RelV xs[i] its[i] := by
      obtain ⟨u, e1, e2⟩ := rv.get (List.getElem?_eq_getElem hlt)
      rw [List.getElem?_eq_getElem hlt2] at e1
      cases e1
      exact e2
    have hp1 := piled_take_succ ht
    have hp2 := piled_take_le ts (i + 1)
    refine codeAny_builtin F.entry_list_repr_loop ?_
    show wpAny _ _ («list.__repr__.loop» ⟨[.ref a, .int i 0, .ref P, .int ((bs + piled (ts.take i) : Nat) : Int) 0], []⟩) _ _ s
    rw [repr_loop_tree]
    refine wpAny_bind (wpAny_listItems e rfl ?_)
    have hsome : its.toArray[((i : Int)).toNat]? = some its[i] := by simp [hlt2]
    simp only [hsome]
    rw [Int.toNat_natCast]
    refine wpAny_bind (wpAny_holding (wpAny_mono (hrep _ _ pins s σ H its[i] (bs + piled (ts.take i) + 1) ((xe.ext eb).more) (sub_loop sb) (guards_under_guard (isGuard_list_loop _) hg) gd.cons I rvi (by omega)) (fun r s2 h2 => ?_) fun e' s' h' => hE e' s' h'))
    obtain ⟨rfl, H2, I2, e2⟩ := h2
    refine wpAny_bind (wpAny_mkStr ?_ (each r (List.mem_of_getElem? ht)))
    have hP2 := e2 _ _ hPi
    obtain ⟨_, ups, c, rp, _, ep⟩ := I2.lstM hP2
    refine wpAny_bind ?_
    show wpAny _ _ (updateSeq P _) _ _ _
    have lp := rp.length
    rw [List.length_map, List.length_take] at lp
    refine wpAny_updateSeq ep rfl (wpAny_pure ⟨F.quiet_list_repr_loop _, ?_⟩) (by rw [List.size_toArray]; omega) (by rw [Array.size_push, List.size_toArray]; omega)
    have e1' : ((i : Int) + 1) = ((i + 1 : Nat) : Int) := by omega
    have e2' : bs + piled (ts.take i) + (r.length + 2) = bs + piled (ts.take (i + 1)) := by omega
    rw [e1', e2']
    have I3 := I2.lset (its' := ups ++ [.str r s2.toks]) (f := fun x => x.push (.str r s2.toks)) (t' := s2.toks + 1) hP2 ep (by simp) (ys := (ts.take (i + 1)).map V.str) (by
      rw [List.take_add_one, ht, List.map_append]
      exact rp.append (.cons ⟨_, rfl⟩ .nil)) (by rw [List.length_map, List.length_take]; omega)
    exact ih (i + 1) _ _ (by omega) hlt I3 (fun b o hb => by
      rw [upd_ne (fun z => by rw [z, hP] at hb; cases hb)]
      exact e2 _ _ (eb _ _ hb)) upd_same
end
end RPO
set_option Elab.async false
set_option linter.all false
set_option maxRecDepth 100000
set_option maxHeartbeats 4000000
namespace RPO
open PySem PySem.Spec PyProof.Rows L2
open Builtin Builtin.List
/-- things one by one -/
inductive RpAll (X : Cx) (n : Nat) (outs : List Addr) (H0 : Hp) : List V → List Str → Prop
  | nil : RpAll X n outs H0 [] []
  | cons {v : V} {t : Str} {vs : List V} {ts : List Str} : RpU X n outs H0 v t → RpAll X n outs H0 vs ts → RpAll X n outs H0 (v :: vs) (t :: ts)
theorem RpAll.len {X : Cx} {n : Nat} {outs : List Addr} {H0 : Hp} : ∀ {vs : List V} {ts : List Str}, RpAll X n outs H0 vs ts → ts.length = vs.length
  | _, _, .nil => rfl
  | _, _, .cons _ h => by rw [List.length_cons, List.length_cons, h.len]
theorem RpAll.get {X : Cx} {n : Nat} {outs : List Addr} {H0 : Hp} : ∀ {vs : List V} {ts : List Str}, RpAll X n outs H0 vs ts → ∀ (i : Nat) (x : V), vs[i]? = some x → ∃ t, ts[i]? = some t ∧ RpU X n outs H0 x t
  | _, _, .nil, _, _, h => by simp at h
  | _, _, .cons r h, 0, _, e => by
    simp at e
    subst e
    exact ⟨_, rfl, r⟩
  | _, _, .cons r h, i + 1, x, e => by
    obtain ⟨t, e1, e2⟩ := h.get i x (by simpa using e)
    exact ⟨t, by simpa using e1, e2⟩
section
variable {X : Cx} {n : Nat} {outs : List Addr} {H0 : Hp} {a : Addr} {xs : List V} {ts : List Str}
/-- what is asked of the end of a text -/
def Told (X : Cx) (pins : List (Addr × Obj)) (σ : L2.St) (H : Hp) (t : Str) (v : Value) (s' : Shared) : Prop := ∃ tk, v = .str t tk ∧ ∃ H', Inv X pins σ H' s' ∧ Ext H H'
theorem list_at {A : Around} {g : List Code} {bs : Nat} {pins : List (Addr × Obj)} {σ : L2.St} {s : Shared} {H : Hp} {Q : Value → Shared → Prop} (sb : Sub X (n + 1) A) (hg : A.guards = some g) (gd : Gd g outs) (I : Inv X pins σ H s) (ha : H a = some (.lst xs)) (na : a ∉ outs) (xe : Ex outs H0 H) (hx : xs ≠ [])
    (hT : RpAll X n (a :: outs) H0 xs ts) (hsz : bs + (listText ts).length ≤ sizeLine) (fin : ∀ v s', Told X pins σ H (listText ts) v s' → Q v s') :
    wpAny (model X.prog X.w) A.in1 (Builtin.listReprAt bs ⟨[.ref a], []⟩) (fun fin s' => match fin with | .done f => callEnd Q X.xe (.ok f) s' | .again c' => c'.quiet = true ∧ codeAny (model X.prog X.w) A c' (callEnd Q X.xe) s') (fun e s' => callEnd Q X.xe (.error e) s') s := by
  obtain ⟨_, its, m, rv, lv, e⟩ := I.lstM ha
  obtain ⟨y, l, rfl⟩ : ∃ y l, its = y :: l := by
    cases its with
    | nil =>
      have : xs.length = 0 := lv
      exact absurd (List.length_eq_zero_iff.mp this) hx
    | cons y l => exact ⟨y, l, rfl⟩
  refine wpAny_list_repr_head (A := A.in1) hg (fun v rest kw hm => listSameRef_of_ne ((gd.clear na) _ _ _ _ hm)) e rfl ?_
  refine wpAny_bind (m := newList []) (wpAny_newObj_type ?_)
  refine wpAny_pure ⟨F.quiet_list_repr_loop _, ?_⟩
  have I1 := I.lnew (its := []) (ys := []) (t' := s.toks) .nil (Nat.zero_le _)
  have hn := I.fresh
  exact list_loop (n := n) (Hb := H) (R := callEnd Q X.xe) sb hg gd ha hn xe hT.len hT.get hsz (fun _ _ h => h) (fun s' H' u I' e' => fin _ _ ⟨u, rfl, H', I', e'⟩) _ 0 _ _ rfl (Nat.zero_le _) I1 (Ext.upd hn) upd_same
theorem RpU.list (ha : H0 a = some (.lst xs)) (na : a ∉ outs) (hx : xs ≠ []) (hT : RpAll X n (a :: outs) H0 xs ts) : RpU X (n + 1) outs H0 (.ref a) (listText ts) := fun A g pins s σ H u bs x sb hg gd I r hb => by
  cases (show u = Value.ref a from r)
  have ea := x a _ ha na
  obtain ⟨_, its, m, rv, lv, e⟩ := I.lstM ea
  refine wpAny_pyReprUnder_ref (by omega) (wpAny_pyReprObjUnder_twin (twin := "list.__repr__.under") ⟨_, e, rfl⟩ F.slot_list_repr.toG rfl sb.room.units0
    (call_twin_plain F.plain_list_repr_under F.entry_list_repr_under F.check_list_repr_under ⟨_, e, rfl⟩ F.slot_list_repr.toG (F.args_list_repr_1 _) (list_at sb hg gd I ea na x hx hT hb fun v s' h => ?_)))
  obtain ⟨tk, rfl, h⟩ := h
  exact ⟨⟨_, _, rfl⟩, _, _, rfl, rfl, h⟩
theorem RpU.list0 (ha : H0 a = some (.lst [])) (na : a ∉ outs) : RpU X n outs H0 (.ref a) "[]" := fun A g pins s σ H u bs x sb hg gd I r hb => by
  cases (show u = Value.ref a from r)
  have ea := x a _ ha na
  obtain ⟨_, its, m, rv, lv, e⟩ := I.lstM ea
  obtain rfl : its = [] := List.length_eq_zero_iff.mp lv.symm
  exact wpAny_pyReprUnder_ref (by omega) (wpAny_pyReprObjUnder_list_empty ⟨_, e, rfl⟩ sb.room.units0 e rfl ⟨_, _, rfl, rfl, H, I.tok _, Ext.rfl'⟩)
theorem tup_fold {A : Around} {g : List Code} {pins : List (Addr × Obj)} {σ : L2.St} {Hb : Hp} {Q : (Array Str × Nat) → Shared → Prop} (sb : Sub X n A) (hg : A.guards = some g) (gd : Gd g (a :: outs)) (xe : Ex outs H0 Hb) :
    ∀ {vs : List V} {ts : List Str}, RpAll X n (a :: outs) H0 vs ts → ∀ (us : List Value) (acc : Array Str) (m : Nat) (s : Shared) (H : Hp), Vals vs us → m + piled ts ≤ sizeLine → Inv X pins σ H s → Ext Hb H →
      (∀ s' H', Inv X pins σ H' s' → Ext Hb H' → Q ⟨acc ++ ts.toArray, m + piled ts⟩ s') → wpAny (model X.prog X.w) A (forIn us (⟨acc, m⟩ : (Array Str × Nat)) tupBody) Q X.xe s := by
  intro vs ts h
  induction h with
  | nil =>
    intro us acc m s H rv hm I eb fin
    cases rv
    have h0 := fin s H I eb
    simp only [List.forIn_nil]
    exact wpAny_pure (by simpa [piled] using h0)
  | @cons v t vs ts hr hl ih =>
    intro us acc m s H rv hm I eb fin
    cases rv with
    | @cons _ u _ us r rv =>
      rw [piled_cons] at hm
      rw [List.forIn_cons]
      refine wpAny_bind (wpAny_bind (wpAny_mono (hr A g pins s σ H u (m + 1) (xe.ext eb).more sb hg gd I r (by omega)) (fun r' s2 h2 => ?_) fun _ _ x => x))
      obtain ⟨rfl, H2, I2, e2⟩ := h2
      refine wpAny_pure ?_
      refine ih us (acc.push r') (m + (r'.length + 2)) s2 H2 rv (by omega) I2 (eb.trans e2) fun s' H' I' e' => ?_
      have h1 := fin s' H' I' e'
      have e : m + piled (r' :: ts) = m + (r'.length + 2) + piled ts := by rw [piled_cons]; omega
      rw [e] at h1
      simpa using h1
theorem tup_at {A : Around} {g : List Code} {bs : Nat} {pins : List (Addr × Obj)} {σ : L2.St} {s : Shared} {H : Hp} {Q : Value → Shared → Prop} {id : String} {rest : List Value} (hcg : (Code.builtin id ⟨.ref a :: rest, []⟩).isGuard = true) (sb : Sub X n (A.under (.builtin id ⟨.ref a :: rest, []⟩)))
    (hg : A.guards = some g) (gd : Gd g outs) (I : Inv X pins σ H s) (ha : H a = some (.tup xs)) (na : a ∉ outs) (xe : Ex outs H0 H) (hT : RpAll X n (a :: outs) H0 xs ts) (hsz : bs + (tupleText ts).length ≤ sizeLine) (fin : ∀ v s', Told X pins σ H (tupleText ts) v s' → Q v s') :
    wpOwn (model X.prog X.w) A (.builtin id ⟨.ref a :: rest, []⟩) (Builtin.tupleReprAt bs ⟨[.ref a], []⟩) (fun fin s' => match fin with | .done f => callEnd Q X.xe (.ok f) s' | .again c' => c'.quiet = true ∧ codeAny (model X.prog X.w) A c' (callEnd Q X.xe) s') (fun e s' => callEnd Q X.xe (.error e) s') s := by
  obtain ⟨its, rv, ⟨o, ho, hc, m, hd⟩, hz⟩ := I.tuple (SqT.of (K := X.K) ha)
  have hca : Clear g a := gd.clear na
  have hlen : ts.length = its.length := hT.len.trans rv.length
  have hp := piled_le_tupleText ts
  have hsz0 : (tupleText ts).length ≤ sizeLine := by omega
  rw [tuple_repr_tree, tupleReprUnderWay_eq]
  refine wpOwn_bind (wpOwn_stackTailAny hg (tupGuardF_off _) (tupGuardF_pos _) ?_)
  have hn : (g.any fun c => tupGuardF (.ref a) (c, default)) = false := by
    rw [List.any_eq_false]
    intro c hcm
    rw [tupGuardF_of_clear hca c hcm]
    exact Bool.false_ne_true
  rw [hn]
  refine wpOwn_of_wpAny ?_
  show wpAny _ _ (tupleReprRest bs (.ref a)) _ _ s
  unfold tupleReprRest Builtin.Tuple.tupleItemsOf
  refine wpAny_bind (wpAny_bind (wpAny_seqItems ho hd (wpAny_pure ?_)))
  rw [← Array.forIn_toList]
  refine wpAny_bind (tup_fold (Hb := H) sb (guards_under_guard hcg hg) gd.cons xe hT _ _ _ s H (by simpa using rv) (by omega) I Ext.rfl' fun s' H' I' e' => ?_)
  refine wpAny_bind (wpAny_mkStr (wpAny_pure ?_) (by simpa [tupleText, hlen] using hsz0))
  have h1 := fin (.str (tupleText ts) s'.toks) { s' with toks := s'.toks + 1 } ⟨_, rfl, H', I'.tok _, e'⟩
  simpa [tupleText, hlen] using h1
theorem sub_code {A : Around} {id : String} {args : Args} (h : Sub X (n + 1) A) (hw : (Code.builtin id args).weight ≤ 1) (he : (Code.builtin id args).envs = []) (hu : (A.under (.builtin id args)).units = A.units + 1) : Sub X n (A.under (.builtin id args)) := by
  have e2 : (A.under (.builtin id args)).frames = pushEnvs (Code.envs (.builtin id args)) A.frames := by first | rfl | simp [Around.under]
  have hf : (A.under (.builtin id args)).frames = A.frames := by
    rw [e2, he]
    cases A.frames <;> first | rfl | simp [pushEnvs]
  have hd : (A.under (.builtin id args)).depth = A.depth + (Code.builtin id args).weight := by first | rfl | simp [Around.under]
  obtain ⟨⟨h1, h2, h3⟩, h4⟩ := h
  exact ⟨⟨h1, by omega, by rw [hu]; omega⟩, hf.trans h4⟩
theorem w_tup {args : Args} : (Code.builtin "tuple.__repr__" args).weight ≤ 1 := by
  first | exact Nat.le_refl _ | simp [Code.weight, Code.isCreation, Code.isGuard, Code.isCaller, Code.frames, Code.isFrame, guardIds]
theorem w_tupU {args : Args} : (Code.builtin "tuple.__repr__.under" args).weight ≤ 1 := by
  first | exact Nat.le_refl _ | simp [Code.weight, Code.isCreation, Code.isGuard, Code.isCaller, Code.frames, Code.isFrame, guardIds]
theorem e_b {id : String} {args : Args} (h : (Code.builtin id args).isFrame = false := by rfl) : (Code.builtin id args).envs = [] := by simp [Code.envs, h]
theorem RpU.tup (ha : H0 a = some (.tup xs)) (na : a ∉ outs) (hT : RpAll X n (a :: outs) H0 xs ts) : RpU X (n + 1) outs H0 (.ref a) (tupleText ts) := fun A g pins s σ H u bs x sb hg gd I r hb => by
  cases (show u = Value.ref a from r)
  have ea := x a _ ha na
  obtain ⟨its, rv, ⟨o, ho, hc, m, hd⟩, hz⟩ := I.tuple (SqT.of (K := X.K) ea)
  refine wpAny_pyReprUnder_ref (by omega) (wpAny_pyReprObjUnder_twin (twin := "tuple.__repr__.under") ⟨o, ho, hc⟩ F.slot_tuple_repr rfl sb.room.units0
    (call_twin_own (F.quiet_tuple_repr_under _) F.entry_tuple_repr_under F.check_tuple_repr_under ⟨o, ho, hc⟩ F.slot_tuple_repr (F.args_tuple_repr_1 _)
      (tup_at (isGuard_tuple_repr_under _) (sub_code sb w_tupU e_b (units_under_tuple_repr_under _ _)) hg gd I ea na x hT hb fun v s' h => ?_)))
  obtain ⟨tk, rfl, h⟩ := h
  exact ⟨⟨_, _, rfl⟩, _, _, rfl, rfl, h⟩
/-- repr of a tuple, where no repr is under way -/
def rReprT (X : Cx) (n : Nat) : List V → Hp → VK → Prop := fun ys H Q => ∃ (a : Addr) (xs : List V) (ts : List Str), ys = [.ref a] ∧ H a = some (.tup xs) ∧ RpAll X n [a] H xs ts ∧ (tupleText ts).length ≤ sizeLine ∧ ∀ H', Ext H H' → Q (.str (tupleText ts)) H'
theorem call_reprT (hgd : X.A.guards = some []) (hr : Room (n + 2) X.A) : CallR X (.builtin "repr") (rReprT X n) := by
  intro pins s σ H ys us Q I r h
  obtain ⟨a, xs, ts, rfl, ea, hT, hb, q⟩ := h
  obtain ⟨u, rfl, ru⟩ := r.one
  cases (show u = Value.ref a from ru)
  obtain ⟨its, rv, ⟨o, ho, hc, m, hd⟩, hz⟩ := I.tuple (SqT.of (K := X.K) ea)
  have sb : Sub X (n + 1) X.A.in1 := ⟨hr.in1, rfl⟩
  refine call_repr_slot (by have := hr.un; omega) ⟨o, ho, hc⟩ F.slot_tuple_repr ?_
  refine wpAny_call (codeAny_call_builtin_own (Code.quiet_builtin _ (by decide +kernel)) F.entry_tuple_repr (F.slot_tuple_repr.check _ _ _ _ _ _ _ _ ⟨o, ho, hc⟩ (F.args_tuple_repr_1 _)
    (tup_at (outs := []) (H0 := H) (bs := 0) (isGuard_tuple_repr _) (sub_code sb w_tup e_b (units_under_tuple_repr _ _)) hgd Gd.nil I ea (by simp) (Ex.refl _ _) hT (by omega) fun v s' h => ?_)))
  obtain ⟨tk, rfl, H', I', e⟩ := h
  exact ⟨_, _, rfl, .str _, H', I', ⟨_, rfl⟩, q H' e⟩
end
end RPO
set_option Elab.async false
set_option linter.all false
set_option maxRecDepth 100000
set_option maxHeartbeats 4000000
namespace RPO
open PySem PySem.Spec PyProof.Rows L2
open Builtin Builtin.List
/-- what the entries of a dict show as -/
inductive RpEnt (X : Cx) (n : Nat) (outs : List Addr) (H0 : Hp) : List (Key × V) → List Str → Prop
  | nil : RpEnt X n outs H0 [] []
  | cons {k : Key} {v : V} {tk tv : Str} {kvs : List (Key × V)} {ps : List Str} : RpU X n outs H0 (kV k) tk → RpU X n outs H0 v tv → RpEnt X n outs H0 kvs ps → RpEnt X n outs H0 ((k, v) :: kvs) ((tk ++ ": " ++ tv) :: ps)
section
variable {X : Cx} {n : Nat} {outs : List Addr} {H0 : Hp} {a : Addr} {kvs : List (Key × V)} {ps : List Str}
theorem RpEnt.len : ∀ {kvs : List (Key × V)} {ps : List Str}, RpEnt X n outs H0 kvs ps → ps.length = kvs.length
  | _, _, .nil => rfl
  | _, _, .cons _ _ h => by rw [List.length_cons, List.length_cons, h.len]
theorem RpEnt.get : ∀ {kvs : List (Key × V)} {ps : List Str}, RpEnt X n outs H0 kvs ps → ∀ (i : Nat) (e : Key × V), kvs[i]? = some e → ∃ tk tv : Str, ps[i]? = some (tk ++ ": " ++ tv) ∧ RpU X n outs H0 (kV e.1) tk ∧ RpU X n outs H0 e.2 tv
  | _, _, .nil, _, _, h => by simp at h
  | _, _, .cons r1 r2 h, 0, _, e => by
    simp at e
    subst e
    exact ⟨_, _, rfl, r1, r2⟩
  | _, _, .cons _ _ h, i + 1, x, e => by
    obtain ⟨t1, t2, e1, e2⟩ := h.get i x (by simpa using e)
    exact ⟨t1, t2, by simpa using e1, e2⟩
theorem pairs_at {P : Program} {w : World} : ∀ {es : List DictEntry} {vs : List (Key × Value)}, Pairs (mixKind P w) es vs → ∀ (i : Nat) (kv : Key × Value), vs[i]? = some kv → ∃ e, es[i]? = some e ∧ (mixKind P w).is kv.1 e.key = true ∧ e.val = kv.2
  | _, _, .nil, _, _, h => by simp at h
  | _, _, .cons h1 h2 h, 0, _, e => by
    simp at e
    subst e
    exact ⟨_, rfl, h1, h2⟩
  | _, _, .cons _ _ h, i + 1, kv, e => by
    obtain ⟨en, e1, e2⟩ := pairs_at h i kv (by simpa using e)
    exact ⟨en, by simpa using e1, e2⟩
theorem key_rel {k : Key} {v : Value} (h : keyIs k v = true) : RelV (kV k) v := by
  rcases keyIs_shape h with ⟨i, t, rfl, rfl⟩ | ⟨x, t, rfl, rfl⟩
  · exact ⟨_, rfl⟩
  · exact ⟨_, rfl⟩
theorem kv_at : ∀ {ks : List (Key × V)} {va : List (Key × Value)}, KV ks va → ∀ (i : Nat) (e : Key × V), ks[i]? = some e → ∃ u : Key × Value, va[i]? = some u ∧ e.1 = u.1 ∧ RelV e.2 u.2
  | _, _, .nil, _, _, h => by simp at h
  | _, _, .cons r h, 0, _, e => by
    simp at e
    subst e
    exact ⟨_, rfl, r.1, r.2⟩
  | _, _, .cons _ h, i + 1, x, e => by
    obtain ⟨u, e1, e2⟩ := kv_at h i x (by simpa using e)
    exact ⟨u, by simpa using e1, e2⟩
/-- the entries of a locked dict -/
theorem entry_of {pins : List (Addr × Obj)} {σ : L2.St} {s : Shared} {H : Hp} {o : Obj} (I : Inv X pins σ H s) (h : H a = some (.frz o (.dK kvs))) {es : Array DictEntry} {ep : Nat} (hd : o.data = .dict es ep) (i : Nat) (hi : i < kvs.length) :
    ∃ e, es[i]? = some e ∧ RelV (kV kvs[i].1) e.key ∧ RelV kvs[i].2 e.val := by
  obtain ⟨_, hg, _, es', ep', vs, hd', hs, kv, o2, es2, g2, x2, d2, k2, p2, _⟩ := I.frzK h
  rw [hg] at g2
  cases g2
  rw [hd] at d2
  cases d2
  obtain ⟨u, e1, e2, e3⟩ := kv_at kv i kvs[i] (List.getElem?_eq_getElem hi)
  obtain ⟨e, f1, f2, f3⟩ := pairs_at p2 i u e1
  refine ⟨e, by simpa using f1, ?_, by rw [f3]; exact e3⟩
  rw [e2]
  exact key_rel f2
theorem dct_at {A : Around} {g : List Code} {bs : Nat} {pins : List (Addr × Obj)} {σ : L2.St} {s : Shared} {H : Hp} {Q : Value → Shared → Prop} {id : String} {rest : List Value} (hcg : (Code.builtin id ⟨.ref a :: rest, []⟩).isGuard = true) (sb : Sub X n (A.under (.builtin id ⟨.ref a :: rest, []⟩)))
    (hg : A.guards = some g) (gd : Gd g outs) (I : Inv X pins σ H s) (ha : H a = some (.dK kvs)) (na : a ∉ outs) (xe : Ex outs H0 H) (hT : RpEnt X n (a :: outs) H0 kvs ps) (hsz : bs + (dictText ps).length ≤ sizeLine) (fin : ∀ v s', Told X pins σ H (dictText ps) v s' → Q v s') :
    wpOwn (model X.prog X.w) A (.builtin id ⟨.ref a :: rest, []⟩) (Builtin.dictReprAt bs ⟨[.ref a], []⟩) (fun fin s' => match fin with | .done f => callEnd Q X.xe (.ok f) s' | .again c' => c'.quiet = true ∧ codeAny (model X.prog X.w) A c' (callEnd Q X.xe) s') (fun e s' => callEnd Q X.xe (.error e) s') s := by
  have mu : Mut (some (HO.dK kvs)) := trivial
  have nf := I.nofrz ha mu
  obtain ⟨o, I1⟩ := I.lock ha mu
  have e1 : (upd H a (.frz o (.dK kvs))) a = some (.frz o (.dK kvs)) := upd_same
  have x1 : Ex (a :: outs) H0 (upd H a (.frz o (.dK kvs))) := fun b u e nb => by
    rw [upd_ne fun z => nb (by rw [z]; exact List.mem_cons_self)]
    exact xe b u e fun z => nb (List.mem_cons_of_mem _ z)
  have back : ∀ {H' : Hp} {s' : Shared}, Inv X pins σ H' s' → Ext (upd H a (.frz o (.dK kvs))) H' → ∃ H2, Inv X pins σ H2 s' ∧ Ext H H2 := fun {H' s'} I' e' => by
    refine ⟨_, I'.unlock (e' _ _ e1) nf, fun b u e => ?_⟩
    by_cases hb : b = a
    · subst hb
      rw [upd_same, ← e, ha]
    · rw [upd_ne hb]
      refine e' _ _ ?_
      rw [upd_ne hb]
      exact e
  generalize upd H a (.frz o (.dK kvs)) = H1 at I1 e1 x1 back
  obtain ⟨hsys, hget, hex, es, ep, vs, hd, hsize, _, _⟩ := I1.frzK e1
  have got : ∀ {H' : Hp} {s' : Shared}, Inv X pins σ H' s' → Ext H1 H' → s'.heap.get? a = some o := fun I' e' => (I'.frzK (e' _ _ e1)).2.1
  have hTy : s.TypeIs (.ref a) "dict" := ⟨o, hget, hex.1⟩
  have hca : Clear g a := gd.clear na
  have hlen : ps.length = es.size := hT.len.trans hsize.symm
  have hp3 := piled_le_dictText ps
  have hsz0 : (dictText ps).length ≤ sizeLine := by omega
  unfold Builtin.dictReprAt
  refine wpOwn_bind (wpOwn_of_wpAny ?_)
  unfold Builtin.Dict.dictSlotNone
  refine wpAny_bind (wpAny_notOrdered_dict hTy ?_)
  show wpAny _ _ (pure (Value.ref a)) _ _ s
  refine wpAny_pure ?_
  rw [dictReprRunning_eq]
  refine wpOwn_bind (wpOwn_stackTailAny hg (dictGuardF_off _) (dictGuardF_pos _) ?_)
  have hn : (g.any fun c => dictGuardF (.ref a) (c, default)) = false := by
    rw [List.any_eq_false]
    intro c hcm
    rw [dictGuardF_of_clear hca c hcm]
    exact Bool.false_ne_true
  rw [hn]
  refine wpOwn_of_wpAny ?_
  have hg' := guards_under_guard hcg hg
  show wpAny _ _ (Builtin.Dict.addrOf (.ref a) >>= _) _ _ s
  refine wpAny_bind (wpAny_pure ?_)
  show wpAny _ _ (Builtin.Dict.showsAll a >>= _) _ _ s
  unfold Builtin.Dict.showsAll
  rw [if_neg (by rw [hsys]; exact Bool.false_ne_true)]
  refine wpAny_bind (wpAny_pure ?_)
  refine wpAny_bind (wpAny_dictEpoch hget hd ?_)
  refine wpAny_bind (wpAny_dictEntries hget hd ?_)
  refine wpAny_bind ?_
  rw [Std.Legacy.Range.forIn_eq_forIn_range']
  simp only [Std.Legacy.Range.size, Nat.sub_zero, Nat.add_sub_cancel, Nat.div_one]
  refine wpAny_forIn_list _
    (fun rest' r s' => ∃ i H', rest' = List.range' i (es.size - i) ∧ i ≤ es.size ∧ r = (⟨(ps.take i).toArray, bs + piled (ps.take i)⟩ : (Array Str × Nat)) ∧ Inv X pins σ H' s' ∧ Ext H1 H')
    _ ?_ ?_ _ _ ⟨0, H1, by simp, Nat.zero_le _, by simp [piled], I1, Ext.rfl'⟩
  · rintro x rest' _ s' ⟨i, H', hr, hi, rfl, I', e'⟩
    have hlt : i < es.size := by
      rcases Nat.lt_or_ge i es.size with h | h
      · exact h
      · rw [Nat.sub_eq_zero_of_le h] at hr; simp at hr
    obtain ⟨rfl, hrest⟩ : x = i ∧ rest' = List.range' (i + 1) (es.size - (i + 1)) := by
      have e : es.size - i = (es.size - (i + 1)) + 1 := by omega
      rw [e, List.range'_succ] at hr
      injection hr with h1 h2
      exact ⟨h1, h2⟩
    have hx2 : x < kvs.length := by omega
    obtain ⟨tk, tv, hp, rk, rv⟩ := hT.get x kvs[x] (List.getElem?_eq_getElem hx2)
    obtain ⟨en, f1, f2, f3⟩ := entry_of I' (e' _ _ e1) hd x hx2
    have hpl : (tk ++ ": " ++ tv).length = tk.length + 2 + tv.length := by
      rw [strLen_append, strLen_append]; rfl
    have hp1 := piled_take_succ hp
    have hp2 := piled_take_le ps (x + 1)
    rw [hpl] at hp1
    refine wpAny_bind (wpAny_dictEntries (got I' e') hd ?_)
    rw [f1]
    refine wpAny_bind (wpAny_holding (wpAny_bind (wpAny_mono (rk _ _ pins s' σ H' en.key (bs + piled (ps.take x) + 1) (x1.ext e') sb hg' gd.cons I' f2 (by omega)) (fun r2 s2 h2 => ?_) fun _ _ z => z)))
    obtain ⟨rfl, H2, I2, e2⟩ := h2
    refine wpAny_bind (wpAny_mono (rv _ _ pins s2 σ H2 en.val (bs + piled (ps.take x) + (r2.length + 3)) (x1.ext (e'.trans e2)) sb hg' gd.cons I2 f3 (by omega)) (fun r3 s3 h3 => ?_) fun _ _ z => z)
    obtain ⟨rfl, H3, I3, e3⟩ := h3
    have e13 := (e'.trans e2).trans e3
    refine wpAny_pure ?_
    refine wpAny_bind (wpAny_dictEpoch (got I3 e13) hd ?_)
    rw [if_neg (by simp)]
    have g1 : (ps.take x).toArray.push (r2 ++ ": " ++ r3) = (ps.take (x + 1)).toArray := by
      rw [List.take_add_one, hp]
      simp
    have g2 : bs + piled (ps.take x) + (r2.length + r3.length + 4) = bs + piled (ps.take (x + 1)) := by omega
    refine wpAny_pure ⟨x + 1, H3, hrest, hlt, ?_, I3, e13⟩
    rw [g1, g2]
  · rintro _ s' ⟨i, H', hr, hi, rfl, I', e'⟩
    have hin : i = es.size := by
      rcases Nat.lt_or_ge i es.size with h | h
      · have e : es.size - i = (es.size - (i + 1)) + 1 := by omega
        rw [e, List.range'_succ] at hr; exact nomatch hr
      · exact Nat.le_antisymm hi h
    rw [hin, ← hlen, List.take_length]
    refine wpAny_bind (wpAny_mkStr (wpAny_pure ?_) (by simpa [dictText] using hsz0))
    have h1 := fin (.str (dictText ps) s'.toks) { s' with toks := s'.toks + 1 } ⟨_, rfl, back (I'.tok _) e'⟩
    simpa [dictText] using h1
theorem w_dct {args : Args} : (Code.builtin "dict.__repr__" args).weight ≤ 1 := by
  first | exact Nat.le_refl _ | simp [Code.weight, Code.isCreation, Code.isGuard, Code.isCaller, Code.frames, Code.isFrame, guardIds]
theorem w_dctU {args : Args} : (Code.builtin "dict.__repr__.under" args).weight ≤ 1 := by
  first | exact Nat.le_refl _ | simp [Code.weight, Code.isCreation, Code.isGuard, Code.isCaller, Code.frames, Code.isFrame, guardIds]
theorem RpU.dct (ha : H0 a = some (.dK kvs)) (na : a ∉ outs) (hT : RpEnt X n (a :: outs) H0 kvs ps) : RpU X (n + 1) outs H0 (.ref a) (dictText ps) := fun A g pins s σ H u bs x sb hg gd I r hb => by
  cases (show u = Value.ref a from r)
  have ea := x a _ ha na
  have mu : Mut (some (HO.dK kvs)) := trivial
  obtain ⟨o, I1⟩ := I.lock ea mu
  obtain ⟨_, hget, hex, _⟩ := I1.frzK (upd_same : (upd H a (.frz o (.dK kvs))) a = _)
  refine wpAny_pyReprUnder_ref (by omega) (wpAny_pyReprObjUnder_twin (twin := "dict.__repr__.under") ⟨o, hget, hex.1⟩ F.slot_dict_repr rfl sb.room.units0
    (call_twin_own (F.quiet_dict_repr_under _) F.entry_dict_repr_under F.check_dict_repr_under ⟨o, hget, hex.1⟩ F.slot_dict_repr (F.args_dict_repr_1 _)
      (dct_at (isGuard_dict_repr_under _) (sub_code sb w_dctU e_b (units_under_dict_repr_under _ _)) hg gd I ea na x hT hb fun v s' h => ?_)))
  obtain ⟨tk, rfl, h⟩ := h
  exact ⟨⟨_, _, rfl⟩, _, _, rfl, rfl, h⟩
/-- repr of a list, of a dict, where no repr is under way -/
def rReprL (X : Cx) (n : Nat) : List V → Hp → VK → Prop := fun ys H Q => ∃ (a : Addr) (xs : List V) (ts : List Str), ys = [.ref a] ∧ H a = some (.lst xs) ∧ xs ≠ [] ∧ RpAll X n [a] H xs ts ∧ (listText ts).length ≤ sizeLine ∧ ∀ H', Ext H H' → Q (.str (listText ts)) H'
theorem call_reprL (hgd : X.A.guards = some []) (hr : Room (n + 2) X.A) : CallR X (.builtin "repr") (rReprL X n) := by
  intro pins s σ H ys us Q I r h
  obtain ⟨a, xs, ts, rfl, ea, hx, hT, hb, q⟩ := h
  obtain ⟨u, rfl, ru⟩ := r.one
  cases (show u = Value.ref a from ru)
  obtain ⟨_, its, m, rv, lv, e⟩ := I.lstM ea
  have sb : Sub X (n + 1) X.A.in1 := ⟨hr.in1, rfl⟩
  refine call_repr_slot (by have := hr.un; omega) ⟨_, e, rfl⟩ F.slot_list_repr.toG ?_
  refine wpAny_call (codeAny_call_builtin F.slot_list_repr.plain F.entry_list_repr (F.slot_list_repr.check _ _ _ _ _ _ _ _ ⟨_, e, rfl⟩ (F.args_list_repr_1 _)
    (list_at (outs := []) (H0 := H) (bs := 0) sb hgd Gd.nil I ea (by simp) (Ex.refl _ _) hx hT (by omega) fun v s' h => ?_)))
  obtain ⟨tk, rfl, H', I', e⟩ := h
  exact ⟨_, _, rfl, .str _, H', I', ⟨_, rfl⟩, q H' e⟩
def rReprDc (X : Cx) (n : Nat) : List V → Hp → VK → Prop := fun ys H Q => ∃ (a : Addr) (kvs : List (Key × V)) (ps : List Str), ys = [.ref a] ∧ H a = some (.dK kvs) ∧ RpEnt X n [a] H kvs ps ∧ (dictText ps).length ≤ sizeLine ∧ ∀ H', Ext H H' → Q (.str (dictText ps)) H'
theorem call_reprDc (hgd : X.A.guards = some []) (hr : Room (n + 2) X.A) : CallR X (.builtin "repr") (rReprDc X n) := by
  intro pins s σ H ys us Q I r h
  obtain ⟨a, kvs, ps, rfl, ea, hT, hb, q⟩ := h
  obtain ⟨u, rfl, ru⟩ := r.one
  cases (show u = Value.ref a from ru)
  have mu : Mut (some (HO.dK kvs)) := trivial
  obtain ⟨o, I1⟩ := I.lock ea mu
  obtain ⟨_, hget, hex, _⟩ := I1.frzK (upd_same : (upd H a (.frz o (.dK kvs))) a = _)
  have sb : Sub X (n + 1) X.A.in1 := ⟨hr.in1, rfl⟩
  refine call_repr_slot (by have := hr.un; omega) ⟨o, hget, hex.1⟩ F.slot_dict_repr ?_
  refine wpAny_call (codeAny_call_builtin_own (Code.quiet_builtin _ (by decide +kernel)) F.entry_dict_repr (F.slot_dict_repr.check _ _ _ _ _ _ _ _ ⟨o, hget, hex.1⟩ (F.args_dict_repr_1 _)
    (dct_at (outs := []) (H0 := H) (bs := 0) (isGuard_dict_repr _) (sub_code sb w_dct e_b (units_under_dict_repr _ _)) hgd Gd.nil I ea (by simp) (Ex.refl _ _) hT (by omega) fun v s' h => ?_)))
  obtain ⟨tk, rfl, H', I', e⟩ := h
  exact ⟨_, _, rfl, .str _, H', I', ⟨_, rfl⟩, q H' e⟩
end
end RPO
set_option Elab.async false
set_option linter.all false
set_option maxRecDepth 100000
set_option maxHeartbeats 4000000
/-! EQB: things of any kind compared one by one: x in a list or tuple, == and != of lists. -/
namespace EQB
open PySem PySem.Spec PyProof.Rows L2
open EQD
theorem relV_inj {x y : V} {u : Value} (h : RelV x u) (h' : RelV y u) : x = y := by
  cases x <;> cases y <;> simp only [L2.RelV] at h h' <;> grind
section
variable {X : Cx}
/-- y == x tells b, and changes nothing -/
def EqB (X : Cx) (y x : V) (H : Hp) (b : Bool) : Prop := ∀ (pins : List (Addr × Obj)) (σ : L2.St) (s : Shared) (v u : Value) (A : Around), Inv X pins σ H s → RelV y v → RelV x u → A.units + 64 < cLine → SeqAt.EqAt A s v u b
theorem EqB.dp {y x : V} {H : Hp} {d e : PyData} (hy : Dp X.K H y d) (hx : Dp X.K H x e) (sd : SeqAt.shaped d = true) (se : SeqAt.shaped e = true) : EqB X y x H (PyData.eqv d e) := fun pins σ s v u A I ry rx hu => by
  obtain ⟨as, r1⟩ := Dp.reads I d y v hy ry
  obtain ⟨bs, r2⟩ := Dp.reads I e x u hx rx
  exact SeqAt.eqAt_reads d e A s v u as bs r1 r2 (SeqAt.canLay_of_shaped sd) (SeqAt.canLay_of_shaped se) (SeqAt.room_of_shaped sd hu)
theorem isDct {pins : List (Addr × Obj)} {σ : L2.St} {s : Shared} {H : Hp} {a : Addr} {kvs : List (Key × V)} (I : Inv X pins σ H s) (h : H a = some (.dK kvs)) : IsDct s.heap a := by
  obtain ⟨_, _, _, _, o, es, ep, e, x, d, _⟩ := I.hok a _ h
  exact ⟨o, es, ep, e, x.1, d⟩
/-- a dict is no data else -/
theorem EqB.dctR {y : V} {a : Addr} {H : Hp} {d : PyData} {kvs : List (Key × V)} (hy : Dp X.K H y d) (h : H a = some (.dK kvs)) : EqB X y (.ref a) H false := fun pins σ s v u A I ry rx hu => by
  have D := isDct I h
  have hu0 : A.units < cLine := by omega
  cases (show u = Value.ref a from rx)
  cases hy with
  | non => cases ry; exact EqAt_none_dict D hu0
  | bl b => cases ry; exact EqAt_bool_dict b D hu0
  | int i => obtain ⟨t, rfl⟩ := ry; exact EqAt_int_dict i t D hu0
  | str z => obtain ⟨t, rfl⟩ := ry; exact EqAt_str_dict z t D hu0
  | lst hs _ =>
    cases ry
    obtain ⟨its, _, ⟨o, n, ho, hc, _, hd⟩, _⟩ := I.list hs
    exact EqAt_list_dict D ⟨o, ho, hc, n, hd⟩ hu0
  | tup hs _ =>
    cases ry
    obtain ⟨its, _, ⟨o, ho, hc, n, hd⟩, _⟩ := I.tuple hs
    exact EqAt_tuple_dict D ⟨o, ho, hc, n, hd⟩ hu0
theorem EqB.dctL {x : V} {a : Addr} {H : Hp} {d : PyData} {kvs : List (Key × V)} (hx : Dp X.K H x d) (h : H a = some (.dK kvs)) : EqB X (.ref a) x H false := fun pins σ s v u A I ry rx hu => by
  have D := isDct I h
  have hu0 : A.units < cLine := by omega
  cases (show v = Value.ref a from ry)
  cases hx with
  | non => cases rx; exact EqAt_dict_none D hu0
  | bl b => cases rx; exact EqAt_dict_bool b D hu0
  | int i => obtain ⟨t, rfl⟩ := rx; exact EqAt_dict_int i t D hu0
  | str z => obtain ⟨t, rfl⟩ := rx; exact EqAt_dict_str z t D hu0
  | lst hs _ =>
    cases rx
    obtain ⟨its, _, ⟨o, n, ho, hc, _, hd⟩, _⟩ := I.list hs
    exact EqAt_dict_list D ⟨o, ho, hc, n, hd⟩ hu0
  | tup hs _ =>
    cases rx
    obtain ⟨its, _, ⟨o, ho, hc, n, hd⟩, _⟩ := I.tuple hs
    exact EqAt_dict_tuple D ⟨o, ho, hc, n, hd⟩ hu0
/-- x in a list or a tuple -/
def rInB (X : Cx) (neg : Bool) : R2 := fun x y H Q => ∃ (p : Addr) (ys : List V) (e : V → Bool), y = .ref p ∧ (SqL X.K H p ys ∨ SqT X.K H p ys) ∧ (∀ z ∈ ys, EqB X z x H (e z)) ∧ Q (.bl (if neg = true then !ys.any e else ys.any e)) H
open Classical in
noncomputable def eOf (ys : List V) (e : V → Bool) (u : Value) : Bool := if h : ∃ z, z ∈ ys ∧ RelV z u then e h.choose else false
theorem eOf_eq {ys : List V} {e : V → Bool} {z : V} {u : Value} (hz : z ∈ ys) (r : RelV z u) : eOf ys e u = e z := by
  have h : ∃ z, z ∈ ys ∧ RelV z u := ⟨z, hz, r⟩
  unfold eOf
  rw [dif_pos h, relV_inj h.choose_spec.2 r]
theorem any_eOf {ws : List V} {e : V → Bool} : ∀ {ys : List V} {its : List Value}, (∀ z ∈ ys, z ∈ ws) → Vals ys its → its.any (eOf ws e) = ys.any e
  | [], _, _, .nil => rfl
  | z :: ys, _, hs, .cons r t => by
    rw [List.any_cons, List.any_cons, eOf_eq (hs z List.mem_cons_self) r, any_eOf (fun x hx => hs x (List.mem_cons_of_mem _ hx)) t]
theorem vals_mem {ys : List V} {its : List Value} (r : Vals ys its) {u : Value} (hu : u ∈ its) : ∃ z, z ∈ ys ∧ RelV z u := by
  induction r with
  | nil => cases hu
  | cons r t ih =>
    rcases List.mem_cons.mp hu with rfl | hu
    · exact ⟨_, List.mem_cons_self, r⟩
    · obtain ⟨z, hz, q⟩ := ih hu
      exact ⟨z, List.mem_cons_of_mem _ hz, q⟩
theorem op_inB (hu : X.A.units + 65 < cLine) : OpR X (compareOp .In) (rInB X false) := by
  intro pins s σ H x y v u Q I rx ry h
  obtain ⟨p, ys, e, rfl, hs, he, q⟩ := h
  cases (show u = Value.ref p from ry)
  have go : ∀ {its : List Value}, Vals ys its → (∀ w, w ∈ its.toArray → SeqAt.EqAt X.A.in1 s w v (eOf ys e w)) := fun {its} r w hw => by
    obtain ⟨z, hz, rz⟩ := vals_mem r (by simpa using hw)
    rw [eOf_eq hz rz]
    exact he z hz pins σ s w v X.A.in1 I rz rx (by show X.A.units + 1 + 64 < cLine; omega)
  rcases hs with hs | hs
  · obtain ⟨its, r, ⟨o, n, ho, hc, _, hd⟩, _⟩ := I.list hs
    refine SeqAt.in_listAt (eOf ys e) ⟨o, ho, hc, n, hd⟩ (go r) ⟨.bl _, H, I, rfl, ?_⟩
    rw [List.any_toArray, any_eOf (fun _ h => h) r]
    exact q
  · obtain ⟨its, r, ⟨o, ho, hc, n, hd⟩, _⟩ := I.tuple hs
    refine SeqAt.in_tupleAt (eOf ys e) ⟨o, ho, hc, n, hd⟩ (go r) ⟨.bl _, H, I, rfl, ?_⟩
    rw [List.any_toArray, any_eOf (fun _ h => h) r]
    exact q
theorem op_notInB (hu : X.A.units + 65 < cLine) : OpR X (compareOp .NotIn) (rInB X true) := by
  intro pins s σ H x y v u Q I rx ry h
  obtain ⟨p, ys, e, rfl, hs, he, q⟩ := h
  cases (show u = Value.ref p from ry)
  have go : ∀ {its : List Value}, Vals ys its → (∀ w, w ∈ its.toArray → SeqAt.EqAt X.A.in1 s w v (eOf ys e w)) := fun {its} r w hw => by
    obtain ⟨z, hz, rz⟩ := vals_mem r (by simpa using hw)
    rw [eOf_eq hz rz]
    exact he z hz pins σ s w v X.A.in1 I rz rx (by show X.A.units + 1 + 64 < cLine; omega)
  rcases hs with hs | hs
  · obtain ⟨its, r, ⟨o, n, ho, hc, _, hd⟩, _⟩ := I.list hs
    refine SeqAt.notIn_listAt (eOf ys e) ⟨o, ho, hc, n, hd⟩ (go r) ⟨.bl _, H, I, rfl, ?_⟩
    rw [List.any_toArray, any_eOf (fun _ h => h) r]
    exact q
  · obtain ⟨its, r, ⟨o, ho, hc, n, hd⟩, _⟩ := I.tuple hs
    refine SeqAt.notIn_tupleAt (eOf ys e) ⟨o, ho, hc, n, hd⟩ (go r) ⟨.bl _, H, I, rfl, ?_⟩
    rw [List.any_toArray, any_eOf (fun _ h => h) r]
    exact q
/-- two lists: of unlike lengths, or compared item by item -/
inductive EqL (X : Cx) (H : Hp) : List V → List V → Bool → Prop
  | len {xs ys : List V} : xs.length ≠ ys.length → EqL X H xs ys false
  | all {xs ys : List V} {e : Nat → Bool} : xs.length = ys.length → (∀ i x y, xs[i]? = some x → ys[i]? = some y → EqB X x y H (e i)) → EqL X H xs ys ((List.range xs.length).all e)
/-- == and != of two lists -/
def rLsB (X : Cx) (neg : Bool) : R2 := fun x y H Q => ∃ (p q : Addr) (xs ys : List V) (b : Bool), x = .ref p ∧ y = .ref q ∧ p ≠ q ∧ SqL X.K H p xs ∧ SqL X.K H q ys ∧ EqL X H xs ys b ∧ Q (.bl (if neg = true then !b else b)) H
theorem items {pins : List (Addr × Obj)} {σ : L2.St} {s : Shared} {H : Hp} {xs ys : List V} {e : Nat → Bool} {its js : List Value} {A : Around} (I : Inv X pins σ H s) (r1 : Vals xs its) (r2 : Vals ys js) (hu : A.units + 64 < cLine) (he : ∀ i x y, xs[i]? = some x → ys[i]? = some y → EqB X x y H (e i)) :
    ∀ j (h1 : j < its.toArray.size) (h2 : j < js.toArray.size), SeqAt.EqAt A s its.toArray[j] js.toArray[j] (e j) := fun j h1 h2 => by
  have l1 := r1.length
  have l2 := r2.length
  have h1' : j < xs.length := by rw [l1]; simpa using h1
  have h2' : j < ys.length := by rw [l2]; simpa using h2
  obtain ⟨u1, e1, q1⟩ := r1.get (List.getElem?_eq_getElem h1')
  obtain ⟨u2, e2, q2⟩ := r2.get (List.getElem?_eq_getElem h2')
  have f1 : its.toArray[j] = u1 := by
    have := (List.getElem?_eq_some_iff.mp e1).2
    simpa using this
  have f2 : js.toArray[j] = u2 := by
    have := (List.getElem?_eq_some_iff.mp e2).2
    simpa using this
  rw [f1, f2]
  exact he j _ _ (List.getElem?_eq_getElem h1') (List.getElem?_eq_getElem h2') pins σ s u1 u2 A I q1 q2 hu
theorem op_eqL (hu : X.A.units + 65 < cLine) : OpR X (compareOp .Eq) (rLsB X false) := by
  intro pins s σ H x y v u Q I rx ry h
  obtain ⟨p, q, xs, ys, b, rfl, rfl, pq, hp, hq, eb, k⟩ := h
  cases (show v = Value.ref p from rx)
  cases (show u = Value.ref q from ry)
  obtain ⟨its, r1, ⟨o, n, ho, hc, _, hd⟩, _⟩ := I.list hp
  obtain ⟨js, r2, ⟨o2, n2, ho2, hc2, _, hd2⟩, _⟩ := I.list hq
  have L1 : s.heap.IsList p its.toArray := ⟨o, ho, hc, n, hd⟩
  have L2' : s.heap.IsList q js.toArray := ⟨o2, ho2, hc2, n2, hd2⟩
  have l1 := r1.length
  have l2 := r2.length
  show wpAny _ _ (richCompare .Eq (.ref p) (.ref q)) _ _ _
  cases eb with
  | len hne => exact SeqAt.RcAt.lists_lengths L1 L2' (by simp; omega) (by omega) _ _ _ _ ⟨.bl _, H, I, rfl, k⟩
  | @all e hl he =>
    have hz : its.toArray.size = js.toArray.size := by simp; omega
    refine SeqAt.RcAt.lists L1 L2' hz (by omega) (items (A := X.A.in1) I r1 r2 (by show X.A.units + 1 + 64 < cLine; omega) he) _ _ _ _ ⟨.bl _, H, I, rfl, ?_⟩
    have : its.toArray.size = xs.length := by simp; omega
    rw [this]
    exact k
theorem op_neL (hu : X.A.units + 65 < cLine) : OpR X (compareOp .NotEq) (rLsB X true) := by
  intro pins s σ H x y v u Q I rx ry h
  obtain ⟨p, q, xs, ys, b, rfl, rfl, pq, hp, hq, eb, k⟩ := h
  cases (show v = Value.ref p from rx)
  cases (show u = Value.ref q from ry)
  obtain ⟨its, r1, ⟨o, n, ho, hc, _, hd⟩, _⟩ := I.list hp
  obtain ⟨js, r2, ⟨o2, n2, ho2, hc2, _, hd2⟩, _⟩ := I.list hq
  have L1 : s.heap.IsList p its.toArray := ⟨o, ho, hc, n, hd⟩
  have L2' : s.heap.IsList q js.toArray := ⟨o2, ho2, hc2, n2, hd2⟩
  have l1 := r1.length
  have l2 := r2.length
  show wpAny _ _ (richCompare .NotEq (.ref p) (.ref q)) _ _ _
  cases eb with
  | len hne => exact SeqAt.RcNeAt.lists_lengths L1 L2' (by simp; omega) (by omega) _ _ _ _ ⟨.bl _, H, I, rfl, k⟩
  | @all e hl he =>
    have hz : its.toArray.size = js.toArray.size := by simp; omega
    refine SeqAt.RcNeAt.lists L1 L2' hz (by omega) (items (A := X.A.in1) I r1 r2 (by show X.A.units + 1 + 64 < cLine; omega) he) _ _ _ _ ⟨.bl _, H, I, rfl, ?_⟩
    have : its.toArray.size = xs.length := by simp; omega
    rw [this]
    exact k
end
end EQB
set_option Elab.async false
set_option linter.all false
set_option maxRecDepth 100000
set_option maxHeartbeats 4000000
/-! THI: THG with the type of each thing, and the text that it is: things of many kinds (None, a bool, a number, a text, lists, tuples, dicts), each with its repr's text. -/
namespace THI
open PySem PySem.Spec PyProof.Rows L2
open Builtin Builtin.List
/-- is it a whole number, a bool, or else -/
inductive Kn where
  | whole (i : Int)
  | flag (b : Bool)
  | text (s : Str)
  | non
  | lst
  | tup
  | dct
def Kn.tyn : Kn → String
  | .whole _ => "int"
  | .flag _ => "bool"
  | .text _ => "str"
  | .non => "NoneType"
  | .lst => "list"
  | .tup => "tuple"
  | .dct => "dict"
def Kn.eqI : Kn → Int → Bool
  | .whole j, i => decide (i = j)
  | .flag b, i => decide (i = if b then 1 else 0)
  | _, _ => false
def Kn.isInt : Kn → Bool
  | .whole _ => true
  | .flag _ => true
  | _ => false
def Kn.isFlag : Kn → Bool
  | .flag _ => true
  | _ => false
def Kn.isStr : Kn → Bool
  | .text _ => true
  | _ => false
def Kn.isLst : Kn → Bool
  | .lst => true
  | _ => false
def Kn.isTup : Kn → Bool
  | .tup => true
  | _ => false
theorem Kn.kInt {K : PySem.W.Frag} (k : Kn) : PySem.W.kitOne K (.type k.tyn) (.type "int") = some k.isInt :=
  match k with
  | .whole i => (kit_ty (by decide +kernel) : PySem.W.kitOne K (.type "int") (.type "int") = some true)
  | .flag b => (kit_ty (by decide +kernel) : PySem.W.kitOne K (.type "bool") (.type "int") = some true)
  | .text s => (kit_ty (by decide +kernel) : PySem.W.kitOne K (.type "str") (.type "int") = some false)
  | .non => (kit_ty (by decide +kernel) : PySem.W.kitOne K (.type "NoneType") (.type "int") = some false)
  | .lst => (kit_ty (by decide +kernel) : PySem.W.kitOne K (.type "list") (.type "int") = some false)
  | .tup => (kit_ty (by decide +kernel) : PySem.W.kitOne K (.type "tuple") (.type "int") = some false)
  | .dct => (kit_ty (by decide +kernel) : PySem.W.kitOne K (.type "dict") (.type "int") = some false)
theorem Kn.kFlag {K : PySem.W.Frag} (k : Kn) : PySem.W.kitOne K (.type k.tyn) (.type "bool") = some k.isFlag :=
  match k with
  | .whole i => (kit_ty (by decide +kernel) : PySem.W.kitOne K (.type "int") (.type "bool") = some false)
  | .flag b => (kit_ty (by decide +kernel) : PySem.W.kitOne K (.type "bool") (.type "bool") = some true)
  | .text s => (kit_ty (by decide +kernel) : PySem.W.kitOne K (.type "str") (.type "bool") = some false)
  | .non => (kit_ty (by decide +kernel) : PySem.W.kitOne K (.type "NoneType") (.type "bool") = some false)
  | .lst => (kit_ty (by decide +kernel) : PySem.W.kitOne K (.type "list") (.type "bool") = some false)
  | .tup => (kit_ty (by decide +kernel) : PySem.W.kitOne K (.type "tuple") (.type "bool") = some false)
  | .dct => (kit_ty (by decide +kernel) : PySem.W.kitOne K (.type "dict") (.type "bool") = some false)
theorem Kn.kStr {K : PySem.W.Frag} (k : Kn) : PySem.W.kitOne K (.type k.tyn) (.type "str") = some k.isStr :=
  match k with
  | .whole i => (kit_ty (by decide +kernel) : PySem.W.kitOne K (.type "int") (.type "str") = some false)
  | .flag b => (kit_ty (by decide +kernel) : PySem.W.kitOne K (.type "bool") (.type "str") = some false)
  | .text s => (kit_ty (by decide +kernel) : PySem.W.kitOne K (.type "str") (.type "str") = some true)
  | .non => (kit_ty (by decide +kernel) : PySem.W.kitOne K (.type "NoneType") (.type "str") = some false)
  | .lst => (kit_ty (by decide +kernel) : PySem.W.kitOne K (.type "list") (.type "str") = some false)
  | .tup => (kit_ty (by decide +kernel) : PySem.W.kitOne K (.type "tuple") (.type "str") = some false)
  | .dct => (kit_ty (by decide +kernel) : PySem.W.kitOne K (.type "dict") (.type "str") = some false)
theorem Kn.kLst {K : PySem.W.Frag} (k : Kn) : PySem.W.kitOne K (.type k.tyn) (.type "list") = some k.isLst :=
  match k with
  | .whole i => (kit_ty (by decide +kernel) : PySem.W.kitOne K (.type "int") (.type "list") = some false)
  | .flag b => (kit_ty (by decide +kernel) : PySem.W.kitOne K (.type "bool") (.type "list") = some false)
  | .text s => (kit_ty (by decide +kernel) : PySem.W.kitOne K (.type "str") (.type "list") = some false)
  | .non => (kit_ty (by decide +kernel) : PySem.W.kitOne K (.type "NoneType") (.type "list") = some false)
  | .lst => (kit_ty (by decide +kernel) : PySem.W.kitOne K (.type "list") (.type "list") = some true)
  | .tup => (kit_ty (by decide +kernel) : PySem.W.kitOne K (.type "tuple") (.type "list") = some false)
  | .dct => (kit_ty (by decide +kernel) : PySem.W.kitOne K (.type "dict") (.type "list") = some false)
theorem Kn.kTup {K : PySem.W.Frag} (k : Kn) : PySem.W.kitOne K (.type k.tyn) (.type "tuple") = some k.isTup :=
  match k with
  | .whole i => (kit_ty (by decide +kernel) : PySem.W.kitOne K (.type "int") (.type "tuple") = some false)
  | .flag b => (kit_ty (by decide +kernel) : PySem.W.kitOne K (.type "bool") (.type "tuple") = some false)
  | .text s => (kit_ty (by decide +kernel) : PySem.W.kitOne K (.type "str") (.type "tuple") = some false)
  | .non => (kit_ty (by decide +kernel) : PySem.W.kitOne K (.type "NoneType") (.type "tuple") = some false)
  | .lst => (kit_ty (by decide +kernel) : PySem.W.kitOne K (.type "list") (.type "tuple") = some false)
  | .tup => (kit_ty (by decide +kernel) : PySem.W.kitOne K (.type "tuple") (.type "tuple") = some true)
  | .dct => (kit_ty (by decide +kernel) : PySem.W.kitOne K (.type "dict") (.type "tuple") = some false)
/-- all but tables stay -/
def SN (H H' : Hp) : Prop := ∀ b o, H b = some o → (∀ ps, o ≠ .tbl ps) → H' b = some o
theorem SN.of {H H' : Hp} (s : Same H H') : SN H H' := fun b o e _ => s b o e
theorem SN.up {H0 H H' : Hp} (s : Same H0 H) (s1 : SN H H') : SN H0 H' := fun b o e n => s1 b o (s b o e) n
theorem SN.trans {H0 H H' : Hp} (s : SN H0 H) (s1 : SN H H') : SN H0 H' := fun b o e n => s1 b o (s b o e n) n
/-- no cell but a table's -/
def NT (H : Hp) (a : Addr) : Prop := ∀ v, H a = some v → ∃ ps, v = .tbl ps
theorem NT.of {H : Hp} {a : Addr} (h : H a = none) : NT H a := fun v e => by
  rw [h] at e
  cases e
theorem NT.up {H H' : Hp} {a : Addr} (s : SN H H') (h : NT H' a) : NT H a := fun v e => Classical.byContradiction fun n => n (h v (s a v e fun ps z => n ⟨ps, z⟩))
/-- data, with its repr's text -/
structure Dt (H : Hp) (x : V) (y : PyData) (t : Str) (n : Nat) : Prop where
  dpN : ∀ K H1, SN H H1 → Dp K H1 x y
  rpN : ∀ X outs H1, SN H H1 → (∀ o ∈ outs, NT H o) → RPO.RpU X n outs H1 x t
inductive DtAll (H : Hp) : List V → List PyData → List Str → Nat → Prop
  | nil {n : Nat} : DtAll H [] [] [] n
  | cons {x : V} {y : PyData} {t : Str} {xs : List V} {ys : List PyData} {ts : List Str} {n : Nat} : Dt H x y t n → DtAll H xs ys ts n → DtAll H (x :: xs) (y :: ys) (t :: ts) n
theorem none_up {H H' : Hp} {o : Addr} (s : Same H H') (h : H' o = none) : H o = none := by
  cases e : H o with
  | none => rfl
  | some z =>
    rw [s _ _ e] at h
    cases h
theorem Dt.same {H H' : Hp} {x : V} {y : PyData} {t : Str} {n : Nat} (h : Dt H x y t n) (s : Same H H') : Dt H' x y t n :=
  ⟨fun K H1 s1 => h.dpN K H1 (SN.up s s1), fun X outs H1 s1 ho => h.rpN X outs H1 (SN.up s s1) fun o q => NT.up (SN.of s) (ho o q)⟩
theorem Dt.mono {H : Hp} {x : V} {y : PyData} {t : Str} {n m : Nat} (h : Dt H x y t n) (nm : n ≤ m) : Dt H x y t m :=
  ⟨h.dpN, fun X outs H1 s1 ho => (h.rpN X outs H1 s1 ho).mono nm⟩
theorem DtAll.dp {H H1 : Hp} {K : PySem.W.Frag} (s : SN H H1) : ∀ {xs : List V} {ys : List PyData} {ts : List Str} {n : Nat}, DtAll H xs ys ts n → DpAll K H1 xs ys
  | _, _, _, _, .nil => .nil
  | _, _, _, _, .cons a b => .cons (a.dpN _ _ s) (DtAll.dp s b)
theorem DtAll.rp {H H1 : Hp} {X : Cx} {outs : List Addr} (s : SN H H1) (ho : ∀ o ∈ outs, NT H o) : ∀ {xs : List V} {ys : List PyData} {ts : List Str} {n : Nat}, DtAll H xs ys ts n → RPO.RpAll X n outs H1 xs ts
  | _, _, _, _, .nil => .nil
  | _, _, _, _, .cons a b => .cons (a.rpN _ _ _ s ho) (DtAll.rp s ho b)
/-- nothing is there -/
def N0 : Hp := fun _ => none
theorem s0 (H : Hp) : Same N0 H := fun _ _ e => nomatch e
theorem Dt.non {n : Nat} : Dt N0 .non .none "None" n := ⟨fun _ _ _ => .non, fun _ _ _ _ _ => .non⟩
theorem Dt.bl {n : Nat} (b : Bool) : Dt N0 (.bl b) (.bool b) (if b then "True" else "False") n := ⟨fun _ _ _ => .bl b, fun _ _ _ _ _ => .bl⟩
theorem Dt.int {n : Nat} {i : Int} (h : i.natAbs.log2 < 1920) : Dt N0 (.int i) (.int i) (toString i) n := ⟨fun _ _ _ => .int i, fun _ _ _ _ _ => .int h⟩
theorem Dt.str {n : Nat} (z : Str) : Dt N0 (.str z) (.str z) (reprText z) n := ⟨fun _ _ _ => .str z, fun _ _ _ _ _ => .str⟩
section
variable {H0 H : Hp} {a : Addr} {xs : List V} {ys : List PyData} {ts : List Str} {n : Nat}
theorem out_of {H : Hp} {a : Addr} {o : HO} {outs : List Addr} (h : H a = some o) (nt : ∀ ps, o ≠ .tbl ps) (ho : ∀ o ∈ outs, NT H o) : a ∉ outs := fun z => by
  obtain ⟨ps, e⟩ := ho a z _ h
  exact nt ps e
theorem SN.tup {H1 : Hp} (s : SN H H1) (h : H a = some (.tup xs)) : H1 a = some (.tup xs) := s _ _ h fun _ z => nomatch z
theorem SN.lst {H1 : Hp} (s : SN H H1) (h : H a = some (.lst xs)) : H1 a = some (.lst xs) := s _ _ h fun _ z => nomatch z
theorem SN.dK {H1 : Hp} {kvs : List (Key × V)} (s : SN H H1) (h : H a = some (.dK kvs)) : H1 a = some (.dK kvs) := s _ _ h fun _ z => nomatch z
theorem Dt.tup (h : H a = some (.tup xs)) (hs : DtAll H0 xs ys ts n) (s : Same H0 H) (z : H0 a = none) : Dt H (.ref a) (.tuple ys) (tupleText ts) (n + 1) :=
  ⟨fun K H1 s1 => .tup (SqT.of (s1.tup h)) (hs.dp (SN.up s s1)), fun X outs H1 s1 ho => .tup (s1.tup h) (out_of h (fun _ z => nomatch z) ho) (hs.rp (SN.up s s1) fun o q => by
    rcases List.mem_cons.mp q with rfl | q
    · exact NT.of z
    · exact NT.up (SN.of s) (ho o q))⟩
theorem Dt.list (h : H a = some (.lst xs)) (hx : xs ≠ []) (hs : DtAll H0 xs ys ts n) (s : Same H0 H) (z : H0 a = none) : Dt H (.ref a) (.list ys) (listText ts) (n + 1) :=
  ⟨fun K H1 s1 => .lst (SqL.of (s1.lst h)) (hs.dp (SN.up s s1)), fun X outs H1 s1 ho => .list (s1.lst h) (out_of h (fun _ z => nomatch z) ho) hx (hs.rp (SN.up s s1) fun o q => by
    rcases List.mem_cons.mp q with rfl | q
    · exact NT.of z
    · exact NT.up (SN.of s) (ho o q))⟩
theorem Dt.list0 (h : H a = some (.lst [])) : Dt H (.ref a) (.list []) "[]" n :=
  ⟨fun K H1 s1 => .lst (SqL.of (s1.lst h)) .nil, fun X outs H1 s1 ho => .list0 (s1.lst h) (out_of h (fun _ z => nomatch z) ho)⟩
end
/-- a thing -/
structure Thg (H : Hp) (x : V) (k : Kn) (t : Str) (n : Nat) : Prop where
  eqN : ∀ X H1, SN H H1 → ∀ i : Int, EQB.EqB X (.int i) x H1 (k.eqI i)
  rpN : ∀ X outs H1, SN H H1 → (∀ o ∈ outs, NT H o) → RPO.RpU X n outs H1 x t
  tyN : ∀ K H1, SN H H1 → TyX K H1 x (.type k.tyn)
  val : ∀ i, k = .whole i → x = .int i
  flg : ∀ b, k = .flag b → x = .bl b
  txt : ∀ s, k = .text s → x = .str s
  len : t.length ≤ 100
section
variable {H H' : Hp} {x : V} {k : Kn} {t : Str} {n : Nat}
theorem Thg.eq (h : Thg H x k t n) (X : Cx) (H1 : Hp) (s : Same H H1) (i : Int) : EQB.EqB X (.int i) x H1 (k.eqI i) := h.eqN X H1 (SN.of s) i
theorem Thg.rp (h : Thg H x k t n) (X : Cx) (outs : List Addr) (H1 : Hp) (s : Same H H1) (ho : ∀ o ∈ outs, H o = none) : RPO.RpU X n outs H1 x t := h.rpN X outs H1 (SN.of s) fun o q => NT.of (ho o q)
theorem Thg.ty (h : Thg H x k t n) (K : PySem.W.Frag) (H1 : Hp) (s : Same H H1) : ∃ ty : String, TyX K H1 x (.type ty) ∧ PySem.W.kitOne K (.type ty) (.type "int") = some k.isInt ∧ PySem.W.kitOne K (.type ty) (.type "bool") = some k.isFlag := ⟨k.tyn, h.tyN K H1 (SN.of s), k.kInt, k.kFlag⟩
theorem Thg.same (h : Thg H x k t n) (s : Same H H') : Thg H' x k t n :=
  ⟨fun X H1 s1 => h.eqN X H1 (SN.up s s1), fun X outs H1 s1 ho => h.rpN X outs H1 (SN.up s s1) fun o q => NT.up (SN.of s) (ho o q), fun K H1 s1 => h.tyN K H1 (SN.up s s1), h.val, h.flg, h.txt, h.len⟩
theorem Thg.mono {m : Nat} (h : Thg H x k t n) (nm : n ≤ m) : Thg H x k t m := ⟨h.eqN, fun X outs H1 s1 ho => (h.rpN X outs H1 s1 ho).mono nm, h.tyN, h.val, h.flg, h.txt, h.len⟩
theorem Thg.of {y : PyData} (d : Dt H x y t n) (sh : SeqAt.shaped y = true) (e : ∀ i : Int, PyData.eqv (.int i) y = k.eqI i) (ty : ∀ K H1, SN H H1 → TyX K H1 x (.type k.tyn))
    (val : ∀ i, k = .whole i → x = .int i) (flg : ∀ b, k = .flag b → x = .bl b) (txt : ∀ s, k = .text s → x = .str s) (len : t.length ≤ 100) : Thg H x k t n :=
  ⟨fun X H1 s i => by
    rw [← e i]
    exact EQB.EqB.dp (.int i) (d.dpN _ _ s) rfl sh, d.rpN, ty, val, flg, txt, len⟩
theorem Thg.int {i : Int} (h : i.natAbs.log2 < 1920) (l : ((toString i : String) : Str).length ≤ 100) : Thg N0 (.int i) (.whole i) (toString i) n :=
  .of (Dt.int h) rfl (fun j => by rw [Bool.eq_iff_iff]; simp [PyData.eqv, Kn.eqI]) (fun K H1 _ => .base (.int i)) (fun j e => by cases e; rfl) (fun b e => by cases e) (fun s e => by cases e) l
theorem Thg.bl (b : Bool) : Thg N0 (.bl b) (.flag b) (if b then "True" else "False") n :=
  .of (Dt.bl b) rfl (fun j => by rw [Bool.eq_iff_iff]; cases b <;> simp [PyData.eqv, Kn.eqI]) (fun K H1 _ => .base (.bl b)) (fun j e => by cases e) (fun c e => by cases e; rfl) (fun s e => by cases e) (by cases b <;> decide)
theorem Thg.non : Thg N0 .non .non "None" n :=
  .of Dt.non rfl (fun j => by simp [PyData.eqv, Kn.eqI]) (fun K H1 _ => .base .non) (fun j e => by cases e) (fun b e => by cases e) (fun s e => by cases e) (by decide)
theorem Thg.str (z : Str) (ok : PyData.strOk z = true) (l : (reprText z).length ≤ 100) : Thg N0 (.str z) (.text z) (reprText z) n :=
  .of (Dt.str z) (by simp [SeqAt.shaped, PyData.canLay0, PyData.depth, ok]) (fun j => by simp [PyData.eqv, Kn.eqI]) (fun K H1 _ => .base (.str z)) (fun j e => by cases e) (fun b e => by cases e) (fun s e => by cases e; rfl) l
theorem Thg.lst {a : Addr} {xs : List V} {ys : List PyData} (h : H a = some (.lst xs)) (d : Dt H (.ref a) (.list ys) t n) (sh : SeqAt.shaped (.list ys) = true) (l : t.length ≤ 100) : Thg H (.ref a) .lst t n :=
  .of d sh (fun j => by simp [PyData.eqv, Kn.eqI]) (fun K H1 s => .base (.lst (s.lst h))) (fun j e => by cases e) (fun b e => by cases e) (fun s e => by cases e) l
theorem Thg.tup {a : Addr} {xs : List V} {ys : List PyData} (h : H a = some (.tup xs)) (d : Dt H (.ref a) (.tuple ys) t n) (sh : SeqAt.shaped (.tuple ys) = true) (l : t.length ≤ 100) : Thg H (.ref a) .tup t n :=
  .of d sh (fun j => by simp [PyData.eqv, Kn.eqI]) (fun K H1 s => .base (.tup (s.tup h))) (fun j e => by cases e) (fun b e => by cases e) (fun s e => by cases e) l
theorem Thg.dct {a : Addr} {kvs : List (Key × V)} {ps : List Str} (h : H a = some (.dK kvs)) (es : ∀ X outs H1, RPO.RpEnt X n (a :: outs) H1 kvs ps) (l : (dictText ps).length ≤ 100) : Thg H (.ref a) .dct (dictText ps) (n + 1) :=
  ⟨fun X H1 s i => EQB.EqB.dctR (.int i) (s.dK h), fun X outs H1 s ho => .dct (s.dK h) (out_of h (fun _ z => nomatch z) ho) (es X outs H1), fun K H1 s => .base (.dK (s.dK h)), fun j e => (by cases e), fun b e => (by cases e), fun s e => (by cases e), l⟩
end
open Classical in
/-- all but some cells -/
noncomputable def out (q : Addr → Prop) (H : Hp) : Hp := fun a => if q a then none else H a
section
variable {q : Addr → Prop} {H H' : Hp} {a : Addr}
theorem out_le : Same (out q H) H := fun a o e => by
  unfold out at e
  by_cases c : q a
  · rw [if_pos c] at e
    cases e
  · rw [if_neg c] at e
    exact e
theorem out_not {o : HO} (e : out q H a = some o) : ¬ q a := fun c => by
  unfold out at e
  rw [if_pos c] at e
  cases e
theorem out_at {o : HO} (e : H a = some o) (n : ¬ q a) : out q H a = some o := by
  unfold out
  rw [if_neg n]
  exact e
theorem out_none (e : H a = none) : out q H a = none := by
  unfold out
  rw [e, ite_self]
theorem out_kp (k : ∀ b o, H b = some o → ¬ q b → H' b = some o) : Same (out q H) (out q H') := fun a o e => out_at (k a o (out_le a o e) (out_not e)) (out_not e)
theorem out_same (s : Same H H') : Same (out q H) (out q H') := out_kp fun b o e _ => s b o e
theorem out_ne (e : H a = none) (n : ∀ b, q b → H b ≠ none) : ¬ q a := fun z => n a z e
theorem same_some (s : Same H H') (n : ∀ b, q b → H b ≠ none) : ∀ b, q b → H' b ≠ none := fun b c z => n b c (none_up s z)
end
/-- x in a list or a tuple, within a comprehension too -/
def rInA (K : PySem.W.Frag) (neg : Bool) : R2 := fun x y H Q => ∃ (p : Addr) (ys : List V) (e : V → Bool), y = .ref p ∧ (SqL K H p ys ∨ SqT K H p ys) ∧ (∀ X : Cx, X.K = K → ∀ z ∈ ys, EQB.EqB X z x H (e z)) ∧ Q (.bl (if neg = true then !(ys.any e) else ys.any e)) H
theorem op_inA {X : Cx} {K : PySem.W.Frag} (hX : X.K = K) (hu : X.A.units + 65 < cLine) : OpR X (compareOp .In) (rInA K false) := fun pins s σ H x y v u Q I rx ry ⟨p, ys, e, ey, hs, he, q⟩ => by
  subst hX
  exact EQB.op_inB hu pins s σ H x y v u Q I rx ry ⟨p, ys, e, ey, hs, fun z hz => he X rfl z hz, q⟩
theorem op_notInA {X : Cx} {K : PySem.W.Frag} (hX : X.K = K) (hu : X.A.units + 65 < cLine) : OpR X (compareOp .NotIn) (rInA K true) := fun pins s σ H x y v u Q I rx ry ⟨p, ys, e, ey, hs, he, q⟩ => by
  subst hX
  exact EQB.op_notInB hu pins s σ H x y v u Q I rx ry ⟨p, ys, e, ey, hs, fun z hz => he X rfl z hz, q⟩
end THI
set_option Elab.async false
set_option linter.all false
set_option maxRecDepth 100000
set_option maxHeartbeats 4000000
namespace K04
open PySem PySem.Spec PyProof.Rows L2
open C8 (Cal Mak Met pe_c pe_mk pe_mt pe_mt0)
open SX (S)
open TD
open PySem.Builtin PySem.Builtin.List
/-- the held dict's cells aren't at D -/
def Cel (h D : Addr) (H : Hp) : Prop := ∃ la n m, H h = some (.dK (hd0 la n m)) ∧ la ≠ D ∧ h ≠ D
theorem Cel.kp {h D : Addr} {H H' : Hp} (x : Cel h D H) (k : Kp h H H') : Cel h D H' := by
  obtain ⟨la, n, m, e, n1, n2⟩ := x
  obtain ⟨n', m', e'⟩ := k.2 _ _ _ e
  exact ⟨la, n', m', e', n1, n2⟩
theorem Cel.of {h D : Addr} {H : Hp} {c : Nat} (x : Held H h c) (f : H D = none) : Cel h D H := by
  obtain ⟨la, ns, n, m, e1, e2, _⟩ := x
  exact ⟨la, n, m, e1, ne_of_none e2 f, ne_of_none e1 f⟩
theorem Cel.ne {h D : Addr} {H : Hp} (x : Cel h D H) : D ≠ h := by
  obtain ⟨_, _, _, _, _, n⟩ := x
  exact n.symm
theorem Held.put {h D : Addr} {H : Hp} {o : HO} {c : Nat} (x : Held H h c) (y : Cel h D H) : Held (upd H D o) h c := by
  obtain ⟨la, ns, n, m, e1, e2, e3⟩ := x
  obtain ⟨la', n', m', e', n1, n2⟩ := y
  cases hd_inj (Option.some.inj (e1.symm.trans e'))
  exact ⟨la, ns, n, m, by rw [upd_ne n2]; exact e1, by rw [upd_ne n1]; exact e2, e3⟩
theorem Cel.put {h D : Addr} {H : Hp} {o : HO} (x : Cel h D H) : Cel h D (upd H D o) := by
  obtain ⟨la', n', m', e', n1, n2⟩ := x
  exact ⟨la', n', m', by rw [upd_ne n2]; exact e', n1, n2⟩
theorem Th.same {H H' : Hp} {v : V} {T : Int × Int → Prop} (h : Th H v T) (s : Same H H') : Th H' v T := by
  cases h with
  | txt l => exact .txt l
  | oth n => exact .oth (n.same s)
/-- a thing, the fraction that it tells, its text -/
structure Tg (G : Hp) (v : V) (T : Int × Int → Prop) (t : Str) : Prop where
  th : Th G v T
  rp : ∀ X outs H, Same G H → (∀ o ∈ outs, G o = none) → RPO.RpU X 5 outs H v t
  ln : t.length ≤ 5000
theorem none_up {H H' : Hp} {o : Addr} (s : Same H H') (h : H' o = none) : H o = none := by
  cases e : H o with
  | none => rfl
  | some x =>
    rw [s _ _ e] at h
    cases h
theorem Tg.same {G G' : Hp} {v : V} {T : Int × Int → Prop} {t : Str} (x : Tg G v T t) (s : Same G G') : Tg G' v T t := ⟨x.th.same s, fun X outs H s' ho => x.rp X outs H (s.trans s') fun o q => none_up s (ho o q), x.ln⟩
def TgA (G : Hp) (xs : List V) : Prop := ∀ v ∈ xs, ∃ T t, Tg G v T t
theorem TgA.nil {G : Hp} : TgA G [] := fun v h => nomatch h
theorem TgA.same {G G' : Hp} {xs : List V} (h : TgA G xs) (s : Same G G') : TgA G' xs := fun v hv => let ⟨T, t, i⟩ := h v hv; ⟨T, t, i.same s⟩
theorem TgA.cons {G : Hp} {xs : List V} {x : V} {T : Int × Int → Prop} {t : Str} (i : Tg G x T t) (h : TgA G xs) : TgA G (x :: xs) := fun v hv => by
  rcases List.mem_cons.mp hv with rfl | hv
  · exact ⟨T, t, i⟩
  · exact h v hv
theorem TgA.snoc {G : Hp} {xs : List V} {x : V} {T : Int × Int → Prop} {t : Str} (h : TgA G xs) (i : Tg G x T t) : TgA G (xs ++ [x]) := fun v hv => by
  rcases List.mem_append.mp hv with hv | hv
  · exact h v hv
  · rw [List.mem_singleton.mp hv]
    exact ⟨T, t, i⟩
def NoT : Int × Int → Prop := fun _ => False
section
variable {G : Hp} {a : Addr} {z : List Nat}
theorem rp_len {n m : Nat} (t : Tz n m z) (h : n ≤ 100) : (reprText (S z)).length ≤ 1002 := by
  have := StrLaws.reprText_len (S z) fun c hc => Nat.lt_of_lt_of_le (t.sm c (by simpa [S] using hc)) (by decide)
  rw [show (S z).length = z.length from SX.S_len z] at this
  have := t.len
  omega
theorem Tg.txt {n m : Nat} (t : Tz n m z) (h : n ≤ 100) : Tg G (.str (S z)) (Fr z) (reprText (S z)) := ⟨.txt (Nat.le_trans t.len h), fun X outs H s ho => .str, Nat.le_trans (rp_len t h) (by decide)⟩
theorem Tg.non : Tg G .non NoT "None" := ⟨.oth fun K H s => ⟨_, TyX.base .non, kit_ty (by decide +kernel)⟩, fun X outs H s ho => .non, by decide +kernel⟩
theorem Tg.bl {b : Bool} : Tg G (.bl b) NoT (if b then "True" else "False") := ⟨.oth fun K H s => ⟨_, TyX.base (.bl b), kit_ty (by decide +kernel)⟩, fun X outs H s ho => .bl, by cases b <;> decide +kernel⟩
theorem Tg.five : Tg G (.int 5) NoT (toString (5 : Int) : String) := ⟨.oth fun K H s => ⟨_, TyX.base (.int 5), kit_ty (by decide +kernel)⟩, fun X outs H s ho => .int (by decide +kernel), by decide +kernel⟩
theorem not_out {outs : List Addr} {o : HO} (e : G a = some o) (ho : ∀ o ∈ outs, G o = none) : a ∉ outs := fun h => by
  rw [ho a h] at e
  cases e
theorem Tg.tup0 (e : G a = some (.tup [])) : Tg G (.ref a) NoT (tupleText []) := ⟨.oth fun K H s => ⟨_, TyX.base (.tup (s _ _ e)), kit_ty (by decide +kernel)⟩, fun X outs H s ho => RPO.RpU.tup (n := 4) (s _ _ e) (not_out e ho) .nil, by decide +kernel⟩
theorem Tg.tup1 {n m : Nat} (t : Tz n m z) (h : n ≤ 100) (e : G a = some (.tup [.str (S z)])) : Tg G (.ref a) NoT (tupleText [reprText (S z)]) := ⟨.oth fun K H s => ⟨_, TyX.base (.tup (s _ _ e)), kit_ty (by decide +kernel)⟩, fun X outs H s ho => RPO.RpU.tup (n := 4) (s _ _ e) (not_out e ho) (.cons .str .nil), by
  have h1 := rp_len t h
  have h2 := tupleText_len_le [reprText (S z)]
  simp only [List.map_cons, List.map_nil, List.sum_cons, List.sum_nil, List.length_cons, List.length_nil] at h2
  omega⟩
theorem Tg.lst1 {n m : Nat} (t : Tz n m z) (h : n ≤ 100) (e : G a = some (.lst [.str (S z)])) : Tg G (.ref a) NoT (listText [reprText (S z)]) := ⟨.oth fun K H s => ⟨_, TyX.base (.lst (s _ _ e)), kit_ty (by decide +kernel)⟩, fun X outs H s ho => RPO.RpU.list (n := 4) (s _ _ e) (not_out e ho) (List.cons_ne_nil _ _) (.cons .str .nil), by
  have h1 := rp_len t h
  have h2 := listText_len_le [reprText (S z)]
  simp only [List.map_cons, List.map_nil, List.sum_cons, List.sum_nil, List.length_cons, List.length_nil] at h2
  omega⟩
theorem Tg.dct0 (e : G a = some (.dK [])) : Tg G (.ref a) NoT (dictText []) := ⟨.oth fun K H s => ⟨_, TyX.base (.dK (s _ _ e)), kit_ty (by decide +kernel)⟩, fun X outs H s ho => RPO.RpU.dct (n := 4) (s _ _ e) (not_out e ho) .nil, by decide +kernel⟩
theorem Tg.dct1 {n m : Nat} (t : Tz n m z) (h : n ≤ 100) (e : G a = some (.dK [(Sum.inr (S z), .int 1)])) : Tg G (.ref a) NoT (dictText [reprText (S z) ++ ": " ++ (toString (1 : Int) : String)]) := ⟨.oth fun K H s => ⟨_, TyX.base (.dK (s _ _ e)), kit_ty (by decide +kernel)⟩, fun X outs H s ho => RPO.RpU.dct (n := 4) (s _ _ e) (not_out e ho) (.cons .str (.int (by decide +kernel)) .nil), by
  have h1 := rp_len t h
  have h2 := dictText_len_le [reprText (S z) ++ ": " ++ (toString (1 : Int) : String)]
  simp only [List.map_cons, List.map_nil, List.sum_cons, List.sum_nil, List.length_cons, List.length_nil] at h2
  rw [len_cat, len_cat] at h2
  have h3 : (Str.ofString ": ").length = 2 := by decide +kernel
  have h4 : (Str.ofString (toString (1 : Int))).length = 1 := by decide +kernel
  have h5 : (": " : Str).length = 2 := h3
  have h6 : ((toString (1 : Int) : String) : Str).length = 1 := h4
  omega⟩
end
/-- repr of a list or a tuple -/
def rRep2 (X : Cx) : List V → Hp → VK → Prop := fun ys H Q => RPO.rReprL X 5 ys H Q ∨ RPO.rReprT X 5 ys H Q
theorem call_rep2 {X : Cx} (hgd : X.A.guards = some []) (hr : Room 7 X.A) : CallR X (.builtin "repr") (rRep2 X) := by
  intro pins s σ H ys us Q I r h
  rcases h with h | h
  · exact RPO.call_reprL (n := 5) hgd hr pins s σ H ys us Q I r h
  · exact RPO.call_reprT (n := 5) hgd hr pins s σ H ys us Q I r h
theorem numL_sm (n : Nat) : ∀ c ∈ TL.numL n, c < 128 := fun c hc => by
  have := TL.numL_digits n c hc
  omega
theorem tz_int {i : Int} {k : Nat} (hk : 0 < k) (h : i.natAbs < 10 ^ k) : Tz (k + 1) 0 (TX.intL i) := by
  refine ⟨TX.intL_len hk h, Nat.le_of_eq (List.count_eq_zero_of_not_mem (TX.no_stroke_int i)), fun c hc => ?_⟩
  unfold TX.intL at hc
  split at hc
  · rcases List.mem_cons.mp hc with rfl | hc
    · decide
    · exact numL_sm _ c hc
  · exact numL_sm _ c hc
theorem tz_cat {i j : Int} {k : Nat} (hk : 0 < k) (h : i.natAbs < 10 ^ k) (h2 : j.natAbs < 10 ^ k) : Tz (2 * k + 3) 1 (TX.intL i ++ 47 :: TX.intL j) := by
  have t1 := tz_int hk h
  have t2 := tz_int hk h2
  have t3 : Tz 1 1 [47] := ⟨Nat.le_refl _, by decide, by decide⟩
  have := (t1.app (t3.app t2)).mono (n' := 2 * k + 3) (m' := 1) (by omega) (by omega)
  simpa using this
theorem tz_tq {q : Int × Int} {k : Nat} (hk : 0 < k) (h : q.1.natAbs < 10 ^ k) (h2 : q.2.natAbs < 10 ^ k) : Tz (2 * k + 3) 1 (tq q) := by
  unfold tq
  split
  · exact (tz_int hk h).mono (by omega) (by omega)
  · exact tz_cat hk h h2
end K04
set_option Elab.async false
set_option linter.all false
set_option maxRecDepth 100000
set_option maxHeartbeats 4000000
namespace K04
open PySem PySem.Spec PyProof.Rows L2
open C8 (Cal Mak Met pe_c pe_mk pe_mt pe_mt0)
open SX (S)
open TD
open PySem.Builtin PySem.Builtin.List
theorem at0 {a b : V} : atI [a, b] 0 = some a := rfl
theorem at1 {a b : V} : atI [a, b] 1 = some b := rfl
theorem p31 : 2 ^ 104 < 10 ^ 32 := by decide
theorem fr_inj {z : List Nat} {q q' : Int × Int} (f : Fr z q) (f' : Fr z q') : q = q' := by
  obtain ⟨a, b, pt⟩ : ∃ a b, Pt z a b := by
    by_cases h47 : 47 ∈ z
    · obtain ⟨a, b, e, n⟩ := split47 z h47
      exact ⟨a, b, .inr ⟨e, n⟩⟩
    · exact ⟨z, [49], .inl ⟨h47, rfl, rfl⟩⟩
  obtain ⟨e1, e2⟩ := pt.fr f
  obtain ⟨e3, e4⟩ := pt.fr f'
  exact Prod.ext (intL_inj (e1.symm.trans e3)) (intL_inj (e2.symm.trans e4))
theorem Th.inj {H : Hp} {v : V} {T : Int × Int → Prop} (h : Th H v T) {q q' : Int × Int} (f : T q) (f' : T q') : q = q' := by
  cases h with
  | txt l => exact fr_inj f f'
  | oth n => exact f.elim
theorem Th.sm {H : Hp} {v : V} {T : Int × Int → Prop} (h : Th H v T) {q : Int × Int} (f : T q) : Sm q.1 ∧ Sm q.2 := by
  cases h with
  | oth n => exact f.elim
  | @txt z l =>
    obtain ⟨a, b, pt⟩ : ∃ a b, Pt z a b := by
      by_cases h47 : 47 ∈ z
      · obtain ⟨a, b, e, n⟩ := split47 z h47
        exact ⟨a, b, .inr ⟨e, n⟩⟩
      · exact ⟨z, [49], .inl ⟨h47, rfl, rfl⟩⟩
    obtain ⟨e1, e2⟩ := pt.fr f
    obtain ⟨la, lb⟩ := pt.len l
    exact ⟨int_lt la e1, int_lt lb e2⟩
def qT (q : Int × Int) : List Str := [(toString q.1 : String), (toString q.2 : String)]
theorem qT_len {q : Int × Int} (h1 : Sm q.1) (h2 : Sm q.2) : (tupleText (qT q)).length ≤ sizeLine := by
  have k1 : ((toString q.1 : String) : Str).length ≤ 401 := h1.len
  have k2 : ((toString q.2 : String) : Str).length ≤ 401 := h2.len
  have := tupleText_len_le (qT q)
  simp only [qT, List.map_cons, List.map_nil, List.sum_cons, List.sum_nil, List.length_cons, List.length_nil] at this
  exact big (by simp only [qT]; omega)
def rT (tx : Str) : List Str := [listText [reprText "share"], tx, "True"]
theorem rT_len {tx : Str} (h : tx.length ≤ 5000) : (listText (rT tx)).length ≤ sizeLine := by
  have h1 : (listText [reprText "share"]).length ≤ 100 := by decide +kernel
  have h2 : ("True" : Str).length = 4 := by decide +kernel
  have := listText_len_le (rT tx)
  simp only [rT, List.map_cons, List.map_nil, List.sum_cons, List.sum_nil, List.length_cons, List.length_nil] at this
  refine Nat.le_trans (m := 6000) ?_ (by decide)
  simp only [rT]
  omega
section
variable {P : Program} {w : World} {K : PySem.W.Frag} {mg : Str → Option Value} {base : Heap} {f C : Addr} {fd : FuncData}
def spLaw (K : PySem.W.Frag) : Sp := fun vs H Q _ => ∃ (a : Addr) (ns : List Int), vs = [.ref a] ∧ SqL K H a (ns.map V.int) ∧ ns.length ≤ 63 ∧ ∀ H', Q (.bl true) H'
theorem ok_law (F : Dn K d_law f fd) (b : Bl mg) (bs : mg "str" = none) (brep : mg "repr" = none) (cH : Cal P w K mg base 1 "_law_held" (spHeld K) []) (cD : CalD P w K mg base) (cN : Cal P w K mg base 3 "_law_number" spNumber []) (cL : CalL P w K mg base)
    (MS : MakS P w K mg base C) (Ss : OW.Spc P w K mg base 1 C "__str__" (spTx C txq)) (cB : Cal P w K mg base 2 "_law_bent" spBe []) (cT : Cal P w K mg base 6 "_law_told" spTo []) (cR : Cal P w K mg base 3 "_law_read" spRd []) (cLg : Cal P w K mg base 1 "_law_is_long" spLg []) :
    GL.FnG P w K mg base 9 f fd ["_law_script"] (spLaw K) := by
  refine GL.okG F sc_law (fun vs H Q E h => ?_) (fun cdv A outer s H vs Q E hgd hr h => ?_)
  · obtain ⟨a, ns, rfl, _⟩ := h
    rfl
  · obtain ⟨a, ns, rfl, hS, hlen, hQ⟩ := h
    have hgd2 : (A.deeper (envOfC d_law.qual d_law.scope s.heap.objs.size f cdv)).guards = some [] := hgd
    have hu64 : (A.deeper (envOfC d_law.qual d_law.scope s.heap.objs.size f cdv)).units + 64 < cLine := by have := hr.un; omega
    have num0 : ∀ {σ : L2.St} {H : Hp} {Q : VK}, True := trivial
    refine ⟨_, PSs.nox (pss_cons (ps_set (i := 1) sc_law.nd rfl (.inl rfl) (pe_c cH hr (by decide) rfl (pa_cons (pv 0) pa_nil)))
      (pss_cons (ps_for PassesOwn.never rfl (pi_range1 rfl b.range (pa_cons pe_int pa_nil)) (pg_name (i := 2) sc_law.nd rfl (.inl rfl))
        (C8.pss_cut (ps_set (i := 3) sc_law.nd rfl (.inl rfl) (pe_c cL hr (by decide) rfl (pa_cons (pe_c cN hr (by decide) rfl (pa_cons (pv 1) pa_nil)) (pa_cons (pe_orT (pe_c cN hr (by decide) rfl (pa_cons (pv 1) pa_nil)) (pe_one pe_int)) pa_nil))))
        (pss_cons (ps_set (i := 4) sc_law.nd rfl (.inl rfl) (pe_callTy (OW.call_strO Ss (hr.mono (by decide))) rfl bs boot_str (pa_cons (pe_mk MS hr (by decide) rfl (pa_cons (pe_ix ix_tup (pv 3) pe_int (fun _ _ => rfl)) (pa_cons (pe_ix ix_tup (pv 3) pe_int (fun _ _ => rfl)) pa_nil))) pa_nil)))
        (pss_cons (ps_if (pt_cmpR (op_neD hu64) (pe_c cT hr (by decide) rfl (pa_cons (pv 4) pa_nil)) (pv 3) (nomark _)) pss_never pss_nil)
        (pss_cons (ps_set (i := 5) sc_law.nd rfl (.inl rfl) (pe_lst (pa_cons (pe_c cB hr (by decide) rfl (pa_cons (pv 1) (pa_cons (pv 4) pa_nil))) (pa_cons (pe_c cB hr (by decide) rfl (pa_cons (pv 1) (pa_cons (pe_c cB hr (by decide) rfl (pa_cons (pv 1) (pa_cons (pv 4) pa_nil))) pa_nil))) pa_nil))))
        (pss_cons (ps_expr (pe_bm PySem.F.plainAttrs_list PySem.F.slot_list_append PySem.F.type_list_append mt_append (pv 5) (pa_cons (pe_ix ix_list (pe_lst (pa_cons pe_non (pa_cons pe_int (pa_cons pe_bl (pa_cons (pe_tup (pa_cons (pv 4) pa_nil)) (pa_cons (pe_lst (pa_cons (pv 4) pa_nil)) (pa_cons pe_dnewK
            (pa_cons (pe_disp (pps_cons (pv 4) pe_int pps_nil) rfl rfl (List.cons_ne_nil _ _) (by decide)) (pa_cons (pe_tup pa_nil) pa_nil))))))))) (pe_c cD hr (by decide) rfl (pa_cons (pv 1) (pa_cons pe_int pa_nil))) (fun _ _ => rfl)) pa_nil)))
        (pss_cons (ps_set (i := 6) sc_law.nd rfl (.inl rfl) (pe_op op_add pe_int (pe_c cD hr (by decide) rfl (pa_cons (pv 1) (pa_cons pe_int pa_nil)))))
        (pss_cons (ps_expr (pe_bm PySem.F.plainAttrs_list PySem.F.slot_list_append PySem.F.type_list_append mt_append (pv 5) (pa_cons (pe_op op_add_str (pe_op op_add_str (pe_callTy call_str_int rfl bs boot_str (pa_cons (pe_op op_mul (pe_ix ix_tup (pv 3) pe_int (fun _ _ => rfl)) (pv 6)) pa_nil)) pe_str)
            (pe_callTy call_str_int rfl bs boot_str (pa_cons (pe_op op_mul (pe_ix ix_tup (pv 3) pe_int (fun _ _ => rfl)) (pv 6)) pa_nil))) pa_nil)))
        (pss_one (ps_for PassesOwn.never rfl (pi_list (pe_op op_cat (pv 5) (pe_lst (pa_cons (pv 4) pa_nil)))) (pg_name (i := 7) sc_law.nd rfl (.inl rfl))
          (pss_cons (ps_set (i := 8) sc_law.nd rfl (.inl rfl) (pe_c cR hr (by decide) rfl (pa_cons (pv 7) pa_nil)))
          (pss_cons (ps_if (pt_val (pe_c cLg hr (by decide) rfl (pa_cons (pv 7) pa_nil))) (pss_one ps_continue) pss_nil)
          (pss_one (ps_if (pt_cmpR op_ne (pe_callB (call_rep2 hgd2 (hr.mono (by decide))) rfl brep boot_repr (pa_cons (pe_c cT hr (by decide) rfl (pa_cons (pv 7) pa_nil)) pa_nil))
            (pe_callB (call_rep2 hgd2 (hr.mono (by decide))) rfl brep boot_repr (pa_cons (pe_ifExp (pt_cmpR op_isN1 (pv 8) pe_non (nomark _)) (pe_lst (pa_cons (pe_lst (pa_cons pe_str pa_nil)) (pa_cons (pv 7) (pa_cons pe_bl pa_nil)))) (pv 8)) pa_nil)) (nomark _)) pss_never pss_nil))))))))))))))
      (pss_one (ps_ret pe_bl)))), ?_⟩
    refine ⟨_, rfl, a, ns, rfl, hS, hlen, fun h H1 s1 f1 held1 => ?_⟩
    refine ⟨8, rfl, by decide, by decide, for_range (n := 8) (fun i σ H2 => ∃ v2 v3 v4 v5 v6 v7 v8, σ = [some (.ref a), some (.ref h), v2, v3, v4, v5, v6, v7, v8] ∧ Held H2 h (1000 * (9 - i)))
      ⟨_, _, _, _, _, _, _, rfl, held1.weak (by decide)⟩ ?_ ?_⟩
    · rintro i σ H2 hi ⟨v2, v3, v4, v5, v6, v7, v8, rfl, held2⟩
      have p100 : 2 ^ 100 < 2 ^ 400 := by
        exact Nat.pow_lt_pow_right (by decide) (by decide)
      -- the fraction
      refine ⟨fun σ' H' => ∃ (t : Addr) (q : Int × Int), σ' = [some (.ref a), some (.ref h), some (.int (0 + i)), some (.ref t), v4, v5, v6, v7, v8] ∧ H' t = some (tupP q) ∧ 0 < q.2 ∧ Int.gcd q.1 q.2 = 1 ∧ q.1.natAbs < 2 ^ 100 ∧ q.2.natAbs < 2 ^ 100 ∧ Held H' h (1000 * (9 - i) - 40), ?_, ?_⟩
      · refine ⟨_, rfl, h, 1000 * (9 - i) - 20, rfl, held2.weak (by omega), fun t1 H3 b1 held3 k3 => ?_⟩
        refine ⟨_, rfl, h, 1000 * (9 - i) - 40, rfl, held3.weak (by omega), fun u1 H4 c1 held4 k4 => ?_⟩
        refine ⟨_, rfl, ?_⟩
        by_cases hu : u1 = 0
        · subst hu
          refine iteF ?_
          refine ⟨t1, 1, 100, rfl, by decide, by decide, by decide, by decide, fun r fr => ?_⟩
          exact ⟨r, _, rfl, upd_same, KM.low_pos (by decide), KM.low_cop (by decide), Nat.lt_of_le_of_lt (KM.low_top_le (by decide)) b1, Nat.lt_of_le_of_lt (KM.low_bot_le (by decide)) (by decide), held4.same (same_new fr)⟩
        · have z : (u1 != 0) = true := by simp [hu]
          rw [z]
          refine iteT ?_
          refine ⟨t1, u1, 100, rfl, hu, c1, by decide, by decide, fun r fr => ?_⟩
          exact ⟨r, _, rfl, upd_same, KM.low_pos hu, KM.low_cop hu, Nat.lt_of_le_of_lt (KM.low_top_le hu) b1, Nat.lt_of_le_of_lt (KM.low_bot_le hu) c1, held4.same (same_new fr)⟩
      clear held2
      rintro σ' H3 ⟨t, q, rfl, ht, q0, qg, q1, q2, held3⟩
      have fr0 : Fr (tq q) q := ⟨rfl, q0, qg⟩
      have tz0 : Tz 67 1 (tq q) := tz_tq (k := 32) (by decide) (Nat.lt_trans (Nat.lt_trans q1 (by decide)) p31) (Nat.lt_trans (Nat.lt_trans q2 (by decide)) p31)
      refine ⟨_, rfl, t, _, _, _, rfl, rfl, SqT.of ht, at0, _, rfl, t, _, _, _, rfl, rfl, SqT.of ht, at1, ?_⟩
      intro p dx np nd _
      refine mk_in (n := 100) np nd (by omega) q2 (by decide) (by decide) fun H4 s4 hp => ⟨rfl, ?_⟩
      rw [KM.low_id q0 qg] at hp
      obtain ⟨dp, hp'⟩ := id hp
      refine ⟨p, dp, _, rfl, hp', p, q, rfl, hp, Nat.lt_trans q1 p100, Nat.lt_trans q2 p100, _, rfl, ?_⟩
      rw [txq_S]
      have ht4 := s4 _ _ ht
      have held4 := held3.same s4
      clear held3 hp hp' s4 ht
      -- told as it is
      refine ⟨_, rfl, _, _, rfl, .txt (Nat.le_trans tz0.len (by decide)), fun q' f' r H5 s5 f5 h5 => ?_, fun no => absurd fr0 (no q)⟩
      have eq' := fr_inj fr0 f'
      subst eq'
      refine ⟨_, rfl, neT h5 (s5 _ _ ht4) ⟨_, rfl, iteFE (by simp) ?_⟩⟩
      have ht5 := s5 _ _ ht4
      have held5 := held4.same s5
      clear held4 ht4 s5 f5 h5
      -- two bent ones
      refine ⟨_, rfl, _, rfl, h, 1000 * (9 - i) - 50, 67, 1, tq q, rfl, held5.weak (by omega), tz0, by decide, fun z1 H6 tz1 held6 k6 => ?_⟩
      refine ⟨_, rfl, _, rfl, _, rfl, h, 1000 * (9 - i) - 60, 67, 1, tq q, rfl, held6.weak (by omega), tz0, by decide, fun z2 H7 tz2 held7 k7 => ?_⟩
      refine ⟨h, 1000 * (9 - i) - 70, 72, 2, z2, rfl, held7.weak (by omega), tz2, by decide, fun z3 H8 tz3 held8 k8 => ?_⟩
      have kt := (k6.trans k7).trans k8
      have nth : t ≠ h := fun y => by
        obtain ⟨l', ns', n', m', e1, _⟩ := held5
        rw [y, e1] at ht5
        cases ht5
      have ht8 := kt.1 _ _ ht5 nth
      clear held5 held6 held7 k6 k7 k8 kt ht5 tz2
      refine ⟨by show 2 ≤ sizeLine; decide, fun tl ftl => ?_⟩
      have cel : Cel h tl (upd H8 tl (.lst [.str (S z1), .str (S z3)])) := (Cel.of held8 ftl).put
      have sn := same_new (o := .lst [.str (S z1), .str (S z3)]) ftl
      have htl : (upd H8 tl (.lst [.str (S z1), .str (S z3)])) tl = some (.lst [.str (S z1), .str (S z3)]) := upd_same
      have held9 := held8.same sn
      have ht9 := sn _ _ ht8
      have ntt : t ≠ tl := ne_of_none ht8 ftl
      generalize upd H8 tl (.lst [.str (S z1), .str (S z3)]) = H9 at cel htl held9 ht9 ⊢
      clear held8 ht8 sn ftl
      have nhl := cel.ne
      -- another thing
      have nq : ∀ {G : Hp} {o : Addr} {c : Nat} {w : HO}, Held G h c → G tl = some w → G o = none → ¬ (o = h ∨ o = tl) := fun {G o c w} hh hw ho z => by
        rcases z with z | z
        · obtain ⟨l', ns', n', m', e1, _⟩ := hh
          rw [← z, ho] at e1
          cases e1
        · rw [← z, ho] at hw
          cases hw
      have acc : TgA (THI.out (fun b => b = h ∨ b = tl) H9) [.non, .int 5, .bl true] := ((TgA.nil.snoc Tg.non).snoc Tg.five).snoc Tg.bl
      refine ⟨_, rfl, .inl ⟨rfl, _, SqL.of htl⟩, _, rfl, by show 1 ≤ sizeLine; decide, fun o1 g1 => ?_⟩
      have y1 := same_new (o := .tup [.str (S (tq q))]) g1
      have x1 : (upd H9 o1 (.tup [.str (S (tq q))])) o1 = some (.tup [.str (S (tq q))]) := upd_same
      have n1 := nq held9 htl g1
      have so := THI.out_same (q := fun b => b = h ∨ b = tl) y1
      have acc := (acc.same so).snoc (Tg.tup1 tz0 (by decide) (THI.out_at x1 n1))
      have held9 := held9.same y1
      have htl := y1 _ _ htl
      have ht9 := y1 _ _ ht9
      have cel := cel.kp (Kp.same y1)
      generalize upd H9 o1 (.tup [.str (S (tq q))]) = G1 at acc held9 htl ht9 cel ⊢
      clear x1 y1 so
      refine ⟨_, rfl, by show 1 ≤ sizeLine; decide, fun o2 g2 => ?_⟩
      have y1 := same_new (o := .lst [.str (S (tq q))]) g2
      have x1 : (upd G1 o2 (.lst [.str (S (tq q))])) o2 = some (.lst [.str (S (tq q))]) := upd_same
      have n1 := nq held9 htl g2
      have so := THI.out_same (q := fun b => b = h ∨ b = tl) y1
      have acc := (acc.same so).snoc (Tg.lst1 tz0 (by decide) (THI.out_at x1 n1))
      have held9 := held9.same y1
      have htl := y1 _ _ htl
      have ht9 := y1 _ _ ht9
      have cel := cel.kp (Kp.same y1)
      generalize upd G1 o2 (.lst [.str (S (tq q))]) = G2 at acc held9 htl ht9 cel ⊢
      clear x1 y1 so
      intro o3 g3
      have y1 := same_new (o := .dK []) g3
      have x1 : (upd G2 o3 (.dK [])) o3 = some (.dK []) := upd_same
      have n1 := nq held9 htl g3
      have so := THI.out_same (q := fun b => b = h ∨ b = tl) y1
      have acc := (acc.same so).snoc (Tg.dct0 (THI.out_at x1 n1))
      have held9 := held9.same y1
      have htl := y1 _ _ htl
      have ht9 := y1 _ _ ht9
      have cel := cel.kp (Kp.same y1)
      generalize upd G2 o3 (.dK []) = G3 at acc held9 htl ht9 cel ⊢
      clear x1 y1 so
      intro o4 g4
      refine ⟨_, rfl, upd_same, ([((Sum.inr (S (tq q)) : Key), V.int 1)] : List (Key × V)), rfl, by show 1 ≤ 15; decide, ?_⟩
      have m4 : mergeK [] ([((Sum.inr (S (tq q)) : Key), V.int 1)] : List (Key × V)) = [((Sum.inr (S (tq q)) : Key), V.int 1)] := by rfl
      rw [m4]
      have y1 : Same G3 (upd (upd G3 o4 (.dK [])) o4 (.dK [((Sum.inr (S (tq q)) : Key), V.int 1)])) := fun b o e => by rw [upd_ne (ne_of_none e g4), upd_ne (ne_of_none e g4)]; exact e
      have x1 : (upd (upd G3 o4 (.dK [])) o4 (.dK [((Sum.inr (S (tq q)) : Key), V.int 1)])) o4 = some (.dK [((Sum.inr (S (tq q)) : Key), V.int 1)]) := upd_same
      have n1 := nq held9 htl g4
      have so := THI.out_same (q := fun b => b = h ∨ b = tl) y1
      have acc := (acc.same so).snoc (Tg.dct1 tz0 (by decide) (THI.out_at x1 n1))
      have held9 := held9.same y1
      have htl := y1 _ _ htl
      have ht9 := y1 _ _ ht9
      have cel := cel.kp (Kp.same y1)
      generalize upd (upd G3 o4 (.dK [])) o4 (.dK [((Sum.inr (S (tq q)) : Key), V.int 1)]) = G4 at acc held9 htl ht9 cel ⊢
      clear x1 y1 so
      refine ⟨by show 0 ≤ sizeLine; decide, fun o5 g5 => ?_⟩
      have y1 := same_new (o := .tup []) g5
      have x1 : (upd G4 o5 (.tup [])) o5 = some (.tup []) := upd_same
      have n1 := nq held9 htl g5
      have so := THI.out_same (q := fun b => b = h ∨ b = tl) y1
      have acc := (acc.same so).snoc (Tg.tup0 (THI.out_at x1 n1))
      have held9 := held9.same y1
      have htl := y1 _ _ htl
      have ht9 := y1 _ _ ht9
      have cel := cel.kp (Kp.same y1)
      generalize upd G4 o5 (.tup []) = G5 at acc held9 htl ht9 cel ⊢
      clear x1 y1 so
      have acc : TgA (THI.out (fun b => b = h ∨ b = tl) G5) [.non, .int 5, .bl true, .ref o1, .ref o2, .ref o3, .ref o4, .ref o5] := acc
      refine ⟨by show 8 ≤ sizeLine; decide, fun o6 g6 => ?_⟩
      have y1 := same_new (o := .lst [.non, .int 5, .bl true, .ref o1, .ref o2, .ref o3, .ref o4, .ref o5]) g6
      have x6 : (upd G5 o6 (.lst [.non, .int 5, .bl true, .ref o1, .ref o2, .ref o3, .ref o4, .ref o5])) o6 = some (.lst [.non, .int 5, .bl true, .ref o1, .ref o2, .ref o3, .ref o4, .ref o5]) := upd_same
      have n6 := nq held9 htl g6
      have acc := acc.same (THI.out_same (q := fun b => b = h ∨ b = tl) y1)
      have held9 := held9.same y1
      have htl := y1 _ _ htl
      have ht9 := y1 _ _ ht9
      have cel := cel.kp (Kp.same y1)
      generalize upd G5 o6 (.lst [.non, .int 5, .bl true, .ref o1, .ref o2, .ref o3, .ref o4, .ref o5]) = G6 at acc held9 htl ht9 cel x6 ⊢
      clear y1
      have l8 : ([.non, .int 5, .bl true, .ref o1, .ref o2, .ref o3, .ref o4, .ref o5] : List V).length = 8 := rfl
      generalize ([.non, .int 5, .bl true, .ref o1, .ref o2, .ref o3, .ref o4, .ref o5] : List V) = ws at acc x6 l8
      refine ⟨_, rfl, h, 1000 * (9 - i) - 80, 8, rfl, held9.weak (by omega), by decide, by decide, fun r H10 a10 b10 held10 k10 => ?_⟩
      obtain ⟨r, rfl⟩ := Int.eq_ofNat_of_zero_le a10
      obtain ⟨v, hv⟩ : ∃ v, ws[r]? = some v := ⟨_, List.getElem?_eq_getElem (by omega)⟩
      obtain ⟨Tv, tv, tg⟩ := acc v (List.mem_of_getElem? hv)
      have okp : ∀ {A B : Hp}, Kp h A B → Same (THI.out (fun b => b = h ∨ b = tl) A) (THI.out (fun b => b = h ∨ b = tl) B) := fun {A B} k => THI.out_kp fun b o e n => k.1 b o e fun z => n (.inl z)
      have tg := tg.same (okp k10)
      have htl := k10.1 _ _ htl nhl
      have ht9 := k10.1 _ _ ht9 nth
      have cel := cel.kp k10
      refine ⟨o6, _, _, v, rfl, rfl, SqL.of (k10.1 _ _ x6 fun z => n6 (.inl z)), atI_nat hv, tl, _, v, rfl, rfl, htl, by show 2 < sizeLine; decide, ?_⟩
      clear acc held9 x6 n6 g6 hv
      have upt : ∀ {A : Hp} {o : HO}, Same (THI.out (fun b => b = h ∨ b = tl) A) (THI.out (fun b => b = h ∨ b = tl) (upd A tl o)) := fun {A o} => THI.out_kp fun b w e n => by
        rw [upd_ne fun z => n (.inr z)]
        exact e
      have tg := tg.same (upt (A := H10) (o := .lst ([.str (S z1), .str (S z3)] ++ [v])))
      have held11 := held10.put cel (o := .lst ([.str (S z1), .str (S z3)] ++ [v]))
      have ht11 : (upd H10 tl (.lst ([.str (S z1), .str (S z3)] ++ [v]))) t = some (tupP q) := by rw [upd_ne ntt]; exact ht9
      have cel := cel.put (o := .lst ([.str (S z1), .str (S z3)] ++ [v]))
      have htl : (upd H10 tl (.lst ([.str (S z1), .str (S z3)] ++ [v]))) tl = some (.lst ([.str (S z1), .str (S z3)] ++ [v])) := upd_same
      generalize upd H10 tl (.lst ([.str (S z1), .str (S z3)] ++ [v])) = H11 at tg held11 ht11 cel htl ⊢
      clear held10 k10 ht9
      -- the part
      refine ⟨_, rfl, h, 1000 * (9 - i) - 90, 9, rfl, held11.weak (by omega), by decide, by decide, fun r2 H12 a12 b12 held12 k12 => ?_⟩
      refine ⟨_, _, rfl, rfl, ?_⟩
      have tg := tg.same (okp k12)
      have htl := k12.1 _ _ htl nhl
      have ht12 := k12.1 _ _ ht11 nth
      have cel := cel.kp k12
      clear held11 k12 ht11
      generalize epp : 2 + r2 = pp
      have pp0 : pp.natAbs < 2 ^ 4 := by omega
      have bq : ∀ x : Int, x.natAbs < 2 ^ 100 → (x * pp).natAbs < 2 ^ 104 := fun x hx => by
        rw [Int.natAbs_mul, show 104 = 100 + 4 from rfl, Nat.pow_add]
        exact Nat.mul_lt_mul'' hx pp0
      have m1 := bq _ q1
      have m2 := bq _ q2
      have tzm : Tz 67 1 (TX.intL (q.1 * pp) ++ 47 :: TX.intL (q.2 * pp)) := tz_cat (k := 32) (by decide) (Nat.lt_trans m1 p31) (Nat.lt_trans m2 p31)
      have lg : ∀ {x : Int}, x.natAbs < 2 ^ 104 → x.natAbs.log2 < 1920 := fun {x} hx => Nat.lt_of_lt_of_le (PySem.Flt.log2_lt_of (by decide) hx) (by decide)
      have ln : ∀ {x : Int}, x.natAbs < 2 ^ 104 → (Str.ofString (toString x)).length ≤ 33 := fun {x} hx => by
        rw [TX.tl_int, SX.S_len]
        exact TX.intL_len (by decide) (Nat.lt_trans hx p31)
      have l1 := ln m1
      have l2 := ln m2
      dsimp only
      rw [epp]
      refine ⟨_, rfl, .inl ⟨rfl, _, SqL.of htl⟩, ?_⟩
      refine ⟨_, rfl, t, _, _, _, rfl, rfl, SqT.of ht12, at0, _, rfl, _, _, rfl, rfl, cb_r (by omega) (by omega), _, rfl, lg m1, _, _, rfl, rfl, ?_, _, rfl, t, _, _, _, rfl, rfl, SqT.of ht12, at1, _, rfl, _, _, rfl, rfl, cb_r (by omega) (by omega), _, rfl, lg m2, _, _, rfl, rfl, ?_, ?_⟩
      · rw [l_st]
        exact big (by omega)
      · rw [len_cat, l_st]
        exact big (by omega)
      have em : Str.ofString (toString (q.1 * pp)) ++ Str.ofString "/" ++ Str.ofString (toString (q.2 * pp)) = S (TX.intL (q.1 * pp) ++ 47 :: TX.intL (q.2 * pp)) := by
        rw [TX.tl_int, TX.tl_int, TX.stroke_S, SX.S_cat, SX.S_cat]
        simp
      rw [em]
      generalize TX.intL (q.1 * pp) ++ 47 :: TX.intL (q.2 * pp) = zm at tzm ⊢
      refine ⟨tl, _, _, rfl, rfl, htl, by show 3 < sizeLine; decide, ?_⟩
      have tg := tg.same (upt (A := H12) (o := .lst ([.str (S z1), .str (S z3)] ++ [v] ++ [.str (S zm)])))
      have held13 := held12.put cel (o := .lst ([.str (S z1), .str (S z3)] ++ [v] ++ [.str (S zm)]))
      have htl : (upd H12 tl (.lst ([.str (S z1), .str (S z3)] ++ [v] ++ [.str (S zm)]))) tl = some (.lst ([.str (S z1), .str (S z3)] ++ [v] ++ [.str (S zm)])) := upd_same
      generalize upd H12 tl (.lst ([.str (S z1), .str (S z3)] ++ [v] ++ [.str (S zm)])) = H13 at tg held13 htl ⊢
      clear held12 ht12 cel
      have tg := tg.same THI.out_le
      have all : TgA H13 (([.str (S z1), .str (S z3)] ++ [v] ++ [.str (S zm)]) ++ [.str (S (tq q))]) :=
        ((((TgA.nil.snoc (Tg.txt tz1 (by decide))).snoc (Tg.txt tz3 (by decide))).snoc tg).snoc (Tg.txt tzm (by decide))).snoc (Tg.txt tz0 (by decide))
      -- each of them
      refine ⟨_, rfl, _, rfl, by show 1 ≤ sizeLine; decide, fun o7 g7 => ?_⟩
      have y1 := same_new (o := .lst [.str (S (tq q))]) g7
      have x7 : (upd H13 o7 (.lst [.str (S (tq q))])) o7 = some (.lst [.str (S (tq q))]) := upd_same
      have all := all.same y1
      have held13 := held13.same y1
      have htl := y1 _ _ htl
      generalize upd H13 o7 (.lst [.str (S (tq q))]) = H14 at all held13 htl x7 ⊢
      clear y1
      refine ⟨tl, o7, _, _, rfl, rfl, htl, x7, by show 4 + 1 ≤ sizeLine; decide, fun o8 g8 => ?_⟩
      have y1 := same_new (o := .lst (([.str (S z1), .str (S z3)] ++ [v] ++ [.str (S zm)]) ++ [.str (S (tq q))])) g8
      have x8 : (upd H14 o8 (.lst (([.str (S z1), .str (S z3)] ++ [v] ++ [.str (S zm)]) ++ [.str (S (tq q))]))) o8 = some (.lst (([.str (S z1), .str (S z3)] ++ [v] ++ [.str (S zm)]) ++ [.str (S (tq q))])) := upd_same
      have all := all.same y1
      have held14 := held13.same y1
      generalize upd H14 o8 (.lst (([.str (S z1), .str (S z3)] ++ [v] ++ [.str (S zm)]) ++ [.str (S (tq q))])) = H15 at all held14 x8 ⊢
      clear y1 held13 htl x7
      generalize (([.str (S z1), .str (S z3)] ++ [v] ++ [.str (S zm)]) ++ [.str (S (tq q))] : List V) = xs at all x8
      refine ⟨o8, rfl, ⟨_, SqL.of x8⟩, for_list (K := K) (xs := xs) (fun j σ H' => (∃ v7 v8, σ = [some (.ref a), some (.ref h), some (.int (0 + i)), some (.ref t), some (.str (S (tq q))), some (.ref tl), some (.int pp), v7, v8]) ∧ Same H15 H') ⟨⟨_, _, rfl⟩, Same.refl _⟩ (fun j σ H' _ z => SqL.of (z.2 _ _ x8)) ?_ ?_⟩
      · rintro j x σ H16 hj ⟨⟨v7, v8, rfl⟩, s16⟩
        obtain ⟨T, tx, tg⟩ := (all x (List.mem_of_getElem? hj))
        have tg := tg.same s16
        refine ⟨_, rfl, x, T, rfl, tg.th, fun q' hq' r' H17 s17 f17 h17 => ?_, fun no H17 s17 => ?_⟩
        · -- it tells a fraction
          refine ⟨_, rfl, x, T, rfl, tg.th.same s17, fun bb H18 s18 => ⟨bb, rfl, ?_⟩⟩
          have s68 := s17.trans s18
          refine ite2 (fun _ => ⟨⟨_, _, rfl⟩, s16.trans s68⟩) (fun _ => ?_)
          obtain ⟨sm1, sm2⟩ := tg.th.sm hq'
          refine ⟨_, rfl, x, T, rfl, tg.th.same s68, fun q'' hq'' r2' H19 s19 f19 h19 => ?_, fun no => absurd hq' (no q')⟩
          have e := tg.th.inj hq'' hq'
          subst e
          refine .inr ⟨r2', [.int q''.1, .int q''.2], qT q'', rfl, h19, .cons (.int sm1.log) (.cons (.int sm2.log) .nil), qT_len sm1 sm2, fun H20 s20 => ?_⟩
          have s20 : Same H19 H20 := s20
          have h20 := ((s18.trans s19).trans s20) _ _ h17
          refine ⟨_, rfl, rfl, _, rfl, iteF ?_⟩
          refine ⟨_, rfl, .inr ⟨r', [.int q''.1, .int q''.2], qT q'', rfl, h20, .cons (.int sm1.log) (.cons (.int sm2.log) .nil), qT_len sm1 sm2, fun H21 s21 => ?_⟩⟩
          have s21 : Same H20 H21 := s21
          exact ⟨rfl, _, rfl, iteFE (by simp) ⟨⟨_, _, rfl⟩, (((s16.trans s68).trans s19).trans s20).trans s21⟩⟩
        · -- it tells none
          refine ⟨_, rfl, x, T, rfl, tg.th.same s17, fun bb H18 s18 => ⟨bb, rfl, ?_⟩⟩
          have s68 := s17.trans s18
          refine ite2 (fun _ => ⟨⟨_, _, rfl⟩, s16.trans s68⟩) (fun _ => ?_)
          refine ⟨_, rfl, x, T, rfl, tg.th.same s68, fun q'' hq'' => absurd hq'' (no q''), fun _ l t' H19 s19 f19 h19 hl19 => ?_⟩
          have s69 := s68.trans s19
          have nlt : l ≠ t' := fun y => by
            rw [y, h19] at hl19
            cases hl19
          refine .inl ⟨t', [.ref l, x, .bl true], rT tx, rfl, h19, List.cons_ne_nil _ _, .cons (RPO.RpU.list (n := 4) hl19 (by simpa using nlt) (List.cons_ne_nil _ _) (.cons .str .nil)) (.cons (tg.rp _ [t'] H19 s69 (by simpa using none_up s68 f19)) (.cons .bl .nil)), rT_len tg.ln, fun H20 s20 => ?_⟩
          have s20 : Same H19 H20 := s20
          refine ⟨_, rfl, rfl, _, rfl, iteT ?_⟩
          refine ⟨by show 1 ≤ sizeLine; decide, fun l2 fl2 => ?_⟩
          have y1 := same_new (o := .lst [.str "share"]) fl2
          have hl2 : (upd H20 l2 (.lst [.str "share"])) l2 = some (.lst [.str "share"]) := upd_same
          generalize upd H20 l2 (.lst [.str "share"]) = H21 at y1 hl2 ⊢
          refine ⟨_, rfl, by show 3 ≤ sizeLine; decide, fun t2 ft2 => ?_⟩
          have y2 := same_new (o := .lst [.ref l2, x, .bl true]) ft2
          have ht2 : (upd H21 t2 (.lst [.ref l2, x, .bl true])) t2 = some (.lst [.ref l2, x, .bl true]) := upd_same
          generalize upd H21 t2 (.lst [.ref l2, x, .bl true]) = H22 at y2 ht2 ⊢
          have s61 := (s69.trans s20).trans y1
          have nlt2 : l2 ≠ t2 := fun y => by
            rw [y, ft2] at hl2
            cases hl2
          refine .inl ⟨t2, [.ref l2, x, .bl true], rT tx, rfl, ht2, List.cons_ne_nil _ _, .cons (RPO.RpU.list (n := 4) (y2 _ _ hl2) (by simpa using nlt2) (List.cons_ne_nil _ _) (.cons .str .nil)) (.cons (tg.rp _ [t2] H22 (s61.trans y2) (by simpa using none_up s61 ft2)) (.cons .bl .nil)), rT_len tg.ln, fun H23 s23 => ?_⟩
          have s23 : Same H22 H23 := s23
          exact ⟨rfl, _, rfl, iteFE (by simp) ⟨⟨_, _, rfl⟩, ((s16.trans s61).trans y2).trans s23⟩⟩
      · rintro σ H16 ⟨⟨v7, v8, rfl⟩, s16⟩
        exact ⟨_, _, _, _, _, _, _, rfl, (held14.same s16).weak (by omega)⟩
    · rintro σ H2 _
      exact hQ H2
end
end K04
set_option Elab.async false
set_option linter.all false
set_option maxRecDepth 100000
set_option maxHeartbeats 4000000
/-! GE: a law's end by a promise that is asked only where no repr is under way. -/
namespace GL
open PySem PySem.Spec PyProof.Rows L2
theorem lawG {P : Program} {w : World} {K : PySem.W.Frag} {mg mb : Str → Option Value} {k : Nat} {fa a : Addr} {fd : FuncData} {x : Str} {sp : Sp} {s₁ : Shared} {vs : List Value} {ns : List Int}
    (KX : K.In s₁.heap) (hns : s₁.heap.Ns mainGlobals mg) (hb : s₁.heap.Ns builtinsNs mb) (hbb : ∀ x : Str, x ≠ "__name__" → mb x = bootBuiltins x) (hlim : s₁.heap.NoLimit) (hg : s₁.gens = #[])
    (ha : s₁.heap.get? a = some { cls := .type "list", data := .seq vs.toArray }) (hi : IntsAre vs ns) (hl : ns.length ≤ sizeLine) (hr : Room k callerA)
    (F : ∀ base : Heap, K.In base → base.Ns mainGlobals mg → FnG P w K mg base k fa fd [x] sp) (hbind : ∀ (s : Shared) (u : Value), BindsTo s fd ⟨[u], []⟩ [(x, u)])
    (hsp : ∀ H : Hp, SqL K H a (ns.map V.int) → sp [.ref a] H (fun v _ => v = .bl true) fun _ _ _ => False) :
    codeAny (model P w) callerA (.call (.ref fa) ⟨[.ref a], []⟩) (fun r s' => r = .ok (.ret (.bool true)) ∧ OldK s₁.heap s'.heap ∧ s'.os = s₁.os ∧ AllBare s'.gens) s₁ := by
  -- the script alone is tracked, as it is, or nothing
  have from_ : ∀ H : Hp, SqL K H a (ns.map V.int) → HOk P w H s₁.heap → (∀ b u, H b = some u → b = a ∧ K.lookup a = none ∧ ∃ o xs, u = .frz o (.lst xs)) →
      codeAny (model P w) callerA (.call (.ref fa) ⟨[.ref a], []⟩) (fun r s' => r = .ok (.ret (.bool true)) ∧ OldK s₁.heap s'.heap ∧ s'.os = s₁.os ∧ AllBare s'.gens) s₁ := by
    intro H hS hok hA
    have off : ∀ b, (b = a → K.lookup a ≠ none) → H b = none := fun b n => by
      cases q : H b with
      | none => rfl
      | some u => exact absurd (hA b u q).2.1 (n (hA b u q).1)
    have nsK : ∀ {b : Addr} {m : Str → Option Value}, s₁.heap.Ns b m → (hidT s₁.heap H).Ns b m := by
      rintro b m ⟨o, es, ep, e, d, r⟩
      refine ⟨o, es, ep, hidT_get e (off b fun z => ?_), d, r⟩
      subst z
      rw [ha] at e
      cases e
      cases d
    have inK : K.In (hidT s₁.heap H) := fun b o e => hidT_get (KX b o e) (off b fun z => by rw [← z, e]; simp)
    have hM : Mod K mg (hidT s₁.heap H) := ⟨inK, nsK hns, ⟨mb, nsK hb, hbb⟩, by obtain ⟨mc, h1, h2⟩ := hlim; exact ⟨mc, nsK h1, h2⟩⟩
    have nofr : ∀ b : Addr, b ∉ frs ([] : List Env) := fun b z => nomatch z
    have e0 : Env0 P w K mg (hidT s₁.heap H) callerA [] s₁ H := ⟨rfl, hM, fun b o e => of_hidT e, Nat.le_of_eq (hidT_size _ _), trivial, fun b z => absurd z (nofr b), hok, .of_eq hg⟩
    refine codeAny_mono ((F _ inK (nsK hns)).run callerA [] s₁ H ⟨[.ref a], []⟩ [.ref a] [.ref a] _ _ rfl hr e0 (hbind s₁ (.ref a)) (.cons rfl .nil) (hsp H hS)) fun r s' h => ?_
    match r, h with
    | .error e, h => exact False.elim h
    | .ok .next, h => exact False.elim h
    | .ok .brk, h => exact False.elim h
    | .ok .cont, h => exact False.elim h
    | .ok (.ret u), ⟨v, H', os, bare, un, hok', r', q⟩ =>
      cases (show v = .bl true from q)
      cases (show u = Value.bool true from r')
      refine ⟨rfl, OldK.of_keep fun b o e => ?_, os, bare⟩
      cases q : H b with
      | none => exact un.keep b o e q (nofr b) (by simp)
      | some u =>
        obtain ⟨_, _, ob, xs, rfl⟩ := hA b u q
        have e1 := (hok b _ q).1
        have e2 := (hok' b _ (un.frzs b ob _ q)).1
        rw [e] at e1
        cases e1
        exact e2
  have rv := vals_ints hi
  cases hk : K.lookup a with
  | some o =>
    have e := KX a o hk
    rw [ha] at e
    cases e
    exact from_ (fun _ => none) (.inr ⟨_, vs.toArray, _, hk, rfl, rfl, rfl, by rw [List.size_toArray, hi.length]; exact hl, by simpa using rv⟩) (fun b u z => nomatch z) (fun b u z => nomatch z)
  | none =>
    have at_ : ∀ (b : Addr) (u : HO), (if b = a then some (HO.frz { cls := .type "list", data := .seq vs.toArray } (.lst (ns.map V.int))) else none) = some u → b = a ∧ u = HO.frz { cls := .type "list", data := .seq vs.toArray } (.lst (ns.map V.int)) := fun b u z => by
      by_cases h : b = a
      · rw [if_pos h] at z
        exact ⟨h, (Option.some.inj z).symm⟩
      · rw [if_neg h] at z
        cases z
    refine from_ (fun b => if b = a then some (.frz { cls := .type "list", data := .seq vs.toArray } (.lst (ns.map V.int))) else none) (.inl (.inr ⟨{ cls := .type "list", data := .seq vs.toArray }, if_pos rfl⟩)) (fun b u z => ?_) (fun b u z => ?_)
    · obtain ⟨rfl, rfl⟩ := at_ b u z
      exact ⟨ha, by rw [List.length_map]; exact hl, vs, _, rv, ha⟩
    · obtain ⟨rfl, rfl⟩ := at_ b u z
      exact ⟨rfl, hk, _, _, rfl⟩
/-- a law: F gives the written part, the function object, the promise over every base -/
theorem walkG {l : PySem.W.OpenLaw} {n k : Nat} {q : Program} {loose : List Str} {XP : (Str → Option Value) → Heap → Prop} {YP : World → Heap → Prop} {d : DefRec} {x : Str} (hn : l.most = some n) (hn2 : n ≤ sizeLine) (hdf : d.params.defaults = []) (hr : Room k callerA)
    (F : ∀ (w : World) (mg : Str → Option Value) (fa : Addr) (h : Heap), YP w h → h.Ns mainGlobals mg → mg d.name = some (.ref fa) →
      ∃ (K : PySem.W.Frag) (fd : FuncData) (sp : Sp), K.In h ∧ (∀ (s : Shared) (u : Value), BindsTo s fd ⟨[u], []⟩ [(x, u)]) ∧
        (∀ (H : Hp) (a : Addr) (ns : List Int), ns.length ≤ n → SqL K H a (ns.map V.int) → sp [.ref a] H (fun v _ => v = .bl true) fun _ _ _ => False) ∧
        ∀ base : Heap, K.In base → base.Ns mainGlobals mg → FnG l.prog w K mg base k fa fd [x] sp) : PySem.W.WalkO q loose XP YP l.row.toRowW d [] (fun f vs => PySem.call f vs) := by
  refine Att.attach_call hn hdf fun w s₀ s₁ mg mb fa o pm cd doc a vs ns G Y ho hd hcd hmg hobj hints hlen hg => ?_
  obtain ⟨K, fd, sp, KX, hb, hsp, hF⟩ := F w mg fa _ Y G.T.g hmg
  exact lawG KX G.T.g G.T.b G.T.builtins G.T.nolimit hg hobj hints (Nat.le_trans hlen hn2) hr hF hb fun H hS => hsp H a ns hlen hS
end GL
set_option Elab.async false
set_option linter.all false
set_option maxRecDepth 100000
set_option maxHeartbeats 4000000
/-! KW: calls by keywords alone: f(k = v, ..), o.m(k = v, ..). -/
namespace KW
open PySem PySem.Spec PyProof.Rows L2
section
variable {X : Cx} {k j : Nat} {C f : Addr} {fd : FuncData} {ps ks : List Str} {sp : Sp} {x m : Str} {p pos apos : Pos} {o : Expr} {kws : List Keyword} {ta : TE} {tk : TA} {g : List Value → List Value → List Value} {gV : List V → List V → List V}
theorem pe_cK (F : FnOk X.prog X.w X.K X.mg X.base CX0 k f fd ps sp) (hr : Room k X.A) (hg : Gl X x) (hm : X.mg x = some (.ref f)) (hk : PySem.W.keepIn X.K (.ref f) = true) (hb : KBn X.K fd ps 0 ks g gV) (hkw : PK X kws tk)
    (hall : (backToKw pos (keywordEach kws X.env)).all (·.1.isSome) = true := by rfl) (hks : (backToKw pos (keywordEach kws X.env)).filterMap (·.1) = ks := by rfl) (hdb : (x == ("__debug__" : Str)) = false := by decide)
    (hpl : ((backTo pos (starEach [] X.env)).any (·.1) || (backToKw pos (keywordEach kws X.env)).any (·.1.isNone)) = false := by rfl) :
    PE X (.Call (.Name x p) [] kws pos) (fun σ H Q => tk σ H fun zs H1 => zs.length = ks.length ∧ sp (gV [] zs) H1 Q E0) := by
  refine ⟨fun pins s σ H Q I h => wpAny_Call_Name_kw (ld_glob I hg hm (PySem.W.callWith_KW0 (h₀ := X.base) I.ok.mod.kin hk hall ?_ hpl) hdb)⟩
  refine thn (hkw.run pos pins s σ H _ I h) fun ws s2 ⟨zs, H2, I2, rz, l2, q2⟩ => ⟨I2.kIn, ?_⟩
  rw [hks]
  exact run_fnN (us := []) (vs := []) F hr hb (fun _ _ _ _ _ _ _ h => False.elim h) I2 .nil rz rfl l2 q2
theorem pe_mtK {pl : Sem Bool} (he : PE X o ta) (c : Cls X.K C) (hm : Meth X.K C m f) (F : FnOk X.prog X.w X.K X.mg X.base CX0 k f fd ps sp) (hr : Room k X.A) (hb : KBn X.K fd ps 1 ks g gV) (hkw : PK X kws tk)
    (hall : (backToKw pos (keywordEach kws X.env)).all (·.1.isSome) = true := by rfl) (hks : (backToKw pos (keywordEach kws X.env)).filterMap (·.1) = ks := by rfl)
    (hpl : ((backTo pos (starEach [] X.env)).any (·.1) || (backToKw pos (keywordEach kws X.env)).any (·.1.isNone)) = false := by rfl)
    (ht : eval (.Call (.Attribute o m apos) [] kws pos) X.env = (do
      let ov ← eval o X.env
      standAt apos.atName
      let (f, first) ← holding [ov] (getMethod ov m pl)
      callWith pos f first (backTo pos (starEach [] X.env)) (backToKw pos (keywordEach kws X.env))) := by rfl) :
    PE X (.Call (.Attribute o m apos) [] kws pos) (fun σ H Q => ta σ H fun x H1 => ∃ a dx fs, x = .ref a ∧ H1 a = some (.ins C dx fs) ∧ fs.lookup m = none ∧ tk σ H1 fun zs H2 => zs.length = ks.length ∧ sp (gV [.ref a] zs) H2 Q E0) := by
  refine ⟨fun pins s σ H Q I h => ?_⟩
  refine PySem.W.methodCall_KW (pl := pl) (thn (he.run pins s σ H _ I h) fun u s1 ⟨x, H1, I1, rx, a, dx, fs, ex, ea, l, q⟩ => ?_) ht
  subst ex
  obtain rfl : u = Value.ref a := rx
  refine getmeth_ok I1 ea c hm l (PySem.W.callWith_KW0 (first := [.ref a]) (h₀ := X.base) I.ok.mod.kin hm.kp hall ?_ hpl)
  refine thn (hkw.run pos pins s1 σ H1 _ I1 q) fun ws s2 ⟨zs, H2, I2, rz, l2, q2⟩ => ⟨I2.kIn, ?_⟩
  rw [hks]
  exact run_fnN (us := [.ref a]) (vs := [.ref a]) F hr hb (fun _ _ _ _ _ _ _ h => False.elim h) I2 (.cons rfl .nil) rz rfl l2 q2
end
end KW
set_option Elab.async false
set_option linter.all false
set_option maxRecDepth 100000
set_option maxHeartbeats 4000000
/-! KB: what a call by keywords binds, for a def without keyword-only parameters. -/
namespace KW
open PySem PySem.Spec PyProof.Rows L2
section
variable {K : PySem.W.Frag} {x qual : Str} {params : Arguments} {body : List Stmt} {scope : Scope} {dvs : List V} {kws : List (Str × V)} {f : Addr} {fd : FuncData} {ps : List Str}
theorem kb1 (F : FunD K x qual params body scope dvs kws f fd) (n : Nat) (ks : List Str) (g : {α : Type} → List α → List α → List α → List α) (hd : dvs ≠ [])
    (hrel : ∀ {vs ds zs : List V} {us its ws : List Value}, Vals vs us → Vals ds its → Vals zs ws → Vals (g vs ds zs) (g us its ws))
    (h : ∀ (T : Addr) (kV doc pm : Value) (an : Option Addr) (cdv ct : Value) (us its ws : List Value), us.length = n → its.length = dvs.length → ws.length = ks.length →
      ∃ k, bindArgs (PySem.W.fnOf x qual params body scope (.ref T) kV doc pm an cdv ct) ⟨us, ks.zip ws⟩ = seqItems? (.ref T) >>= k ∧ k (some its.toArray) = pure (ps.zip (g us its ws))) :
    ∃ its : List Value, KBn K fd ps n ks (fun us ws => g us its ws) (fun vs zs => g vs dvs zs) := by
  obtain ⟨oc, od, dV, kV, doc, pm, an, cdv, ct, osl, rfl, lk, hcd, hD, hK⟩ := F.ex
  rcases hD with ⟨e, _⟩ | ⟨_, T, o, its, m, rfl, lT, oT, rT⟩
  · exact absurd e hd
  · refine ⟨its, ⟨fun s us ws X l1 l2 => ?_, fun r1 r2 => hrel r1 rT r2⟩⟩
    obtain ⟨k, e1, e2⟩ := h T kV doc pm an cdv ct us its ws l1 rT.length.symm l2
    refine BindsTo.of_looks fun M => ?_
    rw [e1]
    exact looks_items X lT oT (.of_pure e2)
theorem kb0 (F : FunD K x qual params body scope [] kws f fd) (n : Nat) (ks : List Str) (g : {α : Type} → List α → List α → List α)
    (hrel : ∀ {vs zs : List V} {us ws : List Value}, Vals vs us → Vals zs ws → Vals (g vs zs) (g us ws))
    (h : ∀ (kV doc pm : Value) (an : Option Addr) (cdv ct : Value) (us ws : List Value), us.length = n → ws.length = ks.length →
      bindArgs (PySem.W.fnOf x qual params body scope .none kV doc pm an cdv ct) ⟨us, ks.zip ws⟩ = pure (ps.zip (g us ws))) :
    KBn K fd ps n ks (fun us ws => g us ws) (fun vs zs => g vs zs) := by
  obtain ⟨oc, od, dV, kV, doc, pm, an, cdv, ct, osl, rfl, lk, hcd, hD, hK⟩ := F.ex
  rcases hD with ⟨_, rfl⟩ | ⟨e, _⟩
  · exact ⟨fun s us ws X l1 l2 => .of_eq (h kV doc pm an cdv ct us ws l1 l2), fun r1 r2 => hrel r1 r2⟩
  · exact absurd rfl e
end
end KW
set_option Elab.async false
set_option linter.all false
/-! VR: values related, turned about. -/
namespace KW
open PySem PySem.Spec PyProof.Rows L2
theorem vals_rev {vs : List V} {us : List Value} (h : Vals vs us) : Vals vs.reverse us.reverse := by
  induction h with
  | nil => exact .nil
  | cons r t ih =>
    rw [List.reverse_cons, List.reverse_cons]
    exact ih.append (.cons r .nil)
end KW
set_option Elab.async false
set_option linter.all false
set_option maxRecDepth 100000
set_option maxHeartbeats 4000000
namespace K04
open PySem PySem.Spec PyProof.Rows L2
/-! what the head asks of Share, NoKind, Nought -/
def owA : Str → Bool := fun x => decide (x = "NoShare")
def abA : String → Bool := fun x => x == "ArithmeticError"
def xkC (K : PySem.W.Frag) (n : Str) (tr : List Value) (nid B bid : String) (ow : Str → Bool) (ab : String → Bool) : Bool := GX.gxB K (He.ga K n) tr nid && (GX.vvB K B bid && (xfB K (He.ga K n) && (decide (PySem.W.exmOne K (.ref (He.ga K n)) (.ref (He.ga K n)) = some true) && (GX.isB K (He.ga K n) &&
  (ex16.all (fun x => decide (PySem.W.kitOne K (.ref (He.ga K n)) (.ref (He.ga K x)) = some (ow x))) && ex10.all (fun x => decide (PySem.W.kitOne K (.ref (He.ga K n)) (.type x) = some (ab x))))))))
theorem isB_ok {K : PySem.W.Frag} {C : Addr} (h : GX.isB K C = true) : PySem.W.findIn K (.ref C) "__class__" = some (some (.builtin "object.__class__")) ∧ PySem.W.specialIn K (.builtin "object.__class__") "__get__" = some (some (.builtin "getset_descriptor.__get__")) ∧ PySem.W.takesIn K (.builtin "object.__class__") = some true ∧ PySem.W.mroIn K C (.type "object") = some true := by
  unfold GX.isB at h
  simp only [Bool.and_eq_true, decide_eq_true_eq] at h
  exact ⟨He.eqO_ok h.1, He.eqO_ok h.2.1, h.2.2.1, h.2.2.2⟩
theorem exc_of {K : PySem.W.Frag} {C : Addr} (h : GX.isB K C = true) (x : XfC K C) : ExcC K C := by
  obtain ⟨a, b, c, d⟩ := isB_ok h
  exact ⟨x.ga, x.gg, x.exC, x.hdC, a, b, c, d⟩
theorem xkC_ok {K : PySem.W.Frag} {n : Str} {tr : List Value} {nid B bid : String} {ow : Str → Bool} {ab : String → Bool} (h : xkC K n tr nid B bid ow ab = true) : GX.Gx K (He.ga K n) tr nid ∧ PySem.W.findCls K (.type B) (.type "type") "__init__" = some (.val (.builtin bid)) ∧ XfC K (He.ga K n) ∧
    PySem.W.exmOne K (.ref (He.ga K n)) (.ref (He.ga K n)) = some true ∧ ExcC K (He.ga K n) ∧ (∀ x ∈ ex16, PySem.W.kitOne K (.ref (He.ga K n)) (.ref (He.ga K x)) = some (ow x)) ∧ ∀ x ∈ ex10, PySem.W.kitOne K (.ref (He.ga K n)) (.type x) = some (ab x) := by
  unfold xkC at h
  obtain ⟨h2, h⟩ := Bool.and_eq_true_iff.mp h
  obtain ⟨h3, h⟩ := Bool.and_eq_true_iff.mp h
  obtain ⟨h4, h⟩ := Bool.and_eq_true_iff.mp h
  obtain ⟨h5, h⟩ := Bool.and_eq_true_iff.mp h
  obtain ⟨h6, h⟩ := Bool.and_eq_true_iff.mp h
  obtain ⟨h7, h8⟩ := Bool.and_eq_true_iff.mp h
  exact ⟨GX.gxB_ok h2, GX.vvB_ok h3, xfB_ok h4, of_decide_eq_true h5, exc_of h6 (xfB_ok h4), fun x hx => of_decide_eq_true (List.all_eq_true.mp h7 x hx), fun x hx => of_decide_eq_true (List.all_eq_true.mp h8 x hx)⟩
def xk1 (K : PySem.W.Frag) : Bool := GX.isB K (He.ga K "Share") && xkC K "NoShare" arT "ArithmeticError.__new__" "ArithmeticError" "ArithmeticError.__init__" owA abA
theorem xk_ok {K : PySem.W.Frag} (h : xk1 K = true) : IsC K (He.ga K "Share") ∧ xkC K "NoShare" arT "ArithmeticError.__new__" "ArithmeticError" "ArithmeticError.__init__" owA abA = true := by
  unfold xk1 at h
  obtain ⟨h1, h2⟩ := Bool.and_eq_true_iff.mp h
  obtain ⟨b1, b2, b3, b4⟩ := isB_ok h1
  exact ⟨⟨b1, b2, b3, b4, by unfold PySem.W.kitOne; rw [if_pos (beq_self_eq_true _)]⟩, h2⟩
theorem fndA : fnd owA = [("share" : Str)] := by decide +kernel
theorem abvA : (ex10.map fun x => abA x) = (List.range 10).map (abv [2]) := by decide +kernel
theorem plcA : (("share" : Str), ([2] : List Int)) ∈ plc := by decide +kernel
theorem ex_of {K : PySem.W.Frag} {mg : Str → Option Value} {D : Addr} {ow : Str → Bool} {ab : String → Bool} (gl : ∀ x ∈ ex16, mg x = some (.ref (He.ga K x))) (bt : ∀ x ∈ ex10, mg (Str.ofString x) = none) (xc : ExcC K D)
    (ko : ∀ x ∈ ex16, PySem.W.kitOne K (.ref D) (.ref (He.ga K x)) = some (ow x)) (kb : ∀ x ∈ ex10, PySem.W.kitOne K (.ref D) (.type x) = some (ab x)) : Ex K mg D ow ab := ⟨gl, bt, xc, ko, kb⟩
end K04
set_option Elab.async false
set_option linter.all false
set_option maxRecDepth 100000
set_option maxHeartbeats 0
namespace K04
open PySem PySem.Spec PyProof.Rows L2
open C8 (Cal Mak Met pe_c pe_mk pe_mt pe_mt0)
def fa : List He.Fa := [.glo "is_whole", .glo "common_part", .glo "is_number_text", .glo "share_of", .glo "_law_held", .glo "_law_draw", .glo "_law_great", .glo "_law_low", .glo "_law_pair", .glo "_law_kinds", .glo "_law_bases", .glo "_law_number", .glo "_law_whole", .glo "_law_read", .glo "_law_bent", .glo "_law_told", .glo "_law_is_long", .glo "law", .free "isinstance", .free "int", .free "bool", .free "str", .free "abs", .free "list", .free "range", .free "len", .free "all", .free "max", .free "zip", .free "repr", .free "TypeError", .free "ZeroDivisionError", .free "ArithmeticError", .free "ValueError", .free "KeyError", .free "LookupError", .free "IndexError", .free "OverflowError", .free "RuntimeError", .free "NotImplementedError", .glo "Share", .cls "Share", .mkr "Share", .glo "NoKind", .glo "Nought", .glo "NoShare", .glo "Uneven", .glo "BadName", .glo "NoNumber", .glo "NoRide", .glo "NoText", .glo "NoName", .glo "NoDay", .glo "NoSeats", .glo "TooMany", .glo "Taken", .glo "NoRule", .glo "NothingDone", .glo "NoRow", .noat "Share" "top", .noat "Share" "bottom", .noat "NoShare" "text", .meth "Share" "__str__", .meth "NoShare" "__init__", .str "FIGURES" "0123456789"]
def xk (K : PySem.W.Frag) : Bool := (xk1) K
abbrev R : PySem.W.OpenRow := PySem.W.OpenLaw.row PySem.Challenge.rw_rideturns_k04_texts_of_shares
abbrev hk : PySem.W.Hook := He.hookX 6 fa fn [] [] xk
def ob (s : PySem.W.SharedT) : He.AlX := He.obsX 6 fa fn [] [] xk (HandSHeadRun.getT s)
theorem ob_eq (s : PySem.W.SharedT) : ob s = hk.obs s.abs := He.obsX_eq (HandSHeadRun.getT_eq s)
abbrev loose : List Str := [("_wall" : Str), ("NoKind" : Str), ("Nought" : Str), ("NoShare" : Str), ("Uneven" : Str), ("BadName" : Str), ("NoNumber" : Str), ("NoRide" : Str), ("NoText" : Str), ("NoName" : Str), ("NoDay" : Str), ("NoSeats" : Str), ("TooMany" : Str), ("Taken" : Str), ("NoRule" : Str), ("NothingDone" : Str), ("NoRow" : Str), ("is_whole" : Str), ("FIGURES" : Str), ("common_part" : Str), ("Share" : Str), ("is_number_text" : Str), ("share_of" : Str), ("_law_held" : Str), ("_law_draw" : Str), ("_law_great" : Str), ("_law_low" : Str), ("_law_pair" : Str), ("_law_kinds" : Str), ("_law_bases" : Str), ("_law_number" : Str), ("_law_whole" : Str), ("_law_read" : Str), ("_law_bent" : Str), ("_law_told" : Str), ("_law_is_long" : Str)]
theorem run_ (w : World) : HandSHeadRun.RunEq R (PySem.W.view R.prog [40]) hk ob 8000 loose w := by
  intro os
  kernel_rfl
theorem cal_of {P : Program} {w : World} {K : PySem.W.Frag} {mg : Str → Option Value} {base : Heap} {f : Addr} {fd : FuncData} {ps : List Str} {k : Nat} {x : Str} {sp : Sp} (F : FnOk P w K mg base CX0 k f fd ps sp) (g : mg x = some (.ref f)) (kp : PySem.W.keepIn K (.ref f) = true) (b : Binds K fd ps []) : Cal P w K mg base k x sp [] :=
  ⟨f, fd, ps, [], F, g, kp, b, .nil⟩
theorem met_of {P : Program} {w : World} {K : PySem.W.Frag} {mg : Str → Option Value} {base : Heap} {f C : Addr} {fd : FuncData} {ps : List Str} {k : Nat} {m : Str} {sp : Sp} (c : Cls K C) (h : Meth K C m f) (F : FnOk P w K mg base CX0 k f fd ps sp) (b : Binds K fd ps []) : Met P w K mg base k C m sp [] :=
  ⟨f, fd, ps, [], c, h, F, b, .nil⟩
theorem facts {P : Program} {w : World} {K : PySem.W.Frag} {h h0 : Heap} {mg : Str → Option Value} {f : Addr} (X : K.In h) (G : h.Ns mainGlobals mg) (hfa : mg ("law" : Str) = some (.ref f)) (c : He.SaysX fa fn [] [] xk w h0 K) :
    ∃ fd : FuncData, (∀ (s : Shared) (v : Value), BindsTo s fd ⟨[v], []⟩ [("_law_script", v)]) ∧ ∀ base : Heap, K.In base → base.Ns mainGlobals mg → GL.FnG P w K mg base 9 f fd ["_law_script"] (spLaw K) := by
  have d := c.t.d
  have x := c.more
  have gl : ∀ (i : Nat) (x : Str), fa[i]? = some (.glo x) → mg x = some (.ref (He.ga K x)) := fun i x e => He.glo_ok X G (d.fact i e)
  have fr : ∀ (i : Nat) (x : Str), fa[i]? = some (.free x) → mg x = none := fun i x e => He.free_ok X G (d.fact i e)
  have me : ∀ (i : Nat) (C m : Str), fa[i]? = some (.meth C m) → Meth K (He.ga K C) m (He.ma K (He.ga K C) m) := fun i C m e => He.meth_ok (d.fact i e)
  have gl_is_whole := gl 0 "is_whole" rfl
  have gl_common_part := gl 1 "common_part" rfl
  have gl_is_number_text := gl 2 "is_number_text" rfl
  have gl_share_of := gl 3 "share_of" rfl
  have gl__law_held := gl 4 "_law_held" rfl
  have gl__law_draw := gl 5 "_law_draw" rfl
  have gl__law_great := gl 6 "_law_great" rfl
  have gl__law_low := gl 7 "_law_low" rfl
  have gl__law_pair := gl 8 "_law_pair" rfl
  have gl__law_kinds := gl 9 "_law_kinds" rfl
  have gl__law_bases := gl 10 "_law_bases" rfl
  have gl__law_number := gl 11 "_law_number" rfl
  have gl__law_whole := gl 12 "_law_whole" rfl
  have gl__law_read := gl 13 "_law_read" rfl
  have gl__law_bent := gl 14 "_law_bent" rfl
  have gl__law_told := gl 15 "_law_told" rfl
  have gl__law_is_long := gl 16 "_law_is_long" rfl
  have gl_law := gl 17 "law" rfl
  have fr_isinstance := fr 18 "isinstance" rfl
  have fr_int := fr 19 "int" rfl
  have fr_bool := fr 20 "bool" rfl
  have fr_str := fr 21 "str" rfl
  have fr_abs := fr 22 "abs" rfl
  have fr_list := fr 23 "list" rfl
  have fr_range := fr 24 "range" rfl
  have fr_len := fr 25 "len" rfl
  have fr_all := fr 26 "all" rfl
  have fr_max := fr 27 "max" rfl
  have fr_zip := fr 28 "zip" rfl
  have fr_repr := fr 29 "repr" rfl
  have fr_TypeError := fr 30 "TypeError" rfl
  have fr_ZeroDivisionError := fr 31 "ZeroDivisionError" rfl
  have fr_ArithmeticError := fr 32 "ArithmeticError" rfl
  have fr_ValueError := fr 33 "ValueError" rfl
  have fr_KeyError := fr 34 "KeyError" rfl
  have fr_LookupError := fr 35 "LookupError" rfl
  have fr_IndexError := fr 36 "IndexError" rfl
  have fr_OverflowError := fr 37 "OverflowError" rfl
  have fr_RuntimeError := fr 38 "RuntimeError" rfl
  have fr_NotImplementedError := fr 39 "NotImplementedError" rfl
  have gl_Share := gl 40 "Share" rfl
  have cls_Share := He.cls_ok (d.fact 41 (f := .cls "Share") rfl)
  have mk_Share := He.mkr_ok (d.fact 42 (f := .mkr "Share") rfl)
  have gl_NoKind := gl 43 "NoKind" rfl
  have gl_Nought := gl 44 "Nought" rfl
  have gl_NoShare := gl 45 "NoShare" rfl
  have gl_Uneven := gl 46 "Uneven" rfl
  have gl_BadName := gl 47 "BadName" rfl
  have gl_NoNumber := gl 48 "NoNumber" rfl
  have gl_NoRide := gl 49 "NoRide" rfl
  have gl_NoText := gl 50 "NoText" rfl
  have gl_NoName := gl 51 "NoName" rfl
  have gl_NoDay := gl 52 "NoDay" rfl
  have gl_NoSeats := gl 53 "NoSeats" rfl
  have gl_TooMany := gl 54 "TooMany" rfl
  have gl_Taken := gl 55 "Taken" rfl
  have gl_NoRule := gl 56 "NoRule" rfl
  have gl_NothingDone := gl 57 "NothingDone" rfl
  have gl_NoRow := gl 58 "NoRow" rfl
  have no_Share_top := He.noat_ok (d.fact 59 (f := .noat "Share" "top") rfl)
  have no_Share_bottom := He.noat_ok (d.fact 60 (f := .noat "Share" "bottom") rfl)
  have no_NoShare_text := He.noat_ok (d.fact 61 (f := .noat "NoShare" "text") rfl)
  have me_Share_str := me 62 "Share" "__str__" rfl
  have me_NoShare_init := me 63 "NoShare" "__init__" rfl
  have val_FIGURES := He.str_ok X G (d.fact 64 (f := .str "FIGURES" "0123456789") rfl)
  obtain ⟨fd_NoShare_init, D_NoShare_init⟩ := d.def_ 3 (d := d_NoShare_init) rfl
  obtain ⟨fd_is_whole, D_is_whole⟩ := d.def_ 17 (d := d_is_whole) rfl
  obtain ⟨fd_common_part, D_common_part⟩ := d.def_ 18 (d := d_common_part) rfl
  obtain ⟨fd_Share_init, D_Share_init⟩ := d.def_ 19 (d := d_Share_init) rfl
  obtain ⟨fd_Share_str, D_Share_str⟩ := d.def_ 21 (d := d_Share_str) rfl
  obtain ⟨fd_is_number_text, D_is_number_text⟩ := d.def_ 29 (d := d_is_number_text) rfl
  obtain ⟨fd_share_of, D_share_of⟩ := d.def_ 30 (d := d_share_of) rfl
  obtain ⟨fd_l_held, D_l_held⟩ := d.def_ 31 (d := d_l_held) rfl
  obtain ⟨fd_l_draw, D_l_draw⟩ := d.def_ 32 (d := d_l_draw) rfl
  obtain ⟨fd_l_great, D_l_great⟩ := d.def_ 33 (d := d_l_great) rfl
  obtain ⟨fd_l_low, D_l_low⟩ := d.def_ 34 (d := d_l_low) rfl
  obtain ⟨fd_l_pair, D_l_pair⟩ := d.def_ 35 (d := d_l_pair) rfl
  obtain ⟨fd_l_kinds, D_l_kinds⟩ := d.def_ 36 (d := d_l_kinds) rfl
  obtain ⟨fd_l_bases, D_l_bases⟩ := d.def_ 37 (d := d_l_bases) rfl
  obtain ⟨fd_l_number, D_l_number⟩ := d.def_ 38 (d := d_l_number) rfl
  obtain ⟨fd_l_whole, D_l_whole⟩ := d.def_ 39 (d := d_l_whole) rfl
  obtain ⟨fd_l_read, D_l_read⟩ := d.def_ 40 (d := d_l_read) rfl
  obtain ⟨fd_l_bent, D_l_bent⟩ := d.def_ 41 (d := d_l_bent) rfl
  obtain ⟨fd_l_told, D_l_told⟩ := d.def_ 42 (d := d_l_told) rfl
  obtain ⟨fd_l_is_long, D_l_is_long⟩ := d.def_ 43 (d := d_l_is_long) rfl
  obtain ⟨fd_law, D_law⟩ := d.def_ 44 (d := d_law) rfl
  have e := hfa.symm.trans gl_law
  cases e
  have bL := FunD.bindsA (ps := ["_law_script"]) D_law fun _ _ _ _ _ _ us hl => match us, hl with | [_], _ => rfl
  refine ⟨fd_law, fun s v => bL s [v] rfl, fun base _ _ => ?_⟩
  have b_NoShare_init : Binds K fd_NoShare_init ["self", "text"] [] := D_NoShare_init.bindsN fun _ _ _ _ _ _ us hl => match us, hl with | [_, _], _ => rfl
  have b_is_whole : Binds K fd_is_whole ["thing"] [] := D_is_whole.bindsN fun _ _ _ _ _ _ us hl => match us, hl with | [_], _ => rfl
  have b_common_part : Binds K fd_common_part ["one", "other"] [] := D_common_part.bindsN fun _ _ _ _ _ _ us hl => match us, hl with | [_, _], _ => rfl
  have b_Share_init : Binds K fd_Share_init ["self", "top", "bottom"] [] := by
    obtain ⟨ds, h1, h2⟩ := D_Share_init.binds1 (ps := ["self", "top", "bottom"]) 3 1 (List.cons_ne_nil _ _) rfl (fun T kV doc pm an cdv ct us its hl h1 => match us, hl, its, h1 with | [_, _, _], _, [_], _ => ⟨_, rfl, rfl⟩)
    cases h1
    exact h2
  obtain ⟨ds1_Share_init, v1_Share_init, b1_Share_init⟩ := D_Share_init.binds1 (ps := ["self", "top", "bottom"]) 2 0 (List.cons_ne_nil _ _) rfl (fun T kV doc pm an cdv ct us its hl h1 => match us, hl, its, h1 with | [_, _], _, [_], _ => ⟨_, rfl, rfl⟩)
  have b_Share_str : Binds K fd_Share_str ["self"] [] := D_Share_str.bindsN fun _ _ _ _ _ _ us hl => match us, hl with | [_], _ => rfl
  have b_is_number_text : Binds K fd_is_number_text ["text"] [] := D_is_number_text.bindsN fun _ _ _ _ _ _ us hl => match us, hl with | [_], _ => rfl
  have b_share_of : Binds K fd_share_of ["text"] [] := D_share_of.bindsN fun _ _ _ _ _ _ us hl => match us, hl with | [_], _ => rfl
  have b_l_held : Binds K fd_l_held ["_law_script"] [] := D_l_held.bindsN fun _ _ _ _ _ _ us hl => match us, hl with | [_], _ => rfl
  have b_l_draw : Binds K fd_l_draw ["_law_held_here", "_law_many"] [] := D_l_draw.bindsN fun _ _ _ _ _ _ us hl => match us, hl with | [_, _], _ => rfl
  have b_l_great : Binds K fd_l_great ["_law_held_here", "_law_many"] [] := D_l_great.bindsN fun _ _ _ _ _ _ us hl => match us, hl with | [_, _], _ => rfl
  have b_l_low : Binds K fd_l_low ["_law_top", "_law_bottom"] [] := D_l_low.bindsN fun _ _ _ _ _ _ us hl => match us, hl with | [_, _], _ => rfl
  have b_l_pair : Binds K fd_l_pair ["_law_share"] [] := D_l_pair.bindsN fun _ _ _ _ _ _ us hl => match us, hl with | [_], _ => rfl
  have b_l_kinds : Binds K fd_l_kinds ["_law_error"] [] := D_l_kinds.bindsN fun _ _ _ _ _ _ us hl => match us, hl with | [_], _ => rfl
  have b_l_bases : Binds K fd_l_bases ["_law_word"] [] := D_l_bases.bindsN fun _ _ _ _ _ _ us hl => match us, hl with | [_], _ => rfl
  have b_l_number : Binds K fd_l_number ["_law_held_here"] [] := D_l_number.bindsN fun _ _ _ _ _ _ us hl => match us, hl with | [_], _ => rfl
  have b_l_whole : Binds K fd_l_whole ["_law_text"] [] := D_l_whole.bindsN fun _ _ _ _ _ _ us hl => match us, hl with | [_], _ => rfl
  have b_l_read : Binds K fd_l_read ["_law_thing"] [] := D_l_read.bindsN fun _ _ _ _ _ _ us hl => match us, hl with | [_], _ => rfl
  have b_l_bent : Binds K fd_l_bent ["_law_held_here", "_law_text"] [] := D_l_bent.bindsN fun _ _ _ _ _ _ us hl => match us, hl with | [_, _], _ => rfl
  have b_l_told : Binds K fd_l_told ["_law_thing"] [] := D_l_told.bindsN fun _ _ _ _ _ _ us hl => match us, hl with | [_], _ => rfl
  have b_l_is_long : Binds K fd_l_is_long ["_law_thing"] [] := D_l_is_long.bindsN fun _ _ _ _ _ _ us hl => match us, hl with | [_], _ => rfl
  have b_law : Binds K fd_law ["_law_script"] [] := D_law.bindsN fun _ _ _ _ _ _ us hl => match us, hl with | [_], _ => rfl
  obtain ⟨IC, yA⟩ := xk_ok x
  obtain ⟨kG, kV, kF, kE, kC, k16, k10⟩ := xkC_ok yA
  have B : Bl mg := ⟨fr_isinstance, fr_int, fr_bool, fr_abs, fr_list, fr_range, fr_len⟩
  have T : Cl K mg (He.ga K "Share") := ⟨cls_Share, no_Share_top, no_Share_bottom, gl_Share⟩
  have cW : CalW P w K mg base := cal_of (ok_whole D_is_whole B) gl_is_whole D_is_whole.kp b_is_whole
  have cG : CalG P w K mg base := cal_of (ok_gcd D_common_part B) gl_common_part D_common_part.kp b_common_part
  have FI := ok_init D_Share_init cW cG T
  have MS : MakS P w K mg base (He.ga K "Share") := ⟨_, _, _, _, mk_Share, FI, T.g, b_Share_init, .nil⟩
  have Ss : OW.Spc P w K mg base 1 (He.ga K "Share") "__str__" (spTx (He.ga K "Share") txq) := ⟨_, _, _, me_Share_str.at_, me_Share_str.fn, ok_str D_Share_str T, b_Share_str⟩
  have NA : Na K mg (He.ga K "NoShare") (He.ma K (He.ga K "NoShare") "__init__") := ⟨kG, me_NoShare_init.1, eq_of_beq me_NoShare_init.2, kV, no_NoShare_text, gl_NoShare, fr_ArithmeticError, kF, kE⟩
  have g16' : ∀ x ∈ ex16, mg x = some (.ref (He.ga K x)) := fun x hx => by
    simp only [List.mem_cons, List.not_mem_nil, or_false] at hx
    rcases hx with rfl | rfl | rfl | rfl | rfl | rfl | rfl | rfl | rfl | rfl | rfl | rfl | rfl | rfl | rfl | rfl
    · exact gl_NoKind
    · exact gl_Nought
    · exact gl_NoShare
    · exact gl_Uneven
    · exact gl_BadName
    · exact gl_NoNumber
    · exact gl_NoRide
    · exact gl_NoText
    · exact gl_NoName
    · exact gl_NoDay
    · exact gl_NoSeats
    · exact gl_TooMany
    · exact gl_Taken
    · exact gl_NoRule
    · exact gl_NothingDone
    · exact gl_NoRow
  have g10' : ∀ x ∈ ex10, mg (Str.ofString x) = none := fun x hx => by
    simp only [List.mem_cons, List.not_mem_nil, or_false] at hx
    rcases hx with rfl | rfl | rfl | rfl | rfl | rfl | rfl | rfl | rfl | rfl
    · exact fr_TypeError
    · exact fr_ZeroDivisionError
    · exact fr_ArithmeticError
    · exact fr_ValueError
    · exact fr_KeyError
    · exact fr_LookupError
    · exact fr_IndexError
    · exact fr_OverflowError
    · exact fr_RuntimeError
    · exact fr_NotImplementedError
  have cNt := cal_of (P := P) (w := w) (base := base) (ok_nt D_is_number_text fr_all val_FIGURES) gl_is_number_text D_is_number_text.kp b_is_number_text
  have FS := ok_so (P := P) (w := w) (base := base) D_share_of B fr_str cNt MS Ss NA (ok_NA D_NoShare_init NA) b_NoShare_init
  have cK := cal_of (P := P) (w := w) (base := base) (ok_ki D_l_kinds B fr_zip (ex_of g16' g10' kC k16 k10)) gl__law_kinds D_l_kinds.kp b_l_kinds
  have cBa := cal_of (P := P) (w := w) (base := base) (ok_ba D_l_bases B) gl__law_bases D_l_bases.kp b_l_bases
  have cH := cal_of (P := P) (w := w) (base := base) (ok_held D_l_held B) gl__law_held D_l_held.kp b_l_held
  have cD : CalD P w K mg base := cal_of (ok_draw D_l_draw B) gl__law_draw D_l_draw.kp b_l_draw
  have cGr : CalGr P w K mg base := cal_of (ok_great D_l_great cD) gl__law_great D_l_great.kp b_l_great
  have cLo : CalL P w K mg base := cal_of (ok_low D_l_low B) gl__law_low D_l_low.kp b_l_low
  have cP := cal_of (P := P) (w := w) (base := base) (ok_pair D_l_pair B T IC) gl__law_pair D_l_pair.kp b_l_pair
  have cN := cal_of (ok_number D_l_number cD cGr) gl__law_number D_l_number.kp b_l_number
  have cWh := cal_of (P := P) (w := w) (base := base) (ok_w D_l_whole B) gl__law_whole D_l_whole.kp b_l_whole
  have cRd := cal_of (ok_rd D_l_read B fr_str cWh cLo) gl__law_read D_l_read.kp b_l_read
  have cBe := cal_of (ok_be D_l_bent B cD) gl__law_bent D_l_bent.kp b_l_bent
  have cLg := cal_of (P := P) (w := w) (base := base) (ok_lg D_l_is_long B fr_str fr_max) gl__law_is_long D_l_is_long.kp b_l_is_long
  have cTo := cal_of (ok_to D_l_told NA gl_share_of D_share_of.kp FS b_share_of cP cK cBa fndA plcA abvA) gl__law_told D_l_told.kp b_l_told
  exact ok_law D_law B fr_str fr_repr cH cD cN cLo MS Ss cBe cTo cRd cLg
end K04
open PySem PySem.W PySem.Calls PyProof.Rows
set_option maxRecDepth 100000 in
set_option maxHeartbeats 0 in
theorem PySem.Challenge.cw_rideturns_k04_texts_of_shares_holds : PySem.Challenge.rw_rideturns_k04_texts_of_shares.Holds := by
  w_on; o_law
  refine HandSHeadRun.head_any (r := OpenLaw.row PySem.Challenge.rw_rideturns_k04_texts_of_shares) (q := view (OpenLaw.row PySem.Challenge.rw_rideturns_k04_texts_of_shares).prog [40]) (H := K04.hk) (ob := K04.ob) (M := 8000) (loose := K04.loose) (d := HandSHeadRun.topDef (OpenLaw.row PySem.Challenge.rw_rideturns_k04_texts_of_shares).prog 40) (kwd := []) K04.ob_eq
    (by kernel_rfl) (fun s => by kernel_rfl) K04.run_ (by kernel_rfl) (by kernel_rfl) (by kernel_rfl) (by rfl) (by first | assumption | decide +kernel) (by decide +kernel) ⟨rfl, rfl, rfl, rfl, rfl, by decide +kernel⟩ ?hw ?hc
  case hw => w_witness2
  case hc =>
    refine GL.walkG (l := PySem.Challenge.rw_rideturns_k04_texts_of_shares) (n := 63) (k := 9) (x := "_law_script") rfl (by decide) (by kernel_rfl) ⟨rfl, by decide, by decide⟩ ?F
    intro w mg fa h Y G hmg0
    obtain ⟨K, KX, c⟩ := Y
    have hmg : mg ("law" : PySem.Str) = some (.ref fa) := by
      have e : (HandSHeadRun.topDef (OpenLaw.row PySem.Challenge.rw_rideturns_k04_texts_of_shares).prog 40).name = ("law" : PySem.Str) := by kernel_rfl
      rw [← e]
      exact hmg0
    obtain ⟨fd, hb, hF⟩ := K04.facts (P := (PySem.Challenge.rw_rideturns_k04_texts_of_shares).prog) (w := w) KX G hmg c
    exact ⟨K, fd, K04.spLaw K, KX, hb, fun H a ns hl hS => ⟨a, ns, rfl, hS, hl, fun _ => rfl⟩, hF⟩
