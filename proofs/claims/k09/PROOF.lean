import PyProof.Rows.All
import Wide.All
import OpenK.AllK
import Wide.FinOn
import HandS.ForMost
import HandS.ForExc
import HandS.Defaults
import HandS.Codes
import HandS.IsInst
import HandS.Wide
import HandS.Flow
import HandS.Evl
import HandS.Steps
import HandS.ExcField
import HandS.Head0
import HandS.Head1
import HandS.Head2
import HandS.HeadEnd
import HandS.HeadHook1
import HandS.HeadHook2
import HandS.HeadHook3
import HandS.HeadHook4
import KE.KExcInit
import HandS.ExcInit
import KE.KCallOwn
import PyProof.ReprRoads
import PyProof.ReprDict
import HandS.Iter
import HandS.OwnEq
import PyProof.EqKinds
import PyProof.NeKinds
import PyProof.FactsAll.dict_1
import HandS.ListEq
import HandS.Deep
import KE.KEqNest
import HandS.Comp
import HandS.Walk
import HandS.AnyAll
import PyProof.ExcBaseAll.ValueError
import PyProof.Rows.FactsExc_ValueError
import KE.KIsAll
import KE.KTryMore
import HandS.ExcIs
import HandS.ExcValue
import KE.KDictZip
import KE.KTurns
import HandS.Text
import HandS.Dict
import HandS.ExcOwn
import HandS.Lambda
import HandS.HeadWalk
import HandS.EndTab
import PyProof.OldK
import HandS.Words
import HandS.MakeKw
import HandS.MakeKwOnly
import HandS.Style
import HandS.More
import PyProof.StrOps2
import HandS.NestedK
import PySem.Challenge.RW_rideturns_k09_what_is_no_person
set_option Elab.async false
set_option linter.all false
set_option maxRecDepth 100000
set_option maxHeartbeats 4000000
namespace K09
open PySem PySem.Spec PyProof.Rows L2
def top (i : Nat) : Stmt := PySem.Challenge.pw_rideturns_k09_what_is_no_person.main.body.getD i (.Pass ⟨0, 0, 0, 0⟩)
abbrev s_NoKind_init : Stmt := inClass (top 1) 0
abbrev N_NoKind_init : List Str := ["self", "thing"]
theorem sc_NoKind_init : FnScope N_NoKind_init ["self", "thing"] (defScope s_NoKind_init) := ⟨rfl, rfl, rfl, by decide +kernel, rfl, by decide +kernel, by decide +kernel⟩
def d_NoKind_init : He.DefD := ⟨("NoKind", some "__init__"), "__init__", "NoKind.__init__", defArgs s_NoKind_init, defBody s_NoKind_init, defScope s_NoKind_init, [], []⟩
abbrev s_Nought_init : Stmt := inClass (top 2) 0
abbrev N_Nought_init : List Str := ["self", "top"]
theorem sc_Nought_init : FnScope N_Nought_init ["self", "top"] (defScope s_Nought_init) := ⟨rfl, rfl, rfl, by decide +kernel, rfl, by decide +kernel, by decide +kernel⟩
def d_Nought_init : He.DefD := ⟨("Nought", some "__init__"), "__init__", "Nought.__init__", defArgs s_Nought_init, defBody s_Nought_init, defScope s_Nought_init, [], []⟩
abbrev s_NoShare_init : Stmt := inClass (top 3) 0
abbrev N_NoShare_init : List Str := ["self", "text"]
theorem sc_NoShare_init : FnScope N_NoShare_init ["self", "text"] (defScope s_NoShare_init) := ⟨rfl, rfl, rfl, by decide +kernel, rfl, by decide +kernel, by decide +kernel⟩
def d_NoShare_init : He.DefD := ⟨("NoShare", some "__init__"), "__init__", "NoShare.__init__", defArgs s_NoShare_init, defBody s_NoShare_init, defScope s_NoShare_init, [], []⟩
abbrev s_Uneven_init : Stmt := inClass (top 4) 0
abbrev N_Uneven_init : List Str := ["self", "rest"]
theorem sc_Uneven_init : FnScope N_Uneven_init ["self", "rest"] (defScope s_Uneven_init) := ⟨rfl, rfl, rfl, by decide +kernel, rfl, by decide +kernel, by decide +kernel⟩
def d_Uneven_init : He.DefD := ⟨("Uneven", some "__init__"), "__init__", "Uneven.__init__", defArgs s_Uneven_init, defBody s_Uneven_init, defScope s_Uneven_init, [], []⟩
abbrev s_BadName_init : Stmt := inClass (top 5) 0
abbrev N_BadName_init : List Str := ["self", "name"]
theorem sc_BadName_init : FnScope N_BadName_init ["self", "name"] (defScope s_BadName_init) := ⟨rfl, rfl, rfl, by decide +kernel, rfl, by decide +kernel, by decide +kernel⟩
def d_BadName_init : He.DefD := ⟨("BadName", some "__init__"), "__init__", "BadName.__init__", defArgs s_BadName_init, defBody s_BadName_init, defScope s_BadName_init, [], []⟩
abbrev s_NoNumber_init : Stmt := inClass (top 6) 0
abbrev N_NoNumber_init : List Str := ["self", "thing"]
theorem sc_NoNumber_init : FnScope N_NoNumber_init ["self", "thing"] (defScope s_NoNumber_init) := ⟨rfl, rfl, rfl, by decide +kernel, rfl, by decide +kernel, by decide +kernel⟩
def d_NoNumber_init : He.DefD := ⟨("NoNumber", some "__init__"), "__init__", "NoNumber.__init__", defArgs s_NoNumber_init, defBody s_NoNumber_init, defScope s_NoNumber_init, [], []⟩
abbrev s_NoRide_init : Stmt := inClass (top 7) 0
abbrev N_NoRide_init : List Str := ["self", "reason"]
theorem sc_NoRide_init : FnScope N_NoRide_init ["self", "reason"] (defScope s_NoRide_init) := ⟨rfl, rfl, rfl, by decide +kernel, rfl, by decide +kernel, by decide +kernel⟩
def d_NoRide_init : He.DefD := ⟨("NoRide", some "__init__"), "__init__", "NoRide.__init__", defArgs s_NoRide_init, defBody s_NoRide_init, defScope s_NoRide_init, [], []⟩
abbrev s_NoText_init : Stmt := inClass (top 8) 0
abbrev N_NoText_init : List Str := ["self", "row"]
theorem sc_NoText_init : FnScope N_NoText_init ["self", "row"] (defScope s_NoText_init) := ⟨rfl, rfl, rfl, by decide +kernel, rfl, by decide +kernel, by decide +kernel⟩
def d_NoText_init : He.DefD := ⟨("NoText", some "__init__"), "__init__", "NoText.__init__", defArgs s_NoText_init, defBody s_NoText_init, defScope s_NoText_init, [], []⟩
abbrev s_NoName_init : Stmt := inClass (top 9) 0
abbrev N_NoName_init : List Str := ["self", "name"]
theorem sc_NoName_init : FnScope N_NoName_init ["self", "name"] (defScope s_NoName_init) := ⟨rfl, rfl, rfl, by decide +kernel, rfl, by decide +kernel, by decide +kernel⟩
def d_NoName_init : He.DefD := ⟨("NoName", some "__init__"), "__init__", "NoName.__init__", defArgs s_NoName_init, defBody s_NoName_init, defScope s_NoName_init, [], []⟩
abbrev s_NoDay_init : Stmt := inClass (top 10) 0
abbrev N_NoDay_init : List Str := ["self", "day"]
theorem sc_NoDay_init : FnScope N_NoDay_init ["self", "day"] (defScope s_NoDay_init) := ⟨rfl, rfl, rfl, by decide +kernel, rfl, by decide +kernel, by decide +kernel⟩
def d_NoDay_init : He.DefD := ⟨("NoDay", some "__init__"), "__init__", "NoDay.__init__", defArgs s_NoDay_init, defBody s_NoDay_init, defScope s_NoDay_init, [], []⟩
abbrev s_NoSeats_init : Stmt := inClass (top 11) 0
abbrev N_NoSeats_init : List Str := ["self", "lack"]
theorem sc_NoSeats_init : FnScope N_NoSeats_init ["self", "lack"] (defScope s_NoSeats_init) := ⟨rfl, rfl, rfl, by decide +kernel, rfl, by decide +kernel, by decide +kernel⟩
def d_NoSeats_init : He.DefD := ⟨("NoSeats", some "__init__"), "__init__", "NoSeats.__init__", defArgs s_NoSeats_init, defBody s_NoSeats_init, defScope s_NoSeats_init, [], []⟩
abbrev s_TooMany_init : Stmt := inClass (top 12) 0
abbrev N_TooMany_init : List Str := ["self", "most"]
theorem sc_TooMany_init : FnScope N_TooMany_init ["self", "most"] (defScope s_TooMany_init) := ⟨rfl, rfl, rfl, by decide +kernel, rfl, by decide +kernel, by decide +kernel⟩
def d_TooMany_init : He.DefD := ⟨("TooMany", some "__init__"), "__init__", "TooMany.__init__", defArgs s_TooMany_init, defBody s_TooMany_init, defScope s_TooMany_init, [], []⟩
abbrev s_Taken_init : Stmt := inClass (top 13) 0
abbrev N_Taken_init : List Str := ["self", "name"]
theorem sc_Taken_init : FnScope N_Taken_init ["self", "name"] (defScope s_Taken_init) := ⟨rfl, rfl, rfl, by decide +kernel, rfl, by decide +kernel, by decide +kernel⟩
def d_Taken_init : He.DefD := ⟨("Taken", some "__init__"), "__init__", "Taken.__init__", defArgs s_Taken_init, defBody s_Taken_init, defScope s_Taken_init, [], []⟩
abbrev s_NoRule_init : Stmt := inClass (top 14) 0
abbrev N_NoRule_init : List Str := ["self", "thing"]
theorem sc_NoRule_init : FnScope N_NoRule_init ["self", "thing"] (defScope s_NoRule_init) := ⟨rfl, rfl, rfl, by decide +kernel, rfl, by decide +kernel, by decide +kernel⟩
def d_NoRule_init : He.DefD := ⟨("NoRule", some "__init__"), "__init__", "NoRule.__init__", defArgs s_NoRule_init, defBody s_NoRule_init, defScope s_NoRule_init, [], []⟩
abbrev s_NothingDone_init : Stmt := inClass (top 15) 0
abbrev N_NothingDone_init : List Str := ["self", "text"]
theorem sc_NothingDone_init : FnScope N_NothingDone_init ["self", "text"] (defScope s_NothingDone_init) := ⟨rfl, rfl, rfl, by decide +kernel, rfl, by decide +kernel, by decide +kernel⟩
def d_NothingDone_init : He.DefD := ⟨("NothingDone", some "__init__"), "__init__", "NothingDone.__init__", defArgs s_NothingDone_init, defBody s_NothingDone_init, defScope s_NothingDone_init, [], []⟩
abbrev s_NoRow_init : Stmt := inClass (top 16) 0
abbrev N_NoRow_init : List Str := ["self", "text"]
theorem sc_NoRow_init : FnScope N_NoRow_init ["self", "text"] (defScope s_NoRow_init) := ⟨rfl, rfl, rfl, by decide +kernel, rfl, by decide +kernel, by decide +kernel⟩
def d_NoRow_init : He.DefD := ⟨("NoRow", some "__init__"), "__init__", "NoRow.__init__", defArgs s_NoRow_init, defBody s_NoRow_init, defScope s_NoRow_init, [], []⟩
abbrev s_is_whole : Stmt := top 20
abbrev N_is_whole : List Str := ["thing"]
theorem sc_is_whole : FnScope N_is_whole ["thing"] (defScope s_is_whole) := ⟨rfl, rfl, rfl, by decide +kernel, rfl, by decide +kernel, by decide +kernel⟩
def d_is_whole : He.DefD := ⟨("is_whole", none), "is_whole", "is_whole", defArgs s_is_whole, defBody s_is_whole, defScope s_is_whole, [], []⟩
abbrev s_is_between : Stmt := top 21
abbrev N_is_between : List Str := ["thing", "low", "high"]
theorem sc_is_between : FnScope N_is_between ["thing", "low", "high"] (defScope s_is_between) := ⟨rfl, rfl, rfl, by decide +kernel, rfl, by decide +kernel, by decide +kernel⟩
def d_is_between : He.DefD := ⟨("is_between", none), "is_between", "is_between", defArgs s_is_between, defBody s_is_between, defScope s_is_between, [], []⟩
abbrev s_is_name : Stmt := top 22
abbrev N_is_name : List Str := ["thing", "sign"]
theorem sc_is_name : FnScope N_is_name ["thing"] (defScope s_is_name) := ⟨rfl, rfl, rfl, by decide +kernel, rfl, by decide +kernel, by decide +kernel⟩
def d_is_name : He.DefD := ⟨("is_name", none), "is_name", "is_name", defArgs s_is_name, defBody s_is_name, defScope s_is_name, [], []⟩
abbrev s_is_mask : Stmt := top 23
abbrev N_is_mask : List Str := ["thing"]
theorem sc_is_mask : FnScope N_is_mask ["thing"] (defScope s_is_mask) := ⟨rfl, rfl, rfl, by decide +kernel, rfl, by decide +kernel, by decide +kernel⟩
def d_is_mask : He.DefD := ⟨("is_mask", none), "is_mask", "is_mask", defArgs s_is_mask, defBody s_is_mask, defScope s_is_mask, [], []⟩
abbrev s_mask_text : Stmt := top 25
abbrev N_mask_text : List Str := ["mask"]
theorem sc_mask_text : FnScope N_mask_text ["mask"] (defScope s_mask_text) := ⟨rfl, rfl, rfl, by decide +kernel, rfl, by decide +kernel, by decide +kernel⟩
def d_mask_text : He.DefD := ⟨("mask_text", none), "mask_text", "mask_text", defArgs s_mask_text, defBody s_mask_text, defScope s_mask_text, [], []⟩
abbrev s_Person_init : Stmt := inClass (top 28) 0
abbrev N_Person_init : List Str := ["self", "name", "seats", "mask"]
theorem sc_Person_init : FnScope N_Person_init ["self", "name", "seats", "mask"] (defScope s_Person_init) := ⟨rfl, rfl, rfl, by decide +kernel, rfl, by decide +kernel, by decide +kernel⟩
def d_Person_init : He.DefD := ⟨("Person", some "__init__"), "__init__", "Person.__init__", defArgs s_Person_init, defBody s_Person_init, defScope s_Person_init, [.int 0, .int 31], []⟩
abbrev s_Person_eq : Stmt := inClass (top 28) 1
abbrev N_Person_eq : List Str := ["self", "other"]
theorem sc_Person_eq : FnScope N_Person_eq ["self", "other"] (defScope s_Person_eq) := ⟨rfl, rfl, rfl, by decide +kernel, rfl, by decide +kernel, by decide +kernel⟩
def d_Person_eq : He.DefD := ⟨("Person", some "__eq__"), "__eq__", "Person.__eq__", defArgs s_Person_eq, defBody s_Person_eq, defScope s_Person_eq, [], []⟩
abbrev s_Person_str : Stmt := inClass (top 28) 2
abbrev N_Person_str : List Str := ["self"]
theorem sc_Person_str : FnScope N_Person_str ["self"] (defScope s_Person_str) := ⟨rfl, rfl, rfl, by decide +kernel, rfl, by decide +kernel, by decide +kernel⟩
def d_Person_str : He.DefD := ⟨("Person", some "__str__"), "__str__", "Person.__str__", defArgs s_Person_str, defBody s_Person_str, defScope s_Person_str, [], []⟩
abbrev s_Person_repr : Stmt := inClass (top 28) 3
abbrev N_Person_repr : List Str := ["self"]
theorem sc_Person_repr : FnScope N_Person_repr ["self"] (defScope s_Person_repr) := ⟨rfl, rfl, rfl, by decide +kernel, rfl, by decide +kernel, by decide +kernel⟩
def d_Person_repr : He.DefD := ⟨("Person", some "__repr__"), "__repr__", "Person.__repr__", defArgs s_Person_repr, defBody s_Person_repr, defScope s_Person_repr, [], []⟩
abbrev s_l_pen : Stmt := top 30
abbrev N_l_pen : List Str := ["_law_script"]
theorem sc_l_pen : FnScope N_l_pen ["_law_script"] (defScope s_l_pen) := ⟨rfl, rfl, rfl, by decide +kernel, rfl, by decide +kernel, by decide +kernel⟩
def d_l_pen : He.DefD := ⟨("_law_pen", none), "_law_pen", "_law_pen", defArgs s_l_pen, defBody s_l_pen, defScope s_l_pen, [], []⟩
abbrev s_l_draw : Stmt := top 31
abbrev N_l_draw : List Str := ["_law_pen_here", "_law_many", "_law_found", "_law_at", "_law_cell", "_law_number_here"]
theorem sc_l_draw : FnScope N_l_draw ["_law_pen_here", "_law_many"] (defScope s_l_draw) := ⟨rfl, rfl, rfl, by decide +kernel, rfl, by decide +kernel, by decide +kernel⟩
def d_l_draw : He.DefD := ⟨("_law_draw", none), "_law_draw", "_law_draw", defArgs s_l_draw, defBody s_l_draw, defScope s_l_draw, [], []⟩
abbrev s_l_names : Stmt := top 32
abbrev N_l_names : List Str := ["_law_pen_here", "_law_many", "_law_letters", "_law_words", "_law_size", "_law_k", "_law_base", "_law_at", "_law_spot", "_law_way", "_law_found", "_law_word_here"]
theorem sc_l_names : FnScope N_l_names ["_law_pen_here", "_law_many"] (defScope s_l_names) := ⟨rfl, rfl, rfl, by decide +kernel, rfl, by decide +kernel, by decide +kernel⟩
def d_l_names : He.DefD := ⟨("_law_names", none), "_law_names", "_law_names", defArgs s_l_names, defBody s_l_names, defScope s_l_names, [], []⟩
abbrev s_l_word : Stmt := top 33
abbrev N_l_word : List Str := ["_law_e", "_law_flags", "_law_above", "_law_words", "_law_must", "_law_said", "_law_seen", "_law_k"]
theorem sc_l_word : FnScope N_l_word ["_law_e"] (defScope s_l_word) := ⟨rfl, rfl, rfl, by decide +kernel, rfl, by decide +kernel, by decide +kernel⟩
def d_l_word : He.DefD := ⟨("_law_word", none), "_law_word", "_law_word", defArgs s_l_word, defBody s_l_word, defScope s_l_word, [], []⟩
abbrev s_l_field : Stmt := top 34
abbrev N_l_field : List Str := ["_law_e"]
theorem sc_l_field : FnScope N_l_field ["_law_e"] (defScope s_l_field) := ⟨rfl, rfl, rfl, by decide +kernel, rfl, by decide +kernel, by decide +kernel⟩
def d_l_field : He.DefD := ⟨("_law_field", none), "_law_field", "_law_field", defArgs s_l_field, defBody s_l_field, defScope s_l_field, [], []⟩
abbrev s_l_got : Stmt := top 35
abbrev N_l_got : List Str := ["_law_deed", "_law_caught", "_law_found", "_law_e"]
theorem sc_l_got : FnScope N_l_got ["_law_deed"] (defScope s_l_got) := ⟨rfl, rfl, rfl, by decide +kernel, rfl, by decide +kernel, by decide +kernel⟩
def d_l_got : He.DefD := ⟨("_law_got", none), "_law_got", "_law_got", defArgs s_l_got, defBody s_l_got, defScope s_l_got, [], []⟩
abbrev s_l_things : Stmt := top 36
abbrev N_l_things : List Str := ["_law_some"]
theorem sc_l_things : FnScope N_l_things [] (defScope s_l_things) := ⟨rfl, rfl, rfl, by decide +kernel, rfl, by decide +kernel, by decide +kernel⟩
def d_l_things : He.DefD := ⟨("_law_things", none), "_law_things", "_law_things", defArgs s_l_things, defBody s_l_things, defScope s_l_things, [], []⟩
abbrev s_l_signs : Stmt := top 37
abbrev N_l_signs : List Str := ["_law_found"]
theorem sc_l_signs : FnScope N_l_signs [] (defScope s_l_signs) := ⟨rfl, rfl, rfl, by decide +kernel, rfl, by decide +kernel, by decide +kernel⟩
def d_l_signs : He.DefD := ⟨("_law_signs", none), "_law_signs", "_law_signs", defArgs s_l_signs, defBody s_l_signs, defScope s_l_signs, [], []⟩
abbrev s_l_called : Stmt := top 38
abbrev N_l_called : List Str := ["_law_pen_here", "_law_signs_here", "_law_called_here", "_law_way", "_law_at", "_law_sign", "_law_some", "_law_things_here"]
theorem sc_l_called : FnScope N_l_called ["_law_pen_here"] (defScope s_l_called) := ⟨rfl, rfl, rfl, by decide +kernel, rfl, by decide +kernel, by decide +kernel⟩
def d_l_called : He.DefD := ⟨("_law_called", none), "_law_called", "_law_called", defArgs s_l_called, defBody s_l_called, defScope s_l_called, [], []⟩
abbrev s_l_number : Stmt := top 39
abbrev N_l_number : List Str := ["_law_pen_here", "_law_most", "_law_things_here", "_law_far", "_law_some"]
theorem sc_l_number : FnScope N_l_number ["_law_pen_here", "_law_most"] (defScope s_l_number) := ⟨rfl, rfl, rfl, by decide +kernel, rfl, by decide +kernel, by decide +kernel⟩
def d_l_number : He.DefD := ⟨("_law_number", none), "_law_number", "_law_number", defArgs s_l_number, defBody s_l_number, defScope s_l_number, [], []⟩
abbrev s_l_is_name : Stmt := top 40
abbrev N_l_is_name : List Str := ["_law_thing", "_law_letters", "_law_one"]
theorem sc_l_is_name : FnScope N_l_is_name ["_law_thing"] (defScope s_l_is_name) := ⟨rfl, rfl, rfl, by decide +kernel, rfl, by decide +kernel, by decide +kernel⟩
def d_l_is_name : He.DefD := ⟨("_law_is_name", none), "_law_is_name", "_law_is_name", defArgs s_l_is_name, defBody s_l_is_name, defScope s_l_is_name, [], []⟩
abbrev s_l_is_up_to : Stmt := top 41
abbrev N_l_is_up_to : List Str := ["_law_thing", "_law_most"]
theorem sc_l_is_up_to : FnScope N_l_is_up_to ["_law_thing", "_law_most"] (defScope s_l_is_up_to) := ⟨rfl, rfl, rfl, by decide +kernel, rfl, by decide +kernel, by decide +kernel⟩
def d_l_is_up_to : He.DefD := ⟨("_law_is_up_to", none), "_law_is_up_to", "_law_is_up_to", defArgs s_l_is_up_to, defBody s_l_is_up_to, defScope s_l_is_up_to, [], []⟩
abbrev s_l_due : Stmt := top 42
abbrev N_l_due : List Str := ["_law_called_here", "_law_places", "_law_days"]
theorem sc_l_due : FnScope N_l_due ["_law_called_here", "_law_places", "_law_days"] (defScope s_l_due) := ⟨rfl, rfl, rfl, by decide +kernel, rfl, by decide +kernel, by decide +kernel⟩
def d_l_due : He.DefD := ⟨("_law_due", none), "_law_due", "_law_due", defArgs s_l_due, defBody s_l_due, defScope s_l_due, [], []⟩
abbrev s_l_met : Stmt := top 43
abbrev N_l_met : List Str := ["_law_deed", "_law_word_here", "_law_thing"]
theorem sc_l_met : FnScope N_l_met ["_law_deed"] (defScope s_l_met) := ⟨rfl, rfl, rfl, by decide +kernel, rfl, by decide +kernel, by decide +kernel⟩
def d_l_met : He.DefD := ⟨("_law_met", none), "_law_met", "_law_met", defArgs s_l_met, defBody s_l_met, defScope s_l_met, [], []⟩
abbrev s_l_right : Stmt := top 44
abbrev N_l_right : List Str := ["_law_called_here", "_law_places", "_law_days", "_law_due_here", "_law_kept", "_law_found"]
theorem sc_l_right : FnScope N_l_right ["_law_called_here", "_law_places", "_law_days"] (defScope s_l_right) := ⟨rfl, rfl, rfl, by decide +kernel, rfl, by decide +kernel, by decide +kernel⟩
def d_l_right : He.DefD := ⟨("_law_right", none), "_law_right", "_law_right", defArgs s_l_right, defBody s_l_right, defScope s_l_right, [], []⟩
abbrev s_law : Stmt := top 45
abbrev N_law : List Str := ["_law_script", "_law_pen_here", "_law_turn", "_law_good", "_law_some", "_law_which", "_law_three", "_law_thing", "_law_k"]
theorem sc_law : FnScope N_law ["_law_script"] (defScope s_law) := ⟨rfl, rfl, rfl, by decide +kernel, rfl, by decide +kernel, by decide +kernel⟩
def d_law : He.DefD := ⟨("law", none), "law", "law", defArgs s_law, defBody s_law, defScope s_law, [], []⟩
def fn : List He.DefD := [d_NoKind_init, d_Nought_init, d_NoShare_init, d_Uneven_init, d_BadName_init, d_NoNumber_init, d_NoRide_init, d_NoText_init, d_NoName_init, d_NoDay_init, d_NoSeats_init, d_TooMany_init, d_Taken_init, d_NoRule_init, d_NothingDone_init, d_NoRow_init, d_is_whole, d_is_between, d_is_name, d_is_mask, d_mask_text, d_Person_init, d_Person_eq, d_Person_str, d_Person_repr, d_l_pen, d_l_draw, d_l_names, d_l_word, d_l_field, d_l_got, d_l_things, d_l_signs, d_l_called, d_l_number, d_l_is_name, d_l_is_up_to, d_l_due, d_l_met, d_l_right, d_law]
end K09
set_option Elab.async false
set_option linter.all false
set_option maxRecDepth 100000
set_option maxHeartbeats 4000000
/-! GX: own exceptions over any built-in base, whose own __init__ calls the base's and stores a field. -/
namespace GX
open PySem PySem.Spec PyProof.Rows L2

/-- what the written part tells of the class -/
structure Gx (K : PySem.W.Frag) (C : Addr) (bmB : List Value) (nid : String) : Prop where
  over : PySem.W.excOver K C bmB = true
  made : PySem.W.excInitIn K C bmB nid = true
  hasd : ∃ cd, PySem.W.clsIn K C = some cd ∧ cd.hasDict = true
  sets : PySem.W.findIn K (.ref C) "__setattr__" = some (some (.builtin "object.__setattr__"))
  base : PySem.W.subIn K (.ref C) (.type "BaseException") = some true
  typ : PySem.W.typeIn K (.ref C) = some (.type "type")
  keep : PySem.W.keepIn K (.ref C) = true

section
open Builtin Builtin.ObjectAttr
variable {prog : Program} {w : World} {A : Around} {R : Result → Shared → Prop} {hp : Heap} {g : Array GenState} {d : Drawn} {t : Nat} {os : OsState} {B : String} {bmB : List Value}
theorem first_store {K : PySem.W.Frag} {name : Str} {tk : Tok} {v : Value} {x C : Addr} {fv : Array Value} {cd : ClassData} (SF : StoreFacts B bmB "object.__setattr__" "object")
    (X : K.In hp) (hx : hp.get? x = some { cls := .ref C, data := .fields fv }) (ho : PySem.W.excOver K C bmB = true) (hc : PySem.W.clsIn K C = some cd) (hd : cd.hasDict = true)
    (hf : PySem.W.findIn K (.ref C) name = some none)
    (post : ∀ h' tk' dx, (∀ b o, b ≠ x → hp.get? b = some o → h'.get? b = some o) → hp.objs.size ≤ dx → dx ≠ x →
      h'.get? x = some { cls := .ref C, dict := some dx, data := .fields fv } → h'.Ns1 dx (fun y => if y = name then some v else none) → R (.ok (.ret .none)) ⟨h', g, d, tk', os⟩) :
    codeAny (model prog w) A (.call (.builtin "object.__setattr__") ⟨[.ref x, .str name tk, v], []⟩) R ⟨hp, g, d, t, os⟩ := by
  have inst : PySem.W.InstAt hp x { cls := .ref C, data := .fields fv } C none := ⟨hx, rfl, rfl, trivial⟩
  have far : x ≠ hp.objs.size := Nat.ne_of_lt (Heap.lt_size hx)
  have lc : PySem.W.Looks (model prog w) hp (classData C) cd := PySem.W.looks_clsIn X hc
  refine PySem.W.osa_openX (r := none) SF X inst ho (by unfold PySem.W.takerIn; rw [hf]; rfl) fun b => ?_
  dsimp only
  obtain ⟨n1, n2, n3, n4, n5, n6, n7, n8, n9, n10, n11⟩ := cd
  dsimp only at hd
  subst hd
  unfold storeInOwnDict ownDictForStores
  repeat (first | with_reducible refine PySem.HandSPX.store_in_new ?_ ?_ | with_reducible refine wpAny_loadPart_at hx ?_ | with_reducible refine lc.at ?_ | wp_step)
  · exact ⟨_, #[], _, (Heap.get?_update_ne _ _ _ _ far.symm).trans (Heap.get?_push_at rfl rfl), rfl, fun e he => absurd he (by simp), fun _ => rfl⟩
  · intro h' tk' hn hs
    have hx1 : (hp.push { cls := .type "dict", data := .dict #[] }).get? x = some { cls := .ref C, data := .fields fv } := Heap.get?_push_of_some _ hx
    refine post h' tk' hp.objs.size (fun b o hb hob => ?_) (Nat.le_refl _) far.symm ?_ hn
    · have e1 := hs.2 b (Nat.ne_of_lt (Heap.lt_size hob))
      rw [e1, Heap.get?_update_ne _ _ _ _ hb]
      exact Heap.get?_push_of_some _ hob
    · rw [hs.2 x far]
      exact Heap.get?_update_self _ hx1 rfl
end

section
variable {X : Cx} {pins : List (Addr × Obj)} {σ : L2.St} {H : Hp} {s : Shared} {a C dx : Addr} {f : Str} {y : V} {u : Value} {Q : Unit → Shared → Prop} {E : Value → Shared → Prop} {A : Around} {B : String} {bmB : List Value} {nid iid : String}
/-- self.f = y, the first store -/
theorem put_first (SF : StoreFacts B bmB "object.__setattr__" "object") (T : Gx X.K C bmB nid) (I : Inv X pins σ H s) (e : H a = some (exo a C none)) (hno : PySem.W.findIn X.K (.ref C) f = some none) (ry : RelV y u)
    (post : ∀ dx s', H dx = none → dx ≠ a → Inv X pins σ (upd (upd H dx (exd dx [(f, y)])) a (exo a C (some dx))) s' → Q () s') : wpAny (model X.prog X.w) A (setAttr (.ref a) f u) Q E s := by
  obtain ⟨cd, hcd, hdd⟩ := T.hasd
  obtain ⟨t1, at1⟩ := exo_at I.hok e
  obtain ⟨hp, g, d, t, os⟩ := s
  refine PySem.W.set_plain I.kIn (ox := { cls := .ref C, dict := none, data := .fields #[.ref t1, .none, .none, .none, .bool false, .none] }) (od := none) ⟨at1, rfl, rfl, trivial⟩ T.sets ?_
  refine first_store SF I.kIn at1 T.over hcd hdd hno (fun h' tk' dx kp dn dne hx hn => ?_)
  have fresh : H dx = none := I.hok.fresh dn
  have old : ∀ {b : Addr} {o : Obj}, hp.get? b = some o → b ≠ dx := fun {b o} q => Nat.ne_of_lt (Nat.lt_of_lt_of_le (Heap.lt_size q) dn)
  have other : ∀ {b : Addr}, H b = none → b ≠ a := fun {b} n z => by
    rw [z, e] at n
    cases n
  have un : Un X.fs [] H (upd (upd H dx (exd dx [(f, y)])) a (exo a C (some dx))) hp h' := {
    keep := fun b o q n _ _ => kp b o (other n) q
    slot := fun b o q n _ _ => ⟨o.slots, kp b o (other n) q⟩
    free := fun b o q n _ => by rw [upd_ne (other n), upd_ne (old q)]; exact n
    there := fun b o q _ => by
      by_cases hb : b = a
      · exact ⟨_, hb ▸ hx⟩
      · exact ⟨o, kp b o hb q⟩
    tups := fun b xs q => by rw [upd_ne (at_ne e q exo_tup), upd_ne (ne_of_none q fresh)]; exact q
    frzs := fun b o v q => by rw [upd_ne (at_ne e q exo_frz), upd_ne (ne_of_none q fresh)]; exact q
    tbls := fun b ps q => ⟨#[], by rw [upd_ne (at_ne e q exo_tbl), upd_ne (ne_of_none q fresh), q]; simp⟩ }
  refine post dx _ fresh dne (I.un (t' := tk') un fun b o q => ?_)
  by_cases hb : b = a
  · subst hb
    rw [upd_same] at q
    cases q
    exact exo_ok hx
  · rw [upd_ne hb] at q
    by_cases hd : b = dx
    · subst hd
      rw [upd_same] at q
      cases q
      exact exd_ok hn (relO_put (fs := []) ry fun g => True.intro)
    · rw [upd_ne hd] at q
      refine (I.hok b o q).stay (fun c v hc z => kp c v ?_ z) (fun c hc => ?_) (fun c xs hc => ?_)
      · rcases hc with hc | hc
        · exact hc ▸ hb
        · exact at_ne e hc exo_own
      · rw [upd_ne (at_ne e hc exo_own), upd_ne (ne_of_none hc fresh)]; exact hc
      · rw [upd_ne (at_ne e hc exo_tup), upd_ne (ne_of_none hc fresh)]; exact hc
/-- Base.__init__(self, ..) -/
theorem base_init {us : List Value} {Q : Value → Shared → Prop} (FB : ExcBaseFacts B nid iid bmB) (T : Gx X.K C bmB nid) (I : Inv X pins σ H s) (e : H a = some (exo a C none)) (hl : us.length ≤ sizeLine) (post : ∀ s', Inv X pins σ H s' → Q .none s') :
    wpAny (model X.prog X.w) A (call (.builtin iid) (.ref a :: us)) Q E s := by
  obtain ⟨nm, N, qn, bs, bm, hdct, sn, sub, ab, col, dd, k0, k1, k2, k3, k5, hC, hT⟩ := PySem.W.excInit_of I.kIn T.made
  obtain ⟨t1, at1⟩ := exo_at I.hok e
  obtain ⟨hp, g, d, t, os⟩ := s
  refine wpAny_call (PySem.HandSPX.init_base FB hT hC at1 hl fun h' t2 kp hx => ?_)
  have J := I.write (t' := t) (x := a) (e := a) (o := exo a C none) (by rw [e]; exact True.intro) (.inl rfl) kp ⟨_, hx⟩ (exo_ok hx)
  have same : upd H a (exo a C none) = H := funext fun b => by
    by_cases hb : b = a
    · rw [hb, upd_same, e]
    · rw [upd_ne hb]
  rw [same] at J
  exact post _ J
end

/-! ### readings and rules -/
/-- Base.__init__(self, ..) -/
def tBi (K : PySem.W.Frag) (bmB : List Value) (nid : String) (ta : TA) : TE := fun σ H Q => ta σ H fun vs H1 => ∃ (a C : Addr) (ws : List V), vs = .ref a :: ws ∧ ws.length ≤ 1000 ∧ Gx K C bmB nid ∧ H1 a = some (exo a C none) ∧ Q .non H1
/-- self.f = e, the first one -/
def tPf (K : PySem.W.Frag) (bmB : List Value) (nid : String) (f : Str) (to te : TE) : TS := fun D σ H => te σ H fun y H1 => to σ H1 fun x H2 => ∃ a C : Addr, x = .ref a ∧ Gx K C bmB nid ∧ PySem.W.findIn K (.ref C) f = some none ∧
  H2 a = some (exo a C none) ∧ ∀ dx, H2 dx = none → dx ≠ a → D.nx σ (upd (upd H2 dx (exd dx [(f, y)])) a (exo a C (some dx)))
section
variable {X : Cx} {o e : Expr} {es : List Expr} {to te : TE} {ta : TA} {f : Str} {p p' p1 p2 pos : Pos} {B nid iid : String} {bmB : List Value} {x : Str}
theorem pe_bi {pl : Sem Bool} (FB : ExcBaseFacts B nid iid bmB) (hg : Gl X x) (hm : X.mg x = none) (hv : bootBuiltins x = some (.type B)) (ty : typeOf (.type B) = pure (.type "type"))
    (vV : PySem.W.findCls X.K (.type B) (.type "type") "__init__" = some (.val (.builtin iid))) (hb : PySem.W.handedIn (.builtin iid) = true) (hst : Manifest.isStub B = false) (ha : PA X (e :: es) ta)
    (hc : eval (.Call (.Attribute (.Name x p1) "__init__" p2) (e :: es) [] pos) X.env = (do
      let ov ← eval (.Name x p1) X.env
      standAt p2.atName
      let (f, first) ← holding [ov] (getMethod ov "__init__" pl)
      callWith pos f first (backTo pos (starEach (e :: es) X.env)) (backToKw pos (keywordEach [] X.env))) := by rfl)
    (hn : x ≠ "__name__" := by decide) (hd : (x == ("__debug__" : Str)) = false := by decide)
    (he : starEach (e :: es) X.env = (false, eval e X.env) :: starEach es X.env := by rfl) (hpl : (backTo pos (starEach es X.env)).any (·.1) = false := by rfl) :
    PE X (.Call (.Attribute (.Name x p1) "__init__" p2) (e :: es) [] pos) (tBi X.K bmB nid ta) := by
  refine ⟨fun pins s σ H Q I h => ?_⟩
  refine PySem.W.methodCall_KW (ld_blt I hg hm hv ?_ hn hd) hc
  obtain ⟨m, fr⟩ := I.fr
  refine PySem.W.method_type fr I.ok.mod.kin ty hst vV hb ?_
  show wpAny _ _ (callWith pos (Value.builtin iid) [] (backTo pos (starEach (e :: es) X.env)) []) _ _ _
  refine PyProof.Rows.callWith_method1 (thn (ha.run pos pins _ σ H _ (I.tok _) h) fun us s1 hh => ?_) he hpl
  obtain ⟨vs, H1, I1, r1, a, C, ws, ev, hl, T, ea, q⟩ := hh
  subst ev
  cases r1 with
  | @cons _ u0 _ ur ra rw' =>
    obtain rfl : u0 = Value.ref a := ra
    have hlen : ur.length ≤ sizeLine := by
      have := Paired.length rw'
      rw [sizeLine_eq]
      omega
    exact base_init FB T I1 ea hlen fun s' J => ⟨.non, H1, J, rfl, q⟩
theorem ps_pf (SF : StoreFacts B bmB "object.__setattr__" "object") (ho : PE X o to) (he : PE X e te) (hs : swapsWith e (some (.Attribute o f p')) pos.line X.env = pure false := by rfl) : PS X (.Assign [.Attribute o f p'] e pos) (tPf X.K bmB nid f to te) := by
  refine ⟨fun pins s σ H D I h => ?_⟩
  refine plainObj_wpAny_Assign_Attribute (thn (he.run pins s σ H _ I h) fun v s1 h1 => ?_) hs
  obtain ⟨y, H1, I1, r1, q1⟩ := h1
  refine thn (ho.run pins s1 σ H1 _ I1 q1) fun u s2 h2 => ?_
  obtain ⟨z, H2, I2, r2, a, C, ex, T, hno, ea, q⟩ := h2
  subst ex
  obtain rfl : u = Value.ref a := r2
  exact put_first SF T I2 ea hno r1 fun dx s' n ne J => ⟨σ, _, J, q dx n ne⟩
/-- C(e, ..) as what is raised, C's own __init__ keeping sp -/
theorem pmk_gx {CX : CXT} {C fI : Addr} {k : Nat} {fd : FuncData} {ps : List Str} {sp : Sp} {ds : List Value} {dvs : List V} (FB : ExcBaseFacts B nid iid bmB) (T : Gx X.K C bmB nid) (iC : PySem.W.findIn X.K (.ref C) "__init__" = some (some (.ref fI)))
    (tI : PySem.W.typeIn X.K (.ref fI) = some (.type "function"))
    (F1 : FnOk X.prog X.w X.K X.mg X.base CX k fI fd ps sp) (hr : Room (k + 1) X.A) (hb : Binds X.K fd ps ds) (hd : Vals dvs ds) (hx : Passes CX X (fun _ _ _ => False)) (hg : Gl X x) (hm : X.mg x = some (.ref C)) (ha : PA X (e :: es) ta)
    (hdb : (x == ("__debug__" : Str)) = false := by decide) (he : starEach (e :: es) X.env = (false, eval e X.env) :: starEach es X.env := by rfl) (hpl : (backTo pos (starEach es X.env)).any (·.1) = false := by rfl) :
    PMk X (.Call (.Name x p) (e :: es) [] pos) (tMkO C sp dvs ta) := by
  intro pins s σ H Q I h
  refine wpAny_Call_Name_kw (ld_glob I hg hm ?_ hdb)
  refine PySem.W.callWith_K (h₀ := X.base) I.ok.mod.kin T.keep (thn (ha.run pos pins s σ H _ I h) fun us s1 hh => ?_) he hpl
  obtain ⟨vs, H1, I1, r1, hz, q1⟩ := hh
  refine ⟨I1.kIn, ?_⟩
  show wpAny _ _ (call (.ref C) us) _ _ _
  obtain ⟨nm, N, qn, bs, bm, hdct, sn, sub, ab, col, dd, k0, k1, k2, k3, k5, hC, hT⟩ := PySem.W.excInit_of I1.kIn T.made
  obtain ⟨hp, g, dr, tk, os⟩ := s1
  have big : hp.objs.size ≤ hp.objs.size + 1 := Nat.le_succ _
  have hq := q1 (hp.objs.size + 1) (I1.hok.fresh big)
  have kk : ∀ b o, hp.get? b = some o → ((hp.push (PySem.W.kdv_tup us)).push (PySem.HandSPX.excO C hp.objs.size)).get? b = some o := fun b o z =>
    Heap.get?_push_of_some _ (Heap.get?_push_of_some _ z)
  have there : ((hp.push (PySem.W.kdv_tup us)).push (PySem.HandSPX.excO C hp.objs.size)).get? (hp.objs.size + 1) = some (PySem.HandSPX.excO C hp.objs.size) := by heap_get
  have I2 := I1.laid (t' := tk) (a := hp.objs.size + 1) (o := exo (hp.objs.size + 1) C none) (h' := (hp.push (PySem.W.kdv_tup us)).push (PySem.HandSPX.excO C hp.objs.size)) kk big (exo_ok there)
  have r2 : Vals (V.ref (hp.objs.size + 1) :: (vs ++ dvs)) (Value.ref (hp.objs.size + 1) :: (us ++ ds)) := .cons rfl (r1.append hd)
  have hl : (Value.ref (hp.objs.size + 1) :: us ++ ds).length = ps.length := by
    have e1 := r2.length
    rw [F1.len _ _ _ _ hq] at e1
    exact e1.symm
  have few : us.length ≤ sizeLine := by
    have := Paired.length r1
    rw [sizeLine_eq]
    omega
  refine wpAny_call (PySem.HandSPX.call_own FB hT hC (PySem.W.looks_findIn I1.kIn iC) (fun self => PySem.W.bind_fn I1.kIn self tI) few (codeAny_mono
    (F1.run _ X.stack _ _ ⟨Value.ref (hp.objs.size + 1) :: us, []⟩ (Value.ref (hp.objs.size + 1) :: (us ++ ds)) _ _ (fun _ _ _ => False) (hr.make C us []) (I2.env0.make C us []) (hb _ (Value.ref (hp.objs.size + 1) :: us) I2.kIn hl) r2 hq) fun r s' hq' => ?_))
  cases r with
  | error er => exact hx pins σ _ _ er s' I2 hq'
  | ok fl =>
    cases fl with
    | ret u =>
      obtain ⟨v, H2, os2, bare2, un2, hok2, rv, ev, d, fs, ea, ed, hd1, q2⟩ := hq'
      subst ev
      obtain ⟨h2, g2, d2, t2, os'⟩ := s'
      exact ⟨rv, mk_end (raises_own T.base T.typ) I1 big kk un2 hok2 os2 bare2 ea ed hd1 q2⟩
    | next => exact False.elim hq'
    | brk => exact False.elim hq'
    | cont => exact False.elim hq'
end
/-! ### the head's look at such a class -/
def hasDB (K : PySem.W.Frag) (C : Addr) : Bool := match PySem.W.clsIn K C with
  | some cd => cd.hasDict
  | none => false
/-- Base.__init__, read off the class Base -/
def vvB (K : PySem.W.Frag) (B iid : String) : Bool := match PySem.W.findCls K (.type B) (.type "type") "__init__" with
  | some (.val (.builtin n)) => n == iid
  | _ => false
theorem vvB_ok {K : PySem.W.Frag} {B iid : String} (h : vvB K B iid = true) : PySem.W.findCls K (.type B) (.type "type") "__init__" = some (.val (.builtin iid)) := by
  unfold vvB at h
  split at h
  · rename_i n e
    rw [e, eq_of_beq h]
  · cases h
/-- what isinstance asks of an own class -/
def isB (K : PySem.W.Frag) (C : Addr) : Bool := He.eqO (PySem.W.findIn K (.ref C) "__class__") (some (some (.builtin "object.__class__"))) && (He.eqO (PySem.W.specialIn K (.builtin "object.__class__") "__get__") (some (some (.builtin "getset_descriptor.__get__"))) &&
  (decide (PySem.W.takesIn K (.builtin "object.__class__") = some true) && decide (PySem.W.mroIn K C (.type "object") = some true)))
def gxB (K : PySem.W.Frag) (C : Addr) (bmB : List Value) (nid : String) : Bool := PySem.W.excOver K C bmB && (PySem.W.excInitIn K C bmB nid && (hasDB K C &&
  (He.eqO (PySem.W.findIn K (.ref C) "__setattr__") (some (some (.builtin "object.__setattr__"))) && (decide (PySem.W.subIn K (.ref C) (.type "BaseException") = some true) &&
  (decide (PySem.W.typeIn K (.ref C) = some (.type "type")) && PySem.W.keepIn K (.ref C))))))
theorem gxB_ok {K : PySem.W.Frag} {C : Addr} {bmB : List Value} {nid : String} (h : gxB K C bmB nid = true) : Gx K C bmB nid := by
  unfold gxB at h
  simp only [Bool.and_eq_true, decide_eq_true_eq] at h
  obtain ⟨h1, h2, h3, h4, h5, h6, h7⟩ := h
  refine ⟨h1, h2, ?_, He.eqO_ok h4, h5, h6, h7⟩
  unfold hasDB at h3
  split at h3
  · rename_i cd e
    exact ⟨cd, e, h3⟩
  · cases h3
end GX
set_option Elab.async false
set_option linter.all false
set_option maxRecDepth 100000
set_option maxHeartbeats 4000000
namespace K09
open PySem PySem.Spec PyProof.Rows L2
open C8 (Cal Mak Met pe_c pe_mk pe_mt pe_mt0)
/-- a def of the text -/
abbrev Dn (K : PySem.W.Frag) (d : He.DefD) (f : Addr) (fd : FuncData) : Prop := FunD K d.name d.qual d.params d.body d.scope (d.dvs K) (d.kws K) f fd
/-- what the module's names are -/
structure Bl (mg : Str → Option Value) : Prop where
  isi : mg "isinstance" = none
  int : mg "int" = none
  bool : mg "bool" = none
  str : mg "str" = none
  list : mg "list" = none
  range : mg "range" = none
  len : mg "len" = none
  all : mg "all" = none
  any : mg "any" = none
  max : mg "max" = none
  min : mg "min" = none
theorem same_new {H : Hp} {p : Addr} {o : HO} (h : H p = none) : Same H (upd H p o) := fun a u e => by
  rw [upd_ne (ne_of_none e h)]
  exact e
theorem dpInts {K : PySem.W.Frag} {H : Hp} : ∀ ns : List Int, DpAll K H (ns.map V.int) (ns.map PyData.int)
  | [] => .nil
  | n :: ns => .cons (.int n) (dpInts ns)
theorem cb_l {i j : Int} (h1 : -(2 ^ 64) < i) (h2 : i < 2 ^ 64) : CMul i j := .inl ⟨h1, h2⟩
theorem cb_r {i j : Int} (h1 : -(2 ^ 64) < j) (h2 : j < 2 ^ 64) : CMul i j := .inr ⟨h1, h2⟩
/-- the pen at p, good for c draws more -/
def penL (l : Addr) (n m : Int) : List V := [.ref l, .int n, .int m]
def Pen (H : Hp) (p : Addr) (c : Nat) : Prop := ∃ (l : Addr) (ns : List Int) (n m : Int), H p = some (.lst (penL l n m)) ∧ H l = some (.lst (ns.map V.int)) ∧ l ≠ p ∧ 0 ≤ n ∧ n + c ≤ 1000000000
theorem Pen.weak {H : Hp} {p : Addr} {c c' : Nat} (hc : c' ≤ c) (x : Pen H p c) : Pen H p c' := by
  obtain ⟨l, ns, n, m, h1, h2, h3, h4, h5⟩ := x
  exact ⟨l, ns, n, m, h1, h2, h3, h4, by omega⟩
theorem Pen.same {H H' : Hp} {p : Addr} {c : Nat} (s : Same H H') (x : Pen H p c) : Pen H' p c := by
  obtain ⟨l, ns, n, m, h1, h2, h3⟩ := x
  exact ⟨l, ns, n, m, s _ _ h1, s _ _ h2, h3⟩
/-- all but the pen is kept, its cells stay where they are -/
def Kp (p : Addr) (H H' : Hp) : Prop := (∀ b o, H b = some o → b ≠ p → H' b = some o) ∧ ∀ l n m, H p = some (.lst (penL l n m)) → ∃ n' m', H' p = some (.lst (penL l n' m'))
theorem Kp.refl (p : Addr) (H : Hp) : Kp p H H := ⟨fun _ _ e _ => e, fun _ n m e => ⟨n, m, e⟩⟩
theorem Kp.trans {p : Addr} {H H1 H2 : Hp} (a : Kp p H H1) (b : Kp p H1 H2) : Kp p H H2 := ⟨fun c o e n => b.1 c o (a.1 c o e n) n, fun l n m e => let ⟨n', m', e'⟩ := a.2 l n m e; b.2 l n' m' e'⟩
theorem Kp.same {p : Addr} {H H1 : Hp} (a : Same H H1) : Kp p H H1 := ⟨fun c o e _ => a c o e, fun _ n m e => ⟨n, m, a _ _ e⟩⟩
theorem pen_inj {l l' : Addr} {n m n' m' : Int} (h : HO.lst (penL l n m) = HO.lst (penL l' n' m')) : l = l' := by
  injection h with h
  injection h with h _
  injection h
theorem Kp.put {p l : Addr} {H : Hp} {n m : Int} (n' m' : Int) (e : H p = some (.lst (penL l n m))) : Kp p H (upd H p (.lst (penL l n' m'))) := by
  refine ⟨fun c o z ne => by rw [upd_ne ne]; exact z, fun l' n1 m1 z => ⟨n', m', ?_⟩⟩
  rw [upd_same, pen_inj (Option.some.inj (z.symm.trans e))]
theorem Kp.new {p st : Addr} {H1 H2 : Hp} {o : HO} (k : Kp p H1 H2) (f : H1 st = none) : Kp p H1 (upd H2 st o) :=
  ⟨fun b u e ne => by rw [upd_ne (ne_of_none e f)]; exact k.1 b u e ne, fun l n m e => by
    obtain ⟨n', m', e'⟩ := k.2 l n m e
    exact ⟨n', m', by rw [upd_ne (ne_of_none e f)]; exact e'⟩⟩
/-- D is neither the pen nor its cells -/
def Off (p D : Addr) (H : Hp) : Prop := ∃ l n m, H p = some (.lst (penL l n m)) ∧ l ≠ D ∧ p ≠ D
theorem Off.kp {p D : Addr} {H H' : Hp} (x : Off p D H) (k : Kp p H H') : Off p D H' := by
  obtain ⟨la, n, m, e, n1, n2⟩ := x
  obtain ⟨n', m', e'⟩ := k.2 _ _ _ e
  exact ⟨la, n', m', e', n1, n2⟩
theorem Off.of {p D : Addr} {H : Hp} {c : Nat} (x : Pen H p c) (f : H D = none) : Off p D H := by
  obtain ⟨la, ns, n, m, e1, e2, _⟩ := x
  exact ⟨la, n, m, e1, ne_of_none e2 f, ne_of_none e1 f⟩
theorem Off.ne {p D : Addr} {H : Hp} (x : Off p D H) : D ≠ p := by
  obtain ⟨_, _, _, _, _, n⟩ := x
  exact n.symm
theorem Off.put {p D D' : Addr} {H : Hp} {o : HO} (x : Off p D H) (n : p ≠ D') : Off p D (upd H D' o) := by
  obtain ⟨la', n', m', e', n1, n2⟩ := x
  exact ⟨la', n', m', by rw [upd_ne n]; exact e', n1, n2⟩
theorem Pen.put {p D : Addr} {H : Hp} {o : HO} {c : Nat} (x : Pen H p c) (y : Off p D H) : Pen (upd H D o) p c := by
  obtain ⟨la, ns, n, m, e1, e2, e3⟩ := x
  obtain ⟨la', n', m', e', n1, n2⟩ := y
  cases pen_inj (Option.some.inj (e1.symm.trans e'))
  exact ⟨la, ns, n, m, by rw [upd_ne n2]; exact e1, by rw [upd_ne n1]; exact e2, e3⟩
section
variable {P : Program} {w : World} {K : PySem.W.Frag} {mg : Str → Option Value} {base : Heap} {f C : Addr} {fd : FuncData}
def spPen (K : PySem.W.Frag) : Sp := fun vs H Q _ => ∃ (a : Addr) (ns : List Int), vs = [.ref a] ∧ SqL K H a (ns.map V.int) ∧ ns.length ≤ 63 ∧ ∀ p H', Same H H' → H p = none → Pen H' p 900000000 → Q (.ref p) H'
theorem ok_pen (F : Dn K d_l_pen f fd) (b : Bl mg) : FnOk P w K mg base CX0 1 f fd ["_law_script"] (spPen K) := by
  refine F.ok sc_l_pen (fun vs H Q E h => ?_) (fun cdv A outer s H vs Q E hr h => ?_)
  · obtain ⟨a, ns, rfl, _⟩ := h
    rfl
  · obtain ⟨a, ns, rfl, hS, hlen, hQ⟩ := h
    refine ⟨_, PSs.nox (pss_one (ps_ret (pe_lst (pa_cons (pe_callTy call_list_of rfl b.list boot_list (pa_cons (pe_slice sl_list (pv 0) po_none (po_some pe_int)) pa_nil)) (pa_cons pe_int (pa_cons pe_int pa_nil)))))), ?_⟩
    refine ⟨_, rfl, 63, rfl, a, _, rfl, hS, fun q hq => ⟨q, _, rfl, Or.inl (SqL.of upd_same), fun l hl => ?_⟩⟩
    refine ⟨by show 3 ≤ sizeLine; decide, fun p hp => ?_⟩
    have e : cutV (ns.map V.int) none (some 63) = (ns.take 63).map V.int := by
      unfold cutV
      simp [HT.sIx, List.map_take]
    have s1 := same_new (o := .lst (cutV (ns.map V.int) none (some 63))) hq
    have s2 := same_new (o := .lst (cutV (ns.map V.int) none (some 63))) hl
    have s3 := same_new (o := .lst (penL l 0 0)) hp
    refine hQ p _ ((s1.trans s2).trans s3) ((s1.trans s2).free hp) ⟨l, ns.take 63, 0, 0, upd_same, ?_, ?_, by decide, by decide⟩
    · rw [← e]
      exact s3 _ _ upd_same
    · exact ne_of_none upd_same hp
def spDraw : Sp := fun vs H Q _ => ∃ (p : Addr) (c : Nat) (k : Int), vs = [.ref p, .int k] ∧ Pen H p (c + 1) ∧ 0 < k ∧ k < 1073741824 ∧
  ∀ r H', 0 ≤ r → r < k → Pen H' p c → Kp p H H' → Q (.int r) H'
theorem ok_draw (F : Dn K d_l_draw f fd) (b : Bl mg) : FnOk P w K mg base CX0 1 f fd ["_law_pen_here", "_law_many"] spDraw := by
  refine F.ok sc_l_draw (fun vs H Q E h => ?_) (fun cdv A outer s H vs Q E hr h => ?_)
  · obtain ⟨p, c, k, rfl, _⟩ := h
    rfl
  · obtain ⟨p, c, k, rfl, ⟨l, ns, n, m, hp, hl, nlp, hn, hc⟩, hk0, hk1, hQ⟩ := h
    have hu64 : (A.deeper (envOfC d_l_draw.qual d_l_draw.scope s.heap.objs.size f cdv)).units + 64 < cLine := by have := hr.un; omega
    refine ⟨_, PSs.nox (pss_cons (ps_if (pt_cmpR op_gt (pe_ix ix_list (pv 0) pe_int (fun _ _ => rfl)) pe_int (nomark _))
         (pss_cons (ps_set (i := 2) sc_l_draw.nd rfl (.inl rfl) (pe_op op_mod (pe_ix ix_list (pv 0) pe_int (fun _ _ => rfl)) (pv 1)))
         (pss_cons (ps_asg (pe_op op_fdiv (pe_ix ix_list (pv 0) pe_int (fun _ _ => rfl)) (pv 1)) (pg_sub (pv 0) pe_int set_list))
         (pss_one (ps_ret (pv 2))))) pss_nil)
      (pss_cons (ps_set (i := 3) sc_l_draw.nd rfl (.inl rfl) (pe_ix ix_list (pv 0) pe_int (fun _ _ => rfl)))
      (pss_cons (ps_asg (pe_op op_add (pv 3) pe_int) (pg_sub (pv 0) pe_int set_list))
      (pss_cons (ps_set (i := 4) sc_l_draw.nd rfl (.inl rfl) pe_int)
      (C8.pss_cut (ps_if (pt_cmpR (op_neD hu64) (pe_ix ix_list (pv 0) pe_int (fun _ _ => rfl)) (pe_lst pa_nil) (nomark _))
        (pss_one (ps_set (i := 4) sc_l_draw.nd rfl (.inl rfl) (pe_ix ix_list (pe_ix ix_list (pv 0) pe_int (fun _ _ => rfl)) (pe_op op_mod (pv 3) (pe_callB call_len_seq rfl b.len boot_len (pa_cons (pe_ix ix_list (pv 0) pe_int (fun _ _ => rfl)) pa_nil))) (fun _ _ => rfl)))) pss_nil)
      (pss_cons (ps_if (PW.pt (pw_and (pt_cmpR op_ge (pv 4) (pe_op op_pow pe_int pe_int) (nomark _)) (pw_and1 (pt_cmpR op_lt (pv 3) (pe_callB call_len_seq rfl b.len boot_len (pa_cons (pe_ix ix_list (pv 0) pe_int (fun _ _ => rfl)) pa_nil)) (nomark _)))))
         (pss_cons (ps_asg (pe_op op_fdiv (pv 4) (pv 1)) (pg_sub (pv 0) pe_int set_list))
         (pss_one (ps_ret (pe_op op_mod (pv 4) (pv 1))))) pss_nil)
      (pss_cons (ps_set (i := 5) sc_l_draw.nd rfl (.inl rfl) (pe_op op_mod (pe_op op_add (pe_op op_add (pe_op op_add (pe_op op_mul (pe_op op_mod (pv 4) pe_int) pe_int) (pe_op op_mul (pe_op op_mul pe_int (pv 3)) (pv 3))) (pe_op op_mul pe_int (pv 3))) pe_int) pe_int))
      (pss_cons (ps_set (i := 5) sc_l_draw.nd rfl (.inl rfl) (pe_op op_mod (pe_op op_mul (pv 5) (pe_op op_add (pe_op op_mod (pv 5) pe_int) pe_int)) pe_int))
      (pss_one (ps_ret (pe_op op_mod (pe_op op_fdiv (pe_op op_mod (pe_op op_add (pe_op op_mul (pv 5) pe_int) (pv 3)) pe_int) pe_int) (pv 1)))))))))))), ?_⟩
    have cM : ∀ x y : Int, 0 < y → (0 ≤ x % y ∧ x % y < y) := fun x y hy => ⟨Int.emod_nonneg _ (by omega), Int.emod_lt_of_pos _ hy⟩
    have i2 : ∀ {n m : Int}, atI (penL l n m) 2 = some (.int m) := atI_nat (j := 2) rfl
    have i1 : ∀ {n m : Int}, atI (penL l n m) 1 = some (.int n) := atI_nat (j := 1) rfl
    have i0 : ∀ {n m : Int}, atI (penL l n m) 0 = some (.ref l) := atI_nat (j := 0) rfl
    refine ⟨_, rfl, p, _, _, _, rfl, rfl, SqL.of hp, i2, _, _, rfl, rfl, _, rfl, ?_⟩
    refine ite2 (fun h1 => ?_) (fun h1 => ?_)
    · refine ⟨_, rfl, p, _, _, _, rfl, rfl, SqL.of hp, i2, _, rfl, _, _, rfl, rfl, hk0, ?_⟩
      refine ⟨_, rfl, p, _, _, _, rfl, rfl, SqL.of hp, i2, _, rfl, _, _, rfl, rfl, ⟨hk0, hk1⟩, _, rfl, p, _, _, 2, rfl, rfl, hp, rfl, ?_⟩
      refine ⟨_, rfl, hQ _ _ (cM _ _ hk0).1 (cM _ _ hk0).2 ⟨l, ns, n, m / k, upd_same, ?_, nlp, hn, by omega⟩ (Kp.put n (m / k) hp)⟩
      rw [upd_ne nlp]
      exact hl
    · refine ⟨_, rfl, p, _, _, _, rfl, rfl, SqL.of hp, i1, ?_⟩
      refine ⟨_, rfl, _, _, rfl, rfl, _, rfl, p, _, _, 1, rfl, rfl, hp, rfl, ?_⟩
      have hp1 : (upd H p (.lst (penL l (n + 1) m))) p = some (.lst (penL l (n + 1) m)) := upd_same
      have hl1 : (upd H p (.lst (penL l (n + 1) m))) l = some (.lst (ns.map V.int)) := by rw [upd_ne nlp]; exact hl
      have kp1 : Kp p H (upd H p (.lst (penL l (n + 1) m))) := Kp.put _ _ hp
      refine ⟨fun σ' H' => ∃ (cell : Int), σ' = [some (.ref p), some (.int k), none, some (.int n), some (.int cell), none] ∧ H' p = some (.lst (penL l (n + 1) m)) ∧ H' l = some (.lst (ns.map V.int)) ∧ Kp p H H', ?_, ?_⟩
      · refine ⟨_, rfl, p, _, _, _, rfl, rfl, SqL.of hp1, i0, (by show 0 ≤ sizeLine; decide), fun e he => ?_⟩
        have s2 := same_new (o := .lst []) he
        have hp2 := s2 _ _ hp1
        have hl2 := s2 _ _ hl1
        have kp2 := kp1.trans (Kp.same s2)
        refine ⟨.list (ns.map .int), .list [], Dp.lst (SqL.of hl2) (dpInts ns), Dp.lst (SqL.of upd_same) .nil, PySem.W.ke_shaped_ints ns, by decide, _, rfl, ?_⟩
        cases ns with
        | nil => exact iteF ⟨5, rfl, hp2, hl2, kp2⟩
        | cons z zs =>
          refine iteT ?_
          have hlen : (0 : Int) < (((z :: zs).map V.int).length : Int) := by simp
          refine ⟨_, rfl, p, _, _, _, rfl, rfl, SqL.of hp2, i0, _, rfl, _, rfl, p, _, _, _, rfl, rfl, SqL.of hp2, i0, l, _, rfl, Or.inl (SqL.of hl2), _, _, rfl, rfl, hlen, ?_⟩
          obtain ⟨q, hq⟩ := Int.eq_ofNat_of_zero_le (cM n _ hlen).1
          have hq2 := (cM n _ hlen).2
          rw [hq] at hq2
          have hq3 : q < (z :: zs).length := by rw [List.length_map] at hq2; omega
          refine ⟨l, _, _, .int ((z :: zs)[q]), rfl, rfl, SqL.of hl2, (by rw [hq]; exact atI_nat (by rw [List.getElem?_map, List.getElem?_eq_getElem hq3]; rfl)), ?_⟩
          exact ⟨_, rfl, hp2, hl2, kp2⟩
      · rintro σ' H' ⟨cell, rfl, hp2, hl2, kp2⟩
        have stay0 : Pen H' p c := ⟨l, ns, n + 1, m, hp2, hl2, nlp, by omega, by omega⟩
        have last : ∀ D : Ends, D.rt = Q → tSeq (tAsg (tOp (rI (fun _ j => 0 < j) fun i j => .int (i % j)) (tOp (rI0 fun i j => .int (i + j)) (tOp (rI0 fun i j => .int (i + j)) (tOp (rI0 fun i j => .int (i + j))
            (tOp (rI CMul fun i j => .int (i * j)) (tOp (rI (fun _ j => 0 < j) fun i j => .int (i % j)) (tVar 4) (tC (.int 2147483629))) (tC (.int 40503))) (tOp (rI CMul fun i j => .int (i * j)) (tOp (rI CMul fun i j => .int (i * j)) (tC (.int 7919)) (tVar 3)) (tVar 3)))
            (tOp (rI CMul fun i j => .int (i * j)) (tC (.int 104729)) (tVar 3))) (tC (.int 29))) (tC (.int 2147483647))) (gName 5))
          (tSeq (tAsg (tOp (rI (fun _ j => 0 < j) fun i j => .int (i % j)) (tOp (rI CMul fun i j => .int (i * j)) (tVar 5) (tOp (rI0 fun i j => .int (i + j)) (tOp (rI (fun _ j => 0 < j) fun i j => .int (i % j)) (tVar 5) (tC (.int 65003))) (tC (.int 3)))) (tC (.int 2147483587))) (gName 5))
          (tRet (tOp (rI (fun _ j => 0 < j) fun i j => .int (i % j)) (tOp (rI CDiv fun i j => .int (i / j)) (tOp (rI (fun _ j => 0 < j) fun i j => .int (i % j)) (tOp (rI0 fun i j => .int (i + j)) (tOp (rI CMul fun i j => .int (i * j)) (tVar 5) (tC (.int 69621))) (tVar 3)) (tC (.int 2147483563))) (tC (.int 16))) (tVar 1)))) D [some (.ref p), some (.int k), none, some (.int n), some (.int cell), none] H' := by
          intro D hD
          refine ⟨_, rfl, _, _, rfl, rfl, (by decide : (0 : Int) < 2147483629), _, _, rfl, rfl, cb_r (by decide) (by decide), _, rfl, _, _, rfl, rfl, cb_l (by decide) (by decide), _, rfl, _, _, rfl, rfl, cb_r (by omega) (by omega), _, _, rfl, rfl, ?_⟩
          refine ⟨_, rfl, _, _, rfl, rfl, cb_l (by decide) (by decide), _, _, rfl, rfl, _, _, rfl, rfl, _, _, rfl, rfl, (by decide : (0 : Int) < 2147483647), ?_⟩
          refine ⟨_, rfl, _, rfl, _, _, rfl, rfl, (by decide : (0 : Int) < 65003), _, _, rfl, rfl, _, _, rfl, rfl, ?_, _, _, rfl, rfl, (by decide : (0 : Int) < 2147483587), ?_⟩
          · refine cb_l ?_ ?_
            · exact Int.lt_of_lt_of_le (by decide) (cM _ 2147483647 (by decide)).1
            · exact Int.lt_trans (cM _ 2147483647 (by decide)).2 (by decide)
          refine ⟨_, rfl, _, _, rfl, rfl, cb_r (by decide) (by decide), _, rfl, _, _, rfl, rfl, _, _, rfl, rfl, (by decide : (0 : Int) < 2147483563), _, _, rfl, rfl, ⟨by decide, by decide⟩, _, rfl, _, _, rfl, rfl, hk0, ?_⟩
          rw [hD]
          exact hQ _ _ (cM _ _ hk0).1 (cM _ _ hk0).2 stay0 kp2
        refine ⟨_, rfl, _, _, rfl, rfl, ⟨by decide, by decide, by decide⟩, _, _, rfl, rfl, _, rfl, ?_⟩
        refine ite2 (fun g1 => ?_) (fun g1 => iteF (last _ rfl))
        refine ⟨_, rfl, _, rfl, p, _, _, _, rfl, rfl, SqL.of hp2, i0, l, _, rfl, Or.inl (SqL.of hl2), _, _, rfl, rfl, _, rfl, ?_⟩
        refine ite2 (fun g2 => ?_) (fun g2 => last _ rfl)
        refine ⟨_, rfl, _, rfl, _, _, rfl, rfl, ⟨hk0, hk1⟩, _, rfl, p, _, _, 2, rfl, rfl, hp2, rfl, ?_⟩
        refine ⟨_, rfl, _, rfl, _, _, rfl, rfl, hk0, ?_⟩
        refine hQ _ _ (cM _ _ hk0).1 (cM _ _ hk0).2 ⟨l, ns, n + 1, cell / k, upd_same, ?_, nlp, by omega, by omega⟩ (kp2.trans (Kp.put (n + 1) (cell / k) hp2))
        rw [upd_ne nlp]
        exact hl2
end
end K09
set_option Elab.async false
set_option linter.all false
set_option maxRecDepth 100000
set_option maxHeartbeats 4000000
/-! OW: ==, !=, str and repr of instances of an own class by its own __eq__, __str__, __repr__. -/
namespace OW
open PySem PySem.Spec PyProof.Rows L2
/-- what is known of a special def of the class: where it stands, that it keeps its promise -/
structure Spc (P : Program) (w : World) (K : PySem.W.Frag) (mg : Str → Option Value) (base : Heap) (k : Nat) (C : Addr) (m : Str) (sp : Sp) : Prop where
  ex : ∃ (f : Addr) (fd : FuncData) (ps : List Str), PySem.W.findIn K (.ref C) m = some (some (.ref f)) ∧ PySem.W.isFn K (.ref f) = true ∧ FnOk P w K mg base CX0 k f fd ps sp ∧ Binds K fd ps []
section
variable {X : Cx} {pins : List (Addr × Obj)} {σ : L2.St} {H : Hp} {s : Shared} {Q : VK} {k : Nat} {C a b : Addr} {sp : Sp}
/-- a def called at any around with room -/
theorem run_at {f : Addr} {fd : FuncData} {ps : List Str} {A : Around} {us : List Value} {vs : List V} {E' : Value → Shared → Prop} (F : FnOk X.prog X.w X.K X.mg X.base CX0 k f fd ps sp) (hb : Binds X.K fd ps []) (hr : Room k A) (I : Inv X pins σ H s)
    (he : Env0 X.prog X.w X.K X.mg X.base A X.stack s H) (r : Vals vs us) (h : sp vs H Q E0) : wpAny (model X.prog X.w) A (call (.ref f) us) (EP X pins σ Q) E' s := by
  have hl : us.length = ps.length := by rw [← r.length]; exact F.len _ _ _ _ h
  have b := hb s us I.kIn (by rw [List.append_nil]; exact hl)
  rw [List.append_nil] at b
  refine wpAny_call (codeAny_mono (F.run A X.stack s H ⟨us, []⟩ us vs Q E0 hr he b r h) fun r s' hq => ?_)
  cases r with
  | error e => exact False.elim hq
  | ok fl =>
    cases fl with
    | ret u => exact I.after hq
    | next => exact False.elim hq
    | brk => exact False.elim hq
    | cont => exact False.elim hq
theorem same_first : PySem.W.notFirst X.K C (.ref C) = true := by
  unfold PySem.W.notFirst
  rw [beq_self_eq_true, Bool.true_or]
/-- x == y, both of the class -/
def rEqO (C : Addr) (sp : Sp) : R2 := fun x y H Q => ∃ a dx fs b dy gs, x = .ref a ∧ y = .ref b ∧ H a = some (.ins C dx fs) ∧ H b = some (.ins C dy gs) ∧ sp [x, y] H (fun v H' => ∃ z, v = .bl z ∧ Q (.bl z) H') E0
def rNeO (C : Addr) (sp : Sp) : R2 := fun x y H Q => ∃ a dx fs b dy gs, x = .ref a ∧ y = .ref b ∧ H a = some (.ins C dx fs) ∧ H b = some (.ins C dy gs) ∧ sp [x, y] H (fun v H' => ∃ z, v = .bl z ∧ Q (.bl (!z)) H') E0
theorem op_eqO (S : Spc X.prog X.w X.K X.mg X.base k C "__eq__" sp) (hr : Room k X.A) : OpR X (compareOp .Eq) (rEqO C sp) := by
  obtain ⟨f, fd, ps, h1, h2, F, hb⟩ := S.ex
  intro pins s σ H x y v u Q I rx ry h
  obtain ⟨a, dx, fs, b, dy, gs, rfl, rfl, ea, eb, q⟩ := h
  cases (show v = Value.ref a from rx)
  cases (show u = Value.ref b from ry)
  obtain ⟨mA, O, _⟩ := ins_get I.hok ea
  obtain ⟨od, J, _⟩ := O.look
  obtain ⟨mB, O', _⟩ := ins_get I.hok eb
  obtain ⟨od', J', _⟩ := O'.look
  obtain ⟨m, hF⟩ := I.fr
  show wpAny _ _ (richCompare .Eq (.ref a) (.ref b)) _ _ _
  refine PySem.W.cmp_K (op := .Eq) (tb := .ref C) hr.units0 hF I.ok.mod.kin J J'.type same_first h1 h2 ?_
  refine wpAny_mono (run_at (E' := X.xe) (vs := [.ref a, .ref b]) F hb hr I I.env0 (.cons rfl (.cons rfl .nil)) q) (fun w s' z => ?_) fun _ _ x => x
  obtain ⟨z', H', I', rz, z, rfl, qz⟩ := z
  cases (show w = Value.bool z from rz)
  exact ⟨.bl z, H', I', rfl, qz⟩
open Builtin in
theorem op_neO (S : Spc X.prog X.w X.K X.mg X.base (k + 1) C "__eq__" sp) (hn : PySem.W.findIn X.K (.ref C) "__ne__" = some (some (.builtin "object.__ne__"))) (hm : PySem.W.mroIn X.K C (.type "object") = some true) (hr : Room (k + 2) X.A) : OpR X (compareOp .NotEq) (rNeO C sp) := by
  obtain ⟨f, fd, ps, h1, h2, F, hb⟩ := S.ex
  intro pins s σ H x y v u Q I rx ry h
  obtain ⟨a, dx, fs, b, dy, gs, rfl, rfl, ea, eb, q⟩ := h
  cases (show v = Value.ref a from rx)
  cases (show u = Value.ref b from ry)
  obtain ⟨mA, O, _⟩ := ins_get I.hok ea
  obtain ⟨od, J, _⟩ := O.look
  obtain ⟨mB, O', _⟩ := ins_get I.hok eb
  obtain ⟨od', J', _⟩ := O'.look
  have KI := I.kIn
  have callEq : wpAny (model X.prog X.w) X.A.in1 (call (.ref f) [.ref a, .ref b]) (fun v s' => ∃ z, v = .bool z ∧ EP X pins σ Q (.bool (!z)) s') X.xe s := by
    refine wpAny_mono (run_at (E' := X.xe) (vs := [.ref a, .ref b]) F hb hr.in1 I I.env0.in1 (.cons rfl (.cons rfl .nil)) q) (fun w s' z => ?_) fun _ _ x => x
    obtain ⟨z', H', I', rz, z, rfl, qz⟩ := z
    exact ⟨z, rz, .bl (!z), H', I', rfl, qz⟩
  have slot := PySem.F.cmp_object.ne
  have sub : PySem.W.Looks (model X.prog X.w) s.heap (isInstance (.ref a) (.type "object")) true := J.type.andThen (PySem.W.looks_mroIn KI hm)
  have uu : X.A.in1.units < cLine := hr.in1.units0
  have body : wpAny (model X.prog X.w) X.A.in1 (Builtin.«object.__ne__» ⟨[.ref a, .ref b], []⟩) (fun fin s' => match fin with | .done f => (match f with | .ret v => EP X pins σ Q v s' ∧ ∃ z, v = .bool z | _ => False) | .again _ => False) X.xe s := by
    unfold Builtin.«object.__ne__»
    repeat (first
      | with_reducible refine wpAny_cRoomFor uu ?_
      | (refine wpAny_bind (m := callSpecialIfBound? (.ref a) (Str.ofString "__eq__") [.ref b]) (PySem.W.ifBound_K KI J h1 h2 (wpAny_mono callEq (fun r s' hr => by
          obtain ⟨z, rfl, hq⟩ := hr
          repeat (first | exact ⟨hq, _, rfl⟩ | exact wpAny_pure ⟨hq, _, rfl⟩ | (refine wpAny_bind (m := truthy (.bool _)) (wpAny_truthy_bool ?_)) | wp_step)) fun _ _ e => e)))
      | wp_step)
  have callNe : wpAny (model X.prog X.w) X.A (call (.builtin "object.__ne__") [.ref a, .ref b]) (fun v s' => EP X pins σ Q v s' ∧ ∃ z, v = .bool z) X.xe s := by
    refine wpAny_call (codeAny_call_builtin slot.plain PySem.F.cmpEntry_ne (PySem.W.check_slot PySem.F.cmpKind_ne PySem.F.cmpSplit_ne sub (PySem.F.cmpArgs_ne _ _) ?_))
    refine wpAny_mono body (fun fin s' z => ?_) fun _ _ x => x
    cases fin with
    | done fl =>
      cases fl with
      | ret v => exact z
      | next => exact z.elim
      | brk => exact z.elim
      | cont => exact z.elim
    | again c => exact z.elim
  show wpAny _ _ (richCompare .NotEq (.ref a) (.ref b)) _ _ _
  unfold richCompare
  simp only [oneThing_ref]
  refine wpAny_holding (wpAny_bind (wpAny_cRoomFor hr.units0 ?_))
  rw [cmpInfo_NotEq]
  dsimp only
  refine wpAny_bind (J.type.here (wpAny_bind (J'.type.here ?_)))
  rw [show (Value.ref C != Value.ref C) = false from by simp]
  simp only [Bool.false_eq_true, if_false]
  refine wpAny_bind (wpAny_pure ?_)
  simp only [Bool.false_eq_true, if_false, tryCompare]
  have fin : wpAny (model X.prog X.w) X.A (call (.builtin "object.__ne__") ([.ref a] ++ [.ref b]) >>= fun v => pure (some v)) (fun r s' => ∃ v, r = some v ∧ EP X pins σ Q v s' ∧ ∃ z, v = .bool z) X.xe s :=
    wpAny_bind (wpAny_mono callNe (fun v s' h' => wpAny_pure ⟨v, rfl, h'⟩) fun _ _ h' => h')
  have bound : wpAny (model X.prog X.w) X.A (callSpecialIfBound? (.ref a) "__ne__" [.ref b]) (fun r s' => ∃ v, r = some v ∧ EP X pins σ Q v s' ∧ ∃ z, v = .bool z) X.xe s := by
    simp only [callSpecialIfBound?, bindSpecialIfBound?]
    refine wpAny_holding (wpAny_bind (wpAny_bind (wpAny_bind (J.type.here ((PySem.W.looks_findIn KI hn).here ?_)))))
    simp only [slot.bind]
    refine wpAny_bind (wpAny_askSetting (wpAny_ite ?_))
    split
    · exact wpAny_bind (wpAny_pure (wpAny_pure fin))
    · exact wpAny_tryCatch (wpAny_bind (wpAny_pure (wpAny_pure fin)))
  refine wpAny_bind (wpAny_bind (wpAny_mono bound (fun r s' z => ?_) fun _ _ h => h))
  obtain ⟨v, rfl, hq, z, rfl⟩ := z
  first | exact wpAny_pure (wpAny_pure hq) | exact wpAny_pure hq
/-- str(x), repr(x) -/
def rStrO (C : Addr) (sp : Sp) : List V → Hp → VK → Prop := fun xs H Q => ∃ a dx fs, xs = [.ref a] ∧ H a = some (.ins C dx fs) ∧ sp [.ref a] H (fun v H' => ∃ z, v = .str z ∧ Q (.str z) H') E0
theorem call_strO (S : Spc X.prog X.w X.K X.mg X.base k C "__str__" sp) (hr : Room (k + 2) X.A) : CallR X (.type "str") (rStrO C sp) := by
  obtain ⟨f, fd, ps, h1, h2, F, hb⟩ := S.ex
  intro pins s σ H xs us Q I r h
  obtain ⟨a, dx, fs, rfl, ea, q⟩ := h
  obtain ⟨u, rfl, ru⟩ := vals1 r
  cases (show u = Value.ref a from ru)
  obtain ⟨mA, O, _⟩ := ins_get I.hok ea
  obtain ⟨od, J, _⟩ := O.look
  refine PySem.W.kso_call hr.in1.in1.units0 I.kIn J h1 h2 ?_
  refine wpAny_mono (run_at (E' := X.xe) (vs := [.ref a]) F hb hr.in1.in1 I I.env0.in1.in1 (.cons rfl .nil) q) (fun w s' z => ?_) fun _ _ x => x
  obtain ⟨z', H', I', rz, z, rfl, qz⟩ := z
  obtain ⟨t, rfl⟩ := rz
  exact ⟨.str z, H', I', ⟨t, rfl⟩, qz⟩
theorem call_reprO (S : Spc X.prog X.w X.K X.mg X.base k C "__repr__" sp) (hr : Room (k + 1) X.A) : CallR X (.builtin "repr") (rStrO C sp) := by
  obtain ⟨f, fd, ps, h1, h2, F, hb⟩ := S.ex
  intro pins s σ H xs us Q I r h
  obtain ⟨a, dx, fs, rfl, ea, q⟩ := h
  obtain ⟨u, rfl, ru⟩ := vals1 r
  cases (show u = Value.ref a from ru)
  obtain ⟨mA, O, _⟩ := ins_get I.hok ea
  obtain ⟨od, J, _⟩ := O.look
  obtain ⟨m, hF⟩ := I.fr
  refine PySem.W.repr_K hr.in1.units0 hF I.ok.mod.kin J h1 h2 ?_
  refine wpAny_mono (run_at (E' := X.xe) (vs := [.ref a]) F hb hr.in1 I I.env0.in1 (.cons rfl .nil) q) (fun w s' z => ?_) fun _ _ x => x
  obtain ⟨z', H', I', rz, z, rfl, qz⟩ := z
  obtain ⟨t, rfl⟩ := rz
  exact ⟨.str z, H', I', ⟨t, rfl⟩, qz⟩
end
end OW
set_option Elab.async false
set_option linter.all false
set_option maxRecDepth 100000
set_option maxHeartbeats 4000000
/-! GL: promises of defs that are asked only where no repr is under way (A.guards = some []); what such a def may do more: repr of lists and tuples. -/
namespace GL
open PySem PySem.Spec PyProof.Rows L2
/-- a def's promise, where no repr is under way -/
structure FnG (P : Program) (w : World) (K : PySem.W.Frag) (mg : Str → Option Value) (base : Heap) (k : Nat) (f : Addr) (fd : FuncData) (ps : List Str) (sp : Sp) : Prop where
  len : ∀ vs H Q E, sp vs H Q E → vs.length = ps.length
  run : ∀ (A : Around) (outer : List Env) (s : Shared) (H : Hp) (args : Args) (us : List Value) (vs : List V) (Q : VK) (E : XK), A.guards = some [] → Room k A → Env0 P w K mg base A outer s H → BindsTo s fd args (ps.zip us) → Vals vs us → sp vs H Q E →
    codeAny (model P w) A (.call (.ref f) args) (CR CX0 outer P w H s Q E) s
section
variable {P : Program} {w : World} {K : PySem.W.Frag} {mg : Str → Option Value} {base : Heap} {k : Nat} {f : Addr} {fd : FuncData} {ps : List Str} {sp : Sp}
theorem FnG.of (F : FnOk P w K mg base CX0 k f fd ps sp) : FnG P w K mg base k f fd ps sp := ⟨F.len, fun A outer s H args us vs Q E _ => F.run A outer s H args us vs Q E⟩
/-- by its body -/
theorem okG {x qual : Str} {params : Arguments} {body : List Stmt} {scope : Scope} {dvs : List V} {kws : List (Str × V)} {N : List Str} (F : FunD K x qual params body scope dvs kws f fd) (S : FnScope N ps scope) (len : ∀ vs H Q E, sp vs H Q E → vs.length = ps.length)
    (hbody : ∀ (cdv : Value) (A : Around) (outer : List Env) (s : Shared) (H : Hp) (vs : List V) (Q : VK) (E : XK), A.guards = some [] → Room k (A.deeper (envOfC qual scope s.heap.objs.size f cdv)) → sp vs H Q E →
      ∃ t, PSs (cxOf CX0 P w K mg base N qual scope f cdv A outer s H E) body t ∧ t { nx := fun _ H' => Q .non H', rt := Q } (start N vs) H) : FnG P w K mg base (k + 1) f fd ps sp := by
  refine ⟨len, fun A outer s H args us vs Q E hg hr e0 hb r hsp => ?_⟩
  obtain ⟨oc, od, dV, kV, doc, pm, an, cdv, ct, osl, hfd, lk, hcd, _, _⟩ := F.ex
  subst hfd
  obtain ⟨t, ht, hq⟩ := hbody cdv A outer s H vs Q E hg (hr.deeper _) hsp
  have keep : ∀ b o, base.get? b = some o → s.heap.get? b = some o := fun b o e => (e0.bs b o e).1
  have KX : K.In s.heap := e0.mod.kin.keeps keep
  refine codeAny_call_function hr.depth (KX _ _ lk) rfl S.co S.gen rfl (PySem.W.codeRec_of KX hcd) (hb _ _ _ _ (wpAny_newFunctionEnv_cells S.kind (fun y hy => ?_) fun env he s1 x => ?_))
  · exact (S.par y.1 (List.of_mem_zip hy).1).imp id fun q => ⟨q, PySem.W.cellsFrom_some _ _ _ (.inl q)⟩
  · subst he
    refine ⟨(e0.mod.nolimit.keeps keep).keeps x.toInCall.keep, codeAny_func (wpAny_mono (ht.run [] s1 (start N vs) H _ (inv_start S hr.hd e0 (len _ _ _ _ hsp) r x) hq) (fun fl s' hs => ?_) fun e s' hs => hs)⟩
    match fl, hs with
    | .ret u, ⟨v, σ', H', J, rv, q⟩ => exact ⟨v, H', J.os, J.bare, J.base, J.hok, rv, q⟩
    | .next, ⟨σ', H', J, q⟩ => exact ⟨.non, H', J.os, J.bare, J.base, J.hok, rfl, q⟩
    | .brk, ⟨_, _, _, q⟩ => exact q.elim
    | .cont, ⟨_, _, _, q⟩ => exact q.elim
end
/-- the package of a def of this kind -/
structure CalG (P : Program) (w : World) (K : PySem.W.Frag) (mg : Str → Option Value) (base : Heap) (k : Nat) (x : Str) (sp : Sp) (dvs : List V) : Prop where
  ex : ∃ (f : Addr) (fd : FuncData) (ps : List Str) (ds : List Value), FnG P w K mg base k f fd ps sp ∧ mg x = some (.ref f) ∧ PySem.W.keepIn K (.ref f) = true ∧ Binds K fd ps ds ∧ Vals dvs ds
section
variable {X : Cx} {k j : Nat} {x : Str} {sp : Sp} {dvs : List V} {e : Expr} {es : List Expr} {t : TA} {p pos : Pos}
theorem pe_cG (c : CalG X.prog X.w X.K X.mg X.base k x sp dvs) (hgd : X.A.guards = some []) (hr : Room j X.A) (hk : k ≤ j) (hg : Gl X x) (ha : PA X (e :: es) t)
    (hdb : (x == ("__debug__" : Str)) = false := by decide) (he : starEach (e :: es) X.env = (false, eval e X.env) :: starEach es X.env := by rfl) (hpl : (backTo pos (starEach es X.env)).any (·.1) = false := by rfl) :
    PE X (.Call (.Name x p) (e :: es) [] pos) (tCall sp dvs E0 t) := by
  obtain ⟨f, fd, ps, ds, F, hm, kp, b, d⟩ := c.ex
  refine ⟨fun pins s σ H Q I h => wpAny_Call_Name_kw (ld_glob I hg hm (PySem.W.callWith_K (h₀ := X.base) I.ok.mod.kin kp (thn (ha.run pos pins s σ H _ I h) fun us s1 ⟨vs, H1, I1, r, q⟩ => ⟨I1.kIn, ?_⟩) he hpl) hdb)⟩
  have r2 := r.append d
  refine wpAny_call (codeAny_mono (F.run X.A X.stack s1 H1 ⟨us, []⟩ (us ++ ds) (vs ++ dvs) Q E0 hgd (hr.mono hk) I1.env0 (b s1 us I1.kIn (r2.length.symm.trans (F.len _ _ _ _ q))) r2 q) fun r s' hq => ?_)
  match r, hq with
  | .error _, hq => exact hq.elim
  | .ok (.ret u), hq => exact I1.after hq
  | .ok .next, hq => exact hq.elim
  | .ok .brk, hq => exact hq.elim
  | .ok .cont, hq => exact hq.elim
/-- repr of what is flat, of lists and tuples -/
def rRepr (K : PySem.W.Frag) : List V → Hp → VK → Prop := fun xs H Q => ∃ (y : V) (d : PyData), xs = [y] ∧ Dp K H y d ∧ d.showable = true ∧ d.hasDict = false ∧ d.depth ≤ 60 ∧ d.shown.length ≤ sizeLine ∧ Q (.str d.shown) H
theorem call_reprD (hgd : X.A.guards = some []) (hu : X.A.units + 64 < cLine) : CallR X (.builtin "repr") (rRepr X.K) := by
  intro pins s σ H xs us Q I r h
  obtain ⟨y, d, rfl, hd, hs, hn, hdp, hsz, q⟩ := h
  obtain ⟨u, rfl, ru⟩ := r.one
  obtain ⟨as, rd⟩ := Dp.reads I d y u hd ru
  have fin : ∀ h' tk t, (∀ b o, s.heap.get? b = some o → h'.get? b = some o) → EP X pins σ Q (.str d.shown t) { s with heap := h', toks := tk } := fun h' tk t hk => ⟨.str d.shown, H, I.kept hk, ⟨t, rfl⟩, q⟩
  cases hd with
  | non => cases ru; exact PySem.P.repr_of_none (fin s.heap _ _ fun _ _ e => e)
  | bl b => cases ru; exact PySem.P.repr_of_bool (fin s.heap _ _ fun _ _ e => e)
  | int i =>
    obtain ⟨t, rfl⟩ := ru
    exact PySem.P.repr_of_int (of_decide_eq_true hs) (fin s.heap _ _ fun _ _ e => e)
  | str z =>
    obtain ⟨t, rfl⟩ := ru
    exact PySem.P.repr_of_str (fin s.heap _ _ fun _ _ e => e) hsz
  | lst _ _ =>
    cases ru
    exact repr_of_reads' rd hs (fun z => absurd z (by rw [hn]; decide)) hgd (by omega) (fun _ _ e => e) (fun h' u tk hk => fin h' tk u hk) hsz
  | tup _ _ =>
    cases ru
    exact repr_of_reads' rd hs (fun z => absurd z (by rw [hn]; decide)) hgd (by omega) (fun _ _ e => e) (fun h' u tk hk => fin h' tk u hk) hsz
end
end GL
set_option Elab.async false
set_option linter.all false
set_option maxRecDepth 100000
set_option maxHeartbeats 4000000
/-! RPO: repr of lists, tuples and dicts that hold own instances, of any depth. -/
namespace RPO
open PySem PySem.Spec PyProof.Rows L2
open Builtin Builtin.List
/-- the guards stand on these alone -/
def Gd (g : List Code) (outs : List Addr) : Prop := ∀ id v rest kw, Code.builtin id ⟨v :: rest, kw⟩ ∈ g → ∃ a ∈ outs, v = .ref a
theorem Gd.nil : Gd [] [] := fun _ _ _ _ h => nomatch h
theorem Gd.cons {g : List Code} {outs : List Addr} {id : String} {a : Addr} {rest : List Value} {kw : List (Str × Value)} (h : Gd g outs) : Gd (.builtin id ⟨.ref a :: rest, kw⟩ :: g) (a :: outs) := by
  intro id' v rest' kw' hm
  rcases List.mem_cons.mp hm with e | hm
  · cases e
    exact ⟨a, List.mem_cons_self, rfl⟩
  · obtain ⟨b, hb, e⟩ := h _ _ _ _ hm
    exact ⟨b, List.mem_cons_of_mem _ hb, e⟩
theorem Gd.clear {g : List Code} {outs : List Addr} {a : Addr} (h : Gd g outs) (n : a ∉ outs) : Clear g a := fun id v rest kw hm e => by
  obtain ⟨b, hb, e2⟩ := h id v rest kw hm
  rw [e] at e2
  cases e2
  exact n hb
/-- all but these are as they were -/
def Ex (outs : List Addr) (H H' : Hp) : Prop := ∀ a o, H a = some o → a ∉ outs → H' a = some o
theorem Ex.refl (outs : List Addr) (H : Hp) : Ex outs H H := fun _ _ h _ => h
theorem Ex.ext {outs : List Addr} {H H1 H2 : Hp} (x : Ex outs H H1) (e : Ext H1 H2) : Ex outs H H2 := fun a o h n => e a o (x a o h n)
theorem Ex.more {outs : List Addr} {H H1 : Hp} {a : Addr} (x : Ex outs H H1) : Ex (a :: outs) H H1 := fun b o h n => x b o h fun z => n (List.mem_cons_of_mem _ z)
section
variable {X : Cx}
/-- what a thing shows as, within containers at outs -/
def RpU (X : Cx) (n : Nat) (outs : List Addr) (H0 : Hp) (v : V) (t : Str) : Prop := ∀ (A : Around) (g : List Code) (pins : List (Addr × Obj)) (s : Shared) (σ : L2.St) (H : Hp) (u : Value) (bs : Nat),
  Ex outs H0 H → Sub X n A → A.guards = some g → Gd g outs → Inv X pins σ H s → RelV v u → bs + t.length ≤ sizeLine →
  wpAny (model X.prog X.w) A (pyReprUnder bs u) (fun r s' => r = t ∧ ∃ H', Inv X pins σ H' s' ∧ Ext H H') X.xe s
theorem RpU.mono {n m : Nat} {outs : List Addr} {H0 : Hp} {v : V} {t : Str} (h : RpU X n outs H0 v t) (nm : n ≤ m) : RpU X m outs H0 v t := fun A g pins s σ H u bs x sb => h A g pins s σ H u bs x (sb.mono nm)
theorem RpU.non {n : Nat} {outs : List Addr} {H0 : Hp} : RpU X n outs H0 .non "None" := fun A g pins s σ H u bs x sb hg gd I r hb => by
  cases r
  exact ReprIs.none bs hb _ _ _ _ fun tk => ⟨rfl, H, I.tok tk, Ext.rfl'⟩
theorem RpU.bl {n : Nat} {outs : List Addr} {H0 : Hp} {b : Bool} : RpU X n outs H0 (.bl b) (if b then "True" else "False") := fun A g pins s σ H u bs x sb hg gd I r hb => by
  cases r
  exact ReprIs.bool b bs hb _ _ _ _ fun tk => ⟨rfl, H, I.tok tk, Ext.rfl'⟩
theorem RpU.int {n : Nat} {outs : List Addr} {H0 : Hp} {i : Int} (h : i.natAbs.log2 < 1920) : RpU X n outs H0 (.int i) (toString i) := fun A g pins s σ H u bs x sb hg gd I r hb => by
  obtain ⟨t, rfl⟩ := r
  exact ReprIs.int t h bs hb _ _ _ _ fun tk => ⟨rfl, H, I.tok tk, Ext.rfl'⟩
theorem RpU.str {n : Nat} {outs : List Addr} {H0 : Hp} {z : Str} : RpU X n outs H0 (.str z) (reprText z) := fun A g pins s σ H u bs x sb hg gd I r hb => by
  obtain ⟨t, rfl⟩ := r
  exact ReprIs.str z t (by omega) bs hb _ _ _ _ fun tk => ⟨rfl, H, I.tok tk, Ext.rfl'⟩
/-- an own instance, by its own __repr__ -/
theorem RpU.own {k n : Nat} {outs : List Addr} {H0 : Hp} {a C dx : Addr} {fs : List (Str × V)} {sp : Sp} {t : Str} (S : OW.Spc X.prog X.w X.K X.mg X.base k C "__repr__" sp) (ha : H0 a = some (.ins C dx fs)) (na : a ∉ outs)
    (hsp : ∀ H, H a = some (.ins C dx fs) → sp [.ref a] H (fun v H' => v = .str t ∧ Ext H H') E0) (kn : k ≤ n) : RpU X n outs H0 (.ref a) t := fun A g pins s σ H u bs x sb hg gd I r hb => by
  obtain ⟨f, fd, ps, h1, h2, F, hbi⟩ := S.ex
  cases (show u = Value.ref a from r)
  have ea := x a _ ha na
  obtain ⟨mA, O, _⟩ := ins_get I.hok ea
  obtain ⟨od, J, _⟩ := O.look
  have KI := I.kIn
  have e0 : Env0 X.prog X.w X.K X.mg X.base A X.stack s H := by
    have z := I.env0
    exact ⟨sb.fr.trans z.frames, z.mod, z.bs, z.bsz, z.funs, z.frf, z.hok, z.bare⟩
  refine wpAny_pyReprUnder_ref (by omega) ?_
  unfold pyReprObjUnder pyReprObjBy
  refine wpAny_bind (wpAny_cRoomFor sb.room.units0 ?_)
  refine wpAny_bind (wpAny_bind (J.type.here ((PySem.W.looks_findIn KI h1).here ?_)))
  show wpAny _ _ (if (some (Value.ref f)).isNone = true then _ else _) _ _ _
  rw [if_neg (by simp)]
  have called : wpAny (model X.prog X.w) A (call (.ref f) [.ref a]) (fun v s' => ∃ tk, v = .str t tk ∧ ∃ H', Inv X pins σ H' s' ∧ Ext H H') X.xe s := by
    refine wpAny_mono (OW.run_at (E' := X.xe) (vs := [.ref a]) F hbi (sb.room.mono kn) I e0 (.cons rfl .nil) (hsp H ea)) (fun w s' z => ?_) fun _ _ x => x
    obtain ⟨z', H', I', rz, z, e⟩ := z
    rw [z] at rz
    obtain ⟨tk, rfl⟩ := rz
    exact ⟨tk, rfl, H', I', e⟩
  refine wpAny_bind (m := callSpecialIfBoundBy? _ (.ref a) (Str.ofString "__repr__")) ?_
  have fin : wpAny (model X.prog X.w) A (callSpecialIfBoundBy? (fun g first => match reprUnder? g, first with | some twin, [self] => call twin [self, rawInt bs] | _, _ => call g (first ++ [])) (.ref a) (Str.ofString "__repr__"))
      (fun r s' => ∃ tk, r = some (.str t tk) ∧ ∃ H', Inv X pins σ H' s' ∧ Ext H H') X.xe s := by
    simp only [callSpecialIfBoundBy?, bindSpecialIfBound?]
    refine wpAny_holding (wpAny_bind (wpAny_bind (wpAny_bind (J.type.here ((PySem.W.looks_findIn KI h1).here ?_)))))
    refine wpAny_bind (wpAny_askSetting (wpAny_ite ?_))
    have ends : wpAny (model X.prog X.w) A (call (.ref f) ([.ref a] ++ []) >>= fun v => pure (some v)) (fun r s' => ∃ tk, r = some (.str t tk) ∧ ∃ H', Inv X pins σ H' s' ∧ Ext H H') X.xe s :=
      wpAny_bind (wpAny_mono called (fun v s' h' => wpAny_pure (by obtain ⟨tk, rfl, h⟩ := h'; exact ⟨tk, rfl, h⟩)) fun _ _ h' => h')
    split
    · exact wpAny_bind ((PySem.W.bind_fn KI _ (beq_iff_eq.mp h2)).here (wpAny_pure (by exact ends)))
    · exact wpAny_tryCatch (wpAny_bind ((PySem.W.bind_fn KI _ (beq_iff_eq.mp h2)).here (wpAny_pure (by exact ends))))
  refine wpAny_mono fin (fun r s' h' => ?_) fun _ _ x => x
  obtain ⟨tk, rfl, h⟩ := h'
  exact wpAny_bind (wpAny_isInstance (T := "str") (b := true) rfl isSubtype_str_str (wpAny_pure ⟨_, _, rfl, rfl, h⟩))
end
end RPO
set_option Elab.async false
set_option linter.all false
set_option maxRecDepth 100000
set_option maxHeartbeats 4000000
/-! RPL: the containers of RPO: lists, tuples, dicts. -/
namespace RPO
open PySem PySem.Spec PyProof.Rows L2
open Builtin Builtin.List
theorem strs_of : ∀ {ts : List Str} {us : List Value}, Vals (ts.map V.str) us → ∃ done : List (Str × Tok), us = strValues done ∧ done.map (·.1) = ts
  | [], _, .nil => ⟨[], rfl, rfl⟩
  | t :: ts, _, .cons r h => by
    obtain ⟨tk, rfl⟩ := r
    obtain ⟨done, rfl, e⟩ := strs_of h
    exact ⟨(t, tk) :: done, rfl, by simp [e]⟩
theorem sub_loop {X : Cx} {n : Nat} {A : Around} {args : Args} (h : Sub X (n + 1) A) : Sub X n (A.under (.builtin "list.__repr__.loop" args)) := by
  have hd : (A.under (.builtin "list.__repr__.loop" args)).depth ≤ A.depth + 1 := by
    first | exact Nat.le_refl _ | simp [Around.under, Code.weight, Code.isCreation, Code.isGuard, Code.isCaller, Code.frames, Code.isFrame, guardIds]
  have hu := units_under_list_loop A args
  have hf : (A.under (.builtin "list.__repr__.loop" args)).frames = A.frames := by
    have e : (Code.builtin "list.__repr__.loop" args).envs = [] := by first | rfl | simp [Code.envs, Code.isFrame]
    have e2 : (A.under (.builtin "list.__repr__.loop" args)).frames = pushEnvs (Code.envs (.builtin "list.__repr__.loop" args)) A.frames := by first | rfl | simp [Around.under]
    rw [e2, e]
    cases A.frames <;> first | rfl | simp [pushEnvs]
  obtain ⟨⟨h1, h2, h3⟩, h4⟩ := h
  exact ⟨⟨h1, by omega, by rw [hu]; omega⟩, hf.trans h4⟩
section
variable {X : Cx} {n : Nat} {outs : List Addr} {H0 : Hp} {a : Addr} {xs : List V} {ts : List Str}
theorem list_loop {A : Around} {g : List Code} {P : Addr} {bs : Nat} {pins : List (Addr × Obj)} {σ : L2.St} {Hb : Hp} {R : Result → Shared → Prop} (sb : Sub X (n + 1) A) (hg : A.guards = some g) (gd : Gd g outs) (ha : Hb a = some (.lst xs)) (hP : Hb P = none) (xe : Ex outs H0 Hb) (hlen : ts.length = xs.length)
    (hT : ∀ (i : Nat) (x : V), xs[i]? = some x → ∃ t, ts[i]? = some t ∧ RpU X n (a :: outs) H0 x t) (hsz : bs + (listText ts).length ≤ sizeLine)
    (hE : ∀ e s', X.xe e s' → R (.error e) s')
    (fin : ∀ (s' : Shared) (H' : Hp) (u : Tok), Inv X pins σ H' s' → Ext Hb H' → R (.ok (.ret (.str (listText ts) u))) s') :
    ∀ (k i : Nat) (s : Shared) (H : Hp), xs.length - i = k → i ≤ xs.length → Inv X pins σ H s → Ext Hb H → H P = some (.lst ((ts.take i).map V.str)) →
      codeAny (model X.prog X.w) A (.builtin "list.__repr__.loop" ⟨[.ref a, rawInt i, .ref P, rawInt ((bs + piled (ts.take i) : Nat) : Int)], []⟩) R s := by
  have hX : (listText ts).length = (textFrom 0 "[" ts).length + 1 := by
    show (textFrom 0 "[" ts ++ "]").length = _
    rw [strLen_append]; rfl
  have hL := textFrom_len ts 0 "["
  have each : ∀ t ∈ ts, t.length ≤ sizeLine := fun t ht => by
    have := hL.2.1 t ht
    omega
  have many : ts.length ≤ sizeLine := by
    have h1 := hL.1
    rw [if_neg (Nat.lt_irrefl 0)] at h1
    omega
  have hp3 := piled_le_listText ts
  have uu : A.in1.units < cLine := by have := sb.room.un; show A.units + 1 < cLine; omega
  intro k
  induction k with
  | zero =>
    intro i s H hk hi I eb hPi
    have hin : i = ts.length := by omega
    obtain ⟨_, its, m, rv, _, e⟩ := I.lstM (eb _ _ ha)
    obtain ⟨_, ups, c, rp, _, ep⟩ := I.lstM hPi
    have nits : its[i]? = none := by
      have := rv.length
      exact List.getElem?_eq_none (by omega)
    refine codeAny_builtin F.entry_list_repr_loop ?_
    show wpAny _ _ («list.__repr__.loop» ⟨[.ref a, .int i 0, .ref P, .int ((bs + piled (ts.take i) : Nat) : Int) 0], []⟩) _ _ s
    rw [repr_loop_tree]
    refine wpAny_bind (wpAny_listItems e rfl ?_)
    have hnone : its.toArray[((i : Int)).toNat]? = none := by simpa using nits
    simp only [hnone]
    unfold reprEnd
    refine wpAny_bind (wpAny_listItems ep rfl ?_)
    obtain ⟨done, rfl, ed⟩ := strs_of rp
    rw [show (strValues done).toArray.toList = strValues done from by simp, repr_fold]
    refine wpAny_bind (wpAny_pure ?_)
    have hall : done.map (·.1) = ts := by rw [ed, hin, List.take_length]
    rw [hall]
    refine wpAny_bind (wpAny_mkStr (wpAny_pure ?_) (by show (listText ts).length ≤ sizeLine; omega))
    exact fin _ H _ (I.tok _) eb
  | succ k ih =>
    intro i s H hk hi I eb hPi
    have hlt : i < xs.length := by omega
    obtain ⟨t, ht, hrep⟩ := hT i xs[i] (List.getElem?_eq_getElem hlt)
    obtain ⟨_, its, m, rv, lv, e⟩ := I.lstM (eb _ _ ha)
    have hlt2 : i < its.length := by omega
    have rvi : RelV xs[i] its[i] := by
      obtain ⟨u, e1, e2⟩ := rv.get (List.getElem?_eq_getElem hlt)
      rw [List.getElem?_eq_getElem hlt2] at e1
      cases e1
      exact e2
    have hp1 := piled_take_succ ht
    have hp2 := piled_take_le ts (i + 1)
    refine codeAny_builtin F.entry_list_repr_loop ?_
    show wpAny _ _ («list.__repr__.loop» ⟨[.ref a, .int i 0, .ref P, .int ((bs + piled (ts.take i) : Nat) : Int) 0], []⟩) _ _ s
    rw [repr_loop_tree]
    refine wpAny_bind (wpAny_listItems e rfl ?_)
    have hsome : its.toArray[((i : Int)).toNat]? = some its[i] := by simp [hlt2]
    simp only [hsome]
    rw [Int.toNat_natCast]
    refine wpAny_bind (wpAny_holding (wpAny_mono (hrep _ _ pins s σ H its[i] (bs + piled (ts.take i) + 1) ((xe.ext eb).more) (sub_loop sb) (guards_under_guard (isGuard_list_loop _) hg) gd.cons I rvi (by omega)) (fun r s2 h2 => ?_) fun e' s' h' => hE e' s' h'))
    obtain ⟨rfl, H2, I2, e2⟩ := h2
    refine wpAny_bind (wpAny_mkStr ?_ (each r (List.mem_of_getElem? ht)))
    have hP2 := e2 _ _ hPi
    obtain ⟨_, ups, c, rp, _, ep⟩ := I2.lstM hP2
    refine wpAny_bind ?_
    show wpAny _ _ (updateSeq P _) _ _ _
    have lp := rp.length
    rw [List.length_map, List.length_take] at lp
    refine wpAny_updateSeq ep rfl (wpAny_pure ⟨F.quiet_list_repr_loop _, ?_⟩) (by rw [List.size_toArray]; omega) (by rw [Array.size_push, List.size_toArray]; omega)
    have e1' : ((i : Int) + 1) = ((i + 1 : Nat) : Int) := by omega
    have e2' : bs + piled (ts.take i) + (r.length + 2) = bs + piled (ts.take (i + 1)) := by omega
    rw [e1', e2']
    have I3 := I2.lset (its' := ups ++ [.str r s2.toks]) (f := fun x => x.push (.str r s2.toks)) (t' := s2.toks + 1) hP2 ep (by simp) (ys := (ts.take (i + 1)).map V.str) (by
      rw [List.take_add_one, ht, List.map_append]
      exact rp.append (.cons ⟨_, rfl⟩ .nil)) (by rw [List.length_map, List.length_take]; omega)
    exact ih (i + 1) _ _ (by omega) hlt I3 (fun b o hb => by
      rw [upd_ne (fun z => by rw [z, hP] at hb; cases hb)]
      exact e2 _ _ (eb _ _ hb)) upd_same
end
end RPO
set_option Elab.async false
set_option linter.all false
set_option maxRecDepth 100000
set_option maxHeartbeats 4000000
namespace RPO
open PySem PySem.Spec PyProof.Rows L2
open Builtin Builtin.List
/-- things one by one -/
inductive RpAll (X : Cx) (n : Nat) (outs : List Addr) (H0 : Hp) : List V → List Str → Prop
  | nil : RpAll X n outs H0 [] []
  | cons {v : V} {t : Str} {vs : List V} {ts : List Str} : RpU X n outs H0 v t → RpAll X n outs H0 vs ts → RpAll X n outs H0 (v :: vs) (t :: ts)
theorem RpAll.len {X : Cx} {n : Nat} {outs : List Addr} {H0 : Hp} : ∀ {vs : List V} {ts : List Str}, RpAll X n outs H0 vs ts → ts.length = vs.length
  | _, _, .nil => rfl
  | _, _, .cons _ h => by rw [List.length_cons, List.length_cons, h.len]
theorem RpAll.get {X : Cx} {n : Nat} {outs : List Addr} {H0 : Hp} : ∀ {vs : List V} {ts : List Str}, RpAll X n outs H0 vs ts → ∀ (i : Nat) (x : V), vs[i]? = some x → ∃ t, ts[i]? = some t ∧ RpU X n outs H0 x t
  | _, _, .nil, _, _, h => by simp at h
  | _, _, .cons r h, 0, _, e => by
    simp at e
    subst e
    exact ⟨_, rfl, r⟩
  | _, _, .cons r h, i + 1, x, e => by
    obtain ⟨t, e1, e2⟩ := h.get i x (by simpa using e)
    exact ⟨t, by simpa using e1, e2⟩
section
variable {X : Cx} {n : Nat} {outs : List Addr} {H0 : Hp} {a : Addr} {xs : List V} {ts : List Str}
/-- what is asked of the end of a text -/
def Told (X : Cx) (pins : List (Addr × Obj)) (σ : L2.St) (H : Hp) (t : Str) (v : Value) (s' : Shared) : Prop := ∃ tk, v = .str t tk ∧ ∃ H', Inv X pins σ H' s' ∧ Ext H H'
theorem list_at {A : Around} {g : List Code} {bs : Nat} {pins : List (Addr × Obj)} {σ : L2.St} {s : Shared} {H : Hp} {Q : Value → Shared → Prop} (sb : Sub X (n + 1) A) (hg : A.guards = some g) (gd : Gd g outs) (I : Inv X pins σ H s) (ha : H a = some (.lst xs)) (na : a ∉ outs) (xe : Ex outs H0 H) (hx : xs ≠ [])
    (hT : RpAll X n (a :: outs) H0 xs ts) (hsz : bs + (listText ts).length ≤ sizeLine) (fin : ∀ v s', Told X pins σ H (listText ts) v s' → Q v s') :
    wpAny (model X.prog X.w) A.in1 (Builtin.listReprAt bs ⟨[.ref a], []⟩) (fun fin s' => match fin with | .done f => callEnd Q X.xe (.ok f) s' | .again c' => c'.quiet = true ∧ codeAny (model X.prog X.w) A c' (callEnd Q X.xe) s') (fun e s' => callEnd Q X.xe (.error e) s') s := by
  obtain ⟨_, its, m, rv, lv, e⟩ := I.lstM ha
  obtain ⟨y, l, rfl⟩ : ∃ y l, its = y :: l := by
    cases its with
    | nil =>
      have : xs.length = 0 := lv
      exact absurd (List.length_eq_zero_iff.mp this) hx
    | cons y l => exact ⟨y, l, rfl⟩
  refine wpAny_list_repr_head (A := A.in1) hg (fun v rest kw hm => listSameRef_of_ne ((gd.clear na) _ _ _ _ hm)) e rfl ?_
  refine wpAny_bind (m := newList []) (wpAny_newObj_type ?_)
  refine wpAny_pure ⟨F.quiet_list_repr_loop _, ?_⟩
  have I1 := I.lnew (its := []) (ys := []) (t' := s.toks) .nil (Nat.zero_le _)
  have hn := I.fresh
  exact list_loop (n := n) (Hb := H) (R := callEnd Q X.xe) sb hg gd ha hn xe hT.len hT.get hsz (fun _ _ h => h) (fun s' H' u I' e' => fin _ _ ⟨u, rfl, H', I', e'⟩) _ 0 _ _ rfl (Nat.zero_le _) I1 (Ext.upd hn) upd_same
theorem RpU.list (ha : H0 a = some (.lst xs)) (na : a ∉ outs) (hx : xs ≠ []) (hT : RpAll X n (a :: outs) H0 xs ts) : RpU X (n + 1) outs H0 (.ref a) (listText ts) := fun A g pins s σ H u bs x sb hg gd I r hb => by
  cases (show u = Value.ref a from r)
  have ea := x a _ ha na
  obtain ⟨_, its, m, rv, lv, e⟩ := I.lstM ea
  refine wpAny_pyReprUnder_ref (by omega) (wpAny_pyReprObjUnder_twin (twin := "list.__repr__.under") ⟨_, e, rfl⟩ F.slot_list_repr.toG rfl sb.room.units0
    (call_twin_plain F.plain_list_repr_under F.entry_list_repr_under F.check_list_repr_under ⟨_, e, rfl⟩ F.slot_list_repr.toG (F.args_list_repr_1 _) (list_at sb hg gd I ea na x hx hT hb fun v s' h => ?_)))
  obtain ⟨tk, rfl, h⟩ := h
  exact ⟨⟨_, _, rfl⟩, _, _, rfl, rfl, h⟩
theorem RpU.list0 (ha : H0 a = some (.lst [])) (na : a ∉ outs) : RpU X n outs H0 (.ref a) "[]" := fun A g pins s σ H u bs x sb hg gd I r hb => by
  cases (show u = Value.ref a from r)
  have ea := x a _ ha na
  obtain ⟨_, its, m, rv, lv, e⟩ := I.lstM ea
  obtain rfl : its = [] := List.length_eq_zero_iff.mp lv.symm
  exact wpAny_pyReprUnder_ref (by omega) (wpAny_pyReprObjUnder_list_empty ⟨_, e, rfl⟩ sb.room.units0 e rfl ⟨_, _, rfl, rfl, H, I.tok _, Ext.rfl'⟩)
theorem tup_fold {A : Around} {g : List Code} {pins : List (Addr × Obj)} {σ : L2.St} {Hb : Hp} {Q : (Array Str × Nat) → Shared → Prop} (sb : Sub X n A) (hg : A.guards = some g) (gd : Gd g (a :: outs)) (xe : Ex outs H0 Hb) :
    ∀ {vs : List V} {ts : List Str}, RpAll X n (a :: outs) H0 vs ts → ∀ (us : List Value) (acc : Array Str) (m : Nat) (s : Shared) (H : Hp), Vals vs us → m + piled ts ≤ sizeLine → Inv X pins σ H s → Ext Hb H →
      (∀ s' H', Inv X pins σ H' s' → Ext Hb H' → Q ⟨acc ++ ts.toArray, m + piled ts⟩ s') → wpAny (model X.prog X.w) A (forIn us (⟨acc, m⟩ : (Array Str × Nat)) tupBody) Q X.xe s := by
  intro vs ts h
  induction h with
  | nil =>
    intro us acc m s H rv hm I eb fin
    cases rv
    have h0 := fin s H I eb
    simp only [List.forIn_nil]
    exact wpAny_pure (by simpa [piled] using h0)
  | @cons v t vs ts hr hl ih =>
    intro us acc m s H rv hm I eb fin
    cases rv with
    | @cons _ u _ us r rv =>
      rw [piled_cons] at hm
      rw [List.forIn_cons]
      refine wpAny_bind (wpAny_bind (wpAny_mono (hr A g pins s σ H u (m + 1) (xe.ext eb).more sb hg gd I r (by omega)) (fun r' s2 h2 => ?_) fun _ _ x => x))
      obtain ⟨rfl, H2, I2, e2⟩ := h2
      refine wpAny_pure ?_
      refine ih us (acc.push r') (m + (r'.length + 2)) s2 H2 rv (by omega) I2 (eb.trans e2) fun s' H' I' e' => ?_
      have h1 := fin s' H' I' e'
      have e : m + piled (r' :: ts) = m + (r'.length + 2) + piled ts := by rw [piled_cons]; omega
      rw [e] at h1
      simpa using h1
theorem tup_at {A : Around} {g : List Code} {bs : Nat} {pins : List (Addr × Obj)} {σ : L2.St} {s : Shared} {H : Hp} {Q : Value → Shared → Prop} {id : String} {rest : List Value} (hcg : (Code.builtin id ⟨.ref a :: rest, []⟩).isGuard = true) (sb : Sub X n (A.under (.builtin id ⟨.ref a :: rest, []⟩)))
    (hg : A.guards = some g) (gd : Gd g outs) (I : Inv X pins σ H s) (ha : H a = some (.tup xs)) (na : a ∉ outs) (xe : Ex outs H0 H) (hT : RpAll X n (a :: outs) H0 xs ts) (hsz : bs + (tupleText ts).length ≤ sizeLine) (fin : ∀ v s', Told X pins σ H (tupleText ts) v s' → Q v s') :
    wpOwn (model X.prog X.w) A (.builtin id ⟨.ref a :: rest, []⟩) (Builtin.tupleReprAt bs ⟨[.ref a], []⟩) (fun fin s' => match fin with | .done f => callEnd Q X.xe (.ok f) s' | .again c' => c'.quiet = true ∧ codeAny (model X.prog X.w) A c' (callEnd Q X.xe) s') (fun e s' => callEnd Q X.xe (.error e) s') s := by
  obtain ⟨its, rv, ⟨o, ho, hc, m, hd⟩, hz⟩ := I.tuple (SqT.of (K := X.K) ha)
  have hca : Clear g a := gd.clear na
  have hlen : ts.length = its.length := hT.len.trans rv.length
  have hp := piled_le_tupleText ts
  have hsz0 : (tupleText ts).length ≤ sizeLine := by omega
  rw [tuple_repr_tree, tupleReprUnderWay_eq]
  refine wpOwn_bind (wpOwn_stackTailAny hg (tupGuardF_off _) (tupGuardF_pos _) ?_)
  have hn : (g.any fun c => tupGuardF (.ref a) (c, default)) = false := by
    rw [List.any_eq_false]
    intro c hcm
    rw [tupGuardF_of_clear hca c hcm]
    exact Bool.false_ne_true
  rw [hn]
  refine wpOwn_of_wpAny ?_
  show wpAny _ _ (tupleReprRest bs (.ref a)) _ _ s
  unfold tupleReprRest Builtin.Tuple.tupleItemsOf
  refine wpAny_bind (wpAny_bind (wpAny_seqItems ho hd (wpAny_pure ?_)))
  rw [← Array.forIn_toList]
  refine wpAny_bind (tup_fold (Hb := H) sb (guards_under_guard hcg hg) gd.cons xe hT _ _ _ s H (by simpa using rv) (by omega) I Ext.rfl' fun s' H' I' e' => ?_)
  refine wpAny_bind (wpAny_mkStr (wpAny_pure ?_) (by simpa [tupleText, hlen] using hsz0))
  have h1 := fin (.str (tupleText ts) s'.toks) { s' with toks := s'.toks + 1 } ⟨_, rfl, H', I'.tok _, e'⟩
  simpa [tupleText, hlen] using h1
theorem sub_code {A : Around} {id : String} {args : Args} (h : Sub X (n + 1) A) (hw : (Code.builtin id args).weight ≤ 1) (he : (Code.builtin id args).envs = []) (hu : (A.under (.builtin id args)).units = A.units + 1) : Sub X n (A.under (.builtin id args)) := by
  have e2 : (A.under (.builtin id args)).frames = pushEnvs (Code.envs (.builtin id args)) A.frames := by first | rfl | simp [Around.under]
  have hf : (A.under (.builtin id args)).frames = A.frames := by
    rw [e2, he]
    cases A.frames <;> first | rfl | simp [pushEnvs]
  have hd : (A.under (.builtin id args)).depth = A.depth + (Code.builtin id args).weight := by first | rfl | simp [Around.under]
  obtain ⟨⟨h1, h2, h3⟩, h4⟩ := h
  exact ⟨⟨h1, by omega, by rw [hu]; omega⟩, hf.trans h4⟩
theorem w_tup {args : Args} : (Code.builtin "tuple.__repr__" args).weight ≤ 1 := by
  first | exact Nat.le_refl _ | simp [Code.weight, Code.isCreation, Code.isGuard, Code.isCaller, Code.frames, Code.isFrame, guardIds]
theorem w_tupU {args : Args} : (Code.builtin "tuple.__repr__.under" args).weight ≤ 1 := by
  first | exact Nat.le_refl _ | simp [Code.weight, Code.isCreation, Code.isGuard, Code.isCaller, Code.frames, Code.isFrame, guardIds]
theorem e_b {id : String} {args : Args} (h : (Code.builtin id args).isFrame = false := by rfl) : (Code.builtin id args).envs = [] := by simp [Code.envs, h]
theorem RpU.tup (ha : H0 a = some (.tup xs)) (na : a ∉ outs) (hT : RpAll X n (a :: outs) H0 xs ts) : RpU X (n + 1) outs H0 (.ref a) (tupleText ts) := fun A g pins s σ H u bs x sb hg gd I r hb => by
  cases (show u = Value.ref a from r)
  have ea := x a _ ha na
  obtain ⟨its, rv, ⟨o, ho, hc, m, hd⟩, hz⟩ := I.tuple (SqT.of (K := X.K) ea)
  refine wpAny_pyReprUnder_ref (by omega) (wpAny_pyReprObjUnder_twin (twin := "tuple.__repr__.under") ⟨o, ho, hc⟩ F.slot_tuple_repr rfl sb.room.units0
    (call_twin_own (F.quiet_tuple_repr_under _) F.entry_tuple_repr_under F.check_tuple_repr_under ⟨o, ho, hc⟩ F.slot_tuple_repr (F.args_tuple_repr_1 _)
      (tup_at (isGuard_tuple_repr_under _) (sub_code sb w_tupU e_b (units_under_tuple_repr_under _ _)) hg gd I ea na x hT hb fun v s' h => ?_)))
  obtain ⟨tk, rfl, h⟩ := h
  exact ⟨⟨_, _, rfl⟩, _, _, rfl, rfl, h⟩
/-- repr of a tuple, where no repr is under way -/
def rReprT (X : Cx) (n : Nat) : List V → Hp → VK → Prop := fun ys H Q => ∃ (a : Addr) (xs : List V) (ts : List Str), ys = [.ref a] ∧ H a = some (.tup xs) ∧ RpAll X n [a] H xs ts ∧ (tupleText ts).length ≤ sizeLine ∧ ∀ H', Ext H H' → Q (.str (tupleText ts)) H'
theorem call_reprT (hgd : X.A.guards = some []) (hr : Room (n + 2) X.A) : CallR X (.builtin "repr") (rReprT X n) := by
  intro pins s σ H ys us Q I r h
  obtain ⟨a, xs, ts, rfl, ea, hT, hb, q⟩ := h
  obtain ⟨u, rfl, ru⟩ := r.one
  cases (show u = Value.ref a from ru)
  obtain ⟨its, rv, ⟨o, ho, hc, m, hd⟩, hz⟩ := I.tuple (SqT.of (K := X.K) ea)
  have sb : Sub X (n + 1) X.A.in1 := ⟨hr.in1, rfl⟩
  refine call_repr_slot (by have := hr.un; omega) ⟨o, ho, hc⟩ F.slot_tuple_repr ?_
  refine wpAny_call (codeAny_call_builtin_own (Code.quiet_builtin _ (by decide +kernel)) F.entry_tuple_repr (F.slot_tuple_repr.check _ _ _ _ _ _ _ _ ⟨o, ho, hc⟩ (F.args_tuple_repr_1 _)
    (tup_at (outs := []) (H0 := H) (bs := 0) (isGuard_tuple_repr _) (sub_code sb w_tup e_b (units_under_tuple_repr _ _)) hgd Gd.nil I ea (by simp) (Ex.refl _ _) hT (by omega) fun v s' h => ?_)))
  obtain ⟨tk, rfl, H', I', e⟩ := h
  exact ⟨_, _, rfl, .str _, H', I', ⟨_, rfl⟩, q H' e⟩
end
end RPO
set_option Elab.async false
set_option linter.all false
set_option maxRecDepth 100000
set_option maxHeartbeats 4000000
namespace RPO
open PySem PySem.Spec PyProof.Rows L2
open Builtin Builtin.List
/-- what the entries of a dict show as -/
inductive RpEnt (X : Cx) (n : Nat) (outs : List Addr) (H0 : Hp) : List (Key × V) → List Str → Prop
  | nil : RpEnt X n outs H0 [] []
  | cons {k : Key} {v : V} {tk tv : Str} {kvs : List (Key × V)} {ps : List Str} : RpU X n outs H0 (kV k) tk → RpU X n outs H0 v tv → RpEnt X n outs H0 kvs ps → RpEnt X n outs H0 ((k, v) :: kvs) ((tk ++ ": " ++ tv) :: ps)
section
variable {X : Cx} {n : Nat} {outs : List Addr} {H0 : Hp} {a : Addr} {kvs : List (Key × V)} {ps : List Str}
theorem RpEnt.len : ∀ {kvs : List (Key × V)} {ps : List Str}, RpEnt X n outs H0 kvs ps → ps.length = kvs.length
  | _, _, .nil => rfl
  | _, _, .cons _ _ h => by rw [List.length_cons, List.length_cons, h.len]
theorem RpEnt.get : ∀ {kvs : List (Key × V)} {ps : List Str}, RpEnt X n outs H0 kvs ps → ∀ (i : Nat) (e : Key × V), kvs[i]? = some e → ∃ tk tv : Str, ps[i]? = some (tk ++ ": " ++ tv) ∧ RpU X n outs H0 (kV e.1) tk ∧ RpU X n outs H0 e.2 tv
  | _, _, .nil, _, _, h => by simp at h
  | _, _, .cons r1 r2 h, 0, _, e => by
    simp at e
    subst e
    exact ⟨_, _, rfl, r1, r2⟩
  | _, _, .cons _ _ h, i + 1, x, e => by
    obtain ⟨t1, t2, e1, e2⟩ := h.get i x (by simpa using e)
    exact ⟨t1, t2, by simpa using e1, e2⟩
theorem pairs_at {P : Program} {w : World} : ∀ {es : List DictEntry} {vs : List (Key × Value)}, Pairs (mixKind P w) es vs → ∀ (i : Nat) (kv : Key × Value), vs[i]? = some kv → ∃ e, es[i]? = some e ∧ (mixKind P w).is kv.1 e.key = true ∧ e.val = kv.2
  | _, _, .nil, _, _, h => by simp at h
  | _, _, .cons h1 h2 h, 0, _, e => by
    simp at e
    subst e
    exact ⟨_, rfl, h1, h2⟩
  | _, _, .cons _ _ h, i + 1, kv, e => by
    obtain ⟨en, e1, e2⟩ := pairs_at h i kv (by simpa using e)
    exact ⟨en, by simpa using e1, e2⟩
theorem key_rel {k : Key} {v : Value} (h : keyIs k v = true) : RelV (kV k) v := by
  rcases keyIs_shape h with ⟨i, t, rfl, rfl⟩ | ⟨x, t, rfl, rfl⟩
  · exact ⟨_, rfl⟩
  · exact ⟨_, rfl⟩
theorem kv_at : ∀ {ks : List (Key × V)} {va : List (Key × Value)}, KV ks va → ∀ (i : Nat) (e : Key × V), ks[i]? = some e → ∃ u : Key × Value, va[i]? = some u ∧ e.1 = u.1 ∧ RelV e.2 u.2
  | _, _, .nil, _, _, h => by simp at h
  | _, _, .cons r h, 0, _, e => by
    simp at e
    subst e
    exact ⟨_, rfl, r.1, r.2⟩
  | _, _, .cons _ h, i + 1, x, e => by
    obtain ⟨u, e1, e2⟩ := kv_at h i x (by simpa using e)
    exact ⟨u, by simpa using e1, e2⟩
/-- the entries of a locked dict -/
theorem entry_of {pins : List (Addr × Obj)} {σ : L2.St} {s : Shared} {H : Hp} {o : Obj} (I : Inv X pins σ H s) (h : H a = some (.frz o (.dK kvs))) {es : Array DictEntry} {ep : Nat} (hd : o.data = .dict es ep) (i : Nat) (hi : i < kvs.length) :
    ∃ e, es[i]? = some e ∧ RelV (kV kvs[i].1) e.key ∧ RelV kvs[i].2 e.val := by
  obtain ⟨_, hg, _, es', ep', vs, hd', hs, kv, o2, es2, g2, x2, d2, k2, p2, _⟩ := I.frzK h
  rw [hg] at g2
  cases g2
  rw [hd] at d2
  cases d2
  obtain ⟨u, e1, e2, e3⟩ := kv_at kv i kvs[i] (List.getElem?_eq_getElem hi)
  obtain ⟨e, f1, f2, f3⟩ := pairs_at p2 i u e1
  refine ⟨e, by simpa using f1, ?_, by rw [f3]; exact e3⟩
  rw [e2]
  exact key_rel f2
theorem dct_at {A : Around} {g : List Code} {bs : Nat} {pins : List (Addr × Obj)} {σ : L2.St} {s : Shared} {H : Hp} {Q : Value → Shared → Prop} {id : String} {rest : List Value} (hcg : (Code.builtin id ⟨.ref a :: rest, []⟩).isGuard = true) (sb : Sub X n (A.under (.builtin id ⟨.ref a :: rest, []⟩)))
    (hg : A.guards = some g) (gd : Gd g outs) (I : Inv X pins σ H s) (ha : H a = some (.dK kvs)) (na : a ∉ outs) (xe : Ex outs H0 H) (hT : RpEnt X n (a :: outs) H0 kvs ps) (hsz : bs + (dictText ps).length ≤ sizeLine) (fin : ∀ v s', Told X pins σ H (dictText ps) v s' → Q v s') :
    wpOwn (model X.prog X.w) A (.builtin id ⟨.ref a :: rest, []⟩) (Builtin.dictReprAt bs ⟨[.ref a], []⟩) (fun fin s' => match fin with | .done f => callEnd Q X.xe (.ok f) s' | .again c' => c'.quiet = true ∧ codeAny (model X.prog X.w) A c' (callEnd Q X.xe) s') (fun e s' => callEnd Q X.xe (.error e) s') s := by
  have mu : Mut (some (HO.dK kvs)) := trivial
  have nf := I.nofrz ha mu
  obtain ⟨o, I1⟩ := I.lock ha mu
  have e1 : (upd H a (.frz o (.dK kvs))) a = some (.frz o (.dK kvs)) := upd_same
  have x1 : Ex (a :: outs) H0 (upd H a (.frz o (.dK kvs))) := fun b u e nb => by
    rw [upd_ne fun z => nb (by rw [z]; exact List.mem_cons_self)]
    exact xe b u e fun z => nb (List.mem_cons_of_mem _ z)
  have back : ∀ {H' : Hp} {s' : Shared}, Inv X pins σ H' s' → Ext (upd H a (.frz o (.dK kvs))) H' → ∃ H2, Inv X pins σ H2 s' ∧ Ext H H2 := fun {H' s'} I' e' => by
    refine ⟨_, I'.unlock (e' _ _ e1) nf, fun b u e => ?_⟩
    by_cases hb : b = a
    · subst hb
      rw [upd_same, ← e, ha]
    · rw [upd_ne hb]
      refine e' _ _ ?_
      rw [upd_ne hb]
      exact e
  generalize upd H a (.frz o (.dK kvs)) = H1 at I1 e1 x1 back
  obtain ⟨hsys, hget, hex, es, ep, vs, hd, hsize, _, _⟩ := I1.frzK e1
  have got : ∀ {H' : Hp} {s' : Shared}, Inv X pins σ H' s' → Ext H1 H' → s'.heap.get? a = some o := fun I' e' => (I'.frzK (e' _ _ e1)).2.1
  have hTy : s.TypeIs (.ref a) "dict" := ⟨o, hget, hex.1⟩
  have hca : Clear g a := gd.clear na
  have hlen : ps.length = es.size := hT.len.trans hsize.symm
  have hp3 := piled_le_dictText ps
  have hsz0 : (dictText ps).length ≤ sizeLine := by omega
  unfold Builtin.dictReprAt
  refine wpOwn_bind (wpOwn_of_wpAny ?_)
  unfold Builtin.Dict.dictSlotNone
  refine wpAny_bind (wpAny_notOrdered_dict hTy ?_)
  show wpAny _ _ (pure (Value.ref a)) _ _ s
  refine wpAny_pure ?_
  rw [dictReprRunning_eq]
  refine wpOwn_bind (wpOwn_stackTailAny hg (dictGuardF_off _) (dictGuardF_pos _) ?_)
  have hn : (g.any fun c => dictGuardF (.ref a) (c, default)) = false := by
    rw [List.any_eq_false]
    intro c hcm
    rw [dictGuardF_of_clear hca c hcm]
    exact Bool.false_ne_true
  rw [hn]
  refine wpOwn_of_wpAny ?_
  have hg' := guards_under_guard hcg hg
  show wpAny _ _ (Builtin.Dict.addrOf (.ref a) >>= _) _ _ s
  refine wpAny_bind (wpAny_pure ?_)
  show wpAny _ _ (Builtin.Dict.showsAll a >>= _) _ _ s
  unfold Builtin.Dict.showsAll
  rw [if_neg (by rw [hsys]; exact Bool.false_ne_true)]
  refine wpAny_bind (wpAny_pure ?_)
  refine wpAny_bind (wpAny_dictEpoch hget hd ?_)
  refine wpAny_bind (wpAny_dictEntries hget hd ?_)
  refine wpAny_bind ?_
  rw [Std.Legacy.Range.forIn_eq_forIn_range']
  simp only [Std.Legacy.Range.size, Nat.sub_zero, Nat.add_sub_cancel, Nat.div_one]
  refine wpAny_forIn_list _
    (fun rest' r s' => ∃ i H', rest' = List.range' i (es.size - i) ∧ i ≤ es.size ∧ r = (⟨(ps.take i).toArray, bs + piled (ps.take i)⟩ : (Array Str × Nat)) ∧ Inv X pins σ H' s' ∧ Ext H1 H')
    _ ?_ ?_ _ _ ⟨0, H1, by simp, Nat.zero_le _, by simp [piled], I1, Ext.rfl'⟩
  · rintro x rest' _ s' ⟨i, H', hr, hi, rfl, I', e'⟩
    have hlt : i < es.size := by
      rcases Nat.lt_or_ge i es.size with h | h
      · exact h
      · rw [Nat.sub_eq_zero_of_le h] at hr; simp at hr
    obtain ⟨rfl, hrest⟩ : x = i ∧ rest' = List.range' (i + 1) (es.size - (i + 1)) := by
      have e : es.size - i = (es.size - (i + 1)) + 1 := by omega
      rw [e, List.range'_succ] at hr
      injection hr with h1 h2
      exact ⟨h1, h2⟩
    have hx2 : x < kvs.length := by omega
    obtain ⟨tk, tv, hp, rk, rv⟩ := hT.get x kvs[x] (List.getElem?_eq_getElem hx2)
    obtain ⟨en, f1, f2, f3⟩ := entry_of I' (e' _ _ e1) hd x hx2
    have hpl : (tk ++ ": " ++ tv).length = tk.length + 2 + tv.length := by
      rw [strLen_append, strLen_append]; rfl
    have hp1 := piled_take_succ hp
    have hp2 := piled_take_le ps (x + 1)
    rw [hpl] at hp1
    refine wpAny_bind (wpAny_dictEntries (got I' e') hd ?_)
    rw [f1]
    refine wpAny_bind (wpAny_holding (wpAny_bind (wpAny_mono (rk _ _ pins s' σ H' en.key (bs + piled (ps.take x) + 1) (x1.ext e') sb hg' gd.cons I' f2 (by omega)) (fun r2 s2 h2 => ?_) fun _ _ z => z)))
    obtain ⟨rfl, H2, I2, e2⟩ := h2
    refine wpAny_bind (wpAny_mono (rv _ _ pins s2 σ H2 en.val (bs + piled (ps.take x) + (r2.length + 3)) (x1.ext (e'.trans e2)) sb hg' gd.cons I2 f3 (by omega)) (fun r3 s3 h3 => ?_) fun _ _ z => z)
    obtain ⟨rfl, H3, I3, e3⟩ := h3
    have e13 := (e'.trans e2).trans e3
    refine wpAny_pure ?_
    refine wpAny_bind (wpAny_dictEpoch (got I3 e13) hd ?_)
    rw [if_neg (by simp)]
    have g1 : (ps.take x).toArray.push (r2 ++ ": " ++ r3) = (ps.take (x + 1)).toArray := by
      rw [List.take_add_one, hp]
      simp
    have g2 : bs + piled (ps.take x) + (r2.length + r3.length + 4) = bs + piled (ps.take (x + 1)) := by omega
    refine wpAny_pure ⟨x + 1, H3, hrest, hlt, ?_, I3, e13⟩
    rw [g1, g2]
  · rintro _ s' ⟨i, H', hr, hi, rfl, I', e'⟩
    have hin : i = es.size := by
      rcases Nat.lt_or_ge i es.size with h | h
      · have e : es.size - i = (es.size - (i + 1)) + 1 := by omega
        rw [e, List.range'_succ] at hr; exact nomatch hr
      · exact Nat.le_antisymm hi h
    rw [hin, ← hlen, List.take_length]
    refine wpAny_bind (wpAny_mkStr (wpAny_pure ?_) (by simpa [dictText] using hsz0))
    have h1 := fin (.str (dictText ps) s'.toks) { s' with toks := s'.toks + 1 } ⟨_, rfl, back (I'.tok _) e'⟩
    simpa [dictText] using h1
theorem w_dct {args : Args} : (Code.builtin "dict.__repr__" args).weight ≤ 1 := by
  first | exact Nat.le_refl _ | simp [Code.weight, Code.isCreation, Code.isGuard, Code.isCaller, Code.frames, Code.isFrame, guardIds]
theorem w_dctU {args : Args} : (Code.builtin "dict.__repr__.under" args).weight ≤ 1 := by
  first | exact Nat.le_refl _ | simp [Code.weight, Code.isCreation, Code.isGuard, Code.isCaller, Code.frames, Code.isFrame, guardIds]
theorem RpU.dct (ha : H0 a = some (.dK kvs)) (na : a ∉ outs) (hT : RpEnt X n (a :: outs) H0 kvs ps) : RpU X (n + 1) outs H0 (.ref a) (dictText ps) := fun A g pins s σ H u bs x sb hg gd I r hb => by
  cases (show u = Value.ref a from r)
  have ea := x a _ ha na
  have mu : Mut (some (HO.dK kvs)) := trivial
  obtain ⟨o, I1⟩ := I.lock ea mu
  obtain ⟨_, hget, hex, _⟩ := I1.frzK (upd_same : (upd H a (.frz o (.dK kvs))) a = _)
  refine wpAny_pyReprUnder_ref (by omega) (wpAny_pyReprObjUnder_twin (twin := "dict.__repr__.under") ⟨o, hget, hex.1⟩ F.slot_dict_repr rfl sb.room.units0
    (call_twin_own (F.quiet_dict_repr_under _) F.entry_dict_repr_under F.check_dict_repr_under ⟨o, hget, hex.1⟩ F.slot_dict_repr (F.args_dict_repr_1 _)
      (dct_at (isGuard_dict_repr_under _) (sub_code sb w_dctU e_b (units_under_dict_repr_under _ _)) hg gd I ea na x hT hb fun v s' h => ?_)))
  obtain ⟨tk, rfl, h⟩ := h
  exact ⟨⟨_, _, rfl⟩, _, _, rfl, rfl, h⟩
/-- repr of a list, of a dict, where no repr is under way -/
def rReprL (X : Cx) (n : Nat) : List V → Hp → VK → Prop := fun ys H Q => ∃ (a : Addr) (xs : List V) (ts : List Str), ys = [.ref a] ∧ H a = some (.lst xs) ∧ xs ≠ [] ∧ RpAll X n [a] H xs ts ∧ (listText ts).length ≤ sizeLine ∧ ∀ H', Ext H H' → Q (.str (listText ts)) H'
theorem call_reprL (hgd : X.A.guards = some []) (hr : Room (n + 2) X.A) : CallR X (.builtin "repr") (rReprL X n) := by
  intro pins s σ H ys us Q I r h
  obtain ⟨a, xs, ts, rfl, ea, hx, hT, hb, q⟩ := h
  obtain ⟨u, rfl, ru⟩ := r.one
  cases (show u = Value.ref a from ru)
  obtain ⟨_, its, m, rv, lv, e⟩ := I.lstM ea
  have sb : Sub X (n + 1) X.A.in1 := ⟨hr.in1, rfl⟩
  refine call_repr_slot (by have := hr.un; omega) ⟨_, e, rfl⟩ F.slot_list_repr.toG ?_
  refine wpAny_call (codeAny_call_builtin F.slot_list_repr.plain F.entry_list_repr (F.slot_list_repr.check _ _ _ _ _ _ _ _ ⟨_, e, rfl⟩ (F.args_list_repr_1 _)
    (list_at (outs := []) (H0 := H) (bs := 0) sb hgd Gd.nil I ea (by simp) (Ex.refl _ _) hx hT (by omega) fun v s' h => ?_)))
  obtain ⟨tk, rfl, H', I', e⟩ := h
  exact ⟨_, _, rfl, .str _, H', I', ⟨_, rfl⟩, q H' e⟩
def rReprDc (X : Cx) (n : Nat) : List V → Hp → VK → Prop := fun ys H Q => ∃ (a : Addr) (kvs : List (Key × V)) (ps : List Str), ys = [.ref a] ∧ H a = some (.dK kvs) ∧ RpEnt X n [a] H kvs ps ∧ (dictText ps).length ≤ sizeLine ∧ ∀ H', Ext H H' → Q (.str (dictText ps)) H'
theorem call_reprDc (hgd : X.A.guards = some []) (hr : Room (n + 2) X.A) : CallR X (.builtin "repr") (rReprDc X n) := by
  intro pins s σ H ys us Q I r h
  obtain ⟨a, kvs, ps, rfl, ea, hT, hb, q⟩ := h
  obtain ⟨u, rfl, ru⟩ := r.one
  cases (show u = Value.ref a from ru)
  have mu : Mut (some (HO.dK kvs)) := trivial
  obtain ⟨o, I1⟩ := I.lock ea mu
  obtain ⟨_, hget, hex, _⟩ := I1.frzK (upd_same : (upd H a (.frz o (.dK kvs))) a = _)
  have sb : Sub X (n + 1) X.A.in1 := ⟨hr.in1, rfl⟩
  refine call_repr_slot (by have := hr.un; omega) ⟨o, hget, hex.1⟩ F.slot_dict_repr ?_
  refine wpAny_call (codeAny_call_builtin_own (Code.quiet_builtin _ (by decide +kernel)) F.entry_dict_repr (F.slot_dict_repr.check _ _ _ _ _ _ _ _ ⟨o, hget, hex.1⟩ (F.args_dict_repr_1 _)
    (dct_at (outs := []) (H0 := H) (bs := 0) (isGuard_dict_repr _) (sub_code sb w_dct e_b (units_under_dict_repr _ _)) hgd Gd.nil I ea (by simp) (Ex.refl _ _) hT (by omega) fun v s' h => ?_)))
  obtain ⟨tk, rfl, H', I', e⟩ := h
  exact ⟨_, _, rfl, .str _, H', I', ⟨_, rfl⟩, q H' e⟩
end
end RPO
set_option Elab.async false
set_option linter.all false
set_option maxRecDepth 100000
set_option maxHeartbeats 4000000
/-! EQD: a dict beside things of other kinds: never equal; x in a list or tuple of any things, == and != of lists of any things. -/
namespace EQD
open PySem PySem.Spec PyProof.Rows L2
open PySem.SeqAt
abbrev dO (es : Array DictEntry) (ep : Nat) (dd : Option Addr) (sl : Array (Option Value)) : Obj := { cls := .type "dict", dict := dd, data := .dict es ep, slots := sl }

theorem dict_declines_none (l : Addr) (es : Array DictEntry) (ep : Nat) (dd : Option Addr) (sl : Array (Option Value))  :
    Meets (Builtin.«dict.__eq__» ⟨[.ref l, .none], []⟩) (fun _ R s => s.heap.get? l = some (dO es ep dd sl) ∧ R (.ok (.ret .notImplemented)) s) :=
  .of_wp fun prog w A R s h => by obtain ⟨hp, g, d, tk, os⟩ := s; obtain ⟨hl, h⟩ := h; have f1 := F.sub_NoneType_dict; wp_walk using wpAny_loadPart' hl; exact ⟨_, rfl, h⟩
theorem dict_declines_bool (l : Addr) (es : Array DictEntry) (ep : Nat) (dd : Option Addr) (sl : Array (Option Value)) (b : Bool) :
    Meets (Builtin.«dict.__eq__» ⟨[.ref l, .bool b], []⟩) (fun _ R s => s.heap.get? l = some (dO es ep dd sl) ∧ R (.ok (.ret .notImplemented)) s) :=
  .of_wp fun prog w A R s h => by obtain ⟨hp, g, d, tk, os⟩ := s; obtain ⟨hl, h⟩ := h; have f1 := F.sub_bool_dict; wp_walk using wpAny_loadPart' hl; exact ⟨_, rfl, h⟩
theorem dict_declines_int (l : Addr) (es : Array DictEntry) (ep : Nat) (dd : Option Addr) (sl : Array (Option Value)) (b : Int) (u : Tok) :
    Meets (Builtin.«dict.__eq__» ⟨[.ref l, .int b u], []⟩) (fun _ R s => s.heap.get? l = some (dO es ep dd sl) ∧ R (.ok (.ret .notImplemented)) s) :=
  .of_wp fun prog w A R s h => by obtain ⟨hp, g, d, tk, os⟩ := s; obtain ⟨hl, h⟩ := h; have f1 := F.sub_int_dict; wp_walk using wpAny_loadPart' hl; exact ⟨_, rfl, h⟩
theorem dict_declines_str (l : Addr) (es : Array DictEntry) (ep : Nat) (dd : Option Addr) (sl : Array (Option Value)) (b : Str) (u : Tok) :
    Meets (Builtin.«dict.__eq__» ⟨[.ref l, .str b u], []⟩) (fun _ R s => s.heap.get? l = some (dO es ep dd sl) ∧ R (.ok (.ret .notImplemented)) s) :=
  .of_wp fun prog w A R s h => by obtain ⟨hp, g, d, tk, os⟩ := s; obtain ⟨hl, h⟩ := h; have f1 := F.sub_str_dict; wp_walk using wpAny_loadPart' hl; exact ⟨_, rfl, h⟩
theorem bool_declines_dict (l : Addr) (es : Array DictEntry) (ep : Nat) (dd : Option Addr) (sl : Array (Option Value)) (b : Bool) :
    Meets (Builtin.«int.__eq__» ⟨[.bool b, .ref l], []⟩) (fun _ R s => s.heap.get? l = some (dO es ep dd sl) ∧ R (.ok (.ret .notImplemented)) s) :=
  .of_wp fun prog w A R s h => by obtain ⟨hp, g, d, tk, os⟩ := s; obtain ⟨hl, h⟩ := h; wp_walk using wpAny_loadPart' hl, wpAny_load hl; exact ⟨_, rfl, h⟩
theorem int_declines_dict (l : Addr) (es : Array DictEntry) (ep : Nat) (dd : Option Addr) (sl : Array (Option Value)) (b : Int) (u : Tok) :
    Meets (Builtin.«int.__eq__» ⟨[.int b u, .ref l], []⟩) (fun _ R s => s.heap.get? l = some (dO es ep dd sl) ∧ R (.ok (.ret .notImplemented)) s) :=
  .of_wp fun prog w A R s h => by obtain ⟨hp, g, d, tk, os⟩ := s; obtain ⟨hl, h⟩ := h; wp_walk using wpAny_loadPart' hl, wpAny_load hl; exact ⟨_, rfl, h⟩
theorem str_declines_dict (l : Addr) (es : Array DictEntry) (ep : Nat) (dd : Option Addr) (sl : Array (Option Value)) (b : Str) (u : Tok) :
    Meets (Builtin.«str.__eq__» ⟨[.str b u, .ref l], []⟩) (fun _ R s => s.heap.get? l = some (dO es ep dd sl) ∧ R (.ok (.ret .notImplemented)) s) :=
  .of_wp fun prog w A R s h => by obtain ⟨hp, g, d, tk, os⟩ := s; obtain ⟨hl, h⟩ := h; wp_walk using wpAny_loadPart' hl, wpAny_load hl; exact ⟨_, rfl, h⟩
theorem dict_declines_list (l b : Addr) (es : Array DictEntry) (ep : Nat) (dd dd2 : Option Addr) (sl sl2 : Array (Option Value)) (items : Array Value) (n : Nat) :
    Meets (Builtin.«dict.__eq__» ⟨[.ref l, .ref b], []⟩) (fun _ R s => s.heap.get? l = some (dO es ep dd sl) ∧ s.heap.get? b = some { cls := .type "list", dict := dd2, data := .seq items n, slots := sl2 } ∧ R (.ok (.ret .notImplemented)) s) :=
  .of_wp fun prog w A R s h => by obtain ⟨hp, g, d, tk, os⟩ := s; obtain ⟨hl, hb, h⟩ := h; have f1 := F.sub_list_dict; wp_walk using wpAny_loadPart' hl, wpAny_loadPart' hb; exact ⟨_, rfl, h⟩
theorem list_declines_dict (l b : Addr) (es : Array DictEntry) (ep : Nat) (dd dd2 : Option Addr) (sl sl2 : Array (Option Value)) (items : Array Value) (n : Nat) :
    Meets (Builtin.«list.__eq__» ⟨[.ref b, .ref l], []⟩) (fun _ R s => s.heap.get? l = some (dO es ep dd sl) ∧ s.heap.get? b = some { cls := .type "list", dict := dd2, data := .seq items n, slots := sl2 } ∧ R (.ok (.ret .notImplemented)) s) :=
  .of_wp fun prog w A R s h => by obtain ⟨hp, g, d, tk, os⟩ := s; obtain ⟨hl, hb, h⟩ := h; have f1 := F.sub_dict_list; wp_walk using wpAny_loadPart' hl, wpAny_loadPart' hb; exact ⟨_, rfl, h⟩
theorem dict_declines_tuple (l b : Addr) (es : Array DictEntry) (ep : Nat) (dd dd2 : Option Addr) (sl sl2 : Array (Option Value)) (items : Array Value) (n : Nat) :
    Meets (Builtin.«dict.__eq__» ⟨[.ref l, .ref b], []⟩) (fun _ R s => s.heap.get? l = some (dO es ep dd sl) ∧ s.heap.get? b = some { cls := .type "tuple", dict := dd2, data := .seq items n, slots := sl2 } ∧ R (.ok (.ret .notImplemented)) s) :=
  .of_wp fun prog w A R s h => by obtain ⟨hp, g, d, tk, os⟩ := s; obtain ⟨hl, hb, h⟩ := h; have f1 := F.sub_tuple_dict; wp_walk using wpAny_loadPart' hl, wpAny_loadPart' hb; exact ⟨_, rfl, h⟩
theorem tuple_declines_dict (l b : Addr) (es : Array DictEntry) (ep : Nat) (dd dd2 : Option Addr) (sl sl2 : Array (Option Value)) (items : Array Value) (n : Nat) :
    Meets (Builtin.«tuple.__eq__» ⟨[.ref b, .ref l], []⟩) (fun _ R s => s.heap.get? l = some (dO es ep dd sl) ∧ s.heap.get? b = some { cls := .type "tuple", dict := dd2, data := .seq items n, slots := sl2 } ∧ R (.ok (.ret .notImplemented)) s) :=
  .of_wp fun prog w A R s h => by obtain ⟨hp, g, d, tk, os⟩ := s; obtain ⟨hl, hb, h⟩ := h; have f1 := F.sub_dict_tuple; wp_walk using wpAny_loadPart' hl, wpAny_loadPart' hb; exact ⟨_, rfl, h⟩
/-- a dict stands at l -/
def IsDct (h : Heap) (l : Addr) : Prop := ∃ (o : Obj) (es : Array DictEntry) (ep : Nat), h.get? l = some o ∧ o.cls = .type "dict" ∧ o.data = .dict es ep
section
variable {A : Around} {s : Shared}
theorem RcAt_dict_none {l : Addr}  (hl : IsDct s.heap l) (hu : A.units < cLine) : RcAt A s (.ref l) .none false := fun prog w E Q h => by
  obtain ⟨⟨cls, dd, data, sl⟩, es, ep, ho, hc, hd⟩ := id hl
  simp only at hc hd
  subst hc hd
  exact rc_eq_decline_or (k := false) ⟨_, ho, rfl⟩ rfl (by decide) F.sub_NoneType_dict F.slot_dict_eq F.slot_NoneType_eq_refl
    (fun _ hq => call_meets F.slot_dict_eq ⟨_, ho, rfl⟩ F.entry_dict_eq (F.args_dict_eq_2 _ _) (dict_declines_none l es ep dd sl ) ⟨ho, hq⟩)
    (fun _ hq => call_gives F.slot_NoneType_eq_refl rfl F.entry_NoneType_eq (F.args_NoneType_eq_2 _ _) (NoneType___eq___none_ref_0 l) hq)
    (fun _ hq => wpAny_of_eq (rfl : isSame (.ref l) .none = pure false) hq) (.inr hu) h
theorem RcAt_none_dict {l : Addr}  (hl : IsDct s.heap l) (hu : A.units < cLine) : RcAt A s .none (.ref l) false := fun prog w E Q h => by
  obtain ⟨⟨cls, dd, data, sl⟩, es, ep, ho, hc, hd⟩ := id hl
  simp only at hc hd
  subst hc hd
  exact rc_eq_decline_or (k := false) rfl ⟨_, ho, rfl⟩ (by decide) F.sub_dict_NoneType F.slot_NoneType_eq F.slot_dict_eq_refl
    (fun _ hq => call_gives F.slot_NoneType_eq rfl F.entry_NoneType_eq (F.args_NoneType_eq_2 _ _) (NoneType___eq___none_ref_0 l) hq)
    (fun _ hq => call_meets F.slot_dict_eq_refl ⟨_, ho, rfl⟩ F.entry_dict_eq (F.args_dict_eq_2 _ _) (dict_declines_none l es ep dd sl ) ⟨ho, hq⟩)
    (fun _ hq => wpAny_of_eq (rfl : isSame .none (.ref l) = pure false) hq) (.inr hu) h
theorem EqAt_dict_none {l : Addr}  (hl : IsDct s.heap l) (hu : A.units < cLine) : EqAt A s (.ref l) .none false := fun prog w E Q h => by
  unfold eqBool
  refine wpAny_holding ?_
  refine wpAny_ite_split (fun hab => absurd (eq_of_beq hab) nofun) (fun _ => ?_)
  exact wpAny_bind (RcAt_dict_none  hl hu prog w E _ (wpAny_truthy_bool h))
theorem EqAt_none_dict {l : Addr}  (hl : IsDct s.heap l) (hu : A.units < cLine) : EqAt A s .none (.ref l) false := fun prog w E Q h => by
  unfold eqBool
  refine wpAny_holding ?_
  refine wpAny_ite_split (fun hab => absurd (eq_of_beq hab) nofun) (fun _ => ?_)
  exact wpAny_bind (RcAt_none_dict  hl hu prog w E _ (wpAny_truthy_bool h))
theorem RcAt_dict_bool {l : Addr} (b : Bool) (hl : IsDct s.heap l) (hu : A.units < cLine) : RcAt A s (.ref l) (.bool b) false := fun prog w E Q h => by
  obtain ⟨⟨cls, dd, data, sl⟩, es, ep, ho, hc, hd⟩ := id hl
  simp only at hc hd
  subst hc hd
  exact rc_eq_decline_or (k := false) ⟨_, ho, rfl⟩ rfl (by decide) F.sub_bool_dict F.slot_dict_eq F.slot_bool_eq_refl
    (fun _ hq => call_meets F.slot_dict_eq ⟨_, ho, rfl⟩ F.entry_dict_eq (F.args_dict_eq_2 _ _) (dict_declines_bool l es ep dd sl b) ⟨ho, hq⟩)
    (fun _ hq => call_meets F.slot_bool_eq_refl rfl F.entry_int_eq (F.args_int_eq_2 _ _) (bool_declines_dict l es ep dd sl b) ⟨ho, hq⟩)
    (fun _ hq => wpAny_of_eq (rfl : isSame (.ref l) (.bool b) = pure false) hq) (.inr hu) h
theorem RcAt_bool_dict {l : Addr} (b : Bool) (hl : IsDct s.heap l) (hu : A.units < cLine) : RcAt A s (.bool b) (.ref l) false := fun prog w E Q h => by
  obtain ⟨⟨cls, dd, data, sl⟩, es, ep, ho, hc, hd⟩ := id hl
  simp only at hc hd
  subst hc hd
  exact rc_eq_decline_or (k := false) rfl ⟨_, ho, rfl⟩ (by decide) F.sub_dict_bool F.slot_bool_eq F.slot_dict_eq_refl
    (fun _ hq => call_meets F.slot_bool_eq rfl F.entry_int_eq (F.args_int_eq_2 _ _) (bool_declines_dict l es ep dd sl b) ⟨ho, hq⟩)
    (fun _ hq => call_meets F.slot_dict_eq_refl ⟨_, ho, rfl⟩ F.entry_dict_eq (F.args_dict_eq_2 _ _) (dict_declines_bool l es ep dd sl b) ⟨ho, hq⟩)
    (fun _ hq => wpAny_of_eq (rfl : isSame (.bool b) (.ref l) = pure false) hq) (.inr hu) h
theorem EqAt_dict_bool {l : Addr} (b : Bool) (hl : IsDct s.heap l) (hu : A.units < cLine) : EqAt A s (.ref l) (.bool b) false := fun prog w E Q h => by
  unfold eqBool
  refine wpAny_holding ?_
  refine wpAny_ite_split (fun hab => absurd (eq_of_beq hab) nofun) (fun _ => ?_)
  exact wpAny_bind (RcAt_dict_bool b hl hu prog w E _ (wpAny_truthy_bool h))
theorem EqAt_bool_dict {l : Addr} (b : Bool) (hl : IsDct s.heap l) (hu : A.units < cLine) : EqAt A s (.bool b) (.ref l) false := fun prog w E Q h => by
  unfold eqBool
  refine wpAny_holding ?_
  refine wpAny_ite_split (fun hab => absurd (eq_of_beq hab) nofun) (fun _ => ?_)
  exact wpAny_bind (RcAt_bool_dict b hl hu prog w E _ (wpAny_truthy_bool h))
theorem RcAt_dict_int {l : Addr} (b : Int) (u : Tok) (hl : IsDct s.heap l) (hu : A.units < cLine) : RcAt A s (.ref l) (.int b u) false := fun prog w E Q h => by
  obtain ⟨⟨cls, dd, data, sl⟩, es, ep, ho, hc, hd⟩ := id hl
  simp only at hc hd
  subst hc hd
  exact rc_eq_decline_or (k := false) ⟨_, ho, rfl⟩ (typeIs_int s b u) (by decide) F.sub_int_dict F.slot_dict_eq F.slot_int_eq_refl
    (fun _ hq => call_meets F.slot_dict_eq ⟨_, ho, rfl⟩ F.entry_dict_eq (F.args_dict_eq_2 _ _) (dict_declines_int l es ep dd sl b u) ⟨ho, hq⟩)
    (fun _ hq => call_meets F.slot_int_eq_refl (typeIs_int s b u) F.entry_int_eq (F.args_int_eq_2 _ _) (int_declines_dict l es ep dd sl b u) ⟨ho, hq⟩)
    (fun _ hq => wpAny_of_eq (rfl : isSame (.ref l) (.int b u) = pure false) hq) (.inr hu) h
theorem RcAt_int_dict {l : Addr} (b : Int) (u : Tok) (hl : IsDct s.heap l) (hu : A.units < cLine) : RcAt A s (.int b u) (.ref l) false := fun prog w E Q h => by
  obtain ⟨⟨cls, dd, data, sl⟩, es, ep, ho, hc, hd⟩ := id hl
  simp only at hc hd
  subst hc hd
  exact rc_eq_decline_or (k := false) (typeIs_int s b u) ⟨_, ho, rfl⟩ (by decide) F.sub_dict_int F.slot_int_eq F.slot_dict_eq_refl
    (fun _ hq => call_meets F.slot_int_eq (typeIs_int s b u) F.entry_int_eq (F.args_int_eq_2 _ _) (int_declines_dict l es ep dd sl b u) ⟨ho, hq⟩)
    (fun _ hq => call_meets F.slot_dict_eq_refl ⟨_, ho, rfl⟩ F.entry_dict_eq (F.args_dict_eq_2 _ _) (dict_declines_int l es ep dd sl b u) ⟨ho, hq⟩)
    (fun _ hq => wpAny_of_eq (rfl : isSame (.int b u) (.ref l) = pure false) hq) (.inr hu) h
theorem EqAt_dict_int {l : Addr} (b : Int) (u : Tok) (hl : IsDct s.heap l) (hu : A.units < cLine) : EqAt A s (.ref l) (.int b u) false := fun prog w E Q h => by
  unfold eqBool
  refine wpAny_holding ?_
  refine wpAny_ite_split (fun hab => absurd (eq_of_beq hab) nofun) (fun _ => ?_)
  exact wpAny_bind (RcAt_dict_int b u hl hu prog w E _ (wpAny_truthy_bool h))
theorem EqAt_int_dict {l : Addr} (b : Int) (u : Tok) (hl : IsDct s.heap l) (hu : A.units < cLine) : EqAt A s (.int b u) (.ref l) false := fun prog w E Q h => by
  unfold eqBool
  refine wpAny_holding ?_
  refine wpAny_ite_split (fun hab => absurd (eq_of_beq hab) nofun) (fun _ => ?_)
  exact wpAny_bind (RcAt_int_dict b u hl hu prog w E _ (wpAny_truthy_bool h))
theorem RcAt_dict_str {l : Addr} (b : Str) (u : Tok) (hl : IsDct s.heap l) (hu : A.units < cLine) : RcAt A s (.ref l) (.str b u) false := fun prog w E Q h => by
  obtain ⟨⟨cls, dd, data, sl⟩, es, ep, ho, hc, hd⟩ := id hl
  simp only at hc hd
  subst hc hd
  exact rc_eq_decline_or (k := false) ⟨_, ho, rfl⟩ (typeIs_str s b u) (by decide) F.sub_str_dict F.slot_dict_eq F.slot_str_eq_refl
    (fun _ hq => call_meets F.slot_dict_eq ⟨_, ho, rfl⟩ F.entry_dict_eq (F.args_dict_eq_2 _ _) (dict_declines_str l es ep dd sl b u) ⟨ho, hq⟩)
    (fun _ hq => call_meets F.slot_str_eq_refl (typeIs_str s b u) F.entry_str_eq (F.args_str_eq_2 _ _) (str_declines_dict l es ep dd sl b u) ⟨ho, hq⟩)
    (fun _ hq => wpAny_of_eq (rfl : isSame (.ref l) (.str b u) = pure false) hq) (.inr hu) h
theorem RcAt_str_dict {l : Addr} (b : Str) (u : Tok) (hl : IsDct s.heap l) (hu : A.units < cLine) : RcAt A s (.str b u) (.ref l) false := fun prog w E Q h => by
  obtain ⟨⟨cls, dd, data, sl⟩, es, ep, ho, hc, hd⟩ := id hl
  simp only at hc hd
  subst hc hd
  exact rc_eq_decline_or (k := false) (typeIs_str s b u) ⟨_, ho, rfl⟩ (by decide) F.sub_dict_str F.slot_str_eq F.slot_dict_eq_refl
    (fun _ hq => call_meets F.slot_str_eq (typeIs_str s b u) F.entry_str_eq (F.args_str_eq_2 _ _) (str_declines_dict l es ep dd sl b u) ⟨ho, hq⟩)
    (fun _ hq => call_meets F.slot_dict_eq_refl ⟨_, ho, rfl⟩ F.entry_dict_eq (F.args_dict_eq_2 _ _) (dict_declines_str l es ep dd sl b u) ⟨ho, hq⟩)
    (fun _ hq => wpAny_of_eq (rfl : isSame (.str b u) (.ref l) = pure false) hq) (.inr hu) h
theorem EqAt_dict_str {l : Addr} (b : Str) (u : Tok) (hl : IsDct s.heap l) (hu : A.units < cLine) : EqAt A s (.ref l) (.str b u) false := fun prog w E Q h => by
  unfold eqBool
  refine wpAny_holding ?_
  refine wpAny_ite_split (fun hab => absurd (eq_of_beq hab) nofun) (fun _ => ?_)
  exact wpAny_bind (RcAt_dict_str b u hl hu prog w E _ (wpAny_truthy_bool h))
theorem EqAt_str_dict {l : Addr} (b : Str) (u : Tok) (hl : IsDct s.heap l) (hu : A.units < cLine) : EqAt A s (.str b u) (.ref l) false := fun prog w E Q h => by
  unfold eqBool
  refine wpAny_holding ?_
  refine wpAny_ite_split (fun hab => absurd (eq_of_beq hab) nofun) (fun _ => ?_)
  exact wpAny_bind (RcAt_str_dict b u hl hu prog w E _ (wpAny_truthy_bool h))
theorem ne_dict_list {l b : Addr} {items : Array Value} (hl : IsDct s.heap l) (hb : s.heap.IsList b items) : l ≠ b := fun e => by
  subst e
  obtain ⟨o, _, _, ho, hc, _⟩ := hl
  obtain ⟨o2, ho2, hc2, _⟩ := hb
  rw [ho] at ho2
  cases ho2
  rw [hc] at hc2
  exact absurd hc2 (by simp)
theorem RcAt_dict_list {l b : Addr} {items : Array Value} (hl : IsDct s.heap l) (hb : s.heap.IsList b items) (hu : A.units < cLine) : RcAt A s (.ref l) (.ref b) false := fun prog w E Q h => by
  have hne := ne_dict_list hl hb
  obtain ⟨⟨cls, dd, data, sl⟩, es, ep, ho, hc, hd⟩ := id hl
  obtain ⟨⟨cls2, dd2, data2, sl2⟩, ho2, hc2, n2, hd2⟩ := id hb
  simp only at hc hd hc2 hd2
  subst hc hd hc2 hd2
  exact (rc_eq_decline_or (k := false) ⟨_, ho, rfl⟩ ⟨_, ho2, rfl⟩ (by decide) F.sub_list_dict F.slot_dict_eq F.slot_list_eq_refl
    (fun _ hq => call_meets F.slot_dict_eq ⟨_, ho, rfl⟩ F.entry_dict_eq (F.args_dict_eq_2 _ _) (dict_declines_list l b es ep dd dd2 sl sl2 items n2) ⟨ho, ho2, hq⟩)
    (fun _ hq => call_meets F.slot_list_eq_refl ⟨_, ho2, rfl⟩ F.entry_list_eq (F.args_list_eq_2 _ _) (list_declines_dict l b es ep dd dd2 sl sl2 items n2) ⟨ho, ho2, hq⟩)
    (fun _ hq => wpAny_isSame_ref_other hne ho ho2 (by simp) hq) (.inr hu) h)
theorem RcAt_list_dict {l b : Addr} {items : Array Value} (hl : IsDct s.heap l) (hb : s.heap.IsList b items) (hu : A.units < cLine) : RcAt A s (.ref b) (.ref l) false := fun prog w E Q h => by
  have hne := (ne_dict_list hl hb).symm
  obtain ⟨⟨cls, dd, data, sl⟩, es, ep, ho, hc, hd⟩ := id hl
  obtain ⟨⟨cls2, dd2, data2, sl2⟩, ho2, hc2, n2, hd2⟩ := id hb
  simp only at hc hd hc2 hd2
  subst hc hd hc2 hd2
  exact (rc_eq_decline_or (k := false) ⟨_, ho2, rfl⟩ ⟨_, ho, rfl⟩ (by decide) F.sub_dict_list F.slot_list_eq F.slot_dict_eq_refl
    (fun _ hq => call_meets F.slot_list_eq ⟨_, ho2, rfl⟩ F.entry_list_eq (F.args_list_eq_2 _ _) (list_declines_dict l b es ep dd dd2 sl sl2 items n2) ⟨ho, ho2, hq⟩)
    (fun _ hq => call_meets F.slot_dict_eq_refl ⟨_, ho, rfl⟩ F.entry_dict_eq (F.args_dict_eq_2 _ _) (dict_declines_list l b es ep dd dd2 sl sl2 items n2) ⟨ho, ho2, hq⟩)
    (fun _ hq => wpAny_isSame_ref_other' hne ho2 ho (by simp) hq) (.inr hu) h)
theorem EqAt_dict_list {l b : Addr} {items : Array Value} (hl : IsDct s.heap l) (hb : s.heap.IsList b items) (hu : A.units < cLine) : EqAt A s (.ref l) (.ref b) false := .of_refs (ne_dict_list hl hb) (RcAt_dict_list hl hb hu)
theorem EqAt_list_dict {l b : Addr} {items : Array Value} (hl : IsDct s.heap l) (hb : s.heap.IsList b items) (hu : A.units < cLine) : EqAt A s (.ref b) (.ref l) false := .of_refs (ne_dict_list hl hb).symm (RcAt_list_dict hl hb hu)
theorem ne_dict_tuple {l b : Addr} {items : Array Value} (hl : IsDct s.heap l) (hb : s.heap.IsTuple b items) : l ≠ b := fun e => by
  subst e
  obtain ⟨o, _, _, ho, hc, _⟩ := hl
  obtain ⟨o2, ho2, hc2, _⟩ := hb
  rw [ho] at ho2
  cases ho2
  rw [hc] at hc2
  exact absurd hc2 (by simp)
theorem RcAt_dict_tuple {l b : Addr} {items : Array Value} (hl : IsDct s.heap l) (hb : s.heap.IsTuple b items) (hu : A.units < cLine) : RcAt A s (.ref l) (.ref b) false := fun prog w E Q h => by
  have hne := ne_dict_tuple hl hb
  obtain ⟨⟨cls, dd, data, sl⟩, es, ep, ho, hc, hd⟩ := id hl
  obtain ⟨⟨cls2, dd2, data2, sl2⟩, ho2, hc2, n2, hd2⟩ := id hb
  simp only at hc hd hc2 hd2
  subst hc hd hc2 hd2
  exact (rc_eq_decline_or (k := false) ⟨_, ho, rfl⟩ ⟨_, ho2, rfl⟩ (by decide) F.sub_tuple_dict F.slot_dict_eq F.slot_tuple_eq_refl
    (fun _ hq => call_meets F.slot_dict_eq ⟨_, ho, rfl⟩ F.entry_dict_eq (F.args_dict_eq_2 _ _) (dict_declines_tuple l b es ep dd dd2 sl sl2 items n2) ⟨ho, ho2, hq⟩)
    (fun _ hq => call_meets F.slot_tuple_eq_refl ⟨_, ho2, rfl⟩ F.entry_tuple_eq (F.args_tuple_eq_2 _ _) (tuple_declines_dict l b es ep dd dd2 sl sl2 items n2) ⟨ho, ho2, hq⟩)
    (fun _ hq => wpAny_isSame_ref_other hne ho ho2 (by simp) hq) (.inr hu) h)
theorem RcAt_tuple_dict {l b : Addr} {items : Array Value} (hl : IsDct s.heap l) (hb : s.heap.IsTuple b items) (hu : A.units < cLine) : RcAt A s (.ref b) (.ref l) false := fun prog w E Q h => by
  have hne := (ne_dict_tuple hl hb).symm
  obtain ⟨⟨cls, dd, data, sl⟩, es, ep, ho, hc, hd⟩ := id hl
  obtain ⟨⟨cls2, dd2, data2, sl2⟩, ho2, hc2, n2, hd2⟩ := id hb
  simp only at hc hd hc2 hd2
  subst hc hd hc2 hd2
  exact (rc_eq_decline_or (k := false) ⟨_, ho2, rfl⟩ ⟨_, ho, rfl⟩ (by decide) F.sub_dict_tuple F.slot_tuple_eq F.slot_dict_eq_refl
    (fun _ hq => call_meets F.slot_tuple_eq ⟨_, ho2, rfl⟩ F.entry_tuple_eq (F.args_tuple_eq_2 _ _) (tuple_declines_dict l b es ep dd dd2 sl sl2 items n2) ⟨ho, ho2, hq⟩)
    (fun _ hq => call_meets F.slot_dict_eq_refl ⟨_, ho, rfl⟩ F.entry_dict_eq (F.args_dict_eq_2 _ _) (dict_declines_tuple l b es ep dd dd2 sl sl2 items n2) ⟨ho, ho2, hq⟩)
    (fun _ hq => wpAny_isSame_ref_other' hne ho2 ho (by simp) hq) (.inr hu) h)
theorem EqAt_dict_tuple {l b : Addr} {items : Array Value} (hl : IsDct s.heap l) (hb : s.heap.IsTuple b items) (hu : A.units < cLine) : EqAt A s (.ref l) (.ref b) false := .of_refs (ne_dict_tuple hl hb) (RcAt_dict_tuple hl hb hu)
theorem EqAt_tuple_dict {l b : Addr} {items : Array Value} (hl : IsDct s.heap l) (hb : s.heap.IsTuple b items) (hu : A.units < cLine) : EqAt A s (.ref b) (.ref l) false := .of_refs (ne_dict_tuple hl hb).symm (RcAt_tuple_dict hl hb hu)
end
end EQD
set_option Elab.async false
set_option linter.all false
set_option maxRecDepth 100000
set_option maxHeartbeats 4000000
/-! EQB: things of any kind compared one by one: x in a list or tuple, == and != of lists. -/
namespace EQB
open PySem PySem.Spec PyProof.Rows L2
open EQD
theorem relV_inj {x y : V} {u : Value} (h : RelV x u) (h' : RelV y u) : x = y := by
  cases x <;> cases y <;> simp only [L2.RelV] at h h' <;> grind
section
variable {X : Cx}
/-- y == x tells b, and changes nothing -/
def EqB (X : Cx) (y x : V) (H : Hp) (b : Bool) : Prop := ∀ (pins : List (Addr × Obj)) (σ : L2.St) (s : Shared) (v u : Value) (A : Around), Inv X pins σ H s → RelV y v → RelV x u → A.units + 64 < cLine → SeqAt.EqAt A s v u b
theorem EqB.dp {y x : V} {H : Hp} {d e : PyData} (hy : Dp X.K H y d) (hx : Dp X.K H x e) (sd : SeqAt.shaped d = true) (se : SeqAt.shaped e = true) : EqB X y x H (PyData.eqv d e) := fun pins σ s v u A I ry rx hu => by
  obtain ⟨as, r1⟩ := Dp.reads I d y v hy ry
  obtain ⟨bs, r2⟩ := Dp.reads I e x u hx rx
  exact SeqAt.eqAt_reads d e A s v u as bs r1 r2 (SeqAt.canLay_of_shaped sd) (SeqAt.canLay_of_shaped se) (SeqAt.room_of_shaped sd hu)
theorem isDct {pins : List (Addr × Obj)} {σ : L2.St} {s : Shared} {H : Hp} {a : Addr} {kvs : List (Key × V)} (I : Inv X pins σ H s) (h : H a = some (.dK kvs)) : IsDct s.heap a := by
  obtain ⟨_, _, _, _, o, es, ep, e, x, d, _⟩ := I.hok a _ h
  exact ⟨o, es, ep, e, x.1, d⟩
/-- a dict is no data else -/
theorem EqB.dctR {y : V} {a : Addr} {H : Hp} {d : PyData} {kvs : List (Key × V)} (hy : Dp X.K H y d) (h : H a = some (.dK kvs)) : EqB X y (.ref a) H false := fun pins σ s v u A I ry rx hu => by
  have D := isDct I h
  have hu0 : A.units < cLine := by omega
  cases (show u = Value.ref a from rx)
  cases hy with
  | non => cases ry; exact EqAt_none_dict D hu0
  | bl b => cases ry; exact EqAt_bool_dict b D hu0
  | int i => obtain ⟨t, rfl⟩ := ry; exact EqAt_int_dict i t D hu0
  | str z => obtain ⟨t, rfl⟩ := ry; exact EqAt_str_dict z t D hu0
  | lst hs _ =>
    cases ry
    obtain ⟨its, _, ⟨o, n, ho, hc, _, hd⟩, _⟩ := I.list hs
    exact EqAt_list_dict D ⟨o, ho, hc, n, hd⟩ hu0
  | tup hs _ =>
    cases ry
    obtain ⟨its, _, ⟨o, ho, hc, n, hd⟩, _⟩ := I.tuple hs
    exact EqAt_tuple_dict D ⟨o, ho, hc, n, hd⟩ hu0
theorem EqB.dctL {x : V} {a : Addr} {H : Hp} {d : PyData} {kvs : List (Key × V)} (hx : Dp X.K H x d) (h : H a = some (.dK kvs)) : EqB X (.ref a) x H false := fun pins σ s v u A I ry rx hu => by
  have D := isDct I h
  have hu0 : A.units < cLine := by omega
  cases (show v = Value.ref a from ry)
  cases hx with
  | non => cases rx; exact EqAt_dict_none D hu0
  | bl b => cases rx; exact EqAt_dict_bool b D hu0
  | int i => obtain ⟨t, rfl⟩ := rx; exact EqAt_dict_int i t D hu0
  | str z => obtain ⟨t, rfl⟩ := rx; exact EqAt_dict_str z t D hu0
  | lst hs _ =>
    cases rx
    obtain ⟨its, _, ⟨o, n, ho, hc, _, hd⟩, _⟩ := I.list hs
    exact EqAt_dict_list D ⟨o, ho, hc, n, hd⟩ hu0
  | tup hs _ =>
    cases rx
    obtain ⟨its, _, ⟨o, ho, hc, n, hd⟩, _⟩ := I.tuple hs
    exact EqAt_dict_tuple D ⟨o, ho, hc, n, hd⟩ hu0
/-- x in a list or a tuple -/
def rInB (X : Cx) (neg : Bool) : R2 := fun x y H Q => ∃ (p : Addr) (ys : List V) (e : V → Bool), y = .ref p ∧ (SqL X.K H p ys ∨ SqT X.K H p ys) ∧ (∀ z ∈ ys, EqB X z x H (e z)) ∧ Q (.bl (if neg = true then !ys.any e else ys.any e)) H
open Classical in
noncomputable def eOf (ys : List V) (e : V → Bool) (u : Value) : Bool := if h : ∃ z, z ∈ ys ∧ RelV z u then e h.choose else false
theorem eOf_eq {ys : List V} {e : V → Bool} {z : V} {u : Value} (hz : z ∈ ys) (r : RelV z u) : eOf ys e u = e z := by
  have h : ∃ z, z ∈ ys ∧ RelV z u := ⟨z, hz, r⟩
  unfold eOf
  rw [dif_pos h, relV_inj h.choose_spec.2 r]
theorem any_eOf {ws : List V} {e : V → Bool} : ∀ {ys : List V} {its : List Value}, (∀ z ∈ ys, z ∈ ws) → Vals ys its → its.any (eOf ws e) = ys.any e
  | [], _, _, .nil => rfl
  | z :: ys, _, hs, .cons r t => by
    rw [List.any_cons, List.any_cons, eOf_eq (hs z List.mem_cons_self) r, any_eOf (fun x hx => hs x (List.mem_cons_of_mem _ hx)) t]
theorem vals_mem {ys : List V} {its : List Value} (r : Vals ys its) {u : Value} (hu : u ∈ its) : ∃ z, z ∈ ys ∧ RelV z u := by
  induction r with
  | nil => cases hu
  | cons r t ih =>
    rcases List.mem_cons.mp hu with rfl | hu
    · exact ⟨_, List.mem_cons_self, r⟩
    · obtain ⟨z, hz, q⟩ := ih hu
      exact ⟨z, List.mem_cons_of_mem _ hz, q⟩
theorem op_inB (hu : X.A.units + 65 < cLine) : OpR X (compareOp .In) (rInB X false) := by
  intro pins s σ H x y v u Q I rx ry h
  obtain ⟨p, ys, e, rfl, hs, he, q⟩ := h
  cases (show u = Value.ref p from ry)
  have go : ∀ {its : List Value}, Vals ys its → (∀ w, w ∈ its.toArray → SeqAt.EqAt X.A.in1 s w v (eOf ys e w)) := fun {its} r w hw => by
    obtain ⟨z, hz, rz⟩ := vals_mem r (by simpa using hw)
    rw [eOf_eq hz rz]
    exact he z hz pins σ s w v X.A.in1 I rz rx (by show X.A.units + 1 + 64 < cLine; omega)
  rcases hs with hs | hs
  · obtain ⟨its, r, ⟨o, n, ho, hc, _, hd⟩, _⟩ := I.list hs
    refine SeqAt.in_listAt (eOf ys e) ⟨o, ho, hc, n, hd⟩ (go r) ⟨.bl _, H, I, rfl, ?_⟩
    rw [List.any_toArray, any_eOf (fun _ h => h) r]
    exact q
  · obtain ⟨its, r, ⟨o, ho, hc, n, hd⟩, _⟩ := I.tuple hs
    refine SeqAt.in_tupleAt (eOf ys e) ⟨o, ho, hc, n, hd⟩ (go r) ⟨.bl _, H, I, rfl, ?_⟩
    rw [List.any_toArray, any_eOf (fun _ h => h) r]
    exact q
theorem op_notInB (hu : X.A.units + 65 < cLine) : OpR X (compareOp .NotIn) (rInB X true) := by
  intro pins s σ H x y v u Q I rx ry h
  obtain ⟨p, ys, e, rfl, hs, he, q⟩ := h
  cases (show u = Value.ref p from ry)
  have go : ∀ {its : List Value}, Vals ys its → (∀ w, w ∈ its.toArray → SeqAt.EqAt X.A.in1 s w v (eOf ys e w)) := fun {its} r w hw => by
    obtain ⟨z, hz, rz⟩ := vals_mem r (by simpa using hw)
    rw [eOf_eq hz rz]
    exact he z hz pins σ s w v X.A.in1 I rz rx (by show X.A.units + 1 + 64 < cLine; omega)
  rcases hs with hs | hs
  · obtain ⟨its, r, ⟨o, n, ho, hc, _, hd⟩, _⟩ := I.list hs
    refine SeqAt.notIn_listAt (eOf ys e) ⟨o, ho, hc, n, hd⟩ (go r) ⟨.bl _, H, I, rfl, ?_⟩
    rw [List.any_toArray, any_eOf (fun _ h => h) r]
    exact q
  · obtain ⟨its, r, ⟨o, ho, hc, n, hd⟩, _⟩ := I.tuple hs
    refine SeqAt.notIn_tupleAt (eOf ys e) ⟨o, ho, hc, n, hd⟩ (go r) ⟨.bl _, H, I, rfl, ?_⟩
    rw [List.any_toArray, any_eOf (fun _ h => h) r]
    exact q
/-- two lists: of unlike lengths, or compared item by item -/
inductive EqL (X : Cx) (H : Hp) : List V → List V → Bool → Prop
  | len {xs ys : List V} : xs.length ≠ ys.length → EqL X H xs ys false
  | all {xs ys : List V} {e : Nat → Bool} : xs.length = ys.length → (∀ i x y, xs[i]? = some x → ys[i]? = some y → EqB X x y H (e i)) → EqL X H xs ys ((List.range xs.length).all e)
/-- == and != of two lists -/
def rLsB (X : Cx) (neg : Bool) : R2 := fun x y H Q => ∃ (p q : Addr) (xs ys : List V) (b : Bool), x = .ref p ∧ y = .ref q ∧ p ≠ q ∧ SqL X.K H p xs ∧ SqL X.K H q ys ∧ EqL X H xs ys b ∧ Q (.bl (if neg = true then !b else b)) H
theorem items {pins : List (Addr × Obj)} {σ : L2.St} {s : Shared} {H : Hp} {xs ys : List V} {e : Nat → Bool} {its js : List Value} {A : Around} (I : Inv X pins σ H s) (r1 : Vals xs its) (r2 : Vals ys js) (hu : A.units + 64 < cLine) (he : ∀ i x y, xs[i]? = some x → ys[i]? = some y → EqB X x y H (e i)) :
    ∀ j (h1 : j < its.toArray.size) (h2 : j < js.toArray.size), SeqAt.EqAt A s its.toArray[j] js.toArray[j] (e j) := fun j h1 h2 => by
  have l1 := r1.length
  have l2 := r2.length
  have h1' : j < xs.length := by rw [l1]; simpa using h1
  have h2' : j < ys.length := by rw [l2]; simpa using h2
  obtain ⟨u1, e1, q1⟩ := r1.get (List.getElem?_eq_getElem h1')
  obtain ⟨u2, e2, q2⟩ := r2.get (List.getElem?_eq_getElem h2')
  have f1 : its.toArray[j] = u1 := by
    have := (List.getElem?_eq_some_iff.mp e1).2
    simpa using this
  have f2 : js.toArray[j] = u2 := by
    have := (List.getElem?_eq_some_iff.mp e2).2
    simpa using this
  rw [f1, f2]
  exact he j _ _ (List.getElem?_eq_getElem h1') (List.getElem?_eq_getElem h2') pins σ s u1 u2 A I q1 q2 hu
theorem op_eqL (hu : X.A.units + 65 < cLine) : OpR X (compareOp .Eq) (rLsB X false) := by
  intro pins s σ H x y v u Q I rx ry h
  obtain ⟨p, q, xs, ys, b, rfl, rfl, pq, hp, hq, eb, k⟩ := h
  cases (show v = Value.ref p from rx)
  cases (show u = Value.ref q from ry)
  obtain ⟨its, r1, ⟨o, n, ho, hc, _, hd⟩, _⟩ := I.list hp
  obtain ⟨js, r2, ⟨o2, n2, ho2, hc2, _, hd2⟩, _⟩ := I.list hq
  have L1 : s.heap.IsList p its.toArray := ⟨o, ho, hc, n, hd⟩
  have L2' : s.heap.IsList q js.toArray := ⟨o2, ho2, hc2, n2, hd2⟩
  have l1 := r1.length
  have l2 := r2.length
  show wpAny _ _ (richCompare .Eq (.ref p) (.ref q)) _ _ _
  cases eb with
  | len hne => exact SeqAt.RcAt.lists_lengths L1 L2' (by simp; omega) (by omega) _ _ _ _ ⟨.bl _, H, I, rfl, k⟩
  | @all e hl he =>
    have hz : its.toArray.size = js.toArray.size := by simp; omega
    refine SeqAt.RcAt.lists L1 L2' hz (by omega) (items (A := X.A.in1) I r1 r2 (by show X.A.units + 1 + 64 < cLine; omega) he) _ _ _ _ ⟨.bl _, H, I, rfl, ?_⟩
    have : its.toArray.size = xs.length := by simp; omega
    rw [this]
    exact k
theorem op_neL (hu : X.A.units + 65 < cLine) : OpR X (compareOp .NotEq) (rLsB X true) := by
  intro pins s σ H x y v u Q I rx ry h
  obtain ⟨p, q, xs, ys, b, rfl, rfl, pq, hp, hq, eb, k⟩ := h
  cases (show v = Value.ref p from rx)
  cases (show u = Value.ref q from ry)
  obtain ⟨its, r1, ⟨o, n, ho, hc, _, hd⟩, _⟩ := I.list hp
  obtain ⟨js, r2, ⟨o2, n2, ho2, hc2, _, hd2⟩, _⟩ := I.list hq
  have L1 : s.heap.IsList p its.toArray := ⟨o, ho, hc, n, hd⟩
  have L2' : s.heap.IsList q js.toArray := ⟨o2, ho2, hc2, n2, hd2⟩
  have l1 := r1.length
  have l2 := r2.length
  show wpAny _ _ (richCompare .NotEq (.ref p) (.ref q)) _ _ _
  cases eb with
  | len hne => exact SeqAt.RcNeAt.lists_lengths L1 L2' (by simp; omega) (by omega) _ _ _ _ ⟨.bl _, H, I, rfl, k⟩
  | @all e hl he =>
    have hz : its.toArray.size = js.toArray.size := by simp; omega
    refine SeqAt.RcNeAt.lists L1 L2' hz (by omega) (items (A := X.A.in1) I r1 r2 (by show X.A.units + 1 + 64 < cLine; omega) he) _ _ _ _ ⟨.bl _, H, I, rfl, ?_⟩
    have : its.toArray.size = xs.length := by simp; omega
    rw [this]
    exact k
end
end EQB
set_option Elab.async false
set_option linter.all false
set_option maxRecDepth 100000
set_option maxHeartbeats 4000000
/-! THI: THG with the type of each thing, and the text that it is: things of many kinds (None, a bool, a number, a text, lists, tuples, dicts), each with its repr's text. -/
namespace THI
open PySem PySem.Spec PyProof.Rows L2
open Builtin Builtin.List
/-- is it a whole number, a bool, or else -/
inductive Kn where
  | whole (i : Int)
  | flag (b : Bool)
  | text (s : Str)
  | non
  | lst
  | tup
  | dct
def Kn.tyn : Kn → String
  | .whole _ => "int"
  | .flag _ => "bool"
  | .text _ => "str"
  | .non => "NoneType"
  | .lst => "list"
  | .tup => "tuple"
  | .dct => "dict"
def Kn.eqI : Kn → Int → Bool
  | .whole j, i => decide (i = j)
  | .flag b, i => decide (i = if b then 1 else 0)
  | _, _ => false
def Kn.isInt : Kn → Bool
  | .whole _ => true
  | .flag _ => true
  | _ => false
def Kn.isFlag : Kn → Bool
  | .flag _ => true
  | _ => false
def Kn.isStr : Kn → Bool
  | .text _ => true
  | _ => false
def Kn.isLst : Kn → Bool
  | .lst => true
  | _ => false
def Kn.isTup : Kn → Bool
  | .tup => true
  | _ => false
theorem Kn.kInt {K : PySem.W.Frag} (k : Kn) : PySem.W.kitOne K (.type k.tyn) (.type "int") = some k.isInt :=
  match k with
  | .whole i => (kit_ty (by decide +kernel) : PySem.W.kitOne K (.type "int") (.type "int") = some true)
  | .flag b => (kit_ty (by decide +kernel) : PySem.W.kitOne K (.type "bool") (.type "int") = some true)
  | .text s => (kit_ty (by decide +kernel) : PySem.W.kitOne K (.type "str") (.type "int") = some false)
  | .non => (kit_ty (by decide +kernel) : PySem.W.kitOne K (.type "NoneType") (.type "int") = some false)
  | .lst => (kit_ty (by decide +kernel) : PySem.W.kitOne K (.type "list") (.type "int") = some false)
  | .tup => (kit_ty (by decide +kernel) : PySem.W.kitOne K (.type "tuple") (.type "int") = some false)
  | .dct => (kit_ty (by decide +kernel) : PySem.W.kitOne K (.type "dict") (.type "int") = some false)
theorem Kn.kFlag {K : PySem.W.Frag} (k : Kn) : PySem.W.kitOne K (.type k.tyn) (.type "bool") = some k.isFlag :=
  match k with
  | .whole i => (kit_ty (by decide +kernel) : PySem.W.kitOne K (.type "int") (.type "bool") = some false)
  | .flag b => (kit_ty (by decide +kernel) : PySem.W.kitOne K (.type "bool") (.type "bool") = some true)
  | .text s => (kit_ty (by decide +kernel) : PySem.W.kitOne K (.type "str") (.type "bool") = some false)
  | .non => (kit_ty (by decide +kernel) : PySem.W.kitOne K (.type "NoneType") (.type "bool") = some false)
  | .lst => (kit_ty (by decide +kernel) : PySem.W.kitOne K (.type "list") (.type "bool") = some false)
  | .tup => (kit_ty (by decide +kernel) : PySem.W.kitOne K (.type "tuple") (.type "bool") = some false)
  | .dct => (kit_ty (by decide +kernel) : PySem.W.kitOne K (.type "dict") (.type "bool") = some false)
theorem Kn.kStr {K : PySem.W.Frag} (k : Kn) : PySem.W.kitOne K (.type k.tyn) (.type "str") = some k.isStr :=
  match k with
  | .whole i => (kit_ty (by decide +kernel) : PySem.W.kitOne K (.type "int") (.type "str") = some false)
  | .flag b => (kit_ty (by decide +kernel) : PySem.W.kitOne K (.type "bool") (.type "str") = some false)
  | .text s => (kit_ty (by decide +kernel) : PySem.W.kitOne K (.type "str") (.type "str") = some true)
  | .non => (kit_ty (by decide +kernel) : PySem.W.kitOne K (.type "NoneType") (.type "str") = some false)
  | .lst => (kit_ty (by decide +kernel) : PySem.W.kitOne K (.type "list") (.type "str") = some false)
  | .tup => (kit_ty (by decide +kernel) : PySem.W.kitOne K (.type "tuple") (.type "str") = some false)
  | .dct => (kit_ty (by decide +kernel) : PySem.W.kitOne K (.type "dict") (.type "str") = some false)
theorem Kn.kLst {K : PySem.W.Frag} (k : Kn) : PySem.W.kitOne K (.type k.tyn) (.type "list") = some k.isLst :=
  match k with
  | .whole i => (kit_ty (by decide +kernel) : PySem.W.kitOne K (.type "int") (.type "list") = some false)
  | .flag b => (kit_ty (by decide +kernel) : PySem.W.kitOne K (.type "bool") (.type "list") = some false)
  | .text s => (kit_ty (by decide +kernel) : PySem.W.kitOne K (.type "str") (.type "list") = some false)
  | .non => (kit_ty (by decide +kernel) : PySem.W.kitOne K (.type "NoneType") (.type "list") = some false)
  | .lst => (kit_ty (by decide +kernel) : PySem.W.kitOne K (.type "list") (.type "list") = some true)
  | .tup => (kit_ty (by decide +kernel) : PySem.W.kitOne K (.type "tuple") (.type "list") = some false)
  | .dct => (kit_ty (by decide +kernel) : PySem.W.kitOne K (.type "dict") (.type "list") = some false)
theorem Kn.kTup {K : PySem.W.Frag} (k : Kn) : PySem.W.kitOne K (.type k.tyn) (.type "tuple") = some k.isTup :=
  match k with
  | .whole i => (kit_ty (by decide +kernel) : PySem.W.kitOne K (.type "int") (.type "tuple") = some false)
  | .flag b => (kit_ty (by decide +kernel) : PySem.W.kitOne K (.type "bool") (.type "tuple") = some false)
  | .text s => (kit_ty (by decide +kernel) : PySem.W.kitOne K (.type "str") (.type "tuple") = some false)
  | .non => (kit_ty (by decide +kernel) : PySem.W.kitOne K (.type "NoneType") (.type "tuple") = some false)
  | .lst => (kit_ty (by decide +kernel) : PySem.W.kitOne K (.type "list") (.type "tuple") = some false)
  | .tup => (kit_ty (by decide +kernel) : PySem.W.kitOne K (.type "tuple") (.type "tuple") = some true)
  | .dct => (kit_ty (by decide +kernel) : PySem.W.kitOne K (.type "dict") (.type "tuple") = some false)
/-- all but tables stay -/
def SN (H H' : Hp) : Prop := ∀ b o, H b = some o → (∀ ps, o ≠ .tbl ps) → H' b = some o
theorem SN.of {H H' : Hp} (s : Same H H') : SN H H' := fun b o e _ => s b o e
theorem SN.up {H0 H H' : Hp} (s : Same H0 H) (s1 : SN H H') : SN H0 H' := fun b o e n => s1 b o (s b o e) n
theorem SN.trans {H0 H H' : Hp} (s : SN H0 H) (s1 : SN H H') : SN H0 H' := fun b o e n => s1 b o (s b o e n) n
/-- no cell but a table's -/
def NT (H : Hp) (a : Addr) : Prop := ∀ v, H a = some v → ∃ ps, v = .tbl ps
theorem NT.of {H : Hp} {a : Addr} (h : H a = none) : NT H a := fun v e => by
  rw [h] at e
  cases e
theorem NT.up {H H' : Hp} {a : Addr} (s : SN H H') (h : NT H' a) : NT H a := fun v e => Classical.byContradiction fun n => n (h v (s a v e fun ps z => n ⟨ps, z⟩))
/-- data, with its repr's text -/
structure Dt (H : Hp) (x : V) (y : PyData) (t : Str) (n : Nat) : Prop where
  dpN : ∀ K H1, SN H H1 → Dp K H1 x y
  rpN : ∀ X outs H1, SN H H1 → (∀ o ∈ outs, NT H o) → RPO.RpU X n outs H1 x t
inductive DtAll (H : Hp) : List V → List PyData → List Str → Nat → Prop
  | nil {n : Nat} : DtAll H [] [] [] n
  | cons {x : V} {y : PyData} {t : Str} {xs : List V} {ys : List PyData} {ts : List Str} {n : Nat} : Dt H x y t n → DtAll H xs ys ts n → DtAll H (x :: xs) (y :: ys) (t :: ts) n
theorem none_up {H H' : Hp} {o : Addr} (s : Same H H') (h : H' o = none) : H o = none := by
  cases e : H o with
  | none => rfl
  | some z =>
    rw [s _ _ e] at h
    cases h
theorem Dt.same {H H' : Hp} {x : V} {y : PyData} {t : Str} {n : Nat} (h : Dt H x y t n) (s : Same H H') : Dt H' x y t n :=
  ⟨fun K H1 s1 => h.dpN K H1 (SN.up s s1), fun X outs H1 s1 ho => h.rpN X outs H1 (SN.up s s1) fun o q => NT.up (SN.of s) (ho o q)⟩
theorem Dt.mono {H : Hp} {x : V} {y : PyData} {t : Str} {n m : Nat} (h : Dt H x y t n) (nm : n ≤ m) : Dt H x y t m :=
  ⟨h.dpN, fun X outs H1 s1 ho => (h.rpN X outs H1 s1 ho).mono nm⟩
theorem DtAll.dp {H H1 : Hp} {K : PySem.W.Frag} (s : SN H H1) : ∀ {xs : List V} {ys : List PyData} {ts : List Str} {n : Nat}, DtAll H xs ys ts n → DpAll K H1 xs ys
  | _, _, _, _, .nil => .nil
  | _, _, _, _, .cons a b => .cons (a.dpN _ _ s) (DtAll.dp s b)
theorem DtAll.rp {H H1 : Hp} {X : Cx} {outs : List Addr} (s : SN H H1) (ho : ∀ o ∈ outs, NT H o) : ∀ {xs : List V} {ys : List PyData} {ts : List Str} {n : Nat}, DtAll H xs ys ts n → RPO.RpAll X n outs H1 xs ts
  | _, _, _, _, .nil => .nil
  | _, _, _, _, .cons a b => .cons (a.rpN _ _ _ s ho) (DtAll.rp s ho b)
/-- nothing is there -/
def N0 : Hp := fun _ => none
theorem s0 (H : Hp) : Same N0 H := fun _ _ e => nomatch e
theorem Dt.non {n : Nat} : Dt N0 .non .none "None" n := ⟨fun _ _ _ => .non, fun _ _ _ _ _ => .non⟩
theorem Dt.bl {n : Nat} (b : Bool) : Dt N0 (.bl b) (.bool b) (if b then "True" else "False") n := ⟨fun _ _ _ => .bl b, fun _ _ _ _ _ => .bl⟩
theorem Dt.int {n : Nat} {i : Int} (h : i.natAbs.log2 < 1920) : Dt N0 (.int i) (.int i) (toString i) n := ⟨fun _ _ _ => .int i, fun _ _ _ _ _ => .int h⟩
theorem Dt.str {n : Nat} (z : Str) : Dt N0 (.str z) (.str z) (reprText z) n := ⟨fun _ _ _ => .str z, fun _ _ _ _ _ => .str⟩
section
variable {H0 H : Hp} {a : Addr} {xs : List V} {ys : List PyData} {ts : List Str} {n : Nat}
theorem out_of {H : Hp} {a : Addr} {o : HO} {outs : List Addr} (h : H a = some o) (nt : ∀ ps, o ≠ .tbl ps) (ho : ∀ o ∈ outs, NT H o) : a ∉ outs := fun z => by
  obtain ⟨ps, e⟩ := ho a z _ h
  exact nt ps e
theorem SN.tup {H1 : Hp} (s : SN H H1) (h : H a = some (.tup xs)) : H1 a = some (.tup xs) := s _ _ h fun _ z => nomatch z
theorem SN.lst {H1 : Hp} (s : SN H H1) (h : H a = some (.lst xs)) : H1 a = some (.lst xs) := s _ _ h fun _ z => nomatch z
theorem SN.dK {H1 : Hp} {kvs : List (Key × V)} (s : SN H H1) (h : H a = some (.dK kvs)) : H1 a = some (.dK kvs) := s _ _ h fun _ z => nomatch z
theorem Dt.tup (h : H a = some (.tup xs)) (hs : DtAll H0 xs ys ts n) (s : Same H0 H) (z : H0 a = none) : Dt H (.ref a) (.tuple ys) (tupleText ts) (n + 1) :=
  ⟨fun K H1 s1 => .tup (SqT.of (s1.tup h)) (hs.dp (SN.up s s1)), fun X outs H1 s1 ho => .tup (s1.tup h) (out_of h (fun _ z => nomatch z) ho) (hs.rp (SN.up s s1) fun o q => by
    rcases List.mem_cons.mp q with rfl | q
    · exact NT.of z
    · exact NT.up (SN.of s) (ho o q))⟩
theorem Dt.list (h : H a = some (.lst xs)) (hx : xs ≠ []) (hs : DtAll H0 xs ys ts n) (s : Same H0 H) (z : H0 a = none) : Dt H (.ref a) (.list ys) (listText ts) (n + 1) :=
  ⟨fun K H1 s1 => .lst (SqL.of (s1.lst h)) (hs.dp (SN.up s s1)), fun X outs H1 s1 ho => .list (s1.lst h) (out_of h (fun _ z => nomatch z) ho) hx (hs.rp (SN.up s s1) fun o q => by
    rcases List.mem_cons.mp q with rfl | q
    · exact NT.of z
    · exact NT.up (SN.of s) (ho o q))⟩
theorem Dt.list0 (h : H a = some (.lst [])) : Dt H (.ref a) (.list []) "[]" n :=
  ⟨fun K H1 s1 => .lst (SqL.of (s1.lst h)) .nil, fun X outs H1 s1 ho => .list0 (s1.lst h) (out_of h (fun _ z => nomatch z) ho)⟩
end
/-- a thing -/
structure Thg (H : Hp) (x : V) (k : Kn) (t : Str) (n : Nat) : Prop where
  eqN : ∀ X H1, SN H H1 → ∀ i : Int, EQB.EqB X (.int i) x H1 (k.eqI i)
  rpN : ∀ X outs H1, SN H H1 → (∀ o ∈ outs, NT H o) → RPO.RpU X n outs H1 x t
  tyN : ∀ K H1, SN H H1 → TyX K H1 x (.type k.tyn)
  val : ∀ i, k = .whole i → x = .int i
  flg : ∀ b, k = .flag b → x = .bl b
  txt : ∀ s, k = .text s → x = .str s
  len : t.length ≤ 100
section
variable {H H' : Hp} {x : V} {k : Kn} {t : Str} {n : Nat}
theorem Thg.eq (h : Thg H x k t n) (X : Cx) (H1 : Hp) (s : Same H H1) (i : Int) : EQB.EqB X (.int i) x H1 (k.eqI i) := h.eqN X H1 (SN.of s) i
theorem Thg.rp (h : Thg H x k t n) (X : Cx) (outs : List Addr) (H1 : Hp) (s : Same H H1) (ho : ∀ o ∈ outs, H o = none) : RPO.RpU X n outs H1 x t := h.rpN X outs H1 (SN.of s) fun o q => NT.of (ho o q)
theorem Thg.ty (h : Thg H x k t n) (K : PySem.W.Frag) (H1 : Hp) (s : Same H H1) : ∃ ty : String, TyX K H1 x (.type ty) ∧ PySem.W.kitOne K (.type ty) (.type "int") = some k.isInt ∧ PySem.W.kitOne K (.type ty) (.type "bool") = some k.isFlag := ⟨k.tyn, h.tyN K H1 (SN.of s), k.kInt, k.kFlag⟩
theorem Thg.same (h : Thg H x k t n) (s : Same H H') : Thg H' x k t n :=
  ⟨fun X H1 s1 => h.eqN X H1 (SN.up s s1), fun X outs H1 s1 ho => h.rpN X outs H1 (SN.up s s1) fun o q => NT.up (SN.of s) (ho o q), fun K H1 s1 => h.tyN K H1 (SN.up s s1), h.val, h.flg, h.txt, h.len⟩
theorem Thg.mono {m : Nat} (h : Thg H x k t n) (nm : n ≤ m) : Thg H x k t m := ⟨h.eqN, fun X outs H1 s1 ho => (h.rpN X outs H1 s1 ho).mono nm, h.tyN, h.val, h.flg, h.txt, h.len⟩
theorem Thg.of {y : PyData} (d : Dt H x y t n) (sh : SeqAt.shaped y = true) (e : ∀ i : Int, PyData.eqv (.int i) y = k.eqI i) (ty : ∀ K H1, SN H H1 → TyX K H1 x (.type k.tyn))
    (val : ∀ i, k = .whole i → x = .int i) (flg : ∀ b, k = .flag b → x = .bl b) (txt : ∀ s, k = .text s → x = .str s) (len : t.length ≤ 100) : Thg H x k t n :=
  ⟨fun X H1 s i => by
    rw [← e i]
    exact EQB.EqB.dp (.int i) (d.dpN _ _ s) rfl sh, d.rpN, ty, val, flg, txt, len⟩
theorem Thg.int {i : Int} (h : i.natAbs.log2 < 1920) (l : ((toString i : String) : Str).length ≤ 100) : Thg N0 (.int i) (.whole i) (toString i) n :=
  .of (Dt.int h) rfl (fun j => by rw [Bool.eq_iff_iff]; simp [PyData.eqv, Kn.eqI]) (fun K H1 _ => .base (.int i)) (fun j e => by cases e; rfl) (fun b e => by cases e) (fun s e => by cases e) l
theorem Thg.bl (b : Bool) : Thg N0 (.bl b) (.flag b) (if b then "True" else "False") n :=
  .of (Dt.bl b) rfl (fun j => by rw [Bool.eq_iff_iff]; cases b <;> simp [PyData.eqv, Kn.eqI]) (fun K H1 _ => .base (.bl b)) (fun j e => by cases e) (fun c e => by cases e; rfl) (fun s e => by cases e) (by cases b <;> decide)
theorem Thg.non : Thg N0 .non .non "None" n :=
  .of Dt.non rfl (fun j => by simp [PyData.eqv, Kn.eqI]) (fun K H1 _ => .base .non) (fun j e => by cases e) (fun b e => by cases e) (fun s e => by cases e) (by decide)
theorem Thg.str (z : Str) (ok : PyData.strOk z = true) (l : (reprText z).length ≤ 100) : Thg N0 (.str z) (.text z) (reprText z) n :=
  .of (Dt.str z) (by simp [SeqAt.shaped, PyData.canLay0, PyData.depth, ok]) (fun j => by simp [PyData.eqv, Kn.eqI]) (fun K H1 _ => .base (.str z)) (fun j e => by cases e) (fun b e => by cases e) (fun s e => by cases e; rfl) l
theorem Thg.lst {a : Addr} {xs : List V} {ys : List PyData} (h : H a = some (.lst xs)) (d : Dt H (.ref a) (.list ys) t n) (sh : SeqAt.shaped (.list ys) = true) (l : t.length ≤ 100) : Thg H (.ref a) .lst t n :=
  .of d sh (fun j => by simp [PyData.eqv, Kn.eqI]) (fun K H1 s => .base (.lst (s.lst h))) (fun j e => by cases e) (fun b e => by cases e) (fun s e => by cases e) l
theorem Thg.tup {a : Addr} {xs : List V} {ys : List PyData} (h : H a = some (.tup xs)) (d : Dt H (.ref a) (.tuple ys) t n) (sh : SeqAt.shaped (.tuple ys) = true) (l : t.length ≤ 100) : Thg H (.ref a) .tup t n :=
  .of d sh (fun j => by simp [PyData.eqv, Kn.eqI]) (fun K H1 s => .base (.tup (s.tup h))) (fun j e => by cases e) (fun b e => by cases e) (fun s e => by cases e) l
theorem Thg.dct {a : Addr} {kvs : List (Key × V)} {ps : List Str} (h : H a = some (.dK kvs)) (es : ∀ X outs H1, RPO.RpEnt X n (a :: outs) H1 kvs ps) (l : (dictText ps).length ≤ 100) : Thg H (.ref a) .dct (dictText ps) (n + 1) :=
  ⟨fun X H1 s i => EQB.EqB.dctR (.int i) (s.dK h), fun X outs H1 s ho => .dct (s.dK h) (out_of h (fun _ z => nomatch z) ho) (es X outs H1), fun K H1 s => .base (.dK (s.dK h)), fun j e => (by cases e), fun b e => (by cases e), fun s e => (by cases e), l⟩
end
open Classical in
/-- all but some cells -/
noncomputable def out (q : Addr → Prop) (H : Hp) : Hp := fun a => if q a then none else H a
section
variable {q : Addr → Prop} {H H' : Hp} {a : Addr}
theorem out_le : Same (out q H) H := fun a o e => by
  unfold out at e
  by_cases c : q a
  · rw [if_pos c] at e
    cases e
  · rw [if_neg c] at e
    exact e
theorem out_not {o : HO} (e : out q H a = some o) : ¬ q a := fun c => by
  unfold out at e
  rw [if_pos c] at e
  cases e
theorem out_at {o : HO} (e : H a = some o) (n : ¬ q a) : out q H a = some o := by
  unfold out
  rw [if_neg n]
  exact e
theorem out_none (e : H a = none) : out q H a = none := by
  unfold out
  rw [e, ite_self]
theorem out_kp (k : ∀ b o, H b = some o → ¬ q b → H' b = some o) : Same (out q H) (out q H') := fun a o e => out_at (k a o (out_le a o e) (out_not e)) (out_not e)
theorem out_same (s : Same H H') : Same (out q H) (out q H') := out_kp fun b o e _ => s b o e
theorem out_ne (e : H a = none) (n : ∀ b, q b → H b ≠ none) : ¬ q a := fun z => n a z e
theorem same_some (s : Same H H') (n : ∀ b, q b → H b ≠ none) : ∀ b, q b → H' b ≠ none := fun b c z => n b c (none_up s z)
end
/-- x in a list or a tuple, within a comprehension too -/
def rInA (K : PySem.W.Frag) (neg : Bool) : R2 := fun x y H Q => ∃ (p : Addr) (ys : List V) (e : V → Bool), y = .ref p ∧ (SqL K H p ys ∨ SqT K H p ys) ∧ (∀ X : Cx, X.K = K → ∀ z ∈ ys, EQB.EqB X z x H (e z)) ∧ Q (.bl (if neg = true then !(ys.any e) else ys.any e)) H
theorem op_inA {X : Cx} {K : PySem.W.Frag} (hX : X.K = K) (hu : X.A.units + 65 < cLine) : OpR X (compareOp .In) (rInA K false) := fun pins s σ H x y v u Q I rx ry ⟨p, ys, e, ey, hs, he, q⟩ => by
  subst hX
  exact EQB.op_inB hu pins s σ H x y v u Q I rx ry ⟨p, ys, e, ey, hs, fun z hz => he X rfl z hz, q⟩
theorem op_notInA {X : Cx} {K : PySem.W.Frag} (hX : X.K = K) (hu : X.A.units + 65 < cLine) : OpR X (compareOp .NotIn) (rInA K true) := fun pins s σ H x y v u Q I rx ry ⟨p, ys, e, ey, hs, he, q⟩ => by
  subst hX
  exact EQB.op_notInB hu pins s σ H x y v u Q I rx ry ⟨p, ys, e, ey, hs, fun z hz => he X rfl z hz, q⟩
end THI
set_option Elab.async false
set_option linter.all false
set_option maxRecDepth 100000
set_option maxHeartbeats 4000000
namespace K09
open PySem PySem.Spec PyProof.Rows L2
open C8 (Cal Mak Met pe_c pe_mk pe_mt pe_mt0)
open THI PySem.Builtin PySem.Builtin.List
def thgs : List (Kn × Str) := [(.non, "None"), ((.flag true), "True"), ((.flag false), "False"), ((.whole 0), (toString (0 : Int) : String)), ((.whole 1), (toString (1 : Int) : String)), ((.whole (-1)), (toString (-1 : Int) : String)), ((.whole 7), (toString (7 : Int) : String)), ((.whole 31), (toString (31 : Int) : String)), ((.whole 128), (toString (128 : Int) : String)), ((.whole (1000000000000000000000000000000 - 1)), (toString ((1000000000000000000000000000000 - 1) : Int) : String)), ((.text ""), (reprText "")), ((.text "a"), (reprText "a")), ((.text "0"), (reprText "0")), ((.text "1f"), (reprText "1f")), ((.text " "), (reprText " ")), ((.text "A"), (reprText "A")), ((.text "\n"), (reprText "\n")), (.tup, (tupleText [])), (.tup, (tupleText [(toString (0 : Int) : String)])), (.tup, (tupleText [(toString (1 : Int) : String), (toString (2 : Int) : String)])), (.lst, "[]"), (.lst, (listText [(toString (0 : Int) : String)])), (.lst, (listText [(reprText "a")])), (.lst, (listText ["[]"])), (.dct, (dictText ([] : List Str))), (.dct, (dictText ([(reprText "a") ++ ": " ++ (toString (1 : Int) : String)] : List Str))), (.dct, (dictText ([(toString (0 : Int) : String) ++ ": " ++ (reprText "a")] : List Str))), (.tup, (tupleText [(reprText "a")])), (.tup, (tupleText [(reprText "1"), (reprText "f")])), (.tup, (tupleText ["None", "True"])), (.lst, (listText [(tupleText [(tupleText [(reprText "a")])])]))]
/-- things one by one -/
inductive ThgAll (H : Hp) : List V → List (Kn × Str) → Prop
  | nil : ThgAll H [] []
  | cons {x : V} {k : Kn} {t : Str} {xs : List V} {ks : List (Kn × Str)} : Thg H x k t 4 → ThgAll H xs ks → ThgAll H (x :: xs) ((k, t) :: ks)
section
variable {P : Program} {w : World} {K : PySem.W.Frag} {mg : Str → Option Value} {base : Heap} {f : Addr} {fd : FuncData}
def spTh : Sp := fun vs H Q _ => vs = [] ∧ ∃ q : Addr → Prop, (∀ b, q b → H b ≠ none) ∧ ∀ p H' xs, Same H H' → H p = none → H' p = some (.lst xs) → ThgAll (out q H') xs thgs → Q (.ref p) H'
theorem ok_th (F : Dn K d_l_things f fd) : FnOk P w K mg base CX0 1 f fd [] spTh := by
  refine F.ok sc_l_things (fun vs H Q E h => ?_) (fun cdv A outer s H vs Q E hr h => ?_)
  · obtain ⟨rfl, _⟩ := h
    rfl
  · obtain ⟨rfl, q, hq, hQ⟩ := h
    refine ⟨_, PSs.nox (pss_cons (ps_set (i := 0) sc_l_things.nd rfl (.inl rfl) (pe_lst (pa_cons pe_non (pa_cons pe_bl (pa_cons pe_bl (pa_cons pe_int (pa_cons pe_int (pa_cons (pe_un un_neg pe_int) (pa_cons pe_int (pa_cons pe_int (pa_cons pe_int (pa_cons (pe_op op_sub (pe_op op_pow pe_int pe_int) pe_int) (pa_cons pe_str (pa_cons pe_str (pa_cons pe_str (pa_cons pe_str (pa_cons pe_str (pa_cons pe_str (pa_cons pe_str (pa_cons (pe_tup pa_nil) (pa_cons (pe_tup (pa_cons pe_int pa_nil)) (pa_cons (pe_tup (pa_cons pe_int (pa_cons pe_int pa_nil))) pa_nil))))))))))))))))))))))
      (pss_one (ps_ret (pe_op op_cat (pv 0) (pe_lst (pa_cons (pe_lst pa_nil) (pa_cons (pe_lst (pa_cons pe_int pa_nil)) (pa_cons (pe_lst (pa_cons pe_str pa_nil)) (pa_cons (pe_lst (pa_cons (pe_lst pa_nil) pa_nil)) (pa_cons pe_dnewK (pa_cons (pe_disp (pps_cons pe_str pe_int pps_nil) rfl rfl (List.cons_ne_nil _ _) (by decide)) (pa_cons (pe_disp (pps_cons pe_int pe_str pps_nil) rfl rfl (List.cons_ne_nil _ _) (by decide)) (pa_cons (pe_tup (pa_cons pe_str pa_nil)) (pa_cons (pe_tup (pa_cons pe_str (pa_cons pe_str pa_nil))) (pa_cons (pe_tup (pa_cons pe_non (pa_cons pe_bl pa_nil))) (pa_cons (pe_lst (pa_cons (pe_tup (pa_cons (pe_tup (pa_cons pe_str pa_nil)) pa_nil)) pa_nil)) pa_nil)))))))))))))))), ?_⟩
    have sm := Same.refl H
    refine ⟨1, rfl, ?_⟩
    refine ⟨10, 30, rfl, rfl, ⟨by decide, by decide, by decide⟩, 1000000000000000000000000000000, 1, congrArg V.int (by decide +kernel), rfl, ?_⟩
    refine ⟨by show 0 ≤ sizeLine; decide, fun t1 ft1 => ?_⟩
    have i1 : DtAll (out q H) [] [] [] 0 := DtAll.nil
    have s_ := same_new (o := .tup []) ft1
    have so_ := out_same (q := q) s_
    have nt1 : ¬ q t1 := out_ne ft1 (same_some sm hq)
    have e1 : (upd H t1 (.tup [])) t1 = some (.tup []) := upd_same
    have sm := sm.trans s_
    have d1 : Dt (out q (upd H t1 (.tup []))) (.ref t1) (.tuple []) (tupleText []) 1 := Dt.tup (out_at e1 nt1) i1 so_ (out_none ft1)
    generalize upd H t1 (.tup []) = G1 at s_ so_ sm e1 d1  ⊢
    have h17 : Thg (out q G1) (.ref t1) .tup (tupleText []) 4 := Thg.mono (Thg.tup (out_at e1 nt1) d1 (by decide +kernel) (by decide +kernel)) (by decide)
    refine ⟨by show 1 ≤ sizeLine; decide, fun t2 ft2 => ?_⟩
    have i2 : DtAll (out q G1) [.int 0] [.int 0] [(toString (0 : Int) : String)] 0 := (DtAll.cons (((Dt.int (by decide +kernel)) : Dt N0 (.int 0) (.int 0) _ 0).same (s0 _)) DtAll.nil)
    have s_ := same_new (o := .tup [.int 0]) ft2
    have so_ := out_same (q := q) s_
    have nt2 : ¬ q t2 := out_ne ft2 (same_some sm hq)
    have e2 : (upd G1 t2 (.tup [.int 0])) t2 = some (.tup [.int 0]) := upd_same
    have h17 := h17.same so_
    have sm := sm.trans s_
    have d2 : Dt (out q (upd G1 t2 (.tup [.int 0]))) (.ref t2) (.tuple [.int 0]) (tupleText [(toString (0 : Int) : String)]) 1 := Dt.tup (out_at e2 nt2) i2 so_ (out_none ft2)
    generalize upd G1 t2 (.tup [.int 0]) = G2 at s_ so_ sm e2 d2 h17 ⊢
    have h18 : Thg (out q G2) (.ref t2) .tup (tupleText [(toString (0 : Int) : String)]) 4 := Thg.mono (Thg.tup (out_at e2 nt2) d2 (by decide +kernel) (by decide +kernel)) (by decide)
    refine ⟨by show 2 ≤ sizeLine; decide, fun t3 ft3 => ?_⟩
    have i3 : DtAll (out q G2) [.int 1, .int 2] [.int 1, .int 2] [(toString (1 : Int) : String), (toString (2 : Int) : String)] 0 := (DtAll.cons (((Dt.int (by decide +kernel)) : Dt N0 (.int 1) (.int 1) _ 0).same (s0 _)) (DtAll.cons (((Dt.int (by decide +kernel)) : Dt N0 (.int 2) (.int 2) _ 0).same (s0 _)) DtAll.nil))
    have s_ := same_new (o := .tup [.int 1, .int 2]) ft3
    have so_ := out_same (q := q) s_
    have nt3 : ¬ q t3 := out_ne ft3 (same_some sm hq)
    have e3 : (upd G2 t3 (.tup [.int 1, .int 2])) t3 = some (.tup [.int 1, .int 2]) := upd_same
    have h17 := h17.same so_
    have h18 := h18.same so_
    have sm := sm.trans s_
    have d3 : Dt (out q (upd G2 t3 (.tup [.int 1, .int 2]))) (.ref t3) (.tuple [.int 1, .int 2]) (tupleText [(toString (1 : Int) : String), (toString (2 : Int) : String)]) 1 := Dt.tup (out_at e3 nt3) i3 so_ (out_none ft3)
    generalize upd G2 t3 (.tup [.int 1, .int 2]) = G3 at s_ so_ sm e3 d3 h17 h18 ⊢
    have h19 : Thg (out q G3) (.ref t3) .tup (tupleText [(toString (1 : Int) : String), (toString (2 : Int) : String)]) 4 := Thg.mono (Thg.tup (out_at e3 nt3) d3 (by decide +kernel) (by decide +kernel)) (by decide)
    refine ⟨by show 20 ≤ sizeLine; decide, fun pa fpa => ?_⟩
    have s_ := same_new (o := .lst [.non, .bl true, .bl false, .int 0, .int 1, .int (-1), .int 7, .int 31, .int 128, .int (1000000000000000000000000000000 - 1), .str "", .str "a", .str "0", .str "1f", .str " ", .str "A", .str "\n", .ref t1, .ref t2, .ref t3]) fpa
    have so_ := out_same (q := q) s_
    have ea : (upd G3 pa (.lst [.non, .bl true, .bl false, .int 0, .int 1, .int (-1), .int 7, .int 31, .int 128, .int (1000000000000000000000000000000 - 1), .str "", .str "a", .str "0", .str "1f", .str " ", .str "A", .str "\n", .ref t1, .ref t2, .ref t3])) pa = some (.lst [.non, .bl true, .bl false, .int 0, .int 1, .int (-1), .int 7, .int 31, .int 128, .int (1000000000000000000000000000000 - 1), .str "", .str "a", .str "0", .str "1f", .str " ", .str "A", .str "\n", .ref t1, .ref t2, .ref t3]) := upd_same
    have h17 := h17.same so_
    have h18 := h18.same so_
    have h19 := h19.same so_
    have sm := sm.trans s_
    generalize upd G3 pa (.lst [.non, .bl true, .bl false, .int 0, .int 1, .int (-1), .int 7, .int 31, .int 128, .int (1000000000000000000000000000000 - 1), .str "", .str "a", .str "0", .str "1f", .str " ", .str "A", .str "\n", .ref t1, .ref t2, .ref t3]) = G4 at s_ so_ sm ea h17 h18 h19 ⊢
    refine ⟨_, rfl, ?_⟩
    refine ⟨by show 0 ≤ sizeLine; decide, fun t4 ft4 => ?_⟩
    have i4 : DtAll (out q G4) [] [] [] 0 := DtAll.nil
    have s_ := same_new (o := .lst []) ft4
    have so_ := out_same (q := q) s_
    have nt4 : ¬ q t4 := out_ne ft4 (same_some sm hq)
    have e4 : (upd G4 t4 (.lst [])) t4 = some (.lst []) := upd_same
    have h17 := h17.same so_
    have h18 := h18.same so_
    have h19 := h19.same so_
    have sm := sm.trans s_
    have ea := s_ _ _ ea
    have d4 : Dt (out q (upd G4 t4 (.lst []))) (.ref t4) (.list []) "[]" 1 := Dt.list0 (out_at e4 nt4)
    generalize upd G4 t4 (.lst []) = G5 at s_ so_ sm e4 d4 h17 h18 h19 ea ⊢
    have h20 : Thg (out q G5) (.ref t4) .lst "[]" 4 := Thg.mono (Thg.lst (out_at e4 nt4) d4 (by decide +kernel) (by decide +kernel)) (by decide)
    refine ⟨by show 1 ≤ sizeLine; decide, fun t5 ft5 => ?_⟩
    have i5 : DtAll (out q G5) [.int 0] [.int 0] [(toString (0 : Int) : String)] 0 := (DtAll.cons (((Dt.int (by decide +kernel)) : Dt N0 (.int 0) (.int 0) _ 0).same (s0 _)) DtAll.nil)
    have s_ := same_new (o := .lst [.int 0]) ft5
    have so_ := out_same (q := q) s_
    have nt5 : ¬ q t5 := out_ne ft5 (same_some sm hq)
    have e5 : (upd G5 t5 (.lst [.int 0])) t5 = some (.lst [.int 0]) := upd_same
    have h17 := h17.same so_
    have h18 := h18.same so_
    have h19 := h19.same so_
    have h20 := h20.same so_
    have sm := sm.trans s_
    have ea := s_ _ _ ea
    have d5 : Dt (out q (upd G5 t5 (.lst [.int 0]))) (.ref t5) (.list [.int 0]) (listText [(toString (0 : Int) : String)]) 1 := Dt.list (out_at e5 nt5) (List.cons_ne_nil _ _) i5 so_ (out_none ft5)
    generalize upd G5 t5 (.lst [.int 0]) = G6 at s_ so_ sm e5 d5 h17 h18 h19 h20 ea ⊢
    have h21 : Thg (out q G6) (.ref t5) .lst (listText [(toString (0 : Int) : String)]) 4 := Thg.mono (Thg.lst (out_at e5 nt5) d5 (by decide +kernel) (by decide +kernel)) (by decide)
    refine ⟨by show 1 ≤ sizeLine; decide, fun t6 ft6 => ?_⟩
    have i6 : DtAll (out q G6) [.str "a"] [.str "a"] [(reprText "a")] 0 := (DtAll.cons (((Dt.str "a") : Dt N0 (.str "a") (.str "a") _ 0).same (s0 _)) DtAll.nil)
    have s_ := same_new (o := .lst [.str "a"]) ft6
    have so_ := out_same (q := q) s_
    have nt6 : ¬ q t6 := out_ne ft6 (same_some sm hq)
    have e6 : (upd G6 t6 (.lst [.str "a"])) t6 = some (.lst [.str "a"]) := upd_same
    have h17 := h17.same so_
    have h18 := h18.same so_
    have h19 := h19.same so_
    have h20 := h20.same so_
    have h21 := h21.same so_
    have sm := sm.trans s_
    have ea := s_ _ _ ea
    have d6 : Dt (out q (upd G6 t6 (.lst [.str "a"]))) (.ref t6) (.list [.str "a"]) (listText [(reprText "a")]) 1 := Dt.list (out_at e6 nt6) (List.cons_ne_nil _ _) i6 so_ (out_none ft6)
    generalize upd G6 t6 (.lst [.str "a"]) = G7 at s_ so_ sm e6 d6 h17 h18 h19 h20 h21 ea ⊢
    have h22 : Thg (out q G7) (.ref t6) .lst (listText [(reprText "a")]) 4 := Thg.mono (Thg.lst (out_at e6 nt6) d6 (by decide +kernel) (by decide +kernel)) (by decide)
    refine ⟨by show 0 ≤ sizeLine; decide, fun t7 ft7 => ?_⟩
    have i7 : DtAll (out q G7) [] [] [] 0 := DtAll.nil
    have s_ := same_new (o := .lst []) ft7
    have so_ := out_same (q := q) s_
    have nt7 : ¬ q t7 := out_ne ft7 (same_some sm hq)
    have e7 : (upd G7 t7 (.lst [])) t7 = some (.lst []) := upd_same
    have h17 := h17.same so_
    have h18 := h18.same so_
    have h19 := h19.same so_
    have h20 := h20.same so_
    have h21 := h21.same so_
    have h22 := h22.same so_
    have sm := sm.trans s_
    have ea := s_ _ _ ea
    have d7 : Dt (out q (upd G7 t7 (.lst []))) (.ref t7) (.list []) "[]" 1 := Dt.list0 (out_at e7 nt7)
    generalize upd G7 t7 (.lst []) = G8 at s_ so_ sm e7 d7 h17 h18 h19 h20 h21 h22 ea ⊢
    refine ⟨by show 1 ≤ sizeLine; decide, fun t8 ft8 => ?_⟩
    have i8 : DtAll (out q G8) [.ref t7] [.list []] ["[]"] 1 := (DtAll.cons d7 DtAll.nil)
    have s_ := same_new (o := .lst [.ref t7]) ft8
    have so_ := out_same (q := q) s_
    have nt8 : ¬ q t8 := out_ne ft8 (same_some sm hq)
    have e8 : (upd G8 t8 (.lst [.ref t7])) t8 = some (.lst [.ref t7]) := upd_same
    have h17 := h17.same so_
    have h18 := h18.same so_
    have h19 := h19.same so_
    have h20 := h20.same so_
    have h21 := h21.same so_
    have h22 := h22.same so_
    have sm := sm.trans s_
    have ea := s_ _ _ ea
    have d8 : Dt (out q (upd G8 t8 (.lst [.ref t7]))) (.ref t8) (.list [.list []]) (listText ["[]"]) 2 := Dt.list (out_at e8 nt8) (List.cons_ne_nil _ _) i8 so_ (out_none ft8)
    generalize upd G8 t8 (.lst [.ref t7]) = G9 at s_ so_ sm e8 d8 h17 h18 h19 h20 h21 h22 ea ⊢
    have h23 : Thg (out q G9) (.ref t8) .lst (listText ["[]"]) 4 := Thg.mono (Thg.lst (out_at e8 nt8) d8 (by decide +kernel) (by decide +kernel)) (by decide)
    intro t9 ft9
    have s_ := same_new (o := .dK []) ft9
    have so_ := out_same (q := q) s_
    have nt9 : ¬ q t9 := out_ne ft9 (same_some sm hq)
    have e9 : (upd G9 t9 (.dK [])) t9 = some (.dK []) := upd_same
    have h17 := h17.same so_
    have h18 := h18.same so_
    have h19 := h19.same so_
    have h20 := h20.same so_
    have h21 := h21.same so_
    have h22 := h22.same so_
    have h23 := h23.same so_
    have sm := sm.trans s_
    have ea := s_ _ _ ea
    generalize upd G9 t9 (.dK []) = G10 at s_ so_ sm e9 h17 h18 h19 h20 h21 h22 h23 ea ⊢
    have h24 : Thg (out q G10) (.ref t9) .dct (dictText ([] : List Str)) 4 := Thg.dct (n := 3) (out_at e9 nt9) (fun X outs H1 => .nil) (by decide +kernel)
    intro t10 ft10
    have z10 : (upd G10 t10 (.dK [])) t10 = some (.dK []) := upd_same
    refine ⟨z10, ([((Sum.inr "a" : Key), V.int 1)] : List (Key × V)), rfl, by show 1 ≤ _; decide, ?_⟩
    have m10 : mergeK [] ([((Sum.inr "a" : Key), V.int 1)] : List (Key × V)) = [((Sum.inr "a" : Key), V.int 1)] := by rfl
    rw [m10]
    have s_ : Same G10 (upd (upd G10 t10 (.dK [])) t10 (.dK [((Sum.inr "a" : Key), V.int 1)])) := fun b o e => by rw [upd_ne (ne_of_none e ft10), upd_ne (ne_of_none e ft10)]; exact e
    have so_ := out_same (q := q) s_
    have nt10 : ¬ q t10 := out_ne ft10 (same_some sm hq)
    have e10 : (upd (upd G10 t10 (.dK [])) t10 (.dK [((Sum.inr "a" : Key), V.int 1)])) t10 = some (.dK [((Sum.inr "a" : Key), V.int 1)]) := upd_same
    have h17 := h17.same so_
    have h18 := h18.same so_
    have h19 := h19.same so_
    have h20 := h20.same so_
    have h21 := h21.same so_
    have h22 := h22.same so_
    have h23 := h23.same so_
    have h24 := h24.same so_
    have sm := sm.trans s_
    have ea := s_ _ _ ea
    generalize upd (upd G10 t10 (.dK [])) t10 (.dK [((Sum.inr "a" : Key), V.int 1)]) = G11 at s_ so_ sm e10 h17 h18 h19 h20 h21 h22 h23 h24 ea ⊢
    have h25 : Thg (out q G11) (.ref t10) .dct (dictText ([(reprText "a") ++ ": " ++ (toString (1 : Int) : String)] : List Str)) 4 := Thg.dct (n := 3) (out_at e10 nt10) (fun X outs H1 => (.cons .str (.int (by decide +kernel)) .nil)) (by decide +kernel)
    intro t11 ft11
    have z11 : (upd G11 t11 (.dK [])) t11 = some (.dK []) := upd_same
    refine ⟨z11, ([((Sum.inl 0 : Key), V.str "a")] : List (Key × V)), rfl, by show 1 ≤ _; decide, ?_⟩
    have m11 : mergeK [] ([((Sum.inl 0 : Key), V.str "a")] : List (Key × V)) = [((Sum.inl 0 : Key), V.str "a")] := by rfl
    rw [m11]
    have s_ : Same G11 (upd (upd G11 t11 (.dK [])) t11 (.dK [((Sum.inl 0 : Key), V.str "a")])) := fun b o e => by rw [upd_ne (ne_of_none e ft11), upd_ne (ne_of_none e ft11)]; exact e
    have so_ := out_same (q := q) s_
    have nt11 : ¬ q t11 := out_ne ft11 (same_some sm hq)
    have e11 : (upd (upd G11 t11 (.dK [])) t11 (.dK [((Sum.inl 0 : Key), V.str "a")])) t11 = some (.dK [((Sum.inl 0 : Key), V.str "a")]) := upd_same
    have h17 := h17.same so_
    have h18 := h18.same so_
    have h19 := h19.same so_
    have h20 := h20.same so_
    have h21 := h21.same so_
    have h22 := h22.same so_
    have h23 := h23.same so_
    have h24 := h24.same so_
    have h25 := h25.same so_
    have sm := sm.trans s_
    have ea := s_ _ _ ea
    generalize upd (upd G11 t11 (.dK [])) t11 (.dK [((Sum.inl 0 : Key), V.str "a")]) = G12 at s_ so_ sm e11 h17 h18 h19 h20 h21 h22 h23 h24 h25 ea ⊢
    have h26 : Thg (out q G12) (.ref t11) .dct (dictText ([(toString (0 : Int) : String) ++ ": " ++ (reprText "a")] : List Str)) 4 := Thg.dct (n := 3) (out_at e11 nt11) (fun X outs H1 => (.cons (.int (by decide +kernel)) .str .nil)) (by decide +kernel)
    refine ⟨by show 1 ≤ sizeLine; decide, fun t12 ft12 => ?_⟩
    have i12 : DtAll (out q G12) [.str "a"] [.str "a"] [(reprText "a")] 0 := (DtAll.cons (((Dt.str "a") : Dt N0 (.str "a") (.str "a") _ 0).same (s0 _)) DtAll.nil)
    have s_ := same_new (o := .tup [.str "a"]) ft12
    have so_ := out_same (q := q) s_
    have nt12 : ¬ q t12 := out_ne ft12 (same_some sm hq)
    have e12 : (upd G12 t12 (.tup [.str "a"])) t12 = some (.tup [.str "a"]) := upd_same
    have h17 := h17.same so_
    have h18 := h18.same so_
    have h19 := h19.same so_
    have h20 := h20.same so_
    have h21 := h21.same so_
    have h22 := h22.same so_
    have h23 := h23.same so_
    have h24 := h24.same so_
    have h25 := h25.same so_
    have h26 := h26.same so_
    have sm := sm.trans s_
    have ea := s_ _ _ ea
    have d12 : Dt (out q (upd G12 t12 (.tup [.str "a"]))) (.ref t12) (.tuple [.str "a"]) (tupleText [(reprText "a")]) 1 := Dt.tup (out_at e12 nt12) i12 so_ (out_none ft12)
    generalize upd G12 t12 (.tup [.str "a"]) = G13 at s_ so_ sm e12 d12 h17 h18 h19 h20 h21 h22 h23 h24 h25 h26 ea ⊢
    have h27 : Thg (out q G13) (.ref t12) .tup (tupleText [(reprText "a")]) 4 := Thg.mono (Thg.tup (out_at e12 nt12) d12 (by decide +kernel) (by decide +kernel)) (by decide)
    refine ⟨by show 2 ≤ sizeLine; decide, fun t13 ft13 => ?_⟩
    have i13 : DtAll (out q G13) [.str "1", .str "f"] [.str "1", .str "f"] [(reprText "1"), (reprText "f")] 0 := (DtAll.cons (((Dt.str "1") : Dt N0 (.str "1") (.str "1") _ 0).same (s0 _)) (DtAll.cons (((Dt.str "f") : Dt N0 (.str "f") (.str "f") _ 0).same (s0 _)) DtAll.nil))
    have s_ := same_new (o := .tup [.str "1", .str "f"]) ft13
    have so_ := out_same (q := q) s_
    have nt13 : ¬ q t13 := out_ne ft13 (same_some sm hq)
    have e13 : (upd G13 t13 (.tup [.str "1", .str "f"])) t13 = some (.tup [.str "1", .str "f"]) := upd_same
    have h17 := h17.same so_
    have h18 := h18.same so_
    have h19 := h19.same so_
    have h20 := h20.same so_
    have h21 := h21.same so_
    have h22 := h22.same so_
    have h23 := h23.same so_
    have h24 := h24.same so_
    have h25 := h25.same so_
    have h26 := h26.same so_
    have h27 := h27.same so_
    have sm := sm.trans s_
    have ea := s_ _ _ ea
    have d13 : Dt (out q (upd G13 t13 (.tup [.str "1", .str "f"]))) (.ref t13) (.tuple [.str "1", .str "f"]) (tupleText [(reprText "1"), (reprText "f")]) 1 := Dt.tup (out_at e13 nt13) i13 so_ (out_none ft13)
    generalize upd G13 t13 (.tup [.str "1", .str "f"]) = G14 at s_ so_ sm e13 d13 h17 h18 h19 h20 h21 h22 h23 h24 h25 h26 h27 ea ⊢
    have h28 : Thg (out q G14) (.ref t13) .tup (tupleText [(reprText "1"), (reprText "f")]) 4 := Thg.mono (Thg.tup (out_at e13 nt13) d13 (by decide +kernel) (by decide +kernel)) (by decide)
    refine ⟨by show 2 ≤ sizeLine; decide, fun t14 ft14 => ?_⟩
    have i14 : DtAll (out q G14) [.non, .bl true] [.none, .bool true] ["None", "True"] 0 := (DtAll.cons ((Dt.non : Dt N0 (.non) (.none) _ 0).same (s0 _)) (DtAll.cons ((Dt.bl true : Dt N0 (.bl true) (.bool true) _ 0).same (s0 _)) DtAll.nil))
    have s_ := same_new (o := .tup [.non, .bl true]) ft14
    have so_ := out_same (q := q) s_
    have nt14 : ¬ q t14 := out_ne ft14 (same_some sm hq)
    have e14 : (upd G14 t14 (.tup [.non, .bl true])) t14 = some (.tup [.non, .bl true]) := upd_same
    have h17 := h17.same so_
    have h18 := h18.same so_
    have h19 := h19.same so_
    have h20 := h20.same so_
    have h21 := h21.same so_
    have h22 := h22.same so_
    have h23 := h23.same so_
    have h24 := h24.same so_
    have h25 := h25.same so_
    have h26 := h26.same so_
    have h27 := h27.same so_
    have h28 := h28.same so_
    have sm := sm.trans s_
    have ea := s_ _ _ ea
    have d14 : Dt (out q (upd G14 t14 (.tup [.non, .bl true]))) (.ref t14) (.tuple [.none, .bool true]) (tupleText ["None", "True"]) 1 := Dt.tup (out_at e14 nt14) i14 so_ (out_none ft14)
    generalize upd G14 t14 (.tup [.non, .bl true]) = G15 at s_ so_ sm e14 d14 h17 h18 h19 h20 h21 h22 h23 h24 h25 h26 h27 h28 ea ⊢
    have h29 : Thg (out q G15) (.ref t14) .tup (tupleText ["None", "True"]) 4 := Thg.mono (Thg.tup (out_at e14 nt14) d14 (by decide +kernel) (by decide +kernel)) (by decide)
    refine ⟨by show 1 ≤ sizeLine; decide, fun t15 ft15 => ?_⟩
    have i15 : DtAll (out q G15) [.str "a"] [.str "a"] [(reprText "a")] 0 := (DtAll.cons (((Dt.str "a") : Dt N0 (.str "a") (.str "a") _ 0).same (s0 _)) DtAll.nil)
    have s_ := same_new (o := .tup [.str "a"]) ft15
    have so_ := out_same (q := q) s_
    have nt15 : ¬ q t15 := out_ne ft15 (same_some sm hq)
    have e15 : (upd G15 t15 (.tup [.str "a"])) t15 = some (.tup [.str "a"]) := upd_same
    have h17 := h17.same so_
    have h18 := h18.same so_
    have h19 := h19.same so_
    have h20 := h20.same so_
    have h21 := h21.same so_
    have h22 := h22.same so_
    have h23 := h23.same so_
    have h24 := h24.same so_
    have h25 := h25.same so_
    have h26 := h26.same so_
    have h27 := h27.same so_
    have h28 := h28.same so_
    have h29 := h29.same so_
    have sm := sm.trans s_
    have ea := s_ _ _ ea
    have d15 : Dt (out q (upd G15 t15 (.tup [.str "a"]))) (.ref t15) (.tuple [.str "a"]) (tupleText [(reprText "a")]) 1 := Dt.tup (out_at e15 nt15) i15 so_ (out_none ft15)
    generalize upd G15 t15 (.tup [.str "a"]) = G16 at s_ so_ sm e15 d15 h17 h18 h19 h20 h21 h22 h23 h24 h25 h26 h27 h28 h29 ea ⊢
    refine ⟨by show 1 ≤ sizeLine; decide, fun t16 ft16 => ?_⟩
    have i16 : DtAll (out q G16) [.ref t15] [.tuple [.str "a"]] [(tupleText [(reprText "a")])] 1 := (DtAll.cons d15 DtAll.nil)
    have s_ := same_new (o := .tup [.ref t15]) ft16
    have so_ := out_same (q := q) s_
    have nt16 : ¬ q t16 := out_ne ft16 (same_some sm hq)
    have e16 : (upd G16 t16 (.tup [.ref t15])) t16 = some (.tup [.ref t15]) := upd_same
    have h17 := h17.same so_
    have h18 := h18.same so_
    have h19 := h19.same so_
    have h20 := h20.same so_
    have h21 := h21.same so_
    have h22 := h22.same so_
    have h23 := h23.same so_
    have h24 := h24.same so_
    have h25 := h25.same so_
    have h26 := h26.same so_
    have h27 := h27.same so_
    have h28 := h28.same so_
    have h29 := h29.same so_
    have sm := sm.trans s_
    have ea := s_ _ _ ea
    have d16 : Dt (out q (upd G16 t16 (.tup [.ref t15]))) (.ref t16) (.tuple [.tuple [.str "a"]]) (tupleText [(tupleText [(reprText "a")])]) 2 := Dt.tup (out_at e16 nt16) i16 so_ (out_none ft16)
    generalize upd G16 t16 (.tup [.ref t15]) = G17 at s_ so_ sm e16 d16 h17 h18 h19 h20 h21 h22 h23 h24 h25 h26 h27 h28 h29 ea ⊢
    refine ⟨by show 1 ≤ sizeLine; decide, fun t17 ft17 => ?_⟩
    have i17 : DtAll (out q G17) [.ref t16] [.tuple [.tuple [.str "a"]]] [(tupleText [(tupleText [(reprText "a")])])] 2 := (DtAll.cons d16 DtAll.nil)
    have s_ := same_new (o := .lst [.ref t16]) ft17
    have so_ := out_same (q := q) s_
    have nt17 : ¬ q t17 := out_ne ft17 (same_some sm hq)
    have e17 : (upd G17 t17 (.lst [.ref t16])) t17 = some (.lst [.ref t16]) := upd_same
    have h17 := h17.same so_
    have h18 := h18.same so_
    have h19 := h19.same so_
    have h20 := h20.same so_
    have h21 := h21.same so_
    have h22 := h22.same so_
    have h23 := h23.same so_
    have h24 := h24.same so_
    have h25 := h25.same so_
    have h26 := h26.same so_
    have h27 := h27.same so_
    have h28 := h28.same so_
    have h29 := h29.same so_
    have sm := sm.trans s_
    have ea := s_ _ _ ea
    have d17 : Dt (out q (upd G17 t17 (.lst [.ref t16]))) (.ref t17) (.list [.tuple [.tuple [.str "a"]]]) (listText [(tupleText [(tupleText [(reprText "a")])])]) 3 := Dt.list (out_at e17 nt17) (List.cons_ne_nil _ _) i17 so_ (out_none ft17)
    generalize upd G17 t17 (.lst [.ref t16]) = G18 at s_ so_ sm e17 d17 h17 h18 h19 h20 h21 h22 h23 h24 h25 h26 h27 h28 h29 ea ⊢
    have h30 : Thg (out q G18) (.ref t17) .lst (listText [(tupleText [(tupleText [(reprText "a")])])]) 4 := Thg.mono (Thg.lst (out_at e17 nt17) d17 (by decide +kernel) (by decide +kernel)) (by decide)
    refine ⟨by show 11 ≤ sizeLine; decide, fun pb fpb => ?_⟩
    have s_ := same_new (o := .lst [.ref t4, .ref t5, .ref t6, .ref t8, .ref t9, .ref t10, .ref t11, .ref t12, .ref t13, .ref t14, .ref t17]) fpb
    have so_ := out_same (q := q) s_
    have eb2 : (upd G18 pb (.lst [.ref t4, .ref t5, .ref t6, .ref t8, .ref t9, .ref t10, .ref t11, .ref t12, .ref t13, .ref t14, .ref t17])) pb = some (.lst [.ref t4, .ref t5, .ref t6, .ref t8, .ref t9, .ref t10, .ref t11, .ref t12, .ref t13, .ref t14, .ref t17]) := upd_same
    have h17 := h17.same so_
    have h18 := h18.same so_
    have h19 := h19.same so_
    have h20 := h20.same so_
    have h21 := h21.same so_
    have h22 := h22.same so_
    have h23 := h23.same so_
    have h24 := h24.same so_
    have h25 := h25.same so_
    have h26 := h26.same so_
    have h27 := h27.same so_
    have h28 := h28.same so_
    have h29 := h29.same so_
    have h30 := h30.same so_
    have sm := sm.trans s_
    have ea := s_ _ _ ea
    generalize upd G18 pb (.lst [.ref t4, .ref t5, .ref t6, .ref t8, .ref t9, .ref t10, .ref t11, .ref t12, .ref t13, .ref t14, .ref t17]) = G19 at s_ so_ sm eb2 h17 h18 h19 h20 h21 h22 h23 h24 h25 h26 h27 h28 h29 h30 ea ⊢
    refine ⟨pa, pb, _, _, rfl, rfl, ea, eb2, by show 31 ≤ sizeLine; decide, fun pc fpc => ?_⟩
    have s_ := same_new (o := .lst ([.non, .bl true, .bl false, .int 0, .int 1, .int (-1), .int 7, .int 31, .int 128, .int (1000000000000000000000000000000 - 1), .str "", .str "a", .str "0", .str "1f", .str " ", .str "A", .str "\n", .ref t1, .ref t2, .ref t3] ++ [.ref t4, .ref t5, .ref t6, .ref t8, .ref t9, .ref t10, .ref t11, .ref t12, .ref t13, .ref t14, .ref t17])) fpc
    have so_ := out_same (q := q) s_
    have h17 := h17.same so_
    have h18 := h18.same so_
    have h19 := h19.same so_
    have h20 := h20.same so_
    have h21 := h21.same so_
    have h22 := h22.same so_
    have h23 := h23.same so_
    have h24 := h24.same so_
    have h25 := h25.same so_
    have h26 := h26.same so_
    have h27 := h27.same so_
    have h28 := h28.same so_
    have h29 := h29.same so_
    have h30 := h30.same so_
    refine hQ pc _ _ (sm.trans s_) (none_up sm fpc) upd_same ?_
    refine .cons (Thg.same (Thg.non) (s0 _)) ?_
    refine .cons (Thg.same (Thg.bl true) (s0 _)) ?_
    refine .cons (Thg.same (Thg.bl false) (s0 _)) ?_
    refine .cons (Thg.same (Thg.int (i := 0) (by decide +kernel) (by decide +kernel)) (s0 _)) ?_
    refine .cons (Thg.same (Thg.int (i := 1) (by decide +kernel) (by decide +kernel)) (s0 _)) ?_
    refine .cons (Thg.same (Thg.int (i := -1) (by decide +kernel) (by decide +kernel)) (s0 _)) ?_
    refine .cons (Thg.same (Thg.int (i := 7) (by decide +kernel) (by decide +kernel)) (s0 _)) ?_
    refine .cons (Thg.same (Thg.int (i := 31) (by decide +kernel) (by decide +kernel)) (s0 _)) ?_
    refine .cons (Thg.same (Thg.int (i := 128) (by decide +kernel) (by decide +kernel)) (s0 _)) ?_
    refine .cons (Thg.same (Thg.int (i := (1000000000000000000000000000000 - 1)) (by decide +kernel) (by decide +kernel)) (s0 _)) ?_
    refine .cons (Thg.same (Thg.str "" (by decide +kernel) (by decide +kernel)) (s0 _)) ?_
    refine .cons (Thg.same (Thg.str "a" (by decide +kernel) (by decide +kernel)) (s0 _)) ?_
    refine .cons (Thg.same (Thg.str "0" (by decide +kernel) (by decide +kernel)) (s0 _)) ?_
    refine .cons (Thg.same (Thg.str "1f" (by decide +kernel) (by decide +kernel)) (s0 _)) ?_
    refine .cons (Thg.same (Thg.str " " (by decide +kernel) (by decide +kernel)) (s0 _)) ?_
    refine .cons (Thg.same (Thg.str "A" (by decide +kernel) (by decide +kernel)) (s0 _)) ?_
    refine .cons (Thg.same (Thg.str "\n" (by decide +kernel) (by decide +kernel)) (s0 _)) ?_
    refine .cons h17 ?_
    refine .cons h18 ?_
    refine .cons h19 ?_
    refine .cons h20 ?_
    refine .cons h21 ?_
    refine .cons h22 ?_
    refine .cons h23 ?_
    refine .cons h24 ?_
    refine .cons h25 ?_
    refine .cons h26 ?_
    refine .cons h27 ?_
    refine .cons h28 ?_
    refine .cons h29 ?_
    refine .cons h30 ?_
    exact .nil
end
end K09
set_option Elab.async false
set_option linter.all false
set_option maxRecDepth 100000
set_option maxHeartbeats 4000000
/-! NM: the names that a law draws: words by a base, a place, a spot and a way. -/
namespace NM
open PySem PySem.Spec
def ok (l : List Nat) : Prop := 1 ≤ l.length ∧ l.length ≤ 8 ∧ ∀ c ∈ l, 97 ≤ c ∧ c ≤ 122
def words : List (List Nat) := [[108, 97, 116, 101], [105, 110], [111, 117, 116], [114, 105, 100, 101], [104, 97, 110, 100], [108, 97, 99, 107], [121, 101, 115], [110, 111], [110, 97, 109, 101, 115], [103, 111, 110, 101], [116, 101, 120, 116], [112, 108, 97, 110], [117, 110, 100, 111], [117, 115, 117, 97, 108], [98, 97, 99, 107], [108, 101, 97, 118, 101]]
def lets : List Nat := (List.range 26).map (97 + ·)
def w0 (bs : List Nat) (at_ spot k : Nat) : List Nat := bs.take at_ ++ [97 + (spot + 5 * k) % 26] ++ bs.drop (at_ + 1)
def w1 (bs : List Nat) (at_ spot k : Nat) : List Nat := (w0 bs at_ spot k).take (bs.length - k % (bs.length - at_))
def w2 (spot k : Nat) : List Nat := (List.replicate 8 (97 + (spot + k / 8) % 26)).take (k % 8 + 1)
def w3 (spot k : Nat) : List Nat := words.getD ((spot + k) % 16) []
def word (bs : List Nat) (at_ spot way k : Nat) : List Nat := if way = 1 then w1 bs at_ spot k else if way = 2 then w2 spot k else if way = 3 then w3 spot k else w0 bs at_ spot k
theorem words_ok : ∀ i, i < 16 → ok (words.getD i []) := by
  have : ∀ i : Fin 16, 1 ≤ (words.getD i.1 []).length ∧ (words.getD i.1 []).length ≤ 8 ∧ (words.getD i.1 []).all (fun c => decide (97 ≤ c ∧ c ≤ 122)) = true := by decide +kernel
  intro i hi
  obtain ⟨h1, h2, h3⟩ := this ⟨i, hi⟩
  refine ⟨h1, h2, fun c hc => ?_⟩
  have := List.all_eq_true.mp h3 c hc
  exact of_decide_eq_true this
theorem words_inj : ∀ i j, i < 16 → j < 16 → words.getD i [] = words.getD j [] → i = j := by
  have : ∀ i j : Fin 16, words.getD i.1 [] = words.getD j.1 [] → i = j := by decide +kernel
  intro i j hi hj e
  exact congrArg Fin.val (this ⟨i, hi⟩ ⟨j, hj⟩ e)
section
variable {bs : List Nat} {at_ spot k : Nat}
theorem w0_len (h : at_ < bs.length) : (w0 bs at_ spot k).length = bs.length := by
  unfold w0
  simp only [List.length_append, List.length_take, List.length_drop, List.length_cons, List.length_nil]
  omega
theorem w0_at (h : at_ < bs.length) : (w0 bs at_ spot k)[at_]? = some (97 + (spot + 5 * k) % 26) := by
  unfold w0
  rw [List.append_assoc, List.getElem?_append_right (by rw [List.length_take]; omega), List.length_take, Nat.min_eq_left (by omega), Nat.sub_self]
  rfl
theorem w0_mem (hb : ∀ c ∈ bs, 97 ≤ c ∧ c ≤ 122) : ∀ c ∈ w0 bs at_ spot k, 97 ≤ c ∧ c ≤ 122 := by
  intro c hc
  unfold w0 at hc
  rcases List.mem_append.mp hc with hc | hc
  · rcases List.mem_append.mp hc with hc | hc
    · exact hb c (List.mem_of_mem_take hc)
    · rw [List.mem_singleton] at hc
      omega
  · exact hb c (List.mem_of_mem_drop hc)
theorem w1_len (h : at_ < bs.length) : at_ + 1 ≤ (w1 bs at_ spot k).length ∧ (w1 bs at_ spot k).length ≤ bs.length := by
  unfold w1
  rw [List.length_take, w0_len h]
  have := Nat.mod_lt k (show 0 < bs.length - at_ by omega)
  omega
theorem w1_at (h : at_ < bs.length) : (w1 bs at_ spot k)[at_]? = some (97 + (spot + 5 * k) % 26) := by
  have h1 := (w1_len (spot := spot) (k := k) h).1
  unfold w1 at h1 ⊢
  rw [List.length_take, w0_len h] at h1
  rw [List.getElem?_take_of_lt (by omega)]
  exact w0_at h
theorem spot_inj {i j : Nat} (hi : i < 16) (hj : j < 16) (e : 97 + (spot + 5 * i) % 26 = 97 + (spot + 5 * j) % 26) : i = j := by omega
theorem word_ok (hb0 : 1 ≤ bs.length) (hb8 : bs.length ≤ 8) (hb : ∀ c ∈ bs, 97 ≤ c ∧ c ≤ 122) (h : at_ < bs.length) (way : Nat) : ok (word bs at_ spot way k) := by
  unfold word
  split
  · have := w1_len (spot := spot) (k := k) h
    exact ⟨by omega, by omega, fun c hc => w0_mem hb c (List.mem_of_mem_take hc)⟩
  split
  · unfold w2
    refine ⟨by rw [List.length_take, List.length_replicate]; omega, by rw [List.length_take, List.length_replicate]; omega, fun c hc => ?_⟩
    have := List.eq_of_mem_replicate (List.mem_of_mem_take hc)
    omega
  split
  · exact words_ok _ (Nat.mod_lt _ (by decide))
  · exact ⟨by rw [w0_len h]; exact hb0, by rw [w0_len h]; exact hb8, w0_mem hb⟩
theorem word_inj (h : at_ < bs.length) (way : Nat) {i j : Nat} (hi : i < 16) (hj : j < 16) (e : word bs at_ spot way i = word bs at_ spot way j) : i = j := by
  unfold word at e
  split at e
  · have h1 := w1_at (spot := spot) (k := i) h
    rw [e, w1_at h] at h1
    exact (spot_inj hj hi (Option.some.inj h1)).symm
  split at e
  · unfold w2 at e
    have hl := congrArg List.length e
    rw [List.length_take, List.length_take, List.length_replicate, List.length_replicate] at hl
    have h0 : ((List.replicate 8 (97 + (spot + i / 8) % 26)).take (i % 8 + 1))[0]? = ((List.replicate 8 (97 + (spot + j / 8) % 26)).take (j % 8 + 1))[0]? := by rw [e]
    rw [List.getElem?_take_of_lt (by omega), List.getElem?_take_of_lt (by omega), List.getElem?_replicate, List.getElem?_replicate, if_pos (by decide), if_pos (by decide)] at h0
    have := Option.some.inj h0
    omega
  split at e
  · have := words_inj _ _ (Nat.mod_lt _ (by decide)) (Nat.mod_lt _ (by decide)) e
    omega
  · have h1 := w0_at (spot := spot) (k := i) h
    rw [e, w0_at h] at h1
    exact (spot_inj hj hi (Option.some.inj h1)).symm
/-- as many as are asked: unlike ones -/
theorem all_unlike (h : at_ < bs.length) (way n : Nat) (hn : n ≤ 16) : ((List.range n).map (word bs at_ spot way)).Pairwise (· ≠ ·) := by
  rw [List.pairwise_map]
  refine (List.pairwise_lt_range (n := n)).imp_of_mem fun {a b} ha hb hlt e => ?_
  have := word_inj h way (by have := List.mem_range.mp ha; omega) (by have := List.mem_range.mp hb; omega) e
  omega
end
end NM
set_option Elab.async false
set_option linter.all false
set_option maxRecDepth 100000
set_option maxHeartbeats 4000000
namespace K09
open PySem PySem.Spec PyProof.Rows L2
open C8 (Cal Mak Met pe_c pe_mk pe_mt pe_mt0)
open THI
open SX (S)
section
variable {P : Program} {w : World} {K : PySem.W.Frag} {mg : Str → Option Value} {base : Heap} {f C : Addr} {fd : FuncData}
/-- a whole number from lo to hi -/
def wi (k : Kn) (lo hi : Int) : Bool := match k with
  | .whole i => decide (lo ≤ i ∧ i ≤ hi)
  | _ => false
def spWhole : Sp := fun vs H Q _ => ∃ (x : V) (k : Kn) (t : Str), vs = [x] ∧ Thg H x k t 4 ∧ Q (.bl (k.isInt && !k.isFlag)) H
theorem ok_whole (F : Dn K d_is_whole f fd) (b : Bl mg) : FnOk P w K mg base CX0 1 f fd ["thing"] spWhole := by
  refine F.ok sc_is_whole (fun vs H Q E h => ?_) (fun cdv A outer s H vs Q E hr h => ?_)
  · obtain ⟨x, k, t, rfl, _⟩ := h
    rfl
  · obtain ⟨x, k, t, rfl, th, hQ⟩ := h
    refine ⟨_, PSs.nox (pss_one (ps_ret (pe_and
      (pe_callB call_isi rfl b.isi boot_isinstance (pa_cons (pv 0) (pa_cons (pe_bltn (v := .ty "int") rfl b.int boot_int rfl) pa_nil)))
      (pe_one (pe_not (pe_callB call_isi rfl b.isi boot_isinstance (pa_cons (pv 0) (pa_cons (pe_bltn (v := .ty "bool") rfl b.bool boot_bool rfl) pa_nil)))))))), ?_⟩
    obtain ⟨ty, tx, e1, e2⟩ := th.ty K H (Same.refl H)
    refine ⟨_, rfl, _, _, _, _, k.isInt, rfl, ClsV.ty _, tx, e1, k.isInt, rfl, ?_⟩
    cases hk : k.isInt with
    | false =>
      rw [hk] at hQ
      exact iteF hQ
    | true =>
      rw [hk] at hQ
      refine iteT ?_
      exact ⟨_, rfl, _, _, _, _, k.isFlag, rfl, ClsV.ty _, tx, e2, k.isFlag, rfl, hQ⟩
abbrev CalW (P : Program) (w : World) (K : PySem.W.Frag) (mg : Str → Option Value) (base : Heap) : Prop := Cal P w K mg base 1 "is_whole" spWhole []
def spBetween : Sp := fun vs H Q _ => ∃ (x : V) (k : Kn) (t : Str) (lo hi : Int), vs = [x, .int lo, .int hi] ∧ Thg H x k t 4 ∧ Q (.bl (wi k lo hi)) H
theorem ok_between (F : Dn K d_is_between f fd) (cW : CalW P w K mg base) : FnOk P w K mg base CX0 2 f fd ["thing", "low", "high"] spBetween := by
  refine F.ok sc_is_between (fun vs H Q E h => ?_) (fun cdv A outer s H vs Q E hr h => ?_)
  · obtain ⟨x, k, t, lo, hi, rfl, _⟩ := h
    rfl
  · obtain ⟨x, k, t, lo, hi, rfl, th, hQ⟩ := h
    refine ⟨_, PSs.nox (pss_one (ps_ret (pe_and (pe_c cW hr (by decide) rfl (pa_cons (pv 0) pa_nil)) (pe_one (pe_chain op_le op_le (pv 1) (pv 0) (pv 2)))))), ?_⟩
    refine ⟨_, rfl, x, k, t, rfl, th, _, rfl, ?_⟩
    cases hk : k with
    | text z =>
      rw [hk] at hQ
      exact iteF hQ
    | non =>
      rw [hk] at hQ
      exact iteF hQ
    | lst =>
      rw [hk] at hQ
      exact iteF hQ
    | tup =>
      rw [hk] at hQ
      exact iteF hQ
    | dct =>
      rw [hk] at hQ
      exact iteF hQ
    | flag c =>
      rw [hk] at hQ
      exact iteF hQ
    | whole n =>
      rw [hk] at hQ
      obtain rfl := th.val n hk
      refine iteT ?_
      refine ⟨_, rfl, _, rfl, _, _, rfl, rfl, _, rfl, ?_⟩
      have hQ : Q (.bl (decide (lo ≤ n ∧ n ≤ hi))) H := hQ
      refine ite2 (fun h1 => ?_) (fun h1 => ?_)
      · have h1' : lo ≤ n := of_decide_eq_true h1
        refine ⟨_, rfl, _, _, rfl, rfl, ?_⟩
        have e : decide (n ≤ hi) = decide (lo ≤ n ∧ n ≤ hi) := decide_eq_decide.mpr ⟨fun z => ⟨h1', z⟩, fun z => z.2⟩
        show Q (.bl (decide (n ≤ hi))) H
        rw [e]
        exact hQ
      · have h1' : ¬ lo ≤ n := fun z => h1 (decide_eq_true z)
        have e : decide (lo ≤ n ∧ n ≤ hi) = false := decide_eq_false fun z => h1' z.1
        rw [e] at hQ
        exact hQ
abbrev CalB (P : Program) (w : World) (K : PySem.W.Frag) (mg : Str → Option Value) (base : Heap) : Prop := Cal P w K mg base 2 "is_between" spBetween []
theorem ok_mask (F : Dn K d_is_mask f fd) (cB : CalB P w K mg base) (g : ∃ t, mg "LAST_MASK" = some (.int 127 t)) : FnOk P w K mg base CX0 3 f fd ["thing"] (fun vs H Q _ => ∃ (x : V) (k : Kn) (t : Str), vs = [x] ∧ Thg H x k t 4 ∧ Q (.bl (wi k 0 127)) H) := by
  refine F.ok sc_is_mask (fun vs H Q E h => ?_) (fun cdv A outer s H vs Q E hr h => ?_)
  · obtain ⟨x, k, t, rfl, _⟩ := h
    rfl
  · obtain ⟨x, k, t, rfl, th, hQ⟩ := h
    obtain ⟨tk, g⟩ := g
    refine ⟨_, PSs.nox (pss_one (ps_ret (pe_c cB hr (by decide) rfl (pa_cons (pv 0) (pa_cons pe_int (pa_cons (pe_glob (v := .int 127) rfl g ⟨tk, rfl⟩) pa_nil)))))), ?_⟩
    exact ⟨_, rfl, x, k, t, 0, 127, rfl, th, hQ⟩
/-- a name's signs -/
def lwB (c : Nat) : Bool := decide (97 ≤ c) && decide (c ≤ 122)
def nmB (l : List Nat) : Bool := decide (1 ≤ l.length) && (decide (l.length ≤ 8) && l.all lwB)
def nmK (k : Kn) : Bool := match k with
  | .text s => nmB s.cps.toList
  | _ => false
theorem iteTE {c : Bool} {A B : Prop} (h : c = true) (a : A) : if c = true then A else B := by
  rw [if_pos h]
  exact a
theorem iteFE {c : Bool} {A B : Prop} (h : c = false) (b : B) : if c = true then A else B := by
  rw [if_neg (by simp [h])]
  exact b
def spNm : Sp := fun vs H Q _ => ∃ (x : V) (k : Kn) (t : Str), vs = [x] ∧ Thg H x k t 4 ∧ (∀ s, k = .text s → s.length ≤ 1000) ∧ ∀ H', Same H H' → Q (.bl (nmK k)) H'
theorem ok_nm (F : Dn K d_is_name f fd) (b : Bl mg) (g : ∃ t, mg "LONGEST_NAME" = some (.int 8 t)) : FnOk P w K mg base CX0 1 f fd ["thing"] spNm := by
  refine F.ok sc_is_name (fun vs H Q E h => ?_) (fun cdv A outer s H vs Q E hr h => ?_)
  · obtain ⟨x, k, t, rfl, _⟩ := h
    rfl
  · obtain ⟨x, k, tt, rfl, th, hlen, hQ⟩ := h
    obtain ⟨t, g⟩ := g
    refine ⟨_, PSs.nox (pss_cons (ps_if (PW.pt (pw_or (pt_not (pt_val (pe_callB call_isi rfl b.isi boot_isinstance (pa_cons (pv 0) (pa_cons (pe_bltn (v := .ty "str") rfl b.str boot_str rfl) pa_nil)))))
        (pw_or1 (pt_not (pt_chain op_le op_le pe_int (pe_callB call_len_str rfl b.len boot_len (pa_cons (pv 0) pa_nil)) (pe_glob (v := .int 8) rfl g ⟨t, rfl⟩)))))) (pss_one (ps_ret pe_bl)) pss_nil)
      (pss_one (ps_ret (pe_callB (cr_all rfl) rfl b.all boot_all (pa_cons (pe_lc (own := [("sign", 1)]) (g := gName 1) (tt := tYes) rfl sc_is_name.nd (pi_str (pv 0)) (blkOk_by (N := N_is_name) (sc := defScope s_is_name) (by decide +kernel))
          (fun _ _ _ _ _ => pg_name (i := 1) sc_is_name.nd rfl (Or.inl rfl)) (fun _ _ _ _ _ => pts_nil) (fun _ _ _ _ _ => pe_chain op_le_str op_le_str pe_str (pv 1) pe_str)) pa_nil))))), ?_⟩
    have ty := th.tyN K H (SN.of (Same.refl H))
    have ks := k.kStr (K := K)
    by_cases ht : ∃ z, k = .text z
    rotate_left
    · have e1 : k.isStr = false := by
        cases k with
        | text z => exact absurd ⟨z, rfl⟩ ht
        | _ => rfl
      have e2 : nmK k = false := by
        cases k with
        | text z => exact absurd ⟨z, rfl⟩ ht
        | _ => rfl
      rw [e2] at hQ
      rw [e1] at ks
      exact ⟨_, rfl, _, _, _, _, false, rfl, ClsV.ty _, ty, ks, false, rfl, iteT (hQ H (Same.refl H))⟩
    obtain ⟨z, ek⟩ := ht
    have ex := th.txt z ek
    have hl := hlen z ek
    subst ek
    subst ex
    obtain ⟨l, rfl⟩ : ∃ l, z = S l := ⟨z.cps.toList, by simp [S]⟩
    have e2 : nmK (.text (S l)) = nmB l := by
      show nmB (S l).cps.toList = nmB l
      rw [show (S l).cps.toList = l by simp [S]]
    rw [e2] at hQ
    rw [SX.S_len] at hl
    have hz : (S l).length ≤ sizeLine := by
      rw [SX.S_len]
      exact Nat.le_trans hl (by decide)
    refine ⟨_, rfl, _, _, _, _, true, rfl, ClsV.ty _, ty, ks, true, rfl, iteF ?_⟩
    refine ⟨_, rfl, _, rfl, hz, _, _, rfl, rfl, _, rfl, ?_⟩
    by_cases h1 : 1 ≤ l.length
    rotate_left
    · refine iteFE (by rw [SX.S_len]; exact decide_eq_false (by omega)) ?_
      have : nmB l = false := by
        unfold nmB
        rw [decide_eq_false h1]
        rfl
      rw [this] at hQ
      exact ⟨_, rfl, iteTE rfl (hQ H (Same.refl H))⟩
    refine iteTE (by rw [SX.S_len]; exact decide_eq_true (by omega)) ?_
    refine ⟨_, _, rfl, rfl, _, rfl, ?_⟩
    by_cases h8 : l.length ≤ 8
    rotate_left
    · refine iteTE (by rw [SX.S_len, decide_eq_false (by omega)]; rfl) ?_
      have : nmB l = false := by
        unfold nmB
        rw [decide_eq_false h8]
        simp
      rw [this] at hQ
      exact hQ H (Same.refl H)
    refine iteFE (by rw [SX.S_len, decide_eq_true (by omega)]; rfl) ?_
    have e3 : nmB l = l.all lwB := by
      unfold nmB
      rw [decide_eq_true h1, decide_eq_true h8]
      rfl
    rw [e3] at hQ
    refine ⟨_, rfl, _, rfl, fun D hD => lc_it walk_str (fun i H2 => H2 D = some (.lst (((l.take i).map lwB).map V.bl)) ∧ Same H H2) ⟨upd_same, same_new hD⟩ (fun _ _ _ _ => trivial) ?_ ?_⟩
    · rintro i x H2 H3 hi ⟨hd, sm⟩ ⟨rfl, c', hc', rfl⟩
      have hi' : i < l.length := by simpa [S] using hi
      have hg : l[i]? = some c' := by simpa [S] using hc'
      refine ⟨rfl, ?_⟩
      have put : ∀ bv : Bool, bv = lwB c' → ∃ xs, H3 D = some (.lst xs) ∧ xs.length < sizeLine ∧ (upd H3 D (.lst (xs ++ [.bl bv]))) D = some (.lst (((l.take (i + 1)).map lwB).map V.bl)) ∧ Same H (upd H3 D (.lst (xs ++ [.bl bv]))) := fun bv e => by
        refine ⟨_, hd, ?_, ?_, ?_⟩
        · rw [List.length_map, List.length_map, List.length_take]
          exact Nat.lt_of_lt_of_le (by omega : _ < 64) (by decide)
        · rw [upd_same, List.take_succ, hg, e]
          simp
        · intro a o e'
          rw [upd_ne (ne_of_none e' hD)]
          exact sm a o e'
      refine ⟨_, rfl, _, _, rfl, rfl, _, rfl, ?_⟩
      have ea : (!decide ((⟨#[c']⟩ : Str).cps.toList < (Str.ofString "a").cps.toList)) = decide (97 ≤ c') := by
        have e1 : (Str.ofString "a").cps.toList = [97] := by decide +kernel
        rw [e1]
        have : (([c'] : List Nat) < [97]) ↔ c' < 97 := by
          rw [List.cons_lt_cons_iff]
          constructor
          · rintro (z | ⟨z, z'⟩)
            · exact z
            · exact absurd z' (by simp)
          · exact .inl
        rw [Bool.eq_iff_iff]
        simp [this]
      have ez : (!decide ((Str.ofString "z").cps.toList < (⟨#[c']⟩ : Str).cps.toList)) = decide (c' ≤ 122) := by
        have e1 : (Str.ofString "z").cps.toList = [122] := by decide +kernel
        rw [e1]
        have : (([122] : List Nat) < [c']) ↔ 122 < c' := by
          rw [List.cons_lt_cons_iff]
          constructor
          · rintro (z | ⟨z, z'⟩)
            · exact z
            · exact absurd z' (by simp)
          · exact .inl
        rw [Bool.eq_iff_iff]
        simp [this]
      rw [ea]
      by_cases hc : 97 ≤ c'
      · refine iteTE (decide_eq_true hc) ⟨_, _, rfl, rfl, ?_⟩
        rw [ez]
        exact put _ (by unfold lwB; rw [decide_eq_true hc]; rfl)
      · refine iteFE (decide_eq_false hc) ?_
        exact put _ (by unfold lwB; rw [decide_eq_false hc]; rfl)
    · rintro H2 ⟨hd, sm⟩
      refine ⟨D, _, rfl, SqL.of hd, ?_⟩
      have e4 : ((l.take (S l).cps.size).map lwB).all id = l.all lwB := by
        rw [List.take_of_length_le (by simp [SX.S])]
        simp
      rw [e4]
      exact hQ H2 sm
end
end K09
set_option Elab.async false
set_option linter.all false
set_option maxRecDepth 100000
set_option maxHeartbeats 4000000
namespace K09
open PySem PySem.Spec PyProof.Rows L2
open C8 (Cal Mak Met pe_c pe_mk pe_mt pe_mt0)
open THI
open SX (S)
abbrev veT : List Value := [.type "ValueError", .type "Exception", .type "BaseException", .type "object"]
/-- what is known of BadName, of NoNumber -/
structure Kv (K : PySem.W.Frag) (mg : Str → Option Value) (N fN : Addr) (x fl : Str) : Prop where
  gx : GX.Gx K N veT "ValueError.__new__"
  iC : PySem.W.findIn K (.ref N) "__init__" = some (some (.ref fN))
  tI : PySem.W.typeIn K (.ref fN) = some (.type "function")
  vV : PySem.W.findCls K (.type "ValueError") (.type "type") "__init__" = some (.val (.builtin "ValueError.__init__"))
  no : PySem.W.findIn K (.ref N) fl = some none
  g : mg x = some (.ref N)
  zb : mg "ValueError" = none
  xf : XfC K N
theorem typ_ve : typeOf (.type "ValueError") = pure (.type "type") := by kernel_rfl
/-- a Person's fields -/
def peV (x1 x2 x3 : V) : List (Str × V) := putF "mask" x3 (putF "seats" x2 (putF "name" x1 []))
theorem n1 : ¬ (("name" : Str) = "mask") := by decide +kernel
theorem n2 : ¬ (("name" : Str) = "seats") := by decide +kernel
theorem n3 : ¬ (("seats" : Str) = "mask") := by decide +kernel
theorem pv_name (a b c : V) : (peV a b c).lookup ("name" : Str) = some a := by
  unfold peV
  rw [lookup_putF, if_neg n1, lookup_putF, if_neg n2, lookup_putF, if_pos rfl]
theorem pv_seats (a b c : V) : (peV a b c).lookup ("seats" : Str) = some b := by
  unfold peV
  rw [lookup_putF, if_neg n3, lookup_putF, if_pos rfl]
theorem pv_mask (a b c : V) : (peV a b c).lookup ("mask" : Str) = some c := by
  unfold peV
  rw [lookup_putF, if_pos rfl]
structure ClP (K : PySem.W.Frag) (mg : Str → Option Value) (C : Addr) : Prop where
  cl : Cls K C
  nn : NoAttr K C "name"
  ns : NoAttr K C "seats"
  nm : NoAttr K C "mask"
  g : mg "Person" = some (.ref C)
section
variable {P : Program} {w : World} {K : PySem.W.Frag} {mg : Str → Option Value} {base : Heap} {f C B fB N fN : Addr} {fd fdB fdN : FuncData}
def spV (N : Addr) (fl : Str) : Sp := fun vs H Q _ => ∃ (a : Addr) (v : V), vs = [.ref a, v] ∧ H a = some (exo a N none) ∧ ∀ dx, H dx = none → dx ≠ a → Q .non (upd (upd H dx (exd dx [(fl, v)])) a (exo a N (some dx)))
theorem ok_BN (F : Dn K d_BadName_init f fd) (T : Kv K mg N fN "BadName" "name") : FnOk P w K mg base CX0 1 f fd ["self", "name"] (spV N "name") := by
  refine F.ok sc_BadName_init (fun vs H Q E h => ?_) (fun cdv A outer s H vs Q E hr h => ?_)
  · obtain ⟨a, v, rfl, _⟩ := h
    rfl
  · obtain ⟨a, v, rfl, ha, hQ⟩ := h
    refine ⟨_, PSs.nox (pss_cons (ps_expr (GX.pe_bi PySem.F.excBase_ValueError rfl T.zb PyProof.Rows.Boot.«ValueError» typ_ve T.vV (by decide +kernel) (by decide +kernel) (pa_cons (pv 0) (pa_cons pe_str pa_nil))))
      (pss_one (GX.ps_pf PySem.F.store_ValueError (nid := "ValueError.__new__") (pv 0) (pv 1)))), ?_⟩
    refine ⟨_, rfl, a, N, _, rfl, by show 1 ≤ 1000; decide, T.gx, ha, ?_⟩
    exact ⟨_, rfl, _, rfl, a, N, rfl, T.gx, T.no, ha, hQ⟩
theorem ok_NN (F : Dn K d_NoNumber_init f fd) (T : Kv K mg N fN "NoNumber" "thing") : FnOk P w K mg base CX0 1 f fd ["self", "thing"] (spV N "thing") := by
  refine F.ok sc_NoNumber_init (fun vs H Q E h => ?_) (fun cdv A outer s H vs Q E hr h => ?_)
  · obtain ⟨a, v, rfl, _⟩ := h
    rfl
  · obtain ⟨a, v, rfl, ha, hQ⟩ := h
    refine ⟨_, PSs.nox (pss_cons (ps_expr (GX.pe_bi PySem.F.excBase_ValueError rfl T.zb PyProof.Rows.Boot.«ValueError» typ_ve T.vV (by decide +kernel) (by decide +kernel) (pa_cons (pv 0) (pa_cons pe_str pa_nil))))
      (pss_one (GX.ps_pf PySem.F.store_ValueError (nid := "ValueError.__new__") (pv 0) (pv 1)))), ?_⟩
    refine ⟨_, rfl, a, N, _, rfl, by show 1 ≤ 1000; decide, T.gx, ha, ?_⟩
    exact ⟨_, rfl, _, rfl, a, N, rfl, T.gx, T.no, ha, hQ⟩
/-- what makes three things a Person -/
def okP (k1 k2 k3 : Kn) : Bool := nmK k1 && (wi k2 0 9 && wi k3 0 127)
/-- three things, told -/
structure Th3 (H : Hp) (x1 x2 x3 : V) (k1 k2 k3 : Kn) (t1 t2 t3 : Str) : Prop where
  a : Thg H x1 k1 t1 4
  b : Thg H x2 k2 t2 4
  c : Thg H x3 k3 t3 4
  l : ∀ s, k1 = .text s → s.length ≤ 1000
theorem Th3.same {H H' : Hp} {x1 x2 x3 : V} {k1 k2 k3 : Kn} {t1 t2 t3 : Str} (h : Th3 H x1 x2 x3 k1 k2 k3 t1 t2 t3) (s : Same H H') : Th3 H' x1 x2 x3 k1 k2 k3 t1 t2 t3 := ⟨h.a.same s, h.b.same s, h.c.same s, h.l⟩
/-- which refusal, and of what -/
def refP (B N : Addr) (x1 x2 x3 : V) (k1 k2 : Kn) : Addr × Str × V := if nmK k1 = true then (if wi k2 0 9 = true then (N, "thing", x3) else (N, "thing", x2)) else (B, "name", x1)
def spPx (C B N : Addr) : Sp := fun vs H Q E => ∃ (p dx : Addr) (x1 x2 x3 : V) (k1 k2 k3 : Kn) (t1 t2 t3 : Str), vs = [.ref p, x1, x2, x3] ∧ Th3 H x1 x2 x3 k1 k2 k3 t1 t2 t3 ∧ H p = some (.ins C dx []) ∧
  (okP k1 k2 k3 = true → ∀ H', (∀ a o, a ≠ p → H a = some o → H' a = some o) → H' p = some (.ins C dx (peV x1 x2 x3)) → Q .non H') ∧
  (okP k1 k2 k3 = false → ∀ d H', Same H H' → H d = none → H' d = some (.xd [((refP B N x1 x2 x3 k1 k2).2.1, (refP B N x1 x2 x3 k1 k2).2.2)]) → E (.ref (refP B N x1 x2 x3 k1 k2).1) (some d) H')
theorem ok_px (F : Dn K d_Person_init f fd) (cN : Cal P w K mg base 1 "is_name" spNm []) (cB : CalB P w K mg base) (cM : Cal P w K mg base 3 "is_mask" (fun vs H Q _ => ∃ (x : V) (k : Kn) (t : Str), vs = [x] ∧ Thg H x k t 4 ∧ Q (.bl (wi k 0 127)) H) []) (T : ClP K mg C) (g : ∃ t, mg "MOST_SEATS" = some (.int 9 t))
    (TB : Kv K mg B fB "BadName" "name") (FB : FnOk P w K mg base CX0 1 fB fdB ["self", "name"] (spV B "name")) (bB : Binds K fdB ["self", "name"] []) (TN : Kv K mg N fN "NoNumber" "thing") (FN : FnOk P w K mg base CX0 1 fN fdN ["self", "thing"] (spV N "thing")) (bN : Binds K fdN ["self", "thing"] []) :
    FnOk P w K mg base (L2.CX P w) 5 f fd ["self", "name", "seats", "mask"] (spPx C B N) := by
  refine F.ok sc_Person_init (fun vs H Q E h => ?_) (fun cdv A outer s H vs Q E hr h => ?_)
  · obtain ⟨p, dx, x1, x2, x3, k1, k2, k3, t1, t2, t3, rfl, _⟩ := h
    rfl
  · obtain ⟨p, dx, x1, x2, x3, k1, k2, k3, t1, t2, t3, rfl, th, hp, hQ, hE⟩ := h
    obtain ⟨t, g⟩ := g
    have hr2 : Room 2 (A.deeper (envOfC d_Person_init.qual d_Person_init.scope s.heap.objs.size f cdv)) := hr.mono (by decide)
    refine ⟨_, pss_cons (ps_if (pt_not (pt_val (pe_c cN hr (by decide) rfl (pa_cons (pv 1) pa_nil)))) (pss_one (ps_raise rfl (takes_of rfl rfl rfl rfl) (GX.pmk_gx PySem.F.excBase_ValueError TB.gx TB.iC TB.tI FB hr2 bB .nil pass0 rfl TB.g (pa_cons (pv 1) pa_nil)))) pss_nil)
      (pss_cons (ps_if (pt_not (pt_val (pe_c cB hr (by decide) rfl (pa_cons (pv 2) (pa_cons pe_int (pa_cons (pe_glob (v := .int 9) rfl g ⟨t, rfl⟩) pa_nil)))))) (pss_one (ps_raise rfl (takes_of rfl rfl rfl rfl) (GX.pmk_gx PySem.F.excBase_ValueError TN.gx TN.iC TN.tI FN hr2 bN .nil pass0 rfl TN.g (pa_cons (pv 2) pa_nil)))) pss_nil)
      (pss_cons (ps_if (pt_not (pt_val (pe_c cM hr (by decide) rfl (pa_cons (pv 3) pa_nil)))) (pss_one (ps_raise rfl (takes_of rfl rfl rfl rfl) (GX.pmk_gx PySem.F.excBase_ValueError TN.gx TN.iC TN.tI FN hr2 bN .nil pass0 rfl TN.g (pa_cons (pv 3) pa_nil)))) pss_nil)
      (pss_cons (ps_fld (pv 0) (pv 1) rfl) (pss_cons (ps_fld (pv 0) (pv 2) rfl) (pss_one (ps_fld (pv 0) (pv 3) rfl)))))), ?_⟩
    have raised : ∀ {H1 : Hp} {a d M : Addr} {fl : Str} {v : V}, Same H H1 → H1 a = none → (upd H1 a (exo a M none)) d = none → d ≠ a →
        Same H (upd (del (upd (upd (upd H1 a (exo a M none)) d (exd d [(fl, v)])) a (exo a M (some d))) a) d (.xd [(fl, v)])) ∧ H d = none := fun {H1 a d M fl v} su ha hd ne => by
      rw [upd_ne ne] at hd
      refine ⟨fun c o e => ?_, su.free hd⟩
      have e1 := su c o e
      have b1 : c ≠ d := ne_of_none e1 hd
      have b2 : c ≠ a := ne_of_none e1 ha
      rw [upd_ne b1, del_ne b2, upd_ne b2, upd_ne b1, upd_ne b2]
      exact e1
    refine ⟨_, rfl, x1, k1, t1, rfl, th.a, th.l, fun H1 s1 => ⟨nmK k1, rfl, ?_⟩⟩
    cases c1 : nmK k1 with
    | false =>
      have e : okP k1 k2 k3 = false := by unfold okP; rw [c1]; rfl
      have e2 : refP B N x1 x2 x3 k1 k2 = (B, ("name" : Str), x1) := by unfold refP; rw [c1]; rfl
      rw [e2] at hE
      refine iteT ?_
      exact ⟨_, rfl, by show 1 ≤ 1000; decide, fun a ha => ⟨a, _, rfl, upd_same, fun d hd ne => ⟨rfl, d, _, upd_same, (by rw [upd_ne ne]; exact upd_same), (by rw [upd_ne ne] at hd; exact hd), hE e d _ (raised s1 ha hd ne).1 (raised (fl := "name") (v := x1) s1 ha hd ne).2 upd_same⟩⟩⟩
    | true =>
    refine iteF ?_
    have th1 := th.same s1
    refine ⟨_, rfl, x2, k2, t2, 0, 9, rfl, th1.b, wi k2 0 9, rfl, ?_⟩
    cases c2 : wi k2 0 9 with
    | false =>
      have e : okP k1 k2 k3 = false := by unfold okP; rw [c1, c2]; rfl
      have e2 : refP B N x1 x2 x3 k1 k2 = (N, ("thing" : Str), x2) := by unfold refP; rw [c1, c2]; rfl
      rw [e2] at hE
      refine iteT ?_
      exact ⟨_, rfl, by show 1 ≤ 1000; decide, fun a ha => ⟨a, _, rfl, upd_same, fun d hd ne => ⟨rfl, d, _, upd_same, (by rw [upd_ne ne]; exact upd_same), (by rw [upd_ne ne] at hd; exact hd), hE e d _ (raised s1 ha hd ne).1 (raised (fl := "thing") (v := x2) s1 ha hd ne).2 upd_same⟩⟩⟩
    | true =>
    refine iteF ?_
    refine ⟨_, rfl, x3, k3, t3, rfl, th1.c, wi k3 0 127, rfl, ?_⟩
    cases c3 : wi k3 0 127 with
    | false =>
      have e : okP k1 k2 k3 = false := by unfold okP; rw [c1, c2, c3]; rfl
      have e2 : refP B N x1 x2 x3 k1 k2 = (N, ("thing" : Str), x3) := by unfold refP; rw [c1, c2]; rfl
      rw [e2] at hE
      refine iteT ?_
      exact ⟨_, rfl, by show 1 ≤ 1000; decide, fun a ha => ⟨a, _, rfl, upd_same, fun d hd ne => ⟨rfl, d, _, upd_same, (by rw [upd_ne ne]; exact upd_same), (by rw [upd_ne ne] at hd; exact hd), hE e d _ (raised s1 ha hd ne).1 (raised (fl := "thing") (v := x3) s1 ha hd ne).2 upd_same⟩⟩⟩
    | true =>
    have e : okP k1 k2 k3 = true := by unfold okP; rw [c1, c2, c3]; rfl
    refine iteF ?_
    refine ⟨_, rfl, _, rfl, p, C, dx, _, rfl, s1 _ _ hp, T.cl, T.nn, by show 0 < 1000; decide, ?_⟩
    refine ⟨_, rfl, _, rfl, p, C, dx, _, rfl, upd_same, T.cl, T.ns, by show 1 < 1000; decide, ?_⟩
    refine ⟨_, rfl, _, rfl, p, C, dx, _, rfl, upd_same, T.cl, T.nm, by show 2 < 1000; decide, ?_⟩
    refine hQ e _ (fun a o ha e => ?_) upd_same
    rw [upd_ne ha, upd_ne ha, upd_ne ha]
    exact s1 _ _ e
end
end K09
set_option Elab.async false
set_option linter.all false
set_option maxRecDepth 100000
set_option maxHeartbeats 4000000
/-! EXV: a caught exception that is kept behind its except clause: isinstance of it, its fields. -/
namespace EXV
open PySem PySem.Spec PyProof.Rows L2
/-- an exception object at a, of the class cls, with the dict d -/
def XcP (cls : Value) (d : Option Addr) (a : Addr) (h : Heap) : Prop := ∃ (oe : Obj) (vs : Array Value), h.get? a = some oe ∧ Zc cls d oe ∧ oe.data = .fields vs
def Xc (cls : Value) (d : Option Addr) (a : Addr) : HO := .ext (XcP cls d a)
theorem xc_ok {P : Program} {w : World} {H : Hp} {h : Heap} {a : Addr} {cls : Value} {d : Option Addr} {oe : Obj} {vs : Array Value} (g : h.get? a = some oe) (z : Zc cls d oe) (f : oe.data = .fields vs) : ObjOk P w H h a (Xc cls d a) :=
  ⟨⟨oe, vs, g, z, f⟩, ⟨oe, g⟩, fun h1 h2 ⟨u, v, g1, z1, f1⟩ k => ⟨u, v, k u g1, z1, f1⟩⟩
theorem xc_at {P : Program} {w : World} {H : Hp} {h : Heap} {a : Addr} {cls : Value} {d : Option Addr} (ok : HOk P w H h) (e : H a = some (Xc cls d a)) : XcP cls d a h := by
  have x : ObjOk P w H h a (.ext (XcP cls d a)) := ok a _ e
  exact x.1
theorem xc_lst {a b : Addr} {cls : Value} {d : Option Addr} {xs : List V} {H : Hp} (e : H a = some (Xc cls d a)) (e2 : H b = some (.lst xs)) : a ≠ b := fun z => by
  rw [z, e2] at e
  have e' : HO.lst xs = HO.ext (XcP cls d b) := Option.some.inj (z ▸ e)
  cases e'
section
variable {X : Cx} {pins : List (Addr × Obj)} {σ : L2.St} {H : Hp} {s : Shared}
theorem into_suite (I : Inv X pins σ H s) (a : Addr) : Inv (X.suite a (X.pn ++ pins)) [] σ H s where
  ok := I.ok.suite a (X.pn ++ pins)
  os := I.os
  bare := I.bare
  base := I.base
  loc := I.loc
  cell := I.cell
  free := I.free
  freeC := I.freeC
  pin := fun p hp => I.pin p (by simpa using hp)
  hok := I.hok
  len := I.len
theorem out_suite {a : Addr} {ps : List (Addr × Obj)} (I : Inv (X.suite a (X.pn ++ pins)) ps σ H s) (good : X.Ok) : Inv X pins σ H s where
  ok := good
  os := I.os
  bare := I.bare
  base := I.base
  loc := I.loc
  cell := I.cell
  free := I.free
  freeC := I.freeC
  pin := fun p hp => I.pin p (List.mem_append_left ps hp)
  hok := I.hok
  len := I.len
end
/-- what an except clause that keeps the exception wishes of the body: slot i is the clause's name -/
def wKeep (K : PySem.W.Frag) (c : Value) (i : Nat) (ts : Addr → Value → Option Addr → TS) (Wout : WX) (D : Ends) : WX := fun cls d σ H => ∃ b, PySem.W.exmOne K cls c = some b ∧
  (b = true → ∀ a, H a = none → ts a cls d { nx := fun σ' H' => D.nx (σ'.set i none) H', rt := D.rt, bk := fun σ' H' => D.bk (σ'.set i none) H', ct := fun σ' H' => D.ct (σ'.set i none) H' } (σ.set i (some (.ref a))) (upd H a (Xc cls d a))) ∧ (b = false → Wout cls d σ H)
section
variable {X : Cx} {x n : Str} {c : Value} {i : Nat} {body suite : List Stmt} {b₀ : Stmt} {np pos pos' : Pos} {tb : WX → TS} {ts : Addr → Value → Option Addr → TS} {Wout : WX}
theorem ps_try_keep (stk : X.stack = X.env :: X.outer) (frm : X.env.frame = some X.env.locals) (nod : X.N.Nodup) (at_ : X.N[i]? = some n) (kln : X.env.kindOf n = some .local) (nm : Names X x c) (out : Takes X Wout)
    (bdy : ∀ (W : WX) (pn : List (Addr × Obj)) (xe : Value → Shared → Prop), Takes (X.tr pn xe) W → PassesOwn (model X.prog X.w) X.A X.env xe → PSs (X.tr pn xe) body (tb W))
    (sui : ∀ (a : Addr) (cls : Value) (d : Option Addr) (pn : List (Addr × Obj)), PSs (X.suite a pn) (b₀ :: suite) (ts a cls d)) :
    PS X (.Try body [.ExceptHandler (some (.Name x np)) (some n) (b₀ :: suite) pos'] [] [] pos) (fun D σ H => tb (wKeep X.K c i ts Wout D) D σ H) := by
  refine ⟨fun pins s σ H D I h => ?_⟩
  have good := I.ok
  have frs2 : X.A.frames = some (X.env :: X.outer) := by rw [good.frames, stk]
  have isLoc : Loc X.env.scope n := .inl kln
  have start := (bdy (wKeep X.K c i ts Wout D) (X.pn ++ pins) (fun e s₁ => wpAny (model X.prog X.w) X.A (noteFrame e X.env) (fun _ s₂ => wpAny (model X.prog X.w) X.A (setFlight e none)
      (fun _ s₃ => wpAny (model X.prog X.w) X.A (handleBy e X.env [.ExceptHandler (some (.Name x np)) (some n) (b₀ :: suite) pos']) (SP X pins D) X.xe s₃) X.xe s₂) X.xe s₁) (fun u s' xx => ?_) PassesOwn.looking).run [] s σ H D (I.toTry _) h
  · refine wpAny_Try_except (wpAny_mono start (fun f s1 fin => ?_) fun _ _ he => he)
    cases f with
    | next =>
      obtain ⟨σ1, H1, J1, q1⟩ := fin
      exact wpAny_execs_nil ⟨σ1, H1, J1.ofTry good, q1⟩
    | brk =>
      obtain ⟨σ1, H1, J1, q1⟩ := fin
      exact ⟨σ1, H1, J1.ofTry good, q1⟩
    | cont =>
      obtain ⟨σ1, H1, J1, q1⟩ := fin
      exact ⟨σ1, H1, J1.ofTry good, q1⟩
    | ret u =>
      obtain ⟨v1, σ1, H1, J1, r1, q1⟩ := fin
      exact ⟨v1, σ1, H1, J1.ofTry good, r1, q1⟩
  -- what the body lets out
  obtain ⟨a, B, sI, pins', σ', H', cls, d, rfl, J0, nb, up, sky0, na, os, ag, b, tst, yes, no⟩ := xx
  have J : Inv X pins σ' H' sI := J0.ofTry good
  have sky : Sky B (X.env :: X.outer) a (Zc cls d) X.env.locals s'.heap := by rw [← stk]; exact sky0
  show wpAny (model X.prog X.w) X.A (noteFrame (.ref a) X.env) _ _ _
  refine Sky.land Zc.steady frs2 frm sky fun h3 fl3 up3 => ?_
  have J3 : Inv X pins σ' H' { s' with heap := h3 } := J.landed nb fl3.1 (up.trans up3) os ag
  obtain ⟨oe3, vs3, he3, hz3, hd3⟩ := fl3.there
  have notFr : a ∉ frs (X.env :: X.outer) := fun hm => by
    obtain ⟨_, o', e', hnf⟩ := fl3.2.2.1.mem hm
    rw [he3] at e'
    cases e'
    exact hnf _ hd3
  have Ba : B.get? a = none := fl3.2.1
  -- the heap without it
  have cut : ∀ {h4 : Heap}, B.StaysIn h4 → s'.heap.UpToSlots h4 → ∃ G : Heap, (∀ b o, G.get? b = some o → h4.get? b = some o) ∧ G.get? a = none ∧ Inv X pins σ' H' { s' with heap := G } := fun {h4} st4 up4 => by
    obtain ⟨G, g1, g2⟩ := restrict h4 fun b => decide (b ≠ a)
    have ga : G.get? a = none := g2 a (decide_eq_false fun z => z rfl)
    have ge : ∀ b, b ≠ a → G.get? b = h4.get? b := fun b hb => g1 b (decide_eq_true hb)
    have keepB : B.StaysIn G := fun b o e => by
      rw [ge b fun z => by rw [z, Ba] at e; cases e]
      exact st4 b o e
    have upG : sI.heap.UpToSlots G := fun b o e nf => by
      have hb : b ≠ a := fun z => by
        have := nb a o (z ▸ e) (by rw [stk]; exact notFr)
        rw [Ba] at this
        cases this
      rw [ge b hb]
      exact (up.trans up4) b o e nf
    refine ⟨G, fun b o e => ?_, ga, J.landed (s' := { s' with heap := G }) nb keepB upG os ag⟩
    by_cases hb : b = a
    · rw [hb, ga] at e
      cases e
    · rw [← ge b hb]
      exact e
  have S3 := into_suite J3 a
  refine wpAny_handleBy_cons (codeAny_handlers_test ?_) (by intro q; cases q)
  have typed : PySem.W.Looks (model X.prog X.w) h3 (typeOf (.ref a)) cls := fun A Q E s k q => wpAny_typeOf_ref (k _ _ he3) (by rw [hz3.1]; exact q)
  have matched := PySem.W.exm_one (M := model X.prog X.w) (J3.kIn) typed tst
  have named : ∀ {Q : Value → Shared → Prop} {E : Value → Shared → Prop}, Q c { s' with heap := h3 } → wpAny (model X.prog X.w) (X.A.mark (some (.ref a))) (eval (.Name x np) X.env) Q E { s' with heap := h3 } := fun {Q E} q => by
    obtain ⟨hg, hdbg, hm | ⟨hm, hv, hnn⟩⟩ := nm
    · exact ld_glob (X := X.suite a (X.pn ++ pins)) S3 hg hm q hdbg
    · exact ld_blt (X := X.suite a (X.pn ++ pins)) S3 hg hm hv q hnn hdbg
  refine named (matched.here ?_)
  cases b with
  | true =>
    refine codeAny_handlers_suite_as ?_
    refine HandSPX.lands_againZ fl3 fun h4 fl4 up4 => ?_
    obtain ⟨oe4, vs4, he4, hz4, hd4⟩ := fl4.there
    obtain ⟨G, gk, ga, JG⟩ := cut fl4.1 (up3.trans up4)
    have JK : Inv X pins σ' (upd H' a (Xc cls d a)) { s' with heap := h4 } := JG.laidN (t' := s'.toks) (h' := h4) gk ga na (xc_ok he4 hz4 hd4)
    refine store_ok (X := X.suite a (X.pn ++ pins)) (v := .ref a) (into_suite JK a) nod at_ isLoc rfl (fun s5 S5 => ?_) (.inr kln)
    refine wpAny_mono ((sui a cls d (X.pn ++ pins)).run [] s5 _ _ _ S5 (yes rfl a na)) (fun f s6 fin => ?_) (fun _ _ z => False.elim z)
    have ends : ∀ {σ6 : L2.St} {H6 : Hp} {Q : Shared → Prop}, Inv (X.suite a (X.pn ++ pins)) [] σ6 H6 s6 → (∀ s7, Inv X pins (σ6.set i none) H6 s7 → Q s7) →
        wpAny (model X.prog X.w) X.A (do bindName X.env n .none; unbindBehindTheSuite X.env n pos') (fun _ s7 => Q s7) X.xe s6 := fun {σ6 H6 Q} S6 hq => gone_ok (out_suite S6 good) nod at_ kln hq
    cases f with
    | next =>
      obtain ⟨σ6, H6, S6, q6⟩ := fin
      exact ends S6 fun s7 J7 => ⟨_, _, J7, q6⟩
    | brk =>
      obtain ⟨σ6, H6, S6, q6⟩ := fin
      exact ends S6 fun s7 J7 => ⟨_, _, J7, q6⟩
    | cont =>
      obtain ⟨σ6, H6, S6, q6⟩ := fin
      exact ends S6 fun s7 J7 => ⟨_, _, J7, q6⟩
    | ret u =>
      obtain ⟨v6, σ6, H6, S6, r6, q6⟩ := fin
      exact ends S6 fun s7 J7 => ⟨_, _, _, J7, r6, q6⟩
  | false =>
    show wpAny _ X.A (handleBy (.ref a) X.env []) _ _ _
    refine wpAny_handleBy_nil ?_
    obtain ⟨k1, k2, k3, oe, vs, T, oT, ts', he, hz, hd, h1, hr⟩ := id fl3
    unfold PySem.passOn
    refine wpAny_bind (wpAny_field he hd h1 ?_)
    rw [if_neg (show ¬ ((Value.ref T == Value.none) = true) from by simp)]
    have fin : wpAny (model X.prog X.w) X.A (setFlight (.ref a) X.env.frame) (fun _ s4 => wpAny (model X.prog X.w) X.A (throw (.ref a) : Sem Flow) (SP X pins D) X.xe s4) X.xe { s' with heap := h3 } := by
      rw [frm]
      refine HandSPX.setFlight_upZ fl3 fun h4 hh4 up4 => wpAny_throw (out _ _ ?_)
      exact ⟨a, B, sI, pins, σ', H', cls, d, rfl, J, nb, (up.trans up3).trans up4, .inr (.inr (by rw [stk]; exact hh4)), na, os, ag, no rfl⟩
    first
      | exact wpAny_bind (wpAny_pure (wpAny_bind fin))
      | exact wpAny_bind fin
end
end EXV
set_option Elab.async false
set_option linter.all false
set_option maxRecDepth 100000
set_option maxHeartbeats 4000000
/-! EXW: isinstance of a kept exception, and its fields -/
namespace EXW
open PySem PySem.Spec PySem.Calls PyProof.Rows
section
open PySem.W
variable {prog : Program} {w : World} {A : Around} {E : Value → Shared → Prop} {s : Shared} {K : Frag} {x D : Addr} {ox : Obj} {od : Option Obj}
theorem bound {C : Addr} {m : Str} {a g : Value} (hc : (clsIn K C).isSome = true) (ha : findIn K (.ref C) m = some (some a)) (hg : specialIn K a "__get__" = some (some g)) (ht : takesIn K a = some true) : findObj K C od m = some (.bind g a) := by
  obtain ⟨cd, hc⟩ := Option.isSome_iff_exists.mp hc
  simp only [findObj, hc, ha, hg, ht, Option.bind_some]
theorem cls_of {Q : Option Value → Shared → Prop} (X : L2.ExcC K D) (kin : K.In s.heap) (I : InstAt s.heap x ox D od) (post : Q (some (.ref D)) { s with toks := s.toks + 1 }) : wpAny (model prog w) A (getAttr? (.ref x) "__class__") Q E s := by
  have hf : findObj K D od "__class__" = some (.bind (.builtin "getset_descriptor.__get__") (.builtin "object.__class__")) := bound (by obtain ⟨cd, hc, _⟩ := any_some X.hd; rw [hc]; rfl) X.ha X.hn X.ht
  obtain ⟨hp, g, d, t, os⟩ := s
  have t0 := I.type (M := model prog w)
  have g1 := looks_findIn (M := model prog w) kin X.hg
  have g2 := looks_findIn (M := model prog w) kin X.hk
  have g3 := looks_find (M := model prog w) kin I hf
  have exc : Looks (model prog w) hp (isInstance (.ref x) (.type "BaseException")) true := t0.andThen (looks_subIn kin X.hs)
  have no1 : (Value.builtin "BaseException.__getattribute__" == Value.builtin "object.__getattribute__") = false := by decide +kernel
  have no2 : (onTheHeap (Value.ref D) && Value.builtin "BaseException.__getattribute__" == Value.builtin "object.__getattribute__") = false := by rw [no1]; rfl
  have no3 : (false && onTheHeap (Value.builtin "BaseException.__getattribute__")) = false := rfl
  unfold getAttr? getAttrBy? getAttrBy
  refine wpAny_bind (wpAny_mkText (wpAny_bind (wpAny_attempt (wpAny_holding (wpAny_bind (t0.at (wpAny_bind (g1.at ?_))))))))
  show wpAny _ _ (if (onTheHeap (Value.ref D) && Value.builtin "BaseException.__getattribute__" == Value.builtin "object.__getattribute__") = true then _ else _) _ _ _; rw [no2, if_neg Bool.false_ne_true]
  unfold getAttrByItsOwn hookBefore; refine wpAny_bind ?_
  rw [if_pos (show onTheHeap (Value.ref D) = true from rfl)]; refine g2.at ?_
  refine wpAny_bind (wpAny_attempt (wpAny_holding ?_)); unfold callGetattribute
  rw [no3, if_neg Bool.false_ne_true]; unfold boundAndCalled
  rw [PySem.F.excAttr_ValueError.ga.bind (.ref x)]; refine wpAny_bind (wpAny_pure ?_)
  show wpAny _ _ (call (.builtin "BaseException.__getattribute__") [.ref x, .str "__class__" t]) _ _ _; refine wpAny_call (codeAny_call_builtin PySem.F.excAttr_ValueError.ga.plain PySem.F.entry_bexc_ga ?_)
  refine @check_slot (model prog w) _ _ ⟨hp, g, d, t + 1, os⟩ "BaseException.__getattribute__" "BaseException" "__getattribute__" (.ref x) [.str "__class__" t] [] _ (by decide +kernel) (by decide +kernel) exc (PySem.F.args_bexc_ga (.ref x) (.str "__class__" t)) ?_
  unfold Builtin.«object.__getattribute__»; refine wpAny_bind (wpAny_of_eq (a := ((Value.ref x : Value), [Value.str "__class__" t])) (by first | rfl | (simp only [slotArgs]; rfl)) ?_)
  refine wpAny_bind (wpAny_pure (wpAny_bind (t0.at (wpAny_bind (g3.at ?_)))))
  show wpAny _ _ (holding [Value.builtin "object.__class__"] (call (.builtin "getset_descriptor.__get__") [.builtin "object.__class__", .ref x, .ref D]) >>= ret) _ _ _; refine wpAny_bind (wpAny_holding (wpAny_call (class_get (s := ⟨hp, g, d, t + 1, os⟩) (ox := ox) (od := od) kin I X.hm ?_)))
  refine wpAny_pure ?_; show wpAny _ _ (handedOut (.ref D)) _ _ _
  rw [handedOut_of (v := .ref D) rfl]
  first | exact wpAny_pure (wpAny_pure post) | exact wpAny_pure post | exact wpAny_pure (wpAny_bind (wpAny_pure (wpAny_pure post)))
theorem kit_of (X : L2.ExcC K D) : KitX K (.ref x) (.ref D) (fun h => ∃ ox od, InstAt h x ox D od) where
  ty := fun _ _ _ ⟨_, _, I⟩ => I.type
  it := fun _ _ kin _ => by
    obtain ⟨cdD, hcD, _⟩ := any_some X.hd
    unfold clsIn at hcD
    split at hcD
    · rename_i c' d' cd' sl' ho
      intro A' Q' E' s' k q; unfold isType loadHead
      exact wpAny_bind (wpAny_loadPart (k _ _ (kin _ _ ho)) (wpAny_pure q))
    · cases hcD
  ne := fun h tp dd its n sl kin htp => by
    obtain ⟨cdD, hcD, _⟩ := any_some X.hd
    refine Bool.eq_false_iff.mpr fun q => ?_
    obtain rfl : D = tp := Value.ref.inj (beq_iff_eq.mp q)
    unfold clsIn at hcD
    split at hcD
    · rename_i c' d' cd' sl' ho
      cases (kin _ _ ho).symm.trans htp
    · cases hcD
  ca := fun kin ⟨_, _, I⟩ k => cls_of X kin I k
end
open L2 EXV
/-- the dict of a kept exception, if it has one, is ours too -/
def Dct (H : Hp) (d : Option Addr) : Prop := d = none ∨ ∃ (dd : Addr) (fs : List (Str × V)), d = some dd ∧ H dd = some (.xd fs)
section
variable {X : Cx} {pins : List (Addr × Obj)} {σ : L2.St} {H : Hp} {s : Shared} {a D : Addr} {d : Option Addr}
theorem inst (I : Inv X pins σ H s) (e : H a = some (Xc (.ref D) d a)) (hd : Dct H d) : ∃ ox od, PySem.W.InstAt s.heap a ox D od ∧ ∀ dd fs, d = some dd → H dd = some (.xd fs) → ∃ (o : Obj) (mA : Str → Option Value), od = some o ∧ (∀ m, RelO (fs.lookup m) (mA m)) ∧ ∀ m, PySem.W.lookIn m o = some (mA m) := by
  obtain ⟨oe, vs, g, z, f⟩ := xc_at I.hok e
  have nc : PySem.W.notCls oe = true := by unfold PySem.W.notCls; rw [f] <;> rfl
  rcases hd with rfl | ⟨dd, fs, rfl, hx⟩
  · exact ⟨oe, none, ⟨g, z.1, nc, by rw [z.2]; trivial⟩, fun dd fs e => by cases e⟩
  · have hx' : ObjOk X.prog X.w H s.heap dd (.xd fs) := I.hok dd _ hx
    obtain ⟨mA, hns, hr⟩ := hx'
    obtain ⟨o, ho, hl⟩ := lookIn_ns hns
    refine ⟨oe, some o, ⟨g, z.1, nc, by rw [z.2]; exact ho⟩, fun dd' fs' e1 e2 => ?_⟩
    cases e1
    rw [hx] at e2
    cases e2
    exact ⟨o, mA, rfl, hr, hl⟩
/-- isinstance(e, c) of a kept exception -/
def rIsK (K : PySem.W.Frag) : List V → Hp → VK → Prop := fun xs H Q => ∃ (a D : Addr) (d : Option Addr) (c : V) (cv : Value) (b : Bool), xs = [.ref a, c] ∧ H a = some (Xc (.ref D) d a) ∧ Dct H d ∧ ExcC K D ∧ (∀ u, RelV c u → u = cv) ∧ PySem.W.kitOne K (.ref D) cv = some b ∧ Q (.bl b) H
theorem call_isK : CallR X (.builtin "isinstance") (rIsK X.K) := by
  intro pins s σ H xs us Q I r h
  obtain ⟨a, D, d, c, cv, b, rfl, ea, hd, C, hcv, e, q⟩ := h
  match us, r with
  | [_, _], .cons rx (.cons rt .nil) =>
    cases rx
    have ec := hcv _ rt
    subst ec
    obtain ⟨ox, od, J, _⟩ := inst I ea hd
    exact PySem.W.kia_one (kit_of C) I.kIn ⟨ox, od, J⟩ e (fun z => nomatch z) fun tk => ⟨.bl b, H, I.kept (t' := tk) fun _ _ z => z, rfl, q⟩
end
/-- e.f of a kept exception -/
def tXk (K : PySem.W.Frag) (f : Str) (te : TE) : TE := fun σ H Q => te σ H fun x H1 => ∃ (a C dd : Addr) (fs : List (Str × V)) (v : V), x = .ref a ∧ H1 a = some (Xc (.ref C) (some dd) a) ∧ H1 dd = some (.xd fs) ∧ XfC K C ∧ PySem.W.findIn K (.ref C) f = some none ∧ fs.lookup f = some v ∧ Q v H1
theorem pe_xk {X : Cx} {e : Expr} {te : TE} {pos : Pos} {n : Str} (he : PE X e te) (hb : attributeBase e n X.env (eval e X.env) = eval e X.env := by rfl) : PE X (.Attribute e n pos) (tXk X.K n te) := by
  refine ⟨fun pins s σ H Q I h => ?_⟩
  refine attr_of hb (thn (he.run pins s σ H _ I h) fun u s1 hh => ?_)
  obtain ⟨x, H1, I1, rx, a, C, dd, fs, v, rfl, ea, ed, T, hno, l, q⟩ := hh
  obtain rfl : u = Value.ref a := rx
  obtain ⟨ox, od, J, more⟩ := inst I1 ea (.inr ⟨dd, fs, rfl, ed⟩)
  obtain ⟨o, mA, rfl, hr, hl⟩ := more dd fs rfl ed
  obtain ⟨u, hu, ru⟩ := RelO.some_of (v := v) (o := mA n) (by rw [← l]; exact hr n)
  exact HandSPX.exc_get I1.kIn J T.ga T.gg T.exC (PySem.W.findObj_own T.hdC hno rfl (by rw [hl, hu])) (handed_of ru) ⟨v, H1, I1.tok _, ru, q⟩
end EXW
set_option Elab.async false
set_option linter.all false
set_option maxRecDepth 100000
set_option maxHeartbeats 4000000
/-! KTN: an except clause with a tuple of classes, however many. -/
namespace KTN
open PySem PySem.Spec PySem.Calls PyProof.Rows PySem.W
section
variable {M : Model} {A : Around} {E : Value → Shared → Prop} {s : Shared}
theorem skip {α β : Type} {f : α → β → Sem (ForInStep β)} {u : β} : ∀ (cs : List α) {Q : β → Shared → Prop}, (∀ c ∈ cs, ∀ Q' : ForInStep β → Shared → Prop, Q' (.yield u) s → wpAny M A (f c u) Q' E s) → Q u s → wpAny M A (forIn cs u f) Q E s
  | [], Q, _, q => by
    rw [List.forIn_nil]
    exact wpAny_pure q
  | c :: cs, Q, h, q => by
    rw [List.forIn_cons]
    exact wpAny_bind (h c List.mem_cons_self _ (skip cs (fun d hd => h d (List.mem_cons_of_mem _ hd)) q))
theorem find {α β : Type} {f : α → β → Sem (ForInStep β)} {u d : β} {p : α → Bool} : ∀ (cs : List α) {Q : β → Shared → Prop}, (∀ c ∈ cs, ∀ Q' : ForInStep β → Shared → Prop, Q' (if p c = true then .done d else .yield u) s → wpAny M A (f c u) Q' E s) → Q (if cs.any p = true then d else u) s → wpAny M A (forIn cs u f) Q E s
  | [], Q, _, q => by
    rw [List.forIn_nil]
    exact wpAny_pure q
  | c :: cs, Q, h, q => by
    rw [List.forIn_cons]
    refine wpAny_bind (h c List.mem_cons_self _ ?_)
    rw [List.any_cons] at q
    cases hp : p c with
    | true =>
      rw [hp] at q
      exact wpAny_pure q
    | false =>
      rw [hp] at q
      exact find cs (fun d hd => h d (List.mem_cons_of_mem _ hd)) q
end
/-- which of them an exception of the class is -/
def hit (K : Frag) (cls c : Value) : Bool := (exmOne K cls c).getD false
theorem any_hit {K : Frag} {cls : Value} : ∀ {cs : List Value} {b : Bool}, exmAny K cls cs = some b → (∀ c ∈ cs, exmOne K cls c = some (hit K cls c)) ∧ cs.any (hit K cls) = b
  | [], b, h => by
    cases h
    exact ⟨fun c hc => (nomatch hc), rfl⟩
  | c :: cs, b, h => by
    obtain ⟨b1, d1, e1, e2, rfl⟩ := exmAny_cons h
    obtain ⟨i1, i2⟩ := any_hit e2
    have hc : hit K cls c = b1 := by unfold hit; rw [e1]; rfl
    refine ⟨fun d hd => ?_, ?_⟩
    · rcases List.mem_cons.mp hd with rfl | hd
      · rw [hc]; exact e1
      · exact i1 d hd
    · rw [List.any_cons, hc, i2]
section
variable {M : Model} {K : Frag}
theorem exm_tupN {cs : List Value} {cls : Value} {tp e : Addr} {b : Bool} {h : Heap} (X : K.In h) (LT : Looks M h (typeOf (.ref e)) cls) (hp : h.get? tp = some { cls := .type "tuple", data := .seq cs.toArray }) (hx : exmAny K cls cs = some b) :
    Looks M h (excMatches (.ref e) (.ref tp)) b := by
  intro A Q E s k q
  have L0 : Looks M h (isInstance (.ref tp) (.type "tuple")) true := ((Looks.ld hp).andThen .now).andThen (Looks.of_pure isSubtype_tuple_tuple)
  obtain ⟨each, any⟩ := any_hit hx
  unfold excMatches
  refine wpAny_bind ((L0.keeps k).at ?_)
  dsimp only
  rw [if_pos rfl]
  first
    | refine wpAny_bind (wpAny_seqItems (k _ _ hp) rfl ?_)
    | refine wpAny_bind (wpAny_bind (wpAny_seqItems (k _ _ hp) rfl (wpAny_pure ?_)))
  dsimp only [Option.getD_some, Option.getD]
  refine wpAny_bind (wpAny_pure ?_)
  refine wpAny_bind (skip _ (fun c hc Q' q' => ?_) ?_)
  · refine wpAny_bind (((exm_cls (M := M) X (each c hc)).1.keeps k).at ?_)
    simp only [Bool.not_true, Bool.false_eq_true, if_false]
    first
      | exact wpAny_pure q'
      | exact wpAny_bind (wpAny_pure (wpAny_pure q'))
  refine wpAny_bind ((LT.keeps k).at ?_)
  refine wpAny_bind (find (p := hit K cls) (d := (some true, ())) _ (fun c hc Q' q' => ?_) ?_)
  · refine wpAny_bind (((exm_cls (M := M) X (each c hc)).2.keeps k).at ?_)
    revert q'
    cases hit K cls c <;> intro q' <;> simp only [Bool.false_eq_true, if_false, if_true] at q' ⊢
    · exact wpAny_pure q'
    · exact wpAny_pure q'
  rw [any]
  cases b <;> simp only [Bool.false_eq_true, if_false, if_true] <;> first
    | exact wpAny_pure q
    | exact q
end
end KTN
set_option Elab.async false
set_option linter.all false
set_option maxRecDepth 100000
set_option maxHeartbeats 4000000
/-! EXWT: isinstance of a kept exception, with a tuple of classes -/
namespace EXW
open PySem PySem.Spec PySem.Calls PyProof.Rows
open L2 EXV
section
variable {X : Cx}
/-- classes as values -/
def ClsVs (xs : List V) (cs : List Value) : Prop := ∀ us, Vals xs us → us = cs
theorem ClsVs.refs {as : List Addr} : ClsVs (as.map V.ref) (as.map Value.ref) := by
  induction as with
  | nil =>
    intro us r
    cases r
    rfl
  | cons a as ih =>
    intro us r
    cases r with
    | cons r t =>
      cases (show _ = Value.ref a from r)
      rw [ih _ t]
      rfl
/-- isinstance(e, (c, ..)) of a kept exception -/
def rIsKT (K : PySem.W.Frag) : List V → Hp → VK → Prop := fun xs H Q => ∃ (a D t : Addr) (d : Option Addr) (ys : List V) (cs : List Value) (b : Bool), xs = [.ref a, .ref t] ∧ H a = some (Xc (.ref D) d a) ∧ Dct H d ∧ ExcC K D ∧ SqT K H t ys ∧ ClsVs ys cs ∧ PySem.W.kitAny K (.ref D) cs = some b ∧ Q (.bl b) H
theorem call_isKT : CallR X (.builtin "isinstance") (rIsKT X.K) := by
  intro pins s σ H xs us Q I r h
  obtain ⟨a, D, t, d, ys, cs, b, rfl, ea, hd, C, ht, hcs, e, q⟩ := h
  match us, r with
  | [_, _], .cons rx (.cons rt .nil) =>
    cases rx
    cases (show _ = Value.ref t from rt)
    obtain ⟨ox, od, J, _⟩ := inst I ea hd
    obtain ⟨its, rv, ⟨⟨oc, dd, dt, sl⟩, ho, hc, n, hdt⟩, _⟩ := I.tuple ht
    have ei := hcs its rv
    subst ei
    simp only at hc hdt
    subst hc hdt
    exact PySem.W.kia_tup (kit_of C) I.kIn ⟨ox, od, J⟩ ho e (fun z => nomatch z) fun tk => ⟨.bl b, H, I.kept (t' := tk) fun _ _ z => z, rfl, q⟩
end
end EXW
set_option Elab.async false
set_option linter.all false
set_option maxRecDepth 100000
set_option maxHeartbeats 4000000
/-! R2: dict(zip(keys, values)) of two lists; xs.count(b) of truths. -/
namespace R2
open PySem PySem.Spec PyProof.Rows L2
section
variable {X : Cx}
def eqb (b : Bool) : Value → Bool
  | .bool c => c == b
  | _ => false
theorem vals_bl {bs : List Bool} : ∀ {us : List Value}, Vals (bs.map V.bl) us → us = bs.map Value.bool := by
  induction bs with
  | nil =>
    intro us r
    cases r
    rfl
  | cons b bs ih =>
    intro us r
    rw [List.map_cons] at r
    cases r with
    | cons h t =>
      rw [ih t]
      have : _ = Value.bool b := h
      rw [this]
      rfl
theorem count_b (b : Bool) : ∀ bs : List Bool, (bs.map Value.bool).countP (eqb b) = bs.count b
  | [] => rfl
  | c :: bs => by
    rw [List.map_cons, List.countP_cons, List.count_cons, count_b b bs]
    rfl
theorem mt_bcount : MtR X "list.count" (fun x xs H Q => ∃ (p : Addr) (bs : List Bool) (b : Bool), x = .ref p ∧ xs = [.bl b] ∧ SqL X.K H p (bs.map V.bl) ∧ Q (.int (bs.count b : Nat)) H) := by
  intro pins s σ H x xs v us Q I rx rxs h
  obtain ⟨p, bs, b, rfl, rfl, hs, q⟩ := h
  cases rx
  obtain ⟨u, rfl, ru⟩ := rxs.one
  cases (show u = Value.bool b from ru)
  obtain ⟨its, rv, ⟨⟨cls, dd, data, sl⟩, n, ho, hc, hdn, hd⟩, hlen⟩ := I.list hs
  simp only at hc hd
  subst hc hd
  have hi := vals_bl rv
  subst hi
  refine call_meets PySem.F.slot_list_count ⟨_, ho, rfl⟩ PySem.F.entry_list_count (PySem.F.args_list_count_2 _ _) (SeqAt.list_countAt p _ n dd sl (.bool b) (eqb b)) ⟨ho, fun y hy => ?_, ?_⟩
  · have hy' : y ∈ bs.map Value.bool := by simpa using hy
    obtain ⟨c, _, rfl⟩ := List.mem_map.mp hy'
    exact SeqAt.EqAt.bool_bool c b
  · refine ⟨.int (bs.count b : Nat), H, I.tok _, ⟨s.toks, ?_⟩, q⟩
    show Value.int (((bs.map Value.bool).toArray.toList.countP (eqb b) : Nat) : Int) s.toks = Value.int ((bs.count b : Nat) : Int) s.toks
    rw [show (bs.map Value.bool).toArray.toList = bs.map Value.bool from rfl, count_b]
/-- dict(zip(e, e2)): two lists of one length, the keys ints and texts -/
def tDz (K : PySem.W.Frag) (ta : TA) : TE := fun σ H Q => ta σ H fun vs H1 => ∃ (a b : Addr) (kvs : List (Key × V)), vs = [.ref a, .ref b] ∧ SqL K H1 a (kvs.map fun q => kV q.1) ∧ SqL K H1 b (kvs.map (·.2)) ∧
  ∀ p, H1 p = none → Q (.ref p) (upd H1 p (.dK (mergeK [] kvs)))
theorem key_at (P : Program) (w : World) {kvs : List (Key × V)} : ∀ {us ws : List Value}, Vals (kvs.map fun q => kV q.1) us → Vals (kvs.map (·.2)) ws →
    ∃ prs : List (Key × Value), KV kvs prs ∧ prs.length = us.length ∧ ws.length = us.length ∧ ∀ (i : Nat) (k v : Value), us[i]? = some k → ws[i]? = some v → ∃ q, prs[i]? = some (q, v) ∧ keyIs q k = true := by
  induction kvs with
  | nil =>
    intro us ws r1 r2
    cases r1
    cases r2
    exact ⟨[], .nil, rfl, rfl, fun i k v h => by simp at h⟩
  | cons kv kvs ih =>
    intro us ws r1 r2
    rw [List.map_cons] at r1 r2
    cases r1 with
    | @cons _ u _ us' h1 t1 =>
      cases r2 with
      | @cons _ y _ ws' h2 t2 =>
        obtain ⟨prs, a, b, c, d⟩ := ih t1 t2
        refine ⟨(kv.1, y) :: prs, .cons ⟨rfl, h2⟩ a, by rw [List.length_cons, List.length_cons, b], by rw [List.length_cons, List.length_cons, c], fun i k v e1 e2 => ?_⟩
        cases i with
        | zero =>
          have e1' : u = k := Option.some.inj e1
          have e2' : y = v := Option.some.inj e2
          subst e1' e2'
          exact ⟨kv.1, rfl, kV_is (P := P) (w := w) h1⟩
        | succ i => exact d i k v e1 e2
theorem pe_dz {e e2 : Expr} {ta : TA} {p p2 pos pos2 : Pos} (hc : X.calm = true) (hg : Gl X "dict") (hm : X.mg "dict" = none) (hg2 : Gl X "zip") (hm2 : X.mg "zip" = none) (ha : PA X [e, e2] ta)
    (hs : starEach [e, e2] X.env = (false, eval e X.env) :: starEach [e2] X.env := by rfl) (hpl : (backTo pos2 (starEach [e2] X.env)).any (·.1) = false := by rfl)
    (hs2 : starEach [.Call (.Name "zip" p2) [e, e2] [] pos2] X.env = (false, eval (.Call (.Name "zip" p2) [e, e2] [] pos2) X.env) :: starEach [] X.env := by rfl) :
    PE X (.Call (.Name "dict" p) [.Call (.Name "zip" p2) [e, e2] [] pos2] [] pos) (tDz X.K ta) := by
  refine ⟨fun pins s σ H Q I h => ?_⟩
  refine Call_ (ld_blt I hg hm boot_dict (PyProof.Rows.callWith_type1 (args_cons (Call_ (ld_blt I hg2 hm2 PyProof.Rows.boot_zip (PyProof.Rows.callWith_type1 (thn (ha.run pos2 pins s σ H _ I h) fun us s1 z => ?_) hs hpl))) hs2) hs2 rfl))
  obtain ⟨vs, H1, I1, r1, a, b, kvs, ev, hqa, hqb, q⟩ := z
  subst ev
  cases r1 with
  | cons ra rr =>
    cases rr with
    | cons rb rr =>
      cases rr
      cases ra
      cases rb
      obtain ⟨its, rv, p1, z1⟩ := I1.list hqa
      obtain ⟨its2, rv2, p2', _⟩ := I1.list hqb
      obtain ⟨prs, kv, hl, hl2, hk⟩ := key_at X.prog X.w rv rv2
      have la : a < s1.heap.objs.size := p1.lt
      have lb : b < s1.heap.objs.size := p2'.lt
      have hz : its.length ≤ sizeLine := by rw [← rv.length]; exact z1
      refine call_zip_2 p1.isList p2'.isList fun h' iz iTI iTO i1 i2 hsz hkeep => args_nil ?_
      have Z := PySem.PairArg.zip (prog := X.prog) (w := X.w) (s1.heap.objs.size + 4) (s1.heap.objs.size + 2) (s1.heap.objs.size + 3) s1.heap.objs.size (s1.heap.objs.size + 1) a b (PySem.W.ktu_apart s1.heap.objs.size a b la lb) its.toArray its2.toArray
      have hmin : min its.toArray.size its2.toArray.size = its.length := by
        rw [List.size_toArray, List.size_toArray, hl2]
        exact Nat.min_self _
      have l1' : h'.IsList a its.toArray := p1.isList.at fun o e => hkeep _ o e
      have l2' : h'.IsList b its2.toArray := p2'.isList.at fun o e => hkeep _ o e
      refine call_dict_pairs (knd := mixKind X.prog X.w) (kvs := prs) Z (I1.ok.hd hc) ⟨iz, iTI, ⟨_, _, iTO⟩, i1, i2, l1', l2'⟩ ⟨by rw [hmin, hl], fun i k v hh => ?_⟩ (by rw [hmin]; exact hz) fun h2 tk hd2 k2 => ?_
      · obtain ⟨e1, e2⟩ := hh
        obtain ⟨q0, e3, e4⟩ := hk i k v (by simpa using e1) (by simpa using e2)
        exact ⟨q0, e3, e4⟩
      · have hp : s1.heap.objs.size ≤ h'.objs.size := by rw [hsz]; exact Nat.le_add_right _ _
        have hmain : (h'.objs.size == sysModules) = false := beq_eq_false_iff_ne.mpr (Nat.ne_of_gt (Nat.lt_of_lt_of_le I1.big hp))
        have hlen : (mergeK [] kvs).length ≤ sizeLine := by
          refine Nat.le_trans (length_mergeK kvs []) ?_
          have := kv.length
          rw [List.length_nil, Nat.zero_add, this, hl]
          exact hz
        have keep : ∀ c o, s1.heap.get? c = some o → h2.get? c = some o := fun c o e => by
          refine k2 c o ?_ (hkeep c o e)
          have lt := Heap.lt_size e
          have far : ∀ j, c ≠ s1.heap.objs.size + j := fun j => Nat.ne_of_lt (Nat.lt_of_lt_of_le lt (Nat.le_add_right _ _))
          intro hm
          simp only [List.mem_cons, List.not_mem_nil, or_false] at hm
          rcases hm with z | z | z | z
          · exact far 4 z
          · exact far 3 z
          · exact far 0 z
          · exact far 1 z
        exact ⟨.ref h'.objs.size, upd H1 h'.objs.size (.dK (mergeK [] kvs)), I1.laid (t' := tk) keep hp (show ObjOk X.prog X.w _ _ _ (.dK (mergeK [] kvs)) from ⟨hlen, hmain, merged [] prs, KV.merge kv .nil, hd2⟩), rfl, q _ (I1.hok.fresh hp)⟩
end
end R2
set_option Elab.async false
set_option linter.all false
set_option maxRecDepth 100000
set_option maxHeartbeats 4000000
namespace K09
open PySem PySem.Spec PyProof.Rows L2
open C8 (Cal Mak Met pe_c pe_mk pe_mt pe_mt0)
open EXV (Xc)
open EXW (Dct)
abbrev ex16 : List Str := [("NoKind" : Str), ("Nought" : Str), ("NoShare" : Str), ("Uneven" : Str), ("BadName" : Str), ("NoNumber" : Str), ("NoRide" : Str), ("NoText" : Str), ("NoName" : Str), ("NoDay" : Str), ("NoSeats" : Str), ("TooMany" : Str), ("Taken" : Str), ("NoRule" : Str), ("NothingDone" : Str), ("NoRow" : Str)]
abbrev exF : List Str := [("BadName" : Str), ("NoNumber" : Str), ("NoRide" : Str), ("NoText" : Str), ("NoName" : Str), ("NoDay" : Str), ("NoSeats" : Str), ("Taken" : Str), ("TooMany" : Str), ("NoRule" : Str), ("NothingDone" : Str), ("NoRow" : Str)]
abbrev ex7 : List String := ["ValueError", "KeyError", "IndexError", "LookupError", "ArithmeticError", "RuntimeError", "TypeError"]
abbrev kw12 : List Str := [("bad" : Str), ("number" : Str), ("ride" : Str), ("text" : Str), ("name" : Str), ("day" : Str), ("seats" : Str), ("taken" : Str), ("many" : Str), ("rule" : Str), ("done" : Str), ("row" : Str)]
/-- what is known of a refusal's class D: which of the own ones it is (ow), which of the seven stand above it (ab) -/
structure Ex (K : PySem.W.Frag) (mg : Str → Option Value) (D : Addr) (ow : Str → Bool) (ab : String → Bool) : Prop where
  gl : ∀ x ∈ ex16, mg x = some (.ref (He.ga K x))
  bt : ∀ x ∈ ex7, mg (Str.ofString x) = none
  xc : ExcC K D
  ko : ∀ x ∈ ex16, PySem.W.kitOne K (.ref D) (.ref (He.ga K x)) = some (ow x)
  kb : ∀ x ∈ ex7, PySem.W.kitOne K (.ref D) (.type x) = some (ab x)
/-- the flags -/
def flg (ow : Str → Bool) : List Bool := (exF.map ow) ++ [ow "NoKind" || ow "Nought", ow "NoShare" || ow "Uneven"]
/-- what stands above -/
def abv (ab : String → Bool) : List Bool := ex7.map ab
def mustOf (w : Str) : List Int := ((([("name", [1, 3]), ("day", [3]), ("seats", [2, 3]), ("taken", [5]), ("many", [4]), ("rule", [5]), ("done", []), ("row", [])] : List (Str × List Int)).find? fun q => decide (q.1 = w)).map (·.2)).getD [0]
/-- the places of those above -/
def seenOf (bs : List Bool) : List Int := ((List.range 7).filter fun i => bs.getD i false).map fun i => ((i : Nat) : Int)
/-- the word of it -/
structure WordOk (ow : Str → Bool) (ab : String → Bool) (w : Str) : Prop where
  one : (flg ow).count true = 1
  at_ : ∃ j, j ≤ 11 ∧ (flg ow)[j]? = some true ∧ (∀ m, m < j → (flg ow)[m]? = some false) ∧ kw12[j]? = some w
  seen : seenOf (abv ab) = mustOf w
theorem flt_t {p : Nat → Bool} {f : Nat → Int} {i : Nat} (h : p i = true) : ((List.range (i + 1)).filter p).map f = ((List.range i).filter p).map f ++ [f i] := by
  rw [List.range_succ, List.filter_append, List.map_append]
  simp [h]
theorem flt_f {p : Nat → Bool} {f : Nat → Int} {i : Nat} (h : p i = false) : ((List.range (i + 1)).filter p).map f = ((List.range i).filter p).map f := by
  rw [List.range_succ, List.filter_append, List.map_append]
  simp [h]
theorem kit_any {K : PySem.W.Frag} {t : Value} {g : Value → Bool} : ∀ {cs : List Value}, (∀ c ∈ cs, PySem.W.kitOne K t c = some (g c)) → PySem.W.kitAny K t cs = some (cs.any g)
  | [], _ => rfl
  | c :: cs, h => by
    unfold PySem.W.kitAny
    rw [h c List.mem_cons_self, List.any_cons]
    cases g c with
    | true => rfl
    | false => exact kit_any fun d hd => h d (List.mem_cons_of_mem _ hd)
theorem dct_same {H H' : Hp} {d : Option Addr} (h : Dct H d) (s : Same H H') : Dct H' d := by
  rcases h with h | ⟨dd, fs, e, h⟩
  · exact .inl h
  · exact .inr ⟨dd, fs, e, s _ _ h⟩
theorem dp_bls {K : PySem.W.Frag} {H : Hp} : ∀ bs : List Bool, DpAll K H (bs.map V.bl) (bs.map .bool)
  | [] => .nil
  | b :: bs => .cons (.bl b) (dp_bls bs)
theorem dp_ints {K : PySem.W.Frag} {H : Hp} : ∀ is : List Int, DpAll K H (is.map V.int) (is.map .int)
  | [] => .nil
  | i :: is => .cons (.int i) (dp_ints is)
theorem sh_bls (bs : List Bool) : SeqAt.shaped (.list (bs.map PyData.bool)) = true := by
  have h : PyData.canLayAll0 (bs.map PyData.bool) = true ∧ PyData.depthAll (bs.map PyData.bool) = 0 := by
    induction bs with
    | nil => exact ⟨rfl, rfl⟩
    | cons b bs ih => simp [PyData.canLayAll0, PyData.canLay0, PyData.depthAll, PyData.depth, ih.1, ih.2]
  simp [SeqAt.shaped, PyData.canLay0, PyData.depth, h.1, h.2]
theorem sh_ints (is : List Int) : SeqAt.shaped (.list (is.map PyData.int)) = true := by
  have h : PyData.canLayAll0 (is.map PyData.int) = true ∧ PyData.depthAll (is.map PyData.int) = 0 := by
    induction is with
    | nil => exact ⟨rfl, rfl⟩
    | cons b bs ih => simp [PyData.canLayAll0, PyData.canLay0, PyData.depthAll, PyData.depth, ih.1, ih.2]
  simp [SeqAt.shaped, PyData.canLay0, PyData.depth, h.1, h.2]
theorem eq_ints (is : List Int) : PyData.eqv (.list (is.map PyData.int)) (.list (is.map PyData.int)) = true := by
  rw [show ∀ a b : List PyData, PyData.eqv (.list a) (.list b) = PyData.eqvAll a b from fun a b => by rw [PyData.eqv]]
  induction is with
  | nil => simp [PyData.eqvAll]
  | cons i is ih => rw [List.map_cons, PyData.eqvAll, ih]; simp [PyData.eqv]
theorem split12 : Txt.split "bad number ride text name day seats taken many rule done row" " " = kw12 := by decide +kernel
section
variable {P : Program} {w : World} {K : PySem.W.Frag} {mg : Str → Option Value} {base : Heap} {f C CT D : Addr} {fd : FuncData} {ow : Str → Bool} {ab : String → Bool} {wd : Str}
def spWd (D : Addr) (wd : Str) : Sp := fun vs H Q _ => ∃ (a : Addr) (d : Option Addr), vs = [.ref a] ∧ H a = some (Xc (.ref D) d a) ∧ Dct H d ∧ ∀ H', Same H H' → Q (.str wd) H'
theorem ok_wd (F : Dn K d_l_word f fd) (b : Bl mg) (T : Ex K mg D ow ab) (W : WordOk ow ab wd) : FnOk P w K mg base CX0 1 f fd ["_law_e"] (spWd D wd) := by
  refine F.ok sc_l_word (fun vs H Q E h => ?_) (fun cdv A outer s H vs Q E hr h => ?_)
  · obtain ⟨a, d, rfl, _⟩ := h
    rfl
  · obtain ⟨a, d, rfl, ha, hd, hQ⟩ := h
    have hu : (A.deeper (envOfC d_l_word.qual d_l_word.scope s.heap.objs.size f cdv)).units + 1 < cLine := hu_of hr
    have hu64 : (A.deeper (envOfC d_l_word.qual d_l_word.scope s.heap.objs.size f cdv)).units + 64 < cLine := by have := hr.un; omega
    have hu65 : (A.deeper (envOfC d_l_word.qual d_l_word.scope s.heap.objs.size f cdv)).units + 65 < cLine := by have := hr.un; omega
    refine ⟨_, PSs.nox (pss_cons (ps_set (i := 1) sc_l_word.nd rfl (.inl rfl) (pe_lst (pa_cons (pe_callB (r := EXW.rIsK K) EXW.call_isK rfl b.isi boot_isinstance (pa_cons (pv 0) (pa_cons (pe_glob (v := .ref (He.ga K "BadName")) rfl (T.gl "BadName" (by decide +kernel)) rfl) pa_nil))) (pa_cons (pe_callB (r := EXW.rIsK K) EXW.call_isK rfl b.isi boot_isinstance (pa_cons (pv 0) (pa_cons (pe_glob (v := .ref (He.ga K "NoNumber")) rfl (T.gl "NoNumber" (by decide +kernel)) rfl) pa_nil))) (pa_cons (pe_callB (r := EXW.rIsK K) EXW.call_isK rfl b.isi boot_isinstance (pa_cons (pv 0) (pa_cons (pe_glob (v := .ref (He.ga K "NoRide")) rfl (T.gl "NoRide" (by decide +kernel)) rfl) pa_nil))) (pa_cons (pe_callB (r := EXW.rIsK K) EXW.call_isK rfl b.isi boot_isinstance (pa_cons (pv 0) (pa_cons (pe_glob (v := .ref (He.ga K "NoText")) rfl (T.gl "NoText" (by decide +kernel)) rfl) pa_nil))) pa_nil))))))
      (pss_cons (ps_set (i := 1) sc_l_word.nd rfl (.inl rfl) (pe_op op_cat (pv 1) (pe_lst (pa_cons (pe_callB (r := EXW.rIsK K) EXW.call_isK rfl b.isi boot_isinstance (pa_cons (pv 0) (pa_cons (pe_glob (v := .ref (He.ga K "NoName")) rfl (T.gl "NoName" (by decide +kernel)) rfl) pa_nil))) (pa_cons (pe_callB (r := EXW.rIsK K) EXW.call_isK rfl b.isi boot_isinstance (pa_cons (pv 0) (pa_cons (pe_glob (v := .ref (He.ga K "NoDay")) rfl (T.gl "NoDay" (by decide +kernel)) rfl) pa_nil))) (pa_cons (pe_callB (r := EXW.rIsK K) EXW.call_isK rfl b.isi boot_isinstance (pa_cons (pv 0) (pa_cons (pe_glob (v := .ref (He.ga K "NoSeats")) rfl (T.gl "NoSeats" (by decide +kernel)) rfl) pa_nil))) (pa_cons (pe_callB (r := EXW.rIsK K) EXW.call_isK rfl b.isi boot_isinstance (pa_cons (pv 0) (pa_cons (pe_glob (v := .ref (He.ga K "Taken")) rfl (T.gl "Taken" (by decide +kernel)) rfl) pa_nil))) pa_nil)))))))
      (pss_cons (ps_set (i := 1) sc_l_word.nd rfl (.inl rfl) (pe_op op_cat (pv 1) (pe_lst (pa_cons (pe_callB (r := EXW.rIsK K) EXW.call_isK rfl b.isi boot_isinstance (pa_cons (pv 0) (pa_cons (pe_glob (v := .ref (He.ga K "TooMany")) rfl (T.gl "TooMany" (by decide +kernel)) rfl) pa_nil))) (pa_cons (pe_callB (r := EXW.rIsK K) EXW.call_isK rfl b.isi boot_isinstance (pa_cons (pv 0) (pa_cons (pe_glob (v := .ref (He.ga K "NoRule")) rfl (T.gl "NoRule" (by decide +kernel)) rfl) pa_nil))) (pa_cons (pe_callB (r := EXW.rIsK K) EXW.call_isK rfl b.isi boot_isinstance (pa_cons (pv 0) (pa_cons (pe_glob (v := .ref (He.ga K "NothingDone")) rfl (T.gl "NothingDone" (by decide +kernel)) rfl) pa_nil))) (pa_cons (pe_callB (r := EXW.rIsK K) EXW.call_isK rfl b.isi boot_isinstance (pa_cons (pv 0) (pa_cons (pe_glob (v := .ref (He.ga K "NoRow")) rfl (T.gl "NoRow" (by decide +kernel)) rfl) pa_nil))) pa_nil)))))))
      (pss_cons (ps_set (i := 1) sc_l_word.nd rfl (.inl rfl) (pe_op op_cat (pv 1) (pe_lst (pa_cons (pe_callB (r := EXW.rIsKT K) EXW.call_isKT rfl b.isi boot_isinstance (pa_cons (pv 0) (pa_cons (pe_tup (pa_cons (pe_glob (v := .ref (He.ga K "NoKind")) rfl (T.gl "NoKind" (by decide +kernel)) rfl) (pa_cons (pe_glob (v := .ref (He.ga K "Nought")) rfl (T.gl "Nought" (by decide +kernel)) rfl) pa_nil))) pa_nil))) (pa_cons (pe_callB (r := EXW.rIsKT K) EXW.call_isKT rfl b.isi boot_isinstance (pa_cons (pv 0) (pa_cons (pe_tup (pa_cons (pe_glob (v := .ref (He.ga K "NoShare")) rfl (T.gl "NoShare" (by decide +kernel)) rfl) (pa_cons (pe_glob (v := .ref (He.ga K "Uneven")) rfl (T.gl "Uneven" (by decide +kernel)) rfl) pa_nil))) pa_nil))) pa_nil)))))
      (pss_cons (ps_set (i := 2) sc_l_word.nd rfl (.inr rfl) (pe_lst (pa_cons (pe_callB (r := EXW.rIsK K) EXW.call_isK rfl b.isi boot_isinstance (pa_cons (pv 0) (pa_cons (pe_bltn (v := .ty "ValueError") rfl (T.bt "ValueError" (by decide +kernel)) PyProof.Rows.Boot.«ValueError» rfl) pa_nil))) (pa_cons (pe_callB (r := EXW.rIsK K) EXW.call_isK rfl b.isi boot_isinstance (pa_cons (pv 0) (pa_cons (pe_bltn (v := .ty "KeyError") rfl (T.bt "KeyError" (by decide +kernel)) PyProof.Rows.Boot.«KeyError» rfl) pa_nil))) (pa_cons (pe_callB (r := EXW.rIsK K) EXW.call_isK rfl b.isi boot_isinstance (pa_cons (pv 0) (pa_cons (pe_bltn (v := .ty "IndexError") rfl (T.bt "IndexError" (by decide +kernel)) PyProof.Rows.Boot.«IndexError» rfl) pa_nil))) (pa_cons (pe_callB (r := EXW.rIsK K) EXW.call_isK rfl b.isi boot_isinstance (pa_cons (pv 0) (pa_cons (pe_bltn (v := .ty "LookupError") rfl (T.bt "LookupError" (by decide +kernel)) PyProof.Rows.Boot.«LookupError» rfl) pa_nil))) pa_nil))))))
      (pss_cons (ps_set (i := 2) sc_l_word.nd rfl (.inr rfl) (pe_op op_cat (pv 2) (pe_lst (pa_cons (pe_callB (r := EXW.rIsK K) EXW.call_isK rfl b.isi boot_isinstance (pa_cons (pv 0) (pa_cons (pe_bltn (v := .ty "ArithmeticError") rfl (T.bt "ArithmeticError" (by decide +kernel)) PyProof.Rows.Boot.«ArithmeticError» rfl) pa_nil))) (pa_cons (pe_callB (r := EXW.rIsK K) EXW.call_isK rfl b.isi boot_isinstance (pa_cons (pv 0) (pa_cons (pe_bltn (v := .ty "RuntimeError") rfl (T.bt "RuntimeError" (by decide +kernel)) PyProof.Rows.Boot.«RuntimeError» rfl) pa_nil))) (pa_cons (pe_callB (r := EXW.rIsK K) EXW.call_isK rfl b.isi boot_isinstance (pa_cons (pv 0) (pa_cons (pe_bltn (v := .ty "TypeError") rfl (T.bt "TypeError" (by decide +kernel)) PyProof.Rows.Boot.«TypeError» rfl) pa_nil))) pa_nil))))))
      (pss_cons (ps_set (i := 3) sc_l_word.nd rfl (.inl rfl) (pe_bm PySem.F.plainAttrs_str PySem.F.slot_str_split PySem.F.type_str_split mt_split pe_str (pa_cons pe_str pa_nil)))
      (pss_cons (ps_set (i := 4) sc_l_word.nd rfl (.inl rfl) (pe_disp (pps_cons pe_str (pe_lst (pa_cons pe_int (pa_cons pe_int pa_nil))) (pps_cons pe_str (pe_lst (pa_cons pe_int pa_nil)) (pps_cons pe_str (pe_lst (pa_cons pe_int (pa_cons pe_int pa_nil))) (pps_cons pe_str (pe_lst (pa_cons pe_int pa_nil)) (pps_cons pe_str (pe_lst (pa_cons pe_int pa_nil)) (pps_cons pe_str (pe_lst (pa_cons pe_int pa_nil)) (pps_cons pe_str (pe_lst pa_nil) (pps_cons pe_str (pe_lst pa_nil) pps_nil)))))))) rfl rfl (List.cons_ne_nil _ _) (by decide)))
      (pss_cons (ps_if (PW.pt (pw_or (pt_cmpR op_ne (pe_bm PySem.F.plainAttrs_list PySem.F.slot_list_count PySem.F.type_list_count R2.mt_bcount (pv 1) (pa_cons pe_bl pa_nil)) pe_int (nomark _)) (pw_or1 (pt_cmpR op_gt (pe_bm (r := rIndexD K) PySem.F.plainAttrs_list PySem.F.slot_list_index PySem.F.type_list_index (mt_indexD hu65) (pv 1) (pa_cons pe_bl pa_nil)) pe_int (nomark _))))) pss_never pss_nil)
      (pss_cons (ps_par (i := 5) (j := 6) (by rfl) sc_l_word.nd rfl rfl (by decide) rfl rfl (pa_cons (pe_ix ix_list (pv 3) (pe_bm (r := rIndexD K) PySem.F.plainAttrs_list PySem.F.slot_list_index PySem.F.type_list_index (mt_indexD hu65) (pv 1) (pa_cons pe_bl pa_nil)) (fun _ _ => rfl)) (pa_cons (pe_lc (own := [("_law_k", 7)]) (g := gName 7) rfl sc_l_word.nd (pi_range1 rfl b.range (pa_cons pe_int pa_nil)) (blkOk_by (N := N_l_word) (sc := defScope s_l_word) (by decide +kernel)) (fun _ _ _ _ _ => pg_name (i := 7) sc_l_word.nd rfl (Or.inl rfl)) (fun _ _ _ _ _ => pts_one (pt_val (pe_ix (r := rIxL K) ix_list (pv 2) (pv 7) (fun _ _ => rfl)))) (fun _ _ _ _ _ => pv 7)) pa_nil)) (by rfl))
      (pss_one (ps_ret (pe_ifExp (pt_cmpR (op_eqD hu64) (pv 6) (pe_dget2 hu (pv 4) (pv 5) (pe_lst (pa_cons pe_int pa_nil)) ⟨rfl, rfl, rfl, rfl⟩) (nomark _)) (pv 5) pe_str))))))))))))), ?_⟩
    have sm := Same.refl H
    refine ⟨_, rfl, a, D, d, _, _, _, rfl, ha, hd, T.xc, fun u r => (by cases r; rfl), T.ko "BadName" (by decide +kernel), ?_⟩
    refine ⟨_, rfl, a, D, d, _, _, _, rfl, ha, hd, T.xc, fun u r => (by cases r; rfl), T.ko "NoNumber" (by decide +kernel), ?_⟩
    refine ⟨_, rfl, a, D, d, _, _, _, rfl, ha, hd, T.xc, fun u r => (by cases r; rfl), T.ko "NoRide" (by decide +kernel), ?_⟩
    refine ⟨_, rfl, a, D, d, _, _, _, rfl, ha, hd, T.xc, fun u r => (by cases r; rfl), T.ko "NoText" (by decide +kernel), ?_⟩
    refine ⟨by show 4 ≤ sizeLine; decide, fun p1 f1 => ?_⟩
    have s1 := same_new (o := .lst [V.bl (ow "BadName"), V.bl (ow "NoNumber"), V.bl (ow "NoRide"), V.bl (ow "NoText")]) f1
    have e1 : (upd H p1 (.lst [V.bl (ow "BadName"), V.bl (ow "NoNumber"), V.bl (ow "NoRide"), V.bl (ow "NoText")])) p1 = some (.lst [V.bl (ow "BadName"), V.bl (ow "NoNumber"), V.bl (ow "NoRide"), V.bl (ow "NoText")]) := upd_same
    have ha := s1 _ _ ha
    have hd := dct_same hd s1
    have sm := sm.trans s1
    generalize upd H p1 (.lst [V.bl (ow "BadName"), V.bl (ow "NoNumber"), V.bl (ow "NoRide"), V.bl (ow "NoText")]) = G1 at sm e1 hd ha ⊢
    clear s1
    have hl := e1
    refine ⟨_, rfl, ?_⟩
    refine ⟨_, rfl, a, D, d, _, _, _, rfl, ha, hd, T.xc, fun u r => (by cases r; rfl), T.ko "NoName" (by decide +kernel), ?_⟩
    refine ⟨_, rfl, a, D, d, _, _, _, rfl, ha, hd, T.xc, fun u r => (by cases r; rfl), T.ko "NoDay" (by decide +kernel), ?_⟩
    refine ⟨_, rfl, a, D, d, _, _, _, rfl, ha, hd, T.xc, fun u r => (by cases r; rfl), T.ko "NoSeats" (by decide +kernel), ?_⟩
    refine ⟨_, rfl, a, D, d, _, _, _, rfl, ha, hd, T.xc, fun u r => (by cases r; rfl), T.ko "Taken" (by decide +kernel), ?_⟩
    refine ⟨by show 4 ≤ sizeLine; decide, fun p2 f2 => ?_⟩
    have s2 := same_new (o := .lst [V.bl (ow "NoName"), V.bl (ow "NoDay"), V.bl (ow "NoSeats"), V.bl (ow "Taken")]) f2
    have e2 : (upd G1 p2 (.lst [V.bl (ow "NoName"), V.bl (ow "NoDay"), V.bl (ow "NoSeats"), V.bl (ow "Taken")])) p2 = some (.lst [V.bl (ow "NoName"), V.bl (ow "NoDay"), V.bl (ow "NoSeats"), V.bl (ow "Taken")]) := upd_same
    have ha := s2 _ _ ha
    have hl := s2 _ _ hl
    have hd := dct_same hd s2
    have sm := sm.trans s2
    generalize upd G1 p2 (.lst [V.bl (ow "NoName"), V.bl (ow "NoDay"), V.bl (ow "NoSeats"), V.bl (ow "Taken")]) = G2 at sm e2 hd ha hl ⊢
    clear s2
    refine ⟨p1, p2, _, _, rfl, rfl, hl, e2, by show 8 ≤ sizeLine; decide, fun p3 f3 => ?_⟩
    have s3 := same_new (o := .lst ([V.bl (ow "BadName"), V.bl (ow "NoNumber"), V.bl (ow "NoRide"), V.bl (ow "NoText")] ++ [V.bl (ow "NoName"), V.bl (ow "NoDay"), V.bl (ow "NoSeats"), V.bl (ow "Taken")])) f3
    dsimp only [List.cons_append, List.nil_append] at s3 ⊢
    have e3 : (upd G2 p3 (.lst [V.bl (ow "BadName"), V.bl (ow "NoNumber"), V.bl (ow "NoRide"), V.bl (ow "NoText"), V.bl (ow "NoName"), V.bl (ow "NoDay"), V.bl (ow "NoSeats"), V.bl (ow "Taken")])) p3 = some (.lst [V.bl (ow "BadName"), V.bl (ow "NoNumber"), V.bl (ow "NoRide"), V.bl (ow "NoText"), V.bl (ow "NoName"), V.bl (ow "NoDay"), V.bl (ow "NoSeats"), V.bl (ow "Taken")]) := upd_same
    have ha := s3 _ _ ha
    have hd := dct_same hd s3
    have sm := sm.trans s3
    generalize upd G2 p3 (.lst [V.bl (ow "BadName"), V.bl (ow "NoNumber"), V.bl (ow "NoRide"), V.bl (ow "NoText"), V.bl (ow "NoName"), V.bl (ow "NoDay"), V.bl (ow "NoSeats"), V.bl (ow "Taken")]) = G3 at sm e3 hd ha ⊢
    clear s3 hl
    have hl := e3
    refine ⟨_, rfl, ?_⟩
    refine ⟨_, rfl, a, D, d, _, _, _, rfl, ha, hd, T.xc, fun u r => (by cases r; rfl), T.ko "TooMany" (by decide +kernel), ?_⟩
    refine ⟨_, rfl, a, D, d, _, _, _, rfl, ha, hd, T.xc, fun u r => (by cases r; rfl), T.ko "NoRule" (by decide +kernel), ?_⟩
    refine ⟨_, rfl, a, D, d, _, _, _, rfl, ha, hd, T.xc, fun u r => (by cases r; rfl), T.ko "NothingDone" (by decide +kernel), ?_⟩
    refine ⟨_, rfl, a, D, d, _, _, _, rfl, ha, hd, T.xc, fun u r => (by cases r; rfl), T.ko "NoRow" (by decide +kernel), ?_⟩
    refine ⟨by show 4 ≤ sizeLine; decide, fun p4 f4 => ?_⟩
    have s4 := same_new (o := .lst [V.bl (ow "TooMany"), V.bl (ow "NoRule"), V.bl (ow "NothingDone"), V.bl (ow "NoRow")]) f4
    have e4 : (upd G3 p4 (.lst [V.bl (ow "TooMany"), V.bl (ow "NoRule"), V.bl (ow "NothingDone"), V.bl (ow "NoRow")])) p4 = some (.lst [V.bl (ow "TooMany"), V.bl (ow "NoRule"), V.bl (ow "NothingDone"), V.bl (ow "NoRow")]) := upd_same
    have ha := s4 _ _ ha
    have hl := s4 _ _ hl
    have hd := dct_same hd s4
    have sm := sm.trans s4
    generalize upd G3 p4 (.lst [V.bl (ow "TooMany"), V.bl (ow "NoRule"), V.bl (ow "NothingDone"), V.bl (ow "NoRow")]) = G4 at sm e4 hd ha hl ⊢
    clear s4
    refine ⟨p3, p4, _, _, rfl, rfl, hl, e4, by show 12 ≤ sizeLine; decide, fun p5 f5 => ?_⟩
    have s5 := same_new (o := .lst ([V.bl (ow "BadName"), V.bl (ow "NoNumber"), V.bl (ow "NoRide"), V.bl (ow "NoText"), V.bl (ow "NoName"), V.bl (ow "NoDay"), V.bl (ow "NoSeats"), V.bl (ow "Taken")] ++ [V.bl (ow "TooMany"), V.bl (ow "NoRule"), V.bl (ow "NothingDone"), V.bl (ow "NoRow")])) f5
    dsimp only [List.cons_append, List.nil_append] at s5 ⊢
    have e5 : (upd G4 p5 (.lst [V.bl (ow "BadName"), V.bl (ow "NoNumber"), V.bl (ow "NoRide"), V.bl (ow "NoText"), V.bl (ow "NoName"), V.bl (ow "NoDay"), V.bl (ow "NoSeats"), V.bl (ow "Taken"), V.bl (ow "TooMany"), V.bl (ow "NoRule"), V.bl (ow "NothingDone"), V.bl (ow "NoRow")])) p5 = some (.lst [V.bl (ow "BadName"), V.bl (ow "NoNumber"), V.bl (ow "NoRide"), V.bl (ow "NoText"), V.bl (ow "NoName"), V.bl (ow "NoDay"), V.bl (ow "NoSeats"), V.bl (ow "Taken"), V.bl (ow "TooMany"), V.bl (ow "NoRule"), V.bl (ow "NothingDone"), V.bl (ow "NoRow")]) := upd_same
    have ha := s5 _ _ ha
    have hd := dct_same hd s5
    have sm := sm.trans s5
    generalize upd G4 p5 (.lst [V.bl (ow "BadName"), V.bl (ow "NoNumber"), V.bl (ow "NoRide"), V.bl (ow "NoText"), V.bl (ow "NoName"), V.bl (ow "NoDay"), V.bl (ow "NoSeats"), V.bl (ow "Taken"), V.bl (ow "TooMany"), V.bl (ow "NoRule"), V.bl (ow "NothingDone"), V.bl (ow "NoRow")]) = G5 at sm e5 hd ha ⊢
    clear s5 hl
    have hl := e5
    refine ⟨_, rfl, ?_⟩
    refine ⟨_, rfl, by show 2 ≤ sizeLine; decide, fun t6 f6 => ?_⟩
    have s6 := same_new (o := .tup [.ref (He.ga K "NoKind"), .ref (He.ga K "Nought")]) f6
    have e6 : (upd G5 t6 (.tup [.ref (He.ga K "NoKind"), .ref (He.ga K "Nought")])) t6 = some (.tup ([He.ga K "NoKind", He.ga K "Nought"].map V.ref)) := upd_same
    have ha := s6 _ _ ha
    have hl := s6 _ _ hl
    have hd := dct_same hd s6
    have sm := sm.trans s6
    generalize upd G5 t6 (.tup [.ref (He.ga K "NoKind"), .ref (He.ga K "Nought")]) = G6 at sm e6 hd ha hl ⊢
    clear s6
    refine ⟨a, D, t6, d, _, _, (ow "NoKind" || ow "Nought"), rfl, ha, hd, T.xc, SqT.of e6, EXW.ClsVs.refs, ?_, ?_⟩
    · have := kit_any (K := K) (t := .ref D) (g := fun c => if c = .ref (He.ga K "NoKind") then ow "NoKind" else ow "Nought") (cs := [He.ga K "NoKind", He.ga K "Nought"].map Value.ref) (fun c hc => by
        simp only [List.map_cons, List.map_nil, List.mem_cons, List.not_mem_nil, or_false] at hc
        by_cases q : c = .ref (He.ga K "NoKind")
        · rw [if_pos q, q]; exact T.ko "NoKind" (by decide +kernel)
        · rw [if_neg q, hc.resolve_left q]; exact T.ko "Nought" (by decide +kernel))
      rw [this]
      simp only [List.map_cons, List.map_nil, List.any_cons, List.any_nil, Bool.or_false, if_true]
      by_cases q : (Value.ref (He.ga K "Nought")) = .ref (He.ga K "NoKind")
      · have h1 := T.ko "NoKind" (by decide +kernel)
        have h2 := T.ko "Nought" (by decide +kernel)
        rw [q, h1] at h2
        rw [if_pos q, Option.some.inj h2]
      · rw [if_neg q]
    refine ⟨_, rfl, by show 2 ≤ sizeLine; decide, fun t7 f7 => ?_⟩
    have s7 := same_new (o := .tup [.ref (He.ga K "NoShare"), .ref (He.ga K "Uneven")]) f7
    have e7 : (upd G6 t7 (.tup [.ref (He.ga K "NoShare"), .ref (He.ga K "Uneven")])) t7 = some (.tup ([He.ga K "NoShare", He.ga K "Uneven"].map V.ref)) := upd_same
    have ha := s7 _ _ ha
    have hl := s7 _ _ hl
    have hd := dct_same hd s7
    have sm := sm.trans s7
    generalize upd G6 t7 (.tup [.ref (He.ga K "NoShare"), .ref (He.ga K "Uneven")]) = G7 at sm e7 hd ha hl ⊢
    clear s7
    refine ⟨a, D, t7, d, _, _, (ow "NoShare" || ow "Uneven"), rfl, ha, hd, T.xc, SqT.of e7, EXW.ClsVs.refs, ?_, ?_⟩
    · have := kit_any (K := K) (t := .ref D) (g := fun c => if c = .ref (He.ga K "NoShare") then ow "NoShare" else ow "Uneven") (cs := [He.ga K "NoShare", He.ga K "Uneven"].map Value.ref) (fun c hc => by
        simp only [List.map_cons, List.map_nil, List.mem_cons, List.not_mem_nil, or_false] at hc
        by_cases q : c = .ref (He.ga K "NoShare")
        · rw [if_pos q, q]; exact T.ko "NoShare" (by decide +kernel)
        · rw [if_neg q, hc.resolve_left q]; exact T.ko "Uneven" (by decide +kernel))
      rw [this]
      simp only [List.map_cons, List.map_nil, List.any_cons, List.any_nil, Bool.or_false, if_true]
      by_cases q : (Value.ref (He.ga K "Uneven")) = .ref (He.ga K "NoShare")
      · have h1 := T.ko "NoShare" (by decide +kernel)
        have h2 := T.ko "Uneven" (by decide +kernel)
        rw [q, h1] at h2
        rw [if_pos q, Option.some.inj h2]
      · rw [if_neg q]
    refine ⟨by show 2 ≤ sizeLine; decide, fun p8 f8 => ?_⟩
    have s8 := same_new (o := .lst [V.bl (ow "NoKind" || ow "Nought"), V.bl (ow "NoShare" || ow "Uneven")]) f8
    have e8 : (upd G7 p8 (.lst [V.bl (ow "NoKind" || ow "Nought"), V.bl (ow "NoShare" || ow "Uneven")])) p8 = some (.lst [V.bl (ow "NoKind" || ow "Nought"), V.bl (ow "NoShare" || ow "Uneven")]) := upd_same
    have ha := s8 _ _ ha
    have hl := s8 _ _ hl
    have hd := dct_same hd s8
    have sm := sm.trans s8
    generalize upd G7 p8 (.lst [V.bl (ow "NoKind" || ow "Nought"), V.bl (ow "NoShare" || ow "Uneven")]) = G8 at sm e8 hd ha hl ⊢
    clear s8
    refine ⟨p5, p8, _, _, rfl, rfl, hl, e8, by show 14 ≤ sizeLine; decide, fun p9 f9 => ?_⟩
    have s9 := same_new (o := .lst ([V.bl (ow "BadName"), V.bl (ow "NoNumber"), V.bl (ow "NoRide"), V.bl (ow "NoText"), V.bl (ow "NoName"), V.bl (ow "NoDay"), V.bl (ow "NoSeats"), V.bl (ow "Taken"), V.bl (ow "TooMany"), V.bl (ow "NoRule"), V.bl (ow "NothingDone"), V.bl (ow "NoRow")] ++ [V.bl (ow "NoKind" || ow "Nought"), V.bl (ow "NoShare" || ow "Uneven")])) f9
    dsimp only [List.cons_append, List.nil_append] at s9 ⊢
    have e9 : (upd G8 p9 (.lst [V.bl (ow "BadName"), V.bl (ow "NoNumber"), V.bl (ow "NoRide"), V.bl (ow "NoText"), V.bl (ow "NoName"), V.bl (ow "NoDay"), V.bl (ow "NoSeats"), V.bl (ow "Taken"), V.bl (ow "TooMany"), V.bl (ow "NoRule"), V.bl (ow "NothingDone"), V.bl (ow "NoRow"), V.bl (ow "NoKind" || ow "Nought"), V.bl (ow "NoShare" || ow "Uneven")])) p9 = some (.lst [V.bl (ow "BadName"), V.bl (ow "NoNumber"), V.bl (ow "NoRide"), V.bl (ow "NoText"), V.bl (ow "NoName"), V.bl (ow "NoDay"), V.bl (ow "NoSeats"), V.bl (ow "Taken"), V.bl (ow "TooMany"), V.bl (ow "NoRule"), V.bl (ow "NothingDone"), V.bl (ow "NoRow"), V.bl (ow "NoKind" || ow "Nought"), V.bl (ow "NoShare" || ow "Uneven")]) := upd_same
    have ha := s9 _ _ ha
    have hd := dct_same hd s9
    have sm := sm.trans s9
    generalize upd G8 p9 (.lst [V.bl (ow "BadName"), V.bl (ow "NoNumber"), V.bl (ow "NoRide"), V.bl (ow "NoText"), V.bl (ow "NoName"), V.bl (ow "NoDay"), V.bl (ow "NoSeats"), V.bl (ow "Taken"), V.bl (ow "TooMany"), V.bl (ow "NoRule"), V.bl (ow "NothingDone"), V.bl (ow "NoRow"), V.bl (ow "NoKind" || ow "Nought"), V.bl (ow "NoShare" || ow "Uneven")]) = G9 at sm e9 hd ha ⊢
    clear s9 hl
    have hl := e9
    have hfl : G9 p9 = some (.lst ((flg ow).map V.bl)) := hl
    clear hl
    refine ⟨_, rfl, a, D, d, _, _, _, rfl, ha, hd, T.xc, fun u r => (by cases r; rfl), T.kb "ValueError" (by decide +kernel), ?_⟩
    refine ⟨_, rfl, a, D, d, _, _, _, rfl, ha, hd, T.xc, fun u r => (by cases r; rfl), T.kb "KeyError" (by decide +kernel), ?_⟩
    refine ⟨_, rfl, a, D, d, _, _, _, rfl, ha, hd, T.xc, fun u r => (by cases r; rfl), T.kb "IndexError" (by decide +kernel), ?_⟩
    refine ⟨_, rfl, a, D, d, _, _, _, rfl, ha, hd, T.xc, fun u r => (by cases r; rfl), T.kb "LookupError" (by decide +kernel), ?_⟩
    refine ⟨by show 4 ≤ sizeLine; decide, fun p10 f10 => ?_⟩
    have s10 := same_new (o := .lst [V.bl (ab "ValueError"), V.bl (ab "KeyError"), V.bl (ab "IndexError"), V.bl (ab "LookupError")]) f10
    have e10 : (upd G9 p10 (.lst [V.bl (ab "ValueError"), V.bl (ab "KeyError"), V.bl (ab "IndexError"), V.bl (ab "LookupError")])) p10 = some (.lst [V.bl (ab "ValueError"), V.bl (ab "KeyError"), V.bl (ab "IndexError"), V.bl (ab "LookupError")]) := upd_same
    have ha := s10 _ _ ha
    have hfl := s10 _ _ hfl
    have hd := dct_same hd s10
    have sm := sm.trans s10
    generalize upd G9 p10 (.lst [V.bl (ab "ValueError"), V.bl (ab "KeyError"), V.bl (ab "IndexError"), V.bl (ab "LookupError")]) = G10 at sm e10 hd ha hfl ⊢
    clear s10
    have hl := e10
    refine ⟨_, rfl, ?_⟩
    refine ⟨_, rfl, a, D, d, _, _, _, rfl, ha, hd, T.xc, fun u r => (by cases r; rfl), T.kb "ArithmeticError" (by decide +kernel), ?_⟩
    refine ⟨_, rfl, a, D, d, _, _, _, rfl, ha, hd, T.xc, fun u r => (by cases r; rfl), T.kb "RuntimeError" (by decide +kernel), ?_⟩
    refine ⟨_, rfl, a, D, d, _, _, _, rfl, ha, hd, T.xc, fun u r => (by cases r; rfl), T.kb "TypeError" (by decide +kernel), ?_⟩
    refine ⟨by show 3 ≤ sizeLine; decide, fun p11 f11 => ?_⟩
    have s11 := same_new (o := .lst [V.bl (ab "ArithmeticError"), V.bl (ab "RuntimeError"), V.bl (ab "TypeError")]) f11
    have e11 : (upd G10 p11 (.lst [V.bl (ab "ArithmeticError"), V.bl (ab "RuntimeError"), V.bl (ab "TypeError")])) p11 = some (.lst [V.bl (ab "ArithmeticError"), V.bl (ab "RuntimeError"), V.bl (ab "TypeError")]) := upd_same
    have ha := s11 _ _ ha
    have hfl := s11 _ _ hfl
    have hl := s11 _ _ hl
    have hd := dct_same hd s11
    have sm := sm.trans s11
    generalize upd G10 p11 (.lst [V.bl (ab "ArithmeticError"), V.bl (ab "RuntimeError"), V.bl (ab "TypeError")]) = G11 at sm e11 hd ha hfl hl ⊢
    clear s11
    refine ⟨p10, p11, _, _, rfl, rfl, hl, e11, by show 7 ≤ sizeLine; decide, fun p12 f12 => ?_⟩
    have s12 := same_new (o := .lst ([V.bl (ab "ValueError"), V.bl (ab "KeyError"), V.bl (ab "IndexError"), V.bl (ab "LookupError")] ++ [V.bl (ab "ArithmeticError"), V.bl (ab "RuntimeError"), V.bl (ab "TypeError")])) f12
    dsimp only [List.cons_append, List.nil_append] at s12 ⊢
    have e12 : (upd G11 p12 (.lst [V.bl (ab "ValueError"), V.bl (ab "KeyError"), V.bl (ab "IndexError"), V.bl (ab "LookupError"), V.bl (ab "ArithmeticError"), V.bl (ab "RuntimeError"), V.bl (ab "TypeError")])) p12 = some (.lst [V.bl (ab "ValueError"), V.bl (ab "KeyError"), V.bl (ab "IndexError"), V.bl (ab "LookupError"), V.bl (ab "ArithmeticError"), V.bl (ab "RuntimeError"), V.bl (ab "TypeError")]) := upd_same
    have ha := s12 _ _ ha
    have hfl := s12 _ _ hfl
    have hd := dct_same hd s12
    have sm := sm.trans s12
    generalize upd G11 p12 (.lst [V.bl (ab "ValueError"), V.bl (ab "KeyError"), V.bl (ab "IndexError"), V.bl (ab "LookupError"), V.bl (ab "ArithmeticError"), V.bl (ab "RuntimeError"), V.bl (ab "TypeError")]) = G12 at sm e12 hd ha hfl ⊢
    clear s12 hl
    have hl := e12
    have hab : G12 p12 = some (.lst ((abv ab).map V.bl)) := hl
    clear hl
    refine ⟨rfl, _, _, rfl, rfl, by decide +kernel, by decide +kernel, fun pw fw => ?_⟩
    rw [split12]
    have sw := same_new (o := .lst (kw12.map V.str)) fw
    have hw : (upd G12 pw (.lst (kw12.map V.str))) pw = some (.lst (kw12.map V.str)) := upd_same
    have hfl := sw _ _ hfl
    have hab := sw _ _ hab
    have sm := sm.trans sw
    generalize upd G12 pw (.lst (kw12.map V.str)) = Gw at sm hw hfl hab ⊢
    clear sw
    have sm0 := sm
    intro pd fpd
    have sp := same_new (o := .dK []) fpd
    have hp : (upd Gw pd (.dK [])) pd = some (.dK []) := upd_same
    have hfl := sp _ _ hfl
    have hab := sp _ _ hab
    have hw := sp _ _ hw
    have sm := sm.trans sp
    have nd0 : ∀ {b : Addr} {o : HO}, Gw b = some o → b ≠ pd := fun e => ne_of_none e fpd
    generalize upd Gw pd (.dK []) = Gd at sm hp hfl hab hw ⊢
    clear sp
    refine ⟨by show 2 ≤ sizeLine; decide, fun q0 g0 => ?_⟩
    have sp := same_new (o := .lst [.int 1, .int 3]) g0
    have h0 : (upd Gd q0 (.lst [.int 1, .int 3])) q0 = some (.lst ((([1, 3] : List Int)).map V.int)) := upd_same
    have hfl := sp _ _ hfl
    have hab := sp _ _ hab
    have hw := sp _ _ hw
    have hp := sp _ _ hp
    have sm := sm.trans sp
    generalize upd Gd q0 (.lst [.int 1, .int 3]) = J0 at sm h0 hfl hab hw hp ⊢
    clear sp
    refine ⟨by show 1 ≤ sizeLine; decide, fun q1 g1 => ?_⟩
    have sp := same_new (o := .lst [.int 3]) g1
    have h1 : (upd J0 q1 (.lst [.int 3])) q1 = some (.lst ((([3] : List Int)).map V.int)) := upd_same
    have hfl := sp _ _ hfl
    have hab := sp _ _ hab
    have hw := sp _ _ hw
    have hp := sp _ _ hp
    have h0 := sp _ _ h0
    have sm := sm.trans sp
    generalize upd J0 q1 (.lst [.int 3]) = J1 at sm h1 hfl hab hw hp h0 ⊢
    clear sp
    refine ⟨by show 2 ≤ sizeLine; decide, fun q2 g2 => ?_⟩
    have sp := same_new (o := .lst [.int 2, .int 3]) g2
    have h2 : (upd J1 q2 (.lst [.int 2, .int 3])) q2 = some (.lst ((([2, 3] : List Int)).map V.int)) := upd_same
    have hfl := sp _ _ hfl
    have hab := sp _ _ hab
    have hw := sp _ _ hw
    have hp := sp _ _ hp
    have h0 := sp _ _ h0
    have h1 := sp _ _ h1
    have sm := sm.trans sp
    generalize upd J1 q2 (.lst [.int 2, .int 3]) = J2 at sm h2 hfl hab hw hp h0 h1 ⊢
    clear sp
    refine ⟨by show 1 ≤ sizeLine; decide, fun q3 g3 => ?_⟩
    have sp := same_new (o := .lst [.int 5]) g3
    have h3 : (upd J2 q3 (.lst [.int 5])) q3 = some (.lst ((([5] : List Int)).map V.int)) := upd_same
    have hfl := sp _ _ hfl
    have hab := sp _ _ hab
    have hw := sp _ _ hw
    have hp := sp _ _ hp
    have h0 := sp _ _ h0
    have h1 := sp _ _ h1
    have h2 := sp _ _ h2
    have sm := sm.trans sp
    generalize upd J2 q3 (.lst [.int 5]) = J3 at sm h3 hfl hab hw hp h0 h1 h2 ⊢
    clear sp
    refine ⟨by show 1 ≤ sizeLine; decide, fun q4 g4 => ?_⟩
    have sp := same_new (o := .lst [.int 4]) g4
    have h4 : (upd J3 q4 (.lst [.int 4])) q4 = some (.lst ((([4] : List Int)).map V.int)) := upd_same
    have hfl := sp _ _ hfl
    have hab := sp _ _ hab
    have hw := sp _ _ hw
    have hp := sp _ _ hp
    have h0 := sp _ _ h0
    have h1 := sp _ _ h1
    have h2 := sp _ _ h2
    have h3 := sp _ _ h3
    have sm := sm.trans sp
    generalize upd J3 q4 (.lst [.int 4]) = J4 at sm h4 hfl hab hw hp h0 h1 h2 h3 ⊢
    clear sp
    refine ⟨by show 1 ≤ sizeLine; decide, fun q5 g5 => ?_⟩
    have sp := same_new (o := .lst [.int 5]) g5
    have h5 : (upd J4 q5 (.lst [.int 5])) q5 = some (.lst ((([5] : List Int)).map V.int)) := upd_same
    have hfl := sp _ _ hfl
    have hab := sp _ _ hab
    have hw := sp _ _ hw
    have hp := sp _ _ hp
    have h0 := sp _ _ h0
    have h1 := sp _ _ h1
    have h2 := sp _ _ h2
    have h3 := sp _ _ h3
    have h4 := sp _ _ h4
    have sm := sm.trans sp
    generalize upd J4 q5 (.lst [.int 5]) = J5 at sm h5 hfl hab hw hp h0 h1 h2 h3 h4 ⊢
    clear sp
    refine ⟨by show 0 ≤ sizeLine; decide, fun q6 g6 => ?_⟩
    have sp := same_new (o := .lst []) g6
    have h6 : (upd J5 q6 (.lst [])) q6 = some (.lst ((([] : List Int)).map V.int)) := upd_same
    have hfl := sp _ _ hfl
    have hab := sp _ _ hab
    have hw := sp _ _ hw
    have hp := sp _ _ hp
    have h0 := sp _ _ h0
    have h1 := sp _ _ h1
    have h2 := sp _ _ h2
    have h3 := sp _ _ h3
    have h4 := sp _ _ h4
    have h5 := sp _ _ h5
    have sm := sm.trans sp
    generalize upd J5 q6 (.lst []) = J6 at sm h6 hfl hab hw hp h0 h1 h2 h3 h4 h5 ⊢
    clear sp
    refine ⟨by show 0 ≤ sizeLine; decide, fun q7 g7 => ?_⟩
    have sp := same_new (o := .lst []) g7
    have h7 : (upd J6 q7 (.lst [])) q7 = some (.lst ((([] : List Int)).map V.int)) := upd_same
    have hfl := sp _ _ hfl
    have hab := sp _ _ hab
    have hw := sp _ _ hw
    have hp := sp _ _ hp
    have h0 := sp _ _ h0
    have h1 := sp _ _ h1
    have h2 := sp _ _ h2
    have h3 := sp _ _ h3
    have h4 := sp _ _ h4
    have h5 := sp _ _ h5
    have h6 := sp _ _ h6
    have sm := sm.trans sp
    generalize upd J6 q7 (.lst []) = J7 at sm h7 hfl hab hw hp h0 h1 h2 h3 h4 h5 h6 ⊢
    clear sp
    refine ⟨hp, ([(Sum.inr ("name" : Str), V.ref q0), (Sum.inr ("day" : Str), V.ref q1), (Sum.inr ("seats" : Str), V.ref q2), (Sum.inr ("taken" : Str), V.ref q3), (Sum.inr ("many" : Str), V.ref q4), (Sum.inr ("rule" : Str), V.ref q5), (Sum.inr ("done" : Str), V.ref q6), (Sum.inr ("row" : Str), V.ref q7)] : List (Key × V)), rfl, by show 8 ≤ _; decide, ?_⟩
    have emg : mergeK [] ([(Sum.inr ("name" : Str), V.ref q0), (Sum.inr ("day" : Str), V.ref q1), (Sum.inr ("seats" : Str), V.ref q2), (Sum.inr ("taken" : Str), V.ref q3), (Sum.inr ("many" : Str), V.ref q4), (Sum.inr ("rule" : Str), V.ref q5), (Sum.inr ("done" : Str), V.ref q6), (Sum.inr ("row" : Str), V.ref q7)] : List (Key × V)) = [(Sum.inr ("name" : Str), V.ref q0), (Sum.inr ("day" : Str), V.ref q1), (Sum.inr ("seats" : Str), V.ref q2), (Sum.inr ("taken" : Str), V.ref q3), (Sum.inr ("many" : Str), V.ref q4), (Sum.inr ("rule" : Str), V.ref q5), (Sum.inr ("done" : Str), V.ref q6), (Sum.inr ("row" : Str), V.ref q7)] := by rfl
    rw [emg]
    have kp : ∀ {b : Addr} {ys : List V}, J7 b = some (.lst ys) → (upd J7 pd (.dK [(Sum.inr ("name" : Str), V.ref q0), (Sum.inr ("day" : Str), V.ref q1), (Sum.inr ("seats" : Str), V.ref q2), (Sum.inr ("taken" : Str), V.ref q3), (Sum.inr ("many" : Str), V.ref q4), (Sum.inr ("rule" : Str), V.ref q5), (Sum.inr ("done" : Str), V.ref q6), (Sum.inr ("row" : Str), V.ref q7)])) b = some (.lst ys) := fun e => by rw [upd_ne (fun z => by rw [z, hp] at e; cases e)]; exact e
    have hdd : (upd J7 pd (.dK [(Sum.inr ("name" : Str), V.ref q0), (Sum.inr ("day" : Str), V.ref q1), (Sum.inr ("seats" : Str), V.ref q2), (Sum.inr ("taken" : Str), V.ref q3), (Sum.inr ("many" : Str), V.ref q4), (Sum.inr ("rule" : Str), V.ref q5), (Sum.inr ("done" : Str), V.ref q6), (Sum.inr ("row" : Str), V.ref q7)])) pd = some (.dK [(Sum.inr ("name" : Str), V.ref q0), (Sum.inr ("day" : Str), V.ref q1), (Sum.inr ("seats" : Str), V.ref q2), (Sum.inr ("taken" : Str), V.ref q3), (Sum.inr ("many" : Str), V.ref q4), (Sum.inr ("rule" : Str), V.ref q5), (Sum.inr ("done" : Str), V.ref q6), (Sum.inr ("row" : Str), V.ref q7)]) := upd_same
    have hfl := kp hfl
    have hab := kp hab
    have hw := kp hw
    have h0 := kp h0
    have h1 := kp h1
    have h2 := kp h2
    have h3 := kp h3
    have h4 := kp h4
    have h5 := kp h5
    have h6 := kp h6
    have h7 := kp h7
    have sm2 : Same H (upd J7 pd (.dK [(Sum.inr ("name" : Str), V.ref q0), (Sum.inr ("day" : Str), V.ref q1), (Sum.inr ("seats" : Str), V.ref q2), (Sum.inr ("taken" : Str), V.ref q3), (Sum.inr ("many" : Str), V.ref q4), (Sum.inr ("rule" : Str), V.ref q5), (Sum.inr ("done" : Str), V.ref q6), (Sum.inr ("row" : Str), V.ref q7)])) := fun b o e => by
      by_cases z : b = pd
      · subst z
        exact absurd (sm0 _ _ e) (fun e2 => by rw [fpd] at e2; cases e2)
      · rw [upd_ne z]; exact sm b o e
    generalize upd J7 pd (.dK [(Sum.inr ("name" : Str), V.ref q0), (Sum.inr ("day" : Str), V.ref q1), (Sum.inr ("seats" : Str), V.ref q2), (Sum.inr ("taken" : Str), V.ref q3), (Sum.inr ("many" : Str), V.ref q4), (Sum.inr ("rule" : Str), V.ref q5), (Sum.inr ("done" : Str), V.ref q6), (Sum.inr ("row" : Str), V.ref q7)]) = Z at hdd sm2 hfl hab hw h0 h1 h2 h3 h4 h5 h6 h7 ⊢
    clear sm kp
    obtain ⟨j, j11, ej, before, ewd⟩ := W.at_
    have lfl : (flg ow).length = 14 := by unfold flg; rfl
    have dfl : Dp K Z (.ref p9) (.list ((flg ow).map .bool)) := Dp.lst (SqL.of hfl) (dp_bls _)
    refine ⟨_, rfl, .inl ⟨rfl, _, SqL.of hfl⟩, p9, _, true, rfl, rfl, SqL.of hfl, rfl, _, rfl, ?_⟩
    rw [W.one]
    refine iteF ?_
    refine ⟨_, rfl, .inl ⟨rfl, _, SqL.of hfl⟩, p9, .bl true, .bool true, (flg ow).map .bool, j, .bool true, rfl, rfl, dfl, .bl true, sh_bls _, rfl, by rw [List.getElem?_map, ej]; rfl, rfl, fun m z hm hz => ?_, _, _, rfl, rfl, _, rfl, ?_⟩
    · rw [List.getElem?_map, before m hm] at hz
      cases hz
      rfl
    have z11 : decide ((11 : Int) < (j : Nat)) = false := decide_eq_false (by omega)
    rw [z11]
    refine iteF ?_
    refine ⟨_, rfl, _, rfl, .inl ⟨rfl, _, SqL.of hfl⟩, p9, .bl true, .bool true, (flg ow).map .bool, j, .bool true, rfl, rfl, dfl, .bl true, sh_bls _, rfl, by rw [List.getElem?_map, ej]; rfl, rfl, fun m z hm hz => ?_, pw, _, _, .str wd, rfl, rfl, SqL.of hw, atI_nat (by rw [List.getElem?_map, ewd]; rfl), ?_⟩
    · rw [List.getElem?_map, before m hm] at hz
      cases hz
      rfl
    refine ⟨_, rfl, by decide, by decide, fun L fL => lc_range (n := 7) (fun i H2 => H2 L = some (.lst ((((List.range i).filter fun i => (abv ab).getD i false).map fun i => ((i : Nat) : Int)).map V.int)) ∧ Same Z H2) ⟨upd_same, same_new fL⟩ ?_ ?_⟩
    · rintro i H2 hi ⟨hL, s2⟩
      refine ⟨rfl, ?_⟩
      have la : (abv ab).length = 7 := rfl
      refine ⟨_, rfl, _, rfl, p12, _, _, .bl ((abv ab).getD i false), rfl, rfl, SqL.of (s2 _ _ hab), ?_, _, rfl, ?_⟩
      · rw [show (0 : Int) + (i : Nat) = (i : Nat) by omega]
        refine atI_nat ?_
        rw [List.getElem?_map, List.getD_eq_getElem?_getD, List.getElem?_eq_getElem (by omega)]
        rfl
      · refine ite2 (fun hb => ?_) (fun hb => ?_)
        · refine ⟨_, rfl, _, hL, ?_, ?_, fun b o e => ?_⟩
          · rw [List.length_map, List.length_map]
            exact Nat.lt_of_le_of_lt (List.length_filter_le _ _) (by rw [List.length_range]; exact Nat.lt_of_lt_of_le hi (by decide))
          · rw [upd_same, flt_t (p := fun i => (abv ab).getD i false) hb, List.map_append, List.map_cons, List.map_nil]
            rw [show (0 : Int) + (i : Nat) = (i : Nat) by omega]
          · rw [upd_ne (ne_of_none e fL)]
            exact s2 b o e
        · refine ⟨?_, s2⟩
          rw [flt_f (p := fun i => (abv ab).getD i false) (Bool.eq_false_iff.mpr hb)]
          exact hL
    rintro H2 ⟨hL, s2⟩
    have hL : H2 L = some (.lst ((seenOf (abv ab)).map V.int)) := hL
    rw [W.seen] at hL
    refine ⟨_, _, rfl, ?_⟩
    have hL3 := hL
    have s23 := s2
    generalize H2 = H3 at s23 hL3 ⊢
    refine ⟨_, rfl, _, rfl, pd, rfl, .inl ⟨_, .inl (s23 _ _ hdd)⟩, _, rfl, by show 1 ≤ sizeLine; decide, fun e0 fe0 => ?_⟩
    have s4 := same_new (o := .lst [.int 0]) fe0
    have he0 : (upd H3 e0 (.lst [.int 0])) e0 = some (.lst ([(0 : Int)].map V.int)) := upd_same
    have s24 := s23.trans s4
    have hL4 := s4 _ _ hL3
    generalize upd H3 e0 (.lst [.int 0]) = H4 at s24 he0 hL4 ⊢
    refine ⟨_, DGet.k (k := Sum.inr wd) (s24 _ _ hdd), ?_⟩
    have pick : ∃ q, ((valV ([(Sum.inr ("name" : Str), V.ref q0), (Sum.inr ("day" : Str), V.ref q1), (Sum.inr ("seats" : Str), V.ref q2), (Sum.inr ("taken" : Str), V.ref q3), (Sum.inr ("many" : Str), V.ref q4), (Sum.inr ("rule" : Str), V.ref q5), (Sum.inr ("done" : Str), V.ref q6), (Sum.inr ("row" : Str), V.ref q7)] : List (Key × V)) (Sum.inr wd)).getD (.ref e0)) = .ref q ∧ H4 q = some (.lst ((mustOf wd).map V.int)) := by
      by_cases c0 : wd = "name"
      · subst c0
        exact ⟨q0, by rfl, s24 _ _ h0⟩
      by_cases c1 : wd = "day"
      · subst c1
        exact ⟨q1, by rfl, s24 _ _ h1⟩
      by_cases c2 : wd = "seats"
      · subst c2
        exact ⟨q2, by rfl, s24 _ _ h2⟩
      by_cases c3 : wd = "taken"
      · subst c3
        exact ⟨q3, by rfl, s24 _ _ h3⟩
      by_cases c4 : wd = "many"
      · subst c4
        exact ⟨q4, by rfl, s24 _ _ h4⟩
      by_cases c5 : wd = "rule"
      · subst c5
        exact ⟨q5, by rfl, s24 _ _ h5⟩
      by_cases c6 : wd = "done"
      · subst c6
        exact ⟨q6, by rfl, s24 _ _ h6⟩
      by_cases c7 : wd = "row"
      · subst c7
        exact ⟨q7, by rfl, s24 _ _ h7⟩
      refine ⟨e0, ?_, ?_⟩
      · have : valV ([(Sum.inr ("name" : Str), V.ref q0), (Sum.inr ("day" : Str), V.ref q1), (Sum.inr ("seats" : Str), V.ref q2), (Sum.inr ("taken" : Str), V.ref q3), (Sum.inr ("many" : Str), V.ref q4), (Sum.inr ("rule" : Str), V.ref q5), (Sum.inr ("done" : Str), V.ref q6), (Sum.inr ("row" : Str), V.ref q7)] : List (Key × V)) (Sum.inr wd) = none := by
          simp only [valV, List.find?_cons, List.find?_nil, Sum.inr.injEq]
          simp [Ne.symm c0, (show ¬ ("name" : Str) = wd from fun z => c0 z.symm), Ne.symm c1, (show ¬ ("day" : Str) = wd from fun z => c1 z.symm), Ne.symm c2, (show ¬ ("seats" : Str) = wd from fun z => c2 z.symm), Ne.symm c3, (show ¬ ("taken" : Str) = wd from fun z => c3 z.symm), Ne.symm c4, (show ¬ ("many" : Str) = wd from fun z => c4 z.symm), Ne.symm c5, (show ¬ ("rule" : Str) = wd from fun z => c5 z.symm), Ne.symm c6, (show ¬ ("done" : Str) = wd from fun z => c6 z.symm), Ne.symm c7, (show ¬ ("row" : Str) = wd from fun z => c7 z.symm)]
        rw [this]
        rfl
      · have : mustOf wd = [0] := by
          unfold mustOf
          simp [(show ¬ ("name" : Str) = wd from fun z => c0 z.symm), (show ¬ ("day" : Str) = wd from fun z => c1 z.symm), (show ¬ ("seats" : Str) = wd from fun z => c2 z.symm), (show ¬ ("taken" : Str) = wd from fun z => c3 z.symm), (show ¬ ("many" : Str) = wd from fun z => c4 z.symm), (show ¬ ("rule" : Str) = wd from fun z => c5 z.symm), (show ¬ ("done" : Str) = wd from fun z => c6 z.symm), (show ¬ ("row" : Str) = wd from fun z => c7 z.symm)]
        rw [this]
        exact he0
    obtain ⟨q, eq, hq⟩ := pick
    rw [eq]
    refine ⟨_, _, Dp.lst (SqL.of hL4) (dp_ints _), Dp.lst (SqL.of hq) (dp_ints _), sh_ints _, sh_ints _, _, rfl, ?_⟩
    rw [eq_ints]
    exact iteT ⟨_, rfl, hQ H4 (sm2.trans s24)⟩
end
end K09
set_option Elab.async false
set_option linter.all false
set_option maxRecDepth 100000
set_option maxHeartbeats 4000000
namespace K09
open PySem PySem.Spec PyProof.Rows L2
open C8 (Cal Mak Met pe_c pe_mk pe_mt pe_mt0)
open EXV (Xc)
open EXW (Dct)
theorem kit_ow {K : PySem.W.Frag} {mg : Str → Option Value} {D : Addr} {ow : Str → Bool} {ab : String → Bool} (T : Ex K mg D ow ab) : ∀ xs : List Str, (∀ x ∈ xs, x ∈ ex16) → PySem.W.kitAny K (.ref D) ((xs.map (He.ga K)).map Value.ref) = some (xs.any ow)
  | [], _ => rfl
  | x :: xs, h => by
    have ih := kit_ow T xs fun y hy => h y (List.mem_cons_of_mem _ hy)
    show PySem.W.kitAny K (.ref D) (.ref (He.ga K x) :: (xs.map (He.ga K)).map Value.ref) = _
    unfold PySem.W.kitAny
    rw [T.ko x (h x List.mem_cons_self), List.any_cons]
    cases ow x with
    | true => rfl
    | false => exact ih
/-- which field tells it -/
def fldOf (ow : Str → Bool) : Option Str :=
  if (["BadName", "NoName", "Taken"] : List Str).any ow = true then some "name" else if ow "NoDay" = true then some "day" else if ow "NoNumber" = true then some "thing" else if ow "NoSeats" = true then some "lack" else if ow "NoRide" = true then some "reason" else if ow "NoText" = true then some "row" else none
structure FldAt (K : PySem.W.Frag) (D : Addr) (ow : Str → Bool) (d : Option Addr) (H : Hp) (v : V) : Prop where
  some_ : ∀ f, fldOf ow = some f → ∃ (dd : Addr) (fs : List (Str × V)), d = some dd ∧ H dd = some (.xd fs) ∧ XfC K D ∧ PySem.W.findIn K (.ref D) f = some none ∧ fs.lookup f = some v
  none_ : fldOf ow = none → v = .non
theorem FldAt.same {K : PySem.W.Frag} {D : Addr} {ow : Str → Bool} {d : Option Addr} {H H' : Hp} {v : V} (h : FldAt K D ow d H v) (s : Same H H') : FldAt K D ow d H' v :=
  ⟨fun f e => by
    obtain ⟨dd, fs, a, b, c⟩ := h.some_ f e
    exact ⟨dd, fs, a, s _ _ b, c⟩, h.none_⟩
section
variable {P : Program} {w : World} {K : PySem.W.Frag} {mg : Str → Option Value} {base : Heap} {f D : Addr} {fd : FuncData} {ow : Str → Bool} {ab : String → Bool}
def spFd (K : PySem.W.Frag) (D : Addr) (ow : Str → Bool) : Sp := fun vs H Q _ => ∃ (a : Addr) (d : Option Addr) (v : V), vs = [.ref a] ∧ H a = some (Xc (.ref D) d a) ∧ Dct H d ∧ FldAt K D ow d H v ∧ ∀ H', Same H H' → Q v H'
theorem ok_fd (F : Dn K d_l_field f fd) (b : Bl mg) (T : Ex K mg D ow ab) : FnOk P w K mg base CX0 1 f fd ["_law_e"] (spFd K D ow) := by
  refine F.ok sc_l_field (fun vs H Q E h => ?_) (fun cdv A outer s H vs Q E hr h => ?_)
  · obtain ⟨a, d, v, rfl, _⟩ := h
    rfl
  · obtain ⟨a, d, v, rfl, ha, hd, hv, hQ⟩ := h
    refine ⟨_, PSs.nox (pss_cons (ps_if (pt_val (pe_callB (r := EXW.rIsKT K) EXW.call_isKT rfl b.isi boot_isinstance (pa_cons (pv 0) (pa_cons (pe_tup (pa_cons (pe_glob (v := .ref (He.ga K "BadName")) rfl (T.gl "BadName" (by decide +kernel)) rfl) (pa_cons (pe_glob (v := .ref (He.ga K "NoName")) rfl (T.gl "NoName" (by decide +kernel)) rfl) (pa_cons (pe_glob (v := .ref (He.ga K "Taken")) rfl (T.gl "Taken" (by decide +kernel)) rfl) pa_nil)))) pa_nil)))) (pss_one (ps_ret (EXW.pe_xk (pv 0)))) pss_nil)
      (pss_cons (ps_if (pt_val (pe_callB (r := EXW.rIsK K) EXW.call_isK rfl b.isi boot_isinstance (pa_cons (pv 0) (pa_cons (pe_glob (v := .ref (He.ga K "NoDay")) rfl (T.gl "NoDay" (by decide +kernel)) rfl) pa_nil)))) (pss_one (ps_ret (EXW.pe_xk (pv 0)))) pss_nil)
      (pss_cons (ps_if (pt_val (pe_callB (r := EXW.rIsK K) EXW.call_isK rfl b.isi boot_isinstance (pa_cons (pv 0) (pa_cons (pe_glob (v := .ref (He.ga K "NoNumber")) rfl (T.gl "NoNumber" (by decide +kernel)) rfl) pa_nil)))) (pss_one (ps_ret (EXW.pe_xk (pv 0)))) pss_nil)
      (pss_cons (ps_if (pt_val (pe_callB (r := EXW.rIsK K) EXW.call_isK rfl b.isi boot_isinstance (pa_cons (pv 0) (pa_cons (pe_glob (v := .ref (He.ga K "NoSeats")) rfl (T.gl "NoSeats" (by decide +kernel)) rfl) pa_nil)))) (pss_one (ps_ret (EXW.pe_xk (pv 0)))) pss_nil)
      (pss_cons (ps_if (pt_val (pe_callB (r := EXW.rIsK K) EXW.call_isK rfl b.isi boot_isinstance (pa_cons (pv 0) (pa_cons (pe_glob (v := .ref (He.ga K "NoRide")) rfl (T.gl "NoRide" (by decide +kernel)) rfl) pa_nil)))) (pss_one (ps_ret (EXW.pe_xk (pv 0)))) pss_nil)
      (pss_one (ps_ret (pe_ifExp (pt_val (pe_callB (r := EXW.rIsK K) EXW.call_isK rfl b.isi boot_isinstance (pa_cons (pv 0) (pa_cons (pe_glob (v := .ref (He.ga K "NoText")) rfl (T.gl "NoText" (by decide +kernel)) rfl) pa_nil)))) (EXW.pe_xk (pv 0)) pe_non)))))))), ?_⟩
    refine ⟨_, rfl, by show 3 ≤ sizeLine; decide, fun t ft => ?_⟩
    have s1 := same_new (o := .tup [.ref (He.ga K "BadName"), .ref (He.ga K "NoName"), .ref (He.ga K "Taken")]) ft
    have e1 : (upd H t (.tup [.ref (He.ga K "BadName"), .ref (He.ga K "NoName"), .ref (He.ga K "Taken")])) t = some (.tup ([He.ga K "BadName", He.ga K "NoName", He.ga K "Taken"].map V.ref)) := upd_same
    have ha := s1 _ _ ha
    have hd := dct_same hd s1
    have hv := hv.same s1
    generalize upd H t (.tup [.ref (He.ga K "BadName"), .ref (He.ga K "NoName"), .ref (He.ga K "Taken")]) = G at s1 e1 ha hd hv ⊢
    refine ⟨a, D, t, d, _, _, _, rfl, ha, hd, T.xc, SqT.of e1, EXW.ClsVs.refs, kit_ow T ["BadName", "NoName", "Taken"] (by decide +kernel), _, rfl, ?_⟩
    refine ite2 (fun c0 => ?_) (fun c0 => ?_)
    · skip
      obtain ⟨dd, fs, rfl, hf, xf, nf, lk⟩ := hv.some_ "name" (by unfold fldOf; rw [if_pos c0])
      exact ⟨_, rfl, a, D, dd, fs, v, rfl, ha, hf, xf, nf, lk, hQ _ s1⟩
    refine ⟨_, rfl, a, D, d, _, _, _, rfl, ha, hd, T.xc, fun u r => (by cases r; rfl), T.ko "NoDay" (by decide +kernel), _, rfl, ?_⟩
    refine ite2 (fun c1 => ?_) (fun c1 => ?_)
    · skip
      obtain ⟨dd, fs, rfl, hf, xf, nf, lk⟩ := hv.some_ "day" (by unfold fldOf; rw [if_neg c0, if_pos c1])
      exact ⟨_, rfl, a, D, dd, fs, v, rfl, ha, hf, xf, nf, lk, hQ _ s1⟩
    refine ⟨_, rfl, a, D, d, _, _, _, rfl, ha, hd, T.xc, fun u r => (by cases r; rfl), T.ko "NoNumber" (by decide +kernel), _, rfl, ?_⟩
    refine ite2 (fun c2 => ?_) (fun c2 => ?_)
    · skip
      obtain ⟨dd, fs, rfl, hf, xf, nf, lk⟩ := hv.some_ "thing" (by unfold fldOf; rw [if_neg c0, if_neg c1, if_pos c2])
      exact ⟨_, rfl, a, D, dd, fs, v, rfl, ha, hf, xf, nf, lk, hQ _ s1⟩
    refine ⟨_, rfl, a, D, d, _, _, _, rfl, ha, hd, T.xc, fun u r => (by cases r; rfl), T.ko "NoSeats" (by decide +kernel), _, rfl, ?_⟩
    refine ite2 (fun c3 => ?_) (fun c3 => ?_)
    · skip
      obtain ⟨dd, fs, rfl, hf, xf, nf, lk⟩ := hv.some_ "lack" (by unfold fldOf; rw [if_neg c0, if_neg c1, if_neg c2, if_pos c3])
      exact ⟨_, rfl, a, D, dd, fs, v, rfl, ha, hf, xf, nf, lk, hQ _ s1⟩
    refine ⟨_, rfl, a, D, d, _, _, _, rfl, ha, hd, T.xc, fun u r => (by cases r; rfl), T.ko "NoRide" (by decide +kernel), _, rfl, ?_⟩
    refine ite2 (fun c4 => ?_) (fun c4 => ?_)
    · skip
      obtain ⟨dd, fs, rfl, hf, xf, nf, lk⟩ := hv.some_ "reason" (by unfold fldOf; rw [if_neg c0, if_neg c1, if_neg c2, if_neg c3, if_pos c4])
      exact ⟨_, rfl, a, D, dd, fs, v, rfl, ha, hf, xf, nf, lk, hQ _ s1⟩
    refine ⟨_, rfl, a, D, d, _, _, _, rfl, ha, hd, T.xc, fun u r => (by cases r; rfl), T.ko "NoText" (by decide +kernel), _, rfl, ?_⟩
    refine ite2 (fun c5 => ?_) (fun c5 => ?_)
    · skip
      obtain ⟨dd, fs, rfl, hf, xf, nf, lk⟩ := hv.some_ "row" (by unfold fldOf; rw [if_neg c0, if_neg c1, if_neg c2, if_neg c3, if_neg c4, if_pos c5])
      exact ⟨_, rfl, a, D, dd, fs, v, rfl, ha, hf, xf, nf, lk, hQ _ s1⟩
    rw [hv.none_ (by unfold fldOf; rw [if_neg c0, if_neg c1, if_neg c2, if_neg c3, if_neg c4, if_neg c5])] at hQ
    exact hQ _ s1
end
end K09
set_option Elab.async false
set_option linter.all false
set_option maxRecDepth 100000
set_option maxHeartbeats 4000000
/-! EXT: two except clauses of tuples of classes, that keep the exception by one name -/
namespace EXV
open PySem PySem.Spec PyProof.Rows L2
/-- classes by their names -/
inductive NamesT (X : Cx) : List Expr → List Value → Prop
  | nil : NamesT X [] []
  | cons {x : Str} {np : Pos} {c : Value} {es : List Expr} {cs : List Value} : Names X x c → NamesT X es cs → NamesT X (.Name x np :: es) (c :: cs)
theorem NamesT.len {X : Cx} {es : List Expr} {cs : List Value} (h : NamesT X es cs) : es.length = cs.length := by
  induction h with
  | nil => rfl
  | cons _ _ ih => rw [List.length_cons, List.length_cons, ih]
/-- the flight goes on where more is made -/
theorem flying_up {B h h' : Heap} {l : List Env} {a : Addr} {Z : Obj → Prop} (x : HandSPX.FlyingZ B l a Z h) (k : ∀ b o, h.get? b = some o → h'.get? b = some o) : HandSPX.FlyingZ B l a Z h' := by
  obtain ⟨x1, x2, x3, oe, vs, T, oT, ts, e1, e2, e3, e4, e5, e6, e7, e8, e9⟩ := x
  exact ⟨fun b o e => k _ _ (x1 b o e), x2, x3.of_keeps fun b o e _ => ⟨o, k _ _ e, rfl⟩, oe, vs, T, oT, ts, k _ _ e1, e2, e3, e4, e5, e6, k _ _ e7, e8, e9⟩
/-- what a clause of a tuple of classes wishes of the body: slot i is the clause's name -/
def wKeepT (K : PySem.W.Frag) (cs : List Value) (i : Nat) (ts : Addr → Value → Option Addr → TS) (Wout : WX) (D : Ends) : WX := fun cls d σ H => ∃ b, PySem.W.exmAny K cls cs = some b ∧
  (b = true → ∀ a, H a = none → ts a cls d { nx := fun σ' H' => D.nx (σ'.set i none) H', rt := D.rt, bk := fun σ' H' => D.bk (σ'.set i none) H', ct := fun σ' H' => D.ct (σ'.set i none) H' } (σ.set i (some (.ref a))) (upd H a (Xc cls d a))) ∧ (b = false → Wout cls d σ H)
section
variable {X : Cx} {n : Str} {cs es : List Value} {xs ys : List Expr} {i k1 k2 : Nat} {body suite suite2 : List Stmt} {b₀ b₁ : Stmt} {np nq pos pos' pos2 : Pos} {tb : WX → TS} {ts ts2 : Addr → Value → Option Addr → TS} {Wout : WX}
theorem ps_try_keepT2 (stk : X.stack = X.env :: X.outer) (frm : X.env.frame = some X.env.locals) (nod : X.N.Nodup) (at_ : X.N[i]? = some n) (kln : X.env.kindOf n = some .local) (nm : NamesT X xs cs) (nm2 : NamesT X ys es) (cl : cs.length ≤ 100) (el : es.length ≤ 100) (out : Takes X Wout)
    (bdy : ∀ (W : WX) (pn : List (Addr × Obj)) (xe : Value → Shared → Prop), Takes (X.tr pn xe) W → PassesOwn (model X.prog X.w) X.A X.env xe → PSs (X.tr pn xe) body (tb W))
    (sui : ∀ (a : Addr) (cls : Value) (d : Option Addr) (pn : List (Addr × Obj)), PSs (X.suite a pn) (b₀ :: suite) (ts a cls d))
    (sui2 : ∀ (a : Addr) (cls : Value) (d : Option Addr) (pn : List (Addr × Obj)), PSs (X.suite a pn) (b₁ :: suite2) (ts2 a cls d)) :
    PS X (.Try body [.ExceptHandler (some (.Tuple xs k1 np)) (some n) (b₀ :: suite) pos', .ExceptHandler (some (.Tuple ys k2 nq)) (some n) (b₁ :: suite2) pos2] [] [] pos) (fun D σ H => tb (wKeepT X.K cs i ts (wKeepT X.K es i ts2 Wout D) D) D σ H) := by
  refine ⟨fun pins s σ H D I h => ?_⟩
  have good := I.ok
  have frs2 : X.A.frames = some (X.env :: X.outer) := by rw [good.frames, stk]
  have isLoc : Loc X.env.scope n := .inl kln
  have start := (bdy (wKeepT X.K cs i ts (wKeepT X.K es i ts2 Wout D) D) (X.pn ++ pins) (fun e s₁ => wpAny (model X.prog X.w) X.A (noteFrame e X.env) (fun _ s₂ => wpAny (model X.prog X.w) X.A (setFlight e none)
      (fun _ s₃ => wpAny (model X.prog X.w) X.A (handleBy e X.env [.ExceptHandler (some (.Tuple xs k1 np)) (some n) (b₀ :: suite) pos', .ExceptHandler (some (.Tuple ys k2 nq)) (some n) (b₁ :: suite2) pos2]) (SP X pins D) X.xe s₃) X.xe s₂) X.xe s₁) (fun u s' xx => ?_) PassesOwn.looking).run [] s σ H D (I.toTry _) h
  · refine wpAny_Try_except (wpAny_mono start (fun f s1 fin => ?_) fun _ _ he => he)
    cases f with
    | next =>
      obtain ⟨σ1, H1, J1, q1⟩ := fin
      exact wpAny_execs_nil ⟨σ1, H1, J1.ofTry good, q1⟩
    | brk =>
      obtain ⟨σ1, H1, J1, q1⟩ := fin
      exact ⟨σ1, H1, J1.ofTry good, q1⟩
    | cont =>
      obtain ⟨σ1, H1, J1, q1⟩ := fin
      exact ⟨σ1, H1, J1.ofTry good, q1⟩
    | ret u =>
      obtain ⟨v1, σ1, H1, J1, r1, q1⟩ := fin
      exact ⟨v1, σ1, H1, J1.ofTry good, r1, q1⟩
  -- what the body lets out
  obtain ⟨a, B, sI, pins', σ', H', cls, d, rfl, J0, nb, up, sky0, na, os, ag, b, tst, yes, no⟩ := xx
  have J : Inv X pins σ' H' sI := J0.ofTry good
  have sky : Sky B (X.env :: X.outer) a (Zc cls d) X.env.locals s'.heap := by rw [← stk]; exact sky0
  show wpAny (model X.prog X.w) X.A (noteFrame (.ref a) X.env) _ _ _
  refine Sky.land Zc.steady frs2 frm sky fun h3 fl3 up3 => ?_
  have J3 : Inv X pins σ' H' { s' with heap := h3 } := J.landed nb fl3.1 (up.trans up3) os ag
  have Ba0 : B.get? a = none := fl3.2.1
  have atTest : ∀ {h : Heap} {zs : List Expr} {vs : List Value} {kk : Nat} {p : Pos} {Q : Value → Shared → Prop} {E : Value → Shared → Prop}, HandSPX.FlyingZ B (X.env :: X.outer) a (Zc cls d) h → s'.heap.UpToSlots h → NamesT X zs vs → vs.length ≤ 100 →
      Q (.ref h.objs.size) { s' with heap := h.push { cls := .type "tuple", data := .seq vs.toArray } } → wpAny (model X.prog X.w) (X.A.mark (some (.ref a))) (eval (.Tuple zs kk p) X.env) Q E { s' with heap := h } := fun {h zs vs kk p Q E} fl up' nz lz q => by
    have J' : Inv X pins σ' H' { s' with heap := h } := J.landed nb fl.1 (up.trans up') os ag
    have S' := into_suite J' a
    have all : ∀ {zs : List Expr} {vs : List Value} {R : List Value → Shared → Prop}, NamesT X zs vs → R vs { s' with heap := h } → wpAny (model X.prog X.w) (X.A.mark (some (.ref a))) (spliced (backTo p (starEach zs X.env))) R E { s' with heap := h } := fun {zs vs R} nz => by
      induction nz generalizing R with
      | nil => exact fun r => wpAny_items_nil r
      | cons n1 _ ih =>
        intro r
        refine wpAny_items_cons ?_ (by rfl)
        obtain ⟨hg, hdbg, hm | ⟨hm, hv, hnn⟩⟩ := n1
        · exact ld_glob (X := X.suite a (X.pn ++ pins)) S' hg hm (ih r) hdbg
        · exact ld_blt (X := X.suite a (X.pn ++ pins)) S' hg hm hv (ih r) hnn hdbg
    exact wpAny_Tuple (all nz ⟨Nat.le_trans lz (by decide), q⟩)
  -- the heap without it
  have cut : ∀ {h4 : Heap}, B.StaysIn h4 → s'.heap.UpToSlots h4 → ∃ G : Heap, (∀ b o, G.get? b = some o → h4.get? b = some o) ∧ G.get? a = none ∧ Inv X pins σ' H' { s' with heap := G } := fun {h4} st4 up4 => by
    obtain ⟨G, g1, g2⟩ := restrict h4 fun b => decide (b ≠ a)
    have ga : G.get? a = none := g2 a (decide_eq_false fun z => z rfl)
    have ge : ∀ b, b ≠ a → G.get? b = h4.get? b := fun b hb => g1 b (decide_eq_true hb)
    obtain ⟨oe3, vs3, he3, hz3, hd3⟩ := fl3.there
    have notFr : a ∉ frs (X.env :: X.outer) := fun hm => by
      obtain ⟨_, o', e', hnf⟩ := fl3.2.2.1.mem hm
      rw [he3] at e'
      cases e'
      exact hnf _ hd3
    have keepB : B.StaysIn G := fun b o e => by
      rw [ge b fun z => by rw [z, Ba0] at e; cases e]
      exact st4 b o e
    have upG : sI.heap.UpToSlots G := fun b o e nf => by
      have hb : b ≠ a := fun z => by
        have := nb a o (z ▸ e) (by rw [stk]; exact notFr)
        rw [Ba0] at this
        cases this
      rw [ge b hb]
      exact (up.trans up4) b o e nf
    refine ⟨G, fun b o e => ?_, ga, J.landed (s' := { s' with heap := G }) nb keepB upG os ag⟩
    by_cases hb : b = a
    · rw [hb, ga] at e
      cases e
    · rw [← ge b hb]
      exact e
  have grow : ∀ {h : Heap} (o : Obj), s'.heap.UpToSlots h → s'.heap.UpToSlots (h.push o) := fun {h} o u => u.trans (Heap.UpToSlots.of_keeps fun _ _ e => Heap.get?_push_of_some _ e)
  have typed : ∀ {h : Heap}, HandSPX.FlyingZ B (X.env :: X.outer) a (Zc cls d) h → PySem.W.Looks (model X.prog X.w) h (typeOf (.ref a)) cls := fun {h} fl A Q E s k q => by
    obtain ⟨oe, _, e, z, _⟩ := fl.there
    exact wpAny_typeOf_ref (k _ _ e) (by rw [z.1]; exact q)
  have kp1 : ∀ b o, h3.get? b = some o → (h3.push { cls := .type "tuple", data := .seq cs.toArray }).get? b = some o := fun _ _ e => Heap.get?_push_of_some _ e
  have fl5 := flying_up fl3 kp1
  have up5 := grow { cls := .type "tuple", data := .seq cs.toArray } up3
  refine wpAny_handleBy_cons (codeAny_handlers_test ?_) (by intro q; cases q)
  refine atTest fl3 up3 nm cl ?_
  have J5 : Inv X pins σ' H' { s' with heap := h3.push { cls := .type "tuple", data := .seq cs.toArray } } := J.landed nb fl5.1 (up.trans up5) os ag
  refine (KTN.exm_tupN (M := model X.prog X.w) (J5.kIn) (typed fl5) (Heap.get?_push_size h3 rfl) tst).here ?_
  cases b with
  | true =>
    refine codeAny_handlers_suite_as ?_
    refine HandSPX.lands_againZ fl5 fun h4 fl4 up4 => ?_
    obtain ⟨oe4, vs4, he4, hz4, hd4⟩ := fl4.there
    obtain ⟨G, gk, ga, JG⟩ := cut fl4.1 (up5.trans up4)
    have JK : Inv X pins σ' (upd H' a (Xc cls d a)) { s' with heap := h4 } := JG.laidN (t' := s'.toks) (h' := h4) gk ga na (xc_ok he4 hz4 hd4)
    refine store_ok (X := X.suite a (X.pn ++ pins)) (v := .ref a) (into_suite JK a) nod at_ isLoc rfl (fun s5 S5 => ?_) (.inr kln)
    refine wpAny_mono ((sui a cls d (X.pn ++ pins)).run [] s5 _ _ _ S5 (yes rfl a na)) (fun f s6 fin => ?_) (fun _ _ z => False.elim z)
    have ends : ∀ {σ6 : L2.St} {H6 : Hp} {Q : Shared → Prop}, Inv (X.suite a (X.pn ++ pins)) [] σ6 H6 s6 → (∀ s7, Inv X pins (σ6.set i none) H6 s7 → Q s7) →
        wpAny (model X.prog X.w) X.A (do bindName X.env n .none; unbindBehindTheSuite X.env n pos') (fun _ s7 => Q s7) X.xe s6 := fun {σ6 H6 Q} S6 hq => gone_ok (out_suite S6 good) nod at_ kln hq
    cases f with
    | next =>
      obtain ⟨σ6, H6, S6, q6⟩ := fin
      exact ends S6 fun s7 J7 => ⟨_, _, J7, q6⟩
    | brk =>
      obtain ⟨σ6, H6, S6, q6⟩ := fin
      exact ends S6 fun s7 J7 => ⟨_, _, J7, q6⟩
    | cont =>
      obtain ⟨σ6, H6, S6, q6⟩ := fin
      exact ends S6 fun s7 J7 => ⟨_, _, J7, q6⟩
    | ret u =>
      obtain ⟨v6, σ6, H6, S6, r6, q6⟩ := fin
      exact ends S6 fun s7 J7 => ⟨_, _, _, J7, r6, q6⟩
  | false =>
    show wpAny _ X.A (handleBy (.ref a) X.env [.ExceptHandler (some (.Tuple ys k2 nq)) (some n) (b₁ :: suite2) pos2]) _ _ _
    obtain ⟨b2, tst2, yes2, no2⟩ := no rfl
    generalize h3.push { cls := .type "tuple", data := .seq cs.toArray } = h5 at fl5 up5 J5 ⊢
    have fl6 := flying_up (h' := h5.push { cls := .type "tuple", data := .seq es.toArray }) fl5 fun _ _ e => Heap.get?_push_of_some _ e
    have up6 := grow { cls := .type "tuple", data := .seq es.toArray } up5
    refine wpAny_handleBy_cons (codeAny_handlers_test ?_) (by intro q; cases q)
    refine atTest fl5 up5 nm2 el ?_
    have J6 : Inv X pins σ' H' { s' with heap := h5.push { cls := .type "tuple", data := .seq es.toArray } } := J.landed nb fl6.1 (up.trans up6) os ag
    refine (KTN.exm_tupN (M := model X.prog X.w) (J6.kIn) (typed fl6) (Heap.get?_push_size h5 rfl) tst2).here ?_
    generalize h5.push { cls := .type "tuple", data := .seq es.toArray } = h6 at fl6 up6 J6 ⊢
    cases b2 with
    | true =>
      refine codeAny_handlers_suite_as ?_
      refine HandSPX.lands_againZ fl6 fun h4 fl4 up4 => ?_
      obtain ⟨oe4, vs4, he4, hz4, hd4⟩ := fl4.there
      obtain ⟨G, gk, ga, JG⟩ := cut fl4.1 (up6.trans up4)
      have JK : Inv X pins σ' (upd H' a (Xc cls d a)) { s' with heap := h4 } := JG.laidN (t' := s'.toks) (h' := h4) gk ga na (xc_ok he4 hz4 hd4)
      refine store_ok (X := X.suite a (X.pn ++ pins)) (v := .ref a) (into_suite JK a) nod at_ isLoc rfl (fun s5 S5 => ?_) (.inr kln)
      refine wpAny_mono ((sui2 a cls d (X.pn ++ pins)).run [] s5 _ _ _ S5 (yes2 rfl a na)) (fun f s6 fin => ?_) (fun _ _ z => False.elim z)
      have ends : ∀ {σ6 : L2.St} {H6 : Hp} {Q : Shared → Prop}, Inv (X.suite a (X.pn ++ pins)) [] σ6 H6 s6 → (∀ s7, Inv X pins (σ6.set i none) H6 s7 → Q s7) →
          wpAny (model X.prog X.w) X.A (do bindName X.env n .none; unbindBehindTheSuite X.env n pos2) (fun _ s7 => Q s7) X.xe s6 := fun {σ6 H6 Q} S6 hq => gone_ok (out_suite S6 good) nod at_ kln hq
      cases f with
      | next =>
        obtain ⟨σ6, H6, S6, q6⟩ := fin
        exact ends S6 fun s7 J7 => ⟨_, _, J7, q6⟩
      | brk =>
        obtain ⟨σ6, H6, S6, q6⟩ := fin
        exact ends S6 fun s7 J7 => ⟨_, _, J7, q6⟩
      | cont =>
        obtain ⟨σ6, H6, S6, q6⟩ := fin
        exact ends S6 fun s7 J7 => ⟨_, _, J7, q6⟩
      | ret u =>
        obtain ⟨v6, σ6, H6, S6, r6, q6⟩ := fin
        exact ends S6 fun s7 J7 => ⟨_, _, _, J7, r6, q6⟩
    | false =>
      show wpAny _ X.A (handleBy (.ref a) X.env []) _ _ _
      refine wpAny_handleBy_nil ?_
      obtain ⟨_, _, _, oe, vs, T, oT, ts', he, hz, hd, h1, hr⟩ := id fl6
      unfold PySem.passOn
      refine wpAny_bind (wpAny_field he hd h1 ?_)
      rw [if_neg (show ¬ ((Value.ref T == Value.none) = true) from by simp)]
      have fin : wpAny (model X.prog X.w) X.A (setFlight (.ref a) X.env.frame) (fun _ s4 => wpAny (model X.prog X.w) X.A (throw (.ref a) : Sem Flow) (SP X pins D) X.xe s4) X.xe { s' with heap := h6 } := by
        rw [frm]
        refine HandSPX.setFlight_upZ fl6 fun h4 hh4 up4 => wpAny_throw (out _ _ ?_)
        exact ⟨a, B, sI, pins, σ', H', cls, d, rfl, J, nb, (up.trans up6).trans up4, .inr (.inr (by rw [stk]; exact hh4)), na, os, ag, no2 rfl⟩
      first
        | exact wpAny_bind (wpAny_pure (wpAny_bind fin))
        | exact wpAny_bind fin
end
end EXV
set_option Elab.async false
set_option linter.all false
set_option maxRecDepth 100000
set_option maxHeartbeats 4000000
/-! LMS: a lambda without parameters handed to a def that calls it in a try of its own slots. -/
namespace LMS
open PySem PySem.Spec PyProof.Rows L2
open LamX (Tabs ExtN TabB CodeO LamS lamEnv lamCx lam_start2 lam_make2 run_ofS)
section
variable {X : Cx} {pins : List (Addr × Obj)} {σ : L2.St} {H : Hp} {s : Shared}
/-- x(), where x is the lambda, in the def that got it (its slots are σ2 then): what the lambda lets out is taken at these slots -/
theorem pe_run {Cg : CXT} {Eg : XK} {Nd : List Str} {qd : Str} {sd : Scope} {gd lf lc : Addr} {cdv pm ctv : Value} {ps : Arguments} {bd : Expr} {sl : Scope} {k i : Nat} {y : Str} {pn : List (Addr × Obj)} {xe : Value → Shared → Prop} {W : WX} {tl : XK → TE} {pa pb : Pos}
    (I : Inv X pins σ H s) (L : LamS X.env.scope sl) (at_ : s.heap.get? lf = some (PySem.W.kla_obj "<lambda>" (X.env.qual ++ "<lambda>") ps bd sl (cloFrom X.env.cells sl.names []) pm lc ctv)) (fn : H lf = none) (nf : lf ∉ frs X.stack)
    (bind : bindArgs (PySem.W.kla_fn "<lambda>" (X.env.qual ++ "<lambda>") ps bd sl (cloFrom X.env.cells sl.names []) pm (.ref lc) ctv) ⟨[], []⟩ = pure [])
    (takes : Takes ((cxOf Cg X.prog X.w X.K X.mg X.base Nd qd sd gd cdv X.A X.stack s H Eg).tr pn xe) W) (room : Room (k + 1) (X.A.deeper (envOfC qd sd s.heap.objs.size gd cdv)))
    (body : ∀ (A : Around) (outer : List Env) (s0 : Shared) (H0 : Hp) (E : XK), Room k (A.deeper (lamEnv X sl s0.heap.objs.size lf lc)) → PE (lamCx X A outer s0 H0 E sl lf lc) bd (tl E))
    (hN : Nd[i]? = some y) (hv : Vis sd y) (n1 : (y == ("__debug__" : Str)) = false := by decide) (n2 : (y == ("__classdict__" : Str)) = false := by decide) :
    PE ((cxOf Cg X.prog X.w X.K X.mg X.base Nd qd sd gd cdv X.A X.stack s H Eg).tr pn xe) (.Call (.Name y pa) [] [] pb)
      (fun σ2 H2 Q => σ2[i]? = some (some (.ref lf)) ∧ H2 lc = some (CodeO lc (X.env.qual ++ "<lambda>")) ∧ tl (fun cls d H' => W cls d σ2 H') σ H2 Q) := by
  refine ⟨fun pins2 s2 σ2 H2 Q I2 ⟨atS, atC, told⟩ => ?_⟩
  refine wpAny_Call_Name_kw (thn ((pe_var (pos := pa) (i := i) hN hv n1 n2).run pins2 s2 σ2 H2 (fun v H1 => v = .ref lf ∧ H1 = H2) I2 ⟨.ref lf, atS, rfl, rfl⟩) ?_)
  rintro u s3 ⟨v, H1, I3, rv, rfl, rfl⟩
  obtain rfl : u = Value.ref lf := rv
  have at3 := I3.base.keep lf _ at_ fn nf (fun z => nomatch (show lf ∈ ([] : List Addr) from z))
  refine PySem.W.callWith_F0 ⟨_, _, _, _, at3⟩ (wpAny_call ?_)
  have un : Un (frs X.stack) [] H H1 s.heap s3.heap := I3.base
  obtain ⟨⟨oc, ws, t, c1, c2, c3⟩, _, _⟩ := I3.hok lc _ atC
  have leave : PassesAt (L2.CX X.prog X.w) ((cxOf Cg X.prog X.w X.K X.mg X.base Nd qd sd gd cdv X.A X.stack s H Eg).tr pn xe) σ2 (WE W σ2) := passAt takes σ2
  refine codeAny_mono (R := CR (L2.CX X.prog X.w) (envOfC qd sd s.heap.objs.size gd cdv :: X.stack) X.prog X.w H1 s3 Q fun cls d H' => W cls d σ2 H') ?_ ?_
  · show codeAny (model X.prog X.w) (X.A.deeper (envOfC qd sd s.heap.objs.size gd cdv)) (.call (.ref lf) ⟨[], []⟩) _ _
    refine PySem.W.kla_callFunE room.depth at3 rfl L.co L.gen rfl ⟨lc, oc, ws, t, rfl, c1, c2, c3⟩ ?_
    rw [bind]
    refine wpAny_pure (wpAny_newFunctionEnv (fun y hy => (L.own y hy).2) (fun y hy => absurd hy (by simp)) ?_ L.kind)
    intro h₁ hns hsb
    refine ⟨I3.nolimit.fresh _ hsb, ?_⟩
    have more : ∀ b o, s3.heap.get? b = some o → h₁.get? b = some o := fun b o e => hsb.extBut b o (Nat.ne_of_lt (Heap.lt_size e)) (Heap.get?_push_of_some _ e)
    have J := lam_start2 (E := fun cls d H' => W cls d σ2 H') (f := lf) (c' := lc) (tk := s3.toks + ([] : List (Str × Value)).length) I L I3.env0 room.hd un hns more
    refine PySem.W.kla_codeExpr (wpAny_mono ((body _ _ s3 H1 _ (room.deeper _)).run [] _ _ H1 Q J told) ?_ fun e s' he => he)
    rintro v s' ⟨w', H', J', r', q'⟩
    exact ⟨w', H', J'.os, J'.bare, J'.base, J'.hok, r', q'⟩
  · intro r s' hr
    match r, hr with
    | .error e, hr => exact leave pins2 H1 s3 e s' I3 hr
    | .ok (.ret u), hr => exact I3.after hr
    | .ok .next, hr => exact False.elim hr
    | .ok .brk, hr => exact False.elim hr
    | .ok .cont, hr => exact False.elim hr
end
/-- what the def makes of the lambda that it got: y is its name for it -/
def GivesS (X : Cx) (Nd : List Str) (x : Str) (sd : Scope) (gd : Addr) (cdv : Value) (bg : List Stmt) (y q : Str) (TT : (XK → Hp → VK → Prop) → Hp → VK → Prop) : Prop :=
  ∀ (lf lc : Addr) (s : Shared) (H : Hp) (Q : VK) (told : XK → Hp → VK → Prop),
    (∀ (W : WX) (pn : List (Addr × Obj)) (xe : Value → Shared → Prop) (pa pb : Pos), Takes ((cxOf C8.CX0 X.prog X.w X.K X.mg X.base Nd x sd gd cdv X.A X.stack s H C8.E0).tr pn xe) W →
      PE ((cxOf C8.CX0 X.prog X.w X.K X.mg X.base Nd x sd gd cdv X.A X.stack s H C8.E0).tr pn xe) (.Call (.Name y pa) [] [] pb) (fun σ2 H2 Q => σ2[0]? = some (some (.ref lf)) ∧ H2 lc = some (CodeO lc q) ∧ told (fun cls d H' => W cls d σ2 H') H2 Q)) →
    H lc = some (CodeO lc q) → TT told H Q →
    ∃ t, PSs (cxOf C8.CX0 X.prog X.w X.K X.mg X.base Nd x sd gd cdv X.A X.stack s H C8.E0).nox bg t ∧ t { nx := fun _ H' => Q .non H', rt := Q } (L2.start Nd [.ref lf]) H
def tLamS (T : List (Addr × Str)) (TT : (XK → Hp → VK → Prop) → Hp → VK → Prop) (t : XK → TE) : TE := fun σ H Q => Tabs T H ∧ ∀ H1, ExtN H H1 → Tabs T H1 → TT (fun E H' Q' => t E σ H' Q') H1 Q
section
variable {X : Cx}
/-- x(lambda: bd) -/
theorem pe_lamS {T : List (Addr × Str)} {TT : (XK → Hp → VK → Prop) → Hp → VK → Prop} {x y : Str} {gd c P : Addr} {k : Nat} {pg : Arguments} {bg : List Stmt} {sd : Scope} {dV kV doc pm cdv ct oc : Value} {an od : Option Addr} {osl : Array (Option Value)} {Nd : List Str}
    {ps : Arguments} {bd : Expr} {sl : Scope} {tl : XK → TE} {p lp pos : Pos} (hg : Gl X x) (hm : X.mg x = some (.ref gd)) (hk : PySem.W.keepIn X.K (.ref gd) = true)
    (lk : X.K.lookup gd = some ⟨oc, od, .func (PySem.W.fnOf x x pg bg sd dV kV doc pm an cdv ct), osl⟩) (hcg : PySem.W.codeIn X.K cdv x = true) (hb : L2.Binds X.K (PySem.W.fnOf x x pg bg sd dV kV doc pm an cdv ct) [y] []) (Sd : FnScope Nd [y] sd) (hN : Nd[0]? = some y) (hv : Vis sd y)
    (gives : GivesS X Nd x sd gd cdv bg y (X.env.qual ++ "<lambda>") TT)
    (TB : TabB X.base X.mg c P) (code : X.env.code = .ref c) (mem : (P, X.env.qual ++ "<lambda>") ∈ T) (one : ∀ p ∈ T, p.1 = P → p.2 = X.env.qual ++ "<lambda>") (room : Room (k + 2) X.A) (L : LamS X.env.scope sl) (def0 : defaultsOf ps X.env = ([], []))
    (bind : ∀ (q : Str) (cl : List (Str × Addr)) (pm cv ctv : Value), bindArgs (PySem.W.kla_fn "<lambda>" q ps bd sl cl pm cv ctv) ⟨[], []⟩ = pure [])
    (body : ∀ (A : Around) (outer : List Env) (s0 : Shared) (H0 : Hp) (E : XK) (lf lc : Addr), Room k (A.deeper (lamEnv X sl s0.heap.objs.size lf lc)) → PE (lamCx X A outer s0 H0 E sl lf lc) bd (tl E))
    (n0 : (x == ("__debug__" : Str)) = false := by decide) (n1 : (y == ("__debug__" : Str)) = false := by decide) (n2 : (y == ("__classdict__" : Str)) = false := by decide) :
    PE X (.Call (.Name x p) [.Lambda ps bd sl lp] [] pos) (tLamS T TT tl) := by
  refine ⟨fun pins s σ H Q I ⟨hT, h⟩ => ?_⟩
  refine wpAny_Call_Name_kw (ld_glob I hg hm (PySem.W.callWith_K (h₀ := X.base) I.ok.mod.kin hk ?_ (by rfl) (by rfl)) n0)
  show wpAny _ _ (spliced ((false, eval (.Lambda ps bd sl lp) X.env) :: backTo pos (starEach [] X.env))) _ _ s
  refine Calls.spliced_cons (lam_make2 I TB code mem one hT def0 (L.has I.ok) ?_)
  intro lf lc pm' ctv H1 s' I1 eN T1 e1 fn nf co
  refine Calls.spliced_nil ⟨I1.kIn, wpAny_call (codeAny_mono (R := CR C8.CX0 X.stack X.prog X.w H1 s' Q C8.E0) ?_ ?_)⟩
  · refine run_ofS (N := Nd) (ps := [y]) (us := [.ref lf]) (vs := [.ref lf]) lk hcg Sd room I1.env0 (hb s' [.ref lf] I1.kIn rfl) (.cons rfl .nil) rfl fun room' => ?_
    obtain ⟨t', ps', q'⟩ := gives lf lc s' H1 Q (fun E H' Q' => tl E σ H' Q') (fun W pn xe pa pb tk => pe_run (i := 0) I1 L e1 fn nf (bind _ _ _ _ _) tk room' (fun A outer s0 H0 E r => body A outer s0 H0 E lf lc r) hN hv n1 n2) co (h H1 eN T1)
    exact ⟨t', ps'.nox, q'⟩
  · intro r s2 hr
    match r, hr with
    | .error e, hr => exact (show False from hr).elim
    | .ok (.ret u), hr => exact I1.after hr
    | .ok .next, hr => exact False.elim hr
    | .ok .brk, hr => exact False.elim hr
    | .ok .cont, hr => exact False.elim hr
end
end LMS
set_option Elab.async false
set_option linter.all false
set_option maxRecDepth 100000
set_option maxHeartbeats 4000000
namespace K09
open PySem PySem.Spec PyProof.Rows L2
open C8 (Cal Mak Met pe_c pe_mk pe_mt pe_mt0)
open EXV (Xc)
open EXW (Dct)
/-- which clause takes it -/
def Exm (K : PySem.W.Frag) (D : Addr) (ow : Str → Bool) : Prop := ∀ x ∈ ex16, PySem.W.exmOne K (.ref D) (.ref (He.ga K x)) = some (ow x)
theorem exm_ow {K : PySem.W.Frag} {D : Addr} {ow : Str → Bool} (T : Exm K D ow) : ∀ xs : List Str, (∀ x ∈ xs, x ∈ ex16) → PySem.W.exmAny K (.ref D) ((xs.map (He.ga K)).map Value.ref) = some (xs.any ow)
  | [], _ => rfl
  | x :: xs, h => by
    have ih := exm_ow T xs fun y hy => h y (List.mem_cons_of_mem _ hy)
    show PySem.W.exmAny K (.ref D) (.ref (He.ga K x) :: (xs.map (He.ga K)).map Value.ref) = _
    unfold PySem.W.exmAny
    rw [T x (h x List.mem_cons_self), ih, List.any_cons]
abbrev cl10 : List Str := ["BadName", "NoDay", "NoKind", "NoName", "NoNumber", "NoRide", "NoRow", "NoRule", "NoSeats", "NoShare"]
abbrev cl6 : List Str := ["NoText", "NothingDone", "Nought", "Taken", "TooMany", "Uneven"]
/-- a refusal of class cls, its word and what its field holds -/
def RefAt (K : PySem.W.Frag) (mg : Str → Option Value) (cls : Value) (d : Option Addr) (H : Hp) (wd : Str) (v : V) : Prop := ∃ (D : Addr) (ow : Str → Bool) (ab : String → Bool), cls = .ref D ∧ Ex K mg D ow ab ∧ Exm K D ow ∧ WordOk ow ab wd ∧ (cl10.any ow = true ∨ cl6.any ow = true) ∧ Dct H d ∧ FldAt K D ow d H v
/-- what _law_got makes of the deed -/
def GotT (K : PySem.W.Frag) (mg : Str → Option Value) (told : XK → Hp → VK → Prop) (H : Hp) (Q : VK) : Prop := ∀ (H1 : Hp) (E' : XK) (Q' : VK), Same H H1 →
  (∀ cls d H' (wd : Str) (v : V), RefAt K mg cls d H' wd v → (∀ t H2, Same H' H2 → H' t = none → H2 t = some (.tup [.str wd, v]) → Q (.ref t) H2) → E' cls d H') →
  (∀ v H', (∀ t H2, Same H' H2 → H' t = none → H2 t = some (.tup [.str "told", v]) → Q (.ref t) H2) → Q' v H') → told E' H1 Q'
section
variable {P : Program} {w : World} {K : PySem.W.Frag} {mg : Str → Option Value} {base : Heap} {f : Addr} {fd : FuncData}
def spWdA (K : PySem.W.Frag) (mg : Str → Option Value) : Sp := fun vs H Q E => ∃ (D : Addr) (wd : Str) (ow : Str → Bool) (ab : String → Bool), Ex K mg D ow ab ∧ WordOk ow ab wd ∧ spWd D wd vs H Q E
def spFdA (K : PySem.W.Frag) (mg : Str → Option Value) : Sp := fun vs H Q E => ∃ (D : Addr) (ow : Str → Bool) (ab : String → Bool), Ex K mg D ow ab ∧ spFd K D ow vs H Q E
theorem ok_wdA (F : Dn K d_l_word f fd) (b : Bl mg) : FnOk P w K mg base CX0 1 f fd ["_law_e"] (spWdA K mg) :=
  ⟨fun vs H Q E ⟨_, _, _, _, T, W, h⟩ => (ok_wd (P := P) (w := w) (base := base) F b T W).len vs H Q E h, fun A outer s H args us vs Q E hr he hb hv ⟨_, _, _, _, T, W, h⟩ => (ok_wd F b T W).run A outer s H args us vs Q E hr he hb hv h⟩
theorem ok_fdA (F : Dn K d_l_field f fd) (b : Bl mg) : FnOk P w K mg base CX0 1 f fd ["_law_e"] (spFdA K mg) :=
  ⟨fun vs H Q E ⟨_, _, _, T, h⟩ => (ok_fd (P := P) (w := w) (base := base) F b T).len vs H Q E h, fun A outer s H args us vs Q E hr he hb hv ⟨_, _, _, T, h⟩ => (ok_fd F b T).run A outer s H args us vs Q E hr he hb hv h⟩
end
section
variable {X : Cx} {gd : Addr} {cdv : Value} {q : Str}
theorem got_gives (gl : ∀ x ∈ ex16, X.mg x = some (.ref (He.ga X.K x))) (hr : Room 4 X.A) (cW : Cal X.prog X.w X.K X.mg X.base 1 "_law_word" (spWdA X.K X.mg) []) (cF : Cal X.prog X.w X.K X.mg X.base 1 "_law_field" (spFdA X.K X.mg) []) :
    LMS.GivesS X N_l_got "_law_got" (defScope s_l_got) gd cdv (defBody s_l_got) "_law_deed" q (GotT X.K X.mg) := by
  intro lf lc s H Q told call code h
  have hr3 : Room 3 (X.A.deeper (envOfC "_law_got" (defScope s_l_got) s.heap.objs.size gd cdv)) := hr.deeper _
  refine ⟨_, pss_cons (ps_asg (pe_tup (pa_cons pe_non (pa_cons pe_non pa_nil))) (pg_tup rfl (pgs_cons (pg_name (i := 1) sc_l_got.nd rfl (.inl rfl)) (pgs_cons (pg_name (i := 2) sc_l_got.nd rfl (.inl rfl)) pgs_nil))))
      (pss_cons (EXV.ps_try_keepT2 (i := 3) (cs := (cl10.map (He.ga X.K)).map Value.ref) (es := (cl6.map (He.ga X.K)).map Value.ref) rfl rfl sc_l_got.nd rfl rfl
          (.cons ⟨rfl, by decide, .inl (gl "BadName" (by decide +kernel))⟩ (.cons ⟨rfl, by decide, .inl (gl "NoDay" (by decide +kernel))⟩ (.cons ⟨rfl, by decide, .inl (gl "NoKind" (by decide +kernel))⟩ (.cons ⟨rfl, by decide, .inl (gl "NoName" (by decide +kernel))⟩ (.cons ⟨rfl, by decide, .inl (gl "NoNumber" (by decide +kernel))⟩
            (.cons ⟨rfl, by decide, .inl (gl "NoRide" (by decide +kernel))⟩ (.cons ⟨rfl, by decide, .inl (gl "NoRow" (by decide +kernel))⟩ (.cons ⟨rfl, by decide, .inl (gl "NoRule" (by decide +kernel))⟩ (.cons ⟨rfl, by decide, .inl (gl "NoSeats" (by decide +kernel))⟩ (.cons ⟨rfl, by decide, .inl (gl "NoShare" (by decide +kernel))⟩ .nil))))))))))
          (.cons ⟨rfl, by decide, .inl (gl "NoText" (by decide +kernel))⟩ (.cons ⟨rfl, by decide, .inl (gl "NothingDone" (by decide +kernel))⟩ (.cons ⟨rfl, by decide, .inl (gl "Nought" (by decide +kernel))⟩ (.cons ⟨rfl, by decide, .inl (gl "Taken" (by decide +kernel))⟩ (.cons ⟨rfl, by decide, .inl (gl "TooMany" (by decide +kernel))⟩ (.cons ⟨rfl, by decide, .inl (gl "Uneven" (by decide +kernel))⟩ .nil))))))
          (by show 10 ≤ 100; decide) (by show 6 ≤ 100; decide) takes0
          (fun W pn xe tk _ => pss_one (ps_set (i := 2) sc_l_got.nd rfl (.inl rfl) (call W pn xe _ _ tk)))
          (fun a cls d pn => pss_one (ps_set (i := 1) sc_l_got.nd rfl (.inl rfl) (pv 3)))
          (fun a cls d pn => pss_one (ps_set (i := 1) sc_l_got.nd rfl (.inl rfl) (pv 3))))
      (pss_cons (ps_if (pt_cmpR op_isN1 (pv 1) pe_non (nomark _)) (pss_one (ps_ret (pe_tup (pa_cons pe_str (pa_cons (pv 2) pa_nil))))) pss_nil)
      (pss_one (ps_ret (pe_tup (pa_cons (pe_c cW hr3 (by decide) rfl (pa_cons (pv 1) pa_nil)) (pa_cons (pe_c cF hr3 (by decide) rfl (pa_cons (pv 1) pa_nil)) pa_nil))))))), ?_⟩
  refine ⟨by show 2 ≤ sizeLine; decide, fun t0 f0 => ⟨t0, _, rfl, SqT.of upd_same, rfl, _, _, rfl, _, _, rfl, rfl, ?_⟩⟩
  have s1 := same_new (o := .tup [.non, .non]) f0
  refine ⟨rfl, s1 _ _ code, h _ _ _ s1 ?_ ?_⟩
  · rintro cls d H' wd v ⟨D, ow, ab, rfl, T, M, W, hcl, hd, hf⟩ hQ
    refine ⟨_, exm_ow M cl10 (by decide +kernel), fun _ a ha => ?_, fun z10 => ⟨_, exm_ow M cl6 (by decide +kernel), fun _ a ha => ?_, fun z6 => ?_⟩⟩
    rotate_right
    · rcases hcl with e | e
      · rw [e] at z10
        cases z10
      · rw [e] at z6
        cases z6
    all_goals
      have sx := same_new (o := Xc (.ref D) d a) ha
      have hx : (upd H' a (Xc (.ref D) d a)) a = some (Xc (.ref D) d a) := upd_same
      have hd2 := dct_same hd sx
      have hf2 := hf.same sx
      generalize upd H' a (Xc (.ref D) d a) = H2 at sx hx hd2 hf2 ⊢
      refine ⟨_, rfl, ?_⟩
      refine ⟨_, rfl, rfl, _, rfl, iteF ?_⟩
      refine ⟨_, rfl, D, wd, ow, ab, T, W, a, d, rfl, hx, hd2, fun H3 s3 => ?_⟩
      refine ⟨_, rfl, D, ow, ab, T, a, d, v, rfl, s3 _ _ hx, dct_same hd2 s3, hf2.same s3, fun H4 s4 => ?_⟩
      exact ⟨by show 2 ≤ sizeLine; decide, fun u fu => hQ u _ (((sx.trans s3).trans s4).trans (same_new fu)) (((sx.trans s3).trans s4).free fu) upd_same⟩
  · rintro v H' hQ
    refine ⟨_, rfl, rfl, _, rfl, iteT ?_⟩
    exact ⟨_, rfl, by show 2 ≤ sizeLine; decide, fun u fu => hQ u _ (same_new fu) fu upd_same⟩
end
end K09
set_option Elab.async false
set_option linter.all false
set_option maxRecDepth 100000
set_option maxHeartbeats 4000000
/-! LMS2: a lambda without parameters handed to a def that hands it on to another def (which calls it in a try of its own slots). -/
namespace LMS
open PySem PySem.Spec PyProof.Rows L2
open LamX (Tabs ExtN TabB CodeO LamS lamEnv lamCx lam_start2 lam_make2 run_ofS)
/-- what stays, one behind another, where the second has a frame more -/
theorem un_two {fs fs' : List Addr} {H H1 H2 : Hp} {h h1 h2 : Heap} (a : Un fs [] H H1 h h1) (b : Un fs' [] H1 H2 h1 h2) (new : ∀ x ∈ fs', x ∉ fs → h.get? x = none) : Un fs [] H H2 h h2 where
  keep := fun x o z n hf hx => by
    have e1 := a.keep x o z n hf hx
    refine b.keep x o e1 (a.free x o z n hx) (fun hm => ?_) hx
    rw [new x hm hf] at z
    cases z
  slot := fun x o z n hf hx => by
    obtain ⟨sl, e1⟩ := a.slot x o z n hf hx
    by_cases hm : x ∈ fs'
    · obtain ⟨sl', e2⟩ := b.slot x _ e1 (a.free x o z n hx) hm hx
      exact ⟨sl', e2⟩
    · exact ⟨sl, b.keep x _ e1 (a.free x o z n hx) hm hx⟩
  free := fun x o z n hx => by
    obtain ⟨o', e1⟩ := a.there x o z hx
    exact b.free x o' e1 (a.free x o z n hx) hx
  there := fun x o z hx => by
    obtain ⟨o', e1⟩ := a.there x o z hx
    exact b.there x o' e1 hx
  tups := fun x xs e => b.tups x xs (a.tups x xs e)
  frzs := fun x o u e => b.frzs x o u (a.frzs x o u e)
  tbls := fun x ps e => by
    obtain ⟨m1, e1⟩ := a.tbls x ps e
    obtain ⟨m2, e2⟩ := b.tbls x _ e1
    exact ⟨m1 ++ m2, by rw [e2, Array.append_assoc]⟩
section
variable {X : Cx} {pins : List (Addr × Obj)} {σ : L2.St} {H : Hp} {s : Shared}
/-- x(), two defs behind the one that made the lambda: XM is the def between, called at s, H -/
theorem pe_run2 {Cg : CXT} {Eg : XK} {Nd : List Str} {qm qd : Str} {sm sd : Scope} {gm gd lf lc : Addr} {cdm cdv pm ctv : Value} {ps : Arguments} {bd : Expr} {sl : Scope} {k i : Nat} {y : Str} {pn : List (Addr × Obj)} {xe : Value → Shared → Prop} {W : WX} {tl : XK → TE} {pa pb : Pos} {s' : Shared} {H' : Hp}
    (I : Inv X pins σ H s) (unM : Un (frs X.stack) [] H H' s.heap s'.heap) (L : LamS X.env.scope sl) (at_ : s.heap.get? lf = some (PySem.W.kla_obj "<lambda>" (X.env.qual ++ "<lambda>") ps bd sl (cloFrom X.env.cells sl.names []) pm lc ctv)) (fn : H lf = none) (nf : lf ∉ frs X.stack)
    (bind : bindArgs (PySem.W.kla_fn "<lambda>" (X.env.qual ++ "<lambda>") ps bd sl (cloFrom X.env.cells sl.names []) pm (.ref lc) ctv) ⟨[], []⟩ = pure [])
    (takes : Takes ((cxOf Cg X.prog X.w X.K X.mg X.base Nd qd sd gd cdv (X.A.deeper (envOfC qm sm s.heap.objs.size gm cdm)) (envOfC qm sm s.heap.objs.size gm cdm :: X.stack) s' H' Eg).tr pn xe) W)
    (room : Room (k + 1) ((X.A.deeper (envOfC qm sm s.heap.objs.size gm cdm)).deeper (envOfC qd sd s'.heap.objs.size gd cdv)))
    (body : ∀ (A : Around) (outer : List Env) (s0 : Shared) (H0 : Hp) (E : XK), Room k (A.deeper (lamEnv X sl s0.heap.objs.size lf lc)) → PE (lamCx X A outer s0 H0 E sl lf lc) bd (tl E))
    (hN : Nd[i]? = some y) (hv : Vis sd y) (n1 : (y == ("__debug__" : Str)) = false := by decide) (n2 : (y == ("__classdict__" : Str)) = false := by decide) :
    PE ((cxOf Cg X.prog X.w X.K X.mg X.base Nd qd sd gd cdv (X.A.deeper (envOfC qm sm s.heap.objs.size gm cdm)) (envOfC qm sm s.heap.objs.size gm cdm :: X.stack) s' H' Eg).tr pn xe) (.Call (.Name y pa) [] [] pb)
      (fun σ2 H2 Q => σ2[i]? = some (some (.ref lf)) ∧ H2 lc = some (CodeO lc (X.env.qual ++ "<lambda>")) ∧ tl (fun cls d H' => W cls d σ2 H') σ H2 Q) := by
  have new : ∀ x ∈ frs (envOfC qm sm s.heap.objs.size gm cdm :: X.stack), x ∉ frs X.stack → s.heap.get? x = none := fun x hx nx => by
    have e : frs (envOfC qm sm s.heap.objs.size gm cdm :: X.stack) = s.heap.objs.size :: frs X.stack := rfl
    rw [e] at hx
    rcases List.mem_cons.mp hx with rfl | hx
    · cases hg : s.heap.get? s.heap.objs.size with
      | none => rfl
      | some o => exact absurd (Heap.lt_size hg) (Nat.lt_irrefl _)
    · exact absurd hx nx
  have at' := unM.keep lf _ at_ fn nf (fun z => nomatch z)
  have fn' := unM.free lf _ at_ fn (fun z => nomatch z)
  have nf' : lf ∉ frs (envOfC qm sm s.heap.objs.size gm cdm :: X.stack) := fun hm => by
    rw [new lf hm nf] at at_
    cases at_
  refine ⟨fun pins2 s2 σ2 H2 Q I2 ⟨atS, atC, told⟩ => ?_⟩
  refine wpAny_Call_Name_kw (thn ((pe_var (pos := pa) (i := i) hN hv n1 n2).run pins2 s2 σ2 H2 (fun v H1 => v = .ref lf ∧ H1 = H2) I2 ⟨.ref lf, atS, rfl, rfl⟩) ?_)
  rintro u s3 ⟨v, H1, I3, rv, rfl, rfl⟩
  obtain rfl : u = Value.ref lf := rv
  have at3 := I3.base.keep lf _ at' fn' nf' (fun z => nomatch (show lf ∈ ([] : List Addr) from z))
  refine PySem.W.callWith_F0 ⟨_, _, _, _, at3⟩ (wpAny_call ?_)
  have un3 : Un (frs (envOfC qm sm s.heap.objs.size gm cdm :: X.stack)) [] H' H1 s'.heap s3.heap := I3.base
  have un : Un (frs X.stack) [] H H1 s.heap s3.heap := un_two unM un3 new
  obtain ⟨⟨oc, ws, t, c1, c2, c3⟩, _, _⟩ := I3.hok lc _ atC
  have leave : PassesAt (L2.CX X.prog X.w) ((cxOf Cg X.prog X.w X.K X.mg X.base Nd qd sd gd cdv (X.A.deeper (envOfC qm sm s.heap.objs.size gm cdm)) (envOfC qm sm s.heap.objs.size gm cdm :: X.stack) s' H' Eg).tr pn xe) σ2 (WE W σ2) := passAt takes σ2
  refine codeAny_mono (R := CR (L2.CX X.prog X.w) (envOfC qd sd s'.heap.objs.size gd cdv :: envOfC qm sm s.heap.objs.size gm cdm :: X.stack) X.prog X.w H1 s3 Q fun cls d H' => W cls d σ2 H') ?_ ?_
  · show codeAny (model X.prog X.w) ((X.A.deeper (envOfC qm sm s.heap.objs.size gm cdm)).deeper (envOfC qd sd s'.heap.objs.size gd cdv)) (.call (.ref lf) ⟨[], []⟩) _ _
    refine PySem.W.kla_callFunE room.depth at3 rfl L.co L.gen rfl ⟨lc, oc, ws, t, rfl, c1, c2, c3⟩ ?_
    rw [bind]
    refine wpAny_pure (wpAny_newFunctionEnv (fun y hy => (L.own y hy).2) (fun y hy => absurd hy (by simp)) ?_ L.kind)
    intro h₁ hns hsb
    refine ⟨I3.nolimit.fresh _ hsb, ?_⟩
    have more : ∀ b o, s3.heap.get? b = some o → h₁.get? b = some o := fun b o e => hsb.extBut b o (Nat.ne_of_lt (Heap.lt_size e)) (Heap.get?_push_of_some _ e)
    have J := lam_start2 (E := fun cls d H' => W cls d σ2 H') (f := lf) (c' := lc) (tk := s3.toks + ([] : List (Str × Value)).length) I L I3.env0 room.hd un hns more
    refine PySem.W.kla_codeExpr (wpAny_mono ((body _ _ s3 H1 _ (room.deeper _)).run [] _ _ H1 Q J told) ?_ fun e s' he => he)
    rintro v s' ⟨w', H', J', r', q'⟩
    exact ⟨w', H', J'.os, J'.bare, J'.base, J'.hok, r', q'⟩
  · intro r s' hr
    match r, hr with
    | .error e, hr => exact leave pins2 H1 s3 e s' I3 hr
    | .ok (.ret u), hr => exact I3.after hr
    | .ok .next, hr => exact False.elim hr
    | .ok .brk, hr => exact False.elim hr
    | .ok .cont, hr => exact False.elim hr
/-- x(y) in the def between, where y is the lambda -/
theorem pe_pass {TT : (XK → Hp → VK → Prop) → Hp → VK → Prop} {Nm Nd : List Str} {x y ym qm : Str} {sm sd : Scope} {gm gd lf lc : Addr} {cdm pm ctv : Value} {ps : Arguments} {bd : Expr} {sl : Scope} {k i : Nat} {tl : XK → TE} {pg : Arguments} {bg : List Stmt} {dV kV doc pmg cdv ct oc : Value} {an od : Option Addr} {osl : Array (Option Value)} {p1 p2 p3 : Pos}
    (I : Inv X pins σ H s) (L : LamS X.env.scope sl) (at_ : s.heap.get? lf = some (PySem.W.kla_obj "<lambda>" (X.env.qual ++ "<lambda>") ps bd sl (cloFrom X.env.cells sl.names []) pm lc ctv)) (fn : H lf = none) (nf : lf ∉ frs X.stack)
    (bind : bindArgs (PySem.W.kla_fn "<lambda>" (X.env.qual ++ "<lambda>") ps bd sl (cloFrom X.env.cells sl.names []) pm (.ref lc) ctv) ⟨[], []⟩ = pure [])
    (room : Room (k + 2) (X.A.deeper (envOfC qm sm s.heap.objs.size gm cdm)))
    (body : ∀ (A : Around) (outer : List Env) (s0 : Shared) (H0 : Hp) (E : XK), Room k (A.deeper (lamEnv X sl s0.heap.objs.size lf lc)) → PE (lamCx X A outer s0 H0 E sl lf lc) bd (tl E))
    (hg : Gl (cxOf C8.CX0 X.prog X.w X.K X.mg X.base Nm qm sm gm cdm X.A X.stack s H C8.E0).nox x) (hm : X.mg x = some (.ref gd)) (hk : PySem.W.keepIn X.K (.ref gd) = true)
    (lk : X.K.lookup gd = some ⟨oc, od, .func (PySem.W.fnOf x x pg bg sd dV kV doc pmg an cdv ct), osl⟩) (hcg : PySem.W.codeIn X.K cdv x = true) (hb : L2.Binds X.K (PySem.W.fnOf x x pg bg sd dV kV doc pmg an cdv ct) [y] []) (Sd : FnScope Nd [y] sd) (hN : Nd[0]? = some y) (hv : Vis sd y)
    (gives : GivesS (cxOf C8.CX0 X.prog X.w X.K X.mg X.base Nm qm sm gm cdm X.A X.stack s H C8.E0).nox Nd x sd gd cdv bg y (X.env.qual ++ "<lambda>") TT)
    (hNm : Nm[i]? = some ym) (hvm : Vis sm ym) (n0 : (x == ("__debug__" : Str)) = false := by decide) (n1 : (y == ("__debug__" : Str)) = false := by decide) (n2 : (y == ("__classdict__" : Str)) = false := by decide) (m1 : (ym == ("__debug__" : Str)) = false := by decide) (m2 : (ym == ("__classdict__" : Str)) = false := by decide)
    (he : starEach [.Name ym p2] (cxOf C8.CX0 X.prog X.w X.K X.mg X.base Nm qm sm gm cdm X.A X.stack s H C8.E0).nox.env = (false, eval (.Name ym p2) (cxOf C8.CX0 X.prog X.w X.K X.mg X.base Nm qm sm gm cdm X.A X.stack s H C8.E0).nox.env) :: starEach [] (cxOf C8.CX0 X.prog X.w X.K X.mg X.base Nm qm sm gm cdm X.A X.stack s H C8.E0).nox.env := by rfl) :
    PE (cxOf C8.CX0 X.prog X.w X.K X.mg X.base Nm qm sm gm cdm X.A X.stack s H C8.E0).nox (.Call (.Name x p1) [.Name ym p2] [] p3)
      (fun σ2 H2 Q => σ2[i]? = some (some (.ref lf)) ∧ H2 lc = some (CodeO lc (X.env.qual ++ "<lambda>")) ∧ TT (fun E H' Q' => tl E σ H' Q') H2 Q) := by
  refine ⟨fun pins2 s2 σ2 H2 Q I2 ⟨atS, atC, told⟩ => ?_⟩
  have args : PA (cxOf C8.CX0 X.prog X.w X.K X.mg X.base Nm qm sm gm cdm X.A X.stack s H C8.E0).nox [.Name ym p2] _ := pa_cons (pe_var (pos := p2) (i := i) hNm hvm m1 m2) pa_nil
  refine wpAny_Call_Name_kw (ld_glob I2 hg hm (PySem.W.callWith_K (h₀ := X.base) I2.ok.mod.kin hk (thn (args.run p3 pins2 s2 σ2 H2 (fun vs H1 => vs = [.ref lf] ∧ H1 = H2) I2 ⟨.ref lf, atS, rfl, rfl⟩) ?_) he (by rfl)) n0)
  rintro us s1 ⟨vs, H1, I1, r, rfl, rfl⟩
  refine ⟨I1.kIn, ?_⟩
  have un : Un (frs X.stack) [] H H1 s.heap s1.heap := I1.base
  match us, r with
  | [u], .cons ru .nil =>
    obtain rfl : u = Value.ref lf := ru
    refine wpAny_call (codeAny_mono (R := CR C8.CX0 (envOfC qm sm s.heap.objs.size gm cdm :: X.stack) X.prog X.w H1 s1 Q C8.E0) ?_ ?_)
    · refine run_ofS (N := Nd) (ps := [y]) (us := [.ref lf]) (vs := [.ref lf]) lk hcg Sd room I1.env0 (hb s1 [.ref lf] I1.kIn rfl) (.cons rfl .nil) rfl fun room' => ?_
      obtain ⟨t', ps', q'⟩ := gives lf lc s1 H1 Q (fun E H' Q' => tl E σ H' Q') (fun W pn xe pa pb tk => pe_run2 (i := 0) I un L at_ fn nf bind tk room' body hN hv n1 n2) atC told
      exact ⟨t', ps'.nox, q'⟩
    · intro r s' hr
      match r, hr with
      | .error e, hr => exact (show False from hr).elim
      | .ok (.ret u), hr => exact I1.after hr
      | .ok .next, hr => exact False.elim hr
      | .ok .brk, hr => exact False.elim hr
      | .ok .cont, hr => exact False.elim hr
end
/-- what the def between makes of the lambda that it got: xg is the def that it hands it on to, TT what that one makes of it -/
def GivesP (X : Cx) (Nm : List Str) (xm : Str) (sm : Scope) (gm : Addr) (cdm : Value) (bm : List Stmt) (ym q xg : Str) (TT TTm : (XK → Hp → VK → Prop) → Hp → VK → Prop) : Prop :=
  ∀ (lf lc : Addr) (s : Shared) (H : Hp) (Q : VK) (told : XK → Hp → VK → Prop),
    (∀ (p1 p2 p3 : Pos), PE (cxOf C8.CX0 X.prog X.w X.K X.mg X.base Nm xm sm gm cdm X.A X.stack s H C8.E0).nox (.Call (.Name xg p1) [.Name ym p2] [] p3) (fun σ2 H2 Q => σ2[0]? = some (some (.ref lf)) ∧ H2 lc = some (CodeO lc q) ∧ TT told H2 Q)) →
    H lc = some (CodeO lc q) → TTm told H Q →
    ∃ t, PSs (cxOf C8.CX0 X.prog X.w X.K X.mg X.base Nm xm sm gm cdm X.A X.stack s H C8.E0).nox bm t ∧ t { nx := fun _ H' => Q .non H', rt := Q } (L2.start Nm [.ref lf]) H
/-- the def that is handed the lambda in the end: what stands behind its name -/
structure Got (K : PySem.W.Frag) (mg : Str → Option Value) (xg yg : Str) (Nd : List Str) (sd : Scope) (gd : Addr) (cdv : Value) (bg : List Stmt) : Prop where
  ex : ∃ (pg : Arguments) (dV kV doc pmg ct oc : Value) (an od : Option Addr) (osl : Array (Option Value)), K.lookup gd = some ⟨oc, od, .func (PySem.W.fnOf xg xg pg bg sd dV kV doc pmg an cdv ct), osl⟩ ∧ L2.Binds K (PySem.W.fnOf xg xg pg bg sd dV kV doc pmg an cdv ct) [yg] []
  hm : mg xg = some (.ref gd)
  hk : PySem.W.keepIn K (.ref gd) = true
  hcg : PySem.W.codeIn K cdv xg = true
  Sd : FnScope Nd [yg] sd
  hN : Nd[0]? = some yg
  hv : Vis sd yg
section
variable {X : Cx}
/-- x(lambda: bd), where x hands it on -/
theorem pe_lamP {T : List (Addr × Str)} {TT TTm : (XK → Hp → VK → Prop) → Hp → VK → Prop} {x y xg yg : Str} {gm gd c P : Addr} {k : Nat} {pg : Arguments} {bm bg : List Stmt} {sm sd : Scope} {dV kV doc pm cdm cdv ct oc : Value} {an od : Option Addr} {osl : Array (Option Value)} {Nm Nd : List Str}
    {ps : Arguments} {bd : Expr} {sl : Scope} {tl : XK → TE} {p lp pos : Pos} (hg : Gl X x) (hm : X.mg x = some (.ref gm)) (hk : PySem.W.keepIn X.K (.ref gm) = true)
    (lk : X.K.lookup gm = some ⟨oc, od, .func (PySem.W.fnOf x x pg bm sm dV kV doc pm an cdm ct), osl⟩) (hcg : PySem.W.codeIn X.K cdm x = true) (hb : L2.Binds X.K (PySem.W.fnOf x x pg bm sm dV kV doc pm an cdm ct) [y] []) (Sm : FnScope Nm [y] sm) (hN : Nm[0]? = some y) (hv : Vis sm y)
    (G : Got X.K X.mg xg yg Nd sd gd cdv bg) (hgg : ∀ s H, Gl (cxOf C8.CX0 X.prog X.w X.K X.mg X.base Nm x sm gm cdm X.A X.stack s H C8.E0).nox xg)
    (gives : GivesP X Nm x sm gm cdm bm y (X.env.qual ++ "<lambda>") xg TT TTm)
    (gives2 : ∀ s H, Room (k + 2) (X.A.deeper (envOfC x sm s.heap.objs.size gm cdm)) → GivesS (cxOf C8.CX0 X.prog X.w X.K X.mg X.base Nm x sm gm cdm X.A X.stack s H C8.E0).nox Nd xg sd gd cdv bg yg (X.env.qual ++ "<lambda>") TT)
    (he2 : ∀ s H p2, starEach [.Name y p2] (cxOf C8.CX0 X.prog X.w X.K X.mg X.base Nm x sm gm cdm X.A X.stack s H C8.E0).nox.env = (false, eval (.Name y p2) (cxOf C8.CX0 X.prog X.w X.K X.mg X.base Nm x sm gm cdm X.A X.stack s H C8.E0).nox.env) :: starEach [] (cxOf C8.CX0 X.prog X.w X.K X.mg X.base Nm x sm gm cdm X.A X.stack s H C8.E0).nox.env)
    (TB : TabB X.base X.mg c P) (code : X.env.code = .ref c) (mem : (P, X.env.qual ++ "<lambda>") ∈ T) (one : ∀ p ∈ T, p.1 = P → p.2 = X.env.qual ++ "<lambda>") (room : Room (k + 3) X.A) (L : LamS X.env.scope sl) (def0 : defaultsOf ps X.env = ([], []))
    (bind : ∀ (q : Str) (cl : List (Str × Addr)) (pm cv ctv : Value), bindArgs (PySem.W.kla_fn "<lambda>" q ps bd sl cl pm cv ctv) ⟨[], []⟩ = pure [])
    (body : ∀ (A : Around) (outer : List Env) (s0 : Shared) (H0 : Hp) (E : XK) (lf lc : Addr), Room k (A.deeper (lamEnv X sl s0.heap.objs.size lf lc)) → PE (lamCx X A outer s0 H0 E sl lf lc) bd (tl E))
    (n0 : (x == ("__debug__" : Str)) = false := by decide) (n3 : (xg == ("__debug__" : Str)) = false := by decide) (n1 : (yg == ("__debug__" : Str)) = false := by decide) (n2 : (yg == ("__classdict__" : Str)) = false := by decide) (m1 : (y == ("__debug__" : Str)) = false := by decide) (m2 : (y == ("__classdict__" : Str)) = false := by decide) :
    PE X (.Call (.Name x p) [.Lambda ps bd sl lp] [] pos) (tLamS T TTm tl) := by
  obtain ⟨pg', dV', kV', doc', pm', ct', oc', an', od', osl', lkG, hbG⟩ := G.ex
  refine ⟨fun pins s σ H Q I ⟨hT, h⟩ => ?_⟩
  refine wpAny_Call_Name_kw (ld_glob I hg hm (PySem.W.callWith_K (h₀ := X.base) I.ok.mod.kin hk ?_ (by rfl) (by rfl)) n0)
  show wpAny _ _ (spliced ((false, eval (.Lambda ps bd sl lp) X.env) :: backTo pos (starEach [] X.env))) _ _ s
  refine Calls.spliced_cons (lam_make2 I TB code mem one hT def0 (L.has I.ok) ?_)
  intro lf lc pmL ctv H1 s' I1 eN T1 e1 fn nf co
  refine Calls.spliced_nil ⟨I1.kIn, wpAny_call (codeAny_mono (R := CR C8.CX0 X.stack X.prog X.w H1 s' Q C8.E0) ?_ ?_)⟩
  · refine run_ofS (N := Nm) (ps := [y]) (us := [.ref lf]) (vs := [.ref lf]) lk hcg Sm room I1.env0 (hb s' [.ref lf] I1.kIn rfl) (.cons rfl .nil) rfl fun room' => ?_
    obtain ⟨t', ps', q'⟩ := gives lf lc s' H1 Q (fun E H' Q' => tl E σ H' Q') (fun p1 p2 p3 => pe_pass (i := 0) I1 L e1 fn nf (bind _ _ _ _ _) room' (fun A outer s0 H0 E r => body A outer s0 H0 E lf lc r) (hgg s' H1) G.hm G.hk lkG G.hcg hbG G.Sd G.hN G.hv (gives2 s' H1 room') hN hv n3 n1 n2 m1 m2 (he2 s' H1 p2)) co (h H1 eN T1)
    exact ⟨t', ps'.nox, q'⟩
  · intro r s2 hr
    match r, hr with
    | .error e, hr => exact (show False from hr).elim
    | .ok (.ret u), hr => exact I1.after hr
    | .ok .next, hr => exact False.elim hr
    | .ok .brk, hr => exact False.elim hr
    | .ok .cont, hr => exact False.elim hr
end
end LMS
set_option Elab.async false
set_option linter.all false
set_option maxRecDepth 100000
set_option maxHeartbeats 4000000
namespace K09
open PySem PySem.Spec PyProof.Rows L2
open C8 (Cal Mak Met pe_c pe_mk pe_mt pe_mt0)
open THI
open SX (S)
open PySem.Builtin PySem.Builtin.List
/-- a value and what it shows as -/
structure Rdy (H : Hp) (v : V) (tx : Str) : Prop where
  rp : ∀ X outs H2, Same H H2 → (∀ o ∈ outs, H o = none) → RPO.RpU X 4 outs H2 v tx
  ln : tx.length ≤ 200
theorem Rdy.of {H : Hp} {v : V} {k : Kn} {t : Str} (h : Thg H v k t 4) : Rdy H v t := ⟨fun X outs H2 s ho => h.rp X outs H2 s ho, Nat.le_trans h.len (by decide)⟩
/-- what _law_met makes of the deed -/
def MetT (K : PySem.W.Frag) (mg : Str → Option Value) (C : Addr) (told : XK → Hp → VK → Prop) (H : Hp) (Q : VK) : Prop := ∀ (H1 : Hp) (E' : XK) (Q' : VK), Same H H1 →
  (∀ cls d H' (wd : Str) (v : V) (tx : Str), RefAt K mg cls d H' wd v → wd ≠ "told" → Rdy H' v tx → (reprText wd).length ≤ 100 → (∀ H2, Same H' H2 → Q (.str (tupleText [reprText wd, tx])) H2) → E' cls d H') →
  (∀ p dx x1 x2 x3 t1 t2 t3 H', H' p = some (.ins C dx (peV x1 x2 x3)) → Rdy H' x1 t1 → Rdy H' x2 t2 → Rdy H' x3 t3 → (∀ H2, Same H' H2 → Q (.str (tupleText [reprText "told", tupleText [t1, t2, t3]])) H2) → Q' (.ref p) H') → told E' H1 Q'
theorem two_len {a b : Str} (h1 : a.length ≤ 100) (h2 : b.length ≤ 1000) : (tupleText [a, b]).length ≤ sizeLine := by
  have := tupleText_len_le [a, b]
  simp only [List.map_cons, List.map_nil, List.sum_cons, List.sum_nil, List.length_cons, List.length_nil] at this
  exact Nat.le_trans (m := 2000) (by omega) (by decide)
theorem three_len {a b c : Str} (h1 : a.length ≤ 200) (h2 : b.length ≤ 200) (h3 : c.length ≤ 200) : (tupleText [a, b, c]).length ≤ 1000 := by
  have := tupleText_len_le [a, b, c]
  simp only [List.map_cons, List.map_nil, List.sum_cons, List.sum_nil, List.length_cons, List.length_nil] at this
  omega
theorem none_up2 {H H' : Hp} {o : Addr} (s : Same H H') (h : H' o = none) : H o = none := by
  cases e : H o with
  | none => rfl
  | some x =>
    rw [s _ _ e] at h
    cases h
section
variable {X : Cx} {gm : Addr} {cdm : Value} {q : Str} {C : Addr}
theorem met_gives (hgd : X.A.guards = some []) (hr : Room 8 X.A) (brep : X.mg "repr" = none) (T : ClP X.K X.mg C) : LMS.GivesP X N_l_met "_law_met" (defScope s_l_met) gm cdm (defBody s_l_met) "_law_deed" q "_law_got" (GotT X.K X.mg) (MetT X.K X.mg C) := by
  intro lf lc s H Q told pass code h
  have hr7 : Room 7 (X.A.deeper (envOfC "_law_met" (defScope s_l_met) s.heap.objs.size gm cdm)) := hr.deeper _
  have hgd2 : (X.A.deeper (envOfC "_law_met" (defScope s_l_met) s.heap.objs.size gm cdm)).guards = some [] := hgd
  refine ⟨_, pss_cons (ps_asg (pass _ _ _) (pg_tup rfl (pgs_cons (pg_name (i := 1) sc_l_met.nd rfl (.inl rfl)) (pgs_cons (pg_name (i := 2) sc_l_met.nd rfl (.inl rfl)) pgs_nil))))
      (pss_cons (ps_if (pt_cmpR op_eq (pv 1) pe_str (nomark _)) (pss_one (ps_set (i := 2) sc_l_met.nd rfl (.inl rfl) (pe_tup (pa_cons (pe_fld (pv 2) rfl) (pa_cons (pe_fld (pv 2) rfl) (pa_cons (pe_fld (pv 2) rfl) pa_nil)))))) pss_nil)
      (pss_one (ps_ret (pe_callB (RPO.call_reprT (n := 5) hgd2 (hr7.mono (by decide))) rfl brep boot_repr (pa_cons (pe_tup (pa_cons (pv 1) (pa_cons (pv 2) pa_nil))) pa_nil))))), ?_⟩
  refine ⟨rfl, code, fun H1 E' Q' s1 hE hT => h H1 E' Q' s1 (fun cls d H' wd v tx ref ne rd rl hq => hE cls d H' wd v ref fun t H2 s2 ft ht => ?_) (fun p dx x1 x2 x3 t1 t2 t3 H' hp r1 r2 r3 hq => hT (.ref p) H' fun t H2 s2 ft ht => ?_)⟩
  · refine ⟨t, _, rfl, SqT.of ht, rfl, _, _, rfl, _, _, rfl, rfl, ?_⟩
    refine ⟨_, rfl, rfl, _, rfl, ?_⟩
    refine iteFE (decide_eq_false fun z => ne (V.str.inj z)) ?_
    refine ⟨_, rfl, _, rfl, by show 2 ≤ sizeLine; decide, fun u fu => ?_⟩
    have s3 := s2.trans (same_new (o := .tup [.str wd, v]) fu)
    refine ⟨u, _, [reprText wd, tx], rfl, upd_same, .cons .str (.cons ((rd.rp _ [u] _ s3 (by simpa using none_up2 s2 fu)).mono (by decide)) .nil), two_len rl (Nat.le_trans rd.ln (by decide)), fun H3 e3 => hq H3 (s3.trans e3)⟩
  · refine ⟨t, _, rfl, SqT.of ht, rfl, _, _, rfl, _, _, rfl, rfl, ?_⟩
    refine ⟨_, rfl, rfl, _, rfl, ?_⟩
    refine iteTE (decide_eq_true rfl) ?_
    have hp2 := s2 _ _ hp
    refine ⟨_, rfl, p, C, dx, _, _, rfl, hp2, T.cl, T.nn, pv_name _ _ _, _, rfl, p, C, dx, _, _, rfl, hp2, T.cl, T.ns, pv_seats _ _ _, _, rfl, p, C, dx, _, _, rfl, hp2, T.cl, T.nm, pv_mask _ _ _, by show 3 ≤ sizeLine; decide, fun u fu => ?_⟩
    have y1 := same_new (o := .tup [x1, x2, x3]) fu
    have hu : (upd H2 u (.tup [x1, x2, x3])) u = some (.tup [x1, x2, x3]) := upd_same
    have s3 := s2.trans y1
    generalize upd H2 u (.tup [x1, x2, x3]) = H3 at y1 hu s3 ⊢
    refine ⟨_, rfl, _, rfl, by show 2 ≤ sizeLine; decide, fun w fw => ?_⟩
    have y2 := same_new (o := .tup [.str "told", .ref u]) fw
    have s4 := s3.trans y2
    have nuw : u ≠ w := fun z => by
      rw [z, fw] at hu
      cases hu
    have hu' : H' u = none := none_up2 s2 fu
    have hw' : H' w = none := none_up2 s3 fw
    have two : ∀ o ∈ [u, w], H' o = none := fun o ho => by
      simp only [List.mem_cons, List.not_mem_nil, or_false] at ho
      rcases ho with rfl | rfl
      · exact hu'
      · exact hw'
    refine ⟨w, _, [reprText "told", tupleText [t1, t2, t3]], rfl, upd_same, .cons .str (.cons (RPO.RpU.tup (n := 4) (y2 _ _ hu) (by simpa using nuw) (.cons (r1.rp _ [u, w] _ s4 two) (.cons (r2.rp _ [u, w] _ s4 two) (.cons (r3.rp _ [u, w] _ s4 two) .nil)))) .nil), two_len (by decide +kernel) (three_len r1.ln r2.ln r3.ln), fun H5 e5 => hq H5 (s4.trans e5)⟩
end
end K09
set_option Elab.async false
set_option linter.all false
set_option maxRecDepth 100000
set_option maxHeartbeats 4000000
namespace K09
open PySem PySem.Spec PyProof.Rows L2
open C8 (Cal Mak Met pe_c pe_mk pe_mt pe_mt0)
open THI
open SX (S)
open PySem.Builtin PySem.Builtin.List
theorem dp_strs {K : PySem.W.Frag} {H : Hp} : ∀ zs : List Str, DpAll K H (zs.map V.str) (zs.map .str)
  | [] => .nil
  | z :: zs => .cons (.str z) (dp_strs zs)
theorem letsR_S : (Str.ofString "abcdefghijklmnopqrstuvwxyz").cps.toList = (List.range 26).map (97 + ·) := by decide +kernel
theorem in_lets (c : Nat) : decide (c ∈ (Str.ofString "abcdefghijklmnopqrstuvwxyz").cps.toList) = lwB c := by
  rw [letsR_S]
  unfold lwB
  rw [Bool.eq_iff_iff]
  simp only [List.mem_map, List.mem_range, decide_eq_true_eq, Bool.and_eq_true]
  constructor
  · rintro ⟨a, h1, rfl⟩
    omega
  · rintro ⟨h1, h2⟩
    exact ⟨c - 97, by omega, by omega⟩
section
variable {P : Program} {w : World} {K : PySem.W.Frag} {mg : Str → Option Value} {base : Heap} {f C : Addr} {fd : FuncData}
/-- as spNm, the signs those of a text that can be laid -/
def spLn : Sp := fun vs H Q _ => ∃ (x : V) (k : Kn) (t : Str), vs = [x] ∧ Thg H x k t 4 ∧ (∀ s, k = .text s → s.length ≤ 1000 ∧ ∀ c ∈ s.cps.toList, c < 128) ∧ ∀ H', Same H H' → Q (.bl (nmK k)) H'
theorem lay_all : ∀ cs : List Nat, (∀ c ∈ cs, c < 128) → PyData.canLayAll0 (cs.map fun c => PyData.str (S [c])) = true
  | [], _ => by simp [PyData.canLayAll0]
  | c :: cs, h => by
    have h1 : c < 1114112 := Nat.lt_trans (h c List.mem_cons_self) (by decide)
    have h2 : PyData.strOk (S [c]) = true := by
      simp [PyData.strOk, S]
      exact h1
    rw [List.map_cons, PyData.canLayAll0, lay_all cs fun d hd => h d (List.mem_cons_of_mem _ hd), PyData.canLay0, h2]
    rfl
theorem dep_all : ∀ cs : List Nat, PyData.depthAll (cs.map fun c => PyData.str (S [c])) = 0
  | [] => by simp [PyData.depthAll]
  | c :: cs => by rw [List.map_cons, PyData.depthAll, dep_all cs, PyData.depth]; rfl
theorem sh_all (cs : List Nat) (h : ∀ c ∈ cs, c < 128) : SeqAt.shaped (.list (cs.map fun c => PyData.str (S [c]))) = true := by
  unfold SeqAt.shaped
  rw [PyData.canLay0, lay_all cs h, PyData.depth, dep_all cs]
  rfl
theorem dp_sig {K : PySem.W.Frag} {H : Hp} : ∀ cs : List Nat, DpAll K H (cs.map fun c => V.str (S [c])) (cs.map fun c => PyData.str (S [c]))
  | [] => .nil
  | c :: cs => .cons (.str _) (dp_sig cs)
theorem eqv_nil (cs : List Nat) : PyData.eqv (.list (cs.map fun c => PyData.str (S [c]))) (.list []) = cs.isEmpty := by
  cases cs <;> simp [PyData.eqv, PyData.eqvAll]
theorem not_all (l : List Nat) : (l.filter fun c => !lwB c).isEmpty = l.all lwB := by
  induction l with
  | nil => rfl
  | cons c l ih =>
    rw [List.filter_cons, List.all_cons]
    cases h : lwB c <;> simp [ih]
theorem ok_ln (F : Dn K d_l_is_name f fd) (b : Bl mg) : FnOk P w K mg base CX0 1 f fd ["_law_thing"] spLn := by
  refine F.ok sc_l_is_name (fun vs H Q E h => ?_) (fun cdv A outer s H vs Q E hr h => ?_)
  · obtain ⟨x, k, t, rfl, _⟩ := h
    rfl
  · obtain ⟨x, k, tt, rfl, th, hlen, hQ⟩ := h
    have hu64 : (A.deeper (envOfC d_l_is_name.qual d_l_is_name.scope s.heap.objs.size f cdv)).units + 64 < cLine := by have := hr.un; omega
    refine ⟨_, PSs.nox (pss_cons (ps_set (i := 1) sc_l_is_name.nd rfl (.inr rfl) pe_str)
      (pss_one (ps_ret (pe_and (pe_callB call_isi rfl b.isi boot_isinstance (pa_cons (pv 0) (pa_cons (pe_bltn (v := .ty "str") rfl b.str boot_str rfl) pa_nil))) (pe_and (pe_chain op_le op_le pe_int (pe_callB call_len_str rfl b.len boot_len (pa_cons (pv 0) pa_nil)) pe_int)
        (pe_one (pe_cmpR (op_eqD hu64) (pe_lc (own := [("_law_one", 2)]) (g := gName 2) rfl sc_l_is_name.nd (pi_str (pv 0)) (blkOk_by (N := N_l_is_name) (sc := defScope s_l_is_name) (by decide +kernel))
          (fun _ _ _ _ _ => pg_name (i := 2) sc_l_is_name.nd rfl (Or.inl rfl)) (fun _ _ _ _ _ => pts_one (pt_cmpR op_notIn_sign (pv 2) (pv 1) (by rfl))) (fun _ _ _ _ _ => pv 2)) (pe_lst pa_nil) (nomark _)))))))), ?_⟩
    have ty := th.tyN K H (SN.of (Same.refl H))
    have ks := k.kStr (K := K)
    by_cases ht : ∃ z, k = .text z
    rotate_left
    · have e1 : k.isStr = false := by
        cases k with
        | text z => exact absurd ⟨z, rfl⟩ ht
        | _ => rfl
      have e2 : nmK k = false := by
        cases k with
        | text z => exact absurd ⟨z, rfl⟩ ht
        | _ => rfl
      rw [e2] at hQ
      rw [e1] at ks
      exact ⟨_, rfl, _, _, _, _, false, rfl, ClsV.ty _, ty, ks, false, rfl, iteF (hQ H (Same.refl H))⟩
    obtain ⟨z, ek⟩ := ht
    have ex := th.txt z ek
    obtain ⟨hl, hcs⟩ := hlen z ek
    subst ek
    subst ex
    obtain ⟨l, rfl⟩ : ∃ l, z = S l := ⟨z.cps.toList, by simp [S]⟩
    have e2 : nmK (.text (S l)) = nmB l := by
      show nmB (S l).cps.toList = nmB l
      rw [show (S l).cps.toList = l by simp [S]]
    rw [e2] at hQ
    rw [SX.S_len] at hl
    have hz : (S l).length ≤ sizeLine := by
      rw [SX.S_len]
      exact Nat.le_trans hl (by decide)
    refine ⟨_, rfl, _, _, _, _, true, rfl, ClsV.ty _, ty, ks, true, rfl, iteT ?_⟩
    refine ⟨_, rfl, _, rfl, hz, _, _, rfl, rfl, _, rfl, ?_⟩
    by_cases h1 : 1 ≤ l.length
    rotate_left
    · refine iteFE (by rw [SX.S_len]; exact decide_eq_false (by omega)) ?_
      have : nmB l = false := by
        unfold nmB
        rw [decide_eq_false h1]
        rfl
      rw [this] at hQ
      exact ⟨_, rfl, iteFE rfl (hQ H (Same.refl H))⟩
    refine iteTE (by rw [SX.S_len]; exact decide_eq_true (by omega)) ?_
    refine ⟨_, _, rfl, rfl, _, rfl, ?_⟩
    by_cases h8 : l.length ≤ 8
    rotate_left
    · refine iteFE (by rw [SX.S_len]; exact decide_eq_false (by omega)) ?_
      have : nmB l = false := by
        unfold nmB
        rw [decide_eq_false h8]
        simp
      rw [this] at hQ
      exact hQ H (Same.refl H)
    refine iteTE (by rw [SX.S_len]; exact decide_eq_true (by omega)) ?_
    have e3 : nmB l = l.all lwB := by
      unfold nmB
      rw [decide_eq_true h1, decide_eq_true h8]
      rfl
    rw [e3] at hQ
    refine ⟨_, rfl, _, rfl, fun D hD => lc_it walk_str (fun i H2 => H2 D = some (.lst (((l.take i).filter fun c => !lwB c).map fun c => V.str (S [c]))) ∧ Same H H2) ⟨upd_same, same_new hD⟩ (fun _ _ _ _ => trivial) ?_ ?_⟩
    · rintro i x H2 H3 hi ⟨hd, sm⟩ ⟨rfl, c', hc', rfl⟩
      have hi' : i < l.length := by simpa [S] using hi
      have hg : l[i]? = some c' := by simpa [S] using hc'
      refine ⟨rfl, ?_⟩
      refine ⟨_, rfl, _, rfl, c', _, rfl, rfl, _, rfl, ?_⟩
      rw [in_lets]
      have tk : l.take (i + 1) = l.take i ++ [c'] := by
        rw [List.take_succ, hg]
        rfl
      cases hc : lwB c' with
      | false =>
        refine iteT ⟨_, rfl, _, hd, ?_, ?_, ?_⟩
        · rw [List.length_map]
          exact Nat.lt_of_le_of_lt (List.length_filter_le _ _) (by rw [List.length_take]; exact Nat.lt_of_lt_of_le (by omega : _ < 64) (by decide))
        · rw [upd_same, tk, List.filter_append]
          simp [hc]
        · intro a o e'
          rw [upd_ne (ne_of_none e' hD)]
          exact sm a o e'
      | true =>
        refine iteF ⟨?_, sm⟩
        rw [hd, tk, List.filter_append]
        simp [hc]
    · rintro H2 ⟨hd, sm⟩
      have el : l.take (S l).cps.size = l := List.take_of_length_le (by simp [S])
      rw [el] at hd
      refine ⟨Nat.zero_le _, fun u fu => ?_⟩
      have s3 := sm.trans (same_new (o := .lst []) fu)
      have hd3 := same_new (o := .lst []) fu _ _ hd
      refine ⟨_, _, Dp.lst (SqL.of hd3) (dp_sig _), Dp.lst (SqL.of upd_same) .nil, sh_all _ fun c hc => ?_, rfl, ?_⟩
      · refine hcs c ?_
        rw [show (S l).cps.toList = l by simp [S]]
        exact (List.mem_filter.mp hc).1
      rw [eqv_nil, not_all]
      exact hQ _ s3
end
end K09
set_option Elab.async false
set_option linter.all false
set_option maxRecDepth 100000
set_option maxHeartbeats 4000000
namespace K09
open PySem PySem.Spec PyProof.Rows L2
open C8 (Cal Mak Met pe_c pe_mk pe_mt pe_mt0)
open THI
open SX (S)
open PySem.Builtin PySem.Builtin.List
section
variable {P : Program} {w : World} {K : PySem.W.Frag} {mg : Str → Option Value} {base : Heap} {f C : Addr} {fd : FuncData}
def spUp : Sp := fun vs H Q _ => ∃ (x : V) (k : Kn) (t : Str) (m : Int), vs = [x, .int m] ∧ Thg H x k t 4 ∧ Q (.bl (wi k 0 m)) H
theorem ok_up (F : Dn K d_l_is_up_to f fd) (b : Bl mg) : FnOk P w K mg base CX0 1 f fd ["_law_thing", "_law_most"] spUp := by
  refine F.ok sc_l_is_up_to (fun vs H Q E h => ?_) (fun cdv A outer s H vs Q E hr h => ?_)
  · obtain ⟨x, k, t, m, rfl, _⟩ := h
    rfl
  · obtain ⟨x, k, t, m, rfl, th, hQ⟩ := h
    refine ⟨_, PSs.nox (pss_one (ps_ret (pe_and (pe_callB call_isi rfl b.isi boot_isinstance (pa_cons (pv 0) (pa_cons (pe_bltn (v := .ty "int") rfl b.int boot_int rfl) pa_nil)))
      (pe_and (pe_not (pe_callB call_isi rfl b.isi boot_isinstance (pa_cons (pv 0) (pa_cons (pe_bltn (v := .ty "bool") rfl b.bool boot_bool rfl) pa_nil)))) (pe_one (pe_chain op_le op_le pe_int (pv 0) (pv 1))))))), ?_⟩
    obtain ⟨ty, tx, e1, e2⟩ := th.ty K H (Same.refl H)
    refine ⟨_, rfl, _, _, _, _, k.isInt, rfl, ClsV.ty _, tx, e1, k.isInt, rfl, ?_⟩
    cases hk : k with
    | whole n =>
      rw [hk] at hQ e1 e2
      obtain rfl := th.val n hk
      refine iteT ?_
      refine ⟨_, rfl, _, _, _, _, false, rfl, ClsV.ty _, tx, e2, false, rfl, _, rfl, iteT ?_⟩
      refine ⟨_, rfl, _, _, rfl, rfl, _, rfl, ?_⟩
      by_cases h0 : 0 ≤ n
      · refine iteTE (decide_eq_true h0) ⟨_, rfl, _, _, rfl, rfl, ?_⟩
        have : wi (.whole n) 0 m = decide (n ≤ m) := by
          show decide (0 ≤ n ∧ n ≤ m) = _
          rw [decide_eq_decide]
          omega
        rw [this] at hQ
        exact hQ
      · refine iteFE (decide_eq_false h0) ?_
        have : wi (.whole n) 0 m = false := by
          show decide (0 ≤ n ∧ n ≤ m) = _
          exact decide_eq_false fun z => h0 z.1
        rw [this] at hQ
        exact hQ
    | flag c =>
      rw [hk] at hQ e1 e2
      refine iteT ?_
      exact ⟨_, rfl, _, _, _, _, true, rfl, ClsV.ty _, tx, e2, true, rfl, _, rfl, iteF hQ⟩
    | text z =>
      rw [hk] at hQ
      exact iteF hQ
    | non =>
      rw [hk] at hQ
      exact iteF hQ
    | lst =>
      rw [hk] at hQ
      exact iteF hQ
    | tup =>
      rw [hk] at hQ
      exact iteF hQ
    | dct =>
      rw [hk] at hQ
      exact iteF hQ
/-- what is due for three things -/
def DueAt (H0 H : Hp) (t : Addr) (x1 x2 x3 : V) (k1 k2 k3 : Kn) : Prop :=
  (okP k1 k2 k3 = true → ∃ u, H t = some (.tup [.str "told", .ref u]) ∧ H u = some (.tup [x1, x2, x3]) ∧ H0 u = none) ∧
  (okP k1 k2 k3 = false → H t = some (.tup [.str (if nmK k1 = true then "number" else "bad"), if nmK k1 = true then (if wi k2 0 9 = true then x3 else x2) else x1]))
def spDue : Sp := fun vs H Q _ => ∃ (x1 x2 x3 : V) (k1 k2 k3 : Kn) (t1 t2 t3 : Str), vs = [x1, x2, x3] ∧ Th3 H x1 x2 x3 k1 k2 k3 t1 t2 t3 ∧ (∀ s, k1 = .text s → s.length ≤ 1000 ∧ ∀ c ∈ s.cps.toList, c < 128) ∧
  ∀ t H', Same H H' → H t = none → DueAt H H' t x1 x2 x3 k1 k2 k3 → Q (.ref t) H'
theorem ok_due (F : Dn K d_l_due f fd) (cN : Cal P w K mg base 1 "_law_is_name" spLn []) (cU : Cal P w K mg base 1 "_law_is_up_to" spUp []) : FnOk P w K mg base CX0 2 f fd ["_law_called_here", "_law_places", "_law_days"] spDue := by
  refine F.ok sc_l_due (fun vs H Q E h => ?_) (fun cdv A outer s H vs Q E hr h => ?_)
  · obtain ⟨x1, x2, x3, k1, k2, k3, t1, t2, t3, rfl, _⟩ := h
    rfl
  · obtain ⟨x1, x2, x3, k1, k2, k3, t1, t2, t3, rfl, th, hl, hQ⟩ := h
    refine ⟨_, PSs.nox (pss_cons (ps_if (pt_not (pt_val (pe_c cN hr (by decide) rfl (pa_cons (pv 0) pa_nil)))) (pss_one (ps_ret (pe_tup (pa_cons pe_str (pa_cons (pv 0) pa_nil))))) pss_nil)
      (pss_cons (ps_if (pt_not (pt_val (pe_c cU hr (by decide) rfl (pa_cons (pv 1) (pa_cons pe_int pa_nil))))) (pss_one (ps_ret (pe_tup (pa_cons pe_str (pa_cons (pv 1) pa_nil))))) pss_nil)
      (pss_cons (ps_if (pt_not (pt_val (pe_c cU hr (by decide) rfl (pa_cons (pv 2) (pa_cons pe_int pa_nil))))) (pss_one (ps_ret (pe_tup (pa_cons pe_str (pa_cons (pv 2) pa_nil))))) pss_nil)
      (pss_one (ps_ret (pe_tup (pa_cons pe_str (pa_cons (pe_tup (pa_cons (pv 0) (pa_cons (pv 1) (pa_cons (pv 2) pa_nil)))) pa_nil)))))))), ?_⟩
    refine ⟨_, rfl, x1, k1, t1, rfl, th.a, hl, fun H1 s1 => ⟨nmK k1, rfl, ?_⟩⟩
    have th1 := th.same s1
    cases c1 : nmK k1 with
    | false =>
      refine iteT ?_
      refine ⟨_, rfl, by show 2 ≤ sizeLine; decide, fun u fu => hQ u _ (s1.trans (same_new fu)) (s1.free fu) ⟨fun z => ?_, fun _ => ?_⟩⟩
      · unfold okP at z
        rw [c1] at z
        cases z
      · rw [c1]
        exact upd_same
    | true =>
    refine iteF ?_
    refine ⟨_, rfl, x2, k2, t2, 9, rfl, th1.b, wi k2 0 9, rfl, ?_⟩
    cases c2 : wi k2 0 9 with
    | false =>
      refine iteT ?_
      refine ⟨_, rfl, by show 2 ≤ sizeLine; decide, fun u fu => hQ u _ (s1.trans (same_new fu)) (s1.free fu) ⟨fun z => ?_, fun _ => ?_⟩⟩
      · unfold okP at z
        rw [c1, c2] at z
        cases z
      · rw [c1, c2]
        exact upd_same
    | true =>
    refine iteF ?_
    refine ⟨_, rfl, x3, k3, t3, 127, rfl, th1.c, wi k3 0 127, rfl, ?_⟩
    cases c3 : wi k3 0 127 with
    | false =>
      refine iteT ?_
      refine ⟨_, rfl, by show 2 ≤ sizeLine; decide, fun u fu => hQ u _ (s1.trans (same_new fu)) (s1.free fu) ⟨fun z => ?_, fun _ => ?_⟩⟩
      · unfold okP at z
        rw [c1, c2, c3] at z
        cases z
      · rw [c1, c2]
        exact upd_same
    | true =>
    refine iteF ?_
    refine ⟨_, rfl, _, rfl, _, rfl, by show 3 ≤ sizeLine; decide, fun u fu => ⟨by show 2 ≤ sizeLine; decide, fun w fw => hQ w _ ((s1.trans (same_new fu)).trans (same_new fw)) ((s1.trans (same_new fu)).free fw) ⟨fun _ => ⟨u, upd_same, same_new fw _ _ upd_same, s1.free fu⟩, fun z => ?_⟩⟩⟩
    unfold okP at z
    rw [c1, c2, c3] at z
    cases z
theorem Thg.sn {H H' : Hp} {x : V} {k : Kn} {t : Str} {n : Nat} (h : Thg H x k t n) (s : SN H H') : Thg H' x k t n :=
  ⟨fun X H1 s1 => h.eqN X H1 (SN.trans s s1), fun X outs H1 s1 ho => h.rpN X outs H1 (SN.trans s s1) fun o q => NT.up s (ho o q), fun K H1 s1 => h.tyN K H1 (SN.trans s s1), h.val, h.flg, h.txt, h.len⟩
theorem Th3.sn {H H' : Hp} {x1 x2 x3 : V} {k1 k2 k3 : Kn} {t1 t2 t3 : Str} (h : Th3 H x1 x2 x3 k1 k2 k3 t1 t2 t3) (s : SN H H') : Th3 H' x1 x2 x3 k1 k2 k3 t1 t2 t3 := ⟨Thg.sn h.a s, Thg.sn h.b s, Thg.sn h.c s, h.l⟩
/-- the text of what is due -/
def dueTx (k1 k2 k3 : Kn) (t1 t2 t3 : Str) : Str := if okP k1 k2 k3 = true then tupleText [reprText "told", tupleText [t1, t2, t3]] else tupleText [reprText (if nmK k1 = true then "number" else "bad"), if nmK k1 = true then (if wi k2 0 9 = true then t3 else t2) else t1]
/-- what repr asks of what is due -/
theorem rp_due {H H1 : Hp} {t : Addr} {x1 x2 x3 : V} {k1 k2 k3 : Kn} {t1 t2 t3 : Str} (th : Th3 H x1 x2 x3 k1 k2 k3 t1 t2 t3) (s : Same H H1) (f : H t = none) (d : DueAt H H1 t x1 x2 x3 k1 k2 k3) :
    ∃ xs ts, H1 t = some (.tup xs) ∧ (∀ X, RPO.RpAll X 5 [t] H1 xs ts) ∧ tupleText ts = dueTx k1 k2 k3 t1 t2 t3 ∧ (tupleText ts).length ≤ sizeLine := by
  obtain ⟨d1, d2⟩ := d
  have la := Nat.le_trans th.a.len (by decide : 100 ≤ 200)
  have lb := Nat.le_trans th.b.len (by decide : 100 ≤ 200)
  have lc := Nat.le_trans th.c.len (by decide : 100 ≤ 200)
  have one : ∀ {x : V} {k : Kn} {tx : Str} {outs : List Addr} {X : Cx}, Thg H x k tx 4 → (∀ o ∈ outs, H o = none) → RPO.RpU X 4 outs H1 x tx := fun {x k tx outs X} h ho => h.rp X outs H1 s ho
  cases hk : okP k1 k2 k3 with
  | true =>
    obtain ⟨u, e1, e2, fu⟩ := d1 hk
    have nut : u ≠ t := fun z => by
      rw [z, e1] at e2
      have := HO.tup.inj (Option.some.inj e2)
      simp at this
    have two : ∀ o ∈ [u, t], H o = none := fun o ho => by
      simp only [List.mem_cons, List.not_mem_nil, or_false] at ho
      rcases ho with rfl | rfl
      · exact fu
      · exact f
    refine ⟨_, [reprText "told", tupleText [t1, t2, t3]], e1, fun X => .cons .str (.cons (RPO.RpU.tup (n := 4) e2 (by simpa using nut) (.cons (one th.a two) (.cons (one th.b two) (.cons (one th.c two) .nil)))) .nil), ?_, two_len (by decide +kernel) (three_len la lb lc)⟩
    unfold dueTx
    rw [if_pos hk]
  | false =>
    have e1 := d2 hk
    have tt : ∀ o ∈ [t], H o = none := fun o ho => by
      rw [List.mem_singleton.mp ho]
      exact f
    refine ⟨_, [reprText (if nmK k1 = true then "number" else "bad"), if nmK k1 = true then (if wi k2 0 9 = true then t3 else t2) else t1], e1, fun X => .cons .str (.cons (RPO.RpU.mono (n := 4) ?_ (by decide)) .nil), ?_, two_len ?_ ?_⟩
    · split
      · split
        · exact one th.c tt
        · exact one th.b tt
      · exact one th.a tt
    · unfold dueTx
      rw [if_neg (show ¬ okP k1 k2 k3 = true by rw [hk]; simp)]
    · split <;> decide +kernel
    · split
      · split <;> omega
      · omega
end
end K09
set_option Elab.async false
set_option linter.all false
set_option maxRecDepth 100000
set_option maxHeartbeats 4000000
/-! GE: a law's end by a promise that is asked only where no repr is under way. -/
namespace GL
open PySem PySem.Spec PyProof.Rows L2
theorem lawG {P : Program} {w : World} {K : PySem.W.Frag} {mg mb : Str → Option Value} {k : Nat} {fa a : Addr} {fd : FuncData} {x : Str} {sp : Sp} {s₁ : Shared} {vs : List Value} {ns : List Int}
    (KX : K.In s₁.heap) (hns : s₁.heap.Ns mainGlobals mg) (hb : s₁.heap.Ns builtinsNs mb) (hbb : ∀ x : Str, x ≠ "__name__" → mb x = bootBuiltins x) (hlim : s₁.heap.NoLimit) (hg : s₁.gens = #[])
    (ha : s₁.heap.get? a = some { cls := .type "list", data := .seq vs.toArray }) (hi : IntsAre vs ns) (hl : ns.length ≤ sizeLine) (hr : Room k callerA)
    (F : ∀ base : Heap, K.In base → base.Ns mainGlobals mg → FnG P w K mg base k fa fd [x] sp) (hbind : ∀ (s : Shared) (u : Value), BindsTo s fd ⟨[u], []⟩ [(x, u)])
    (hsp : ∀ H : Hp, SqL K H a (ns.map V.int) → sp [.ref a] H (fun v _ => v = .bl true) fun _ _ _ => False) :
    codeAny (model P w) callerA (.call (.ref fa) ⟨[.ref a], []⟩) (fun r s' => r = .ok (.ret (.bool true)) ∧ OldK s₁.heap s'.heap ∧ s'.os = s₁.os ∧ AllBare s'.gens) s₁ := by
  -- the script alone is tracked, as it is, or nothing
  have from_ : ∀ H : Hp, SqL K H a (ns.map V.int) → HOk P w H s₁.heap → (∀ b u, H b = some u → b = a ∧ K.lookup a = none ∧ ∃ o xs, u = .frz o (.lst xs)) →
      codeAny (model P w) callerA (.call (.ref fa) ⟨[.ref a], []⟩) (fun r s' => r = .ok (.ret (.bool true)) ∧ OldK s₁.heap s'.heap ∧ s'.os = s₁.os ∧ AllBare s'.gens) s₁ := by
    intro H hS hok hA
    have off : ∀ b, (b = a → K.lookup a ≠ none) → H b = none := fun b n => by
      cases q : H b with
      | none => rfl
      | some u => exact absurd (hA b u q).2.1 (n (hA b u q).1)
    have nsK : ∀ {b : Addr} {m : Str → Option Value}, s₁.heap.Ns b m → (hidT s₁.heap H).Ns b m := by
      rintro b m ⟨o, es, ep, e, d, r⟩
      refine ⟨o, es, ep, hidT_get e (off b fun z => ?_), d, r⟩
      subst z
      rw [ha] at e
      cases e
      cases d
    have inK : K.In (hidT s₁.heap H) := fun b o e => hidT_get (KX b o e) (off b fun z => by rw [← z, e]; simp)
    have hM : Mod K mg (hidT s₁.heap H) := ⟨inK, nsK hns, ⟨mb, nsK hb, hbb⟩, by obtain ⟨mc, h1, h2⟩ := hlim; exact ⟨mc, nsK h1, h2⟩⟩
    have nofr : ∀ b : Addr, b ∉ frs ([] : List Env) := fun b z => nomatch z
    have e0 : Env0 P w K mg (hidT s₁.heap H) callerA [] s₁ H := ⟨rfl, hM, fun b o e => of_hidT e, Nat.le_of_eq (hidT_size _ _), trivial, fun b z => absurd z (nofr b), hok, .of_eq hg⟩
    refine codeAny_mono ((F _ inK (nsK hns)).run callerA [] s₁ H ⟨[.ref a], []⟩ [.ref a] [.ref a] _ _ rfl hr e0 (hbind s₁ (.ref a)) (.cons rfl .nil) (hsp H hS)) fun r s' h => ?_
    match r, h with
    | .error e, h => exact False.elim h
    | .ok .next, h => exact False.elim h
    | .ok .brk, h => exact False.elim h
    | .ok .cont, h => exact False.elim h
    | .ok (.ret u), ⟨v, H', os, bare, un, hok', r', q⟩ =>
      cases (show v = .bl true from q)
      cases (show u = Value.bool true from r')
      refine ⟨rfl, OldK.of_keep fun b o e => ?_, os, bare⟩
      cases q : H b with
      | none => exact un.keep b o e q (nofr b) (by simp)
      | some u =>
        obtain ⟨_, _, ob, xs, rfl⟩ := hA b u q
        have e1 := (hok b _ q).1
        have e2 := (hok' b _ (un.frzs b ob _ q)).1
        rw [e] at e1
        cases e1
        exact e2
  have rv := vals_ints hi
  cases hk : K.lookup a with
  | some o =>
    have e := KX a o hk
    rw [ha] at e
    cases e
    exact from_ (fun _ => none) (.inr ⟨_, vs.toArray, _, hk, rfl, rfl, rfl, by rw [List.size_toArray, hi.length]; exact hl, by simpa using rv⟩) (fun b u z => nomatch z) (fun b u z => nomatch z)
  | none =>
    have at_ : ∀ (b : Addr) (u : HO), (if b = a then some (HO.frz { cls := .type "list", data := .seq vs.toArray } (.lst (ns.map V.int))) else none) = some u → b = a ∧ u = HO.frz { cls := .type "list", data := .seq vs.toArray } (.lst (ns.map V.int)) := fun b u z => by
      by_cases h : b = a
      · rw [if_pos h] at z
        exact ⟨h, (Option.some.inj z).symm⟩
      · rw [if_neg h] at z
        cases z
    refine from_ (fun b => if b = a then some (.frz { cls := .type "list", data := .seq vs.toArray } (.lst (ns.map V.int))) else none) (.inl (.inr ⟨{ cls := .type "list", data := .seq vs.toArray }, if_pos rfl⟩)) (fun b u z => ?_) (fun b u z => ?_)
    · obtain ⟨rfl, rfl⟩ := at_ b u z
      exact ⟨ha, by rw [List.length_map]; exact hl, vs, _, rv, ha⟩
    · obtain ⟨rfl, rfl⟩ := at_ b u z
      exact ⟨rfl, hk, _, _, rfl⟩
/-- a law: F gives the written part, the function object, the promise over every base -/
theorem walkG {l : PySem.W.OpenLaw} {n k : Nat} {q : Program} {loose : List Str} {XP : (Str → Option Value) → Heap → Prop} {YP : World → Heap → Prop} {d : DefRec} {x : Str} (hn : l.most = some n) (hn2 : n ≤ sizeLine) (hdf : d.params.defaults = []) (hr : Room k callerA)
    (F : ∀ (w : World) (mg : Str → Option Value) (fa : Addr) (h : Heap), YP w h → h.Ns mainGlobals mg → mg d.name = some (.ref fa) →
      ∃ (K : PySem.W.Frag) (fd : FuncData) (sp : Sp), K.In h ∧ (∀ (s : Shared) (u : Value), BindsTo s fd ⟨[u], []⟩ [(x, u)]) ∧
        (∀ (H : Hp) (a : Addr) (ns : List Int), ns.length ≤ n → SqL K H a (ns.map V.int) → sp [.ref a] H (fun v _ => v = .bl true) fun _ _ _ => False) ∧
        ∀ base : Heap, K.In base → base.Ns mainGlobals mg → FnG l.prog w K mg base k fa fd [x] sp) : PySem.W.WalkO q loose XP YP l.row.toRowW d [] (fun f vs => PySem.call f vs) := by
  refine Att.attach_call hn hdf fun w s₀ s₁ mg mb fa o pm cd doc a vs ns G Y ho hd hcd hmg hobj hints hlen hg => ?_
  obtain ⟨K, fd, sp, KX, hb, hsp, hF⟩ := F w mg fa _ Y G.T.g hmg
  exact lawG KX G.T.g G.T.b G.T.builtins G.T.nolimit hg hobj hints (Nat.le_trans hlen hn2) hr hF hb fun H hS => hsp H a ns hlen hS
end GL
set_option Elab.async false
set_option linter.all false
set_option maxRecDepth 100000
set_option maxHeartbeats 4000000
/-! GET: a law's end by a promise that is asked only where no repr is under way, with tables of lambdas. -/
namespace GL
open PySem PySem.Spec PyProof.Rows L2
open LamX (TabB)
theorem lawTG {P : Program} {w : World} {K : PySem.W.Frag} {mg mb : Str → Option Value} {k : Nat} {fa a : Addr} {ts : List (Addr × Addr)} {fd : FuncData} {x : Str} {sp : Sp} {s₁ : Shared} {vs : List Value} {ns : List Int}
    (KX : K.In s₁.heap) (hns : s₁.heap.Ns mainGlobals mg) (hb : s₁.heap.Ns builtinsNs mb) (hbb : ∀ x : Str, x ≠ "__name__" → mb x = bootBuiltins x) (hlim : s₁.heap.NoLimit) (hg : s₁.gens = #[])
    (tabs : ∀ t ∈ ts, s₁.heap.get? t.2 = some { cls := .none, data := .fields #[] }) (outK : ∀ t ∈ ts, K.lookup t.2 = none) (codes : ∀ t ∈ ts, PySem.W.CodeHd s₁.heap t.1 t.2)
    (bmod : ∃ (bm : Addr) (ob : Obj), mg "__builtins__" = some (.ref bm) ∧ bm ≠ builtinsNs ∧ s₁.heap.get? bm = some ob ∧ ob.cls = .type "module" ∧ ob.dict = some builtinsNs ∧ ob.data = .plain)
    (ha : s₁.heap.get? a = some { cls := .type "list", data := .seq vs.toArray }) (hi : IntsAre vs ns) (hl : ns.length ≤ sizeLine) (hr : Room k callerA)
    (F : ∀ base : Heap, K.In base → base.Ns mainGlobals mg → (∀ t ∈ ts, TabB base mg t.1 t.2) → FnG P w K mg base k fa fd [x] sp) (hbind : ∀ (s : Shared) (u : Value), BindsTo s fd ⟨[u], []⟩ [(x, u)])
    (hsp : ∀ H : Hp, (∀ t ∈ ts, H t.2 = some (.tbl #[])) → SqL K H a (ns.map V.int) → sp [.ref a] H (fun v _ => v = .bl true) fun _ _ _ => False) :
    codeAny (model P w) callerA (.call (.ref fa) ⟨[.ref a], []⟩) (fun r s' => r = .ok (.ret (.bool true)) ∧ OldK s₁.heap s'.heap ∧ s'.os = s₁.os ∧ AllBare s'.gens) s₁ := by
  have noT : ∀ t ∈ ts, t.2 ≠ a := fun t ht z => by
    have e := tabs t ht
    rw [z, ha] at e
    have e2 := congrArg Obj.data (Option.some.inj e)
    cases e2
  have from_ : ∀ H : Hp, (∀ t ∈ ts, H t.2 = some (.tbl #[])) → SqL K H a (ns.map V.int) → HOk P w H s₁.heap → (∀ b u, H b = some u → (b = a ∧ K.lookup a = none ∧ ∃ o xs, u = .frz o (.lst xs)) ∨ ∃ t ∈ ts, t.2 = b ∧ u = .tbl #[]) →
      codeAny (model P w) callerA (.call (.ref fa) ⟨[.ref a], []⟩) (fun r s' => r = .ok (.ret (.bool true)) ∧ OldK s₁.heap s'.heap ∧ s'.os = s₁.os ∧ AllBare s'.gens) s₁ := by
    intro H hT hS hok hA
    have off : ∀ {b : Addr} {o : Obj}, s₁.heap.get? b = some o → (∀ ys n, o.data ≠ .seq ys n) → o.data ≠ .fields #[] → H b = none := fun {b o} e n1 n2 => by
      cases q : H b with
      | none => rfl
      | some u =>
        rcases hA b u q with ⟨rfl, _⟩ | ⟨t, ht, rfl, _⟩
        · rw [ha] at e
          cases e
          exact absurd rfl (n1 _ _)
        · rw [tabs t ht] at e
          cases e
          exact absurd rfl n2
    have nsK : ∀ {b : Addr} {m : Str → Option Value}, s₁.heap.Ns b m → (hidT s₁.heap H).Ns b m := by
      rintro b m ⟨o, es, ep, e, d, r⟩
      exact ⟨o, es, ep, hidT_get e (off e (fun ys n z => by rw [d] at z; cases z) (fun z => by rw [d] at z; cases z)), d, r⟩
    have inK : K.In (hidT s₁.heap H) := fun b o e => hidT_get (KX b o e) (by
      cases q : H b with
      | none => rfl
      | some u =>
        rcases hA b u q with ⟨rfl, n, _⟩ | ⟨t, ht, rfl, _⟩
        · rw [n] at e
          cases e
        · rw [outK t ht] at e
          cases e)
    have hM : Mod K mg (hidT s₁.heap H) := ⟨inK, nsK hns, ⟨mb, nsK hb, hbb⟩, by obtain ⟨mc, h1, h2⟩ := hlim; exact ⟨mc, nsK h1, h2⟩⟩
    have tb : ∀ t ∈ ts, TabB (hidT s₁.heap H) mg t.1 t.2 := fun t ht => by
      refine ⟨?_, ?_, fun z => ?_⟩
      · obtain ⟨o, us, c1, c2, c3, c4, c5, c6, c7, e, r1, r2, r3, r⟩ := codes t ht
        exact ⟨o, us, c1, c2, c3, c4, c5, c6, c7, hidT_get e (off e (fun ys n z => by rw [r2] at z; cases z) (fun z => by
          rw [r2] at z
          cases z
          simp at r3)), r1, r2, r3, r⟩
      · obtain ⟨bm, ob, b1, b2, b3, b4, b5, b6⟩ := bmod
        refine ⟨bm, ob, b1, b2, fun z => ?_, fun z => ?_, hidT_get b3 (off b3 (fun ys n z => by rw [b6] at z; cases z) (fun z => by rw [b6] at z; cases z)), b4, b5, b6⟩
        · obtain ⟨o, es, ep, e, d, _⟩ := hns
          rw [← z, b3] at e
          cases e
          rw [b6] at d
          cases d
        · rw [z, tabs t ht] at b3
          cases b3
          cases b6
      · obtain ⟨o, es, ep, e, d, _⟩ := hns
        rw [z, tabs t ht] at e
        cases e
        cases d
    have nofr : ∀ b : Addr, b ∉ frs ([] : List Env) := fun b z => nomatch z
    have e0 : Env0 P w K mg (hidT s₁.heap H) callerA [] s₁ H := ⟨rfl, hM, fun b o e => of_hidT e, Nat.le_of_eq (hidT_size _ _), trivial, fun b z => absurd z (nofr b), hok, .of_eq hg⟩
    refine codeAny_mono ((F _ inK (nsK hns) tb).run callerA [] s₁ H ⟨[.ref a], []⟩ [.ref a] [.ref a] _ _ rfl hr e0 (hbind s₁ (.ref a)) (.cons rfl .nil) (hsp H hT hS)) fun r s' h => ?_
    match r, h with
    | .error e, h => exact False.elim h
    | .ok .next, h => exact False.elim h
    | .ok .brk, h => exact False.elim h
    | .ok .cont, h => exact False.elim h
    | .ok (.ret u), ⟨v, H', os, bare, un, hok', r', q⟩ =>
      cases (show v = .bl true from q)
      cases (show u = Value.bool true from r')
      have more : ∀ t ∈ ts, ∃ ps : Array Value, s'.heap.get? t.2 = some { cls := .none, data := .fields ps } := fun t ht => by
        obtain ⟨ps, z⟩ := un.tbls t.2 #[] (hT t ht)
        exact ⟨_, hok' t.2 _ z⟩
      have stays : ∀ b o, (∀ t ∈ ts, t.2 ≠ b) → s₁.heap.get? b = some o → s'.heap.get? b = some o := fun b o nt e => by
        cases q : H b with
        | none => exact un.keep b o e q (nofr b) (by simp)
        | some u =>
          rcases hA b u q with ⟨_, _, ob, xs, rfl⟩ | ⟨t, ht, z, _⟩
          · have e1 := (hok b _ q).1
            have e2 := (hok' b _ (un.frzs b ob _ q)).1
            rw [e] at e1
            cases e1
            exact e2
          · exact absurd z (nt t ht)
      refine ⟨rfl, ⟨fun b o e => ?_, fun b o e => ?_⟩, os, bare⟩
      · by_cases q : ∃ t ∈ ts, t.2 = b
        · obtain ⟨t, ht, rfl⟩ := q
          obtain ⟨ps, hp⟩ := more t ht
          rw [tabs t ht] at e
          cases e
          exact .inr (.inl ⟨((codes t ht).tab (tabs t ht)).isCodeTable, rfl, #[], ps, rfl, by rw [Array.empty_append]; exact hp⟩)
        · exact .inl (stays b o (fun t ht z => q ⟨t, ht, z⟩) e)
      · by_cases q : ∃ t ∈ ts, t.2 = b
        · obtain ⟨t, ht, rfl⟩ := q
          obtain ⟨ps, hp⟩ := more t ht
          exact ⟨_, hp⟩
        · exact ⟨o, stays b o (fun t ht z => q ⟨t, ht, z⟩) e⟩
  have rv := vals_ints hi
  have dec : ∀ b : Addr, Decidable (∃ t ∈ ts, t.2 = b) := fun b => Classical.propDecidable _
  cases hk : K.lookup a with
  | some o =>
    have e := KX a o hk
    rw [ha] at e
    cases e
    refine from_ (fun b => @ite _ (∃ t ∈ ts, t.2 = b) (dec b) (some (.tbl #[])) none) (fun t ht => if_pos ⟨t, ht, rfl⟩) (.inr ⟨_, vs.toArray, _, hk, rfl, rfl, rfl, by rw [List.size_toArray, hi.length]; exact hl, by simpa using rv⟩) (fun b u z => ?_) (fun b u z => ?_)
    · by_cases q : ∃ t ∈ ts, t.2 = b
      · have z2 := (if_pos q).symm.trans z
        cases z2
        obtain ⟨t, ht, rfl⟩ := q
        exact tabs t ht
      · have z2 := (if_neg q).symm.trans z
        cases z2
    · by_cases q : ∃ t ∈ ts, t.2 = b
      · have z2 := (if_pos q).symm.trans z
        cases z2
        obtain ⟨t, ht, e⟩ := q
        exact .inr ⟨t, ht, e, rfl⟩
      · have z2 := (if_neg q).symm.trans z
        cases z2
  | none =>
    have pick : ∀ (b : Addr) (u : HO), (if b = a then some (HO.frz { cls := .type "list", data := .seq vs.toArray } (.lst (ns.map V.int))) else @ite _ (∃ t ∈ ts, t.2 = b) (dec b) (some (.tbl #[])) none) = some u → (b = a ∧ u = HO.frz { cls := .type "list", data := .seq vs.toArray } (.lst (ns.map V.int))) ∨ ∃ t ∈ ts, t.2 = b ∧ u = .tbl #[] := fun b u z => by
      by_cases h : b = a
      · rw [if_pos h] at z
        exact .inl ⟨h, (Option.some.inj z).symm⟩
      · rw [if_neg h] at z
        by_cases q : ∃ t ∈ ts, t.2 = b
        · rw [if_pos q] at z
          obtain ⟨t, ht, e⟩ := q
          exact .inr ⟨t, ht, e, (Option.some.inj z).symm⟩
        · rw [if_neg q] at z
          cases z
    refine from_ (fun b => if b = a then some (HO.frz { cls := .type "list", data := .seq vs.toArray } (.lst (ns.map V.int))) else @ite _ (∃ t ∈ ts, t.2 = b) (dec b) (some (.tbl #[])) none) (fun t ht => ?_) (.inl (.inr ⟨{ cls := .type "list", data := .seq vs.toArray }, if_pos rfl⟩)) (fun b u z => ?_) (fun b u z => ?_)
    · show (if t.2 = a then _ else _) = _
      rw [if_neg (noT t ht)]
      exact if_pos ⟨t, ht, rfl⟩
    · rcases pick b u z with ⟨rfl, rfl⟩ | ⟨t, ht, rfl, rfl⟩
      · exact ⟨ha, by rw [List.length_map]; exact hl, vs, _, rv, ha⟩
      · exact tabs t ht
    · rcases pick b u z with ⟨rfl, rfl⟩ | ⟨t, ht, e, rfl⟩
      · exact .inl ⟨rfl, hk, _, _, rfl⟩
      · exact .inr ⟨t, ht, e, rfl⟩
/-- a law: F gives the written part, the function object, the tables, the promise over every base -/
theorem walkTG {l : PySem.W.OpenLaw} {n k : Nat} {q : Program} {loose : List Str} {XP : (Str → Option Value) → Heap → Prop} {YP : World → Heap → Prop} {d : DefRec} {x : Str} (hn : l.most = some n) (hn2 : n ≤ sizeLine) (hdf : d.params.defaults = []) (hr : Room k callerA)
    (F : ∀ (w : World) (mg : Str → Option Value) (fa : Addr) (h : Heap), YP w h → h.Ns mainGlobals mg → mg d.name = some (.ref fa) →
      ∃ K : PySem.W.Frag, K.In h ∧ ∃ (fd : FuncData) (ts : List (Addr × Addr)) (sp : Sp), (∀ t ∈ ts, h.get? t.2 = some { cls := .none, data := .fields #[] }) ∧ (∀ t ∈ ts, K.lookup t.2 = none) ∧ (∀ t ∈ ts, PySem.W.CodeHd h t.1 t.2) ∧ (∀ (s : Shared) (u : Value), BindsTo s fd ⟨[u], []⟩ [(x, u)]) ∧
        (∀ (H : Hp) (a : Addr) (ns : List Int), ns.length ≤ n → (∀ t ∈ ts, H t.2 = some (.tbl #[])) → SqL K H a (ns.map V.int) → sp [.ref a] H (fun v _ => v = .bl true) fun _ _ _ => False) ∧
        ∀ base : Heap, K.In base → base.Ns mainGlobals mg → (∀ t ∈ ts, TabB base mg t.1 t.2) → FnG l.prog w K mg base k fa fd [x] sp) : PySem.W.WalkO q loose XP YP l.row.toRowW d [] (fun f vs => PySem.call f vs) := by
  refine Att.attach_call hn hdf fun w s₀ s₁ mg mb fa o pm cd doc a vs ns G Y ho hd hcd hmg hobj hints hlen hg => ?_
  obtain ⟨K, KX, fd, ts, sp, tabs, outK, codes, hb, hsp, hF⟩ := F w mg fa _ Y G.T.g hmg
  exact lawTG KX G.T.g G.T.b G.T.builtins G.T.nolimit hg tabs outK codes G.T.bmain hobj hints (Nat.le_trans hlen hn2) hr hF hb fun H hT hS => hsp H a ns hlen hT hS
end GL
set_option Elab.async false
set_option linter.all false
set_option maxRecDepth 100000
set_option maxHeartbeats 4000000
/-! KW: calls by keywords alone: f(k = v, ..), o.m(k = v, ..). -/
namespace KW
open PySem PySem.Spec PyProof.Rows L2
section
variable {X : Cx} {k j : Nat} {C f : Addr} {fd : FuncData} {ps ks : List Str} {sp : Sp} {x m : Str} {p pos apos : Pos} {o : Expr} {kws : List Keyword} {ta : TE} {tk : TA} {g : List Value → List Value → List Value} {gV : List V → List V → List V}
theorem pe_cK (F : FnOk X.prog X.w X.K X.mg X.base CX0 k f fd ps sp) (hr : Room k X.A) (hg : Gl X x) (hm : X.mg x = some (.ref f)) (hk : PySem.W.keepIn X.K (.ref f) = true) (hb : KBn X.K fd ps 0 ks g gV) (hkw : PK X kws tk)
    (hall : (backToKw pos (keywordEach kws X.env)).all (·.1.isSome) = true := by rfl) (hks : (backToKw pos (keywordEach kws X.env)).filterMap (·.1) = ks := by rfl) (hdb : (x == ("__debug__" : Str)) = false := by decide)
    (hpl : ((backTo pos (starEach [] X.env)).any (·.1) || (backToKw pos (keywordEach kws X.env)).any (·.1.isNone)) = false := by rfl) :
    PE X (.Call (.Name x p) [] kws pos) (fun σ H Q => tk σ H fun zs H1 => zs.length = ks.length ∧ sp (gV [] zs) H1 Q E0) := by
  refine ⟨fun pins s σ H Q I h => wpAny_Call_Name_kw (ld_glob I hg hm (PySem.W.callWith_KW0 (h₀ := X.base) I.ok.mod.kin hk hall ?_ hpl) hdb)⟩
  refine thn (hkw.run pos pins s σ H _ I h) fun ws s2 ⟨zs, H2, I2, rz, l2, q2⟩ => ⟨I2.kIn, ?_⟩
  rw [hks]
  exact run_fnN (us := []) (vs := []) F hr hb (fun _ _ _ _ _ _ _ h => False.elim h) I2 .nil rz rfl l2 q2
theorem pe_mtK {pl : Sem Bool} (he : PE X o ta) (c : Cls X.K C) (hm : Meth X.K C m f) (F : FnOk X.prog X.w X.K X.mg X.base CX0 k f fd ps sp) (hr : Room k X.A) (hb : KBn X.K fd ps 1 ks g gV) (hkw : PK X kws tk)
    (hall : (backToKw pos (keywordEach kws X.env)).all (·.1.isSome) = true := by rfl) (hks : (backToKw pos (keywordEach kws X.env)).filterMap (·.1) = ks := by rfl)
    (hpl : ((backTo pos (starEach [] X.env)).any (·.1) || (backToKw pos (keywordEach kws X.env)).any (·.1.isNone)) = false := by rfl)
    (ht : eval (.Call (.Attribute o m apos) [] kws pos) X.env = (do
      let ov ← eval o X.env
      standAt apos.atName
      let (f, first) ← holding [ov] (getMethod ov m pl)
      callWith pos f first (backTo pos (starEach [] X.env)) (backToKw pos (keywordEach kws X.env))) := by rfl) :
    PE X (.Call (.Attribute o m apos) [] kws pos) (fun σ H Q => ta σ H fun x H1 => ∃ a dx fs, x = .ref a ∧ H1 a = some (.ins C dx fs) ∧ fs.lookup m = none ∧ tk σ H1 fun zs H2 => zs.length = ks.length ∧ sp (gV [.ref a] zs) H2 Q E0) := by
  refine ⟨fun pins s σ H Q I h => ?_⟩
  refine PySem.W.methodCall_KW (pl := pl) (thn (he.run pins s σ H _ I h) fun u s1 ⟨x, H1, I1, rx, a, dx, fs, ex, ea, l, q⟩ => ?_) ht
  subst ex
  obtain rfl : u = Value.ref a := rx
  refine getmeth_ok I1 ea c hm l (PySem.W.callWith_KW0 (first := [.ref a]) (h₀ := X.base) I.ok.mod.kin hm.kp hall ?_ hpl)
  refine thn (hkw.run pos pins s1 σ H1 _ I1 q) fun ws s2 ⟨zs, H2, I2, rz, l2, q2⟩ => ⟨I2.kIn, ?_⟩
  rw [hks]
  exact run_fnN (us := [.ref a]) (vs := [.ref a]) F hr hb (fun _ _ _ _ _ _ _ h => False.elim h) I2 (.cons rfl .nil) rz rfl l2 q2
end
end KW
set_option Elab.async false
set_option linter.all false
set_option maxRecDepth 100000
set_option maxHeartbeats 4000000
/-! OKT: a def that makes a lambda and asks repr (its code is known, no repr is under way); calls that may raise, by keywords; nothing comes. -/
namespace GL
open PySem PySem.Spec PyProof.Rows L2
/-- the def's code is known, nothing is being shown -/
theorem okGT {P : Program} {w : World} {K : PySem.W.Frag} {mg : Str → Option Value} {base : Heap} {x qual : Str} {params : Arguments} {body : List Stmt} {scope : Scope} {dvs : List V} {kws : List (Str × V)} {p : He.Defn} {fd : FuncData}
    {N ps : List Str} {k : Nat} {sp : Sp} (F : FunD K x qual params body scope dvs kws (He.fAd K p) fd) (S : FnScope N ps scope) (len : ∀ vs H Q E, sp vs H Q E → vs.length = ps.length)
    (hbody : ∀ (A : Around) (outer : List Env) (s : Shared) (H : Hp) (vs : List V) (Q : VK) (E : XK), A.guards = some [] → Room k (A.deeper (envOfC qual scope s.heap.objs.size (He.fAd K p) (.ref (He.cT K p).1))) → sp vs H Q E →
      ∃ t, PSs (cxOf CX0 P w K mg base N qual scope (He.fAd K p) (.ref (He.cT K p).1) A outer s H E) body t ∧ t { nx := fun _ H' => Q .non H', rt := Q } (start N vs) H) : GL.FnG P w K mg base (k + 1) (He.fAd K p) fd ps sp := by
  obtain ⟨oc, od, dV, kV, doc, pm, an, cdv, ct, osl, hfd, lk, hcd, _, _⟩ := F.ex
  obtain ⟨c, rfl⟩ := He.codeIn_ref hcd
  subst hfd
  have e : (He.cT K p).1 = c := He.codeOf_eq lk rfl
  rw [e] at hbody
  refine ⟨len, fun A outer s H args us vs Q E hg hr e0 hb r hsp => ?_⟩
  obtain ⟨t, ht, hq⟩ := hbody A outer s H vs Q E hg (hr.deeper _) hsp
  have keep : ∀ b o, base.get? b = some o → s.heap.get? b = some o := fun b o e => (e0.bs b o e).1
  have KX : K.In s.heap := e0.mod.kin.keeps keep
  refine codeAny_call_function hr.depth (KX _ _ lk) rfl S.co S.gen rfl (PySem.W.codeRec_of KX hcd) (hb _ _ _ _ (wpAny_newFunctionEnv_cells S.kind (fun y hy => ?_) fun env he s1 x => ?_))
  · exact (S.par y.1 (List.of_mem_zip hy).1).imp id fun q => ⟨q, PySem.W.cellsFrom_some _ _ _ (.inl q)⟩
  · subst he
    refine ⟨(e0.mod.nolimit.keeps keep).keeps x.toInCall.keep, codeAny_func (wpAny_mono (ht.run [] s1 (start N vs) H _ (inv_start S hr.hd e0 (len _ _ _ _ hsp) r x) hq) (fun fl s' hs => ?_) fun e s' hs => hs)⟩
    match fl, hs with
    | .ret u, ⟨v, σ', H', J, rv, q⟩ => exact ⟨v, H', J.os, J.bare, J.base, J.hok, rv, q⟩
    | .next, ⟨σ', H', J, q⟩ => exact ⟨.non, H', J.os, J.bare, J.base, J.hok, rfl, q⟩
    | .brk, ⟨_, _, _, q⟩ => exact q.elim
    | .cont, ⟨_, _, _, q⟩ => exact q.elim
/-- nothing comes -/
theorem passN {X : Cx} : Passes (L2.CX X.prog X.w) X C8.E0 := fun _ _ _ _ _ _ _ h => by
  obtain ⟨_, _, _, _, _, _, _, _, _, _, _, _, h⟩ := h
  exact False.elim h
section
variable {X : Cx} {CX : CXT} {E : XK} {k j : Nat} {C f : Addr} {fd : FuncData} {ps ks : List Str} {sp : Sp} {x m : Str} {p pos apos : Pos} {o : Expr} {kws : List Keyword} {ta : TE} {tk : TA} {g : List Value → List Value → List Value} {gV : List V → List V → List V}
/-- f(k = v, ..) that may raise -/
theorem pe_cKX (F : FnOk X.prog X.w X.K X.mg X.base CX k f fd ps sp) (hr : Room k X.A) (hg : Gl X x) (hm : X.mg x = some (.ref f)) (hk : PySem.W.keepIn X.K (.ref f) = true) (hb : KBn X.K fd ps 0 ks g gV) (hx : Passes CX X E) (hkw : PK X kws tk)
    (hall : (backToKw pos (keywordEach kws X.env)).all (·.1.isSome) = true := by rfl) (hks : (backToKw pos (keywordEach kws X.env)).filterMap (·.1) = ks := by rfl) (hdb : (x == ("__debug__" : Str)) = false := by decide)
    (hpl : ((backTo pos (starEach [] X.env)).any (·.1) || (backToKw pos (keywordEach kws X.env)).any (·.1.isNone)) = false := by rfl) :
    PE X (.Call (.Name x p) [] kws pos) (fun σ H Q => tk σ H fun zs H1 => zs.length = ks.length ∧ sp (gV [] zs) H1 Q E) := by
  refine ⟨fun pins s σ H Q I h => wpAny_Call_Name_kw (ld_glob I hg hm (PySem.W.callWith_KW0 (h₀ := X.base) I.ok.mod.kin hk hall ?_ hpl) hdb)⟩
  refine thn (hkw.run pos pins s σ H _ I h) fun ws s2 ⟨zs, H2, I2, rz, l2, q2⟩ => ⟨I2.kIn, ?_⟩
  rw [hks]
  exact run_fnN (us := []) (vs := []) F hr hb hx I2 .nil rz rfl l2 q2
end
end GL
set_option Elab.async false
set_option linter.all false
set_option maxRecDepth 100000
set_option maxHeartbeats 4000000
/-! MKS: the making of an own instance that may raise, within a try. -/
namespace MKS
open PySem PySem.Spec PyProof.Rows L2
section
variable {X : Cx} {CX : CXT} {k : Nat} {f C : Addr} {fd : FuncData} {ps : List Str} {sp : Sp} {dvs : List V} {ds : List Value} {E : L2.St → XK} {x m : Str} {p pos apos : Pos} {e o : Expr} {es : List Expr} {ta : TE} {t : TA}
theorem run_makeS {E : XK} {pins : List (Addr × Obj)} {σ : L2.St} {H : Hp} {s : Shared} {Q : VK} {us : List Value} {vs : List V} (M : Mk X.K C f) (F : FnOk X.prog X.w X.K X.mg X.base CX k f fd ps sp) (hr : Room (k + 1) X.A) (hb : Binds X.K fd ps ds) (hd : Vals dvs ds)
    (hx : PassesAt CX X σ E) (I : Inv X pins σ H s) (r : Vals vs us)
    (h : ∀ x dx, H x = none → H dx = none → dx ≠ x → sp (.ref x :: (vs ++ dvs)) (upd (upd H dx (.own x)) x (.ins C dx [])) (fun v H2 => v = .non ∧ Q (.ref x) H2) E) :
    wpAny (model X.prog X.w) X.A (call (.ref C) us) (EP X pins σ Q) X.xe s := by
  have hq := h (s.heap.objs.size + 1) s.heap.objs.size (I.hok.fresh (Nat.le_succ _)) (I.hok.fresh (Nat.le_refl _)) (Nat.ne_of_lt (Nat.lt_succ_self _))
  have I2 := Inv.made (C := C) I
  have r2 : Vals (V.ref (s.heap.objs.size + 1) :: (vs ++ dvs)) (Value.ref (s.heap.objs.size + 1) :: (us ++ ds)) := .cons rfl (r.append hd)
  have hl : (Value.ref (s.heap.objs.size + 1) :: us ++ ds).length = ps.length := by
    have e := r2.length
    rw [F.len _ _ _ _ hq] at e
    exact e.symm
  refine wpAny_call (make_map (f := f) I.kIn M.makes M.init (beq_iff_eq.mp M.fn) (codeAny_mono (F.run _ X.stack _ _ ⟨Value.ref (s.heap.objs.size + 1) :: us, []⟩ (Value.ref (s.heap.objs.size + 1) :: (us ++ ds)) _ _ E (hr.make C us [])
    (I2.env0.make C us []) (hb _ (Value.ref (s.heap.objs.size + 1) :: us) I2.kIn hl) r2 hq) fun r s' hq' => ?_))
  cases r with
  | error e => exact hx pins _ _ e s' I2 hq'
  | ok fl =>
    cases fl with
    | ret u =>
      obtain ⟨v, H', I3, rv, ev, q3⟩ := I2.after hq'
      subst ev
      exact ⟨rv, ⟨V.ref (s.heap.objs.size + 1), H', I3, rfl, q3⟩⟩
    | next => exact False.elim hq'
    | brk => exact False.elim hq'
    | cont => exact False.elim hq'
def tMakeS (C : Addr) (sp : Sp) (dvs : List V) (E : L2.St → XK) (t : TA) : TE := fun σ H Q => t σ H fun vs H1 => ∀ x dx, H1 x = none → H1 dx = none → dx ≠ x →
  sp (.ref x :: (vs ++ dvs)) (upd (upd H1 dx (.own x)) x (.ins C dx [])) (fun v H2 => v = .non ∧ Q (.ref x) H2) (E σ)
theorem pe_makeS (M : Mk X.K C f) (F : FnOk X.prog X.w X.K X.mg X.base CX k f fd ps sp) (hr : Room (k + 1) X.A) (hg : Gl X x) (hm : X.mg x = some (.ref C)) (hb : Binds X.K fd ps ds) (hd : Vals dvs ds) (hx : ∀ σ, PassesAt CX X σ (E σ))
    (ha : PA X (e :: es) t) (hdb : (x == ("__debug__" : Str)) = false := by decide) (he : starEach (e :: es) X.env = (false, eval e X.env) :: starEach es X.env := by rfl) (hpl : (backTo pos (starEach es X.env)).any (·.1) = false := by rfl) :
    PE X (.Call (.Name x p) (e :: es) [] pos) (tMakeS C sp dvs E t) := by
  refine ⟨fun pins s σ H Q I h => ?_⟩
  refine wpAny_Call_Name_kw (ld_glob I hg hm ?_ hdb)
  refine PySem.W.callWith_K (h₀ := X.base) I.ok.mod.kin M.kp (thn (ha.run pos pins s σ H _ I h) fun us s1 ⟨vs, H1, I1, r, q⟩ => ⟨I1.kIn, ?_⟩) he hpl
  exact run_makeS M F hr hb hd (hx σ) I1 r q
end
end MKS
set_option Elab.async false
set_option linter.all false
set_option maxRecDepth 100000
set_option maxHeartbeats 4000000
namespace K09
open PySem PySem.Spec PyProof.Rows L2
open C8 (Cal Mak Met pe_c pe_mk pe_mt pe_mt0)
open LamX (Tabs ExtN TabB)
open THI
open SX (S)
open PySem.Builtin PySem.Builtin.List
abbrev psP : List Str := ["self", "name", "seats", "mask"]
def T0 (K : PySem.W.Frag) : List (Addr × Str) := [((He.cT K ("_law_right", none)).2, (envOfC d_l_right.qual d_l_right.scope 0 0 .none).qual ++ "<lambda>")]
theorem snE {A B : Hp} (e : ExtN A B) : SN A B := fun b o h n => e b o h n
theorem SN.updn {H G : Hp} {L : Addr} {o : HO} (s : SN H G) (n : NT H L) : SN H (upd G L o) := fun b ob e nt => by
  have ne : b ≠ L := fun z => by
    subst z
    obtain ⟨ps, z⟩ := n _ e
    exact nt ps z
  rw [upd_ne ne]
  exact s b ob e nt
theorem tabs_lst {T : List (Addr × Str)} {H : Hp} {L : Addr} {xs : List V} {o : HO} (t : Tabs T H) (h : H L = some (.lst xs)) : Tabs T (upd H L o) := by
  intro p hp
  obtain ⟨q, hq, tq, cq⟩ := t p hp
  have n1 : p.1 ≠ L := fun z => by
    rw [z, h] at hq
    cases hq
  refine ⟨q, (by rw [upd_ne n1]; exact hq), tq, fun pos cv e => ?_⟩
  obtain ⟨c0, e1, e2⟩ := cq pos cv e
  have n2 : c0 ≠ L := fun z => by
    rw [z, h] at e2
    cases e2
  exact ⟨c0, e1, by rw [upd_ne n2]; exact e2⟩
theorem eqb_str {X : Cx} {H : Hp} (a b : Str) : EQB.EqB X (.str a) (.str b) H (a == b) := fun pins σ s v u A I ry rx hu => by
  obtain ⟨t, rfl⟩ := ry
  obtain ⟨t2, rfl⟩ := rx
  exact SeqAt.EqAt.str_str a t b t2
theorem eql3 {X : Cx} {H : Hp} (D : Str) : EQB.EqL X H [.str D, .str D, .str D] [.str D, .str D, .str D] true := by
  refine EQB.EqL.all (e := fun _ => true) rfl fun i x y e1 e2 => ?_
  rw [e1] at e2
  cases e2
  have hm : x ∈ ([.str D, .str D, .str D] : List V) := List.mem_of_getElem? e1
  simp only [List.mem_cons, List.not_mem_nil, or_false, or_self] at hm
  subst hm
  have := eqb_str (X := X) (H := H) D D
  rw [beq_self_eq_true] at this
  exact this
/-- a class of refusals, its word and its field -/
structure Rf (K : PySem.W.Frag) (mg : Str → Option Value) (D : Addr) (ow : Str → Bool) (ab : String → Bool) (wd fl : Str) : Prop where
  ex : Ex K mg D ow ab
  em : Exm K D ow
  wo : WordOk ow ab wd
  cl : cl10.any ow = true
  fo : fldOf ow = some fl
  xf : XfC K D
  nt : PySem.W.findIn K (.ref D) fl = some none
  lk : ∀ v : V, ([(fl, v)] : List (Str × V)).lookup fl = some v
theorem Rf.at {K : PySem.W.Frag} {mg : Str → Option Value} {D : Addr} {ow : Str → Bool} {ab : String → Bool} {wd fl : Str} (T : Rf K mg D ow ab wd fl) {H : Hp} {d : Addr} {v : V} (hd : H d = some (.xd [(fl, v)])) : RefAt K mg (.ref D) (some d) H wd v :=
  ⟨D, ow, ab, rfl, T.ex, T.em, T.wo, .inl T.cl, .inr ⟨d, _, rfl, hd⟩, ⟨fun f0 ef => by
    rw [T.fo] at ef
    cases ef
    exact ⟨d, _, rfl, hd, T.xf, T.nt, T.lk v⟩, fun e => by
    rw [T.fo] at e
    cases e⟩⟩
theorem rp3 {H G : Hp} {u : Addr} {x1 x2 x3 : V} {k1 k2 k3 : Kn} {t1 t2 t3 : Str} (th : Th3 H x1 x2 x3 k1 k2 k3 t1 t2 t3) (s : SN H G) (n : NT H u) (X : Cx) : RPO.RpAll X 5 [u] G [x1, x2, x3] [t1, t2, t3] := by
  have ho : ∀ o ∈ [u], NT H o := fun o h => by
    rw [List.mem_singleton.mp h]
    exact n
  exact .cons ((th.a.rpN X [u] G s ho).mono (by decide)) (.cons ((th.b.rpN X [u] G s ho).mono (by decide)) (.cons ((th.c.rpN X [u] G s ho).mono (by decide)) .nil))
theorem ln3 {H : Hp} {x1 x2 x3 : V} {k1 k2 k3 : Kn} {t1 t2 t3 : Str} (th : Th3 H x1 x2 x3 k1 k2 k3 t1 t2 t3) : (tupleText [t1, t2, t3]).length ≤ sizeLine :=
  Nat.le_trans (three_len (Nat.le_trans th.a.len (by decide)) (Nat.le_trans th.b.len (by decide)) (Nat.le_trans th.c.len (by decide))) (by decide)
/-- a Person is made, or refused, within a met lambda -/
theorem made {K : PySem.W.Frag} {mg : Str → Option Value} {C B N : Addr} {owB owN : Str → Bool} {abB abN : String → Bool} (RB : Rf K mg B owB abB "bad" "name") (RN : Rf K mg N owN abN "number" "thing") {G : Hp} {E' : XK} {Q' Q : VK} {x1 x2 x3 : V} {k1 k2 k3 : Kn} {t1 t2 t3 : Str} (th : Th3 G x1 x2 x3 k1 k2 k3 t1 t2 t3)
    (hE : ∀ cls d H' (wd : Str) (v : V) (tx : Str), RefAt K mg cls d H' wd v → wd ≠ "told" → Rdy H' v tx → (reprText wd).length ≤ 100 → (∀ H2, Same H' H2 → Q (.str (tupleText [reprText wd, tx])) H2) → E' cls d H')
    (hT : ∀ p dx x1 x2 x3 t1 t2 t3 H', H' p = some (.ins C dx (peV x1 x2 x3)) → Rdy H' x1 t1 → Rdy H' x2 t2 → Rdy H' x3 t3 → (∀ H2, Same H' H2 → Q (.str (tupleText [reprText "told", tupleText [t1, t2, t3]])) H2) → Q' (.ref p) H')
    (hQ : ∀ H2, Same G H2 → Q (.str (dueTx k1 k2 k3 t1 t2 t3)) H2) {p dx : Addr} (hp : G p = none) (hdx : G dx = none) (ne : dx ≠ p) :
    spPx C B N [.ref p, x1, x2, x3] (upd (upd G dx (.own p)) p (.ins C dx [])) (fun v H2 => v = .non ∧ Q' (.ref p) H2) E' := by
  have s0 : Same G (upd (upd G dx (.own p)) p (.ins C dx [])) := fun b o e => by
    rw [upd_ne (ne_of_none e hp), upd_ne (ne_of_none e hdx)]
    exact e
  refine ⟨p, dx, x1, x2, x3, k1, k2, k3, t1, t2, t3, rfl, th.same s0, upd_same, fun ok H' k hp' => ⟨rfl, ?_⟩, fun ok d H' sH fd hd => ?_⟩
  · have sG : Same G H' := fun b o e => k b o (ne_of_none e hp) (s0 b o e)
    refine hT p dx x1 x2 x3 t1 t2 t3 H' hp' (Rdy.of (th.a.same sG)) (Rdy.of (th.b.same sG)) (Rdy.of (th.c.same sG)) fun H2 s2 => ?_
    have q := hQ H2 (sG.trans s2)
    unfold dueTx at q
    rw [if_pos ok] at q
    exact q
  · have sG : Same G H' := s0.trans sH
    have q := fun H2 s2 => hQ H2 (sG.trans s2)
    unfold dueTx at q
    rw [if_neg (show ¬ okP k1 k2 k3 = true by rw [ok]; simp)] at q
    unfold refP at hd ⊢
    by_cases c1 : nmK k1 = true
    · rw [if_pos c1] at hd ⊢
      simp only [if_pos c1] at q
      by_cases c2 : wi k2 0 9 = true
      · rw [if_pos c2] at hd ⊢
        simp only [if_pos c2] at q
        exact hE _ _ _ "number" x3 t3 (RN.at hd) (by decide +kernel) (Rdy.of (th.c.same sG)) (by decide +kernel) q
      · rw [if_neg c2] at hd ⊢
        simp only [if_neg c2] at q
        exact hE _ _ _ "number" x2 t2 (RN.at hd) (by decide +kernel) (Rdy.of (th.b.same sG)) (by decide +kernel) q
    · rw [if_neg c1] at hd ⊢
      simp only [if_neg c1] at q
      exact hE _ _ _ "bad" x1 t1 (RB.at hd) (by decide +kernel) (Rdy.of (th.a.same sG)) (by decide +kernel) q
/-- what is met -/
theorem metQ {K : PySem.W.Frag} {mg : Str → Option Value} {C B N : Addr} {owB owN : Str → Bool} {abB abN : String → Bool} (RB : Rf K mg B owB abB "bad" "name") (RN : Rf K mg N owN abN "number" "thing") {G : Hp} {Q : VK} {told : XK → Hp → VK → Prop} {x1 x2 x3 : V} {k1 k2 k3 : Kn} {t1 t2 t3 : Str} (th : Th3 G x1 x2 x3 k1 k2 k3 t1 t2 t3)
    (hQ : ∀ H2, Same G H2 → Q (.str (dueTx k1 k2 k3 t1 t2 t3)) H2)
    (ht : ∀ G1 E' Q', Same G G1 → (∀ p dx, G1 p = none → G1 dx = none → dx ≠ p → spPx C B N [.ref p, x1, x2, x3] (upd (upd G1 dx (.own p)) p (.ins C dx [])) (fun v H2 => v = .non ∧ Q' (.ref p) H2) E') → told E' G1 Q') : MetT K mg C told G Q := fun G1 E' Q' s1 hE hT =>
  ht G1 E' Q' s1 fun p dx hp hdx ne => made RB RN (th.same s1) hE hT (fun H2 s2 => hQ H2 (s1.trans s2)) hp hdx ne
section
variable {P : Program} {w : World} {K : PySem.W.Frag} {mg : Str → Option Value} {base : Heap} {C B N fP fM fG : Addr} {fd fdP fdM fdG : FuncData}
def spRt (K : PySem.W.Frag) : Sp := fun vs H Q _ => ∃ (x1 x2 x3 : V) (k1 k2 k3 : Kn) (t1 t2 t3 : Str), vs = [x1, x2, x3] ∧ Th3 H x1 x2 x3 k1 k2 k3 t1 t2 t3 ∧ (∀ s, k1 = .text s → s.length ≤ 1000 ∧ ∀ c ∈ s.cps.toList, c < 128) ∧ Tabs (T0 K) H ∧ ∀ H', SN H H' → Tabs (T0 K) H' → Q (.bl true) H'
theorem ok_rt (F : Dn K d_l_right (He.fAd K ("_law_right", none)) fd) (b : Bl mg) (brep : mg "repr" = none) (TB : TabB base mg (He.cT K ("_law_right", none)).1 (He.cT K ("_law_right", none)).2)
    (cDu : Cal P w K mg base 2 "_law_due" spDue []) (cWd : Cal P w K mg base 1 "_law_word" (spWdA K mg) []) (cFd : Cal P w K mg base 1 "_law_field" (spFdA K mg) []) (T : ClP K mg C) (Mk1 : Mk K C fP) (FP : FnOk P w K mg base (L2.CX P w) 5 fP fdP psP (spPx C B N)) {i3 ds1 : List Value}
    (bP : Binds K fdP psP []) (bP1 : Binds K fdP psP ds1) (vP1 : Vals [.int 31] ds1) (k1 : KBn K fdP psP 1 ["mask", "name", "seats"] (fun us ws => us ++ (ws.drop 1 ++ ws.take 1)) (fun vs zs => vs ++ (zs.drop 1 ++ zs.take 1))) (k2 : KBn K fdP psP 2 ["mask", "seats"] (fun us ws => us ++ ws.reverse) (fun vs zs => vs ++ zs.reverse))
    (k3 : KBn K fdP psP 2 ["mask"] (fun us ws => us ++ (i3.take 1 ++ ws)) (fun vs zs => vs ++ (([.int 0, .int 31] : List V).take 1 ++ zs)))
    (FMt : Dn K d_l_met fM fdM) (gM : mg "_law_met" = some (.ref fM)) (kM : PySem.W.keepIn K (.ref fM) = true) (bM : Binds K fdM ["_law_deed"] []) (FGt : Dn K d_l_got fG fdG) (gG : mg "_law_got" = some (.ref fG)) (kG : PySem.W.keepIn K (.ref fG) = true) (bG : Binds K fdG ["_law_deed"] [])
    (gl : ∀ x ∈ ex16, mg x = some (.ref (He.ga K x))) {owB owN : Str → Bool} {abB abN : String → Bool} (RB : Rf K mg B owB abB "bad" "name") (RN : Rf K mg N owN abN "number" "thing") : GL.FnG P w K mg base 11 (He.fAd K ("_law_right", none)) fd ["_law_called_here", "_law_places", "_law_days"] (spRt K) := by
  refine GL.okGT F sc_l_right (fun vs H Q E h => ?_) (fun A outer s H vs Q E hgd hr h => ?_)
  · obtain ⟨x1, x2, x3, k1, k2, k3, t1, t2, t3, rfl, _⟩ := h
    rfl
  · obtain ⟨x1, x2, x3, kn1, kn2, kn3, t1, t2, t3, rfl, th, hl, tabs, hQ⟩ := h
    obtain ⟨ocG, odG, dVG, kVG, docG, pmG, anG, cdvG, ctG, oslG, rfl, lkG, hcG, _, _⟩ := FGt.ex
    obtain ⟨ocM, odM, dVM, kVM, docM, pmM, anM, cdvM, ctM, oslM, rfl, lkM, hcM, _, _⟩ := FMt.ex
    have G : LMS.Got K mg "_law_got" "_law_deed" N_l_got (defScope s_l_got) fG cdvG (defBody s_l_got) := ⟨⟨_, _, _, _, _, _, _, _, _, _, lkG, bG⟩, gG, kG, hcG, sc_l_got, rfl, .inl rfl⟩
    have hgd2 : (A.deeper (envOfC d_l_right.qual d_l_right.scope s.heap.objs.size (He.fAd K ("_law_right", none)) (.ref (He.cT K ("_law_right", none)).1))).guards = some [] := hgd
    have hu65 : (A.deeper (envOfC d_l_right.qual d_l_right.scope s.heap.objs.size (He.fAd K ("_law_right", none)) (.ref (He.cT K ("_law_right", none)).1))).units + 65 < cLine := by have := hr.un; omega
    refine ⟨_, PSs.nox (pss_cons (ps_par (i := 3) (j := 4) rfl sc_l_right.nd rfl rfl (by decide) rfl rfl (pa_cons (pe_callB (RPO.call_reprT (n := 5) hgd2 (hr.mono (by decide))) rfl brep boot_repr (pa_cons (pe_c cDu hr (by decide) rfl (pa_cons (pv 0) (pa_cons (pv 1) (pa_cons (pv 2) pa_nil)))) pa_nil)) (pa_cons (pe_callB (RPO.call_reprT (n := 5) hgd2 (hr.mono (by decide))) rfl brep boot_repr (pa_cons (pe_tup (pa_cons (pv 0) (pa_cons (pv 1) (pa_cons (pv 2) pa_nil)))) pa_nil)) pa_nil)) rfl)
      (pss_cons (ps_set (i := 5) sc_l_right.nd rfl (.inl rfl) (pe_lst (pa_cons (LMS.pe_lamP (T := T0 K) (k := 6) rfl gM kM lkM hcM bM sc_l_met rfl (.inl rfl) G (fun _ _ => rfl) (met_gives hgd2 (hr.mono (by decide)) brep T) (fun s H r => got_gives gl (r.mono (by decide)) cWd cFd) (fun _ _ _ => rfl) TB rfl (List.mem_singleton.mpr rfl) (fun p hp _ => by rw [List.mem_singleton.mp hp]; rfl) (hr.mono (by decide)) (LamX.lamS_by (sc := d_l_right.scope) (by decide +kernel)) rfl (fun _ _ _ _ _ => rfl)
              (fun A' outer' s1 H1 E' lf lc r => MKS.pe_makeS (E := fun σ cls d H => E' cls d H) Mk1 FP r rfl T.g bP .nil (fun σ => passAt (takes_of rfl rfl rfl rfl) σ) (pa_cons (pv 0) (pa_cons (pv 1) (pa_cons (pv 2) pa_nil))))) pa_nil)))
      (pss_cons (ps_expr (pe_bm PySem.F.plainAttrs_list PySem.F.slot_list_append PySem.F.type_list_append mt_append (pv 5) (pa_cons (LMS.pe_lamP (T := T0 K) (k := 6) rfl gM kM lkM hcM bM sc_l_met rfl (.inl rfl) G (fun _ _ => rfl) (met_gives hgd2 (hr.mono (by decide)) brep T) (fun s H r => got_gives gl (r.mono (by decide)) cWd cFd) (fun _ _ _ => rfl) TB rfl (List.mem_singleton.mpr rfl) (fun p hp _ => by rw [List.mem_singleton.mp hp]; rfl) (hr.mono (by decide)) (LamX.lamS_by (sc := d_l_right.scope) (by decide +kernel)) rfl (fun _ _ _ _ _ => rfl)
              (fun A' outer' s1 H1 E' lf lc r => pe_makeK0 (E := E') Mk1 FP r rfl T.g k1 (passes_call (takes_of rfl rfl rfl rfl) fun _ _ _ _ h => h) (pk_cons (pv 2) (pk_cons (pv 0) (pk_cons (pv 1) pk_nil))))) pa_nil)))
      (pss_cons (ps_expr (pe_bm PySem.F.plainAttrs_list PySem.F.slot_list_append PySem.F.type_list_append mt_append (pv 5) (pa_cons (LMS.pe_lamP (T := T0 K) (k := 6) rfl gM kM lkM hcM bM sc_l_met rfl (.inl rfl) G (fun _ _ => rfl) (met_gives hgd2 (hr.mono (by decide)) brep T) (fun s H r => got_gives gl (r.mono (by decide)) cWd cFd) (fun _ _ _ => rfl) TB rfl (List.mem_singleton.mpr rfl) (fun p hp _ => by rw [List.mem_singleton.mp hp]; rfl) (hr.mono (by decide)) (LamX.lamS_by (sc := d_l_right.scope) (by decide +kernel)) rfl (fun _ _ _ _ _ => rfl)
              (fun A' outer' s1 H1 E' lf lc r => pe_makeN (E := E') (n := 1) Mk1 FP r rfl T.g k2 (passes_call (takes_of rfl rfl rfl rfl) fun _ _ _ _ h => h) (pa_cons (pv 0) pa_nil) (pk_cons (pv 2) (pk_cons (pv 1) pk_nil)))) pa_nil)))
      (pss_cons (ps_if (PW.pt (pw_or (pt_cmpR (EQB.op_neL hu65) (pv 5) (pe_op op_rep (pe_lst (pa_cons (pv 3) pa_nil)) pe_int) (nomark _)) (pw_or1 (pt_cmpR op_ne (pe_callB (RPO.call_reprT (n := 5) hgd2 (hr.mono (by decide))) rfl brep boot_repr (pa_cons (pe_tup (pa_cons (pv 0) (pa_cons (pv 1) (pa_cons (pv 2) pa_nil)))) pa_nil)) (pv 4) (nomark _))))) pss_never pss_nil)
      (pss_cons (ps_if (pt_cmpR op_ne (LMS.pe_lamP (T := T0 K) (k := 6) rfl gM kM lkM hcM bM sc_l_met rfl (.inl rfl) G (fun _ _ => rfl) (met_gives hgd2 (hr.mono (by decide)) brep T) (fun s H r => got_gives gl (r.mono (by decide)) cWd cFd) (fun _ _ _ => rfl) TB rfl (List.mem_singleton.mpr rfl) (fun p hp _ => by rw [List.mem_singleton.mp hp]; rfl) (hr.mono (by decide)) (LamX.lamS_by (sc := d_l_right.scope) (by decide +kernel)) rfl (fun _ _ _ _ _ => rfl)
              (fun A' outer' s1 H1 E' lf lc r => pe_makeN (E := E') (n := 1) Mk1 FP r rfl T.g k3 (passes_call (takes_of rfl rfl rfl rfl) fun _ _ _ _ h => h) (pa_cons (pv 0) pa_nil) (pk_cons (pv 2) pk_nil))) (pe_callB (RPO.call_reprT (n := 5) hgd2 (hr.mono (by decide))) rfl brep boot_repr (pa_cons (pe_c cDu hr (by decide) rfl (pa_cons (pv 0) (pa_cons pe_int (pa_cons (pv 2) pa_nil)))) pa_nil)) (nomark _)) pss_never pss_nil)
      (pss_one (ps_ret (pe_cmpR op_eq (LMS.pe_lamP (T := T0 K) (k := 6) rfl gM kM lkM hcM bM sc_l_met rfl (.inl rfl) G (fun _ _ => rfl) (met_gives hgd2 (hr.mono (by decide)) brep T) (fun s H r => got_gives gl (r.mono (by decide)) cWd cFd) (fun _ _ _ => rfl) TB rfl (List.mem_singleton.mpr rfl) (fun p hp _ => by rw [List.mem_singleton.mp hp]; rfl) (hr.mono (by decide)) (LamX.lamS_by (sc := d_l_right.scope) (by decide +kernel)) rfl (fun _ _ _ _ _ => rfl)
              (fun A' outer' s1 H1 E' lf lc r => MKS.pe_makeS (E := fun σ cls d H => E' cls d H) Mk1 FP r rfl T.g bP1 vP1 (fun σ => passAt (takes_of rfl rfl rfl rfl) σ) (pa_cons (pv 0) (pa_cons (pv 1) pa_nil)))) (pe_callB (RPO.call_reprT (n := 5) hgd2 (hr.mono (by decide))) rfl brep boot_repr (pa_cons (pe_c cDu hr (by decide) rfl (pa_cons (pv 0) (pa_cons (pv 1) (pa_cons pe_int pa_nil)))) pa_nil)) (nomark _)))))))))), ?_⟩
    refine ⟨_, rfl, _, rfl, _, rfl, x1, x2, x3, kn1, kn2, kn3, t1, t2, t3, rfl, th, hl, fun t H1 s1 f1 d1 => ?_⟩
    obtain ⟨xs, ts, e1, rp1, tx1, ln1⟩ := rp_due th s1 f1 d1
    refine ⟨t, xs, ts, rfl, e1, rp1 _, ln1, fun H2 e2 => ?_⟩
    rw [tx1]
    have s2 : Same H H2 := s1.trans e2
    refine ⟨_, rfl, _, rfl, _, rfl, by show 3 ≤ sizeLine; decide, fun u fu => ?_⟩
    have s3 := s2.trans (same_new (o := .tup [x1, x2, x3]) fu)
    refine ⟨u, _, [t1, t2, t3], rfl, upd_same, rp3 th (SN.of s3) (NT.of (none_up2 s2 fu)) _, ln3 th, fun H3 e3 => ?_⟩
    have g : SN H H3 := SN.of (s3.trans e3)
    have tb : Tabs (T0 K) H3 := tabs.ext (s3.trans e3)
    refine ⟨_, _, rfl, ?_⟩
    refine ⟨tb, fun G e tG => metQ RB RN (th.sn (SN.trans g (snE e))) (fun G2 s2 => ?_) fun G1 E' Q' sH mk => ⟨_, rfl, _, rfl, _, rfl, mk⟩⟩
    have gs := SN.trans (snE e) (SN.of s2)
    have g := SN.trans g gs
    have tb := tG.ext s2
    refine ⟨by show 1 ≤ sizeLine; decide, fun L fL => ?_⟩
    have nL : NT H L := NT.up g (NT.of fL)
    have hL : (upd G2 L (.lst [.str (dueTx kn1 kn2 kn3 t1 t2 t3)])) L = some (.lst [.str (dueTx kn1 kn2 kn3 t1 t2 t3)]) := upd_same
    have g := SN.trans g (SN.of (same_new (o := .lst [.str (dueTx kn1 kn2 kn3 t1 t2 t3)]) fL))
    have tb := tb.ext (same_new (o := .lst [.str (dueTx kn1 kn2 kn3 t1 t2 t3)]) fL)
    generalize upd G2 L (.lst [.str (dueTx kn1 kn2 kn3 t1 t2 t3)]) = G3 at hL g tb ⊢
    refine ⟨_, rfl, .inl ⟨rfl, _, SqL.of hL⟩, ?_⟩
    refine ⟨tb, fun G e tG => metQ RB RN (th.sn (SN.trans g (snE e))) (fun G2 s2 => ?_) fun G1 E' Q' sH mk => ⟨_, rfl, _, rfl, _, rfl, rfl, rfl, mk⟩⟩
    have gs := SN.trans (snE e) (SN.of s2)
    have g := SN.trans g gs
    have tb := tG.ext s2
    have hL := gs _ _ hL fun _ z => nomatch z
    refine ⟨L, _, _, rfl, rfl, hL, by show 1 < sizeLine; decide, ?_⟩
    have tb := tabs_lst (o := .lst ([V.str (dueTx kn1 kn2 kn3 t1 t2 t3)] ++ [V.str (dueTx kn1 kn2 kn3 t1 t2 t3)])) tb hL
    have g := K09.SN.updn (o := .lst ([V.str (dueTx kn1 kn2 kn3 t1 t2 t3)] ++ [V.str (dueTx kn1 kn2 kn3 t1 t2 t3)])) g nL
    have hL : (upd G2 L (.lst ([V.str (dueTx kn1 kn2 kn3 t1 t2 t3)] ++ [V.str (dueTx kn1 kn2 kn3 t1 t2 t3)]))) L = some (.lst ([V.str (dueTx kn1 kn2 kn3 t1 t2 t3)] ++ [V.str (dueTx kn1 kn2 kn3 t1 t2 t3)])) := upd_same
    generalize upd G2 L (.lst ([V.str (dueTx kn1 kn2 kn3 t1 t2 t3)] ++ [V.str (dueTx kn1 kn2 kn3 t1 t2 t3)])) = G4 at hL g tb ⊢
    refine ⟨_, rfl, .inl ⟨rfl, _, SqL.of hL⟩, ?_⟩
    refine ⟨tb, fun G e tG => metQ RB RN (th.sn (SN.trans g (snE e))) (fun G2 s2 => ?_) fun G1 E' Q' sH mk => ⟨_, rfl, _, rfl, _, rfl, rfl, rfl, mk⟩⟩
    have gs := SN.trans (snE e) (SN.of s2)
    have g := SN.trans g gs
    have tb := tG.ext s2
    have hL := gs _ _ hL fun _ z => nomatch z
    refine ⟨L, _, _, rfl, rfl, hL, by show 2 < sizeLine; decide, ?_⟩
    have tb := tabs_lst (o := .lst (([V.str (dueTx kn1 kn2 kn3 t1 t2 t3)] ++ [V.str (dueTx kn1 kn2 kn3 t1 t2 t3)]) ++ [V.str (dueTx kn1 kn2 kn3 t1 t2 t3)])) tb hL
    have g := K09.SN.updn (o := .lst (([V.str (dueTx kn1 kn2 kn3 t1 t2 t3)] ++ [V.str (dueTx kn1 kn2 kn3 t1 t2 t3)]) ++ [V.str (dueTx kn1 kn2 kn3 t1 t2 t3)])) g nL
    have hL : (upd G2 L (.lst (([V.str (dueTx kn1 kn2 kn3 t1 t2 t3)] ++ [V.str (dueTx kn1 kn2 kn3 t1 t2 t3)]) ++ [V.str (dueTx kn1 kn2 kn3 t1 t2 t3)]))) L = some (.lst (([V.str (dueTx kn1 kn2 kn3 t1 t2 t3)] ++ [V.str (dueTx kn1 kn2 kn3 t1 t2 t3)]) ++ [V.str (dueTx kn1 kn2 kn3 t1 t2 t3)])) := upd_same
    generalize upd G2 L (.lst (([V.str (dueTx kn1 kn2 kn3 t1 t2 t3)] ++ [V.str (dueTx kn1 kn2 kn3 t1 t2 t3)]) ++ [V.str (dueTx kn1 kn2 kn3 t1 t2 t3)])) = G4 at hL g tb ⊢
    have nz : ∀ v : V, (!decide (v = v)) = false := fun v => by simp
    have nz2 : ∀ v : V, decide (v = v) = true := fun v => by simp
    refine ⟨_, rfl, _, rfl, by show 1 ≤ sizeLine; decide, fun M fM => ?_⟩
    have sM := same_new (o := .lst [.str (dueTx kn1 kn2 kn3 t1 t2 t3)]) fM
    refine ⟨M, 3, _, rfl, rfl, upd_same, by decide, by decide, by show 3 ≤ sizeLine; decide, fun R fR => ?_⟩
    have sR := sM.trans (same_new (o := .lst (List.replicate (3 : Int).toNat [V.str (dueTx kn1 kn2 kn3 t1 t2 t3)]).flatten) fR)
    have hLR := sR _ _ hL
    have nLR : L ≠ R := fun z => by
      have hz := sM _ _ hL
      rw [z, fR] at hz
      cases hz
    have g := SN.trans g (SN.of sR)
    have tb := tb.ext sR
    refine ⟨L, R, _, _, true, rfl, rfl, nLR, SqL.of hLR, SqL.of upd_same, eql3 _, _, rfl, ?_⟩
    refine iteFE rfl ?_
    refine ⟨_, rfl, _, rfl, _, rfl, by show 3 ≤ sizeLine; decide, fun v fv => ?_⟩
    have nv : NT H v := NT.up g (NT.of fv)
    have g := SN.trans g (SN.of (same_new (o := .tup [x1, x2, x3]) fv))
    have tb := tb.ext (same_new (o := .tup [x1, x2, x3]) fv)
    refine ⟨v, _, [t1, t2, t3], rfl, upd_same, rp3 th g nv _, ln3 th, fun H4 e4 => ?_⟩
    have g := SN.trans g (SN.of e4)
    have tb := tb.ext e4
    refine ⟨_, rfl, rfl, _, rfl, ?_⟩
    rw [nz]
    refine iteF ?_
    have th0 : Th3 H x1 (.int 0) x3 kn1 (.whole 0) kn3 t1 ((toString (0 : Int) : String) : Str) t3 := ⟨th.a, (Thg.int (i := 0) (by decide +kernel) (by decide +kernel)).same (s0 _), th.c, th.l⟩
    have th31 : Th3 H x1 x2 (.int 31) kn1 kn2 (.whole 31) t1 t2 ((toString (31 : Int) : String) : Str) := ⟨th.a, th.b, (Thg.int (i := 31) (by decide +kernel) (by decide +kernel)).same (s0 _), th.l⟩
    refine ⟨tb, fun G e tG => metQ RB RN (th0.sn (SN.trans g (snE e))) (fun G2 s2 => ?_) fun G1 E' Q' sH mk => ⟨_, rfl, _, rfl, rfl, rfl, mk⟩⟩
    have gs := SN.trans (snE e) (SN.of s2)
    have g := SN.trans g gs
    have tb := tG.ext s2
    refine ⟨_, rfl, _, rfl, x1, .int 0, x3, kn1, .whole 0, kn3, t1, _, t3, rfl, th0.sn g, hl, fun t0 J1 sJ fJ dJ => ?_⟩
    obtain ⟨xs0, ts0, e10, rp10, tx10, ln10⟩ := rp_due (th0.sn g) sJ fJ dJ
    refine ⟨t0, xs0, ts0, rfl, e10, rp10 _, ln10, fun J2 eJ => ?_⟩
    have g := SN.trans g (SN.of (sJ.trans eJ))
    have tb := tb.ext (sJ.trans eJ)
    refine ⟨rfl, _, rfl, ?_⟩
    rw [tx10, nz]
    refine iteF ?_
    refine ⟨tb, fun G e tG => metQ RB RN (th31.sn (SN.trans g (snE e))) (fun G2 s2 => ?_) fun G1 E' Q' sH mk => ⟨_, rfl, _, rfl, mk⟩⟩
    have gs := SN.trans (snE e) (SN.of s2)
    have g := SN.trans g gs
    have tb := tG.ext s2
    refine ⟨_, rfl, _, rfl, x1, x2, .int 31, kn1, kn2, .whole 31, t1, t2, _, rfl, th31.sn g, hl, fun t5 J3 sJ fJ dJ => ?_⟩
    obtain ⟨xs5, ts5, e15, rp15, tx15, ln15⟩ := rp_due (th31.sn g) sJ fJ dJ
    refine ⟨t5, xs5, ts5, rfl, e15, rp15 _, ln15, fun J4 eJ => ?_⟩
    refine ⟨rfl, ?_⟩
    rw [tx15, nz2]
    exact hQ _ (SN.trans g (SN.of (sJ.trans eJ))) (tb.ext (sJ.trans eJ))
end
end K09
set_option Elab.async false
set_option linter.all false
set_option maxRecDepth 100000
set_option maxHeartbeats 4000000
namespace K09
open PySem PySem.Spec PyProof.Rows L2
open C8 (Cal Mak Met pe_c pe_mk pe_mt pe_mt0)
open SX (S)
theorem lets_S : (Str.ofString "abcdefghijklmnopqrstuvwxyz").cps.toList = NM.lets := by decide +kernel
theorem words_S : Txt.split (Str.ofString "late in out ride hand lack yes no names gone text plan undo usual back leave") (Str.ofString " ") = NM.words.map S := by decide +kernel
theorem at_lets {x : Int} {j : Nat} (e : x = (j : Int)) (hj : j < 26) : atI (Str.ofString "abcdefghijklmnopqrstuvwxyz").cps.toList x = some (97 + j) := by
  rw [e, lets_S]
  refine atI_nat ?_
  unfold NM.lets
  rw [List.getElem?_map, List.getElem?_range hj]
  rfl
theorem cut_t {l : List Nat} {x : Int} {j : Nat} (e : x = (j : Int)) (h : j ≤ l.length) : cutS (S l) none (some x) = S (l.take j) := by
  rw [e]
  unfold cutS
  rw [HT.sIx_nat, HT.sIx_none, SX.S_len, Nat.min_eq_left h]
  simp [S]
theorem cut_d {l : List Nat} {x : Int} {j : Nat} (e : x = (j : Int)) (h : j ≤ l.length) : cutS (S l) (some x) none = S (l.drop j) := by
  rw [e]
  unfold cutS
  rw [HT.sIx_nat, HT.sIx_none, SX.S_len, Nat.min_eq_left h]
  simp [S, List.take_of_length_le]
theorem ones : ∀ bs : List Nat, ((bs.map fun c => S [c]).map (·.length)).sum = bs.length
  | [] => rfl
  | b :: bs => by
    rw [List.map_cons, List.map_cons, List.sum_cons, ones bs, List.length_cons, SX.S_len]
    simp
    omega
theorem joined : ∀ bs : List Nat, TL.joinL [] (bs.map fun c => [c]) = bs
  | [] => rfl
  | [b] => rfl
  | b :: d :: bs => by
    have := joined (d :: bs)
    simp only [List.map_cons, TL.joinL] at this ⊢
    simp [this]
/-- a sign eight times -/
theorem op_eight {X : Cx} : OpR X (binaryOp .Mult) (fun x y H Q => ∃ c : Nat, x = .str ⟨#[c]⟩ ∧ y = .int 8 ∧ Q (.str (S (List.replicate 8 c))) H) := by
  intro pins s σ H x y v u Q I rx ry h
  obtain ⟨c, rfl, rfl, q⟩ := h
  obtain ⟨t, rfl⟩ := rx
  obtain ⟨t', rfl⟩ := ry
  refine PySem.P.mul_str (by decide) (fun _ _ => by show ¬ ((1 : Int) > (2 ^ 63 - 1) / 8); decide) (fun _ _ => by show Builtin.Str.tooLong 8 = false; decide) ?_
  rw [if_neg (by decide), if_neg (by show ¬ ((8 : Int) == 1 || (1 : Nat) == 0) = true; decide)]
  exact ⟨by show 8 ≤ _; decide, ⟨.str (S (List.replicate 8 c)), H, I.tok _, ⟨_, rfl⟩, q⟩⟩
section
variable {P : Program} {w : World} {K : PySem.W.Frag} {mg : Str → Option Value} {base : Heap} {f C : Addr} {fd : FuncData}
abbrev CalD (P : Program) (w : World) (K : PySem.W.Frag) (mg : Str → Option Value) (base : Heap) : Prop := Cal P w K mg base 1 "_law_draw" spDraw []
def spNames : Sp := fun vs H Q _ => ∃ (p : Addr) (c n : Nat), vs = [.ref p, .int n] ∧ Pen H p (c + 40) ∧ n ≤ 16 ∧
  ∀ (o : Addr) (zs : List (List Nat)) (H' : Hp), Pen H' p c → Kp p H H' → H o = none → Off p o H' → H' o = some (.lst (zs.map fun l => V.str (S l))) → zs.length = n → (∀ z ∈ zs, NM.ok z) → zs.Pairwise (· ≠ ·) → Q (.ref o) H'
theorem ok_names (F : Dn K d_l_names f fd) (bl : Bl mg) (cD : CalD P w K mg base) : FnOk P w K mg base CX0 2 f fd ["_law_pen_here", "_law_many"] spNames := by
  refine F.ok sc_l_names (fun vs H Q E h => ?_) (fun cdv A outer s H vs Q E hr h => ?_)
  · obtain ⟨p, c, n, rfl, _⟩ := h
    rfl
  · obtain ⟨p, c, n, rfl, pen, hn, hQ⟩ := h
    refine ⟨_, PSs.nox (pss_cons (ps_set (i := 2) sc_l_names.nd rfl (.inr rfl) pe_str)
      (pss_cons (ps_set (i := 3) sc_l_names.nd rfl (.inl rfl) (pe_split pe_str pe_str))
      (pss_cons (ps_set (i := 4) sc_l_names.nd rfl (.inl rfl) (pe_op op_add pe_int (pe_c cD hr (by decide) rfl (pa_cons (pv 0) (pa_cons pe_int pa_nil)))))
      (C8.pss_cut (ps_set (i := 6) sc_l_names.nd rfl (.inl rfl) (pe_join pe_str (pe_lc (own := [("_law_k", 5)]) (g := gName 5) (tt := tYes) rfl sc_l_names.nd (pi_range1 rfl bl.range (pa_cons (pv 4) pa_nil)) (blkOk_by (N := N_l_names) (sc := defScope s_l_names) (by decide +kernel))
          (fun _ _ _ _ _ => pg_name (i := 5) sc_l_names.nd rfl (Or.inl rfl)) (fun _ _ _ _ _ => pts_nil) (fun _ _ _ _ _ => pe_ix ix_str (pv 2) (pe_c cD hr (by decide) rfl (pa_cons (pv 0) (pa_cons pe_int pa_nil))) (fun _ _ => rfl)))))
      (pss_cons (ps_par3 (i := 7) (j := 8) (l := 9) rfl sc_l_names.nd rfl rfl rfl (by decide) (by decide) (by decide) rfl rfl rfl (pa_cons (pe_c cD hr (by decide) rfl (pa_cons (pv 0) (pa_cons (pv 4) pa_nil))) (pa_cons (pe_c cD hr (by decide) rfl (pa_cons (pv 0) (pa_cons pe_int pa_nil)))
          (pa_cons (pe_op op_mod (pe_c cD hr (by decide) rfl (pa_cons (pv 0) (pa_cons pe_int pa_nil))) pe_int) pa_nil))) rfl)
      (pss_cons (ps_set (i := 10) sc_l_names.nd rfl (.inl rfl) (pe_lst pa_nil))
      (pss_cons (ps_for PassesOwn.never rfl (pi_range1 rfl bl.range (pa_cons (pv 1) pa_nil)) (pg_name (i := 5) sc_l_names.nd rfl (.inl rfl))
        (pss_cons (ps_set (i := 11) sc_l_names.nd rfl (.inl rfl) (pe_op op_add_str (pe_op op_add_str (pe_slice sl_str (pv 6) po_none (po_some (pv 7))) (pe_ix ix_str (pv 2) (pe_op op_mod (pe_op op_add (pv 8) (pe_op op_mul pe_int (pv 5))) pe_int) (fun _ _ => rfl)))
            (pe_slice sl_str (pv 6) (po_some (pe_op op_add (pv 7) pe_int)) po_none)))
        (C8.pss_cut (ps_if (pt_cmpR op_eq (pv 9) pe_int (nomark _)) (pss_one (ps_set (i := 11) sc_l_names.nd rfl (.inl rfl) (pe_slice sl_str (pv 11) po_none (po_some (pe_op op_sub (pv 4) (pe_op op_mod (pv 5) (pe_op op_sub (pv 4) (pv 7)))))))) pss_nil)
        (C8.pss_cut (ps_if (pt_cmpR op_eq (pv 9) pe_int (nomark _)) (pss_one (ps_set (i := 11) sc_l_names.nd rfl (.inl rfl) (pe_slice sl_str (pe_op op_eight (pe_ix ix_str (pv 2) (pe_op op_mod (pe_op op_add (pv 8) (pe_op op_fdiv (pv 5) pe_int)) pe_int) (fun _ _ => rfl)) pe_int) po_none
            (po_some (pe_op op_add (pe_op op_mod (pv 5) pe_int) pe_int))))) pss_nil)
        (C8.pss_cut (ps_if (pt_cmpR op_eq (pv 9) pe_int (nomark _)) (pss_one (ps_set (i := 11) sc_l_names.nd rfl (.inl rfl) (pe_ix ix_list (pv 3) (pe_op op_mod (pe_op op_add (pv 8) (pv 5)) pe_int) (fun _ _ => rfl)))) pss_nil)
        (pss_one (ps_expr (pe_bm PySem.F.plainAttrs_list PySem.F.slot_list_insert PySem.F.type_list_insert mt_insert (pv 10) (pa_cons (pe_c cD hr (by decide) rfl (pa_cons (pv 0) (pa_cons (pe_op op_add (pe_callB call_len_seq rfl bl.len boot_len (pa_cons (pv 10) pa_nil)) pe_int) pa_nil))) (pa_cons (pv 11) pa_nil))))))))))
      (pss_one (ps_ret (pv 10)))))))))), ?_⟩
    -- the words
    refine ⟨⟨_, rfl⟩, _, _, rfl, rfl, by decide +kernel, by decide +kernel, fun wl fwl => ?_⟩
    rw [words_S]
    have s1 := same_new (o := .lst ((NM.words.map S).map V.str)) fwl
    have hwl := upd_same (H := H) (a := wl) (o := .lst ((NM.words.map S).map V.str))
    have pen1 := pen.same s1
    have off1 : Off p wl (upd H wl (.lst ((NM.words.map S).map V.str))) := (Off.of pen fwl).kp (Kp.same s1)
    generalize upd H wl (.lst ((NM.words.map S).map V.str)) = H1 at s1 hwl pen1 off1 ⊢
    -- the size
    refine ⟨_, rfl, p, c + 39, _, rfl, pen1, by decide, by decide, fun z0 H2 a2 b2 pen2 k2 => ?_⟩
    refine ⟨_, _, rfl, rfl, ?_⟩
    obtain ⟨sz, hsz⟩ := Int.eq_ofNat_of_zero_le (show 0 ≤ 1 + z0 by omega)
    have sz1 : 1 ≤ sz := by omega
    have sz8 : sz ≤ 8 := by omega
    have hwl2 := k2.1 _ _ hwl off1.ne
    have off2 := off1.kp k2
    -- the base
    refine ⟨fun σ' H' => ∃ bs : List Nat, σ' = [some (.ref p), some (.int n), some (.str (Str.ofString "abcdefghijklmnopqrstuvwxyz")), some (.ref wl), some (.int (sz : Int)), none, some (.str (S bs)), none, none, none, none, none] ∧ bs.length = sz ∧ (∀ c ∈ bs, 97 ≤ c ∧ c ≤ 122) ∧
      Pen H' p (c + 30) ∧ Kp p H H' ∧ H' wl = some (.lst ((NM.words.map S).map V.str)) ∧ Off p wl H', ?_, ?_⟩
    · refine ⟨⟨_, rfl⟩, _, rfl, _, rfl, by omega, by omega, ?_⟩
      rw [hsz, Int.toNat_natCast]
      intro D hD
      have offD := Off.of pen2 hD
      have sD := same_new (o := .lst []) hD
      refine lc_range (n := sz) (fun i H3 => ∃ bs : List Nat, bs.length = i ∧ (∀ c ∈ bs, 97 ≤ c ∧ c ≤ 122) ∧ H3 D = some (.lst (bs.map fun c => V.str (S [c]))) ∧ Pen H3 p (c + 39 - i) ∧ Kp p H2 H3 ∧ Off p D H3) ?_ ?_ ?_
      · exact ⟨[], rfl, by simp, upd_same, pen2.same sD, Kp.same sD, offD.kp (Kp.same sD)⟩
      · rintro i H3 hi ⟨bs, hbl, hbc, hd, pen3, k3, off3⟩
        refine ⟨rfl, ?_⟩
        refine ⟨_, rfl, _, rfl, p, c + 39 - (i + 1), _, rfl, pen3.weak (by omega), by decide, by decide, fun r H4 r0 r1 pen4 k4 => ?_⟩
        obtain ⟨rn, rfl⟩ := Int.eq_ofNat_of_zero_le r0
        have hd4 := k4.1 _ _ hd off3.ne
        have off4 := off3.kp k4
        refine ⟨_, _, 97 + rn, rfl, rfl, by decide +kernel, at_lets rfl (by omega), _, hd4, ?_, bs ++ [97 + rn], by simp [hbl], ?_, ?_, pen4.put off4, (k3.trans k4).new hD, ?_⟩
        · rw [List.length_map, hbl]
          exact Nat.lt_of_lt_of_le (by omega : i < 64) (by decide)
        · intro c' hc'
          rcases List.mem_append.mp hc' with hc' | hc'
          · exact hbc c' hc'
          · rw [List.mem_singleton] at hc'
            omega
        · rw [upd_same]
          simp [S]
        · exact off4.put (by obtain ⟨_, _, _, _, _, z⟩ := off4; exact z)
      · rintro H3 ⟨bs, hbl, hbc, hd, pen3, k3, off3⟩
        have ey : (bs.map fun c => V.str (S [c])) = (bs.map fun c => S [c]).map V.str := by rw [List.map_map]; rfl
        refine ⟨_, D, bs.map fun c => S [c], rfl, rfl, .inl (by rw [← ey]; exact SqL.of hd), ?_, bs, ?_, hbl, hbc, pen3.weak (by omega), ((Kp.same s1).trans k2).trans k3, k3.1 _ _ hwl2 off2.ne, off2.kp k3⟩
        · have e1 : ((bs.map fun c => S [c]).map (·.length)).sum = bs.length := by
            exact ones bs
          rw [e1, List.length_map]
          have e2 : (Str.ofString "").length = 0 := by decide +kernel
          rw [e2, hbl]
          omega
        · have e3 : Txt.join (Str.ofString "") (bs.map fun c => S [c]) = S bs := by
            have e4 : Str.ofString "" = S [] := by decide +kernel
            have e5 : (bs.map fun c => S [c]) = (bs.map fun c => [c]).map S := by rw [List.map_map]; rfl
            rw [e4, e5, SX.join_S]
            rw [joined]
          rw [e3]
          rw [← hsz]
          rfl
    clear pen pen1 pen2 k2 hwl hwl2 off1 off2 s1
    rintro σ' H3 ⟨bs, rfl, hbl, hbc, pen3, k3, hwl3, offw3⟩
    refine ⟨_, rfl, _, rfl, p, c + 29, _, rfl, pen3, by omega, by omega, fun at_ H4 a4 b4 pen4 k4 => ?_⟩
    refine ⟨_, rfl, p, c + 28, _, rfl, pen4, by decide, by decide, fun spot H5 a5 b5 pen5 k5 => ?_⟩
    refine ⟨_, rfl, p, c + 27, _, rfl, pen5, by decide, by decide, fun way0 H6 a6 b6 pen6 k6 => ?_⟩
    refine ⟨_, _, rfl, rfl, (by decide : (0 : Int) < 4), _, _, _, rfl, ?_⟩
    obtain ⟨at_, rfl⟩ := Int.eq_ofNat_of_zero_le a4
    obtain ⟨spot, rfl⟩ := Int.eq_ofNat_of_zero_le a5
    obtain ⟨way, hway⟩ := Int.eq_ofNat_of_zero_le (show 0 ≤ way0 % 4 by omega)
    have hat : at_ < bs.length := by omega
    have k36 := (k4.trans k5).trans k6
    have k06 := k3.trans k36
    have hwl6 := k36.1 _ _ hwl3 offw3.ne
    have offw6 := offw3.kp k36
    clear k4 k5 k6 pen4 pen5
    refine ⟨by show 0 ≤ sizeLine; decide, fun o fo => ?_⟩
    have so := same_new (o := .lst []) fo
    refine ⟨_, rfl, _, rfl, by omega, by omega, ?_⟩
    rw [Int.toNat_natCast]
    refine for_range (n := n) (fun i σ H7 => ∃ (zs : List (List Nat)) (v5 v11 : Option V), σ = [some (.ref p), some (.int n), some (.str (Str.ofString "abcdefghijklmnopqrstuvwxyz")), some (.ref wl), some (.int (sz : Int)), v5, some (.str (S bs)), some (.int (at_ : Int)), some (.int (spot : Int)), some (.int (way0 % 4)), some (.ref o), v11] ∧
        H7 o = some (.lst (zs.map fun l => V.str (S l))) ∧ zs.Perm ((List.range i).map (NM.word bs at_ spot way)) ∧ Pen H7 p (c + 27 - i) ∧ Kp p H6 H7 ∧ Off p o H7)
      ⟨[], none, none, rfl, upd_same, List.Perm.refl _, pen6.same so, Kp.same so, (Off.of pen6 fo).kp (Kp.same so)⟩ ?_ ?_
    · rintro i σ H7 hi ⟨zs, v5, v11, rfl, ho7, perm7, pen7, k7, off7⟩
      have hwl7 := k7.1 _ _ hwl6 offw6.ne
      have zl : zs.length = i := by rw [perm7.length_eq, List.length_map, List.length_range]
      have len0 : (S bs).length ≤ sizeLine := by rw [SX.S_len]; exact Nat.le_trans (by omega : bs.length ≤ 8) (by decide)
      have lets_len : (Str.ofString "abcdefghijklmnopqrstuvwxyz").length ≤ sizeLine := by decide +kernel
      have e5 : ((spot : Int) + 5 * (0 + (i : Int))) % 26 = (((spot + 5 * i) % 26 : Nat) : Int) := by omega
      -- the word
      refine ⟨_, rfl, _, rfl, _, rfl, _, rfl, len0, ?_⟩
      rw [cut_t rfl (by omega)]
      refine ⟨_, rfl, _, rfl, _, rfl, _, _, rfl, rfl, cb_l (by decide) (by decide), _, _, rfl, rfl, _, _, rfl, rfl, (by decide : (0 : Int) < 26), _, _, _, rfl, rfl, lets_len, at_lets e5 (Nat.mod_lt _ (by decide)), _, _, rfl, rfl, ?_, ?_⟩
      · rw [SX.S_len, List.length_take]
        exact Nat.le_trans (by show min at_ bs.length + 1 ≤ 64; omega) (by decide)
      refine ⟨_, rfl, _, rfl, _, _, rfl, rfl, _, rfl, _, rfl, len0, ?_⟩
      rw [cut_d (j := at_ + 1) (by omega) (by omega)]
      have ec : S (bs.take at_) ++ (⟨#[97 + (spot + 5 * i) % 26]⟩ : Str) = S (bs.take at_ ++ [97 + (spot + 5 * i) % 26]) := SX.S_cat _ _
      rw [ec]
      refine ⟨_, _, rfl, rfl, ?_, ?_⟩
      · rw [SX.S_len, SX.S_len, List.length_append, List.length_take, List.length_drop]
        exact Nat.le_trans (by show min at_ bs.length + 1 + (bs.length - (at_ + 1)) ≤ 64; omega) (by decide)
      rw [SX.S_cat]
      have ew0 : bs.take at_ ++ [97 + (spot + 5 * i) % 26] ++ bs.drop (at_ + 1) = NM.w0 bs at_ spot i := rfl
      rw [ew0]
      -- cut short
      refine ⟨fun σ' H' => H' = H7 ∧ σ' = [some (.ref p), some (.int n), some (.str (Str.ofString "abcdefghijklmnopqrstuvwxyz")), some (.ref wl), some (.int (sz : Int)), some (.int (0 + i)), some (.str (S bs)), some (.int (at_ : Int)), some (.int (spot : Int)), some (.int (way0 % 4)), some (.ref o), some (.str (S (if way = 1 then NM.w1 bs at_ spot i else NM.w0 bs at_ spot i)))], ?_, ?_⟩
      · refine ⟨_, rfl, rfl, _, rfl, ?_⟩
        refine ite2 (fun c1 => ?_) (fun c1 => ?_)
        · have e1 : way = 1 := by have := V.int.inj (of_decide_eq_true c1); omega
          refine ⟨_, rfl, _, rfl, _, rfl, _, rfl, _, rfl, _, _, rfl, rfl, _, _, rfl, rfl, (by omega : (0 : Int) < (sz : Int) - (at_ : Int)), _, _, rfl, rfl, _, rfl, _, rfl, by rw [SX.S_len, NM.w0_len hat]; exact Nat.le_trans (by omega : bs.length ≤ 8) (by decide), ?_⟩
          have em : (sz : Int) - (0 + (i : Int)) % ((sz : Int) - (at_ : Int)) = ((bs.length - i % (bs.length - at_) : Nat) : Int) := by
            have h1 : ((sz : Int) - (at_ : Int)) = ((bs.length - at_ : Nat) : Int) := by omega
            rw [h1, Int.zero_add, ← Int.natCast_emod]
            have := Nat.mod_lt i (show 0 < bs.length - at_ by omega)
            omega
          rw [cut_t em (by rw [NM.w0_len hat]; omega)]
          rw [if_pos e1]
          exact ⟨rfl, rfl⟩
        · have e1 : ¬ way = 1 := fun z => c1 (decide_eq_true (by rw [hway, z]; rfl))
          rw [if_neg e1]
          exact ⟨rfl, rfl⟩
      rintro σ' H' ⟨rfl, rfl⟩
      -- one sign again and again
      refine ⟨fun σ' H'' => H'' = H' ∧ σ' = [some (.ref p), some (.int n), some (.str (Str.ofString "abcdefghijklmnopqrstuvwxyz")), some (.ref wl), some (.int (sz : Int)), some (.int (0 + i)), some (.str (S bs)), some (.int (at_ : Int)), some (.int (spot : Int)), some (.int (way0 % 4)), some (.ref o), some (.str (S (if way = 1 then NM.w1 bs at_ spot i else if way = 2 then NM.w2 spot i else NM.w0 bs at_ spot i)))], ?_, ?_⟩
      · refine ⟨_, rfl, rfl, _, rfl, ?_⟩
        refine ite2 (fun c1 => ?_) (fun c1 => ?_)
        · have e1 : way = 2 := by have := V.int.inj (of_decide_eq_true c1); omega
          have e6 : ((spot : Int) + (0 + (i : Int)) / 8) % 26 = (((spot + i / 8) % 26 : Nat) : Int) := by omega
          refine ⟨_, rfl, _, rfl, _, rfl, _, _, rfl, rfl, ⟨by decide, by decide⟩, _, _, rfl, rfl, _, _, rfl, rfl, (by decide : (0 : Int) < 26), _, _, _, rfl, rfl, lets_len, at_lets e6 (Nat.mod_lt _ (by decide)), _, rfl, rfl, ?_⟩
          refine ⟨_, rfl, _, _, rfl, rfl, (by decide : (0 : Int) < 8), _, _, rfl, rfl, _, rfl, _, rfl, by rw [SX.S_len, List.length_replicate]; decide, ?_⟩
          rw [cut_t (j := i % 8 + 1) (by omega) (by rw [List.length_replicate]; omega)]
          subst e1
          exact ⟨rfl, rfl⟩
        · have e1 : ¬ way = 2 := fun z => c1 (decide_eq_true (by rw [hway, z]; rfl))
          rw [if_neg e1]
          exact ⟨rfl, rfl⟩
      rintro σ' H'' ⟨rfl, rfl⟩
      -- a word of the list
      refine ⟨fun σ' H' => H' = H'' ∧ σ' = [some (.ref p), some (.int n), some (.str (Str.ofString "abcdefghijklmnopqrstuvwxyz")), some (.ref wl), some (.int (sz : Int)), some (.int (0 + i)), some (.str (S bs)), some (.int (at_ : Int)), some (.int (spot : Int)), some (.int (way0 % 4)), some (.ref o), some (.str (S (NM.word bs at_ spot way i)))], ?_, ?_⟩
      · refine ⟨_, rfl, rfl, _, rfl, ?_⟩
        refine ite2 (fun c1 => ?_) (fun c1 => ?_)
        · have e1 : way = 3 := by have := V.int.inj (of_decide_eq_true c1); omega
          have e7 : ((spot : Int) + (0 + (i : Int))) % 16 = (((spot + i) % 16 : Nat) : Int) := by omega
          have hw16 : (spot + i) % 16 < NM.words.length := Nat.mod_lt _ (by decide)
          refine ⟨_, rfl, _, rfl, _, rfl, _, _, rfl, rfl, _, _, rfl, rfl, (by decide : (0 : Int) < 16), wl, _, _, .str (S (NM.w3 spot i)), rfl, rfl, SqL.of hwl7, ?_, ?_⟩
          · rw [e7]
            refine atI_nat ?_
            rw [List.getElem?_map, List.getElem?_map, List.getElem?_eq_getElem hw16]
            unfold NM.w3
            rw [List.getD_eq_getElem?_getD, List.getElem?_eq_getElem hw16]
            rfl
          · subst e1
            exact ⟨rfl, rfl⟩
        · have e1 : ¬ way = 3 := fun z => c1 (decide_eq_true (by rw [hway, z]; rfl))
          refine ⟨rfl, ?_⟩
          unfold NM.word
          rw [if_neg e1]
      rintro σ' H' ⟨rfl, rfl⟩
      -- put in
      refine ⟨_, rfl, Or.inl ⟨rfl, _, SqL.of ho7⟩, _, rfl, _, rfl, o, _, rfl, .inl (SqL.of ho7), _, _, rfl, rfl, p, c + 27 - (i + 1), _, rfl, pen7.weak (by omega), by omega, by rw [List.length_map]; omega, fun r H8 r0 r1 pen8 k8 => ?_⟩
      have off8 := off7.kp k8
      have ho8 := k8.1 _ _ ho7 off7.ne
      refine ⟨_, rfl, o, _, _, _, rfl, rfl, ho8, ?_, r0, by rw [List.length_map] at r1; omega, ?_⟩
      · rw [List.length_map, zl]
        exact Nat.lt_of_lt_of_le (by omega : i < 64) (by decide)
      · refine ⟨zs.take r.toNat ++ [NM.word bs at_ spot way i] ++ zs.drop r.toNat, _, _, rfl, ?_, ?_, pen8.put off8, (k7.trans k8).new fo, ?_⟩
        · rw [upd_same]
          simp [List.map_append, List.map_take, List.map_drop]
        · have hp1 : (zs.take r.toNat ++ [NM.word bs at_ spot way i] ++ zs.drop r.toNat).Perm (NM.word bs at_ spot way i :: zs) := by
            rw [List.append_assoc]
            have := List.perm_middle (a := NM.word bs at_ spot way i) (l₁ := zs.take r.toNat) (l₂ := zs.drop r.toNat)
            rw [List.take_append_drop] at this
            exact this
          refine hp1.trans ?_
          rw [List.range_succ, List.map_append]
          exact (List.Perm.cons _ perm7).trans (List.perm_append_singleton _ _).symm
        · exact off8.put (by obtain ⟨_, _, _, _, _, z⟩ := off8; exact z)
    · rintro σ H7 ⟨zs, v5, v11, rfl, ho7, perm7, pen7, k7, off7⟩
      refine ⟨_, rfl, hQ o zs H7 (pen7.weak (by omega)) (k06.trans k7) ?_ off7 ho7 (by rw [perm7.length_eq, List.length_map, List.length_range]) (fun z hz => ?_) ?_⟩
      · cases q : H o with
        | none => rfl
        | some u =>
          have z := k06.1 _ _ q (Off.of pen6 fo).ne
          rw [fo] at z
          cases z
      · obtain ⟨k, _, rfl⟩ := List.mem_map.mp (perm7.subset hz)
        exact NM.word_ok (by omega) (by omega) hbc hat way
      · exact (perm7.symm.pairwise_iff (fun h => Ne.symm h)).mp (NM.all_unlike hat way n hn)
end
end K09
set_option Elab.async false
set_option linter.all false
set_option maxRecDepth 100000
set_option maxHeartbeats 4000000
namespace K09
open PySem PySem.Spec PyProof.Rows L2
open C8 (Cal Mak Met pe_c pe_mk pe_mt pe_mt0)
open THI
open SX (S)
theorem fold_mem {a : Array Nat} : ∀ (n : Nat) (b : Array Nat) (c : Nat), c ∈ ((List.replicate n a).foldl (· ++ ·) b).toList → c ∈ b.toList ∨ c ∈ a.toList
  | 0, b, c, h => .inl h
  | n + 1, b, c, h => by
    rw [List.replicate_succ, List.foldl_cons] at h
    rcases fold_mem n (b ++ a) c h with h | h
    · rw [Array.toList_append, List.mem_append] at h
      exact h
    · exact .inr h
/-- a text nine times -/
theorem op_nine {X : Cx} : OpR X (binaryOp .Mult) (fun x y H Q => ∃ z : Str, x = .str z ∧ y = .int 9 ∧ 1 ≤ z.length ∧ z.length ≤ 100 ∧ ∀ s : Str, s.length = 9 * z.length → (∀ c ∈ s.cps.toList, c ∈ z.cps.toList) → Q (.str s) H) := by
  intro pins s σ H x y v u Q I rx ry h
  obtain ⟨z, rfl, rfl, l1, l2, q⟩ := h
  obtain ⟨t, rfl⟩ := rx
  obtain ⟨t', rfl⟩ := ry
  have h2 : ¬ ((9 : Int) < 1) := by decide
  have h3 : ¬ (((9 : Int) == 1 || z.length == 0) = true) := by simp; omega
  have el : (⟨(List.replicate (9 : Int).toNat z.cps).foldl (· ++ ·) #[]⟩ : Str).length = 9 * z.length := by
    simp [Str.length, List.replicate]
    omega
  refine PySem.P.mul_str (by decide) (fun _ _ => ?_) (fun _ _ => ?_) ?_
  · have : ((2 : Int) ^ 63 - 1) / 9 = 1024819115206086200 := by decide
    rw [this]
    omega
  · show decide (z.length * 9 > sizeLine) = false
    exact decide_eq_false (by have : (2000 : Nat) ≤ sizeLine := by decide
                              omega)
  · rw [if_neg h2, if_neg h3]
    refine ⟨?_, ⟨.str _, H, I.tok _, ⟨_, rfl⟩, q _ el fun c hc => ?_⟩⟩
    · show (⟨(List.replicate (9 : Int).toNat z.cps).foldl (· ++ ·) #[]⟩ : Str).length ≤ sizeLine
      rw [el]
      exact Nat.le_trans (by omega : _ ≤ 2000) (by decide)
    · rcases fold_mem _ _ _ hc with h | h
      · exact absurd h (by simp)
      · exact h
def sgn : Str := (" !\"#$&'()*+,-./0123456789:;<=>?@ABCDEFGHIJKLMNOPQRSTUVWXYZ" : Str) ++ ("[\\]^_`abcdefghijklmnopqrstuvwxyz{|}~\n" : Str)
theorem sgn_len : sgn.length = 95 := by decide +kernel
theorem sgn_low : ∀ c ∈ sgn.cps.toList, c < 128 := by decide +kernel
theorem sign_at {z : Str} {r : Int} (h0 : 0 ≤ r) (h1 : r < z.length) : ∃ c, atI z.cps.toList r = some c ∧ c ∈ z.cps.toList := by
  obtain ⟨n, rfl⟩ := Int.eq_ofNat_of_zero_le h0
  have : n < z.cps.toList.length := by rw [← TL.len_tl z]; omega
  exact ⟨_, atI_nat (List.getElem?_eq_getElem this), List.getElem_mem _⟩
section
variable {P : Program} {w : World} {K : PySem.W.Frag} {mg : Str → Option Value} {base : Heap} {f C : Addr} {fd : FuncData}
def spSg : Sp := fun vs H Q _ => vs = [] ∧ Q (.str sgn) H
theorem ok_sg (F : Dn K d_l_signs f fd) : FnOk P w K mg base CX0 1 f fd [] spSg := by
  refine F.ok sc_l_signs (fun vs H Q E h => ?_) (fun cdv A outer s H vs Q E hr h => ?_)
  · obtain ⟨rfl, _⟩ := h
    rfl
  · obtain ⟨rfl, hQ⟩ := h
    exact ⟨_, PSs.nox (pss_cons (ps_set (i := 0) sc_l_signs.nd rfl (.inl rfl) pe_str) (pss_one (ps_ret (pe_op op_add_str (pv 0) pe_str)))), _, rfl, _, _, rfl, rfl, by decide +kernel, hQ⟩
end
end K09
set_option Elab.async false
set_option linter.all false
set_option maxRecDepth 100000
set_option maxHeartbeats 4000000
namespace K09
open PySem PySem.Spec PyProof.Rows L2
open C8 (Cal Mak Met pe_c pe_mk pe_mt pe_mt0)
open THI
open SX (S)
theorem ThgAll.get {H : Hp} : ∀ {xs : List V} {ks : List (Kn × Str)}, ThgAll H xs ks → ∀ (i : Nat) (x : V), xs[i]? = some x → ∃ q, ks[i]? = some q ∧ Thg H x q.1 q.2 4
  | _, _, .nil, _, _, h => by simp at h
  | _, _, .cons r h, 0, _, e => by
    simp at e
    subst e
    exact ⟨_, rfl, r⟩
  | _, _, .cons r h, i + 1, x, e => by
    obtain ⟨t, e1, e2⟩ := h.get i x (by simpa using e)
    exact ⟨t, by simpa using e1, e2⟩
theorem ThgAll.len {H : Hp} : ∀ {xs : List V} {ks : List (Kn × Str)}, ThgAll H xs ks → xs.length = ks.length
  | _, _, .nil => rfl
  | _, _, .cons _ h => by rw [List.length_cons, List.length_cons, h.len]
/-- a text that is asked for a name can be laid -/
def Low (k : Kn) : Prop := ∀ s, k = .text s → s.length ≤ 1000 ∧ ∀ c ∈ s.cps.toList, c < 128
/-- a drawn thing -/
def ThX (H : Hp) (x : V) : Prop := ∃ k t, Thg H x k t 4 ∧ Low k
theorem ThX.same {H H' : Hp} {x : V} (h : ThX H x) (s : Same H H') : ThX H' x := by
  obtain ⟨k, t, th, e⟩ := h
  exact ⟨k, t, th.same s, e⟩
theorem thgs_low : ∀ q ∈ thgs, Low q.1 := by
  unfold thgs
  simp only [List.mem_cons, List.not_mem_nil, or_false]
  rintro q (rfl | rfl | rfl | rfl | rfl | rfl | rfl | rfl | rfl | rfl | rfl | rfl | rfl | rfl | rfl | rfl | rfl | rfl | rfl | rfl | rfl | rfl | rfl | rfl | rfl | rfl | rfl | rfl | rfl | rfl | rfl) <;> intro s hs <;> first | cases hs; decide +kernel | exact nomatch hs
theorem ThgAll.at {H : Hp} {xs : List V} (h : ThgAll H xs thgs) {n : Nat} (hn : n < 31) : ∃ x, atI xs (n : Int) = some x ∧ ThX H x := by
  have l := h.len
  have l3 : thgs.length = 31 := rfl
  have e := List.getElem?_eq_getElem (show n < xs.length by omega)
  obtain ⟨q, eq, tq⟩ := h.get n _ e
  exact ⟨_, atI_nat e, q.1, q.2, tq, thgs_low q (List.mem_of_getElem? eq)⟩
theorem low_int : ∀ n : Fin 1000, (((n.val : Int) - 500).natAbs.log2 < 1920 ∧ ((toString ((n.val : Int) - 500) : String) : Str).length ≤ 100) := by decide +kernel
theorem thx_int {H : Hp} {i : Int} (h1 : -500 ≤ i) (h2 : i < 500) : ThX H (.int i) := by
  obtain ⟨n, hn⟩ := Int.eq_ofNat_of_zero_le (show 0 ≤ i + 500 by omega)
  have e : i = (n : Int) - 500 := by omega
  have := low_int ⟨n, by omega⟩
  subst e
  exact ⟨_, _, (Thg.int this.1 this.2).same (s0 H), fun s hs => nomatch hs⟩
theorem thx_bl {H : Hp} {b : Bool} : ThX H (.bl b) := ⟨_, _, (Thg.bl b).same (s0 H), fun s hs => nomatch hs⟩
theorem thx_str {H : Hp} {z : Str} (ok : PyData.strOk z = true) (l : (reprText z).length ≤ 100) (lo : z.length ≤ 1000 ∧ ∀ c ∈ z.cps.toList, c < 128) : ThX H (.str z) := ⟨_, _, (Thg.str z ok l).same (s0 H), fun s hs => by cases hs; exact lo⟩
theorem thx_big {H : Hp} : ThX H (.int (100000000000000000000000000000)) := ⟨_, _, (Thg.int (by decide +kernel) (by decide +kernel)).same (s0 H), fun s hs => nomatch hs⟩
end K09
set_option Elab.async false
set_option linter.all false
set_option maxRecDepth 100000
set_option maxHeartbeats 4000000
namespace K09
open PySem PySem.Spec PyProof.Rows L2
open C8 (Cal Mak Met pe_c pe_mk pe_mt pe_mt0)
open THI
open SX (S)
section
variable {P : Program} {w : World} {K : PySem.W.Frag} {mg : Str → Option Value} {base : Heap} {f C : Addr} {fd : FuncData}
def spNu : Sp := fun vs H Q _ => ∃ (p : Addr) (c : Nat) (m : Int) (q : Addr → Prop), vs = [.ref p, .int m] ∧ Pen H p (c + 5) ∧ q p ∧ (∀ b, q b → H b ≠ none) ∧ (m = 9 ∨ m = 127) ∧ ∀ x H', Pen H' p c → Kp p H H' → ThX (out q H') x → Q x H'
theorem ok_nu (F : Dn K d_l_number f fd) (b : Bl mg) (bs : mg "str" = none) (cD : CalD P w K mg base) (cT : Cal P w K mg base 1 "_law_things" spTh []) : FnOk P w K mg base CX0 2 f fd ["_law_pen_here", "_law_most"] spNu := by
  refine F.ok sc_l_number (fun vs H Q E h => ?_) (fun cdv A outer st0 H vs Q E hr h => ?_)
  · obtain ⟨p, c, m, q, rfl, _⟩ := h
    rfl
  · obtain ⟨p, c, m, qq, rfl, pen, qp, hq, hm, hQ⟩ := h
    obtain ⟨fT, fdT, psT, dsT, FT, hmT, kpT, bT, dT⟩ := cT.ex
    refine ⟨_, PSs.nox (pss_cons (ps_par (i := 2) (j := 3) (by rfl) sc_l_number.nd rfl rfl (by decide) rfl rfl (pa_cons (pe_call0 FT (hr.mono (by decide)) rfl hmT kpT bT dT pass0) (pa_cons (pe_op op_add (pe_op op_add (pv 1) pe_int) (pe_c cD hr (by decide) rfl (pa_cons (pv 0) (pa_cons pe_int pa_nil)))) pa_nil)) rfl)
      (pss_cons (ps_set (i := 4) sc_l_number.nd rfl (.inl rfl) (pe_lst (pa_cons (pe_c cD hr (by decide) rfl (pa_cons (pv 0) (pa_cons (pe_op op_add (pv 1) pe_int) pa_nil))) (pa_cons (pv 1) (pa_cons (pe_op op_add (pv 1) pe_int) (pa_cons (pe_un un_neg pe_int) (pa_cons (pv 3) (pa_cons (pe_op op_sub pe_int (pv 3)) (pa_cons pe_bl (pa_cons pe_bl
          (pa_cons (pe_callTy call_str_int rfl bs boot_str (pa_cons (pv 1) pa_nil)) (pa_cons (pe_op op_pow pe_int pe_int) pa_nil))))))))))))
      (pss_one (ps_ret (pe_ix ix_list (pe_op op_cat (pv 4) (pe_lst (pa_cons (pe_ix ix_list (pv 2) (pe_c cD hr (by decide) rfl (pa_cons (pv 0) (pa_cons (pe_callB call_len_seq rfl b.len boot_len (pa_cons (pv 2) pa_nil)) pa_nil))) (fun _ _ => rfl)) (pa_cons (pe_lst (pa_cons pe_int pa_nil)) pa_nil)))) (pe_c cD hr (by decide) rfl (pa_cons (pv 0) (pa_cons pe_int pa_nil))) (fun _ _ => rfl)))))), ?_⟩
    refine ⟨rfl, qq, hq, fun L H1 xs s1 fL hL th => ?_⟩
    have pen1 := pen.same s1
    have k1 : Kp p H H1 := Kp.same s1
    have offL := (Off.of pen fL).kp k1
    have x3 : xs.length = 31 := th.len
    refine ⟨_, rfl, _, _, rfl, rfl, _, rfl, p, c + 4, _, rfl, pen1.weak (by omega), by decide, by decide, fun rf H2 f0 f1 pen2 k2 => ?_⟩
    have hL2 := k2.1 _ _ hL offL.ne
    have offL2 := offL.kp k2
    refine ⟨_, _, rfl, rfl, ?_⟩
    refine ⟨_, _, rfl, ?_⟩
    refine ⟨_, rfl, _, rfl, _, _, rfl, rfl, p, c + 3, _, rfl, pen2.weak (by omega), by omega, by omega, fun ra H3 a0 a1 pen3 k3 => ?_⟩
    have hL3 := k3.1 _ _ hL2 offL2.ne
    have offL3 := offL2.kp k3
    refine ⟨_, rfl, _, rfl, _, _, rfl, rfl, 1, rfl, _, rfl, _, rfl, _, _, rfl, rfl, ?_⟩
    refine ⟨_, rfl, m, rfl, ?_, ?_⟩
    · rcases hm with rfl | rfl <;> decide +kernel
    refine ⟨10, 29, rfl, rfl, ⟨by decide, by decide, by decide⟩, ?_⟩
    generalize hw : ([V.int ra, V.int m, V.int (m + 1), V.int (-1), V.int (m + 1 + rf), V.int (0 - (m + 1 + rf)), V.bl true, V.bl false, V.str (toString m : String), V.int (10 ^ (29 : Int).toNat)] : List V) = ws
    have xall : ∀ (G : Hp), ∀ v ∈ ws, ThX G v := fun G v hv => by
      rw [← hw] at hv
      simp only [List.mem_cons, List.not_mem_nil, or_false] at hv
      rcases hv with rfl | rfl | rfl | rfl | rfl | rfl | rfl | rfl | rfl | rfl
      · exact thx_int (by omega) (by omega)
      · exact thx_int (by omega) (by omega)
      · exact thx_int (by omega) (by omega)
      · exact thx_int (by omega) (by omega)
      · exact thx_int (by omega) (by omega)
      · exact thx_int (by omega) (by omega)
      · exact thx_bl
      · exact thx_bl
      · rcases hm with rfl | rfl
        · exact thx_str (by decide +kernel) (by decide +kernel) (by decide +kernel)
        · exact thx_str (by decide +kernel) (by decide +kernel) (by decide +kernel)
      · exact thx_big
    have lw : ws.length = 10 := by rw [← hw]; rfl
    refine ⟨by show 10 ≤ sizeLine; decide, fun M fM => ?_⟩
    rw [hw]
    have sM := same_new (o := .lst ws) fM
    have hM : (upd H3 M (.lst ws)) M = some (.lst ws) := upd_same
    have pen4 := pen3.same sM
    have offM := (Off.of pen3 fM).kp (Kp.same sM)
    have k4 := ((k1.trans k2).trans k3).trans (Kp.same (p := p) sM)
    have hL4 := sM _ _ hL3
    have offL4 := offL3.kp (Kp.same sM)
    have k14 := (k2.trans k3).trans (Kp.same (p := p) sM)
    generalize upd H3 M (.lst ws) = H4 at hM pen4 offM k4 hL4 offL4 k14 ⊢
    refine ⟨_, rfl, _, rfl, _, rfl, _, rfl, L, _, rfl, .inl (SqL.of hL4), p, c + 1, _, rfl, pen4.weak (by omega), by omega, by omega, fun rt H5 t0 t1 pen5 k5 => ?_⟩
    have hL5 := k5.1 _ _ hL4 offL4.ne
    have hM5 := k5.1 _ _ hM offM.ne
    have offM5 := offM.kp k5
    obtain ⟨n, rfl⟩ := Int.eq_ofNat_of_zero_le t0
    obtain ⟨x, hx, tx⟩ := th.at (n := n) (by omega)
    refine ⟨L, _, _, x, rfl, rfl, SqL.of hL5, hx, ?_⟩
    refine ⟨by show 1 ≤ sizeLine; decide, fun Z fZ => ?_⟩
    have sZ := same_new (o := .lst [.int 0]) fZ
    have hZ : (upd H5 Z (.lst [.int 0])) Z = some (.lst [.int 0]) := upd_same
    have k6 := (k4.trans k5).trans (Kp.same (p := p) sZ)
    have k16 := (k14.trans k5).trans (Kp.same (p := p) sZ)
    have pen6 := pen5.same sZ
    have hM6 := sZ _ _ hM5
    have hq5 : ∀ b, qq b → H5 b ≠ none := fun b hb => by
      obtain ⟨l, ns, n', m', e1, _⟩ := pen
      by_cases hp : b = p
      · subst hp
        obtain ⟨l', _, n'', m'', e2, _⟩ := pen5
        rw [e2]
        exact fun z => nomatch z
      · cases e : H b with
        | none => exact absurd e (hq b hb)
        | some o =>
          rw [(k4.trans k5).1 b o e hp]
          exact fun z => nomatch z
    have nt : ¬ qq Z := out_ne fZ hq5
    have tZ : ThX (out qq (upd H5 Z (.lst [.int 0]))) (.ref Z) := by
      have so_ := out_same (q := qq) sZ
      have i5 : DtAll (out qq H5) [.int 0] [.int 0] [(toString (0 : Int) : String)] 0 := (DtAll.cons (((Dt.int (by decide +kernel)) : Dt N0 (.int 0) (.int 0) _ 0).same (s0 _)) DtAll.nil)
      have d5 : Dt (out qq (upd H5 Z (.lst [.int 0]))) (.ref Z) (.list [.int 0]) (listText [(toString (0 : Int) : String)]) 1 := Dt.list (out_at hZ nt) (List.cons_ne_nil _ _) i5 so_ (out_none fZ)
      exact ⟨_, _, Thg.mono (Thg.lst (out_at hZ nt) d5 (by decide +kernel) (by decide +kernel)) (by decide), fun s hs => nomatch hs⟩
    have offM6 := offM5.kp (Kp.same sZ)
    generalize upd H5 Z (.lst [.int 0]) = H6 at hZ k6 k16 pen6 hM6 tZ offM6 ⊢
    refine ⟨by show 2 ≤ sizeLine; decide, fun B fB => ?_⟩
    have sB := same_new (o := .lst [x, .ref Z]) fB
    have hB : (upd H6 B (.lst [x, .ref Z])) B = some (.lst [x, .ref Z]) := upd_same
    have k7 := k6.trans (Kp.same (p := p) sB)
    have k17 := k16.trans (Kp.same (p := p) sB)
    have pen7 := pen6.same sB
    have hM7 := sB _ _ hM6
    have tZ := tZ.same (out_same (q := qq) sB)
    generalize upd H6 B (.lst [x, .ref Z]) = H7 at hB k7 k17 pen7 hM7 tZ ⊢
    refine ⟨M, B, _, _, rfl, rfl, hM7, hB, ?_, fun O fO => ?_⟩
    · exact Nat.le_trans (by simp; omega : _ ≤ 64) (by decide)
    have sO := same_new (o := .lst (ws ++ [x, .ref Z])) fO
    have hO : (upd H7 O (.lst (ws ++ [x, .ref Z]))) O = some (.lst (ws ++ [x, .ref Z])) := upd_same
    have k8 := k7.trans (Kp.same (p := p) sO)
    have k18 := k17.trans (Kp.same (p := p) sO)
    have pen8 := pen7.same sO
    have offO := (Off.of pen7 fO).kp (Kp.same sO)
    have tZ := tZ.same (out_same (q := qq) sO)
    generalize upd H7 O (.lst (ws ++ [x, .ref Z])) = H8 at hO k8 k18 pen8 offO tZ ⊢
    refine ⟨_, rfl, p, c, _, rfl, pen8.weak (by omega), by decide, by decide, fun r H9 r0 r1 pen9 k9 => ?_⟩
    obtain ⟨j, rfl⟩ := Int.eq_ofNat_of_zero_le r0
    have jl : j < (ws ++ [x, .ref Z]).length := by simp; omega
    refine ⟨O, _, _, (ws ++ [x, .ref Z])[j], rfl, rfl, SqL.of (k9.1 _ _ hO offO.ne), atI_nat (List.getElem?_eq_getElem jl), ?_⟩
    refine hQ _ _ pen9 (k8.trans k9) ?_
    have nq : ∀ {G G' : Hp}, Kp p G G' → Same (out qq G) (out qq G') := fun k => out_kp fun b o e n => k.1 b o e fun z => n (z ▸ qp)
    rcases List.mem_append.mp (List.getElem_mem jl) with h | h
    · exact xall _ _ h
    · simp only [List.mem_cons, List.not_mem_nil, or_false] at h
      rcases h with h | h
      · rw [h]
        exact tx.same (nq (k18.trans k9))
      · rw [h]
        exact tZ.same (nq k9)
end
end K09
set_option Elab.async false
set_option linter.all false
set_option maxRecDepth 100000
set_option maxHeartbeats 4000000
namespace K09
open PySem PySem.Spec PyProof.Rows L2
open C8 (Cal Mak Met pe_c pe_mk pe_mt pe_mt0)
open THI
open SX (S)
theorem cut_mem {z : Str} {lo hi : Option Int} {c : Nat} (h : c ∈ (cutS z lo hi).cps.toList) : c ∈ z.cps.toList := by
  unfold cutS at h
  exact List.mem_of_mem_drop (List.mem_of_mem_take (by simpa using h))
theorem cut_dl {l : List Nat} {x : Int} {j : Nat} (e : x = (j : Int)) : (cutS (S l) (some x) none).length ≤ l.length - j := by
  rw [e]
  unfold cutS
  rw [HT.sIx_nat, HT.sIx_none, SX.S_len]
  show (List.toArray _).size ≤ _
  rw [List.size_toArray, List.length_take, List.length_drop]
  have : (S l).cps.toList.length = l.length := rfl
  omega
theorem cut_9 {z : Str} : (cutS z none (some 9)).length ≤ 9 := by
  unfold cutS
  rw [show (9 : Int) = ((9 : Nat) : Int) from rfl, HT.sIx_nat, HT.sIx_none]
  show (List.toArray _).size ≤ _
  rw [List.size_toArray, List.length_take, List.length_drop]
  omega
theorem app_mem {u v : Str} {c : Nat} (h : c ∈ (u ++ v).cps.toList) : c ∈ u.cps.toList ∨ c ∈ v.cps.toList := by
  have e : (u ++ v).cps.toList = u.cps.toList ++ v.cps.toList := by
    show (u.cps ++ v.cps).toList = _
    simp
  rw [e] at h
  exact List.mem_append.mp h
theorem thx_low {H : Hp} {z : Str} (l : z.length ≤ 9) (m : ∀ c ∈ z.cps.toList, c < 128) : ThX H (.str z) := by
  refine thx_str ?_ ?_ ⟨by omega, m⟩
  · unfold PyData.strOk
    rw [Array.all_eq_true']
    intro c hc
    have := m c (by simpa using hc)
    exact decide_eq_true (by omega)
  · have := PySem.StrLaws.reprText_len z fun c hc => Nat.lt_trans (m c hc) (by decide)
    omega
theorem keep_q {p : Addr} {c c' : Nat} {q : Addr → Prop} {H H' : Hp} (pen : Pen H p c) (pen' : Pen H' p c') (k : Kp p H H') (hq : ∀ b, q b → H b ≠ none) : ∀ b, q b → H' b ≠ none := fun b hb => by
  by_cases hp : b = p
  · subst hp
    obtain ⟨l', _, n'', m'', e2, _⟩ := pen'
    rw [e2]
    exact fun z => nomatch z
  · cases e : H b with
    | none => exact absurd e (hq b hb)
    | some o =>
      rw [k.1 b o e hp]
      exact fun z => nomatch z
section
variable {P : Program} {w : World} {K : PySem.W.Frag} {mg : Str → Option Value} {base : Heap} {f C : Addr} {fd : FuncData}
def spCd : Sp := fun vs H Q _ => ∃ (p : Addr) (c : Nat) (q : Addr → Prop), vs = [.ref p] ∧ Pen H p (c + 50) ∧ q p ∧ (∀ b, q b → H b ≠ none) ∧ ∀ x H', Pen H' p c → Kp p H H' → ThX (out q H') x → Q x H'
theorem ok_cd (F : Dn K d_l_called f fd) (b : Bl mg) (cD : CalD P w K mg base) (cN : Cal P w K mg base 2 "_law_names" spNames []) (cS : Cal P w K mg base 1 "_law_signs" spSg []) (cT : Cal P w K mg base 1 "_law_things" spTh []) : FnOk P w K mg base CX0 3 f fd ["_law_pen_here"] spCd := by
  refine F.ok sc_l_called (fun vs H Q E h => ?_) (fun cdv A outer st0 H vs Q E hr h => ?_)
  · obtain ⟨p, c, q, rfl, _⟩ := h
    rfl
  · obtain ⟨p, c, qq, rfl, pen, qp, hq, hQ⟩ := h
    obtain ⟨fT, fdT, psT, dsT, FT, hmT, kpT, bT, dT⟩ := cT.ex
    obtain ⟨fS, fdS, psS, dsS, FS, hmS, kpS, bS, dS⟩ := cS.ex
    refine ⟨_, PSs.nox (pss_cons (ps_set (i := 1) sc_l_called.nd rfl (.inl rfl) (pe_call0 FS (hr.mono (by decide)) rfl hmS kpS bS dS pass0))
      (pss_cons (ps_par (i := 2) (j := 3) (by rfl) sc_l_called.nd rfl rfl (by decide) rfl rfl (pa_cons (pe_ix ix_list (pe_c cN hr (by decide) rfl (pa_cons (pv 0) (pa_cons pe_int pa_nil))) pe_int (fun _ _ => rfl)) (pa_cons (pe_c cD hr (by decide) rfl (pa_cons (pv 0) (pa_cons pe_int pa_nil))) pa_nil)) rfl)
      (pss_cons (ps_par (i := 4) (j := 5) (by rfl) sc_l_called.nd rfl rfl (by decide) rfl rfl (pa_cons (pe_c cD hr (by decide) rfl (pa_cons (pv 0) (pa_cons (pe_op op_add (pe_callB call_len_str rfl b.len boot_len (pa_cons (pv 2) pa_nil)) pe_int) pa_nil))) (pa_cons (pe_ix ix_str (pv 1) (pe_c cD hr (by decide) rfl (pa_cons (pv 0) (pa_cons (pe_callB call_len_str rfl b.len boot_len (pa_cons (pv 1) pa_nil)) pa_nil))) (fun _ _ => rfl)) pa_nil)) rfl)
      (pss_cons (ps_set (i := 6) sc_l_called.nd rfl (.inl rfl) (pe_lst (pa_cons (pv 2)
        (pa_cons (pe_op op_add_str (pe_op op_add_str (pe_slice sl_str (pv 2) po_none (po_some (pv 4))) (pv 5)) (pe_slice sl_str (pv 2) (po_some (pv 4)) po_none))
        (pa_cons (pe_op op_add_str (pe_op op_add_str (pe_slice sl_str (pv 2) po_none (po_some (pv 4))) (pv 5)) (pe_slice sl_str (pv 2) (po_some (pe_op op_add (pv 4) pe_int)) po_none))
        (pa_cons (pe_slice sl_str (pe_op op_nine (pv 2) pe_int) po_none (po_some pe_int)) (pa_cons pe_str pa_nil)))))))
      (pss_cons (ps_set (i := 7) sc_l_called.nd rfl (.inl rfl) (pe_call0 FT (hr.mono (by decide)) rfl hmT kpT bT dT pass0))
      (pss_one (ps_ret (pe_ix ix_list (pe_op op_cat (pv 6) (pe_lst (pa_cons (pe_ix ix_list (pv 7) (pe_c cD hr (by decide) rfl (pa_cons (pv 0) (pa_cons (pe_callB call_len_seq rfl b.len boot_len (pa_cons (pv 7) pa_nil)) pa_nil))) (fun _ _ => rfl)) pa_nil))) (pv 3) (fun _ _ => rfl))))))))), ?_⟩
    refine ⟨rfl, ?_⟩
    refine ⟨_, rfl, p, c + 4, 1, rfl, pen.weak (by omega), by decide, fun o zs H1 pen1 k1 fo off1 ho1 lz ok _ => ?_⟩
    obtain ⟨l, rfl⟩ := List.length_eq_one_iff.mp lz
    obtain ⟨l1, l8, lc⟩ := ok l (List.mem_singleton.mpr rfl)
    have zl : (S l).length = l.length := SX.S_len l
    have z1 : (S l).length ≤ sizeLine := Nat.le_trans (by omega : _ ≤ 8) (by decide)
    refine ⟨o, _, 0, .str (S l), rfl, rfl, SqL.of ho1, rfl, ?_⟩
    refine ⟨_, rfl, p, c + 3, _, rfl, pen1.weak (by omega), by decide, by decide, fun wy H2 w0 w1 pen2 k2 => ?_⟩
    refine ⟨_, _, rfl, ?_⟩
    refine ⟨_, rfl, _, rfl, _, rfl, z1, _, _, rfl, rfl, p, c + 2, _, rfl, pen2.weak (by omega), by omega, by omega, fun a H3 a0 a1 pen3 k3 => ?_⟩
    refine ⟨_, rfl, _, rfl, _, rfl, _, rfl, by rw [sgn_len]; decide, p, c + 1, _, rfl, pen3.weak (by omega), by rw [sgn_len]; decide, by rw [sgn_len]; decide, fun r3 H4 r30 r31 pen4 k4 => ?_⟩
    obtain ⟨d, hd, md⟩ := sign_at r30 r31
    refine ⟨_, r3, d, rfl, rfl, by rw [sgn_len]; decide, hd, ?_⟩
    refine ⟨_, _, rfl, ?_⟩
    obtain ⟨j, rfl⟩ := Int.eq_ofNat_of_zero_le a0
    have jl : j ≤ l.length := by omega
    have one : (⟨#[d]⟩ : Str).length = 1 := rfl
    have sz : ∀ n : Nat, n ≤ 100 → n ≤ sizeLine := fun n h => Nat.le_trans h (by decide)
    have ap : ∀ u v : Str, (u ++ v).length = u.length + v.length := strLen_append
    have c1 : (cutS (S l) none (some (j : Int))).length = j := by
      rw [cut_t rfl jl, SX.S_len, List.length_take]
      omega
    have c2 : (cutS (S l) (some (j : Int)) none).length ≤ l.length - j := cut_dl rfl
    have c3 : (cutS (S l) (some ((j : Int) + 1)) none).length ≤ l.length - (j + 1) := cut_dl (by omega)
    have zm : ∀ c ∈ (S l).cps.toList, c < 128 := fun c hc => by
      have := lc c (by simpa using hc)
      omega
    have dm : ∀ c ∈ (⟨#[d]⟩ : Str).cps.toList, c < 128 := fun c hc => by
      have : c = d := by simpa using hc
      rw [this]
      exact sgn_low d md
    have lA : (cutS (S l) none (some (j : Int)) ++ (⟨#[d]⟩ : Str)).length = j + 1 := by rw [ap, c1, one]
    have mA : ∀ c ∈ (cutS (S l) none (some (j : Int)) ++ (⟨#[d]⟩ : Str)).cps.toList, c < 128 := fun c hc => (app_mem hc).elim (fun h => zm c (cut_mem h)) (dm c)
    refine ⟨_, rfl, ?_⟩
    refine ⟨_, rfl, _, rfl, _, rfl, S l, rfl, z1, ?_⟩
    refine ⟨_, rfl, _, _, rfl, rfl, sz _ (by rw [c1, one]; omega), ?_⟩
    refine ⟨_, rfl, _, rfl, _, rfl, S l, rfl, z1, ?_⟩
    refine ⟨_, _, rfl, rfl, sz _ (by rw [lA]; omega), ?_⟩
    refine ⟨_, rfl, _, rfl, _, rfl, S l, rfl, z1, ?_⟩
    refine ⟨_, rfl, _, _, rfl, rfl, sz _ (by rw [c1, one]; omega), ?_⟩
    refine ⟨_, rfl, _, rfl, _, _, rfl, rfl, _, rfl, S l, rfl, z1, ?_⟩
    refine ⟨_, _, rfl, rfl, sz _ (by rw [lA]; omega), ?_⟩
    refine ⟨_, rfl, S l, rfl, rfl, by omega, by omega, fun s9 l9 m9 => ?_⟩
    refine ⟨_, rfl, s9, rfl, sz _ (by omega), ?_⟩
    generalize hw : ([V.str (S l), V.str ((cutS (S l) none (some (j : Int)) ++ (⟨#[d]⟩ : Str)) ++ cutS (S l) (some (j : Int)) none), V.str ((cutS (S l) none (some (j : Int)) ++ (⟨#[d]⟩ : Str)) ++ cutS (S l) (some ((j : Int) + 1)) none), V.str (cutS s9 none (some 9)), V.str ""] : List V) = ws
    have xall : ∀ (G : Hp), ∀ v ∈ ws, ThX G v := fun G v hv => by
      rw [← hw] at hv
      simp only [List.mem_cons, List.not_mem_nil, or_false] at hv
      rcases hv with rfl | rfl | rfl | rfl | rfl
      · exact thx_low (by omega) zm
      · exact thx_low (by rw [ap, lA]; omega) fun c hc => (app_mem hc).elim (mA c) fun h => zm c (cut_mem h)
      · exact thx_low (by rw [ap, lA]; omega) fun c hc => (app_mem hc).elim (mA c) fun h => zm c (cut_mem h)
      · exact thx_low cut_9 fun c hc => zm c (m9 c (cut_mem hc))
      · exact thx_low (by decide) (by decide)
    have lw : ws.length = 5 := by rw [← hw]; rfl
    refine ⟨by show 5 ≤ sizeLine; decide, fun M fM => ?_⟩
    rw [hw]
    have sM := same_new (o := .lst ws) fM
    have hM : (upd H4 M (.lst ws)) M = some (.lst ws) := upd_same
    have pen5 := pen4.same sM
    have offM := (Off.of pen4 fM).kp (Kp.same sM)
    have k5 := (((k1.trans k2).trans k3).trans k4).trans (Kp.same (p := p) sM)
    generalize upd H4 M (.lst ws) = H5 at hM pen5 offM k5 ⊢
    refine ⟨rfl, qq, keep_q pen pen5 k5 hq, fun L H6 xs s6 fL hL th => ?_⟩
    have pen6 := pen5.same s6
    have k6 := k5.trans (Kp.same (p := p) s6)
    have offL := (Off.of pen5 fL).kp (Kp.same s6)
    have hM6 := s6 _ _ hM
    have offM6 := offM.kp (Kp.same s6)
    have x3 : xs.length = 31 := th.len
    refine ⟨_, rfl, _, rfl, _, rfl, _, rfl, L, _, rfl, .inl (SqL.of hL), p, c, _, rfl, pen6.weak (by omega), by omega, by omega, fun rt H7 t0 t1 pen7 k7 => ?_⟩
    have hL7 := k7.1 _ _ hL offL.ne
    have hM7 := k7.1 _ _ hM6 offM6.ne
    obtain ⟨n, rfl⟩ := Int.eq_ofNat_of_zero_le t0
    obtain ⟨x, hx, tx⟩ := th.at (n := n) (by omega)
    refine ⟨L, _, _, x, rfl, rfl, SqL.of hL7, hx, ?_⟩
    refine ⟨by show 1 ≤ sizeLine; decide, fun B fB => ?_⟩
    have sB := same_new (o := .lst [x]) fB
    have hB : (upd H7 B (.lst [x])) B = some (.lst [x]) := upd_same
    have hM8 := sB _ _ hM7
    have pen8 := pen7.same sB
    have k8 := (k6.trans k7).trans (Kp.same (p := p) sB)
    have k18 := k7.trans (Kp.same (p := p) sB)
    generalize upd H7 B (.lst [x]) = H8 at hB hM8 pen8 k8 k18 ⊢
    refine ⟨M, B, _, _, rfl, rfl, hM8, hB, ?_, fun O fO => ?_⟩
    · exact Nat.le_trans (by simp; omega : _ ≤ 64) (by decide)
    have sO := same_new (o := .lst (ws ++ [x])) fO
    have hO : (upd H8 O (.lst (ws ++ [x]))) O = some (.lst (ws ++ [x])) := upd_same
    have pen9 := pen8.same sO
    have k9 := k8.trans (Kp.same (p := p) sO)
    have k19 := k18.trans (Kp.same (p := p) sO)
    generalize upd H8 O (.lst (ws ++ [x])) = H9 at hO pen9 k9 k19 ⊢
    obtain ⟨i, rfl⟩ := Int.eq_ofNat_of_zero_le w0
    have il : i < (ws ++ [x]).length := by simp; omega
    refine ⟨_, rfl, O, _, _, (ws ++ [x])[i], rfl, rfl, SqL.of hO, atI_nat (List.getElem?_eq_getElem il), ?_⟩
    refine hQ _ _ pen9 k9 ?_
    have nq : ∀ {G G' : Hp}, Kp p G G' → Same (out qq G) (out qq G') := fun k => out_kp fun b o e n => k.1 b o e fun z => n (z ▸ qp)
    rcases List.mem_append.mp (List.getElem_mem il) with h | h
    · exact xall _ _ h
    · rw [List.mem_singleton.mp h]
      exact tx.same (nq k19)
end
end K09
set_option Elab.async false
set_option linter.all false
set_option maxRecDepth 100000
set_option maxHeartbeats 4000000
namespace K09
open PySem PySem.Spec PyProof.Rows L2
open C8 (Cal Mak Met pe_c pe_mk pe_mt pe_mt0)
open LamX (Tabs ExtN TabB)
open THI
open SX (S)
theorem tabs_kp {T : List (Addr × Str)} {h : Addr} {H H' : Hp} {c : Nat} (t : Tabs T H) (k : Kp h H H') (x : Pen H h c) : Tabs T H' := by
  obtain ⟨l, ns, n, m, h1, _⟩ := x
  intro p hp
  obtain ⟨q, hq, tq, cq⟩ := t p hp
  refine ⟨q, k.1 _ _ hq (fun z => by rw [z, h1] at hq; cases hq), tq, fun pos cv e => ?_⟩
  obtain ⟨c0, e1, e2⟩ := cq pos cv e
  exact ⟨c0, e1, k.1 _ _ e2 (fun z => by rw [z, h1] at e2; cases e2)⟩
theorem Pen.sn {H H' : Hp} {p : Addr} {c : Nat} (x : Pen H p c) (s : SN H H') : Pen H' p c := by
  obtain ⟨l, ns, n, m, h1, h2, h3⟩ := x
  exact ⟨l, ns, n, m, s.lst h1, s.lst h2, h3⟩
theorem pen_some {p : Addr} {H : Hp} {c : Nat} (pen : Pen H p c) : H p ≠ none := by
  obtain ⟨l, ns, n, m, h1, _⟩ := pen
  intro z
  rw [z] at h1
  cases h1
theorem same_put {H0 H : Hp} {D : Addr} {o : HO} (s : Same H0 H) (f : H0 D = none) : Same H0 (upd H D o) := fun b ob e => by
  rw [upd_ne (ne_of_none e f)]
  exact s b ob e
noncomputable abbrev outp (p : Addr) (H : Hp) : Hp := out (fun b => b = p) H
theorem outp_kp {p : Addr} {H H' : Hp} (k : Kp p H H') : Same (outp p H) (outp p H') := out_kp fun b o e n => k.1 b o e n
theorem ThX.in_ {H : Hp} {q : Addr → Prop} {x : V} (h : ThX (out q H) x) : ThX H x := h.same out_le
theorem ThX.sn {H H' : Hp} {x : V} (h : ThX H x) (s : SN H H') : ThX H' x := by
  obtain ⟨k, t, th, e⟩ := h
  exact ⟨k, t, Thg.sn th s, e⟩
/-- what _law_right asks of three things -/
theorem th3_of {H : Hp} {x1 x2 x3 : V} (h1 : ThX H x1) (h2 : ThX H x2) (h3 : ThX H x3) : ∃ (k1 k2 k3 : Kn) (t1 t2 t3 : Str), Th3 H x1 x2 x3 k1 k2 k3 t1 t2 t3 ∧ ∀ s, k1 = .text s → s.length ≤ 1000 ∧ ∀ c ∈ s.cps.toList, c < 128 := by
  obtain ⟨k1, t1, a, l1⟩ := h1
  obtain ⟨k2, t2, b, _⟩ := h2
  obtain ⟨k3, t3, c, _⟩ := h3
  exact ⟨k1, k2, k3, t1, t2, t3, ⟨a, b, c, fun s e => (l1 s e).1⟩, l1⟩
section
variable {P : Program} {w : World} {K : PySem.W.Frag} {mg : Str → Option Value} {base : Heap} {f : Addr} {fd : FuncData}
def spLaw (K : PySem.W.Frag) : Sp := fun vs H Q _ => ∃ (a : Addr) (ns : List Int), vs = [.ref a] ∧ SqL K H a (ns.map V.int) ∧ ns.length ≤ 63 ∧ Tabs (T0 K) H ∧ ∀ H', Q (.bl true) H'
theorem ok_law (F : Dn K d_law f fd) (b : Bl mg)
    (cP : Cal P w K mg base 1 "_law_pen" (spPen K) []) (cD : CalD P w K mg base) (cN : Cal P w K mg base 2 "_law_names" spNames []) (cC : Cal P w K mg base 3 "_law_called" spCd []) (cU : Cal P w K mg base 2 "_law_number" spNu []) (cT : Cal P w K mg base 1 "_law_things" spTh []) (cR : GL.CalG P w K mg base 11 "_law_right" (spRt K) []) :
    GL.FnG P w K mg base 12 f fd ["_law_script"] (spLaw K) := by
  refine GL.okG F sc_law (fun vs H Q E h => ?_) (fun cdv A outer s H vs Q E hgd hr h => ?_)
  · obtain ⟨a, ns, rfl, _⟩ := h
    rfl
  · obtain ⟨s0, ns, rfl, hS, hlen, tabs, hQ⟩ := h
    obtain ⟨fT, fdT, psT, dsT, FT, hmT, kpT, bT, dT⟩ := cT.ex
    have hgd2 : (A.deeper (envOfC d_law.qual d_law.scope s.heap.objs.size f cdv)).guards = some [] := hgd
    refine ⟨_, PSs.nox (pss_cons (ps_set (i := 1) sc_law.nd rfl (.inl rfl) (pe_c cP hr (by decide) rfl (pa_cons (pv 0) pa_nil)))
      (pss_cons (ps_for PassesOwn.never rfl (pi_range1 rfl b.range (pa_cons pe_int pa_nil)) (pg_name (i := 2) sc_law.nd rfl (.inl rfl))
        (pss_cons (ps_set (i := 3) sc_law.nd rfl (.inr rfl) (pe_lst (pa_cons (pe_ix ix_list (pe_c cN hr (by decide) rfl (pa_cons (pv 1) (pa_cons pe_int pa_nil))) pe_int (fun _ _ => rfl)) (pa_cons (pe_c cD hr (by decide) rfl (pa_cons (pv 1) (pa_cons pe_int pa_nil))) (pa_cons (pe_c cD hr (by decide) rfl (pa_cons (pv 1) (pa_cons pe_int pa_nil))) pa_nil)))))
        (pss_cons (ps_set (i := 4) sc_law.nd rfl (.inr rfl) (pe_lst (pa_cons (pe_c cC hr (by decide) rfl (pa_cons (pv 1) pa_nil)) (pa_cons (pe_c cU hr (by decide) rfl (pa_cons (pv 1) (pa_cons pe_int pa_nil))) (pa_cons (pe_c cU hr (by decide) rfl (pa_cons (pv 1) (pa_cons pe_int pa_nil))) pa_nil)))))
        (pss_cons (ps_set (i := 5) sc_law.nd rfl (.inr rfl) (pe_c cD hr (by decide) rfl (pa_cons (pv 1) (pa_cons pe_int pa_nil))))
        (pss_cons (ps_setLc (i := 6) (own := [("_law_k", 8)]) (g := gName 8) (tt := tYes) rfl sc_law.nd rfl rfl (sw_true rfl rfl rfl (by decide +kernel)) (pi_range1 rfl b.range (pa_cons pe_int pa_nil)) (blkOk_by (N := N_law) (sc := defScope s_law) (by decide +kernel))
            (fun _ _ _ _ _ => pg_name (i := 8) sc_law.nd rfl (Or.inl rfl)) (fun _ _ _ _ _ => pts_nil)
            (fun _ _ _ _ _ => pe_ix (r := rIxL K) ix_list (pe_lst (pa_cons (pe_ix (r := rIxL K) ix_list (pv 3) (pv 8) (fun _ _ => rfl)) (pa_cons (pe_ix (r := rIxL K) ix_list (pv 4) (pv 8) (fun _ _ => rfl)) pa_nil)))
              (pe_op op_mod (pe_op op_fdiv (pv 5) (pe_ix (r := rIxT K) ix_tup (pe_tup (pa_cons pe_int (pa_cons pe_int (pa_cons pe_int pa_nil)))) (pv 8) (fun _ _ => rfl))) pe_int) (fun _ _ => rfl)))
        (pss_one (ps_if (PW.pt (pw_or (pt_not (pt_val (GL.pe_cG cR hgd2 hr (by decide) rfl (pa_cons (pe_ix ix_list (pv 6) pe_int (fun _ _ => rfl)) (pa_cons (pe_ix ix_list (pv 6) pe_int (fun _ _ => rfl)) (pa_cons (pe_ix ix_list (pv 6) pe_int (fun _ _ => rfl)) pa_nil))))))
            (pw_or1 (pt_not (pt_val (GL.pe_cG cR hgd2 hr (by decide) rfl (pa_cons (pe_ix ix_list (pv 3) pe_int (fun _ _ => rfl)) (pa_cons (pe_ix ix_list (pv 3) pe_int (fun _ _ => rfl)) (pa_cons (pe_ix ix_list (pv 3) pe_int (fun _ _ => rfl)) pa_nil))))))))) pss_never pss_nil)))))))
      (pss_cons (ps_for PassesOwn.never rfl (pi_list (pe_call0 FT (hr.mono (by decide)) rfl hmT kpT bT dT pass0)) (pg_name (i := 7) sc_law.nd rfl (.inl rfl))
        (pss_one (ps_if (PW.pt (pw_or (pt_not (pt_val (GL.pe_cG cR hgd2 hr (by decide) rfl (pa_cons (pv 7) (pa_cons (pv 7) (pa_cons (pv 7) pa_nil))))))
            (pw_or (pt_not (pt_val (GL.pe_cG cR hgd2 hr (by decide) rfl (pa_cons pe_str (pa_cons (pv 7) (pa_cons pe_int pa_nil))))))
            (pw_or1 (pt_not (pt_val (GL.pe_cG cR hgd2 hr (by decide) rfl (pa_cons pe_str (pa_cons pe_int (pa_cons (pv 7) pa_nil)))))))))) pss_never pss_nil)))
      (pss_one (ps_ret pe_bl))))), ?_⟩
    refine ⟨_, rfl, s0, ns, rfl, hS, hlen, fun p H1 s1 f1 pen1 => ?_⟩
    have t1 := Tabs.ext tabs s1
    refine ⟨10, rfl, by decide, by decide, for_range (n := 10) (fun i σ H3 => (∃ v2 v3 v4 v5 v6 v7 v8 : Option V, σ = [some (.ref s0), some (.ref p), v2, v3, v4, v5, v6, v7, v8]) ∧ Pen H3 p (200 * (10 - i)) ∧ Tabs (T0 K) H3) ⟨⟨_, _, _, _, _, _, _, rfl⟩, pen1.weak (by decide), t1⟩ ?_ ?_⟩
    · rintro i σ H3 hi ⟨⟨v2, v3, v4, v5, v6, v7, v8, rfl⟩, pen3, t3⟩
      obtain ⟨c, hc⟩ : ∃ c, 200 * (10 - i) = c + 200 := ⟨200 * (10 - i) - 200, by omega⟩
      rw [hc] at pen3
      -- a good one
      refine ⟨_, rfl, p, c + 150, 1, rfl, pen3.weak (by omega), by decide, fun o zs H4 pen4 k4 fo off4 ho4 lz ok _ => ?_⟩
      obtain ⟨l, rfl⟩ := List.length_eq_one_iff.mp lz
      obtain ⟨l1, l8, lc⟩ := ok l (List.mem_singleton.mpr rfl)
      have t4 := tabs_kp t3 k4 pen3
      refine ⟨o, _, 0, .str (S l), rfl, rfl, SqL.of ho4, rfl, ?_⟩
      refine ⟨_, rfl, p, c + 149, _, rfl, pen4.weak (by omega), by decide, by decide, fun ra H5 a0 a1 pen5 k5 => ?_⟩
      have t5 := tabs_kp t4 k5 pen4
      refine ⟨_, rfl, p, c + 148, _, rfl, pen5.weak (by omega), by decide, by decide, fun rb H6 b0 b1 pen6 k6 => ?_⟩
      have t6 := tabs_kp t5 k6 pen5
      have xg : ∀ (G : Hp), ∀ v ∈ ([.str (S l), .int ra, .int rb] : List V), ThX G v := fun G v hv => by
        simp only [List.mem_cons, List.not_mem_nil, or_false] at hv
        rcases hv with rfl | rfl | rfl
        · refine thx_low (by rw [SX.S_len]; omega) fun c hc => ?_
          have := lc c (by simpa using hc)
          omega
        · exact thx_int (by omega) (by omega)
        · exact thx_int (by omega) (by omega)
      have lg : ([.str (S l), .int ra, .int rb] : List V).length = 3 := rfl
      refine ⟨by show 3 ≤ sizeLine; decide, fun G fG => ?_⟩
      generalize ([.str (S l), .int ra, .int rb] : List V) = gs at xg lg ⊢
      have sG := same_new (o := .lst gs) fG
      have hG : (upd H6 G (.lst gs)) G = some (.lst gs) := upd_same
      have pen7 := pen6.same sG
      have t7 := t6.ext sG
      have offG := (Off.of pen6 fG).kp (Kp.same sG)
      generalize upd H6 G (.lst gs) = H7 at hG pen7 t7 offG ⊢
      -- a drawn one
      refine ⟨_, rfl, p, c + 90, fun b => b = p, rfl, pen7.weak (by omega), rfl, fun b z => z ▸ pen_some pen7, fun y1 H8 pen8 k8 x1 => ?_⟩
      have t8 := tabs_kp t7 k8 pen7
      refine ⟨_, rfl, p, c + 80, 9, fun b => b = p, rfl, pen8.weak (by omega), rfl, fun b z => z ▸ pen_some pen8, .inl rfl, fun y2 H9 pen9 k9 x2 => ?_⟩
      have t9 := tabs_kp t8 k9 pen8
      refine ⟨_, rfl, p, c + 70, 127, fun b => b = p, rfl, pen9.weak (by omega), rfl, fun b z => z ▸ pen_some pen9, .inr rfl, fun y3 H10 pen10 k10 x3 => ?_⟩
      have t10 := tabs_kp t9 k10 pen9
      have hG := (k8.trans (k9.trans k10)).1 _ _ hG offG.ne
      have offG := offG.kp (k8.trans (k9.trans k10))
      have xs : ∀ v ∈ ([y1, y2, y3] : List V), ThX (outp p H10) v := fun v hv => by
        simp only [List.mem_cons, List.not_mem_nil, or_false] at hv
        rcases hv with rfl | rfl | rfl
        · exact (x1.same (outp_kp k9)).same (outp_kp k10)
        · exact x2.same (outp_kp k10)
        · exact x3
      have ls : ([y1, y2, y3] : List V).length = 3 := rfl
      refine ⟨by show 3 ≤ sizeLine; decide, fun S1 fS => ?_⟩
      generalize ([y1, y2, y3] : List V) = ss at xs ls ⊢
      have sS := same_new (o := .lst ss) fS
      have hS1 : (upd H10 S1 (.lst ss)) S1 = some (.lst ss) := upd_same
      have pen11 := pen10.same sS
      have t11 := t10.ext sS
      have offS := (Off.of pen10 fS).kp (Kp.same sS)
      have hG := sS _ _ hG
      have offG := offG.kp (Kp.same sS)
      have k11 := Kp.same (p := p) sS
      generalize upd H10 S1 (.lst ss) = H11 at hS1 pen11 t11 offS hG offG k11 ⊢
      refine ⟨_, rfl, p, c + 60, _, rfl, pen11.weak (by omega), by decide, by decide, fun wh H12 w0 w1 pen12 k12 => ?_⟩
      have t12 := tabs_kp t11 k12 pen11
      have hG := k12.1 _ _ hG offG.ne
      have hS1 := k12.1 _ _ hS1 offS.ne
      have xs : ∀ v ∈ ss, ThX H12 v := fun v hv => ((xs v hv).same (outp_kp (k11.trans k12))).in_
      -- the three
      refine ⟨3, rfl, by decide, by decide, fun D fD => ?_⟩
      refine lc_range (n := 3) (fun j H13 => ∃ es : List V, H13 D = some (.lst es) ∧ es.length = j ∧ (∀ e ∈ es, ThX H12 e) ∧ Same H12 H13) ?_ ?_ ?_
      · exact ⟨[], upd_same, rfl, by simp, same_new fD⟩
      · rintro j H13 hj ⟨es, hD, le, xe, s13⟩
        refine ⟨rfl, ?_⟩
        have jg : j < gs.length := by omega
        have js : j < ss.length := by omega
        have atj : ∀ (xs : List V) (h : j < xs.length), atI xs (0 + (j : Int)) = some xs[j] := fun xs h => by
          rw [Int.zero_add]
          exact atI_nat (List.getElem?_eq_getElem h)
        refine ⟨_, rfl, _, rfl, G, gs, _, gs[j], rfl, rfl, SqL.of (s13 _ _ hG), atj gs jg, ?_⟩
        refine ⟨_, rfl, _, rfl, S1, ss, _, ss[j], rfl, rfl, SqL.of (s13 _ _ hS1), atj ss js, by show 2 ≤ sizeLine; decide, fun M fM => ?_⟩
        have sM := same_new (o := .lst [gs[j], ss[j]]) fM
        have hM : (upd H13 M (.lst [gs[j], ss[j]])) M = some (.lst [gs[j], ss[j]]) := upd_same
        have hD := sM _ _ hD
        have s14 := s13.trans sM
        generalize upd H13 M (.lst [gs[j], ss[j]]) = H14 at hM hD s14 ⊢
        refine ⟨_, rfl, by show 3 ≤ sizeLine; decide, fun T fT => ?_⟩
        have sT := same_new (o := .tup [.int 1, .int 2, .int 4]) fT
        have hT : (upd H14 T (.tup [.int 1, .int 2, .int 4])) T = some (.tup [.int 1, .int 2, .int 4]) := upd_same
        have hM := sT _ _ hM
        have hD := sT _ _ hD
        have s15 := s14.trans sT
        generalize upd H14 T (.tup [.int 1, .int 2, .int 4]) = H15 at hM hD hT s15 ⊢
        obtain ⟨d, ed, d1, d2⟩ : ∃ d : Int, atI ([.int 1, .int 2, .int 4] : List V) (0 + (j : Int)) = some (.int d) ∧ 0 < d ∧ d < 1073741824 := by
          match j, hj with
          | 0, _ => exact ⟨1, rfl, by decide, by decide⟩
          | 1, _ => exact ⟨2, rfl, by decide, by decide⟩
          | 2, _ => exact ⟨4, rfl, by decide, by decide⟩
        refine ⟨_, rfl, T, _, _, _, rfl, rfl, SqT.of hT, ed, ?_⟩
        refine ⟨_, _, rfl, rfl, ⟨d1, d2⟩, _, _, rfl, rfl, (by decide : (0 : Int) < 2), ?_⟩
        have e0 : 0 ≤ (wh / d) % 2 := Int.emod_nonneg _ (by decide)
        have e1 : (wh / d) % 2 < 2 := Int.emod_lt_of_pos _ (by decide)
        obtain ⟨y, ey, ty⟩ : ∃ y, atI ([gs[j], ss[j]] : List V) ((wh / d) % 2) = some y ∧ ThX H12 y := by
          generalize (wh / d) % 2 = r at e0 e1 ⊢
          have : r = 0 ∨ r = 1 := by omega
          rcases this with rfl | rfl
          · exact ⟨_, rfl, xg H12 _ (List.getElem_mem jg)⟩
          · exact ⟨_, rfl, xs _ (List.getElem_mem js)⟩
        refine ⟨M, _, _, y, rfl, rfl, SqL.of hM, ey, ?_⟩
        refine ⟨es, hD, Nat.lt_of_lt_of_le (by omega : es.length < 64) (by decide), es ++ [y], upd_same, by simp [le], fun e he => ?_, same_put s15 fD⟩
        rcases List.mem_append.mp he with h | h
        · exact xe e h
        · rw [List.mem_singleton.mp h]
          exact ty
      rintro H13 ⟨es, hD, le, xe, s13⟩
      have t13 := t12.ext s13
      have pen13 := pen12.same s13
      have hG := s13 _ _ hG
      obtain ⟨ea, eb, ec, rfl⟩ : ∃ ea eb ec, es = [ea, eb, ec] := by
        match es, le with
        | [ea, eb, ec], _ => exact ⟨ea, eb, ec, rfl⟩
      obtain ⟨ga, gb, gc, rfl⟩ : ∃ ea eb ec, gs = [ea, eb, ec] := by
        match gs, lg with
        | [ea, eb, ec], _ => exact ⟨ea, eb, ec, rfl⟩
      refine ⟨_, rfl, D, _, 0, ea, rfl, rfl, SqL.of hD, rfl, _, rfl, D, _, 1, eb, rfl, rfl, SqL.of hD, rfl, _, rfl, D, _, 2, ec, rfl, rfl, SqL.of hD, rfl, ?_⟩
      obtain ⟨k1, k2, k3, u1, u2, u3, th, lo⟩ := th3_of ((xe ea (by simp)).same s13) ((xe eb (by simp)).same s13) ((xe ec (by simp)).same s13)
      refine ⟨ea, eb, ec, k1, k2, k3, u1, u2, u3, rfl, th, lo, t13, fun H14 s14 t14 => ?_⟩
      refine ⟨_, rfl, iteF ?_⟩
      have hG := s14.lst hG
      refine ⟨_, rfl, G, _, 0, ga, rfl, rfl, SqL.of hG, rfl, _, rfl, G, _, 1, gb, rfl, rfl, SqL.of hG, rfl, _, rfl, G, _, 2, gc, rfl, rfl, SqL.of hG, rfl, ?_⟩
      obtain ⟨k1, k2, k3, u1, u2, u3, th, lo⟩ := th3_of (xg H14 ga (by simp)) (xg H14 gb (by simp)) (xg H14 gc (by simp))
      refine ⟨ga, gb, gc, k1, k2, k3, u1, u2, u3, rfl, th, lo, t14, fun H15 s15 t15 => ?_⟩
      refine ⟨_, rfl, iteF ⟨⟨_, _, _, _, _, _, _, rfl⟩, (pen13.sn (SN.trans s14 s15)).weak (by omega), t15⟩⟩
    · rintro σ H3 ⟨⟨v2, v3, v4, v5, v6, v7, v8, rfl⟩, pen3, t3⟩
      refine ⟨rfl, fun _ => False, fun b z => z.elim, fun L H4 xs s4 fL hL th => ?_⟩
      have t4 := t3.ext s4
      refine ⟨L, rfl, ⟨_, SqL.of hL⟩, for_list (K := K) (xs := xs) (fun j σ H' => (∃ v2 v3 v4 v5 v6 v7 v8 : Option V, σ = [some (.ref s0), some (.ref p), v2, v3, v4, v5, v6, v7, v8]) ∧ SN H4 H' ∧ Tabs (T0 K) H') ⟨⟨_, _, _, _, _, _, _, rfl⟩, SN.of (Same.refl _), t4⟩ (fun j σ H' _ ⟨_, s, _⟩ => SqL.of (s.lst hL)) ?_ ?_⟩
      · rintro j y σ H' hy ⟨⟨v2, v3, v4, v5, v6, v7, v8, rfl⟩, sn, tb⟩
        obtain ⟨q, eq, tq⟩ := th.get j y hy
        have ty : ThX H4 y := ThX.in_ ⟨q.1, q.2, tq, thgs_low q (List.mem_of_getElem? eq)⟩
        have tz : ∀ G : Hp, ThX G (.str "z") := fun G => thx_low (by decide) (by decide +kernel)
        obtain ⟨k1, k2, k3, u1, u2, u3, t3, lo⟩ := th3_of (ty.sn sn) (ty.sn sn) (ty.sn sn)
        refine ⟨_, rfl, _, rfl, _, rfl, y, y, y, k1, k2, k3, u1, u2, u3, rfl, t3, lo, tb, fun G1 g1 tb1 => ?_⟩
        refine ⟨_, rfl, iteF ?_⟩
        have sn1 := SN.trans sn g1
        obtain ⟨k1, k2, k3, u1, u2, u3, t3, lo⟩ := th3_of (tz G1) (ty.sn sn1) (thx_int (i := 0) (by decide) (by decide))
        refine ⟨_, rfl, .str "z", y, .int 0, k1, k2, k3, u1, u2, u3, rfl, t3, lo, tb1, fun G2 g2 tb2 => ?_⟩
        refine ⟨_, rfl, iteF ?_⟩
        have sn2 := SN.trans sn1 g2
        obtain ⟨k1, k2, k3, u1, u2, u3, t3, lo⟩ := th3_of (tz G2) (thx_int (i := 9) (by decide) (by decide)) (ty.sn sn2)
        refine ⟨_, rfl, .str "z", .int 9, y, k1, k2, k3, u1, u2, u3, rfl, t3, lo, tb2, fun G3 g3 tb3 => ?_⟩
        exact ⟨_, rfl, iteF ⟨⟨_, _, _, _, _, _, _, rfl⟩, SN.trans sn2 g3, tb3⟩⟩
      · rintro σ H' ⟨_, sn, tb⟩
        exact hQ _
end
end K09
set_option Elab.async false
set_option linter.all false
set_option maxRecDepth 100000
set_option maxHeartbeats 4000000
/-! KB: what a call by keywords binds, for a def without keyword-only parameters. -/
namespace KW
open PySem PySem.Spec PyProof.Rows L2
section
variable {K : PySem.W.Frag} {x qual : Str} {params : Arguments} {body : List Stmt} {scope : Scope} {dvs : List V} {kws : List (Str × V)} {f : Addr} {fd : FuncData} {ps : List Str}
theorem kb1 (F : FunD K x qual params body scope dvs kws f fd) (n : Nat) (ks : List Str) (g : {α : Type} → List α → List α → List α → List α) (hd : dvs ≠ [])
    (hrel : ∀ {vs ds zs : List V} {us its ws : List Value}, Vals vs us → Vals ds its → Vals zs ws → Vals (g vs ds zs) (g us its ws))
    (h : ∀ (T : Addr) (kV doc pm : Value) (an : Option Addr) (cdv ct : Value) (us its ws : List Value), us.length = n → its.length = dvs.length → ws.length = ks.length →
      ∃ k, bindArgs (PySem.W.fnOf x qual params body scope (.ref T) kV doc pm an cdv ct) ⟨us, ks.zip ws⟩ = seqItems? (.ref T) >>= k ∧ k (some its.toArray) = pure (ps.zip (g us its ws))) :
    ∃ its : List Value, KBn K fd ps n ks (fun us ws => g us its ws) (fun vs zs => g vs dvs zs) := by
  obtain ⟨oc, od, dV, kV, doc, pm, an, cdv, ct, osl, rfl, lk, hcd, hD, hK⟩ := F.ex
  rcases hD with ⟨e, _⟩ | ⟨_, T, o, its, m, rfl, lT, oT, rT⟩
  · exact absurd e hd
  · refine ⟨its, ⟨fun s us ws X l1 l2 => ?_, fun r1 r2 => hrel r1 rT r2⟩⟩
    obtain ⟨k, e1, e2⟩ := h T kV doc pm an cdv ct us its ws l1 rT.length.symm l2
    refine BindsTo.of_looks fun M => ?_
    rw [e1]
    exact looks_items X lT oT (.of_pure e2)
theorem kb0 (F : FunD K x qual params body scope [] kws f fd) (n : Nat) (ks : List Str) (g : {α : Type} → List α → List α → List α)
    (hrel : ∀ {vs zs : List V} {us ws : List Value}, Vals vs us → Vals zs ws → Vals (g vs zs) (g us ws))
    (h : ∀ (kV doc pm : Value) (an : Option Addr) (cdv ct : Value) (us ws : List Value), us.length = n → ws.length = ks.length →
      bindArgs (PySem.W.fnOf x qual params body scope .none kV doc pm an cdv ct) ⟨us, ks.zip ws⟩ = pure (ps.zip (g us ws))) :
    KBn K fd ps n ks (fun us ws => g us ws) (fun vs zs => g vs zs) := by
  obtain ⟨oc, od, dV, kV, doc, pm, an, cdv, ct, osl, rfl, lk, hcd, hD, hK⟩ := F.ex
  rcases hD with ⟨_, rfl⟩ | ⟨e, _⟩
  · exact ⟨fun s us ws X l1 l2 => .of_eq (h kV doc pm an cdv ct us ws l1 l2), fun r1 r2 => hrel r1 r2⟩
  · exact absurd rfl e
end
end KW
set_option Elab.async false
set_option linter.all false
set_option maxRecDepth 100000
set_option maxHeartbeats 4000000
namespace K09
open PySem PySem.Spec PyProof.Rows L2
def owB : Str → Bool := fun x => decide (x = "BadName")
def owN : Str → Bool := fun x => decide (x = "NoNumber")
def abV : String → Bool := fun x => x == "ValueError"
def xkC (K : PySem.W.Frag) (C : Addr) (bs : List Value) (nid vi : String) (ty : String) (ow : Str → Bool) (ab : String → Bool) : Bool := GX.gxB K C bs nid && (GX.vvB K ty vi && (xfB K C && (GX.isB K C && (ex16.all (fun x => decide (PySem.W.exmOne K (.ref C) (.ref (He.ga K x)) = some (ow x))) &&
  (ex16.all (fun x => decide (PySem.W.kitOne K (.ref C) (.ref (He.ga K x)) = some (ow x))) && ex7.all (fun x => decide (PySem.W.kitOne K (.ref C) (.type x) = some (ab x))))))))
def xkB (K : PySem.W.Frag) : Bool := xkC K (He.ga K "BadName") veT "ValueError.__new__" "ValueError.__init__" "ValueError" owB abV
def xkN (K : PySem.W.Frag) : Bool := xkC K (He.ga K "NoNumber") veT "ValueError.__new__" "ValueError.__init__" "ValueError" owN abV
theorem isB_ok {K : PySem.W.Frag} {C : Addr} (h : GX.isB K C = true) : PySem.W.findIn K (.ref C) "__class__" = some (some (.builtin "object.__class__")) ∧ PySem.W.specialIn K (.builtin "object.__class__") "__get__" = some (some (.builtin "getset_descriptor.__get__")) ∧ PySem.W.takesIn K (.builtin "object.__class__") = some true ∧ PySem.W.mroIn K C (.type "object") = some true := by
  unfold GX.isB at h
  simp only [Bool.and_eq_true, decide_eq_true_eq] at h
  exact ⟨He.eqO_ok h.1, He.eqO_ok h.2.1, h.2.2.1, h.2.2.2⟩
theorem exc_of {K : PySem.W.Frag} {C : Addr} (h : GX.isB K C = true) (x : XfC K C) : ExcC K C := by
  obtain ⟨a, b, c, d⟩ := isB_ok h
  exact ⟨x.ga, x.gg, x.exC, x.hdC, a, b, c, d⟩
theorem xkC_ok {K : PySem.W.Frag} {C : Addr} {bs : List Value} {nid vi ty : String} {ow : Str → Bool} {ab : String → Bool} (h : xkC K C bs nid vi ty ow ab = true) : GX.Gx K C bs nid ∧ PySem.W.findCls K (.type ty) (.type "type") "__init__" = some (.val (.builtin vi)) ∧ XfC K C ∧ ExcC K C ∧ Exm K C ow ∧
    (∀ x ∈ ex16, PySem.W.kitOne K (.ref C) (.ref (He.ga K x)) = some (ow x)) ∧ ∀ x ∈ ex7, PySem.W.kitOne K (.ref C) (.type x) = some (ab x) := by
  unfold xkC at h
  obtain ⟨h2, h⟩ := Bool.and_eq_true_iff.mp h
  obtain ⟨h3, h⟩ := Bool.and_eq_true_iff.mp h
  obtain ⟨h4, h⟩ := Bool.and_eq_true_iff.mp h
  obtain ⟨h6, h⟩ := Bool.and_eq_true_iff.mp h
  obtain ⟨h5, h⟩ := Bool.and_eq_true_iff.mp h
  obtain ⟨h7, h8⟩ := Bool.and_eq_true_iff.mp h
  exact ⟨GX.gxB_ok h2, GX.vvB_ok h3, xfB_ok h4, exc_of h6 (xfB_ok h4), fun x hx => of_decide_eq_true (List.all_eq_true.mp h5 x hx), fun x hx => of_decide_eq_true (List.all_eq_true.mp h7 x hx), fun x hx => of_decide_eq_true (List.all_eq_true.mp h8 x hx)⟩
theorem wordB : WordOk owB abV "bad" := ⟨by decide +kernel, ⟨0, by decide, by decide +kernel, fun m hm => (by omega), by decide +kernel⟩, by decide +kernel⟩
theorem wordN : WordOk owN abV "number" := ⟨by decide +kernel, ⟨1, by decide, by decide +kernel, fun m hm => (by
  obtain rfl : m = 0 := by omega
  decide +kernel), by decide +kernel⟩, by decide +kernel⟩
theorem fldB : fldOf owB = some "name" := by decide +kernel
theorem fldN : fldOf owN = some "thing" := by decide +kernel
theorem clB : cl10.any owB = true := by decide +kernel
theorem clN : cl10.any owN = true := by decide +kernel
end K09
set_option Elab.async false
set_option linter.all false
/-! VR: values related, turned about. -/
namespace KW
open PySem PySem.Spec PyProof.Rows L2
theorem vals_rev {vs : List V} {us : List Value} (h : Vals vs us) : Vals vs.reverse us.reverse := by
  induction h with
  | nil => exact .nil
  | cons r t ih =>
    rw [List.reverse_cons, List.reverse_cons]
    exact ih.append (.cons r .nil)
end KW
set_option Elab.async false
set_option linter.all false
set_option maxRecDepth 100000
set_option maxHeartbeats 0
namespace K09
open PySem PySem.Spec PyProof.Rows L2
open C8 (Cal Mak Met pe_c pe_mk pe_mt pe_mt0)
def fa : List He.Fa := [.glo "is_whole", .glo "is_between", .glo "is_name", .glo "is_mask", .glo "_law_pen", .glo "_law_draw", .glo "_law_names", .glo "_law_word", .glo "_law_field", .glo "_law_got", .glo "_law_things", .glo "_law_signs", .glo "_law_called", .glo "_law_number", .glo "_law_is_name", .glo "_law_is_up_to", .glo "_law_due", .glo "_law_met", .glo "_law_right", .glo "law", .free "isinstance", .free "int", .free "bool", .free "str", .free "list", .free "range", .free "len", .free "all", .free "any", .free "max", .free "min", .free "repr", .free "ValueError", .free "KeyError", .free "IndexError", .free "LookupError", .free "ArithmeticError", .free "RuntimeError", .free "TypeError", .glo "Person", .cls "Person", .mkr "Person", .glo "NoKind", .glo "Nought", .glo "NoShare", .glo "Uneven", .glo "BadName", .glo "NoNumber", .glo "NoRide", .glo "NoText", .glo "NoName", .glo "NoDay", .glo "NoSeats", .glo "TooMany", .glo "Taken", .glo "NoRule", .glo "NothingDone", .glo "NoRow", .noat "Person" "name", .noat "Person" "seats", .noat "Person" "mask", .noat "BadName" "name", .noat "NoNumber" "thing", .meth "BadName" "__init__", .meth "NoNumber" "__init__", .int "LAST_MASK" 127, .int "LONGEST_NAME" 8, .int "MOST_SEATS" 9]
def xk (K : PySem.W.Frag) : Bool := (fun K => xkB K && xkN K) K
abbrev R : PySem.W.OpenRow := PySem.W.OpenLaw.row PySem.Challenge.rw_rideturns_k09_what_is_no_person
def tf : List He.Defn := [("_law_right", none)]
abbrev hk : PySem.W.Hook := He.hookX 6 fa fn [] tf xk
def ob (s : PySem.W.SharedT) : He.AlX := He.obsX 6 fa fn [] tf xk (HandSHeadRun.getT s)
theorem ob_eq (s : PySem.W.SharedT) : ob s = hk.obs s.abs := He.obsX_eq (HandSHeadRun.getT_eq s)
abbrev loose : List Str := [("NoKind" : Str), ("Nought" : Str), ("NoShare" : Str), ("Uneven" : Str), ("BadName" : Str), ("NoNumber" : Str), ("NoRide" : Str), ("NoText" : Str), ("NoName" : Str), ("NoDay" : Str), ("NoSeats" : Str), ("TooMany" : Str), ("Taken" : Str), ("NoRule" : Str), ("NothingDone" : Str), ("NoRow" : Str), ("LAST_MASK" : Str), ("LONGEST_NAME" : Str), ("is_whole" : Str), ("is_between" : Str), ("is_name" : Str), ("is_mask" : Str), ("mask_text" : Str), ("MOST_SEATS" : Str), ("Person" : Str), ("_law_pen" : Str), ("_law_draw" : Str), ("_law_names" : Str), ("_law_word" : Str), ("_law_field" : Str), ("_law_got" : Str), ("_law_things" : Str), ("_law_signs" : Str), ("_law_called" : Str), ("_law_number" : Str), ("_law_is_name" : Str), ("_law_is_up_to" : Str), ("_law_due" : Str), ("_law_met" : Str), ("_law_right" : Str)]
theorem run_ (w : World) : HandSHeadRun.RunEq R (PySem.W.view R.prog [45]) hk ob 8000 loose w := by
  intro os
  kernel_rfl
theorem cal_of {P : Program} {w : World} {K : PySem.W.Frag} {mg : Str → Option Value} {base : Heap} {f : Addr} {fd : FuncData} {ps : List Str} {k : Nat} {x : Str} {sp : Sp} (F : FnOk P w K mg base CX0 k f fd ps sp) (g : mg x = some (.ref f)) (kp : PySem.W.keepIn K (.ref f) = true) (b : Binds K fd ps []) : Cal P w K mg base k x sp [] :=
  ⟨f, fd, ps, [], F, g, kp, b, .nil⟩
theorem met_of {P : Program} {w : World} {K : PySem.W.Frag} {mg : Str → Option Value} {base : Heap} {f C : Addr} {fd : FuncData} {ps : List Str} {k : Nat} {m : Str} {sp : Sp} (c : Cls K C) (h : Meth K C m f) (F : FnOk P w K mg base CX0 k f fd ps sp) (b : Binds K fd ps []) : Met P w K mg base k C m sp [] :=
  ⟨f, fd, ps, [], c, h, F, b, .nil⟩
theorem facts {P : Program} {w : World} {K : PySem.W.Frag} {h h0 : Heap} {mg : Str → Option Value} {f : Addr} (X : K.In h) (G : h.Ns mainGlobals mg) (hfa : mg ("law" : Str) = some (.ref f)) (c : He.SaysX fa fn [] tf xk w h0 K) :
    ∃ fd : FuncData, (∀ (s : Shared) (v : Value), BindsTo s fd ⟨[v], []⟩ [("_law_script", v)]) ∧ ∀ base : Heap, K.In base → base.Ns mainGlobals mg → LamX.TabB base mg (He.cT K ("_law_right", none)).1 (He.cT K ("_law_right", none)).2 → GL.FnG P w K mg base 12 f fd ["_law_script"] (spLaw K) := by
  have d := c.t.d
  have x := c.more
  have gl : ∀ (i : Nat) (x : Str), fa[i]? = some (.glo x) → mg x = some (.ref (He.ga K x)) := fun i x e => He.glo_ok X G (d.fact i e)
  have fr : ∀ (i : Nat) (x : Str), fa[i]? = some (.free x) → mg x = none := fun i x e => He.free_ok X G (d.fact i e)
  have me : ∀ (i : Nat) (C m : Str), fa[i]? = some (.meth C m) → Meth K (He.ga K C) m (He.ma K (He.ga K C) m) := fun i C m e => He.meth_ok (d.fact i e)
  have gl_is_whole := gl 0 "is_whole" rfl
  have gl_is_between := gl 1 "is_between" rfl
  have gl_is_name := gl 2 "is_name" rfl
  have gl_is_mask := gl 3 "is_mask" rfl
  have gl__law_pen := gl 4 "_law_pen" rfl
  have gl__law_draw := gl 5 "_law_draw" rfl
  have gl__law_names := gl 6 "_law_names" rfl
  have gl__law_word := gl 7 "_law_word" rfl
  have gl__law_field := gl 8 "_law_field" rfl
  have gl__law_got := gl 9 "_law_got" rfl
  have gl__law_things := gl 10 "_law_things" rfl
  have gl__law_signs := gl 11 "_law_signs" rfl
  have gl__law_called := gl 12 "_law_called" rfl
  have gl__law_number := gl 13 "_law_number" rfl
  have gl__law_is_name := gl 14 "_law_is_name" rfl
  have gl__law_is_up_to := gl 15 "_law_is_up_to" rfl
  have gl__law_due := gl 16 "_law_due" rfl
  have gl__law_met := gl 17 "_law_met" rfl
  have gl__law_right := gl 18 "_law_right" rfl
  have gl_law := gl 19 "law" rfl
  have fr_isinstance := fr 20 "isinstance" rfl
  have fr_int := fr 21 "int" rfl
  have fr_bool := fr 22 "bool" rfl
  have fr_str := fr 23 "str" rfl
  have fr_list := fr 24 "list" rfl
  have fr_range := fr 25 "range" rfl
  have fr_len := fr 26 "len" rfl
  have fr_all := fr 27 "all" rfl
  have fr_any := fr 28 "any" rfl
  have fr_max := fr 29 "max" rfl
  have fr_min := fr 30 "min" rfl
  have fr_repr := fr 31 "repr" rfl
  have fr_ValueError := fr 32 "ValueError" rfl
  have fr_KeyError := fr 33 "KeyError" rfl
  have fr_IndexError := fr 34 "IndexError" rfl
  have fr_LookupError := fr 35 "LookupError" rfl
  have fr_ArithmeticError := fr 36 "ArithmeticError" rfl
  have fr_RuntimeError := fr 37 "RuntimeError" rfl
  have fr_TypeError := fr 38 "TypeError" rfl
  have gl_Person := gl 39 "Person" rfl
  have cls_Person := He.cls_ok (d.fact 40 (f := .cls "Person") rfl)
  have mk_Person := He.mkr_ok (d.fact 41 (f := .mkr "Person") rfl)
  have gl_NoKind := gl 42 "NoKind" rfl
  have gl_Nought := gl 43 "Nought" rfl
  have gl_NoShare := gl 44 "NoShare" rfl
  have gl_Uneven := gl 45 "Uneven" rfl
  have gl_BadName := gl 46 "BadName" rfl
  have gl_NoNumber := gl 47 "NoNumber" rfl
  have gl_NoRide := gl 48 "NoRide" rfl
  have gl_NoText := gl 49 "NoText" rfl
  have gl_NoName := gl 50 "NoName" rfl
  have gl_NoDay := gl 51 "NoDay" rfl
  have gl_NoSeats := gl 52 "NoSeats" rfl
  have gl_TooMany := gl 53 "TooMany" rfl
  have gl_Taken := gl 54 "Taken" rfl
  have gl_NoRule := gl 55 "NoRule" rfl
  have gl_NothingDone := gl 56 "NothingDone" rfl
  have gl_NoRow := gl 57 "NoRow" rfl
  have no_Person_name := He.noat_ok (d.fact 58 (f := .noat "Person" "name") rfl)
  have no_Person_seats := He.noat_ok (d.fact 59 (f := .noat "Person" "seats") rfl)
  have no_Person_mask := He.noat_ok (d.fact 60 (f := .noat "Person" "mask") rfl)
  have no_BadName_name := He.noat_ok (d.fact 61 (f := .noat "BadName" "name") rfl)
  have no_NoNumber_thing := He.noat_ok (d.fact 62 (f := .noat "NoNumber" "thing") rfl)
  have me_BadName_init := me 63 "BadName" "__init__" rfl
  have me_NoNumber_init := me 64 "NoNumber" "__init__" rfl
  have val_LAST_MASK := He.int_ok X G (d.fact 65 (f := .int "LAST_MASK" 127) rfl)
  have val_LONGEST_NAME := He.int_ok X G (d.fact 66 (f := .int "LONGEST_NAME" 8) rfl)
  have val_MOST_SEATS := He.int_ok X G (d.fact 67 (f := .int "MOST_SEATS" 9) rfl)
  obtain ⟨fd_BadName_init, D_BadName_init⟩ := d.def_ 4 (d := d_BadName_init) rfl
  obtain ⟨fd_NoNumber_init, D_NoNumber_init⟩ := d.def_ 5 (d := d_NoNumber_init) rfl
  obtain ⟨fd_is_whole, D_is_whole⟩ := d.def_ 16 (d := d_is_whole) rfl
  obtain ⟨fd_is_between, D_is_between⟩ := d.def_ 17 (d := d_is_between) rfl
  obtain ⟨fd_is_name, D_is_name⟩ := d.def_ 18 (d := d_is_name) rfl
  obtain ⟨fd_is_mask, D_is_mask⟩ := d.def_ 19 (d := d_is_mask) rfl
  obtain ⟨fd_Person_init, D_Person_init⟩ := d.def_ 21 (d := d_Person_init) rfl
  obtain ⟨fd_l_pen, D_l_pen⟩ := d.def_ 25 (d := d_l_pen) rfl
  obtain ⟨fd_l_draw, D_l_draw⟩ := d.def_ 26 (d := d_l_draw) rfl
  obtain ⟨fd_l_names, D_l_names⟩ := d.def_ 27 (d := d_l_names) rfl
  obtain ⟨fd_l_word, D_l_word⟩ := d.def_ 28 (d := d_l_word) rfl
  obtain ⟨fd_l_field, D_l_field⟩ := d.def_ 29 (d := d_l_field) rfl
  obtain ⟨fd_l_got, D_l_got⟩ := d.def_ 30 (d := d_l_got) rfl
  obtain ⟨fd_l_things, D_l_things⟩ := d.def_ 31 (d := d_l_things) rfl
  obtain ⟨fd_l_signs, D_l_signs⟩ := d.def_ 32 (d := d_l_signs) rfl
  obtain ⟨fd_l_called, D_l_called⟩ := d.def_ 33 (d := d_l_called) rfl
  obtain ⟨fd_l_number, D_l_number⟩ := d.def_ 34 (d := d_l_number) rfl
  obtain ⟨fd_l_is_name, D_l_is_name⟩ := d.def_ 35 (d := d_l_is_name) rfl
  obtain ⟨fd_l_is_up_to, D_l_is_up_to⟩ := d.def_ 36 (d := d_l_is_up_to) rfl
  obtain ⟨fd_l_due, D_l_due⟩ := d.def_ 37 (d := d_l_due) rfl
  obtain ⟨fd_l_met, D_l_met⟩ := d.def_ 38 (d := d_l_met) rfl
  obtain ⟨fd_l_right, D_l_right⟩ := d.def_ 39 (d := d_l_right) rfl
  obtain ⟨fd_law, D_law⟩ := d.def_ 40 (d := d_law) rfl
  have e := hfa.symm.trans gl_law
  cases e
  have bL := FunD.bindsA (ps := ["_law_script"]) D_law fun _ _ _ _ _ _ us hl => match us, hl with | [_], _ => rfl
  refine ⟨fd_law, fun s v => bL s [v] rfl, fun base _ _ TB => ?_⟩
  have b_BadName_init : Binds K fd_BadName_init ["self", "name"] [] := D_BadName_init.bindsN fun _ _ _ _ _ _ us hl => match us, hl with | [_, _], _ => rfl
  have b_NoNumber_init : Binds K fd_NoNumber_init ["self", "thing"] [] := D_NoNumber_init.bindsN fun _ _ _ _ _ _ us hl => match us, hl with | [_, _], _ => rfl
  have b_is_whole : Binds K fd_is_whole ["thing"] [] := D_is_whole.bindsN fun _ _ _ _ _ _ us hl => match us, hl with | [_], _ => rfl
  have b_is_between : Binds K fd_is_between ["thing", "low", "high"] [] := D_is_between.bindsN fun _ _ _ _ _ _ us hl => match us, hl with | [_, _, _], _ => rfl
  have b_is_name : Binds K fd_is_name ["thing"] [] := D_is_name.bindsN fun _ _ _ _ _ _ us hl => match us, hl with | [_], _ => rfl
  have b_is_mask : Binds K fd_is_mask ["thing"] [] := D_is_mask.bindsN fun _ _ _ _ _ _ us hl => match us, hl with | [_], _ => rfl
  have b_Person_init : Binds K fd_Person_init ["self", "name", "seats", "mask"] [] := by
    obtain ⟨ds, h1, h2⟩ := D_Person_init.binds1 (ps := ["self", "name", "seats", "mask"]) 4 2 (List.cons_ne_nil _ _) rfl (fun T kV doc pm an cdv ct us its hl h1 => match us, hl, its, h1 with | [_, _, _, _], _, [_, _], _ => ⟨_, rfl, rfl⟩)
    cases h1
    exact h2
  obtain ⟨ds2_Person_init, v2_Person_init, b2_Person_init⟩ := D_Person_init.binds1 (ps := ["self", "name", "seats", "mask"]) 2 0 (List.cons_ne_nil _ _) rfl (fun T kV doc pm an cdv ct us its hl h1 => match us, hl, its, h1 with | [_, _], _, [_, _], _ => ⟨_, rfl, rfl⟩)
  obtain ⟨ds1_Person_init, v1_Person_init, b1_Person_init⟩ := D_Person_init.binds1 (ps := ["self", "name", "seats", "mask"]) 3 1 (List.cons_ne_nil _ _) rfl (fun T kV doc pm an cdv ct us its hl h1 => match us, hl, its, h1 with | [_, _, _], _, [_, _], _ => ⟨_, rfl, rfl⟩)
  have b_l_pen : Binds K fd_l_pen ["_law_script"] [] := D_l_pen.bindsN fun _ _ _ _ _ _ us hl => match us, hl with | [_], _ => rfl
  have b_l_draw : Binds K fd_l_draw ["_law_pen_here", "_law_many"] [] := D_l_draw.bindsN fun _ _ _ _ _ _ us hl => match us, hl with | [_, _], _ => rfl
  have b_l_names : Binds K fd_l_names ["_law_pen_here", "_law_many"] [] := D_l_names.bindsN fun _ _ _ _ _ _ us hl => match us, hl with | [_, _], _ => rfl
  have b_l_word : Binds K fd_l_word ["_law_e"] [] := D_l_word.bindsN fun _ _ _ _ _ _ us hl => match us, hl with | [_], _ => rfl
  have b_l_field : Binds K fd_l_field ["_law_e"] [] := D_l_field.bindsN fun _ _ _ _ _ _ us hl => match us, hl with | [_], _ => rfl
  have b_l_got : Binds K fd_l_got ["_law_deed"] [] := D_l_got.bindsN fun _ _ _ _ _ _ us hl => match us, hl with | [_], _ => rfl
  have b_l_things : Binds K fd_l_things [] [] := D_l_things.bindsN fun _ _ _ _ _ _ us hl => match us, hl with | [], _ => rfl
  have b_l_signs : Binds K fd_l_signs [] [] := D_l_signs.bindsN fun _ _ _ _ _ _ us hl => match us, hl with | [], _ => rfl
  have b_l_called : Binds K fd_l_called ["_law_pen_here"] [] := D_l_called.bindsN fun _ _ _ _ _ _ us hl => match us, hl with | [_], _ => rfl
  have b_l_number : Binds K fd_l_number ["_law_pen_here", "_law_most"] [] := D_l_number.bindsN fun _ _ _ _ _ _ us hl => match us, hl with | [_, _], _ => rfl
  have b_l_is_name : Binds K fd_l_is_name ["_law_thing"] [] := D_l_is_name.bindsN fun _ _ _ _ _ _ us hl => match us, hl with | [_], _ => rfl
  have b_l_is_up_to : Binds K fd_l_is_up_to ["_law_thing", "_law_most"] [] := D_l_is_up_to.bindsN fun _ _ _ _ _ _ us hl => match us, hl with | [_, _], _ => rfl
  have b_l_due : Binds K fd_l_due ["_law_called_here", "_law_places", "_law_days"] [] := D_l_due.bindsN fun _ _ _ _ _ _ us hl => match us, hl with | [_, _, _], _ => rfl
  have b_l_met : Binds K fd_l_met ["_law_deed"] [] := D_l_met.bindsN fun _ _ _ _ _ _ us hl => match us, hl with | [_], _ => rfl
  have b_l_right : Binds K fd_l_right ["_law_called_here", "_law_places", "_law_days"] [] := D_l_right.bindsN fun _ _ _ _ _ _ us hl => match us, hl with | [_, _, _], _ => rfl
  have b_law : Binds K fd_law ["_law_script"] [] := D_law.bindsN fun _ _ _ _ _ _ us hl => match us, hl with | [_], _ => rfl
  obtain ⟨xb, xn⟩ := Bool.and_eq_true_iff.mp (show (xkB K && xkN K) = true from x)
  obtain ⟨xGb, xVb, xFb, xCb, xMb, x16b, x7b⟩ := xkC_ok (show xkC K (He.ga K "BadName") veT "ValueError.__new__" "ValueError.__init__" "ValueError" owB abV = true from xb)
  obtain ⟨xGn, xVn, xFn, xCn, xMn, x16n, x7n⟩ := xkC_ok (show xkC K (He.ga K "NoNumber") veT "ValueError.__new__" "ValueError.__init__" "ValueError" owN abV = true from xn)
  have B : Bl mg := ⟨fr_isinstance, fr_int, fr_bool, fr_str, fr_list, fr_range, fr_len, fr_all, fr_any, fr_max, fr_min⟩
  have T : ClP K mg (He.ga K "Person") := ⟨cls_Person, no_Person_name, no_Person_seats, no_Person_mask, gl_Person⟩
  have cW : CalW P w K mg base := cal_of (ok_whole D_is_whole B) gl_is_whole D_is_whole.kp b_is_whole
  have cBt : CalB P w K mg base := cal_of (ok_between D_is_between cW) gl_is_between D_is_between.kp b_is_between
  have cNa := cal_of (P := P) (w := w) (base := base) (ok_nm D_is_name B val_LONGEST_NAME) gl_is_name D_is_name.kp b_is_name
  have cMa := cal_of (ok_mask D_is_mask cBt val_LAST_MASK) gl_is_mask D_is_mask.kp b_is_mask
  have cP := cal_of (P := P) (w := w) (base := base) (ok_pen D_l_pen B) gl__law_pen D_l_pen.kp b_l_pen
  have cD : CalD P w K mg base := cal_of (ok_draw D_l_draw B) gl__law_draw D_l_draw.kp b_l_draw
  have cN := cal_of (ok_names D_l_names B cD) gl__law_names D_l_names.kp b_l_names
  have cSg := cal_of (P := P) (w := w) (base := base) (ok_sg D_l_signs) gl__law_signs D_l_signs.kp b_l_signs
  have cTh := cal_of (P := P) (w := w) (base := base) (ok_th D_l_things) gl__law_things D_l_things.kp b_l_things
  have cC := cal_of (ok_cd D_l_called B cD cN cSg cTh) gl__law_called D_l_called.kp b_l_called
  have cU := cal_of (ok_nu D_l_number B fr_str cD cTh) gl__law_number D_l_number.kp b_l_number
  have cLn := cal_of (P := P) (w := w) (base := base) (ok_ln D_l_is_name B) gl__law_is_name D_l_is_name.kp b_l_is_name
  have cUp := cal_of (P := P) (w := w) (base := base) (ok_up D_l_is_up_to B) gl__law_is_up_to D_l_is_up_to.kp b_l_is_up_to
  have cDu := cal_of (ok_due D_l_due cLn cUp) gl__law_due D_l_due.kp b_l_due
  have cWd := cal_of (P := P) (w := w) (base := base) (ok_wdA D_l_word B) gl__law_word D_l_word.kp b_l_word
  have cFd := cal_of (P := P) (w := w) (base := base) (ok_fdA D_l_field B) gl__law_field D_l_field.kp b_l_field
  have KvB : Kv K mg (He.ga K "BadName") (He.ma K (He.ga K "BadName") "__init__") "BadName" "name" := ⟨xGb, me_BadName_init.1, eq_of_beq me_BadName_init.2, xVb, no_BadName_name, gl_BadName, fr_ValueError, xFb⟩
  have KvN : Kv K mg (He.ga K "NoNumber") (He.ma K (He.ga K "NoNumber") "__init__") "NoNumber" "thing" := ⟨xGn, me_NoNumber_init.1, eq_of_beq me_NoNumber_init.2, xVn, no_NoNumber_thing, gl_NoNumber, fr_ValueError, xFn⟩
  have EG : ∀ x ∈ ex16, mg x = some (.ref (He.ga K x)) := fun x hx => by
    simp only [List.mem_cons, List.not_mem_nil, or_false] at hx
    rcases hx with rfl | rfl | rfl | rfl | rfl | rfl | rfl | rfl | rfl | rfl | rfl | rfl | rfl | rfl | rfl | rfl
    · exact gl_NoKind
    · exact gl_Nought
    · exact gl_NoShare
    · exact gl_Uneven
    · exact gl_BadName
    · exact gl_NoNumber
    · exact gl_NoRide
    · exact gl_NoText
    · exact gl_NoName
    · exact gl_NoDay
    · exact gl_NoSeats
    · exact gl_TooMany
    · exact gl_Taken
    · exact gl_NoRule
    · exact gl_NothingDone
    · exact gl_NoRow
  have ET : ∀ x ∈ ex7, mg (Str.ofString x) = none := fun x hx => by
    simp only [List.mem_cons, List.not_mem_nil, or_false] at hx
    rcases hx with rfl | rfl | rfl | rfl | rfl | rfl | rfl
    · exact fr_ValueError
    · exact fr_KeyError
    · exact fr_IndexError
    · exact fr_LookupError
    · exact fr_ArithmeticError
    · exact fr_RuntimeError
    · exact fr_TypeError
  have RB : Rf K mg (He.ga K "BadName") owB abV "bad" "name" := ⟨⟨EG, ET, xCb, x16b, x7b⟩, xMb, wordB, clB, fldB, xFb, no_BadName_name, fun v => rfl⟩
  have RN : Rf K mg (He.ga K "NoNumber") owN abV "number" "thing" := ⟨⟨EG, ET, xCn, x16n, x7n⟩, xMn, wordN, clN, fldN, xFn, no_NoNumber_thing, fun v => rfl⟩
  have FB := ok_BN (P := P) (w := w) (base := base) D_BadName_init KvB
  have FN := ok_NN (P := P) (w := w) (base := base) D_NoNumber_init KvN
  have FP := ok_px D_Person_init cNa cBt cMa T val_MOST_SEATS KvB FB b_BadName_init KvN FN b_NoNumber_init
  obtain ⟨_, k1⟩ := KW.kb1 (ps := psP) D_Person_init 1 ["mask", "name", "seats"] (fun us its ws => us ++ (ws.drop 1 ++ ws.take 1)) (List.cons_ne_nil _ _) (fun r _ s => r.append ((s.drop 1).append (s.take 1))) (fun T kV doc pm an cdv ct us its ws h1 h2 h3 => match us, h1, its, h2, ws, h3 with | [_], _, [_, _], _, [_, _, _], _ => ⟨_, rfl, rfl⟩)
  obtain ⟨_, k2⟩ := KW.kb1 (ps := psP) D_Person_init 2 ["mask", "seats"] (fun us its ws => us ++ ws.reverse) (List.cons_ne_nil _ _) (fun r _ s => r.append (KW.vals_rev s)) (fun T kV doc pm an cdv ct us its ws h1 h2 h3 => match us, h1, its, h2, ws, h3 with | [_, _], _, [_, _], _, [_, _], _ => ⟨_, rfl, rfl⟩)
  obtain ⟨i3, k3⟩ := KW.kb1 (ps := psP) D_Person_init 2 ["mask"] (fun us its ws => us ++ (its.take 1 ++ ws)) (List.cons_ne_nil _ _) (fun r d s => r.append ((d.take 1).append s)) (fun T kV doc pm an cdv ct us its ws h1 h2 h3 => match us, h1, its, h2, ws, h3 with | [_, _], _, [_, _], _, [_], _ => ⟨_, rfl, rfl⟩)
  have cR : GL.CalG P w K mg base 11 "_law_right" (spRt K) [] := ⟨_, _, _, _, ok_rt D_l_right B fr_repr TB cDu cWd cFd T mk_Person FP b_Person_init b1_Person_init v1_Person_init k1 k2 k3 D_l_met gl__law_met D_l_met.kp b_l_met D_l_got gl__law_got D_l_got.kp b_l_got EG RB RN, gl__law_right, D_l_right.kp, b_l_right, .nil⟩
  exact ok_law D_law B cP cD cN cC cU cTh cR
end K09
open PySem PySem.W PySem.Calls PyProof.Rows
set_option maxRecDepth 100000 in
set_option maxHeartbeats 0 in
theorem PySem.Challenge.cw_rideturns_k09_what_is_no_person_holds : PySem.Challenge.rw_rideturns_k09_what_is_no_person.Holds := by
  w_on; o_law
  refine HandSHeadRun.head_any (r := OpenLaw.row PySem.Challenge.rw_rideturns_k09_what_is_no_person) (q := view (OpenLaw.row PySem.Challenge.rw_rideturns_k09_what_is_no_person).prog [45]) (H := K09.hk) (ob := K09.ob) (M := 8000) (loose := K09.loose) (d := HandSHeadRun.topDef (OpenLaw.row PySem.Challenge.rw_rideturns_k09_what_is_no_person).prog 45) (kwd := []) K09.ob_eq
    (by kernel_rfl) (fun s => by kernel_rfl) K09.run_ (by kernel_rfl) (by kernel_rfl) (by kernel_rfl) (by rfl) (by first | assumption | decide +kernel) (by decide +kernel) ⟨rfl, rfl, rfl, rfl, rfl, by decide +kernel⟩ ?hw ?hc
  case hw => w_witness2
  case hc =>
    refine GL.walkTG (l := PySem.Challenge.rw_rideturns_k09_what_is_no_person) (n := 63) (k := 12) (x := "_law_script") rfl (by decide) (by kernel_rfl) ⟨rfl, by decide, by decide⟩ ?F
    intro w mg fa h Y G hmg0
    obtain ⟨K, KX, c⟩ := Y
    have hmg : mg ("law" : PySem.Str) = some (.ref fa) := by
      have e : (HandSHeadRun.topDef (OpenLaw.row PySem.Challenge.rw_rideturns_k09_what_is_no_person).prog 45).name = ("law" : PySem.Str) := by kernel_rfl
      rw [← e]
      exact hmg0
    obtain ⟨fd, hb, hF⟩ := K09.facts (P := (PySem.Challenge.rw_rideturns_k09_what_is_no_person).prog) (w := w) KX G hmg c
    refine ⟨K, KX, fd, [He.cT K ("_law_right", none)], K09.spLaw K, fun p hp => ?_, fun p hp => ?_, fun p hp => ?_, hb, fun H a ns hl hT hS => ⟨a, ns, rfl, hS, hl, fun p hp => ?_, fun _ => rfl⟩, fun base k1 k2 TB => hF base k1 k2 (TB _ (List.mem_singleton.mpr rfl))⟩
    · rw [List.mem_singleton.mp hp]
      exact c.empty _ (List.mem_singleton.mpr rfl)
    · rw [List.mem_singleton.mp hp]
      exact c.out _ (List.mem_singleton.mpr rfl)
    · rw [List.mem_singleton.mp hp]
      exact PySem.W.codeHd_of_K KX (c.hd _ (List.mem_singleton.mpr rfl))
    · rw [List.mem_singleton.mp hp]
      exact LamX.TabS.nil (hT _ (List.mem_singleton.mpr rfl))
