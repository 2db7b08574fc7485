import PyProof.Rows.All
import Wide.All
import OpenK.AllK
import Wide.FinOn
import HandS.ForMost
import HandS.ForExc
import HandS.Defaults
import HandS.Codes
import HandS.IsInst
import HandS.Wide
import HandS.Flow
import HandS.Evl
import HandS.Steps
import HandS.ExcField
import HandS.Head0
import HandS.Head1
import HandS.Head2
import HandS.HeadEnd
import HandS.HeadHook1
import HandS.HeadHook2
import HandS.HeadHook3
import HandS.HeadHook4
import KE.KExcInit
import HandS.ExcInit
import HandS.Style
import HandS.Comp
import HandS.Text
import HandS.More
import PyProof.StrOps2
import HandS.Walk
import HandS.StrMore
import PyProof.WalkInts
import HandS.WideBits
import HandS.TupAny
import HandS.Words
import HandS.MakeKw
import HandS.MakeKwOnly
import PyProof.ListRange
import PyProof.RangeFor
import HandS.Conv
import HandS.Sort
import PySem.Challenge.RW_rideturns_k12_sick_ones_and_well_again
set_option Elab.async false
set_option linter.all false
set_option maxRecDepth 100000
set_option maxHeartbeats 4000000
namespace K12
open PySem PySem.Spec PyProof.Rows L2
def top (i : Nat) : Stmt := PySem.Challenge.pw_rideturns_k12_sick_ones_and_well_again.main.body.getD i (.Pass ⟨0, 0, 0, 0⟩)
abbrev s__wall : Stmt := top 0
abbrev N__wall : List Str := ["k"]
theorem sc__wall : FnScope N__wall ["k"] (defScope s__wall) := ⟨rfl, rfl, rfl, by decide +kernel, rfl, by decide +kernel, by decide +kernel⟩
def d__wall : He.DefD := ⟨("_wall", none), "_wall", "_wall", defArgs s__wall, defBody s__wall, defScope s__wall, [], []⟩
abbrev s_BadName_init : Stmt := inClass (top 2) 0
abbrev N_BadName_init : List Str := ["self", "name"]
theorem sc_BadName_init : FnScope N_BadName_init ["self", "name"] (defScope s_BadName_init) := ⟨rfl, rfl, rfl, by decide +kernel, rfl, by decide +kernel, by decide +kernel⟩
def d_BadName_init : He.DefD := ⟨("BadName", some "__init__"), "__init__", "BadName.__init__", defArgs s_BadName_init, defBody s_BadName_init, defScope s_BadName_init, [], []⟩
abbrev s_NoNumber_init : Stmt := inClass (top 3) 0
abbrev N_NoNumber_init : List Str := ["self", "thing"]
theorem sc_NoNumber_init : FnScope N_NoNumber_init ["self", "thing"] (defScope s_NoNumber_init) := ⟨rfl, rfl, rfl, by decide +kernel, rfl, by decide +kernel, by decide +kernel⟩
def d_NoNumber_init : He.DefD := ⟨("NoNumber", some "__init__"), "__init__", "NoNumber.__init__", defArgs s_NoNumber_init, defBody s_NoNumber_init, defScope s_NoNumber_init, [], []⟩
abbrev s_NoName_init : Stmt := inClass (top 4) 0
abbrev N_NoName_init : List Str := ["self", "name"]
theorem sc_NoName_init : FnScope N_NoName_init ["self", "name"] (defScope s_NoName_init) := ⟨rfl, rfl, rfl, by decide +kernel, rfl, by decide +kernel, by decide +kernel⟩
def d_NoName_init : He.DefD := ⟨("NoName", some "__init__"), "__init__", "NoName.__init__", defArgs s_NoName_init, defBody s_NoName_init, defScope s_NoName_init, [], []⟩
abbrev s_NoDay_init : Stmt := inClass (top 5) 0
abbrev N_NoDay_init : List Str := ["self", "day"]
theorem sc_NoDay_init : FnScope N_NoDay_init ["self", "day"] (defScope s_NoDay_init) := ⟨rfl, rfl, rfl, by decide +kernel, rfl, by decide +kernel, by decide +kernel⟩
def d_NoDay_init : He.DefD := ⟨("NoDay", some "__init__"), "__init__", "NoDay.__init__", defArgs s_NoDay_init, defBody s_NoDay_init, defScope s_NoDay_init, [], []⟩
abbrev s_Taken_init : Stmt := inClass (top 6) 0
abbrev N_Taken_init : List Str := ["self", "name"]
theorem sc_Taken_init : FnScope N_Taken_init ["self", "name"] (defScope s_Taken_init) := ⟨rfl, rfl, rfl, by decide +kernel, rfl, by decide +kernel, by decide +kernel⟩
def d_Taken_init : He.DefD := ⟨("Taken", some "__init__"), "__init__", "Taken.__init__", defArgs s_Taken_init, defBody s_Taken_init, defScope s_Taken_init, [], []⟩
abbrev s_is_whole : Stmt := top 11
abbrev N_is_whole : List Str := ["thing"]
theorem sc_is_whole : FnScope N_is_whole ["thing"] (defScope s_is_whole) := ⟨rfl, rfl, rfl, by decide +kernel, rfl, by decide +kernel, by decide +kernel⟩
def d_is_whole : He.DefD := ⟨("is_whole", none), "is_whole", "is_whole", defArgs s_is_whole, defBody s_is_whole, defScope s_is_whole, [], []⟩
abbrev s_is_between : Stmt := top 12
abbrev N_is_between : List Str := ["thing", "low", "high"]
theorem sc_is_between : FnScope N_is_between ["thing", "low", "high"] (defScope s_is_between) := ⟨rfl, rfl, rfl, by decide +kernel, rfl, by decide +kernel, by decide +kernel⟩
def d_is_between : He.DefD := ⟨("is_between", none), "is_between", "is_between", defArgs s_is_between, defBody s_is_between, defScope s_is_between, [], []⟩
abbrev s_is_name : Stmt := top 13
abbrev N_is_name : List Str := ["thing", "sign"]
theorem sc_is_name : FnScope N_is_name ["thing"] (defScope s_is_name) := ⟨rfl, rfl, rfl, by decide +kernel, rfl, by decide +kernel, by decide +kernel⟩
def d_is_name : He.DefD := ⟨("is_name", none), "is_name", "is_name", defArgs s_is_name, defBody s_is_name, defScope s_is_name, [], []⟩
abbrev s_is_day : Stmt := top 14
abbrev N_is_day : List Str := ["thing"]
theorem sc_is_day : FnScope N_is_day ["thing"] (defScope s_is_day) := ⟨rfl, rfl, rfl, by decide +kernel, rfl, by decide +kernel, by decide +kernel⟩
def d_is_day : He.DefD := ⟨("is_day", none), "is_day", "is_day", defArgs s_is_day, defBody s_is_day, defScope s_is_day, [], []⟩
abbrev s_is_mask : Stmt := top 15
abbrev N_is_mask : List Str := ["thing"]
theorem sc_is_mask : FnScope N_is_mask ["thing"] (defScope s_is_mask) := ⟨rfl, rfl, rfl, by decide +kernel, rfl, by decide +kernel, by decide +kernel⟩
def d_is_mask : He.DefD := ⟨("is_mask", none), "is_mask", "is_mask", defArgs s_is_mask, defBody s_is_mask, defScope s_is_mask, [], []⟩
abbrev s_check_day : Stmt := top 16
abbrev N_check_day : List Str := ["thing"]
theorem sc_check_day : FnScope N_check_day ["thing"] (defScope s_check_day) := ⟨rfl, rfl, rfl, by decide +kernel, rfl, by decide +kernel, by decide +kernel⟩
def d_check_day : He.DefD := ⟨("check_day", none), "check_day", "check_day", defArgs s_check_day, defBody s_check_day, defScope s_check_day, [], []⟩
abbrev s_check_span : Stmt := top 17
abbrev N_check_span : List Str := ["first", "last"]
theorem sc_check_span : FnScope N_check_span ["first", "last"] (defScope s_check_span) := ⟨rfl, rfl, rfl, by decide +kernel, rfl, by decide +kernel, by decide +kernel⟩
def d_check_span : He.DefD := ⟨("check_span", none), "check_span", "check_span", defArgs s_check_span, defBody s_check_span, defScope s_check_span, [], []⟩
abbrev s_mask_text : Stmt := top 20
abbrev N_mask_text : List Str := ["mask"]
theorem sc_mask_text : FnScope N_mask_text ["mask"] (defScope s_mask_text) := ⟨rfl, rfl, rfl, by decide +kernel, rfl, by decide +kernel, by decide +kernel⟩
def d_mask_text : He.DefD := ⟨("mask_text", none), "mask_text", "mask_text", defArgs s_mask_text, defBody s_mask_text, defScope s_mask_text, [], []⟩
abbrev s_weekdays : Stmt := top 21
abbrev N_weekdays : List Str := ["mask", "day"]
theorem sc_weekdays : FnScope N_weekdays ["mask"] (defScope s_weekdays) := ⟨rfl, rfl, rfl, by decide +kernel, rfl, by decide +kernel, by decide +kernel⟩
def d_weekdays : He.DefD := ⟨("weekdays", none), "weekdays", "weekdays", defArgs s_weekdays, defBody s_weekdays, defScope s_weekdays, [], []⟩
abbrev s_Wish_init : Stmt := inClass (top 23) 0
abbrev N_Wish_init : List Str := ["self", "person", "day"]
theorem sc_Wish_init : FnScope N_Wish_init ["self", "person", "day"] (defScope s_Wish_init) := ⟨rfl, rfl, rfl, by decide +kernel, rfl, by decide +kernel, by decide +kernel⟩
def d_Wish_init : He.DefD := ⟨("Wish", some "__init__"), "__init__", "Wish.__init__", defArgs s_Wish_init, defBody s_Wish_init, defScope s_Wish_init, [], []⟩
abbrev s_Wish_is_sick : Stmt := inClass (top 23) 1
abbrev N_Wish_is_sick : List Str := ["self", "day", "first", "last"]
theorem sc_Wish_is_sick : FnScope N_Wish_is_sick ["self", "day"] (defScope s_Wish_is_sick) := ⟨rfl, rfl, rfl, by decide +kernel, rfl, by decide +kernel, by decide +kernel⟩
def d_Wish_is_sick : He.DefD := ⟨("Wish", some "is_sick"), "is_sick", "Wish.is_sick", defArgs s_Wish_is_sick, defBody s_Wish_is_sick, defScope s_Wish_is_sick, [], []⟩
abbrev s_Wish_mask_on : Stmt := inClass (top 23) 2
abbrev N_Wish_mask_on : List Str := ["self", "day", "start"]
theorem sc_Wish_mask_on : FnScope N_Wish_mask_on ["self", "day"] (defScope s_Wish_mask_on) := ⟨rfl, rfl, rfl, by decide +kernel, rfl, by decide +kernel, by decide +kernel⟩
def d_Wish_mask_on : He.DefD := ⟨("Wish", some "mask_on"), "mask_on", "Wish.mask_on", defArgs s_Wish_mask_on, defBody s_Wish_mask_on, defScope s_Wish_mask_on, [], []⟩
abbrev s_Wish_holds_on : Stmt := inClass (top 23) 3
abbrev N_Wish_holds_on : List Str := ["self", "day"]
theorem sc_Wish_holds_on : FnScope N_Wish_holds_on ["self", "day"] (defScope s_Wish_holds_on) := ⟨rfl, rfl, rfl, by decide +kernel, rfl, by decide +kernel, by decide +kernel⟩
def d_Wish_holds_on : He.DefD := ⟨("Wish", some "holds_on"), "holds_on", "Wish.holds_on", defArgs s_Wish_holds_on, defBody s_Wish_holds_on, defScope s_Wish_holds_on, [], []⟩
abbrev s_Wants_init : Stmt := inClass (top 24) 0
abbrev N_Wants_init : List Str := ["self"]
theorem sc_Wants_init : FnScope N_Wants_init ["self"] (defScope s_Wants_init) := ⟨rfl, rfl, rfl, by decide +kernel, rfl, by decide +kernel, by decide +kernel⟩
def d_Wants_init : He.DefD := ⟨("Wants", some "__init__"), "__init__", "Wants.__init__", defArgs s_Wants_init, defBody s_Wants_init, defScope s_Wants_init, [], []⟩
abbrev s_Wants_wish_of : Stmt := inClass (top 24) 1
abbrev N_Wants_wish_of : List Str := ["self", "name"]
theorem sc_Wants_wish_of : FnScope N_Wants_wish_of ["self", "name"] (defScope s_Wants_wish_of) := ⟨rfl, rfl, rfl, by decide +kernel, rfl, by decide +kernel, by decide +kernel⟩
def d_Wants_wish_of : He.DefD := ⟨("Wants", some "wish_of"), "wish_of", "Wants.wish_of", defArgs s_Wants_wish_of, defBody s_Wants_wish_of, defScope s_Wants_wish_of, [], []⟩
abbrev s_Wants_enter : Stmt := inClass (top 24) 2
abbrev N_Wants_enter : List Str := ["self", "person", "day"]
theorem sc_Wants_enter : FnScope N_Wants_enter ["self", "person", "day"] (defScope s_Wants_enter) := ⟨rfl, rfl, rfl, by decide +kernel, rfl, by decide +kernel, by decide +kernel⟩
def d_Wants_enter : He.DefD := ⟨("Wants", some "enter"), "enter", "Wants.enter", defArgs s_Wants_enter, defBody s_Wants_enter, defScope s_Wants_enter, [.int 0], []⟩
abbrev s_Wants_leave : Stmt := inClass (top 24) 3
abbrev N_Wants_leave : List Str := ["self", "name", "day", "wish"]
theorem sc_Wants_leave : FnScope N_Wants_leave ["self", "name", "day"] (defScope s_Wants_leave) := ⟨rfl, rfl, rfl, by decide +kernel, rfl, by decide +kernel, by decide +kernel⟩
def d_Wants_leave : He.DefD := ⟨("Wants", some "leave"), "leave", "Wants.leave", defArgs s_Wants_leave, defBody s_Wants_leave, defScope s_Wants_leave, [], []⟩
abbrev s_Wants_weekly : Stmt := inClass (top 24) 4
abbrev N_Wants_weekly : List Str := ["self", "name", "mask", "day"]
theorem sc_Wants_weekly : FnScope N_Wants_weekly ["self", "name", "mask", "day"] (defScope s_Wants_weekly) := ⟨rfl, rfl, rfl, by decide +kernel, rfl, by decide +kernel, by decide +kernel⟩
def d_Wants_weekly : He.DefD := ⟨("Wants", some "weekly"), "weekly", "Wants.weekly", defArgs s_Wants_weekly, defBody s_Wants_weekly, defScope s_Wants_weekly, [.int 0], []⟩
abbrev s_Wants_only : Stmt := inClass (top 24) 5
abbrev N_Wants_only : List Str := ["self", "name", "day", "want", "wish"]
theorem sc_Wants_only : FnScope N_Wants_only ["self", "name", "day", "want"] (defScope s_Wants_only) := ⟨rfl, rfl, rfl, by decide +kernel, rfl, by decide +kernel, by decide +kernel⟩
def d_Wants_only : He.DefD := ⟨("Wants", some "only"), "only", "Wants.only", defArgs s_Wants_only, defBody s_Wants_only, defScope s_Wants_only, [.bl true], []⟩
abbrev s_Wants_usual : Stmt := inClass (top 24) 6
abbrev N_Wants_usual : List Str := ["self", "name", "day", "wish"]
theorem sc_Wants_usual : FnScope N_Wants_usual ["self", "name", "day"] (defScope s_Wants_usual) := ⟨rfl, rfl, rfl, by decide +kernel, rfl, by decide +kernel, by decide +kernel⟩
def d_Wants_usual : He.DefD := ⟨("Wants", some "usual"), "usual", "Wants.usual", defArgs s_Wants_usual, defBody s_Wants_usual, defScope s_Wants_usual, [], []⟩
abbrev s_Wants_sick : Stmt := inClass (top 24) 7
abbrev N_Wants_sick : List Str := ["self", "name", "first", "last", "wish"]
theorem sc_Wants_sick : FnScope N_Wants_sick ["self", "name", "first", "last"] (defScope s_Wants_sick) := ⟨rfl, rfl, rfl, by decide +kernel, rfl, by decide +kernel, by decide +kernel⟩
def d_Wants_sick : He.DefD := ⟨("Wants", some "sick"), "sick", "Wants.sick", defArgs s_Wants_sick, defBody s_Wants_sick, defScope s_Wants_sick, [], []⟩
abbrev s_Wants_well : Stmt := inClass (top 24) 8
abbrev N_Wants_well : List Str := ["self", "name", "day", "wish", "first", "last"]
theorem sc_Wants_well : FnScope N_Wants_well ["self", "name", "day"] (defScope s_Wants_well) := ⟨rfl, rfl, rfl, by decide +kernel, rfl, by decide +kernel, by decide +kernel⟩
def d_Wants_well : He.DefD := ⟨("Wants", some "well"), "well", "Wants.well", defArgs s_Wants_well, defBody s_Wants_well, defScope s_Wants_well, [], []⟩
abbrev s_Wants_wants : Stmt := inClass (top 24) 9
abbrev N_Wants_wants : List Str := ["self", "name", "day", "wish"]
theorem sc_Wants_wants : FnScope N_Wants_wants ["self", "name", "day"] (defScope s_Wants_wants) := ⟨rfl, rfl, rfl, by decide +kernel, rfl, by decide +kernel, by decide +kernel⟩
def d_Wants_wants : He.DefD := ⟨("Wants", some "wants"), "wants", "Wants.wants", defArgs s_Wants_wants, defBody s_Wants_wants, defScope s_Wants_wants, [], []⟩
abbrev s_Wants_riders : Stmt := inClass (top 24) 10
abbrev N_Wants_riders : List Str := ["self", "day"]
theorem sc_Wants_riders : FnScope N_Wants_riders ["self", "day"] (defScope s_Wants_riders) := ⟨rfl, rfl, rfl, by decide +kernel, rfl, by decide +kernel, by decide +kernel⟩
def d_Wants_riders : He.DefD := ⟨("Wants", some "riders"), "riders", "Wants.riders", defArgs s_Wants_riders, defBody s_Wants_riders, defScope s_Wants_riders, [], []⟩
abbrev s_Wants_room : Stmt := inClass (top 24) 11
abbrev N_Wants_room : List Str := ["self", "day"]
theorem sc_Wants_room : FnScope N_Wants_room ["self", "day"] (defScope s_Wants_room) := ⟨rfl, rfl, rfl, by decide +kernel, rfl, by decide +kernel, by decide +kernel⟩
def d_Wants_room : He.DefD := ⟨("Wants", some "room"), "room", "Wants.room", defArgs s_Wants_room, defBody s_Wants_room, defScope s_Wants_room, [], []⟩
abbrev s_Person_init : Stmt := inClass (top 27) 0
abbrev N_Person_init : List Str := ["self", "name", "seats", "mask"]
theorem sc_Person_init : FnScope N_Person_init ["self", "name", "seats", "mask"] (defScope s_Person_init) := ⟨rfl, rfl, rfl, by decide +kernel, rfl, by decide +kernel, by decide +kernel⟩
def d_Person_init : He.DefD := ⟨("Person", some "__init__"), "__init__", "Person.__init__", defArgs s_Person_init, defBody s_Person_init, defScope s_Person_init, [.int 0, .int 31], []⟩
abbrev s_Person_eq : Stmt := inClass (top 27) 1
abbrev N_Person_eq : List Str := ["self", "other"]
theorem sc_Person_eq : FnScope N_Person_eq ["self", "other"] (defScope s_Person_eq) := ⟨rfl, rfl, rfl, by decide +kernel, rfl, by decide +kernel, by decide +kernel⟩
def d_Person_eq : He.DefD := ⟨("Person", some "__eq__"), "__eq__", "Person.__eq__", defArgs s_Person_eq, defBody s_Person_eq, defScope s_Person_eq, [], []⟩
abbrev s_Person_str : Stmt := inClass (top 27) 2
abbrev N_Person_str : List Str := ["self"]
theorem sc_Person_str : FnScope N_Person_str ["self"] (defScope s_Person_str) := ⟨rfl, rfl, rfl, by decide +kernel, rfl, by decide +kernel, by decide +kernel⟩
def d_Person_str : He.DefD := ⟨("Person", some "__str__"), "__str__", "Person.__str__", defArgs s_Person_str, defBody s_Person_str, defScope s_Person_str, [], []⟩
abbrev s_Person_repr : Stmt := inClass (top 27) 3
abbrev N_Person_repr : List Str := ["self"]
theorem sc_Person_repr : FnScope N_Person_repr ["self"] (defScope s_Person_repr) := ⟨rfl, rfl, rfl, by decide +kernel, rfl, by decide +kernel, by decide +kernel⟩
def d_Person_repr : He.DefD := ⟨("Person", some "__repr__"), "__repr__", "Person.__repr__", defArgs s_Person_repr, defBody s_Person_repr, defScope s_Person_repr, [], []⟩
abbrev s_l_pen : Stmt := top 29
abbrev N_l_pen : List Str := ["_law_script"]
theorem sc_l_pen : FnScope N_l_pen ["_law_script"] (defScope s_l_pen) := ⟨rfl, rfl, rfl, by decide +kernel, rfl, by decide +kernel, by decide +kernel⟩
def d_l_pen : He.DefD := ⟨("_law_pen", none), "_law_pen", "_law_pen", defArgs s_l_pen, defBody s_l_pen, defScope s_l_pen, [], []⟩
abbrev s_l_draw : Stmt := top 30
abbrev N_l_draw : List Str := ["_law_pen_here", "_law_many", "_law_found", "_law_at", "_law_cell", "_law_number"]
theorem sc_l_draw : FnScope N_l_draw ["_law_pen_here", "_law_many"] (defScope s_l_draw) := ⟨rfl, rfl, rfl, by decide +kernel, rfl, by decide +kernel, by decide +kernel⟩
def d_l_draw : He.DefD := ⟨("_law_draw", none), "_law_draw", "_law_draw", defArgs s_l_draw, defBody s_l_draw, defScope s_l_draw, [], []⟩
abbrev s_l_names : Stmt := top 31
abbrev N_l_names : List Str := ["_law_pen_here", "_law_many", "_law_letters", "_law_words", "_law_size", "_law_k", "_law_base", "_law_at", "_law_spot", "_law_way", "_law_found", "_law_word"]
theorem sc_l_names : FnScope N_l_names ["_law_pen_here", "_law_many"] (defScope s_l_names) := ⟨rfl, rfl, rfl, by decide +kernel, rfl, by decide +kernel, by decide +kernel⟩
def d_l_names : He.DefD := ⟨("_law_names", none), "_law_names", "_law_names", defArgs s_l_names, defBody s_l_names, defScope s_l_names, [], []⟩
abbrev s_l_span : Stmt := top 32
abbrev N_l_span : List Str := ["_law_pen_here", "_law_told_here", "_law_base", "_law_begin", "_law_far", "_law_one", "_law_other", "_law_spots"]
theorem sc_l_span : FnScope N_l_span ["_law_pen_here", "_law_told_here", "_law_base"] (defScope s_l_span) := ⟨rfl, rfl, rfl, by decide +kernel, rfl, by decide +kernel, by decide +kernel⟩
def d_l_span : He.DefD := ⟨("_law_span", none), "_law_span", "_law_span", defArgs s_l_span, defBody s_l_span, defScope s_l_span, [], []⟩
abbrev s_l_turns : Stmt := top 33
abbrev N_l_turns : List Str := ["_law_pen_here", "_law_known", "_law_base", "_law_found", "_law_told_here", "_law_turn", "_law_called", "_law_way", "_law_spots", "_law_span_here"]
theorem sc_l_turns : FnScope N_l_turns ["_law_pen_here", "_law_known", "_law_base"] (defScope s_l_turns) := ⟨rfl, rfl, rfl, by decide +kernel, rfl, by decide +kernel, by decide +kernel⟩
def d_l_turns : He.DefD := ⟨("_law_turns", none), "_law_turns", "_law_turns", defArgs s_l_turns, defBody s_l_turns, defScope s_l_turns, [], []⟩
abbrev s_l_counted : Stmt := top 34
abbrev N_l_counted : List Str := ["_law_turns_here", "_law_called", "_law_days", "_law_sick", "_law_alone", "_law_turn", "_law_today"]
theorem sc_l_counted : FnScope N_l_counted ["_law_turns_here", "_law_called", "_law_days"] (defScope s_l_counted) := ⟨rfl, rfl, rfl, by decide +kernel, rfl, by decide +kernel, by decide +kernel⟩
def d_l_counted : He.DefD := ⟨("_law_counted", none), "_law_counted", "_law_counted", defArgs s_l_counted, defBody s_l_counted, defScope s_l_counted, [], []⟩
abbrev s_l_told : Stmt := top 35
abbrev N_l_told : List Str := ["_law_kept", "_law_turn", "_law_is_named"]
theorem sc_l_told : FnScope N_l_told ["_law_kept", "_law_turn", "_law_is_named"] (defScope s_l_told) := ⟨rfl, rfl, rfl, by decide +kernel, rfl, by decide +kernel, by decide +kernel⟩
def d_l_told : He.DefD := ⟨("_law_told", none), "_law_told", "_law_told", defArgs s_l_told, defBody s_l_told, defScope s_l_told, [], []⟩
abbrev s_law : Stmt := top 36
abbrev N_law : List Str := ["_law_script", "_law_pen_here", "_law_base", "_law_kept", "_law_known", "_law_masks", "_law_called", "_law_turns_here", "_law_k", "_law_days", "_law_many", "_law_turn", "_law_sick", "_law_alone", "_law_today", "_law_due"]
theorem sc_law : FnScope N_law ["_law_script"] (defScope s_law) := ⟨rfl, rfl, rfl, by decide +kernel, rfl, by decide +kernel, by decide +kernel⟩
def d_law : He.DefD := ⟨("law", none), "law", "law", defArgs s_law, defBody s_law, defScope s_law, [], []⟩
def fn : List He.DefD := [d__wall, d_BadName_init, d_NoNumber_init, d_NoName_init, d_NoDay_init, d_Taken_init, d_is_whole, d_is_between, d_is_name, d_is_day, d_is_mask, d_check_day, d_check_span, d_mask_text, d_weekdays, d_Wish_init, d_Wish_is_sick, d_Wish_mask_on, d_Wish_holds_on, d_Wants_init, d_Wants_wish_of, d_Wants_enter, d_Wants_leave, d_Wants_weekly, d_Wants_only, d_Wants_usual, d_Wants_sick, d_Wants_well, d_Wants_wants, d_Wants_riders, d_Wants_room, d_Person_init, d_Person_eq, d_Person_str, d_Person_repr, d_l_pen, d_l_draw, d_l_names, d_l_span, d_l_turns, d_l_counted, d_l_told, d_law]
end K12
set_option Elab.async false
set_option linter.all false
set_option maxRecDepth 100000
set_option maxHeartbeats 4000000
/-! GX: own exceptions over any built-in base, whose own __init__ calls the base's and stores a field. -/
namespace GX
open PySem PySem.Spec PyProof.Rows L2

/-- what the written part tells of the class -/
structure Gx (K : PySem.W.Frag) (C : Addr) (bmB : List Value) (nid : String) : Prop where
  over : PySem.W.excOver K C bmB = true
  made : PySem.W.excInitIn K C bmB nid = true
  hasd : ∃ cd, PySem.W.clsIn K C = some cd ∧ cd.hasDict = true
  sets : PySem.W.findIn K (.ref C) "__setattr__" = some (some (.builtin "object.__setattr__"))
  base : PySem.W.subIn K (.ref C) (.type "BaseException") = some true
  typ : PySem.W.typeIn K (.ref C) = some (.type "type")
  keep : PySem.W.keepIn K (.ref C) = true

section
open Builtin Builtin.ObjectAttr
variable {prog : Program} {w : World} {A : Around} {R : Result → Shared → Prop} {hp : Heap} {g : Array GenState} {d : Drawn} {t : Nat} {os : OsState} {B : String} {bmB : List Value}
theorem first_store {K : PySem.W.Frag} {name : Str} {tk : Tok} {v : Value} {x C : Addr} {fv : Array Value} {cd : ClassData} (SF : StoreFacts B bmB "object.__setattr__" "object")
    (X : K.In hp) (hx : hp.get? x = some { cls := .ref C, data := .fields fv }) (ho : PySem.W.excOver K C bmB = true) (hc : PySem.W.clsIn K C = some cd) (hd : cd.hasDict = true)
    (hf : PySem.W.findIn K (.ref C) name = some none)
    (post : ∀ h' tk' dx, (∀ b o, b ≠ x → hp.get? b = some o → h'.get? b = some o) → hp.objs.size ≤ dx → dx ≠ x →
      h'.get? x = some { cls := .ref C, dict := some dx, data := .fields fv } → h'.Ns1 dx (fun y => if y = name then some v else none) → R (.ok (.ret .none)) ⟨h', g, d, tk', os⟩) :
    codeAny (model prog w) A (.call (.builtin "object.__setattr__") ⟨[.ref x, .str name tk, v], []⟩) R ⟨hp, g, d, t, os⟩ := by
  have inst : PySem.W.InstAt hp x { cls := .ref C, data := .fields fv } C none := ⟨hx, rfl, rfl, trivial⟩
  have far : x ≠ hp.objs.size := Nat.ne_of_lt (Heap.lt_size hx)
  have lc : PySem.W.Looks (model prog w) hp (classData C) cd := PySem.W.looks_clsIn X hc
  refine PySem.W.osa_openX (r := none) SF X inst ho (by unfold PySem.W.takerIn; rw [hf]; rfl) fun b => ?_
  dsimp only
  obtain ⟨n1, n2, n3, n4, n5, n6, n7, n8, n9, n10, n11⟩ := cd
  dsimp only at hd
  subst hd
  unfold storeInOwnDict ownDictForStores
  repeat (first | with_reducible refine PySem.HandSPX.store_in_new ?_ ?_ | with_reducible refine wpAny_loadPart_at hx ?_ | with_reducible refine lc.at ?_ | wp_step)
  · exact ⟨_, #[], _, (Heap.get?_update_ne _ _ _ _ far.symm).trans (Heap.get?_push_at rfl rfl), rfl, fun e he => absurd he (by simp), fun _ => rfl⟩
  · intro h' tk' hn hs
    have hx1 : (hp.push { cls := .type "dict", data := .dict #[] }).get? x = some { cls := .ref C, data := .fields fv } := Heap.get?_push_of_some _ hx
    refine post h' tk' hp.objs.size (fun b o hb hob => ?_) (Nat.le_refl _) far.symm ?_ hn
    · have e1 := hs.2 b (Nat.ne_of_lt (Heap.lt_size hob))
      rw [e1, Heap.get?_update_ne _ _ _ _ hb]
      exact Heap.get?_push_of_some _ hob
    · rw [hs.2 x far]
      exact Heap.get?_update_self _ hx1 rfl
end

section
variable {X : Cx} {pins : List (Addr × Obj)} {σ : L2.St} {H : Hp} {s : Shared} {a C dx : Addr} {f : Str} {y : V} {u : Value} {Q : Unit → Shared → Prop} {E : Value → Shared → Prop} {A : Around} {B : String} {bmB : List Value} {nid iid : String}
/-- self.f = y, the first store -/
theorem put_first (SF : StoreFacts B bmB "object.__setattr__" "object") (T : Gx X.K C bmB nid) (I : Inv X pins σ H s) (e : H a = some (exo a C none)) (hno : PySem.W.findIn X.K (.ref C) f = some none) (ry : RelV y u)
    (post : ∀ dx s', H dx = none → dx ≠ a → Inv X pins σ (upd (upd H dx (exd dx [(f, y)])) a (exo a C (some dx))) s' → Q () s') : wpAny (model X.prog X.w) A (setAttr (.ref a) f u) Q E s := by
  obtain ⟨cd, hcd, hdd⟩ := T.hasd
  obtain ⟨t1, at1⟩ := exo_at I.hok e
  obtain ⟨hp, g, d, t, os⟩ := s
  refine PySem.W.set_plain I.kIn (ox := { cls := .ref C, dict := none, data := .fields #[.ref t1, .none, .none, .none, .bool false, .none] }) (od := none) ⟨at1, rfl, rfl, trivial⟩ T.sets ?_
  refine first_store SF I.kIn at1 T.over hcd hdd hno (fun h' tk' dx kp dn dne hx hn => ?_)
  have fresh : H dx = none := I.hok.fresh dn
  have old : ∀ {b : Addr} {o : Obj}, hp.get? b = some o → b ≠ dx := fun {b o} q => Nat.ne_of_lt (Nat.lt_of_lt_of_le (Heap.lt_size q) dn)
  have other : ∀ {b : Addr}, H b = none → b ≠ a := fun {b} n z => by
    rw [z, e] at n
    cases n
  have un : Un X.fs [] H (upd (upd H dx (exd dx [(f, y)])) a (exo a C (some dx))) hp h' := {
    keep := fun b o q n _ _ => kp b o (other n) q
    slot := fun b o q n _ _ => ⟨o.slots, kp b o (other n) q⟩
    free := fun b o q n _ => by rw [upd_ne (other n), upd_ne (old q)]; exact n
    there := fun b o q _ => by
      by_cases hb : b = a
      · exact ⟨_, hb ▸ hx⟩
      · exact ⟨o, kp b o hb q⟩
    tups := fun b xs q => by rw [upd_ne (at_ne e q exo_tup), upd_ne (ne_of_none q fresh)]; exact q
    frzs := fun b o v q => by rw [upd_ne (at_ne e q exo_frz), upd_ne (ne_of_none q fresh)]; exact q
    tbls := fun b ps q => ⟨#[], by rw [upd_ne (at_ne e q exo_tbl), upd_ne (ne_of_none q fresh), q]; simp⟩ }
  refine post dx _ fresh dne (I.un (t' := tk') un fun b o q => ?_)
  by_cases hb : b = a
  · subst hb
    rw [upd_same] at q
    cases q
    exact exo_ok hx
  · rw [upd_ne hb] at q
    by_cases hd : b = dx
    · subst hd
      rw [upd_same] at q
      cases q
      exact exd_ok hn (relO_put (fs := []) ry fun g => True.intro)
    · rw [upd_ne hd] at q
      refine (I.hok b o q).stay (fun c v hc z => kp c v ?_ z) (fun c hc => ?_) (fun c xs hc => ?_)
      · rcases hc with hc | hc
        · exact hc ▸ hb
        · exact at_ne e hc exo_own
      · rw [upd_ne (at_ne e hc exo_own), upd_ne (ne_of_none hc fresh)]; exact hc
      · rw [upd_ne (at_ne e hc exo_tup), upd_ne (ne_of_none hc fresh)]; exact hc
/-- Base.__init__(self, ..) -/
theorem base_init {us : List Value} {Q : Value → Shared → Prop} (FB : ExcBaseFacts B nid iid bmB) (T : Gx X.K C bmB nid) (I : Inv X pins σ H s) (e : H a = some (exo a C none)) (hl : us.length ≤ sizeLine) (post : ∀ s', Inv X pins σ H s' → Q .none s') :
    wpAny (model X.prog X.w) A (call (.builtin iid) (.ref a :: us)) Q E s := by
  obtain ⟨nm, N, qn, bs, bm, hdct, sn, sub, ab, col, dd, k0, k1, k2, k3, k5, hC, hT⟩ := PySem.W.excInit_of I.kIn T.made
  obtain ⟨t1, at1⟩ := exo_at I.hok e
  obtain ⟨hp, g, d, t, os⟩ := s
  refine wpAny_call (PySem.HandSPX.init_base FB hT hC at1 hl fun h' t2 kp hx => ?_)
  have J := I.write (t' := t) (x := a) (e := a) (o := exo a C none) (by rw [e]; exact True.intro) (.inl rfl) kp ⟨_, hx⟩ (exo_ok hx)
  have same : upd H a (exo a C none) = H := funext fun b => by
    by_cases hb : b = a
    · rw [hb, upd_same, e]
    · rw [upd_ne hb]
  rw [same] at J
  exact post _ J
end

/-! ### readings and rules -/
/-- Base.__init__(self, ..) -/
def tBi (K : PySem.W.Frag) (bmB : List Value) (nid : String) (ta : TA) : TE := fun σ H Q => ta σ H fun vs H1 => ∃ (a C : Addr) (ws : List V), vs = .ref a :: ws ∧ ws.length ≤ 1000 ∧ Gx K C bmB nid ∧ H1 a = some (exo a C none) ∧ Q .non H1
/-- self.f = e, the first one -/
def tPf (K : PySem.W.Frag) (bmB : List Value) (nid : String) (f : Str) (to te : TE) : TS := fun D σ H => te σ H fun y H1 => to σ H1 fun x H2 => ∃ a C : Addr, x = .ref a ∧ Gx K C bmB nid ∧ PySem.W.findIn K (.ref C) f = some none ∧
  H2 a = some (exo a C none) ∧ ∀ dx, H2 dx = none → dx ≠ a → D.nx σ (upd (upd H2 dx (exd dx [(f, y)])) a (exo a C (some dx)))
section
variable {X : Cx} {o e : Expr} {es : List Expr} {to te : TE} {ta : TA} {f : Str} {p p' p1 p2 pos : Pos} {B nid iid : String} {bmB : List Value} {x : Str}
theorem pe_bi {pl : Sem Bool} (FB : ExcBaseFacts B nid iid bmB) (hg : Gl X x) (hm : X.mg x = none) (hv : bootBuiltins x = some (.type B)) (ty : typeOf (.type B) = pure (.type "type"))
    (vV : PySem.W.findCls X.K (.type B) (.type "type") "__init__" = some (.val (.builtin iid))) (hb : PySem.W.handedIn (.builtin iid) = true) (hst : Manifest.isStub B = false) (ha : PA X (e :: es) ta)
    (hc : eval (.Call (.Attribute (.Name x p1) "__init__" p2) (e :: es) [] pos) X.env = (do
      let ov ← eval (.Name x p1) X.env
      standAt p2.atName
      let (f, first) ← holding [ov] (getMethod ov "__init__" pl)
      callWith pos f first (backTo pos (starEach (e :: es) X.env)) (backToKw pos (keywordEach [] X.env))) := by rfl)
    (hn : x ≠ "__name__" := by decide) (hd : (x == ("__debug__" : Str)) = false := by decide)
    (he : starEach (e :: es) X.env = (false, eval e X.env) :: starEach es X.env := by rfl) (hpl : (backTo pos (starEach es X.env)).any (·.1) = false := by rfl) :
    PE X (.Call (.Attribute (.Name x p1) "__init__" p2) (e :: es) [] pos) (tBi X.K bmB nid ta) := by
  refine ⟨fun pins s σ H Q I h => ?_⟩
  refine PySem.W.methodCall_KW (ld_blt I hg hm hv ?_ hn hd) hc
  obtain ⟨m, fr⟩ := I.fr
  refine PySem.W.method_type fr I.ok.mod.kin ty hst vV hb ?_
  show wpAny _ _ (callWith pos (Value.builtin iid) [] (backTo pos (starEach (e :: es) X.env)) []) _ _ _
  refine PyProof.Rows.callWith_method1 (thn (ha.run pos pins _ σ H _ (I.tok _) h) fun us s1 hh => ?_) he hpl
  obtain ⟨vs, H1, I1, r1, a, C, ws, ev, hl, T, ea, q⟩ := hh
  subst ev
  cases r1 with
  | @cons _ u0 _ ur ra rw' =>
    obtain rfl : u0 = Value.ref a := ra
    have hlen : ur.length ≤ sizeLine := by
      have := Paired.length rw'
      rw [sizeLine_eq]
      omega
    exact base_init FB T I1 ea hlen fun s' J => ⟨.non, H1, J, rfl, q⟩
theorem ps_pf (SF : StoreFacts B bmB "object.__setattr__" "object") (ho : PE X o to) (he : PE X e te) (hs : swapsWith e (some (.Attribute o f p')) pos.line X.env = pure false := by rfl) : PS X (.Assign [.Attribute o f p'] e pos) (tPf X.K bmB nid f to te) := by
  refine ⟨fun pins s σ H D I h => ?_⟩
  refine plainObj_wpAny_Assign_Attribute (thn (he.run pins s σ H _ I h) fun v s1 h1 => ?_) hs
  obtain ⟨y, H1, I1, r1, q1⟩ := h1
  refine thn (ho.run pins s1 σ H1 _ I1 q1) fun u s2 h2 => ?_
  obtain ⟨z, H2, I2, r2, a, C, ex, T, hno, ea, q⟩ := h2
  subst ex
  obtain rfl : u = Value.ref a := r2
  exact put_first SF T I2 ea hno r1 fun dx s' n ne J => ⟨σ, _, J, q dx n ne⟩
/-- C(e, ..) as what is raised, C's own __init__ keeping sp -/
theorem pmk_gx {CX : CXT} {C fI : Addr} {k : Nat} {fd : FuncData} {ps : List Str} {sp : Sp} {ds : List Value} {dvs : List V} (FB : ExcBaseFacts B nid iid bmB) (T : Gx X.K C bmB nid) (iC : PySem.W.findIn X.K (.ref C) "__init__" = some (some (.ref fI)))
    (tI : PySem.W.typeIn X.K (.ref fI) = some (.type "function"))
    (F1 : FnOk X.prog X.w X.K X.mg X.base CX k fI fd ps sp) (hr : Room (k + 1) X.A) (hb : Binds X.K fd ps ds) (hd : Vals dvs ds) (hx : Passes CX X (fun _ _ _ => False)) (hg : Gl X x) (hm : X.mg x = some (.ref C)) (ha : PA X (e :: es) ta)
    (hdb : (x == ("__debug__" : Str)) = false := by decide) (he : starEach (e :: es) X.env = (false, eval e X.env) :: starEach es X.env := by rfl) (hpl : (backTo pos (starEach es X.env)).any (·.1) = false := by rfl) :
    PMk X (.Call (.Name x p) (e :: es) [] pos) (tMkO C sp dvs ta) := by
  intro pins s σ H Q I h
  refine wpAny_Call_Name_kw (ld_glob I hg hm ?_ hdb)
  refine PySem.W.callWith_K (h₀ := X.base) I.ok.mod.kin T.keep (thn (ha.run pos pins s σ H _ I h) fun us s1 hh => ?_) he hpl
  obtain ⟨vs, H1, I1, r1, hz, q1⟩ := hh
  refine ⟨I1.kIn, ?_⟩
  show wpAny _ _ (call (.ref C) us) _ _ _
  obtain ⟨nm, N, qn, bs, bm, hdct, sn, sub, ab, col, dd, k0, k1, k2, k3, k5, hC, hT⟩ := PySem.W.excInit_of I1.kIn T.made
  obtain ⟨hp, g, dr, tk, os⟩ := s1
  have big : hp.objs.size ≤ hp.objs.size + 1 := Nat.le_succ _
  have hq := q1 (hp.objs.size + 1) (I1.hok.fresh big)
  have kk : ∀ b o, hp.get? b = some o → ((hp.push (PySem.W.kdv_tup us)).push (PySem.HandSPX.excO C hp.objs.size)).get? b = some o := fun b o z =>
    Heap.get?_push_of_some _ (Heap.get?_push_of_some _ z)
  have there : ((hp.push (PySem.W.kdv_tup us)).push (PySem.HandSPX.excO C hp.objs.size)).get? (hp.objs.size + 1) = some (PySem.HandSPX.excO C hp.objs.size) := by heap_get
  have I2 := I1.laid (t' := tk) (a := hp.objs.size + 1) (o := exo (hp.objs.size + 1) C none) (h' := (hp.push (PySem.W.kdv_tup us)).push (PySem.HandSPX.excO C hp.objs.size)) kk big (exo_ok there)
  have r2 : Vals (V.ref (hp.objs.size + 1) :: (vs ++ dvs)) (Value.ref (hp.objs.size + 1) :: (us ++ ds)) := .cons rfl (r1.append hd)
  have hl : (Value.ref (hp.objs.size + 1) :: us ++ ds).length = ps.length := by
    have e1 := r2.length
    rw [F1.len _ _ _ _ hq] at e1
    exact e1.symm
  have few : us.length ≤ sizeLine := by
    have := Paired.length r1
    rw [sizeLine_eq]
    omega
  refine wpAny_call (PySem.HandSPX.call_own FB hT hC (PySem.W.looks_findIn I1.kIn iC) (fun self => PySem.W.bind_fn I1.kIn self tI) few (codeAny_mono
    (F1.run _ X.stack _ _ ⟨Value.ref (hp.objs.size + 1) :: us, []⟩ (Value.ref (hp.objs.size + 1) :: (us ++ ds)) _ _ (fun _ _ _ => False) (hr.make C us []) (I2.env0.make C us []) (hb _ (Value.ref (hp.objs.size + 1) :: us) I2.kIn hl) r2 hq) fun r s' hq' => ?_))
  cases r with
  | error er => exact hx pins σ _ _ er s' I2 hq'
  | ok fl =>
    cases fl with
    | ret u =>
      obtain ⟨v, H2, os2, bare2, un2, hok2, rv, ev, d, fs, ea, ed, hd1, q2⟩ := hq'
      subst ev
      obtain ⟨h2, g2, d2, t2, os'⟩ := s'
      exact ⟨rv, mk_end (raises_own T.base T.typ) I1 big kk un2 hok2 os2 bare2 ea ed hd1 q2⟩
    | next => exact False.elim hq'
    | brk => exact False.elim hq'
    | cont => exact False.elim hq'
end
/-! ### the head's look at such a class -/
def hasDB (K : PySem.W.Frag) (C : Addr) : Bool := match PySem.W.clsIn K C with
  | some cd => cd.hasDict
  | none => false
def gxB (K : PySem.W.Frag) (C : Addr) (bmB : List Value) (nid : String) : Bool := PySem.W.excOver K C bmB && (PySem.W.excInitIn K C bmB nid && (hasDB K C &&
  (He.eqO (PySem.W.findIn K (.ref C) "__setattr__") (some (some (.builtin "object.__setattr__"))) && (decide (PySem.W.subIn K (.ref C) (.type "BaseException") = some true) &&
  (decide (PySem.W.typeIn K (.ref C) = some (.type "type")) && PySem.W.keepIn K (.ref C))))))
theorem gxB_ok {K : PySem.W.Frag} {C : Addr} {bmB : List Value} {nid : String} (h : gxB K C bmB nid = true) : Gx K C bmB nid := by
  unfold gxB at h
  simp only [Bool.and_eq_true, decide_eq_true_eq] at h
  obtain ⟨h1, h2, h3, h4, h5, h6, h7⟩ := h
  refine ⟨h1, h2, ?_, He.eqO_ok h4, h5, h6, h7⟩
  unfold hasDB at h3
  split at h3
  · rename_i cd e
    exact ⟨cd, e, h3⟩
  · cases h3
end GX
set_option Elab.async false
set_option linter.all false
set_option maxRecDepth 100000
set_option maxHeartbeats 4000000
namespace K12
open PySem PySem.Spec PyProof.Rows L2
open C8 (Cal Mak Met pe_c pe_mk pe_mt pe_mt0)
/-- a def of the text -/
abbrev Dn (K : PySem.W.Frag) (d : He.DefD) (f : Addr) (fd : FuncData) : Prop := FunD K d.name d.qual d.params d.body d.scope (d.dvs K) (d.kws K) f fd
/-- what the module's names are -/
structure Bl (mg : Str → Option Value) : Prop where
  isi : mg "isinstance" = none
  int : mg "int" = none
  bool : mg "bool" = none
  str : mg "str" = none
  list : mg "list" = none
  range : mg "range" = none
  len : mg "len" = none
  all : mg "all" = none
  any : mg "any" = none
  max : mg "max" = none
  min : mg "min" = none
theorem same_new {H : Hp} {p : Addr} {o : HO} (h : H p = none) : Same H (upd H p o) := fun a u e => by
  rw [upd_ne (ne_of_none e h)]
  exact e
theorem dpInts {K : PySem.W.Frag} {H : Hp} : ∀ ns : List Int, DpAll K H (ns.map V.int) (ns.map PyData.int)
  | [] => .nil
  | n :: ns => .cons (.int n) (dpInts ns)
theorem cb_l {i j : Int} (h1 : -(2 ^ 64) < i) (h2 : i < 2 ^ 64) : CMul i j := .inl ⟨h1, h2⟩
theorem cb_r {i j : Int} (h1 : -(2 ^ 64) < j) (h2 : j < 2 ^ 64) : CMul i j := .inr ⟨h1, h2⟩
/-- the pen at p, good for c draws more -/
def penL (l : Addr) (n m : Int) : List V := [.ref l, .int n, .int m]
def Pen (H : Hp) (p : Addr) (c : Nat) : Prop := ∃ (l : Addr) (ns : List Int) (n m : Int), H p = some (.lst (penL l n m)) ∧ H l = some (.lst (ns.map V.int)) ∧ l ≠ p ∧ 0 ≤ n ∧ n + c ≤ 1000000000
theorem Pen.weak {H : Hp} {p : Addr} {c c' : Nat} (hc : c' ≤ c) (x : Pen H p c) : Pen H p c' := by
  obtain ⟨l, ns, n, m, h1, h2, h3, h4, h5⟩ := x
  exact ⟨l, ns, n, m, h1, h2, h3, h4, by omega⟩
theorem Pen.same {H H' : Hp} {p : Addr} {c : Nat} (s : Same H H') (x : Pen H p c) : Pen H' p c := by
  obtain ⟨l, ns, n, m, h1, h2, h3⟩ := x
  exact ⟨l, ns, n, m, s _ _ h1, s _ _ h2, h3⟩
/-- all but the pen is kept, its cells stay where they are -/
def Kp (p : Addr) (H H' : Hp) : Prop := (∀ b o, H b = some o → b ≠ p → H' b = some o) ∧ ∀ l n m, H p = some (.lst (penL l n m)) → ∃ n' m', H' p = some (.lst (penL l n' m'))
theorem Kp.refl (p : Addr) (H : Hp) : Kp p H H := ⟨fun _ _ e _ => e, fun _ n m e => ⟨n, m, e⟩⟩
theorem Kp.trans {p : Addr} {H H1 H2 : Hp} (a : Kp p H H1) (b : Kp p H1 H2) : Kp p H H2 := ⟨fun c o e n => b.1 c o (a.1 c o e n) n, fun l n m e => let ⟨n', m', e'⟩ := a.2 l n m e; b.2 l n' m' e'⟩
theorem Kp.same {p : Addr} {H H1 : Hp} (a : Same H H1) : Kp p H H1 := ⟨fun c o e _ => a c o e, fun _ n m e => ⟨n, m, a _ _ e⟩⟩
theorem pen_inj {l l' : Addr} {n m n' m' : Int} (h : HO.lst (penL l n m) = HO.lst (penL l' n' m')) : l = l' := by
  injection h with h
  injection h with h _
  injection h
theorem Kp.put {p l : Addr} {H : Hp} {n m : Int} (n' m' : Int) (e : H p = some (.lst (penL l n m))) : Kp p H (upd H p (.lst (penL l n' m'))) := by
  refine ⟨fun c o z ne => by rw [upd_ne ne]; exact z, fun l' n1 m1 z => ⟨n', m', ?_⟩⟩
  rw [upd_same, pen_inj (Option.some.inj (z.symm.trans e))]
theorem Kp.new {p st : Addr} {H1 H2 : Hp} {o : HO} (k : Kp p H1 H2) (f : H1 st = none) : Kp p H1 (upd H2 st o) :=
  ⟨fun b u e ne => by rw [upd_ne (ne_of_none e f)]; exact k.1 b u e ne, fun l n m e => by
    obtain ⟨n', m', e'⟩ := k.2 l n m e
    exact ⟨n', m', by rw [upd_ne (ne_of_none e f)]; exact e'⟩⟩
/-- D is neither the pen nor its cells -/
def Off (p D : Addr) (H : Hp) : Prop := ∃ l n m, H p = some (.lst (penL l n m)) ∧ l ≠ D ∧ p ≠ D
theorem Off.kp {p D : Addr} {H H' : Hp} (x : Off p D H) (k : Kp p H H') : Off p D H' := by
  obtain ⟨la, n, m, e, n1, n2⟩ := x
  obtain ⟨n', m', e'⟩ := k.2 _ _ _ e
  exact ⟨la, n', m', e', n1, n2⟩
theorem Off.of {p D : Addr} {H : Hp} {c : Nat} (x : Pen H p c) (f : H D = none) : Off p D H := by
  obtain ⟨la, ns, n, m, e1, e2, _⟩ := x
  exact ⟨la, n, m, e1, ne_of_none e2 f, ne_of_none e1 f⟩
theorem Off.ne {p D : Addr} {H : Hp} (x : Off p D H) : D ≠ p := by
  obtain ⟨_, _, _, _, _, n⟩ := x
  exact n.symm
theorem Off.put {p D D' : Addr} {H : Hp} {o : HO} (x : Off p D H) (n : p ≠ D') : Off p D (upd H D' o) := by
  obtain ⟨la', n', m', e', n1, n2⟩ := x
  exact ⟨la', n', m', by rw [upd_ne n]; exact e', n1, n2⟩
theorem Pen.put {p D : Addr} {H : Hp} {o : HO} {c : Nat} (x : Pen H p c) (y : Off p D H) : Pen (upd H D o) p c := by
  obtain ⟨la, ns, n, m, e1, e2, e3⟩ := x
  obtain ⟨la', n', m', e', n1, n2⟩ := y
  cases pen_inj (Option.some.inj (e1.symm.trans e'))
  exact ⟨la, ns, n, m, by rw [upd_ne n2]; exact e1, by rw [upd_ne n1]; exact e2, e3⟩
section
variable {P : Program} {w : World} {K : PySem.W.Frag} {mg : Str → Option Value} {base : Heap} {f C : Addr} {fd : FuncData}
def spPen (K : PySem.W.Frag) : Sp := fun vs H Q _ => ∃ (a : Addr) (ns : List Int), vs = [.ref a] ∧ SqL K H a (ns.map V.int) ∧ ns.length ≤ 63 ∧ ∀ p H', Same H H' → H p = none → Pen H' p 900000000 → Q (.ref p) H'
theorem ok_pen (F : Dn K d_l_pen f fd) (b : Bl mg) : FnOk P w K mg base CX0 1 f fd ["_law_script"] (spPen K) := by
  refine F.ok sc_l_pen (fun vs H Q E h => ?_) (fun cdv A outer s H vs Q E hr h => ?_)
  · obtain ⟨a, ns, rfl, _⟩ := h
    rfl
  · obtain ⟨a, ns, rfl, hS, hlen, hQ⟩ := h
    refine ⟨_, PSs.nox (pss_one (ps_ret (pe_lst (pa_cons (pe_callTy call_list_of rfl b.list boot_list (pa_cons (pe_slice sl_list (pv 0) po_none (po_some pe_int)) pa_nil)) (pa_cons pe_int (pa_cons pe_int pa_nil)))))), ?_⟩
    refine ⟨_, rfl, 63, rfl, a, _, rfl, hS, fun q hq => ⟨q, _, rfl, Or.inl (SqL.of upd_same), fun l hl => ?_⟩⟩
    refine ⟨by show 3 ≤ sizeLine; decide, fun p hp => ?_⟩
    have e : cutV (ns.map V.int) none (some 63) = (ns.take 63).map V.int := by
      unfold cutV
      simp [HT.sIx, List.map_take]
    have s1 := same_new (o := .lst (cutV (ns.map V.int) none (some 63))) hq
    have s2 := same_new (o := .lst (cutV (ns.map V.int) none (some 63))) hl
    have s3 := same_new (o := .lst (penL l 0 0)) hp
    refine hQ p _ ((s1.trans s2).trans s3) ((s1.trans s2).free hp) ⟨l, ns.take 63, 0, 0, upd_same, ?_, ?_, by decide, by decide⟩
    · rw [← e]
      exact s3 _ _ upd_same
    · exact ne_of_none upd_same hp
def spDraw : Sp := fun vs H Q _ => ∃ (p : Addr) (c : Nat) (k : Int), vs = [.ref p, .int k] ∧ Pen H p (c + 1) ∧ 0 < k ∧ k < 1073741824 ∧
  ∀ r H', 0 ≤ r → r < k → Pen H' p c → Kp p H H' → Q (.int r) H'
theorem ok_draw (F : Dn K d_l_draw f fd) (b : Bl mg) : FnOk P w K mg base CX0 1 f fd ["_law_pen_here", "_law_many"] spDraw := by
  refine F.ok sc_l_draw (fun vs H Q E h => ?_) (fun cdv A outer s H vs Q E hr h => ?_)
  · obtain ⟨p, c, k, rfl, _⟩ := h
    rfl
  · obtain ⟨p, c, k, rfl, ⟨l, ns, n, m, hp, hl, nlp, hn, hc⟩, hk0, hk1, hQ⟩ := h
    have hu64 : (A.deeper (envOfC d_l_draw.qual d_l_draw.scope s.heap.objs.size f cdv)).units + 64 < cLine := by have := hr.un; omega
    refine ⟨_, PSs.nox (pss_cons (ps_if (pt_cmpR op_gt (pe_ix ix_list (pv 0) pe_int (fun _ _ => rfl)) pe_int (nomark _))
         (pss_cons (ps_set (i := 2) sc_l_draw.nd rfl (.inl rfl) (pe_op op_mod (pe_ix ix_list (pv 0) pe_int (fun _ _ => rfl)) (pv 1)))
         (pss_cons (ps_asg (pe_op op_fdiv (pe_ix ix_list (pv 0) pe_int (fun _ _ => rfl)) (pv 1)) (pg_sub (pv 0) pe_int set_list))
         (pss_one (ps_ret (pv 2))))) pss_nil)
      (pss_cons (ps_set (i := 3) sc_l_draw.nd rfl (.inl rfl) (pe_ix ix_list (pv 0) pe_int (fun _ _ => rfl)))
      (pss_cons (ps_asg (pe_op op_add (pv 3) pe_int) (pg_sub (pv 0) pe_int set_list))
      (pss_cons (ps_set (i := 4) sc_l_draw.nd rfl (.inl rfl) pe_int)
      (C8.pss_cut (ps_if (pt_cmpR (op_neD hu64) (pe_ix ix_list (pv 0) pe_int (fun _ _ => rfl)) (pe_lst pa_nil) (nomark _))
        (pss_one (ps_set (i := 4) sc_l_draw.nd rfl (.inl rfl) (pe_ix ix_list (pe_ix ix_list (pv 0) pe_int (fun _ _ => rfl)) (pe_op op_mod (pv 3) (pe_callB call_len_seq rfl b.len boot_len (pa_cons (pe_ix ix_list (pv 0) pe_int (fun _ _ => rfl)) pa_nil))) (fun _ _ => rfl)))) pss_nil)
      (pss_cons (ps_if (PW.pt (pw_and (pt_cmpR op_ge (pv 4) (pe_op op_pow pe_int pe_int) (nomark _)) (pw_and1 (pt_cmpR op_lt (pv 3) (pe_callB call_len_seq rfl b.len boot_len (pa_cons (pe_ix ix_list (pv 0) pe_int (fun _ _ => rfl)) pa_nil)) (nomark _)))))
         (pss_cons (ps_asg (pe_op op_fdiv (pv 4) (pv 1)) (pg_sub (pv 0) pe_int set_list))
         (pss_one (ps_ret (pe_op op_mod (pv 4) (pv 1))))) pss_nil)
      (pss_cons (ps_set (i := 5) sc_l_draw.nd rfl (.inl rfl) (pe_op op_mod (pe_op op_add (pe_op op_add (pe_op op_add (pe_op op_mul (pe_op op_mod (pv 4) pe_int) pe_int) (pe_op op_mul (pe_op op_mul pe_int (pv 3)) (pv 3))) (pe_op op_mul pe_int (pv 3))) pe_int) pe_int))
      (pss_cons (ps_set (i := 5) sc_l_draw.nd rfl (.inl rfl) (pe_op op_mod (pe_op op_mul (pv 5) (pe_op op_add (pe_op op_mod (pv 5) pe_int) pe_int)) pe_int))
      (pss_one (ps_ret (pe_op op_mod (pe_op op_fdiv (pe_op op_mod (pe_op op_add (pe_op op_mul (pv 5) pe_int) (pv 3)) pe_int) pe_int) (pv 1)))))))))))), ?_⟩
    have cM : ∀ x y : Int, 0 < y → (0 ≤ x % y ∧ x % y < y) := fun x y hy => ⟨Int.emod_nonneg _ (by omega), Int.emod_lt_of_pos _ hy⟩
    have i2 : ∀ {n m : Int}, atI (penL l n m) 2 = some (.int m) := atI_nat (j := 2) rfl
    have i1 : ∀ {n m : Int}, atI (penL l n m) 1 = some (.int n) := atI_nat (j := 1) rfl
    have i0 : ∀ {n m : Int}, atI (penL l n m) 0 = some (.ref l) := atI_nat (j := 0) rfl
    refine ⟨_, rfl, p, _, _, _, rfl, rfl, SqL.of hp, i2, _, _, rfl, rfl, _, rfl, ?_⟩
    refine ite2 (fun h1 => ?_) (fun h1 => ?_)
    · refine ⟨_, rfl, p, _, _, _, rfl, rfl, SqL.of hp, i2, _, rfl, _, _, rfl, rfl, hk0, ?_⟩
      refine ⟨_, rfl, p, _, _, _, rfl, rfl, SqL.of hp, i2, _, rfl, _, _, rfl, rfl, ⟨hk0, hk1⟩, _, rfl, p, _, _, 2, rfl, rfl, hp, rfl, ?_⟩
      refine ⟨_, rfl, hQ _ _ (cM _ _ hk0).1 (cM _ _ hk0).2 ⟨l, ns, n, m / k, upd_same, ?_, nlp, hn, by omega⟩ (Kp.put n (m / k) hp)⟩
      rw [upd_ne nlp]
      exact hl
    · refine ⟨_, rfl, p, _, _, _, rfl, rfl, SqL.of hp, i1, ?_⟩
      refine ⟨_, rfl, _, _, rfl, rfl, _, rfl, p, _, _, 1, rfl, rfl, hp, rfl, ?_⟩
      have hp1 : (upd H p (.lst (penL l (n + 1) m))) p = some (.lst (penL l (n + 1) m)) := upd_same
      have hl1 : (upd H p (.lst (penL l (n + 1) m))) l = some (.lst (ns.map V.int)) := by rw [upd_ne nlp]; exact hl
      have kp1 : Kp p H (upd H p (.lst (penL l (n + 1) m))) := Kp.put _ _ hp
      refine ⟨fun σ' H' => ∃ (cell : Int), σ' = [some (.ref p), some (.int k), none, some (.int n), some (.int cell), none] ∧ H' p = some (.lst (penL l (n + 1) m)) ∧ H' l = some (.lst (ns.map V.int)) ∧ Kp p H H', ?_, ?_⟩
      · refine ⟨_, rfl, p, _, _, _, rfl, rfl, SqL.of hp1, i0, (by show 0 ≤ sizeLine; decide), fun e he => ?_⟩
        have s2 := same_new (o := .lst []) he
        have hp2 := s2 _ _ hp1
        have hl2 := s2 _ _ hl1
        have kp2 := kp1.trans (Kp.same s2)
        refine ⟨.list (ns.map .int), .list [], Dp.lst (SqL.of hl2) (dpInts ns), Dp.lst (SqL.of upd_same) .nil, PySem.W.ke_shaped_ints ns, by decide, _, rfl, ?_⟩
        cases ns with
        | nil => exact iteF ⟨5, rfl, hp2, hl2, kp2⟩
        | cons z zs =>
          refine iteT ?_
          have hlen : (0 : Int) < (((z :: zs).map V.int).length : Int) := by simp
          refine ⟨_, rfl, p, _, _, _, rfl, rfl, SqL.of hp2, i0, _, rfl, _, rfl, p, _, _, _, rfl, rfl, SqL.of hp2, i0, l, _, rfl, Or.inl (SqL.of hl2), _, _, rfl, rfl, hlen, ?_⟩
          obtain ⟨q, hq⟩ := Int.eq_ofNat_of_zero_le (cM n _ hlen).1
          have hq2 := (cM n _ hlen).2
          rw [hq] at hq2
          have hq3 : q < (z :: zs).length := by rw [List.length_map] at hq2; omega
          refine ⟨l, _, _, .int ((z :: zs)[q]), rfl, rfl, SqL.of hl2, (by rw [hq]; exact atI_nat (by rw [List.getElem?_map, List.getElem?_eq_getElem hq3]; rfl)), ?_⟩
          exact ⟨_, rfl, hp2, hl2, kp2⟩
      · rintro σ' H' ⟨cell, rfl, hp2, hl2, kp2⟩
        have stay0 : Pen H' p c := ⟨l, ns, n + 1, m, hp2, hl2, nlp, by omega, by omega⟩
        have last : ∀ D : Ends, D.rt = Q → tSeq (tAsg (tOp (rI (fun _ j => 0 < j) fun i j => .int (i % j)) (tOp (rI0 fun i j => .int (i + j)) (tOp (rI0 fun i j => .int (i + j)) (tOp (rI0 fun i j => .int (i + j))
            (tOp (rI CMul fun i j => .int (i * j)) (tOp (rI (fun _ j => 0 < j) fun i j => .int (i % j)) (tVar 4) (tC (.int 2147483629))) (tC (.int 40503))) (tOp (rI CMul fun i j => .int (i * j)) (tOp (rI CMul fun i j => .int (i * j)) (tC (.int 7919)) (tVar 3)) (tVar 3)))
            (tOp (rI CMul fun i j => .int (i * j)) (tC (.int 104729)) (tVar 3))) (tC (.int 29))) (tC (.int 2147483647))) (gName 5))
          (tSeq (tAsg (tOp (rI (fun _ j => 0 < j) fun i j => .int (i % j)) (tOp (rI CMul fun i j => .int (i * j)) (tVar 5) (tOp (rI0 fun i j => .int (i + j)) (tOp (rI (fun _ j => 0 < j) fun i j => .int (i % j)) (tVar 5) (tC (.int 65003))) (tC (.int 3)))) (tC (.int 2147483587))) (gName 5))
          (tRet (tOp (rI (fun _ j => 0 < j) fun i j => .int (i % j)) (tOp (rI CDiv fun i j => .int (i / j)) (tOp (rI (fun _ j => 0 < j) fun i j => .int (i % j)) (tOp (rI0 fun i j => .int (i + j)) (tOp (rI CMul fun i j => .int (i * j)) (tVar 5) (tC (.int 69621))) (tVar 3)) (tC (.int 2147483563))) (tC (.int 16))) (tVar 1)))) D [some (.ref p), some (.int k), none, some (.int n), some (.int cell), none] H' := by
          intro D hD
          refine ⟨_, rfl, _, _, rfl, rfl, (by decide : (0 : Int) < 2147483629), _, _, rfl, rfl, cb_r (by decide) (by decide), _, rfl, _, _, rfl, rfl, cb_l (by decide) (by decide), _, rfl, _, _, rfl, rfl, cb_r (by omega) (by omega), _, _, rfl, rfl, ?_⟩
          refine ⟨_, rfl, _, _, rfl, rfl, cb_l (by decide) (by decide), _, _, rfl, rfl, _, _, rfl, rfl, _, _, rfl, rfl, (by decide : (0 : Int) < 2147483647), ?_⟩
          refine ⟨_, rfl, _, rfl, _, _, rfl, rfl, (by decide : (0 : Int) < 65003), _, _, rfl, rfl, _, _, rfl, rfl, ?_, _, _, rfl, rfl, (by decide : (0 : Int) < 2147483587), ?_⟩
          · refine cb_l ?_ ?_
            · exact Int.lt_of_lt_of_le (by decide) (cM _ 2147483647 (by decide)).1
            · exact Int.lt_trans (cM _ 2147483647 (by decide)).2 (by decide)
          refine ⟨_, rfl, _, _, rfl, rfl, cb_r (by decide) (by decide), _, rfl, _, _, rfl, rfl, _, _, rfl, rfl, (by decide : (0 : Int) < 2147483563), _, _, rfl, rfl, ⟨by decide, by decide⟩, _, rfl, _, _, rfl, rfl, hk0, ?_⟩
          rw [hD]
          exact hQ _ _ (cM _ _ hk0).1 (cM _ _ hk0).2 stay0 kp2
        refine ⟨_, rfl, _, _, rfl, rfl, ⟨by decide, by decide, by decide⟩, _, _, rfl, rfl, _, rfl, ?_⟩
        refine ite2 (fun g1 => ?_) (fun g1 => iteF (last _ rfl))
        refine ⟨_, rfl, _, rfl, p, _, _, _, rfl, rfl, SqL.of hp2, i0, l, _, rfl, Or.inl (SqL.of hl2), _, _, rfl, rfl, _, rfl, ?_⟩
        refine ite2 (fun g2 => ?_) (fun g2 => last _ rfl)
        refine ⟨_, rfl, _, rfl, _, _, rfl, rfl, ⟨hk0, hk1⟩, _, rfl, p, _, _, 2, rfl, rfl, hp2, rfl, ?_⟩
        refine ⟨_, rfl, _, rfl, _, _, rfl, rfl, hk0, ?_⟩
        refine hQ _ _ (cM _ _ hk0).1 (cM _ _ hk0).2 ⟨l, ns, n + 1, cell / k, upd_same, ?_, nlp, by omega, by omega⟩ (kp2.trans (Kp.put (n + 1) (cell / k) hp2))
        rw [upd_ne nlp]
        exact hl2
end
end K12
set_option Elab.async false
set_option linter.all false
set_option maxRecDepth 100000
set_option maxHeartbeats 4000000
/-! NM: the names that a law draws: words by a base, a place, a spot and a way. -/
namespace NM
open PySem PySem.Spec
def ok (l : List Nat) : Prop := 1 ≤ l.length ∧ l.length ≤ 8 ∧ ∀ c ∈ l, 97 ≤ c ∧ c ≤ 122
def words : List (List Nat) := [[108, 97, 116, 101], [105, 110], [111, 117, 116], [114, 105, 100, 101], [104, 97, 110, 100], [108, 97, 99, 107], [121, 101, 115], [110, 111], [110, 97, 109, 101, 115], [103, 111, 110, 101], [116, 101, 120, 116], [112, 108, 97, 110], [117, 110, 100, 111], [117, 115, 117, 97, 108], [98, 97, 99, 107], [108, 101, 97, 118, 101]]
def lets : List Nat := (List.range 26).map (97 + ·)
def w0 (bs : List Nat) (at_ spot k : Nat) : List Nat := bs.take at_ ++ [97 + (spot + 5 * k) % 26] ++ bs.drop (at_ + 1)
def w1 (bs : List Nat) (at_ spot k : Nat) : List Nat := (w0 bs at_ spot k).take (bs.length - k % (bs.length - at_))
def w2 (spot k : Nat) : List Nat := (List.replicate 8 (97 + (spot + k / 8) % 26)).take (k % 8 + 1)
def w3 (spot k : Nat) : List Nat := words.getD ((spot + k) % 16) []
def word (bs : List Nat) (at_ spot way k : Nat) : List Nat := if way = 1 then w1 bs at_ spot k else if way = 2 then w2 spot k else if way = 3 then w3 spot k else w0 bs at_ spot k
theorem words_ok : ∀ i, i < 16 → ok (words.getD i []) := by
  have : ∀ i : Fin 16, 1 ≤ (words.getD i.1 []).length ∧ (words.getD i.1 []).length ≤ 8 ∧ (words.getD i.1 []).all (fun c => decide (97 ≤ c ∧ c ≤ 122)) = true := by decide +kernel
  intro i hi
  obtain ⟨h1, h2, h3⟩ := this ⟨i, hi⟩
  refine ⟨h1, h2, fun c hc => ?_⟩
  have := List.all_eq_true.mp h3 c hc
  exact of_decide_eq_true this
theorem words_inj : ∀ i j, i < 16 → j < 16 → words.getD i [] = words.getD j [] → i = j := by
  have : ∀ i j : Fin 16, words.getD i.1 [] = words.getD j.1 [] → i = j := by decide +kernel
  intro i j hi hj e
  exact congrArg Fin.val (this ⟨i, hi⟩ ⟨j, hj⟩ e)
section
variable {bs : List Nat} {at_ spot k : Nat}
theorem w0_len (h : at_ < bs.length) : (w0 bs at_ spot k).length = bs.length := by
  unfold w0
  simp only [List.length_append, List.length_take, List.length_drop, List.length_cons, List.length_nil]
  omega
theorem w0_at (h : at_ < bs.length) : (w0 bs at_ spot k)[at_]? = some (97 + (spot + 5 * k) % 26) := by
  unfold w0
  rw [List.append_assoc, List.getElem?_append_right (by rw [List.length_take]; omega), List.length_take, Nat.min_eq_left (by omega), Nat.sub_self]
  rfl
theorem w0_mem (hb : ∀ c ∈ bs, 97 ≤ c ∧ c ≤ 122) : ∀ c ∈ w0 bs at_ spot k, 97 ≤ c ∧ c ≤ 122 := by
  intro c hc
  unfold w0 at hc
  rcases List.mem_append.mp hc with hc | hc
  · rcases List.mem_append.mp hc with hc | hc
    · exact hb c (List.mem_of_mem_take hc)
    · rw [List.mem_singleton] at hc
      omega
  · exact hb c (List.mem_of_mem_drop hc)
theorem w1_len (h : at_ < bs.length) : at_ + 1 ≤ (w1 bs at_ spot k).length ∧ (w1 bs at_ spot k).length ≤ bs.length := by
  unfold w1
  rw [List.length_take, w0_len h]
  have := Nat.mod_lt k (show 0 < bs.length - at_ by omega)
  omega
theorem w1_at (h : at_ < bs.length) : (w1 bs at_ spot k)[at_]? = some (97 + (spot + 5 * k) % 26) := by
  have h1 := (w1_len (spot := spot) (k := k) h).1
  unfold w1 at h1 ⊢
  rw [List.length_take, w0_len h] at h1
  rw [List.getElem?_take_of_lt (by omega)]
  exact w0_at h
theorem spot_inj {i j : Nat} (hi : i < 16) (hj : j < 16) (e : 97 + (spot + 5 * i) % 26 = 97 + (spot + 5 * j) % 26) : i = j := by omega
theorem word_ok (hb0 : 1 ≤ bs.length) (hb8 : bs.length ≤ 8) (hb : ∀ c ∈ bs, 97 ≤ c ∧ c ≤ 122) (h : at_ < bs.length) (way : Nat) : ok (word bs at_ spot way k) := by
  unfold word
  split
  · have := w1_len (spot := spot) (k := k) h
    exact ⟨by omega, by omega, fun c hc => w0_mem hb c (List.mem_of_mem_take hc)⟩
  split
  · unfold w2
    refine ⟨by rw [List.length_take, List.length_replicate]; omega, by rw [List.length_take, List.length_replicate]; omega, fun c hc => ?_⟩
    have := List.eq_of_mem_replicate (List.mem_of_mem_take hc)
    omega
  split
  · exact words_ok _ (Nat.mod_lt _ (by decide))
  · exact ⟨by rw [w0_len h]; exact hb0, by rw [w0_len h]; exact hb8, w0_mem hb⟩
theorem word_inj (h : at_ < bs.length) (way : Nat) {i j : Nat} (hi : i < 16) (hj : j < 16) (e : word bs at_ spot way i = word bs at_ spot way j) : i = j := by
  unfold word at e
  split at e
  · have h1 := w1_at (spot := spot) (k := i) h
    rw [e, w1_at h] at h1
    exact (spot_inj hj hi (Option.some.inj h1)).symm
  split at e
  · unfold w2 at e
    have hl := congrArg List.length e
    rw [List.length_take, List.length_take, List.length_replicate, List.length_replicate] at hl
    have h0 : ((List.replicate 8 (97 + (spot + i / 8) % 26)).take (i % 8 + 1))[0]? = ((List.replicate 8 (97 + (spot + j / 8) % 26)).take (j % 8 + 1))[0]? := by rw [e]
    rw [List.getElem?_take_of_lt (by omega), List.getElem?_take_of_lt (by omega), List.getElem?_replicate, List.getElem?_replicate, if_pos (by decide), if_pos (by decide)] at h0
    have := Option.some.inj h0
    omega
  split at e
  · have := words_inj _ _ (Nat.mod_lt _ (by decide)) (Nat.mod_lt _ (by decide)) e
    omega
  · have h1 := w0_at (spot := spot) (k := i) h
    rw [e, w0_at h] at h1
    exact (spot_inj hj hi (Option.some.inj h1)).symm
/-- as many as are asked: unlike ones -/
theorem all_unlike (h : at_ < bs.length) (way n : Nat) (hn : n ≤ 16) : ((List.range n).map (word bs at_ spot way)).Pairwise (· ≠ ·) := by
  rw [List.pairwise_map]
  refine (List.pairwise_lt_range (n := n)).imp_of_mem fun {a b} ha hb hlt e => ?_
  have := word_inj h way (by have := List.mem_range.mp ha; omega) (by have := List.mem_range.mp hb; omega) e
  omega
end
end NM
set_option Elab.async false
set_option linter.all false
set_option maxRecDepth 100000
set_option maxHeartbeats 4000000
namespace K12
open PySem PySem.Spec PyProof.Rows L2
open C8 (Cal Mak Met pe_c pe_mk pe_mt pe_mt0)
open SX (S)
theorem lets_S : (Str.ofString "abcdefghijklmnopqrstuvwxyz").cps.toList = NM.lets := by decide +kernel
theorem words_S : Txt.split (Str.ofString "late in out ride hand lack yes no names gone text plan undo usual back leave") (Str.ofString " ") = NM.words.map S := by decide +kernel
theorem at_lets {x : Int} {j : Nat} (e : x = (j : Int)) (hj : j < 26) : atI (Str.ofString "abcdefghijklmnopqrstuvwxyz").cps.toList x = some (97 + j) := by
  rw [e, lets_S]
  refine atI_nat ?_
  unfold NM.lets
  rw [List.getElem?_map, List.getElem?_range hj]
  rfl
theorem cut_t {l : List Nat} {x : Int} {j : Nat} (e : x = (j : Int)) (h : j ≤ l.length) : cutS (S l) none (some x) = S (l.take j) := by
  rw [e]
  unfold cutS
  rw [HT.sIx_nat, HT.sIx_none, SX.S_len, Nat.min_eq_left h]
  simp [S]
theorem cut_d {l : List Nat} {x : Int} {j : Nat} (e : x = (j : Int)) (h : j ≤ l.length) : cutS (S l) (some x) none = S (l.drop j) := by
  rw [e]
  unfold cutS
  rw [HT.sIx_nat, HT.sIx_none, SX.S_len, Nat.min_eq_left h]
  simp [S, List.take_of_length_le]
theorem ones : ∀ bs : List Nat, ((bs.map fun c => S [c]).map (·.length)).sum = bs.length
  | [] => rfl
  | b :: bs => by
    rw [List.map_cons, List.map_cons, List.sum_cons, ones bs, List.length_cons, SX.S_len]
    simp
    omega
theorem joined : ∀ bs : List Nat, TL.joinL [] (bs.map fun c => [c]) = bs
  | [] => rfl
  | [b] => rfl
  | b :: d :: bs => by
    have := joined (d :: bs)
    simp only [List.map_cons, TL.joinL] at this ⊢
    simp [this]
/-- a sign eight times -/
theorem op_eight {X : Cx} : OpR X (binaryOp .Mult) (fun x y H Q => ∃ c : Nat, x = .str ⟨#[c]⟩ ∧ y = .int 8 ∧ Q (.str (S (List.replicate 8 c))) H) := by
  intro pins s σ H x y v u Q I rx ry h
  obtain ⟨c, rfl, rfl, q⟩ := h
  obtain ⟨t, rfl⟩ := rx
  obtain ⟨t', rfl⟩ := ry
  refine PySem.P.mul_str (by decide) (fun _ _ => by show ¬ ((1 : Int) > (2 ^ 63 - 1) / 8); decide) (fun _ _ => by show Builtin.Str.tooLong 8 = false; decide) ?_
  rw [if_neg (by decide), if_neg (by show ¬ ((8 : Int) == 1 || (1 : Nat) == 0) = true; decide)]
  exact ⟨by show 8 ≤ _; decide, ⟨.str (S (List.replicate 8 c)), H, I.tok _, ⟨_, rfl⟩, q⟩⟩
section
variable {P : Program} {w : World} {K : PySem.W.Frag} {mg : Str → Option Value} {base : Heap} {f C : Addr} {fd : FuncData}
abbrev CalD (P : Program) (w : World) (K : PySem.W.Frag) (mg : Str → Option Value) (base : Heap) : Prop := Cal P w K mg base 1 "_law_draw" spDraw []
def spNames : Sp := fun vs H Q _ => ∃ (p : Addr) (c n : Nat), vs = [.ref p, .int n] ∧ Pen H p (c + 40) ∧ n ≤ 16 ∧
  ∀ (o : Addr) (zs : List (List Nat)) (H' : Hp), Pen H' p c → Kp p H H' → H o = none → Off p o H' → H' o = some (.lst (zs.map fun l => V.str (S l))) → zs.length = n → (∀ z ∈ zs, NM.ok z) → zs.Pairwise (· ≠ ·) → Q (.ref o) H'
theorem ok_names (F : Dn K d_l_names f fd) (bl : Bl mg) (cD : CalD P w K mg base) : FnOk P w K mg base CX0 2 f fd ["_law_pen_here", "_law_many"] spNames := by
  refine F.ok sc_l_names (fun vs H Q E h => ?_) (fun cdv A outer s H vs Q E hr h => ?_)
  · obtain ⟨p, c, n, rfl, _⟩ := h
    rfl
  · obtain ⟨p, c, n, rfl, pen, hn, hQ⟩ := h
    refine ⟨_, PSs.nox (pss_cons (ps_set (i := 2) sc_l_names.nd rfl (.inr rfl) pe_str)
      (pss_cons (ps_set (i := 3) sc_l_names.nd rfl (.inl rfl) (pe_split pe_str pe_str))
      (pss_cons (ps_set (i := 4) sc_l_names.nd rfl (.inl rfl) (pe_op op_add pe_int (pe_c cD hr (by decide) rfl (pa_cons (pv 0) (pa_cons pe_int pa_nil)))))
      (C8.pss_cut (ps_set (i := 6) sc_l_names.nd rfl (.inl rfl) (pe_join pe_str (pe_lc (own := [("_law_k", 5)]) (g := gName 5) (tt := tYes) rfl sc_l_names.nd (pi_range1 rfl bl.range (pa_cons (pv 4) pa_nil)) (blkOk_by (N := N_l_names) (sc := defScope s_l_names) (by decide +kernel))
          (fun _ _ _ _ _ => pg_name (i := 5) sc_l_names.nd rfl (Or.inl rfl)) (fun _ _ _ _ _ => pts_nil) (fun _ _ _ _ _ => pe_ix ix_str (pv 2) (pe_c cD hr (by decide) rfl (pa_cons (pv 0) (pa_cons pe_int pa_nil))) (fun _ _ => rfl)))))
      (pss_cons (ps_par3 (i := 7) (j := 8) (l := 9) rfl sc_l_names.nd rfl rfl rfl (by decide) (by decide) (by decide) rfl rfl rfl (pa_cons (pe_c cD hr (by decide) rfl (pa_cons (pv 0) (pa_cons (pv 4) pa_nil))) (pa_cons (pe_c cD hr (by decide) rfl (pa_cons (pv 0) (pa_cons pe_int pa_nil)))
          (pa_cons (pe_op op_mod (pe_c cD hr (by decide) rfl (pa_cons (pv 0) (pa_cons pe_int pa_nil))) pe_int) pa_nil))) rfl)
      (pss_cons (ps_set (i := 10) sc_l_names.nd rfl (.inl rfl) (pe_lst pa_nil))
      (pss_cons (ps_for PassesOwn.never rfl (pi_range1 rfl bl.range (pa_cons (pv 1) pa_nil)) (pg_name (i := 5) sc_l_names.nd rfl (.inl rfl))
        (pss_cons (ps_set (i := 11) sc_l_names.nd rfl (.inl rfl) (pe_op op_add_str (pe_op op_add_str (pe_slice sl_str (pv 6) po_none (po_some (pv 7))) (pe_ix ix_str (pv 2) (pe_op op_mod (pe_op op_add (pv 8) (pe_op op_mul pe_int (pv 5))) pe_int) (fun _ _ => rfl)))
            (pe_slice sl_str (pv 6) (po_some (pe_op op_add (pv 7) pe_int)) po_none)))
        (C8.pss_cut (ps_if (pt_cmpR op_eq (pv 9) pe_int (nomark _)) (pss_one (ps_set (i := 11) sc_l_names.nd rfl (.inl rfl) (pe_slice sl_str (pv 11) po_none (po_some (pe_op op_sub (pv 4) (pe_op op_mod (pv 5) (pe_op op_sub (pv 4) (pv 7)))))))) pss_nil)
        (C8.pss_cut (ps_if (pt_cmpR op_eq (pv 9) pe_int (nomark _)) (pss_one (ps_set (i := 11) sc_l_names.nd rfl (.inl rfl) (pe_slice sl_str (pe_op op_eight (pe_ix ix_str (pv 2) (pe_op op_mod (pe_op op_add (pv 8) (pe_op op_fdiv (pv 5) pe_int)) pe_int) (fun _ _ => rfl)) pe_int) po_none
            (po_some (pe_op op_add (pe_op op_mod (pv 5) pe_int) pe_int))))) pss_nil)
        (C8.pss_cut (ps_if (pt_cmpR op_eq (pv 9) pe_int (nomark _)) (pss_one (ps_set (i := 11) sc_l_names.nd rfl (.inl rfl) (pe_ix ix_list (pv 3) (pe_op op_mod (pe_op op_add (pv 8) (pv 5)) pe_int) (fun _ _ => rfl)))) pss_nil)
        (pss_one (ps_expr (pe_bm PySem.F.plainAttrs_list PySem.F.slot_list_insert PySem.F.type_list_insert mt_insert (pv 10) (pa_cons (pe_c cD hr (by decide) rfl (pa_cons (pv 0) (pa_cons (pe_op op_add (pe_callB call_len_seq rfl bl.len boot_len (pa_cons (pv 10) pa_nil)) pe_int) pa_nil))) (pa_cons (pv 11) pa_nil))))))))))
      (pss_one (ps_ret (pv 10)))))))))), ?_⟩
    -- the words
    refine ⟨⟨_, rfl⟩, _, _, rfl, rfl, by decide +kernel, by decide +kernel, fun wl fwl => ?_⟩
    rw [words_S]
    have s1 := same_new (o := .lst ((NM.words.map S).map V.str)) fwl
    have hwl := upd_same (H := H) (a := wl) (o := .lst ((NM.words.map S).map V.str))
    have pen1 := pen.same s1
    have off1 : Off p wl (upd H wl (.lst ((NM.words.map S).map V.str))) := (Off.of pen fwl).kp (Kp.same s1)
    generalize upd H wl (.lst ((NM.words.map S).map V.str)) = H1 at s1 hwl pen1 off1 ⊢
    -- the size
    refine ⟨_, rfl, p, c + 39, _, rfl, pen1, by decide, by decide, fun z0 H2 a2 b2 pen2 k2 => ?_⟩
    refine ⟨_, _, rfl, rfl, ?_⟩
    obtain ⟨sz, hsz⟩ := Int.eq_ofNat_of_zero_le (show 0 ≤ 1 + z0 by omega)
    have sz1 : 1 ≤ sz := by omega
    have sz8 : sz ≤ 8 := by omega
    have hwl2 := k2.1 _ _ hwl off1.ne
    have off2 := off1.kp k2
    -- the base
    refine ⟨fun σ' H' => ∃ bs : List Nat, σ' = [some (.ref p), some (.int n), some (.str (Str.ofString "abcdefghijklmnopqrstuvwxyz")), some (.ref wl), some (.int (sz : Int)), none, some (.str (S bs)), none, none, none, none, none] ∧ bs.length = sz ∧ (∀ c ∈ bs, 97 ≤ c ∧ c ≤ 122) ∧
      Pen H' p (c + 30) ∧ Kp p H H' ∧ H' wl = some (.lst ((NM.words.map S).map V.str)) ∧ Off p wl H', ?_, ?_⟩
    · refine ⟨⟨_, rfl⟩, _, rfl, _, rfl, by omega, by omega, ?_⟩
      rw [hsz, Int.toNat_natCast]
      intro D hD
      have offD := Off.of pen2 hD
      have sD := same_new (o := .lst []) hD
      refine lc_range (n := sz) (fun i H3 => ∃ bs : List Nat, bs.length = i ∧ (∀ c ∈ bs, 97 ≤ c ∧ c ≤ 122) ∧ H3 D = some (.lst (bs.map fun c => V.str (S [c]))) ∧ Pen H3 p (c + 39 - i) ∧ Kp p H2 H3 ∧ Off p D H3) ?_ ?_ ?_
      · exact ⟨[], rfl, by simp, upd_same, pen2.same sD, Kp.same sD, offD.kp (Kp.same sD)⟩
      · rintro i H3 hi ⟨bs, hbl, hbc, hd, pen3, k3, off3⟩
        refine ⟨rfl, ?_⟩
        refine ⟨_, rfl, _, rfl, p, c + 39 - (i + 1), _, rfl, pen3.weak (by omega), by decide, by decide, fun r H4 r0 r1 pen4 k4 => ?_⟩
        obtain ⟨rn, rfl⟩ := Int.eq_ofNat_of_zero_le r0
        have hd4 := k4.1 _ _ hd off3.ne
        have off4 := off3.kp k4
        refine ⟨_, _, 97 + rn, rfl, rfl, by decide +kernel, at_lets rfl (by omega), _, hd4, ?_, bs ++ [97 + rn], by simp [hbl], ?_, ?_, pen4.put off4, (k3.trans k4).new hD, ?_⟩
        · rw [List.length_map, hbl]
          exact Nat.lt_of_lt_of_le (by omega : i < 64) (by decide)
        · intro c' hc'
          rcases List.mem_append.mp hc' with hc' | hc'
          · exact hbc c' hc'
          · rw [List.mem_singleton] at hc'
            omega
        · rw [upd_same]
          simp [S]
        · exact off4.put (by obtain ⟨_, _, _, _, _, z⟩ := off4; exact z)
      · rintro H3 ⟨bs, hbl, hbc, hd, pen3, k3, off3⟩
        have ey : (bs.map fun c => V.str (S [c])) = (bs.map fun c => S [c]).map V.str := by rw [List.map_map]; rfl
        refine ⟨_, D, bs.map fun c => S [c], rfl, rfl, .inl (by rw [← ey]; exact SqL.of hd), ?_, bs, ?_, hbl, hbc, pen3.weak (by omega), ((Kp.same s1).trans k2).trans k3, k3.1 _ _ hwl2 off2.ne, off2.kp k3⟩
        · have e1 : ((bs.map fun c => S [c]).map (·.length)).sum = bs.length := by
            exact ones bs
          rw [e1, List.length_map]
          have e2 : (Str.ofString "").length = 0 := by decide +kernel
          rw [e2, hbl]
          omega
        · have e3 : Txt.join (Str.ofString "") (bs.map fun c => S [c]) = S bs := by
            have e4 : Str.ofString "" = S [] := by decide +kernel
            have e5 : (bs.map fun c => S [c]) = (bs.map fun c => [c]).map S := by rw [List.map_map]; rfl
            rw [e4, e5, SX.join_S]
            rw [joined]
          rw [e3]
          rw [← hsz]
          rfl
    clear pen pen1 pen2 k2 hwl hwl2 off1 off2 s1
    rintro σ' H3 ⟨bs, rfl, hbl, hbc, pen3, k3, hwl3, offw3⟩
    refine ⟨_, rfl, _, rfl, p, c + 29, _, rfl, pen3, by omega, by omega, fun at_ H4 a4 b4 pen4 k4 => ?_⟩
    refine ⟨_, rfl, p, c + 28, _, rfl, pen4, by decide, by decide, fun spot H5 a5 b5 pen5 k5 => ?_⟩
    refine ⟨_, rfl, p, c + 27, _, rfl, pen5, by decide, by decide, fun way0 H6 a6 b6 pen6 k6 => ?_⟩
    refine ⟨_, _, rfl, rfl, (by decide : (0 : Int) < 4), _, _, _, rfl, ?_⟩
    obtain ⟨at_, rfl⟩ := Int.eq_ofNat_of_zero_le a4
    obtain ⟨spot, rfl⟩ := Int.eq_ofNat_of_zero_le a5
    obtain ⟨way, hway⟩ := Int.eq_ofNat_of_zero_le (show 0 ≤ way0 % 4 by omega)
    have hat : at_ < bs.length := by omega
    have k36 := (k4.trans k5).trans k6
    have k06 := k3.trans k36
    have hwl6 := k36.1 _ _ hwl3 offw3.ne
    have offw6 := offw3.kp k36
    clear k4 k5 k6 pen4 pen5
    refine ⟨by show 0 ≤ sizeLine; decide, fun o fo => ?_⟩
    have so := same_new (o := .lst []) fo
    refine ⟨_, rfl, _, rfl, by omega, by omega, ?_⟩
    rw [Int.toNat_natCast]
    refine for_range (n := n) (fun i σ H7 => ∃ (zs : List (List Nat)) (v5 v11 : Option V), σ = [some (.ref p), some (.int n), some (.str (Str.ofString "abcdefghijklmnopqrstuvwxyz")), some (.ref wl), some (.int (sz : Int)), v5, some (.str (S bs)), some (.int (at_ : Int)), some (.int (spot : Int)), some (.int (way0 % 4)), some (.ref o), v11] ∧
        H7 o = some (.lst (zs.map fun l => V.str (S l))) ∧ zs.Perm ((List.range i).map (NM.word bs at_ spot way)) ∧ Pen H7 p (c + 27 - i) ∧ Kp p H6 H7 ∧ Off p o H7)
      ⟨[], none, none, rfl, upd_same, List.Perm.refl _, pen6.same so, Kp.same so, (Off.of pen6 fo).kp (Kp.same so)⟩ ?_ ?_
    · rintro i σ H7 hi ⟨zs, v5, v11, rfl, ho7, perm7, pen7, k7, off7⟩
      have hwl7 := k7.1 _ _ hwl6 offw6.ne
      have zl : zs.length = i := by rw [perm7.length_eq, List.length_map, List.length_range]
      have len0 : (S bs).length ≤ sizeLine := by rw [SX.S_len]; exact Nat.le_trans (by omega : bs.length ≤ 8) (by decide)
      have lets_len : (Str.ofString "abcdefghijklmnopqrstuvwxyz").length ≤ sizeLine := by decide +kernel
      have e5 : ((spot : Int) + 5 * (0 + (i : Int))) % 26 = (((spot + 5 * i) % 26 : Nat) : Int) := by omega
      -- the word
      refine ⟨_, rfl, _, rfl, _, rfl, _, rfl, len0, ?_⟩
      rw [cut_t rfl (by omega)]
      refine ⟨_, rfl, _, rfl, _, rfl, _, _, rfl, rfl, cb_l (by decide) (by decide), _, _, rfl, rfl, _, _, rfl, rfl, (by decide : (0 : Int) < 26), _, _, _, rfl, rfl, lets_len, at_lets e5 (Nat.mod_lt _ (by decide)), _, _, rfl, rfl, ?_, ?_⟩
      · rw [SX.S_len, List.length_take]
        exact Nat.le_trans (by show min at_ bs.length + 1 ≤ 64; omega) (by decide)
      refine ⟨_, rfl, _, rfl, _, _, rfl, rfl, _, rfl, _, rfl, len0, ?_⟩
      rw [cut_d (j := at_ + 1) (by omega) (by omega)]
      have ec : S (bs.take at_) ++ (⟨#[97 + (spot + 5 * i) % 26]⟩ : Str) = S (bs.take at_ ++ [97 + (spot + 5 * i) % 26]) := SX.S_cat _ _
      rw [ec]
      refine ⟨_, _, rfl, rfl, ?_, ?_⟩
      · rw [SX.S_len, SX.S_len, List.length_append, List.length_take, List.length_drop]
        exact Nat.le_trans (by show min at_ bs.length + 1 + (bs.length - (at_ + 1)) ≤ 64; omega) (by decide)
      rw [SX.S_cat]
      have ew0 : bs.take at_ ++ [97 + (spot + 5 * i) % 26] ++ bs.drop (at_ + 1) = NM.w0 bs at_ spot i := rfl
      rw [ew0]
      -- cut short
      refine ⟨fun σ' H' => H' = H7 ∧ σ' = [some (.ref p), some (.int n), some (.str (Str.ofString "abcdefghijklmnopqrstuvwxyz")), some (.ref wl), some (.int (sz : Int)), some (.int (0 + i)), some (.str (S bs)), some (.int (at_ : Int)), some (.int (spot : Int)), some (.int (way0 % 4)), some (.ref o), some (.str (S (if way = 1 then NM.w1 bs at_ spot i else NM.w0 bs at_ spot i)))], ?_, ?_⟩
      · refine ⟨_, rfl, rfl, _, rfl, ?_⟩
        refine ite2 (fun c1 => ?_) (fun c1 => ?_)
        · have e1 : way = 1 := by have := V.int.inj (of_decide_eq_true c1); omega
          refine ⟨_, rfl, _, rfl, _, rfl, _, rfl, _, rfl, _, _, rfl, rfl, _, _, rfl, rfl, (by omega : (0 : Int) < (sz : Int) - (at_ : Int)), _, _, rfl, rfl, _, rfl, _, rfl, by rw [SX.S_len, NM.w0_len hat]; exact Nat.le_trans (by omega : bs.length ≤ 8) (by decide), ?_⟩
          have em : (sz : Int) - (0 + (i : Int)) % ((sz : Int) - (at_ : Int)) = ((bs.length - i % (bs.length - at_) : Nat) : Int) := by
            have h1 : ((sz : Int) - (at_ : Int)) = ((bs.length - at_ : Nat) : Int) := by omega
            rw [h1, Int.zero_add, ← Int.natCast_emod]
            have := Nat.mod_lt i (show 0 < bs.length - at_ by omega)
            omega
          rw [cut_t em (by rw [NM.w0_len hat]; omega)]
          rw [if_pos e1]
          exact ⟨rfl, rfl⟩
        · have e1 : ¬ way = 1 := fun z => c1 (decide_eq_true (by rw [hway, z]; rfl))
          rw [if_neg e1]
          exact ⟨rfl, rfl⟩
      rintro σ' H' ⟨rfl, rfl⟩
      -- one sign again and again
      refine ⟨fun σ' H'' => H'' = H' ∧ σ' = [some (.ref p), some (.int n), some (.str (Str.ofString "abcdefghijklmnopqrstuvwxyz")), some (.ref wl), some (.int (sz : Int)), some (.int (0 + i)), some (.str (S bs)), some (.int (at_ : Int)), some (.int (spot : Int)), some (.int (way0 % 4)), some (.ref o), some (.str (S (if way = 1 then NM.w1 bs at_ spot i else if way = 2 then NM.w2 spot i else NM.w0 bs at_ spot i)))], ?_, ?_⟩
      · refine ⟨_, rfl, rfl, _, rfl, ?_⟩
        refine ite2 (fun c1 => ?_) (fun c1 => ?_)
        · have e1 : way = 2 := by have := V.int.inj (of_decide_eq_true c1); omega
          have e6 : ((spot : Int) + (0 + (i : Int)) / 8) % 26 = (((spot + i / 8) % 26 : Nat) : Int) := by omega
          refine ⟨_, rfl, _, rfl, _, rfl, _, _, rfl, rfl, ⟨by decide, by decide⟩, _, _, rfl, rfl, _, _, rfl, rfl, (by decide : (0 : Int) < 26), _, _, _, rfl, rfl, lets_len, at_lets e6 (Nat.mod_lt _ (by decide)), _, rfl, rfl, ?_⟩
          refine ⟨_, rfl, _, _, rfl, rfl, (by decide : (0 : Int) < 8), _, _, rfl, rfl, _, rfl, _, rfl, by rw [SX.S_len, List.length_replicate]; decide, ?_⟩
          rw [cut_t (j := i % 8 + 1) (by omega) (by rw [List.length_replicate]; omega)]
          subst e1
          exact ⟨rfl, rfl⟩
        · have e1 : ¬ way = 2 := fun z => c1 (decide_eq_true (by rw [hway, z]; rfl))
          rw [if_neg e1]
          exact ⟨rfl, rfl⟩
      rintro σ' H'' ⟨rfl, rfl⟩
      -- a word of the list
      refine ⟨fun σ' H' => H' = H'' ∧ σ' = [some (.ref p), some (.int n), some (.str (Str.ofString "abcdefghijklmnopqrstuvwxyz")), some (.ref wl), some (.int (sz : Int)), some (.int (0 + i)), some (.str (S bs)), some (.int (at_ : Int)), some (.int (spot : Int)), some (.int (way0 % 4)), some (.ref o), some (.str (S (NM.word bs at_ spot way i)))], ?_, ?_⟩
      · refine ⟨_, rfl, rfl, _, rfl, ?_⟩
        refine ite2 (fun c1 => ?_) (fun c1 => ?_)
        · have e1 : way = 3 := by have := V.int.inj (of_decide_eq_true c1); omega
          have e7 : ((spot : Int) + (0 + (i : Int))) % 16 = (((spot + i) % 16 : Nat) : Int) := by omega
          have hw16 : (spot + i) % 16 < NM.words.length := Nat.mod_lt _ (by decide)
          refine ⟨_, rfl, _, rfl, _, rfl, _, _, rfl, rfl, _, _, rfl, rfl, (by decide : (0 : Int) < 16), wl, _, _, .str (S (NM.w3 spot i)), rfl, rfl, SqL.of hwl7, ?_, ?_⟩
          · rw [e7]
            refine atI_nat ?_
            rw [List.getElem?_map, List.getElem?_map, List.getElem?_eq_getElem hw16]
            unfold NM.w3
            rw [List.getD_eq_getElem?_getD, List.getElem?_eq_getElem hw16]
            rfl
          · subst e1
            exact ⟨rfl, rfl⟩
        · have e1 : ¬ way = 3 := fun z => c1 (decide_eq_true (by rw [hway, z]; rfl))
          refine ⟨rfl, ?_⟩
          unfold NM.word
          rw [if_neg e1]
      rintro σ' H' ⟨rfl, rfl⟩
      -- put in
      refine ⟨_, rfl, Or.inl ⟨rfl, _, SqL.of ho7⟩, _, rfl, _, rfl, o, _, rfl, .inl (SqL.of ho7), _, _, rfl, rfl, p, c + 27 - (i + 1), _, rfl, pen7.weak (by omega), by omega, by rw [List.length_map]; omega, fun r H8 r0 r1 pen8 k8 => ?_⟩
      have off8 := off7.kp k8
      have ho8 := k8.1 _ _ ho7 off7.ne
      refine ⟨_, rfl, o, _, _, _, rfl, rfl, ho8, ?_, r0, by rw [List.length_map] at r1; omega, ?_⟩
      · rw [List.length_map, zl]
        exact Nat.lt_of_lt_of_le (by omega : i < 64) (by decide)
      · refine ⟨zs.take r.toNat ++ [NM.word bs at_ spot way i] ++ zs.drop r.toNat, _, _, rfl, ?_, ?_, pen8.put off8, (k7.trans k8).new fo, ?_⟩
        · rw [upd_same]
          simp [List.map_append, List.map_take, List.map_drop]
        · have hp1 : (zs.take r.toNat ++ [NM.word bs at_ spot way i] ++ zs.drop r.toNat).Perm (NM.word bs at_ spot way i :: zs) := by
            rw [List.append_assoc]
            have := List.perm_middle (a := NM.word bs at_ spot way i) (l₁ := zs.take r.toNat) (l₂ := zs.drop r.toNat)
            rw [List.take_append_drop] at this
            exact this
          refine hp1.trans ?_
          rw [List.range_succ, List.map_append]
          exact (List.Perm.cons _ perm7).trans (List.perm_append_singleton _ _).symm
        · exact off8.put (by obtain ⟨_, _, _, _, _, z⟩ := off8; exact z)
    · rintro σ H7 ⟨zs, v5, v11, rfl, ho7, perm7, pen7, k7, off7⟩
      refine ⟨_, rfl, hQ o zs H7 (pen7.weak (by omega)) (k06.trans k7) ?_ off7 ho7 (by rw [perm7.length_eq, List.length_map, List.length_range]) (fun z hz => ?_) ?_⟩
      · cases q : H o with
        | none => rfl
        | some u =>
          have z := k06.1 _ _ q (Off.of pen6 fo).ne
          rw [fo] at z
          cases z
      · obtain ⟨k, _, rfl⟩ := List.mem_map.mp (perm7.subset hz)
        exact NM.word_ok (by omega) (by omega) hbc hat way
      · exact (perm7.symm.pairwise_iff (fun h => Ne.symm h)).mp (NM.all_unlike hat way n hn)
end
end K12
set_option Elab.async false
set_option linter.all false
set_option maxRecDepth 100000
set_option maxHeartbeats 4000000
namespace K12
open PySem PySem.Spec PyProof.Rows L2
open C8 (Cal Mak Met pe_c pe_mk pe_mt pe_mt0)
open SX (S)
section
variable {P : Program} {w : World} {K : PySem.W.Frag} {mg : Str → Option Value} {base : Heap} {f C : Addr} {fd : FuncData}
def spWhole : Sp := fun vs H Q _ => ∃ n : Int, vs = [.int n] ∧ Q (.bl true) H
theorem ok_whole (F : Dn K d_is_whole f fd) (b : Bl mg) : FnOk P w K mg base CX0 1 f fd ["thing"] spWhole := by
  refine F.ok sc_is_whole (fun vs H Q E h => ?_) (fun cdv A outer s H vs Q E hr h => ?_)
  · obtain ⟨n, rfl, _⟩ := h
    rfl
  · obtain ⟨n, rfl, hQ⟩ := h
    refine ⟨_, PSs.nox (pss_one (ps_ret (pe_and
      (pe_callB call_isi rfl b.isi boot_isinstance (pa_cons (pv 0) (pa_cons (pe_bltn (v := .ty "int") rfl b.int boot_int rfl) pa_nil)))
      (pe_one (pe_not (pe_callB call_isi rfl b.isi boot_isinstance (pa_cons (pv 0) (pa_cons (pe_bltn (v := .ty "bool") rfl b.bool boot_bool rfl) pa_nil)))))))), ?_⟩
    refine ⟨_, rfl, _, _, _, _, true, rfl, ClsV.ty _, TyX.base (TyOf.int n), kit_ty (by decide +kernel), true, rfl, ?_⟩
    refine iteT ?_
    exact ⟨_, rfl, _, _, _, _, false, rfl, ClsV.ty _, TyX.base (TyOf.int n), kit_ty (by decide +kernel), false, rfl, hQ⟩
abbrev CalW (P : Program) (w : World) (K : PySem.W.Frag) (mg : Str → Option Value) (base : Heap) : Prop := Cal P w K mg base 1 "is_whole" spWhole []
def spBetween : Sp := fun vs H Q _ => ∃ n lo hi : Int, vs = [.int n, .int lo, .int hi] ∧ Q (.bl (decide (lo ≤ n ∧ n ≤ hi))) H
theorem ok_between (F : Dn K d_is_between f fd) (cW : CalW P w K mg base) : FnOk P w K mg base CX0 2 f fd ["thing", "low", "high"] spBetween := by
  refine F.ok sc_is_between (fun vs H Q E h => ?_) (fun cdv A outer s H vs Q E hr h => ?_)
  · obtain ⟨n, lo, hi, rfl, _⟩ := h
    rfl
  · obtain ⟨n, lo, hi, rfl, hQ⟩ := h
    refine ⟨_, PSs.nox (pss_one (ps_ret (pe_and (pe_c cW hr (by decide) rfl (pa_cons (pv 0) pa_nil)) (pe_one (pe_chain op_le op_le (pv 1) (pv 0) (pv 2)))))), ?_⟩
    refine ⟨_, rfl, n, rfl, true, rfl, iteT ?_⟩
    refine ⟨_, rfl, _, rfl, _, _, rfl, rfl, _, rfl, ?_⟩
    refine ite2 (fun h1 => ?_) (fun h1 => ?_)
    · have h1' : lo ≤ n := of_decide_eq_true h1
      refine ⟨_, rfl, _, _, rfl, rfl, ?_⟩
      have e : decide (n ≤ hi) = decide (lo ≤ n ∧ n ≤ hi) := decide_eq_decide.mpr ⟨fun z => ⟨h1', z⟩, fun z => z.2⟩
      show Q (.bl (decide (n ≤ hi))) H
      rw [e]
      exact hQ
    · have h1' : ¬ lo ≤ n := fun z => h1 (decide_eq_true z)
      have e : decide (lo ≤ n ∧ n ≤ hi) = false := decide_eq_false fun z => h1' z.1
      rw [e] at hQ
      exact hQ
abbrev CalB (P : Program) (w : World) (K : PySem.W.Frag) (mg : Str → Option Value) (base : Heap) : Prop := Cal P w K mg base 2 "is_between" spBetween []
def spDay : Sp := fun vs H Q _ => ∃ n : Int, vs = [.int n] ∧ Q (.bl (decide (0 ≤ n ∧ n ≤ 1000000))) H
theorem ok_day (F : Dn K d_is_day f fd) (cB : CalB P w K mg base) (g : ∃ t, mg "LAST_DAY" = some (.int 1000000 t)) : FnOk P w K mg base CX0 3 f fd ["thing"] spDay := by
  refine F.ok sc_is_day (fun vs H Q E h => ?_) (fun cdv A outer s H vs Q E hr h => ?_)
  · obtain ⟨n, rfl, _⟩ := h
    rfl
  · obtain ⟨n, rfl, hQ⟩ := h
    obtain ⟨t, g⟩ := g
    refine ⟨_, PSs.nox (pss_one (ps_ret (pe_c cB hr (by decide) rfl (pa_cons (pv 0) (pa_cons pe_int (pa_cons (pe_glob (v := .int 1000000) rfl g ⟨t, rfl⟩) pa_nil)))))), ?_⟩
    exact ⟨_, rfl, n, 0, 1000000, rfl, hQ⟩
def spMask : Sp := fun vs H Q _ => ∃ n : Int, vs = [.int n] ∧ Q (.bl (decide (0 ≤ n ∧ n ≤ 127))) H
theorem ok_mask (F : Dn K d_is_mask f fd) (cB : CalB P w K mg base) (g : ∃ t, mg "LAST_MASK" = some (.int 127 t)) : FnOk P w K mg base CX0 3 f fd ["thing"] spMask := by
  refine F.ok sc_is_mask (fun vs H Q E h => ?_) (fun cdv A outer s H vs Q E hr h => ?_)
  · obtain ⟨n, rfl, _⟩ := h
    rfl
  · obtain ⟨n, rfl, hQ⟩ := h
    obtain ⟨t, g⟩ := g
    refine ⟨_, PSs.nox (pss_one (ps_ret (pe_c cB hr (by decide) rfl (pa_cons (pv 0) (pa_cons pe_int (pa_cons (pe_glob (v := .int 127) rfl g ⟨t, rfl⟩) pa_nil)))))), ?_⟩
    exact ⟨_, rfl, n, 0, 127, rfl, hQ⟩
def spCheck : Sp := fun vs H Q _ => ∃ n : Int, vs = [.int n] ∧ 0 ≤ n ∧ n ≤ 1000000 ∧ Q .non H
theorem ok_check (F : Dn K d_check_day f fd) (cDy : Cal P w K mg base 3 "is_day" spDay []) : FnOk P w K mg base CX0 4 f fd ["thing"] spCheck := by
  refine F.ok sc_check_day (fun vs H Q E h => ?_) (fun cdv A outer s H vs Q E hr h => ?_)
  · obtain ⟨n, rfl, _⟩ := h
    rfl
  · obtain ⟨n, rfl, h0, h1, hQ⟩ := h
    refine ⟨_, PSs.nox (pss_one (ps_if (pt_not (pt_val (pe_c cDy hr (by decide) rfl (pa_cons (pv 0) pa_nil)))) pss_never pss_nil)), ?_⟩
    refine ⟨_, rfl, n, rfl, _, rfl, ?_⟩
    rw [decide_eq_true (show 0 ≤ n ∧ n ≤ 1000000 from ⟨h0, h1⟩)]
    exact iteF hQ
/-- what is a name -/
def spName : Sp := fun vs H Q _ => ∃ l : List Nat, vs = [.str (S l)] ∧ NM.ok l ∧ ∀ H', Same H H' → Q (.bl true) H'
theorem ok_name (F : Dn K d_is_name f fd) (b : Bl mg) (g : ∃ t, mg "LONGEST_NAME" = some (.int 8 t)) : FnOk P w K mg base CX0 1 f fd ["thing"] spName := by
  refine F.ok sc_is_name (fun vs H Q E h => ?_) (fun cdv A outer s H vs Q E hr h => ?_)
  · obtain ⟨l, rfl, _⟩ := h
    rfl
  · obtain ⟨l, rfl, ⟨l1, l8, lc⟩, hQ⟩ := h
    obtain ⟨t, g⟩ := g
    have hz : (S l).length ≤ sizeLine := by rw [SX.S_len]; exact Nat.le_trans l8 (by decide)
    refine ⟨_, PSs.nox (pss_cons (ps_if (PW.pt (pw_or (pt_not (pt_val (pe_callB call_isi rfl b.isi boot_isinstance (pa_cons (pv 0) (pa_cons (pe_bltn (v := .ty "str") rfl b.str boot_str rfl) pa_nil)))))
        (pw_or1 (pt_not (pt_chain op_le op_le pe_int (pe_callB call_len_str rfl b.len boot_len (pa_cons (pv 0) pa_nil)) (pe_glob (v := .int 8) rfl g ⟨t, rfl⟩)))))) pss_never pss_nil)
      (pss_one (ps_ret (pe_callB (cr_all rfl) rfl b.all boot_all (pa_cons (pe_lc (own := [("sign", 1)]) (g := gName 1) (tt := tYes) rfl sc_is_name.nd (pi_str (pv 0)) (blkOk_by (N := N_is_name) (sc := defScope s_is_name) (by decide +kernel))
          (fun _ _ _ _ _ => pg_name (i := 1) sc_is_name.nd rfl (Or.inl rfl)) (fun _ _ _ _ _ => pts_nil) (fun _ _ _ _ _ => pe_chain op_le_str op_le_str pe_str (pv 1) pe_str)) pa_nil))))), ?_⟩
    refine ⟨_, rfl, _, _, _, _, true, rfl, ClsV.ty _, TyX.base (TyOf.str _), kit_ty (by decide +kernel), true, rfl, iteF ?_⟩
    refine ⟨_, rfl, _, rfl, hz, _, _, rfl, rfl, _, rfl, ?_⟩
    rw [SX.S_len]
    refine ite2 (fun _ => ?_) (fun z => absurd (decide_eq_true (by omega)) z)
    refine ⟨_, _, rfl, rfl, _, rfl, ?_⟩
    have e8 : decide ((l.length : Int) ≤ 8) = true := decide_eq_true (by omega)
    rw [e8]
    refine iteF ?_
    refine ⟨_, rfl, _, rfl, fun D hD => lc_it walk_str (fun i H2 => H2 D = some (.lst ((List.replicate i true).map V.bl)) ∧ Same H H2) ⟨upd_same, same_new hD⟩ (fun _ _ _ _ => trivial) ?_ ?_⟩
    · rintro i x H2 H3 hi ⟨hd, sm⟩ ⟨rfl, c', hc', rfl⟩
      have hi' : i < l.length := by simpa [S] using hi
      have hmem : c' ∈ l := by
        have : l[i]? = some c' := by simpa [S] using hc'
        exact List.mem_of_getElem? this
      have hcc := lc c' hmem
      refine ⟨rfl, ?_⟩
      refine ⟨_, rfl, _, _, rfl, rfl, _, rfl, ?_⟩
      have ea : (!decide ((⟨#[c']⟩ : Str).cps.toList < (Str.ofString "a").cps.toList)) = true := by
        have e1 : (Str.ofString "a").cps.toList = [97] := by decide +kernel
        rw [e1]
        have : ¬ (([c'] : List Nat) < [97]) := by
          rw [List.cons_lt_cons_iff]
          rintro (z | ⟨z, z'⟩)
          · omega
          · exact absurd z' (by simp)
        simp [this]
      have ez : (!decide ((Str.ofString "z").cps.toList < (⟨#[c']⟩ : Str).cps.toList)) = true := by
        have e1 : (Str.ofString "z").cps.toList = [122] := by decide +kernel
        rw [e1]
        have : ¬ (([122] : List Nat) < [c']) := by
          rw [List.cons_lt_cons_iff]
          rintro (z | ⟨z, z'⟩)
          · omega
          · exact absurd z' (by simp)
        simp [this]
      rw [ea]
      refine iteT ⟨_, _, rfl, rfl, ?_⟩
      rw [ez]
      refine ⟨_, hd, ?_, ?_, ?_⟩
      · rw [List.length_map, List.length_replicate]
        exact Nat.lt_of_lt_of_le (by omega : i < 64) (by decide)
      · rw [upd_same]
        simp [List.replicate_succ']
      · intro a o e
        rw [upd_ne (ne_of_none e hD)]
        exact sm a o e
    · rintro H2 ⟨hd, sm⟩
      refine ⟨D, _, rfl, SqL.of hd, ?_⟩
      have e3 : (List.replicate (S l).cps.size true).all id = true := by simp
      rw [e3]
      exact hQ H2 sm
end
end K12
set_option Elab.async false
set_option linter.all false
set_option maxRecDepth 100000
set_option maxHeartbeats 4000000
namespace K12
open PySem PySem.Spec PyProof.Rows L2
open C8 (Cal Mak Met pe_c pe_mk pe_mt pe_mt0)
open SX (S)
/-- max of a list of one number -/
theorem cr_max1 {X : Cx} (hc : X.calm = true) : CallR X (.builtin "max") (fun xs H Q => ∃ (p : Addr) (n : Int), xs = [.ref p] ∧ SqL X.K H p [.int n] ∧ Q (.int n) H) := by
  intro pins s σ H vs us Q I r h
  obtain ⟨p, n, rfl, hs, q⟩ := h
  obtain ⟨its, rv, hl, _⟩ := I.list hs
  rw [Vals.ref1 r]
  obtain ⟨u, rfl, t, rfl⟩ := rv.one
  have ei : intItems #[(n, t)] = #[Value.int n t] := by simp [intItems]
  refine max_intList (xs := #[(n, t)]) (I.ok.hd hc) (by rw [ei]; exact hl.isList) (by simp) fun v h' tk e k => ?_
  rw [ei] at e
  have e' : (some (Value.int n t)) = some v := by simpa [argBest] using e
  cases e'
  exact ⟨.int n, H, I.kept k, ⟨t, rfl⟩, q⟩
/-- the weekdays of a mask -/
def wd (m : Nat) : List Int := ((List.range 7).filter fun d => decide (m / 2 ^ d % 2 = 1)).map Int.ofNat
section
variable {P : Program} {w : World} {K : PySem.W.Frag} {mg : Str → Option Value} {base : Heap} {f C : Addr} {fd : FuncData}
def spWd : Sp := fun vs H Q _ => ∃ m : Nat, vs = [.int m] ∧ ∀ p H', Same H H' → H p = none → H' p = some (.lst ((wd m).map V.int)) → Q (.ref p) H'
theorem ok_wd (F : Dn K d_weekdays f fd) (b : Bl mg) (g : ∃ t, mg "WEEK" = some (.int 7 t)) : FnOk P w K mg base CX0 1 f fd ["mask"] spWd := by
  refine F.ok sc_weekdays (fun vs H Q E h => ?_) (fun cdv A outer s H vs Q E hr h => ?_)
  · obtain ⟨m, rfl, _⟩ := h
    rfl
  · obtain ⟨m, rfl, hQ⟩ := h
    obtain ⟨t, g⟩ := g
    refine ⟨_, PSs.nox (pss_one (ps_ret (pe_lc (own := [("day", 1)]) (g := gName 1) rfl sc_weekdays.nd (pi_range1 rfl b.range (pa_cons (pe_glob (v := .int 7) rfl g ⟨t, rfl⟩) pa_nil)) (blkOk_by (N := N_weekdays) (sc := defScope s_weekdays) (by decide +kernel))
      (fun _ _ _ _ _ => pg_name (i := 1) sc_weekdays.nd rfl (Or.inl rfl)) (fun _ _ _ _ _ => pts_one (pt_cmpR op_eq (pe_op op_odd (pe_op op_shrN (pv 0) (pv 1)) pe_int) pe_int (nomark _))) (fun _ _ _ _ _ => pv 1)))), ?_⟩
    refine ⟨_, rfl, by decide, by decide, fun D hD => ?_⟩
    refine lc_range (n := 7) (fun i H2 => H2 D = some (.lst ((((List.range i).filter fun d => decide (m / 2 ^ d % 2 = 1)).map Int.ofNat).map V.int)) ∧ Same H H2) ⟨upd_same, same_new hD⟩ ?_ ?_
    · rintro i H2 hi ⟨hd, s2⟩
      refine ⟨rfl, ?_⟩
      have e1 : (m : Int) / 2 ^ i = ((m / 2 ^ i : Nat) : Int) := by
        rw [Int.natCast_ediv]
        simp
      refine ⟨_, rfl, _, rfl, _, i, rfl, by rw [Int.zero_add], m / 2 ^ i, ?_, rfl, rfl, _, rfl, ?_⟩
      · rw [e1]
      have e2 : decide (V.int ((m / 2 ^ i % 2 : Nat) : Int) = V.int 1) = decide (m / 2 ^ i % 2 = 1) := decide_eq_decide.mpr ⟨fun z => by have := V.int.inj z; omega, fun z => by rw [z]; rfl⟩
      rw [e2]
      rw [List.range_succ, List.filter_append]
      refine ite2 (fun c => ?_) (fun c => ?_)
      · have c' : m / 2 ^ i % 2 = 1 := of_decide_eq_true c
        refine ⟨_, rfl, _, hd, ?_, ?_, ?_⟩
        · rw [List.length_map, List.length_map]
          exact Nat.lt_of_le_of_lt (List.length_filter_le _ _) (by rw [List.length_range]; exact Nat.lt_of_lt_of_le (by omega : i < 64) (by decide))
        · rw [upd_same]
          simp [c']
        · intro a o e
          rw [upd_ne (ne_of_none e hD)]
          exact s2 a o e
      · have c' : ¬ m / 2 ^ i % 2 = 1 := fun z => c (decide_eq_true z)
        refine ⟨?_, s2⟩
        rw [hd]
        simp [c']
    · rintro H2 ⟨hd, s2⟩
      exact hQ D H2 s2 hD hd
end
end K12
set_option Elab.async false
set_option linter.all false
set_option maxRecDepth 100000
set_option maxHeartbeats 4000000
namespace K12
open PySem PySem.Spec PyProof.Rows L2
open C8 (Cal Mak Met pe_c pe_mk pe_mt pe_mt0)
open SX (S)
/-! ### a Person -/
def peF (l : List Nat) (s m : Int) : List (Str × V) := putF "mask" (.int m) (putF "seats" (.int s) (putF "name" (.str (S l)) []))
theorem n1 : ¬ (("name" : Str) = "mask") := by decide +kernel
theorem n2 : ¬ (("name" : Str) = "seats") := by decide +kernel
theorem n3 : ¬ (("seats" : Str) = "mask") := by decide +kernel
theorem pe_name (l : List Nat) (s m : Int) : (peF l s m).lookup ("name" : Str) = some (.str (S l)) := by
  unfold peF
  rw [lookup_putF, if_neg n1, lookup_putF, if_neg n2, lookup_putF, if_pos rfl]
theorem pe_seats (l : List Nat) (s m : Int) : (peF l s m).lookup ("seats" : Str) = some (.int s) := by
  unfold peF
  rw [lookup_putF, if_neg n3, lookup_putF, if_pos rfl]
theorem pe_mask (l : List Nat) (s m : Int) : (peF l s m).lookup ("mask" : Str) = some (.int m) := by
  unfold peF
  rw [lookup_putF, if_pos rfl]
structure ClP (K : PySem.W.Frag) (mg : Str → Option Value) (C : Addr) : Prop where
  cl : Cls K C
  nn : NoAttr K C "name"
  ns : NoAttr K C "seats"
  nm : NoAttr K C "mask"
  g : mg "Person" = some (.ref C)
section
variable {P : Program} {w : World} {K : PySem.W.Frag} {mg : Str → Option Value} {base : Heap} {f C : Addr} {fd : FuncData}
def spPI (C : Addr) : Sp := fun vs H Q _ => ∃ (p dx : Addr) (l : List Nat) (s m : Int), vs = [.ref p, .str (S l), .int s, .int m] ∧ NM.ok l ∧ 0 ≤ s ∧ s ≤ 9 ∧ 0 ≤ m ∧ m ≤ 127 ∧ H p = some (.ins C dx []) ∧
  ∀ H', (∀ a o, a ≠ p → H a = some o → H' a = some o) → H' p = some (.ins C dx (peF l s m)) → Q .non H'
theorem ok_pinit (F : Dn K d_Person_init f fd) (cN : Cal P w K mg base 1 "is_name" spName []) (cB : CalB P w K mg base) (cM : Cal P w K mg base 3 "is_mask" spMask []) (T : ClP K mg C) (g : ∃ t, mg "MOST_SEATS" = some (.int 9 t)) : FnOk P w K mg base CX0 4 f fd ["self", "name", "seats", "mask"] (spPI C) := by
  refine F.ok sc_Person_init (fun vs H Q E h => ?_) (fun cdv A outer s H vs Q E hr h => ?_)
  · obtain ⟨p, dx, l, st, m, rfl, _⟩ := h
    rfl
  · obtain ⟨p, dx, l, st, m, rfl, ok, s0, s9, m0, m7, hp, hQ⟩ := h
    obtain ⟨t, g⟩ := g
    refine ⟨_, PSs.nox (pss_cons (ps_if (pt_not (pt_val (pe_c cN hr (by decide) rfl (pa_cons (pv 1) pa_nil)))) pss_never pss_nil)
      (pss_cons (ps_if (pt_not (pt_val (pe_c cB hr (by decide) rfl (pa_cons (pv 2) (pa_cons pe_int (pa_cons (pe_glob (v := .int 9) rfl g ⟨t, rfl⟩) pa_nil)))))) pss_never pss_nil)
      (pss_cons (ps_if (pt_not (pt_val (pe_c cM hr (by decide) rfl (pa_cons (pv 3) pa_nil)))) pss_never pss_nil)
      (pss_cons (ps_fld (pv 0) (pv 1) rfl) (pss_cons (ps_fld (pv 0) (pv 2) rfl) (pss_one (ps_fld (pv 0) (pv 3) rfl))))))), ?_⟩
    refine ⟨_, rfl, l, rfl, ok, fun H1 s1 => ⟨true, rfl, iteF ?_⟩⟩
    refine ⟨_, rfl, st, 0, 9, rfl, _, rfl, ?_⟩
    rw [decide_eq_true (show 0 ≤ st ∧ st ≤ 9 from ⟨s0, s9⟩)]
    refine iteF ?_
    refine ⟨_, rfl, m, rfl, _, rfl, ?_⟩
    rw [decide_eq_true (show 0 ≤ m ∧ m ≤ 127 from ⟨m0, m7⟩)]
    refine iteF ?_
    refine ⟨_, rfl, _, rfl, p, C, dx, _, rfl, s1 _ _ hp, T.cl, T.nn, by show 0 < 1000; decide, ?_⟩
    refine ⟨_, rfl, _, rfl, p, C, dx, _, rfl, upd_same, T.cl, T.ns, by show 1 < 1000; decide, ?_⟩
    refine ⟨_, rfl, _, rfl, p, C, dx, _, rfl, upd_same, T.cl, T.nm, by show 2 < 1000; decide, ?_⟩
    refine hQ _ (fun a o ha e => ?_) upd_same
    rw [upd_ne ha, upd_ne ha, upd_ne ha]
    exact s1 _ _ e
end
/-! ### a Wish -/
theorem putF_two (x : Str) (u v : V) : ∀ fs : List (Str × V), putF x v (putF x u fs) = putF x v fs
  | [] => by simp [putF]
  | q :: fs => by
    obtain ⟨y, z⟩ := q
    by_cases h : y = x
    · simp [putF, h]
    · simp [putF, h, putF_two x u v fs]
def wb (s : Int) (mk ad : Addr) : List (Str × V) := putF "alone" (.ref ad) (putF "masks" (.ref mk) (putF "last" (.int 1000000) (putF "first" (.int 0) (putF "seats" (.int s) []))))
def wiF (s : Int) (mk ad sd : Addr) : List (Str × V) := putF "spans" (.ref sd) (wb s mk ad)
theorem wi_put (s : Int) (mk ad sd sd' : Addr) : putF "spans" (.ref sd') (wiF s mk ad sd) = wiF s mk ad sd' := putF_two _ _ _ _
theorem wi_look (s : Int) (mk ad sd : Addr) : (wiF s mk ad sd).lookup ("spans" : Str) = some (.ref sd) ∧ (wiF s mk ad sd).lookup ("alone" : Str) = some (.ref ad) ∧ (wiF s mk ad sd).lookup ("masks" : Str) = some (.ref mk) ∧
    (wiF s mk ad sd).lookup ("last" : Str) = some (.int 1000000) ∧ (wiF s mk ad sd).lookup ("first" : Str) = some (.int 0) := by
  have a1 : ¬ (("alone" : Str) = "spans") := by decide +kernel
  have a2 : ¬ (("masks" : Str) = "spans") := by decide +kernel
  have a3 : ¬ (("last" : Str) = "spans") := by decide +kernel
  have a4 : ¬ (("first" : Str) = "spans") := by decide +kernel
  have b2 : ¬ (("masks" : Str) = "alone") := by decide +kernel
  have b3 : ¬ (("last" : Str) = "alone") := by decide +kernel
  have b4 : ¬ (("first" : Str) = "alone") := by decide +kernel
  have c3 : ¬ (("last" : Str) = "masks") := by decide +kernel
  have c4 : ¬ (("first" : Str) = "masks") := by decide +kernel
  have d4 : ¬ (("first" : Str) = "last") := by decide +kernel
  refine ⟨?_, ?_, ?_, ?_, ?_⟩ <;> unfold wiF wb <;> simp [lookup_putF, a1, a2, a3, a4, b2, b3, b4, c3, c4, d4]
theorem wi_no (s : Int) (mk ad sd : Addr) {m : Str} (h1 : ¬ m = "spans") (h2 : ¬ m = "alone") (h3 : ¬ m = "masks") (h4 : ¬ m = "last") (h5 : ¬ m = "first") (h6 : ¬ m = "seats") : (wiF s mk ad sd).lookup m = none := by
  unfold wiF wb
  rw [lookup_putF, if_neg h1, lookup_putF, if_neg h2, lookup_putF, if_neg h3, lookup_putF, if_neg h4, lookup_putF, if_neg h5, lookup_putF, if_neg h6]
  rfl
structure ClW (K : PySem.W.Frag) (mg : Str → Option Value) (C : Addr) : Prop where
  cl : Cls K C
  n1 : NoAttr K C "seats"
  n2 : NoAttr K C "first"
  n3 : NoAttr K C "last"
  n4 : NoAttr K C "masks"
  n5 : NoAttr K C "alone"
  n6 : NoAttr K C "spans"
  g : mg "Wish" = some (.ref C)
section
variable {P : Program} {w : World} {K : PySem.W.Frag} {mg : Str → Option Value} {base : Heap} {f C CP : Addr} {fd : FuncData}
def spWI (C CP : Addr) : Sp := fun vs H Q _ => ∃ (p dx pe pdx : Addr) (l : List Nat) (s m : Int), vs = [.ref p, .ref pe, .int 0] ∧ H pe = some (.ins CP pdx (peF l s m)) ∧ H p = some (.ins C dx []) ∧
  ∀ H' mk ad sd, (∀ a o, a ≠ p → H a = some o → H' a = some o) → H mk = none → H ad = none → H sd = none → mk ≠ ad → mk ≠ sd → ad ≠ sd → H' p = some (.ins C dx (wiF s mk ad sd)) → H' mk = some (.dK [(Sum.inl 0, .int m)]) → H' ad = some (.dK []) → H' sd = some (.lst []) → Q .non H'
theorem ok_winit (F : Dn K d_Wish_init f fd) (T : ClW K mg C) (TP : ClP K mg CP) (g : ∃ t, mg "LAST_DAY" = some (.int 1000000 t)) : FnOk P w K mg base CX0 1 f fd ["self", "person", "day"] (spWI C CP) := by
  refine F.ok sc_Wish_init (fun vs H Q E h => ?_) (fun cdv A outer s H vs Q E hr h => ?_)
  · obtain ⟨p, dx, pe, pdx, l, st, m, rfl, _⟩ := h
    rfl
  · obtain ⟨p, dx, pe, pdx, l, st, m, rfl, hpe, hp, hQ⟩ := h
    obtain ⟨t, g⟩ := g
    have npe : pe ≠ p := fun z => by
      rw [z, hp] at hpe
      injection hpe with h1
      injection h1 with h2 h3 h4
      have := pe_mask l st m
      rw [← h4] at this
      cases this
    refine ⟨_, PSs.nox (pss_cons (ps_fld (pv 0) (pe_fld (pv 1) rfl) rfl) (pss_cons (ps_fld (pv 0) (pv 2) rfl) (pss_cons (ps_fld (pv 0) (pe_glob (v := .int 1000000) rfl g ⟨t, rfl⟩) rfl)
      (pss_cons (ps_fld (pv 0) (pe_disp (pps_cons (pv 2) (pe_fld (pv 1) rfl) pps_nil) rfl rfl (by simp) (by decide)) rfl) (pss_cons (ps_fld (pv 0) pe_dnewK rfl) (pss_one (ps_fld (pv 0) (pe_lst pa_nil) rfl))))))), ?_⟩
    refine ⟨_, rfl, pe, CP, pdx, _, _, rfl, hpe, TP.cl, TP.ns, pe_seats l st m, _, rfl, p, C, dx, _, rfl, hp, T.cl, T.n1, by show 0 < 1000; decide, ?_⟩
    refine ⟨_, rfl, _, rfl, p, C, dx, _, rfl, upd_same, T.cl, T.n2, by show 1 < 1000; decide, ?_⟩
    refine ⟨_, rfl, p, C, dx, _, rfl, upd_same, T.cl, T.n3, by show 2 < 1000; decide, ?_⟩
    have hp3 := upd_same (H := upd (upd H p (.ins C dx (putF "seats" (.int st) []))) p (.ins C dx (putF "first" (.int 0) (putF "seats" (.int st) [])))) (a := p) (o := .ins C dx (putF "last" (.int 1000000) (putF "first" (.int 0) (putF "seats" (.int st) []))))
    have k3 : ∀ a o, a ≠ p → H a = some o → (upd (upd (upd H p (.ins C dx (putF "seats" (.int st) []))) p (.ins C dx (putF "first" (.int 0) (putF "seats" (.int st) [])))) p (.ins C dx (putF "last" (.int 1000000) (putF "first" (.int 0) (putF "seats" (.int st) []))))) a = some o := fun a o n e => by rw [upd_ne n, upd_ne n, upd_ne n]; exact e
    generalize upd (upd (upd H p (.ins C dx (putF "seats" (.int st) []))) p (.ins C dx (putF "first" (.int 0) (putF "seats" (.int st) [])))) p (.ins C dx (putF "last" (.int 1000000) (putF "first" (.int 0) (putF "seats" (.int st) [])))) = H3 at hp3 k3 ⊢
    have free : ∀ {H' : Hp}, (∀ a o, a ≠ p → H a = some o → H' a = some o) → H' p ≠ none → ∀ b, H' b = none → H b = none := fun k np b e => by
      cases q : H b with
      | none => rfl
      | some u =>
        by_cases h : b = p
        · rw [h] at e
          exact absurd e np
        · rw [k b u h q] at e
          cases e
    intro mk hmk
    have fmk := free k3 (by rw [hp3]; simp) mk hmk
    have npm : p ≠ mk := ne_of_none hp3 hmk
    refine ⟨_, rfl, _, rfl, pe, CP, pdx, _, _, rfl, (by rw [upd_ne (ne_of_none (k3 _ _ npe hpe) hmk)]; exact k3 _ _ npe hpe), TP.cl, TP.nm, pe_mask l st m, upd_same, [(Sum.inl 0, .int m)], rfl, by show 1 ≤ 15; decide, ?_⟩
    have em : mergeK [] [((Sum.inl 0 : Key), V.int m)] = [(Sum.inl 0, .int m)] := rfl
    rw [em]
    have hp4 : (upd (upd H3 mk (.dK [])) mk (.dK [(Sum.inl 0, .int m)])) p = some (.ins C dx (putF "last" (.int 1000000) (putF "first" (.int 0) (putF "seats" (.int st) [])))) := by rw [upd_ne npm, upd_ne npm]; exact hp3
    have k4 : ∀ a o, a ≠ p → H a = some o → (upd (upd H3 mk (.dK [])) mk (.dK [(Sum.inl 0, .int m)])) a = some o := fun a o n e => by
      have e3 := k3 a o n e
      rw [upd_ne (ne_of_none e3 hmk), upd_ne (ne_of_none e3 hmk)]
      exact e3
    have hm4 := upd_same (H := upd H3 mk (.dK [])) (a := mk) (o := .dK [(Sum.inl 0, .int m)])
    generalize upd (upd H3 mk (.dK [])) mk (.dK [(Sum.inl 0, .int m)]) = H4 at hp4 k4 hm4 ⊢
    refine ⟨_, rfl, p, C, dx, _, rfl, hp4, T.cl, T.n4, by show 3 < 1000; decide, ?_⟩
    have nmp : mk ≠ p := npm.symm
    have hm5 : (upd H4 p (.ins C dx (putF "masks" (.ref mk) (putF "last" (.int 1000000) (putF "first" (.int 0) (putF "seats" (.int st) [])))))) mk = some (.dK [(Sum.inl 0, .int m)]) := by rw [upd_ne nmp]; exact hm4
    have hp5 := upd_same (H := H4) (a := p) (o := .ins C dx (putF "masks" (.ref mk) (putF "last" (.int 1000000) (putF "first" (.int 0) (putF "seats" (.int st) [])))))
    have k5 : ∀ a o, a ≠ p → H a = some o → (upd H4 p (.ins C dx (putF "masks" (.ref mk) (putF "last" (.int 1000000) (putF "first" (.int 0) (putF "seats" (.int st) [])))))) a = some o := fun a o n e => by rw [upd_ne n]; exact k4 a o n e
    generalize upd H4 p (.ins C dx (putF "masks" (.ref mk) (putF "last" (.int 1000000) (putF "first" (.int 0) (putF "seats" (.int st) []))))) = H5 at hm5 hp5 k5 ⊢
    intro ad had
    have fad := free k5 (by rw [hp5]; simp) ad had
    have npa : p ≠ ad := ne_of_none hp5 had
    have nma : mk ≠ ad := ne_of_none hm5 had
    refine ⟨_, rfl, p, C, dx, _, rfl, (by rw [upd_ne npa]; exact hp5), T.cl, T.n5, by show 4 < 1000; decide, ?_⟩
    have hp6 := upd_same (H := upd H5 ad (.dK [])) (a := p) (o := .ins C dx (wb st mk ad))
    have hm6 : (upd (upd H5 ad (.dK [])) p (.ins C dx (wb st mk ad))) mk = some (.dK [(Sum.inl 0, .int m)]) := by rw [upd_ne nmp, upd_ne nma]; exact hm5
    have ha6 : (upd (upd H5 ad (.dK [])) p (.ins C dx (wb st mk ad))) ad = some (.dK []) := by rw [upd_ne npa.symm, upd_same]
    have k6 : ∀ a o, a ≠ p → H a = some o → (upd (upd H5 ad (.dK [])) p (.ins C dx (wb st mk ad))) a = some o := fun a o n e => by
      have e5 := k5 a o n e
      rw [upd_ne n, upd_ne (ne_of_none e5 had)]
      exact e5
    refine ⟨by show 0 ≤ sizeLine; decide, fun sd hsd => ?_⟩
    have fsd := free k6 (by rw [hp6]; simp) sd hsd
    have nps : p ≠ sd := ne_of_none hp6 hsd
    have nms : mk ≠ sd := ne_of_none hm6 hsd
    have nas : ad ≠ sd := ne_of_none ha6 hsd
    refine ⟨_, rfl, p, C, dx, _, rfl, (by rw [upd_ne nps]; exact hp6), T.cl, T.n6, by show 5 < 1000; decide, ?_⟩
    refine hQ _ mk ad sd (fun a o n e => ?_) fmk fad fsd nma nms nas upd_same ?_ ?_ ?_
    · have e6 := k6 a o n e
      rw [upd_ne n, upd_ne (ne_of_none e6 hsd)]
      exact e6
    · rw [upd_ne nmp, upd_ne nms]
      exact hm6
    · rw [upd_ne npa.symm, upd_ne nas]
      exact ha6
    · rw [upd_ne nps.symm, upd_same]
end
end K12
set_option Elab.async false
set_option linter.all false
set_option maxRecDepth 100000
set_option maxHeartbeats 4000000
namespace K12
open PySem PySem.Spec PyProof.Rows L2
open C8 (Cal Mak Met pe_c pe_mk pe_mt pe_mt0)
open SX (S)
/-- a span: where it stands, its first and last day -/
abbrev Spa := Addr × Int × Int
def sickOn (sps : List Spa) (d : Int) : Bool := sps.any fun x => decide (x.2.1 ≤ d ∧ d ≤ x.2.2)
def SpB (H : Hp) (sd : Addr) (sps : List Spa) : Prop := H sd = some (.lst (sps.map fun x => V.ref x.1)) ∧ ∀ x ∈ sps, H x.1 = some (.tup [.int x.2.1, .int x.2.2])
theorem SpB.keep {H H' : Hp} {sd : Addr} {sps : List Spa} (s : Same H H') (h : SpB H sd sps) : SpB H' sd sps := ⟨s _ _ h.1, fun x hx => s _ _ (h.2 x hx)⟩
/-- a Wish at q: its mask, what is told of days alone, its spans -/
structure Wi (C : Addr) (H : Hp) (q dx : Addr) (s : Int) (mk ad sd : Addr) (m : Nat) (kv : List (Key × V)) (al : Int → Option Bool) (sps : List Spa) : Prop where
  at_ : H q = some (.ins C dx (wiF s mk ad sd))
  mk_ : H mk = some (.dK [(Sum.inl 0, .int m)])
  ad_ : H ad = some (.dK kv)
  al_ : ∀ d, valV kv (Sum.inl d) = (al d).map V.bl
  sp_ : SpB H sd sps
theorem Wi.keep {C q dx mk ad sd : Addr} {H H' : Hp} {s : Int} {m : Nat} {kv : List (Key × V)} {al : Int → Option Bool} {sps : List Spa} (k : Same H H') (h : Wi C H q dx s mk ad sd m kv al sps) : Wi C H' q dx s mk ad sd m kv al sps := ⟨k _ _ h.at_, k _ _ h.mk_, k _ _ h.ad_, h.al_, h.sp_.keep k⟩
section
variable {P : Program} {w : World} {K : PySem.W.Frag} {mg : Str → Option Value} {base : Heap} {f C CP : Addr} {fd : FuncData}
def spSickOn (C : Addr) : Sp := fun vs H Q _ => ∃ (q dx mk ad sd : Addr) (s : Int) (m : Nat) (kv : List (Key × V)) (al : Int → Option Bool) (sps : List Spa) (d : Int), vs = [.ref q, .int d] ∧ Wi C H q dx s mk ad sd m kv al sps ∧ sps.length ≤ 100 ∧ ∀ H', Same H H' → Q (.bl (sickOn sps d)) H'
theorem ok_sickOn (F : Dn K d_Wish_is_sick f fd) (b : Bl mg) (T : ClW K mg C) : FnOk P w K mg base CX0 1 f fd ["self", "day"] (spSickOn C) := by
  refine F.ok sc_Wish_is_sick (fun vs H Q E h => ?_) (fun cdv A outer s H vs Q E hr h => ?_)
  · obtain ⟨q, dx, mk, ad, sd, st, m, kv, al, sps, d, rfl, _⟩ := h
    rfl
  · obtain ⟨q, dx, mk, ad, sd, st, m, kv, al, sps, d, rfl, W, hlen, hQ⟩ := h
    refine ⟨_, PSs.nox (pss_one (ps_ret (pe_callB (cr_any rfl) rfl b.any boot_any (pa_cons (pe_lc (own := [("first", 2), ("last", 3)]) (g := gTup K 2 (gCons (gName 2) (gCons (gName 3) gNil))) (tt := tYes) rfl sc_Wish_is_sick.nd (pi_list (pe_fld (pv 0) rfl)) (blkOk_by (N := N_Wish_is_sick) (sc := defScope s_Wish_is_sick) (by decide +kernel))
      (fun _ _ _ _ _ => pg_tup rfl (pgs_cons (pg_name (i := 2) sc_Wish_is_sick.nd rfl (Or.inl rfl)) (pgs_cons (pg_name (i := 3) sc_Wish_is_sick.nd rfl (Or.inl rfl)) pgs_nil))) (fun _ _ _ _ _ => pts_nil) (fun _ _ _ _ _ => pe_chain op_le op_le (pv 2) (pv 1) (pv 3))) pa_nil)))), ?_⟩
    refine ⟨_, rfl, q, C, dx, _, _, rfl, W.at_, T.cl, T.n6, (wi_look st mk ad sd).1, sd, rfl, ⟨_, SqL.of W.sp_.1⟩, fun D hD => ?_⟩
    refine lc_list (K := K) (xs := sps.map fun x => V.ref x.1) (fun i H2 => H2 D = some (.lst (((sps.take i).map fun x => decide (x.2.1 ≤ d ∧ d ≤ x.2.2)).map V.bl)) ∧ Same H H2) ⟨upd_same, same_new hD⟩ (fun i H2 _ z => SqL.of (z.2 _ _ W.sp_.1)) ?_ ?_
    · rintro i y H2 hi ⟨hd, s2⟩
      rw [List.getElem?_map] at hi
      cases hx : sps[i]? with
      | none =>
        rw [hx] at hi
        cases hi
      | some x =>
        rw [hx] at hi
        cases (Option.some.inj hi : V.ref x.1 = y)
        have hil : i < sps.length := (List.getElem?_eq_some_iff.mp hx).1
        refine ⟨x.1, _, rfl, SqT.of (s2 _ _ (W.sp_.2 x (List.mem_of_getElem? hx))), rfl, _, _, rfl, _, _, rfl, rfl, rfl, ?_⟩
        have fin : ∀ bb, bb = decide (x.2.1 ≤ d ∧ d ≤ x.2.2) → ∃ acc, H2 D = some (.lst acc) ∧ acc.length < sizeLine ∧ (upd H2 D (.lst (acc ++ [V.bl bb])) D = some (.lst (((sps.take (i + 1)).map fun x => decide (x.2.1 ≤ d ∧ d ≤ x.2.2)).map V.bl)) ∧ Same H (upd H2 D (.lst (acc ++ [V.bl bb])))) := by
          rintro bb rfl
          refine ⟨_, hd, ?_, ?_, fun a o e => ?_⟩
          · rw [List.length_map, List.length_map, List.length_take]
            exact Nat.lt_of_lt_of_le (by omega : min i sps.length < 128) (by decide)
          · rw [upd_same, List.take_add_one, hx]
            simp
          · rw [upd_ne (ne_of_none e hD)]
            exact s2 a o e
        refine ⟨_, rfl, _, rfl, _, _, rfl, rfl, _, rfl, ?_⟩
        refine ite2 (fun c => ?_) (fun c => ?_)
        · have c' : x.2.1 ≤ d := of_decide_eq_true c
          refine ⟨_, rfl, _, _, rfl, rfl, ?_⟩
          have e : decide (d ≤ x.2.2) = decide (x.2.1 ≤ d ∧ d ≤ x.2.2) := decide_eq_decide.mpr ⟨fun z => ⟨c', z⟩, fun z => z.2⟩
          exact fin _ e
        · have c' : ¬ x.2.1 ≤ d := fun z => c (decide_eq_true z)
          have e : decide (x.2.1 ≤ d ∧ d ≤ x.2.2) = false := decide_eq_false fun z => c' z.1
          exact fin _ e.symm
    · rintro H2 ⟨hd, s2⟩
      rw [List.length_map, List.take_length] at hd
      refine ⟨D, _, rfl, SqL.of hd, ?_⟩
      have e : (sps.map fun x => decide (x.2.1 ≤ d ∧ d ≤ x.2.2)).any id = sickOn sps d := by unfold sickOn; rw [List.any_map]; rfl
      rw [e]
      exact hQ H2 s2
/-- the mask on a day: that of entering -/
def spMaskOn (C : Addr) : Sp := fun vs H Q _ => ∃ (q dx mk ad sd : Addr) (s : Int) (m : Nat) (kv : List (Key × V)) (al : Int → Option Bool) (sps : List Spa) (d : Int), vs = [.ref q, .int d] ∧ Wi C H q dx s mk ad sd m kv al sps ∧ 0 ≤ d ∧ ∀ H', Same H H' → Q (.int m) H'
theorem ok_maskOn (F : Dn K d_Wish_mask_on f fd) (b : Bl mg) (T : ClW K mg C) : FnOk P w K mg base CX0 1 f fd ["self", "day"] (spMaskOn C) := by
  refine F.ok sc_Wish_mask_on (fun vs H Q E h => ?_) (fun cdv A outer s H vs Q E hr h => ?_)
  · obtain ⟨q, dx, mk, ad, sd, st, m, kv, al, sps, d, rfl, _⟩ := h
    rfl
  · obtain ⟨q, dx, mk, ad, sd, st, m, kv, al, sps, d, rfl, W, d0, hQ⟩ := h
    have hu := hu_of hr
    refine ⟨_, PSs.nox (pss_one (ps_ret (pe_lock (pe_dget hu (pe_fld (pv 0) rfl) (pe_callB (cr_max1 rfl) rfl b.max boot_max (pa_cons (pe_lc (own := [("start", 2)]) (g := gName 2) rfl sc_Wish_mask_on.nd (pi_keys (pe_fld (pv 0) rfl)) (blkOk_by (N := N_Wish_mask_on) (sc := defScope s_Wish_mask_on) (by decide +kernel))
      (fun _ _ _ _ _ => pg_name (i := 2) sc_Wish_mask_on.nd rfl (Or.inl rfl)) (fun _ _ _ _ _ => pts_one (pt_cmpR op_le (pv 2) (pv 1) (nomark _))) (fun _ _ _ _ _ => pv 2)) pa_nil)) (fun _ _ => rfl))))), ?_⟩
    have nqm : q ≠ mk := ne_of W.at_ W.mk_ (by intro z; cases z)
    refine ⟨mk, _, W.mk_, trivial, fun od => ?_⟩
    have hq : (upd H mk (.frz od (.dK [(Sum.inl 0, .int m)]))) q = some (.ins C dx (wiF st mk ad sd)) := by rw [upd_ne nqm]; exact W.at_
    refine ⟨_, rfl, q, C, dx, _, _, rfl, hq, T.cl, T.n4, (wi_look st mk ad sd).2.2.1, ?_⟩
    refine ⟨_, rfl, q, C, dx, _, _, rfl, hq, T.cl, T.n4, (wi_look st mk ad sd).2.2.1, mk, od, rfl, .inl ⟨_, upd_same, fun D hD => ?_⟩⟩
    have nmD : mk ≠ D := ne_of_none upd_same hD
    have frH : H D = none := by rw [upd_ne nmD.symm] at hD; exact hD
    refine lc_it walk_keys (fun i H2 => H2 D = some (.lst (([.int 0] : List V).take i)) ∧ H2 mk = some (.frz od (.dK [(Sum.inl 0, .int m)])) ∧ ∀ a o, a ≠ mk → H a = some o → H2 a = some o) ?_ (fun i H2 _ z => z.2.1) ?_ ?_
    · refine ⟨upd_same, by rw [upd_ne nmD]; exact upd_same, fun a o n e => ?_⟩
      rw [upd_ne (ne_of_none e frH), upd_ne n]
      exact e
    · rintro i x H2 H3 hi ⟨hd, hm, k2⟩ ⟨rfl, k, v, e, rfl⟩
      have i0 : i = 0 := by
        have : i < 1 := hi
        omega
      subst i0
      cases (Option.some.inj e : ((Sum.inl 0 : Key), V.int m) = (k, v))
      refine ⟨rfl, ?_⟩
      refine ⟨_, rfl, _, rfl, _, _, rfl, rfl, _, rfl, ?_⟩
      refine ite2 (fun _ => ?_) (fun z => absurd (decide_eq_true d0) z)
      refine ⟨_, rfl, _, hd, by show 0 < sizeLine; decide, upd_same, by rw [upd_ne nmD]; exact hm, fun a o n e => ?_⟩
      rw [upd_ne (ne_of_none e frH)]
      exact k2 a o n e
    · rintro H2 ⟨hd, hm, k2⟩
      refine ⟨D, 0, rfl, SqL.of hd, mk, _, rfl, .inl ⟨_, Sum.inl 0, .inr ⟨_, hm⟩, rfl, rfl⟩, hm, ?_⟩
      refine hQ _ fun a o e => ?_
      by_cases h : a = mk
      · subst h
        rw [upd_same, ← W.mk_]
        exact e
      · rw [upd_ne h]
        exact k2 a o h e
end
end K12
set_option Elab.async false
set_option linter.all false
set_option maxRecDepth 100000
set_option maxHeartbeats 4000000
namespace K12
open PySem PySem.Spec PyProof.Rows L2
open C8 (Cal Mak Met pe_c pe_mk pe_mt pe_mt0)
open SX (S)
def holdsOn (m : Nat) (al : Int → Option Bool) (sps : List Spa) (d : Int) : Bool := if sickOn sps d = true then false else (al d).getD (decide (m / 2 ^ (d % 7).toNat % 2 = 1))
theorem in_wd (m : Nat) {d : Int} (h0 : 0 ≤ d) : inV (.int (d % 7)) ((wd m).map V.int) = decide (m / 2 ^ (d % 7).toNat % 2 = 1) := by
  obtain ⟨j, hj⟩ := Int.eq_ofNat_of_zero_le (show 0 ≤ d % 7 by omega)
  have j7 : j < 7 := by omega
  rw [hj, Int.toNat_natCast]
  unfold inV wd
  rw [Bool.eq_iff_iff, List.any_eq_true, decide_eq_true_eq]
  constructor
  · rintro ⟨y, hy, e⟩
    rw [List.map_map, List.mem_map] at hy
    obtain ⟨x, hx, rfl⟩ := hy
    rw [List.mem_filter] at hx
    have e' : (x : Int) = (j : Int) := by
      have : ((Int.ofNat x) == (j : Int)) = true := e
      exact eq_of_beq this
    have : x = j := by omega
    subst this
    exact of_decide_eq_true hx.2
  · intro e
    refine ⟨.int (j : Int), ?_, ?_⟩
    · rw [List.map_map, List.mem_map]
      exact ⟨j, List.mem_filter.mpr ⟨List.mem_range.mpr j7, decide_eq_true e⟩, rfl⟩
    · show ((j : Int) == (j : Int)) = true
      exact beq_self_eq_true _
section
variable {P : Program} {w : World} {K : PySem.W.Frag} {mg : Str → Option Value} {base : Heap} {f C CP : Addr} {fd : FuncData}
def spHolds (C : Addr) : Sp := fun vs H Q _ => ∃ (q dx mk ad sd : Addr) (s : Int) (m : Nat) (kv : List (Key × V)) (al : Int → Option Bool) (sps : List Spa) (d : Int), vs = [.ref q, .int d] ∧ Wi C H q dx s mk ad sd m kv al sps ∧ sps.length ≤ 100 ∧ 0 ≤ d ∧ d ≤ 1000000 ∧ ∀ H', Same H H' → Q (.bl (holdsOn m al sps d)) H'
theorem ok_holds (F : Dn K d_Wish_holds_on f fd) (b : Bl mg) (T : ClW K mg C) (mS : Met P w K mg base 1 C "is_sick" (spSickOn C) []) (mM : Met P w K mg base 1 C "mask_on" (spMaskOn C) []) (cWd : Cal P w K mg base 1 "weekdays" spWd []) (g : ∃ t, mg "WEEK" = some (.int 7 t)) : FnOk P w K mg base CX0 2 f fd ["self", "day"] (spHolds C) := by
  refine F.ok sc_Wish_holds_on (fun vs H Q E h => ?_) (fun cdv A outer s H vs Q E hr h => ?_)
  · obtain ⟨q, dx, mk, ad, sd, st, m, kv, al, sps, d, rfl, _⟩ := h
    rfl
  · obtain ⟨q, dx, mk, ad, sd, st, m, kv, al, sps, d, rfl, W, hlen, d0, d1, hQ⟩ := h
    have hu := hu_of hr
    obtain ⟨t, g⟩ := g
    obtain ⟨k1, k2, k3, k4, k5⟩ := wi_look st mk ad sd
    have no : ∀ {x : Str}, ¬ x = "spans" → ¬ x = "alone" → ¬ x = "masks" → ¬ x = "last" → ¬ x = "first" → ¬ x = "seats" → (wiF st mk ad sd).lookup x = none := fun h1 h2 h3 h4 h5 h6 => wi_no st mk ad sd h1 h2 h3 h4 h5 h6
    refine ⟨_, PSs.nox (pss_cons (ps_if (PW.pt (pw_or (pt_not (pt_chain op_le op_le (pe_fld (pv 0) rfl) (pv 1) (pe_fld (pv 0) rfl))) (pw_or1 (pt_val (pe_mt mS hr (by decide) (pv 0) (pa_cons (pv 1) pa_nil)))))) (pss_one (ps_ret pe_bl)) pss_nil)
      (pss_cons (ps_if (pt_cmp (pc_din hu (pv 1) (pe_fld (pv 0) rfl))) (pss_one (ps_ret (pe_dget hu (pe_fld (pv 0) rfl) (pv 1) (fun _ _ => rfl)))) pss_nil)
      (pss_one (ps_ret (pe_cmpR op_in_seq (pe_op op_mod (pv 1) (pe_glob (v := .int 7) rfl g ⟨t, rfl⟩)) (pe_c cWd hr (by decide) rfl (pa_cons (pe_mt mM hr (by decide) (pv 0) (pa_cons (pv 1) pa_nil)) pa_nil)) rfl))))), ?_⟩
    refine ⟨_, rfl, q, C, dx, _, _, rfl, W.at_, T.cl, T.n2, k5, _, rfl, _, _, rfl, rfl, _, rfl, ?_⟩
    refine ite2 (fun _ => ?_) (fun z => absurd (decide_eq_true d0) z)
    refine ⟨_, rfl, q, C, dx, _, _, rfl, W.at_, T.cl, T.n3, k4, _, _, rfl, rfl, _, rfl, ?_⟩
    rw [decide_eq_true d1]
    refine iteF ?_
    refine ⟨_, rfl, q, dx, _, rfl, W.at_, no (by decide +kernel) (by decide +kernel) (by decide +kernel) (by decide +kernel) (by decide +kernel) (by decide +kernel), _, rfl, q, dx, mk, ad, sd, st, m, kv, al, sps, d, rfl, W, hlen, fun H1 s1 => ?_⟩
    have W1 := W.keep s1
    refine ⟨_, rfl, ?_⟩
    refine ite2 (fun c => ?_) (fun c => ?_)
    · have e : holdsOn m al sps d = false := by unfold holdsOn; rw [if_pos c]
      rw [e] at hQ
      exact hQ H1 s1
    have e1 : holdsOn m al sps d = (al d).getD (decide (m / 2 ^ (d % 7).toNat % 2 = 1)) := by unfold holdsOn; rw [if_neg c]
    rw [e1] at hQ
    refine ⟨_, rfl, _, rfl, q, C, dx, _, _, rfl, W1.at_, T.cl, T.n5, k2, ad, _, rfl, DGet.k (k := Sum.inl d) W1.ad_, _, rfl, ?_⟩
    rw [W1.al_]
    cases ha : al d with
    | some bb =>
      rw [ha] at hQ
      refine iteT ?_
      refine ⟨_, rfl, q, C, dx, _, _, rfl, W1.at_, T.cl, T.n5, k2, _, rfl, ad, .bl bb, rfl, ?_, hQ H1 s1⟩
      have := DGet.k (k := Sum.inl d) W1.ad_
      rw [W1.al_, ha] at this
      exact this
    | none =>
      rw [ha] at hQ
      refine iteF ?_
      refine ⟨_, rfl, _, _, rfl, rfl, (by decide : (0 : Int) < 7), ?_⟩
      refine ⟨_, rfl, q, dx, _, rfl, W1.at_, no (by decide +kernel) (by decide +kernel) (by decide +kernel) (by decide +kernel) (by decide +kernel) (by decide +kernel), _, rfl, q, dx, mk, ad, sd, st, m, kv, al, sps, d, rfl, W1, d0, fun H2 s2 => ?_⟩
      refine ⟨m, rfl, fun p H3 s3 fp hp => ?_⟩
      refine ⟨p, _, rfl, .inl (SqL.of hp), rfl, ?_, ?_⟩
      · rw [List.all_eq_true]
        intro x hx
        obtain ⟨y, _, rfl⟩ := List.mem_map.mp hx
        rfl
      · show Q (.bl (inV (.int (d % 7)) ((wd m).map V.int))) H3
        rw [in_wd m d0]
        exact hQ H3 ((s1.trans s2).trans s3)
end
end K12
set_option Elab.async false
set_option linter.all false
set_option maxRecDepth 100000
set_option maxHeartbeats 4000000
namespace K12
open PySem PySem.Spec PyProof.Rows L2
open C8 (Cal Mak Met pe_c pe_mk pe_mt pe_mt0)
open SX (S)
structure ClK (K : PySem.W.Frag) (mg : Str → Option Value) (C : Addr) : Prop where
  cl : Cls K C
  nw : NoAttr K C "wishes"
  g : mg "Wants" = some (.ref C)
def kwF (wd : Addr) : List (Str × V) := putF "wishes" (.ref wd) []
theorem kw_look (wd : Addr) : (kwF wd).lookup ("wishes" : Str) = some (.ref wd) := by
  unfold kwF
  rw [lookup_putF, if_pos rfl]
theorem kw_no (wd : Addr) {m : Str} (h : ¬ m = "wishes") : (kwF wd).lookup m = none := by
  unfold kwF
  rw [lookup_putF, if_neg h]
  rfl
/-- Wants at kw, with its dict -/
def Kw (C : Addr) (H : Hp) (kw wd : Addr) (kvs : List (Key × V)) : Prop := (∃ dx, H kw = some (.ins C dx (kwF wd))) ∧ H wd = some (.dK kvs)
section
variable {P : Program} {w : World} {K : PySem.W.Frag} {mg : Str → Option Value} {base : Heap} {f C CW CP : Addr} {fd : FuncData}
def spKI (C : Addr) : Sp := fun vs H Q _ => ∃ (p dx : Addr), vs = [.ref p] ∧ H p = some (.ins C dx []) ∧ ∀ wd, H wd = none → p ≠ wd → Q .non (upd (upd H wd (.dK [])) p (.ins C dx (kwF wd)))
theorem ok_kinit (F : Dn K d_Wants_init f fd) (T : ClK K mg C) : FnOk P w K mg base CX0 1 f fd ["self"] (spKI C) := by
  refine F.ok sc_Wants_init (fun vs H Q E h => ?_) (fun cdv A outer s H vs Q E hr h => ?_)
  · obtain ⟨p, dx, rfl, _⟩ := h
    rfl
  · obtain ⟨p, dx, rfl, hp, hQ⟩ := h
    refine ⟨_, PSs.nox (pss_one (ps_fld (pv 0) pe_dnewK rfl)), ?_⟩
    intro wd hwd
    have n : p ≠ wd := ne_of_none hp hwd
    exact ⟨_, rfl, p, C, dx, _, rfl, (by rw [upd_ne n]; exact hp), T.cl, T.nw, by show 0 < 1000; decide, hQ wd hwd n⟩
def spWishOf (C : Addr) : Sp := fun vs H Q _ => ∃ (kw wd q : Addr) (kvs : List (Key × V)) (x : Str), vs = [.ref kw, .str x] ∧ Kw C H kw wd kvs ∧ valV kvs (Sum.inr x) = some (.ref q) ∧ Q (.ref q) H
theorem ok_wishOf (F : Dn K d_Wants_wish_of f fd) (b : Bl mg) (T : ClK K mg C) : FnOk P w K mg base CX0 1 f fd ["self", "name"] (spWishOf C) := by
  refine F.ok sc_Wants_wish_of (fun vs H Q E h => ?_) (fun cdv A outer s H vs Q E hr h => ?_)
  · obtain ⟨kw, wd, q, kvs, x, rfl, _⟩ := h
    rfl
  · obtain ⟨kw, wd, q, kvs, x, rfl, ⟨⟨dx, hk⟩, hwd⟩, hv, hQ⟩ := h
    have hu := hu_of hr
    refine ⟨_, PSs.nox (pss_cons (ps_if (PW.pt (pw_or (pt_not (pt_val (pe_callB call_isi rfl b.isi boot_isinstance (pa_cons (pv 1) (pa_cons (pe_bltn (v := .ty "str") rfl b.str boot_str rfl) pa_nil))))) (pw_or1 (pt_cmp (pc_dnotin hu (pv 1) (pe_fld (pv 0) rfl)))))) pss_never pss_nil)
      (pss_one (ps_ret (pe_dget hu (pe_fld (pv 0) rfl) (pv 1) (fun _ _ => rfl))))), ?_⟩
    refine ⟨_, rfl, _, _, _, _, true, rfl, ClsV.ty _, TyX.base (TyOf.str _), kit_ty (by decide +kernel), true, rfl, iteF ?_⟩
    refine ⟨_, rfl, _, rfl, kw, C, dx, _, _, rfl, hk, T.cl, T.nw, kw_look wd, wd, _, rfl, DGet.k (k := Sum.inr x) hwd, _, rfl, ?_⟩
    rw [hv]
    refine iteF ?_
    refine ⟨_, rfl, kw, C, dx, _, _, rfl, hk, T.cl, T.nw, kw_look wd, _, rfl, wd, .ref q, rfl, ?_, hQ⟩
    have := DGet.k (k := Sum.inr x) hwd
    rw [hv] at this
    exact this
abbrev MetW (P : Program) (w : World) (K : PySem.W.Frag) (mg : Str → Option Value) (base : Heap) (C : Addr) : Prop := Met P w K mg base 1 C "wish_of" (spWishOf C) []
abbrev CalC (P : Program) (w : World) (K : PySem.W.Frag) (mg : Str → Option Value) (base : Heap) : Prop := Cal P w K mg base 4 "check_day" spCheck []
def spWants (C CW : Addr) : Sp := fun vs H Q _ => ∃ (kw wd q dx mk ad sd : Addr) (kvs : List (Key × V)) (x : Str) (s : Int) (m : Nat) (kv : List (Key × V)) (al : Int → Option Bool) (sps : List Spa) (d : Int), vs = [.ref kw, .str x, .int d] ∧ Kw C H kw wd kvs ∧ valV kvs (Sum.inr x) = some (.ref q) ∧
  Wi CW H q dx s mk ad sd m kv al sps ∧ sps.length ≤ 100 ∧ 0 ≤ d ∧ d ≤ 1000000 ∧ ∀ H', Same H H' → Q (.bl (holdsOn m al sps d)) H'
theorem ok_wants (F : Dn K d_Wants_wants f fd) (mW : MetW P w K mg base C) (cC : CalC P w K mg base) (mH : Met P w K mg base 2 CW "holds_on" (spHolds CW) []) : FnOk P w K mg base CX0 5 f fd ["self", "name", "day"] (spWants C CW) := by
  refine F.ok sc_Wants_wants (fun vs H Q E h => ?_) (fun cdv A outer s H vs Q E hr h => ?_)
  · obtain ⟨kw, wd, q, dx, mk, ad, sd, kvs, x, st, m, kv, al, sps, d, rfl, _⟩ := h
    rfl
  · obtain ⟨kw, wd, q, dx, mk, ad, sd, kvs, x, st, m, kv, al, sps, d, rfl, KW, hv, W, hlen, d0, d1, hQ⟩ := h
    obtain ⟨dk, hk⟩ := KW.1
    refine ⟨_, PSs.nox (pss_cons (ps_set (i := 3) sc_Wants_wants.nd rfl (.inl rfl) (pe_mt mW hr (by decide) (pv 0) (pa_cons (pv 1) pa_nil))) (pss_cons (ps_expr (pe_c cC hr (by decide) rfl (pa_cons (pv 2) pa_nil))) (pss_one (ps_ret (pe_mt mH hr (by decide) (pv 3) (pa_cons (pv 2) pa_nil)))))), ?_⟩
    refine ⟨_, rfl, kw, dk, _, rfl, hk, kw_no wd (by decide +kernel), _, rfl, kw, wd, q, kvs, x, rfl, KW, hv, ?_⟩
    refine ⟨_, rfl, d, rfl, d0, d1, ?_⟩
    exact ⟨_, rfl, q, dx, _, rfl, W.at_, wi_no st mk ad sd (by decide +kernel) (by decide +kernel) (by decide +kernel) (by decide +kernel) (by decide +kernel) (by decide +kernel), _, rfl, q, dx, mk, ad, sd, st, m, kv, al, sps, d, rfl, W, hlen, d0, d1, hQ⟩
def spOnly (C CW : Addr) : Sp := fun vs H Q _ => ∃ (kw wd q dx mk ad sd : Addr) (kvs : List (Key × V)) (x : Str) (s : Int) (m : Nat) (kv : List (Key × V)) (al : Int → Option Bool) (sps : List Spa) (d : Int) (bb : Bool), vs = [.ref kw, .str x, .int d, .bl bb] ∧ Kw C H kw wd kvs ∧ valV kvs (Sum.inr x) = some (.ref q) ∧
  Wi CW H q dx s mk ad sd m kv al sps ∧ kv.length ≤ 100 ∧ 0 ≤ d ∧ d ≤ 1000000 ∧ Q .non (upd H ad (.dK (putK kv (Sum.inl d) (.bl bb))))
theorem ok_only (F : Dn K d_Wants_only f fd) (b : Bl mg) (mW : MetW P w K mg base C) (cC : CalC P w K mg base) (TW : ClW K mg CW) : FnOk P w K mg base CX0 5 f fd ["self", "name", "day", "want"] (spOnly C CW) := by
  refine F.ok sc_Wants_only (fun vs H Q E h => ?_) (fun cdv A outer s H vs Q E hr h => ?_)
  · obtain ⟨kw, wd, q, dx, mk, ad, sd, kvs, x, st, m, kv, al, sps, d, bb, rfl, _⟩ := h
    rfl
  · obtain ⟨kw, wd, q, dx, mk, ad, sd, kvs, x, st, m, kv, al, sps, d, bb, rfl, KW, hv, W, hlen, d0, d1, hQ⟩ := h
    have hu := hu_of hr
    obtain ⟨dk, hk⟩ := KW.1
    refine ⟨_, PSs.nox (pss_cons (ps_set (i := 4) sc_Wants_only.nd rfl (.inl rfl) (pe_mt mW hr (by decide) (pv 0) (pa_cons (pv 1) pa_nil))) (pss_cons (ps_expr (pe_c cC hr (by decide) rfl (pa_cons (pv 2) pa_nil)))
      (pss_one (ps_dput hu (pe_fld (pv 4) rfl) (pv 2) (pe_callTy call_bool1 rfl b.bool boot_bool (pa_cons (pv 3) pa_nil)) rfl)))), ?_⟩
    refine ⟨_, rfl, kw, dk, _, rfl, hk, kw_no wd (by decide +kernel), _, rfl, kw, wd, q, kvs, x, rfl, KW, hv, ?_⟩
    refine ⟨_, rfl, d, rfl, d0, d1, ?_⟩
    exact ⟨_, rfl, .inr ⟨bb, rfl, _, rfl, q, CW, dx, _, _, rfl, W.at_, TW.cl, TW.n5, (wi_look st mk ad sd).2.1, _, rfl, ad, _, rfl, DPut.k (k := Sum.inl d) W.ad_ (Nat.lt_of_le_of_lt hlen (by decide)), hQ⟩⟩
def spSick (C CW : Addr) : Sp := fun vs H Q _ => ∃ (kw wd q dx mk ad sd : Addr) (kvs : List (Key × V)) (x : Str) (s : Int) (m : Nat) (kv : List (Key × V)) (al : Int → Option Bool) (sps : List Spa) (a z : Int), vs = [.ref kw, .str x, .int a, .int z] ∧ Kw C H kw wd kvs ∧ valV kvs (Sum.inr x) = some (.ref q) ∧
  Wi CW H q dx s mk ad sd m kv al sps ∧ sps.length ≤ 100 ∧ 0 ≤ a ∧ a ≤ z ∧ z ≤ 1000000 ∧ ∀ t, H t = none → Q .non (upd (upd H t (.tup [.int a, .int z])) sd (.lst ((sps ++ [((t, a, z) : Spa)]).map fun x => V.ref x.1)))
def spSpanC : Sp := fun vs H Q _ => ∃ a z : Int, vs = [.int a, .int z] ∧ 0 ≤ a ∧ a ≤ z ∧ z ≤ 1000000 ∧ Q .non H
theorem ok_spanC (F : Dn K d_check_span f fd) (cC : CalC P w K mg base) : FnOk P w K mg base CX0 5 f fd ["first", "last"] spSpanC := by
  refine F.ok sc_check_span (fun vs H Q E h => ?_) (fun cdv A outer s H vs Q E hr h => ?_)
  · obtain ⟨a, z, rfl, _⟩ := h
    rfl
  · obtain ⟨a, z, rfl, a0, az, z1, hQ⟩ := h
    refine ⟨_, PSs.nox (pss_cons (ps_expr (pe_c cC hr (by decide) rfl (pa_cons (pv 0) pa_nil))) (pss_cons (ps_expr (pe_c cC hr (by decide) rfl (pa_cons (pv 1) pa_nil)))
      (pss_one (ps_if (pt_cmpR op_lt (pv 1) (pv 0) (nomark _)) pss_never pss_nil)))), ?_⟩
    refine ⟨_, rfl, a, rfl, a0, by omega, ?_⟩
    refine ⟨_, rfl, z, rfl, by omega, z1, ?_⟩
    refine ⟨_, rfl, _, rfl, _, _, rfl, rfl, _, rfl, ?_⟩
    exact ite2 (fun c => absurd (of_decide_eq_true c) (by omega)) (fun _ => hQ)
theorem ok_sick (F : Dn K d_Wants_sick f fd) (mW : MetW P w K mg base C) (cC : Cal P w K mg base 5 "check_span" spSpanC []) (TW : ClW K mg CW) : FnOk P w K mg base CX0 6 f fd ["self", "name", "first", "last"] (spSick C CW) := by
  refine F.ok sc_Wants_sick (fun vs H Q E h => ?_) (fun cdv A outer s H vs Q E hr h => ?_)
  · obtain ⟨kw, wd, q, dx, mk, ad, sd, kvs, x, st, m, kv, al, sps, a, z, rfl, _⟩ := h
    rfl
  · obtain ⟨kw, wd, q, dx, mk, ad, sd, kvs, x, st, m, kv, al, sps, a, z, rfl, KW, hv, W, hlen, a0, az, z1, hQ⟩ := h
    obtain ⟨dk, hk⟩ := KW.1
    refine ⟨_, PSs.nox (pss_cons (ps_set (i := 4) sc_Wants_sick.nd rfl (.inl rfl) (pe_mt mW hr (by decide) (pv 0) (pa_cons (pv 1) pa_nil))) (pss_cons (ps_expr (pe_c cC hr (by decide) rfl (pa_cons (pv 2) (pa_cons (pv 3) pa_nil))))
      (pss_one (ps_expr (pe_bm PySem.F.plainAttrs_list PySem.F.slot_list_append PySem.F.type_list_append mt_append (pe_fld (pv 4) rfl) (pa_cons (pe_tup (pa_cons (pv 2) (pa_cons (pv 3) pa_nil))) pa_nil)))))), ?_⟩
    refine ⟨_, rfl, kw, dk, _, rfl, hk, kw_no wd (by decide +kernel), _, rfl, kw, wd, q, kvs, x, rfl, KW, hv, ?_⟩
    refine ⟨_, rfl, _, rfl, a, z, rfl, a0, az, z1, ?_⟩
    refine ⟨_, rfl, q, CW, dx, _, _, rfl, W.at_, TW.cl, TW.n6, (wi_look st mk ad sd).1, Or.inl ⟨rfl, _, SqL.of W.sp_.1⟩, _, rfl, _, rfl, by show 2 ≤ sizeLine; decide, fun t ft => ?_⟩
    refine ⟨sd, _, _, rfl, rfl, same_new ft _ _ W.sp_.1, ?_, ?_⟩
    · rw [List.length_map]
      exact Nat.lt_of_le_of_lt hlen (by decide)
    · have := hQ t ft
      rw [List.map_append] at this
      exact this
end
end K12
set_option Elab.async false
set_option linter.all false
set_option maxRecDepth 100000
set_option maxHeartbeats 4000000
namespace K12
open PySem PySem.Spec PyProof.Rows L2
open C8 (Cal Mak Met pe_c pe_mk pe_mt pe_mt0)
open SX (S)
theorem putF_len (x : Str) (v : V) : ∀ fs : List (Str × V), (putF x v fs).length ≤ fs.length + 1
  | [] => by simp [putF]
  | q :: fs => by
    obtain ⟨y, z⟩ := q
    have := putF_len x v fs
    unfold putF
    split <;> simp <;> omega
theorem wi_len (s : Int) (mk ad sd : Addr) : (wiF s mk ad sd).length < 1000 := by
  unfold wiF wb
  have h1 := putF_len "seats" (.int s) []
  have h2 := putF_len "first" (.int 0) (putF "seats" (.int s) [])
  have h3 := putF_len "last" (.int 1000000) (putF "first" (.int 0) (putF "seats" (.int s) []))
  have h4 := putF_len "masks" (.ref mk) (putF "last" (.int 1000000) (putF "first" (.int 0) (putF "seats" (.int s) [])))
  have h5 := putF_len "alone" (.ref ad) (putF "masks" (.ref mk) (putF "last" (.int 1000000) (putF "first" (.int 0) (putF "seats" (.int s) []))))
  have h6 := putF_len "spans" (.ref sd) (putF "alone" (.ref ad) (putF "masks" (.ref mk) (putF "last" (.int 1000000) (putF "first" (.int 0) (putF "seats" (.int s) [])))))
  simp at h1
  omega
theorem sick_app (a b : List Spa) (t : Int) : sickOn (a ++ b) t = (sickOn a t || sickOn b t) := by
  unfold sickOn
  rw [List.any_append]
section
variable {P : Program} {w : World} {K : PySem.W.Frag} {mg : Str → Option Value} {base : Heap} {f C CW CP : Addr} {fd : FuncData}
def spWell (C CW : Addr) : Sp := fun vs H Q _ => ∃ (kw wd q dx mk ad sd : Addr) (kvs : List (Key × V)) (x : Str) (s : Int) (m : Nat) (kv : List (Key × V)) (al : Int → Option Bool) (sps : List Spa) (d : Int), vs = [.ref kw, .str x, .int d] ∧ Kw C H kw wd kvs ∧ valV kvs (Sum.inr x) = some (.ref q) ∧
  Wi CW H q dx s mk ad sd m kv al sps ∧ sps.length ≤ 100 ∧ 0 ≤ d ∧ d ≤ 1000000 ∧
  ∀ (D : Addr) (sps' : List Spa) (H' : Hp), Same H H' → H D = none → SpB H' D sps' → sps'.length ≤ sps.length → (∀ t, sickOn sps' t = (sickOn sps t && decide (t < d))) → Q .non (upd H' q (.ins CW dx (wiF s mk ad D)))
theorem ok_well (F : Dn K d_Wants_well f fd) (b : Bl mg) (mW : MetW P w K mg base C) (cC : CalC P w K mg base) (TW : ClW K mg CW) : FnOk P w K mg base CX0 5 f fd ["self", "name", "day"] (spWell C CW) := by
  refine F.ok sc_Wants_well (fun vs H Q E h => ?_) (fun cdv A outer s H vs Q E hr h => ?_)
  · obtain ⟨kw, wd, q, dx, mk, ad, sd, kvs, x, st, m, kv, al, sps, d, rfl, _⟩ := h
    rfl
  · obtain ⟨kw, wd, q, dx, mk, ad, sd, kvs, x, st, m, kv, al, sps, d, rfl, KW, hv, W, hlen, d0, d1, hQ⟩ := h
    obtain ⟨dk, hk⟩ := KW.1
    refine ⟨_, PSs.nox (pss_cons (ps_set (i := 3) sc_Wants_well.nd rfl (.inl rfl) (pe_mt mW hr (by decide) (pv 0) (pa_cons (pv 1) pa_nil))) (pss_cons (ps_expr (pe_c cC hr (by decide) rfl (pa_cons (pv 2) pa_nil)))
      (pss_one (ps_fld (pv 3) (pe_lc (own := [("first", 4), ("last", 5)]) (g := gTup K 2 (gCons (gName 4) (gCons (gName 5) gNil))) rfl sc_Wants_well.nd (pi_list (pe_fld (pv 3) rfl)) (blkOk_by (N := N_Wants_well) (sc := defScope s_Wants_well) (by decide +kernel))
        (fun _ _ _ _ _ => pg_tup rfl (pgs_cons (pg_name (i := 4) sc_Wants_well.nd rfl (Or.inl rfl)) (pgs_cons (pg_name (i := 5) sc_Wants_well.nd rfl (Or.inl rfl)) pgs_nil))) (fun _ _ _ _ _ => pts_one (pt_cmpR op_lt (pv 4) (pv 2) (nomark _)))
        (fun _ _ _ _ _ => pe_tup (pa_cons (pv 4) (pa_cons (pe_callB (call_min2 rfl) rfl b.min boot_min (pa_cons (pv 5) (pa_cons (pe_op op_sub (pv 2) pe_int) pa_nil))) pa_nil)))) rfl)))), ?_⟩
    refine ⟨_, rfl, kw, dk, _, rfl, hk, kw_no wd (by decide +kernel), _, rfl, kw, wd, q, kvs, x, rfl, KW, hv, ?_⟩
    refine ⟨_, rfl, d, rfl, d0, d1, ?_⟩
    refine ⟨_, rfl, q, CW, dx, _, _, rfl, W.at_, TW.cl, TW.n6, (wi_look st mk ad sd).1, sd, rfl, ⟨_, SqL.of W.sp_.1⟩, fun D hD => ?_⟩
    refine lc_list (K := K) (xs := sps.map fun x => V.ref x.1) (fun i H2 => ∃ sps' : List Spa, SpB H2 D sps' ∧ sps'.length ≤ i ∧ (∀ t, sickOn sps' t = (sickOn (sps.take i) t && decide (t < d))) ∧ Same H H2)
      ⟨[], ⟨upd_same, by simp⟩, Nat.le_refl _, fun t => rfl, same_new hD⟩ (fun i H2 _ z => by obtain ⟨_, _, _, _, s2⟩ := z; exact SqL.of (s2 _ _ W.sp_.1)) ?_ ?_
    · rintro i y H2 hi ⟨sps', hsp, hl', hs', s2⟩
      rw [List.getElem?_map] at hi
      cases hx : sps[i]? with
      | none =>
        rw [hx] at hi
        cases hi
      | some x =>
        rw [hx] at hi
        cases (Option.some.inj hi : V.ref x.1 = y)
        have hil : i < sps.length := (List.getElem?_eq_some_iff.mp hx).1
        have et : sps.take (i + 1) = sps.take i ++ [x] := by rw [List.take_add_one, hx]; rfl
        have one : ∀ t, sickOn [x] t = decide (x.2.1 ≤ t ∧ t ≤ x.2.2) := fun t => by unfold sickOn; simp
        refine ⟨x.1, _, rfl, SqT.of (s2 _ _ (W.sp_.2 x (List.mem_of_getElem? hx))), rfl, _, _, rfl, _, _, rfl, rfl, rfl, ?_⟩
        refine ⟨_, rfl, _, rfl, _, _, rfl, rfl, _, rfl, ?_⟩
        refine ite2 (fun c => ?_) (fun c => ?_)
        · have c' : x.2.1 < d := of_decide_eq_true c
          refine ⟨_, rfl, _, rfl, _, rfl, _, _, rfl, rfl, _, _, rfl, by show 2 ≤ sizeLine; decide, fun u fu => ?_⟩
          have su := same_new (o := .tup [.int x.2.1, .int (if d - 1 < x.2.2 then d - 1 else x.2.2)]) fu
          have nDu : D ≠ u := ne_of_none hsp.1 fu
          refine ⟨_, su _ _ hsp.1, ?_, sps' ++ [(u, x.2.1, if d - 1 < x.2.2 then d - 1 else x.2.2)], ⟨?_, ?_⟩, ?_, ?_, ?_⟩
          · rw [List.length_map]
            exact Nat.lt_of_lt_of_le (by omega : sps'.length < 128) (by decide)
          · rw [upd_same]
            simp
          · intro z hz
            rcases List.mem_append.mp hz with hz | hz
            · rw [upd_ne (ne_of (hsp.2 z hz) hsp.1 (by intro z; cases z))]
              exact su _ _ (hsp.2 z hz)
            · cases List.mem_singleton.mp hz
              rw [upd_ne nDu.symm]
              exact upd_same
          · rw [List.length_append]
            simp
            omega
          · intro t
            rw [sick_app, hs', et, sick_app, one]
            have e : sickOn [((u, x.2.1, if d - 1 < x.2.2 then d - 1 else x.2.2) : Spa)] t = (decide (x.2.1 ≤ t ∧ t ≤ x.2.2) && decide (t < d)) := by
              unfold sickOn
              simp only [List.any_cons, List.any_nil, Bool.or_false]
              rw [← Bool.decide_and]
              refine decide_eq_decide.mpr ⟨fun z => ?_, fun z => ?_⟩
              · have z1 := z.1
                have z2 := z.2
                split at z2 <;> omega
              · refine ⟨z.1.1, ?_⟩
                split <;> omega
            rw [e, Bool.and_or_distrib_right]
          · intro a o e
            rw [upd_ne (ne_of_none e hD)]
            exact su _ _ (s2 a o e)
        · have c' : ¬ x.2.1 < d := fun z => c (decide_eq_true z)
          refine ⟨sps', hsp, by omega, fun t => ?_, s2⟩
          rw [hs', et, sick_app, one, Bool.and_or_distrib_right]
          have e : (decide (x.2.1 ≤ t ∧ t ≤ x.2.2) && decide (t < d)) = false := by
            rw [← Bool.decide_and]
            exact decide_eq_false fun z => by omega
          rw [e, Bool.or_false]
    · rintro H2 ⟨sps', hsp, hl', hs', s2⟩
      rw [List.length_map] at hl' hs'
      rw [List.take_length] at hs'
      refine ⟨_, rfl, q, CW, dx, _, rfl, s2 _ _ W.at_, TW.cl, TW.n6, ?_, ?_⟩
      · show (wiF st mk ad sd).length < 1000
        exact wi_len st mk ad sd
      · rw [wi_put]
        exact hQ D sps' H2 s2 hD hsp hl' hs'
abbrev MakW (P : Program) (w : World) (K : PySem.W.Frag) (mg : Str → Option Value) (base : Heap) (CW CP : Addr) : Prop := Mak P w K mg base 1 "Wish" CW (spWI CW CP) []
def spEnter (C CW CP : Addr) : Sp := fun vs H Q _ => ∃ (kw wd pe pdx : Addr) (kvs : List (Key × V)) (l : List Nat) (s m : Int), vs = [.ref kw, .ref pe, .int 0] ∧ Kw C H kw wd kvs ∧ H pe = some (.ins CP pdx (peF l s m)) ∧ valV kvs (Sum.inr (S l)) = none ∧ kvs.length ≤ 100 ∧
  ∀ (q dx mk ad sd : Addr) (H' : Hp), H q = none → H mk = none → H ad = none → H sd = none → mk ≠ ad → mk ≠ wd → ad ≠ wd → (∀ b o, b ≠ wd → H b = some o → H' b = some o) → H' wd = some (.dK (putK kvs (Sum.inr (S l)) (.ref q))) →
    H' q = some (.ins CW dx (wiF s mk ad sd)) → H' mk = some (.dK [(Sum.inl 0, .int m)]) → H' ad = some (.dK []) → H' sd = some (.lst []) → Q .non H'
theorem ok_enter (F : Dn K d_Wants_enter f fd) (T : ClK K mg C) (TP : ClP K mg CP) (cC : CalC P w K mg base) (MW : MakW P w K mg base CW CP) : FnOk P w K mg base CX0 5 f fd ["self", "person", "day"] (spEnter C CW CP) := by
  refine F.ok sc_Wants_enter (fun vs H Q E h => ?_) (fun cdv A outer s H vs Q E hr h => ?_)
  · obtain ⟨kw, wd, pe, pdx, kvs, l, st, m, rfl, _⟩ := h
    rfl
  · obtain ⟨kw, wd, pe, pdx, kvs, l, st, m, rfl, ⟨⟨dk, hk⟩, hwd⟩, hpe, hv, hlen, hQ⟩ := h
    have hu := hu_of hr
    refine ⟨_, PSs.nox (pss_cons (ps_if (pt_cmp (pc_din hu (pe_fld (pv 1) rfl) (pe_fld (pv 0) rfl))) pss_never pss_nil) (pss_cons (ps_expr (pe_c cC hr (by decide) rfl (pa_cons (pv 2) pa_nil)))
      (pss_one (ps_dput hu (pe_fld (pv 0) rfl) (pe_fld (pv 1) rfl) (pe_mk MW hr (by decide) rfl (pa_cons (pv 1) (pa_cons (pv 2) pa_nil))) rfl)))), ?_⟩
    refine ⟨_, rfl, pe, CP, pdx, _, _, rfl, hpe, TP.cl, TP.nn, pe_name l st m, _, rfl, kw, C, dk, _, _, rfl, hk, T.cl, T.nw, kw_look wd, wd, _, rfl, DGet.k (k := Sum.inr (S l)) hwd, _, rfl, ?_⟩
    rw [hv]
    refine iteF ?_
    refine ⟨_, rfl, 0, rfl, by decide, by decide, ?_⟩
    refine ⟨_, rfl, _, rfl, ?_⟩
    intro q dx nq nd ne
    have k0 : ∀ b o, H b = some o → (upd (upd H dx (.own q)) q (.ins CW dx [])) b = some o := fun b o e => by
      rw [upd_ne (ne_of_none e nq), upd_ne (ne_of_none e nd)]
      exact e
    have fr0 : ∀ b, (upd (upd H dx (.own q)) q (.ins CW dx [])) b = none → H b = none := fun b e => by
      cases z : H b with
      | none => rfl
      | some u =>
        rw [k0 b u z] at e
        cases e
    refine ⟨q, dx, pe, pdx, l, st, m, rfl, k0 _ _ hpe, upd_same, fun H' mk ad sd k fmk fad fsd n1 n2 n3 hq hmk had hsd => ⟨rfl, ?_⟩⟩
    have nqw : wd ≠ q := ne_of_none hwd nq
    have k1 : ∀ b o, H b = some o → H' b = some o := fun b o e => k b o (ne_of_none e nq) (k0 b o e)
    have fmk' := fr0 _ fmk
    have fad' := fr0 _ fad
    have fsd' := fr0 _ fsd
    have nmw : mk ≠ wd := (ne_of_none hwd fmk').symm
    have naw : ad ≠ wd := (ne_of_none hwd fad').symm
    have nsw : sd ≠ wd := (ne_of_none hwd fsd').symm
    refine ⟨_, rfl, kw, C, dk, _, _, rfl, k1 _ _ hk, T.cl, T.nw, kw_look wd, _, rfl, pe, CP, pdx, _, _, rfl, k1 _ _ hpe, TP.cl, TP.nn, pe_name l st m, wd, _, rfl, DPut.k (k := Sum.inr (S l)) (k1 _ _ hwd) (Nat.lt_of_le_of_lt hlen (by decide)), ?_⟩
    refine hQ q dx mk ad sd _ nq fmk' fad' fsd' n1 nmw naw (fun b o n e => ?_) upd_same ?_ ?_ ?_ ?_
    · rw [upd_ne n]
      exact k1 b o e
    · rw [upd_ne nqw.symm]
      exact hq
    · rw [upd_ne nmw]
      exact hmk
    · rw [upd_ne naw]
      exact had
    · rw [upd_ne nsw]
      exact hsd
end
end K12
set_option Elab.async false
set_option linter.all false
set_option maxRecDepth 100000
set_option maxHeartbeats 4000000
namespace K12
open PySem PySem.Spec PyProof.Rows L2
open C8 (Cal Mak Met pe_c pe_mk pe_mt pe_mt0)
open SX (S)
/-- what is told in a turn -/
inductive Tn where
  | sick (l : List Nat) (a z : Int)
  | well (l : List Nat) (d : Int)
  | only (l : List Nat) (d : Int) (b : Bool)
def Tn.l : Tn → List Nat
  | .sick l _ _ => l
  | .well l _ => l
  | .only l _ _ => l
def Tn.v : Tn → List V
  | .sick l a z => [.str (Str.ofString "sick"), .str (S l), .int a, .int z]
  | .well l d => [.str (Str.ofString "well"), .str (S l), .int d]
  | .only l d b => [.str (Str.ofString "only"), .str (S l), .int d, .bl b]
def TnB (H : Hp) (tl : Addr) (ts : List (Addr × Tn)) : Prop := H tl = some (.lst (ts.map fun x => V.ref x.1)) ∧ ∀ x ∈ ts, H x.1 = some (.tup x.2.v)
/-- lost to a name on a day, behind a turn -/
def sickS (l : List Nat) (d : Int) (o : Option Bool) : Tn → Option Bool
  | .sick l' a z => if l' = l ∧ a ≤ d ∧ d ≤ z then some true else o
  | .well l' c => if l' = l ∧ c ≤ d then some false else o
  | .only _ _ _ => o
def aloneS (l : List Nat) (d : Int) (o : Option Bool) : Tn → Option Bool
  | .only l' c b => if l' = l ∧ c = d then some b else o
  | _ => o
def sickF (l : List Nat) (ts : List Tn) (d : Int) : Option Bool := ts.foldl (sickS l d) none
def aloneF (l : List Nat) (ts : List Tn) (d : Int) : Option Bool := ts.foldl (aloneS l d) none
theorem putK_len (kvs : List (Key × V)) (k : Key) (v : V) : (putK kvs k v).length ≤ kvs.length + 1 := by
  unfold putK
  split
  · rw [List.length_map]
    omega
  · rw [List.length_append]
    simp
/-- a dict by days -/
def Dy (H : Hp) (p : Addr) (n : Nat) (g : Int → Option Bool) : Prop := ∃ kv, H p = some (.dK kv) ∧ kv.length ≤ n ∧ ∀ d, valV kv (Sum.inl d) = (g d).map V.bl
theorem Dy.put {H : Hp} {p : Addr} {n : Nat} {g : Int → Option Bool} (h : Dy H p n g) (d : Int) (b : Bool) (hn : n < 1000000) : ∃ H', DPut H p (.int d) (.bl b) H' ∧ Dy H' p (n + 1) (fun t => if t = d then some b else g t) ∧ ∀ a o, a ≠ p → H a = some o → H' a = some o := by
  obtain ⟨kv, e, hl, hv⟩ := h
  refine ⟨_, DPut.k (k := Sum.inl d) e (Nat.lt_of_le_of_lt hl (Nat.lt_trans hn (by decide))), ⟨_, upd_same, Nat.le_trans (putK_len _ _ _) (by omega), fun t => ?_⟩, fun a o n e => by rw [upd_ne n]; exact e⟩
  rw [valV_put, hv]
  show _ = Option.map V.bl (if t = d then some b else g t)
  by_cases h : t = d
  · rw [if_pos (by rw [h]), if_pos h]
    rfl
  · rw [if_neg (fun z => h (Sum.inl.inj z)), if_neg h]
theorem Dy.weak {H : Hp} {p : Addr} {n n' : Nat} {g : Int → Option Bool} (h : Dy H p n g) (hn : n ≤ n') : Dy H p n' g := by
  obtain ⟨kv, e, hl, hv⟩ := h
  exact ⟨kv, e, Nat.le_trans hl hn, hv⟩
theorem Dy.keep {H H' : Hp} {p : Addr} {n : Nat} {g : Int → Option Bool} (h : Dy H p n g) (k : ∀ o, H p = some o → H' p = some o) : Dy H' p n g := by
  obtain ⟨kv, e, hl, hv⟩ := h
  exact ⟨kv, k _ e, hl, hv⟩
theorem Dy.cong {H : Hp} {p : Addr} {n : Nat} {g g' : Int → Option Bool} (h : Dy H p n g) (e : ∀ d, g d = g' d) : Dy H p n g' := by
  rwa [← funext e]
theorem shaped3 {a : Str} (ha : PyData.strOk a = true) {l : List Nat} (h : NM.ok l) (c : Int) : SeqAt.shaped (.tuple [.str a, .str (S l), .int c]) = true := by
  have hl : PyData.strOk (S l) = true := by
    unfold PyData.strOk
    rw [← Array.all_toList, List.all_eq_true]
    intro x hx
    have := h.2.2 x hx
    exact decide_eq_true (by omega)
  simp [SeqAt.shaped, PyData.canLay0, PyData.canLayAll0, PyData.depth, PyData.depthAll, ha, hl]
theorem w_sw : ¬ (Str.ofString "well" = Str.ofString "sick") := by decide +kernel
theorem w_so : ¬ (Str.ofString "only" = Str.ofString "sick") := by decide +kernel
theorem w_ow : ¬ (Str.ofString "only" = Str.ofString "well") := by decide +kernel
theorem w_ws : ¬ (Str.ofString "sick" = Str.ofString "well") := by decide +kernel
theorem sick_idem (l : List Nat) (d : Int) (o : Option Bool) (x : Tn) : sickS l d (sickS l d o x) x = sickS l d o x := by
  cases x <;> simp only [sickS] <;> split <;> simp_all
theorem alone_idem (l : List Nat) (d : Int) (o : Option Bool) (x : Tn) : aloneS l d (aloneS l d o x) x = aloneS l d o x := by
  cases x <;> simp only [aloneS] <;> split <;> simp_all
/-- the first two of the three questions -/
def o1 (l : List Nat) (d : Int) (o : Option Bool) : Tn → Option Bool
  | .sick l' a z => if l' = l ∧ a ≤ d ∧ d ≤ z then some true else o
  | _ => o
theorem o1_then (l : List Nat) (d : Int) (o : Option Bool) (x : Tn) : (match x with | .well l' c => if l' = l ∧ c ≤ d then some false else o1 l d o x | _ => o1 l d o x) = sickS l d o x := by
  cases x <;> rfl
theorem Dy.same_put {H : Hp} {p : Addr} {n : Nat} {g : Int → Option Bool} (h : Dy H p n g) (d : Int) : Dy H p (n + 1) (fun t => if t = d then g d else g t) :=
  (h.weak (Nat.le_succ n)).cong fun t => by
    by_cases e : t = d
    · rw [if_pos e, e]
    · rw [if_neg e]
section
variable {P : Program} {w : World} {K : PySem.W.Frag} {mg : Str → Option Value} {base : Heap} {f C CW CP : Addr} {fd : FuncData}
def spCounted : Sp := fun vs H Q _ => ∃ (tl dl : Addr) (l : List Nat) (ts : List (Addr × Tn)) (days : List Int), vs = [.ref tl, .str (S l), .ref dl] ∧ TnB H tl ts ∧ (∀ x ∈ ts, NM.ok x.2.l) ∧ NM.ok l ∧ H dl = some (.lst (days.map V.int)) ∧ ts.length ≤ 70 ∧ days.length ≤ 100 ∧
  ∀ (t s a : Addr) (H' : Hp), Same H H' → H t = none → H s = none → H a = none → s ≠ a → H' t = some (.tup [.ref s, .ref a]) → (∃ g, Dy H' s 20000 g ∧ ∀ d ∈ days, g d = sickF l (ts.map (·.2)) d) → (∃ g, Dy H' a 20000 g ∧ ∀ d ∈ days, g d = aloneF l (ts.map (·.2)) d) → Q (.ref t) H'
/-- sick behind the first i days of a turn -/
def mixF (days : List Int) (i : Nat) (g : Int → Option Bool) (step : Int → Option Bool → Option Bool) (d : Int) : Option Bool := if d ∈ days.take i then step d (g d) else g d
theorem ok_counted (F : Dn K d_l_counted f fd) : FnOk P w K mg base CX0 1 f fd ["_law_turns_here", "_law_called", "_law_days"] spCounted := by
  refine F.ok sc_l_counted (fun vs H Q E h => ?_) (fun cdv A outer s H vs Q E hr h => ?_)
  · obtain ⟨tl, dl, l, ts, days, rfl, _⟩ := h
    rfl
  · obtain ⟨tl, dl, l, ts, days, rfl, hT, hok, okl, hdl, tlen, dlen, hQ⟩ := h
    have hu := hu_of hr
    have hu64 : (A.deeper (envOfC d_l_counted.qual d_l_counted.scope s.heap.objs.size f cdv)).units + 64 < cLine := by have := hr.un; omega
    refine ⟨_, PSs.nox (pss_cons (ps_par (i := 3) (j := 4) rfl sc_l_counted.nd rfl rfl (by decide) rfl rfl (pa_cons pe_dnewK (pa_cons pe_dnewK pa_nil)) rfl)
      (pss_cons (ps_for PassesOwn.never rfl (pi_list (pv 0)) (pg_name (i := 5) sc_l_counted.nd rfl (.inl rfl))
        (pss_one (ps_for PassesOwn.never rfl (pi_list (pv 2)) (pg_name (i := 6) sc_l_counted.nd rfl (.inl rfl))
          (C8.pss_cut (ps_if (PW.pt (pw_and (pt_cmpR op_eq (pe_ix ix_tup (pv 5) pe_int (fun _ _ => rfl)) (pv 1) (nomark _)) (pw_and (pt_cmpR op_eq (pe_ix ix_tup (pv 5) pe_int (fun _ _ => rfl)) pe_str (nomark _))
              (pw_and1 (pt_chain op_le op_le (pe_ix ix_tup (pv 5) pe_int (fun _ _ => rfl)) (pv 6) (pe_ix ix_tup (pv 5) pe_int (fun _ _ => rfl))))))) (pss_one (ps_dput hu (pv 3) (pv 6) pe_bl rfl)) pss_nil)
          (C8.pss_cut (ps_if (PW.pt (pw_and (pt_cmpR op_eq (pe_ix ix_tup (pv 5) pe_int (fun _ _ => rfl)) (pv 1) (nomark _)) (pw_and (pt_cmpR op_eq (pe_ix ix_tup (pv 5) pe_int (fun _ _ => rfl)) pe_str (nomark _))
              (pw_and1 (pt_cmpR op_ge (pv 6) (pe_ix ix_tup (pv 5) pe_int (fun _ _ => rfl)) (nomark _)))))) (pss_one (ps_dput hu (pv 3) (pv 6) pe_bl rfl)) pss_nil)
          (pss_one (ps_if (pt_cmpR (op_eqD hu64) (pe_slice sl_tupA (pv 5) po_none (po_some pe_int)) (pe_tup (pa_cons pe_str (pa_cons (pv 1) (pa_cons (pv 6) pa_nil)))) (nomark _))
            (pss_one (ps_dput hu (pv 4) (pv 6) (pe_ix ix_tup (pv 5) pe_int (fun _ _ => rfl)) rfl)) pss_nil)))))))
      (pss_one (ps_ret (pe_tup (pa_cons (pv 3) (pa_cons (pv 4) pa_nil))))))), ?_⟩
    intro sd hsd
    have s1 := same_new (o := .dK []) hsd
    intro ad had
    have s2 := same_new (o := .dK []) had
    have nsa : sd ≠ ad := ne_of_none upd_same had
    have fad := s1.free had
    have sH := s1.trans s2
    have hS0 : Dy (upd (upd H sd (.dK [])) ad (.dK [])) sd 0 (fun _ => none) := ⟨[], by rw [upd_ne nsa]; exact upd_same, Nat.le_refl _, fun _ => rfl⟩
    have hA0 : Dy (upd (upd H sd (.dK [])) ad (.dK [])) ad 0 (fun _ => none) := ⟨[], upd_same, Nat.le_refl _, fun _ => rfl⟩
    generalize upd (upd H sd (.dK [])) ad (.dK []) = H1 at sH hS0 hA0 ⊢
    refine ⟨_, _, rfl, ?_⟩
    refine ⟨_, rfl, tl, rfl, ⟨_, SqL.of (sH _ _ hT.1)⟩, for_list (K := K) (xs := ts.map fun x => V.ref x.1) (fun j σ H2 => ∃ (v5 v6 : Option V) (gS gA : Int → Option Bool), σ = [some (.ref tl), some (.str (S l)), some (.ref dl), some (.ref sd), some (.ref ad), v5, v6] ∧ Same H H2 ∧
        Dy H2 sd (200 * j) gS ∧ Dy H2 ad (200 * j) gA ∧ (∀ d ∈ days, gS d = sickF l ((ts.map (·.2)).take j) d) ∧ ∀ d ∈ days, gA d = aloneF l ((ts.map (·.2)).take j) d)
      ⟨_, _, _, _, rfl, sH, hS0, hA0, fun _ _ => rfl, fun _ _ => rfl⟩ (fun j σ H2 _ z => by obtain ⟨_, _, _, _, _, s2, _⟩ := z; exact SqL.of (s2 _ _ hT.1)) ?_ ?_⟩
    · rintro j y σ H2 hj ⟨v5, v6, gS, gA, rfl, k2, hS, hA, eS, eA⟩
      rw [List.getElem?_map] at hj
      cases hx : ts[j]? with
      | none =>
        rw [hx] at hj
        cases hj
      | some x =>
        rw [hx] at hj
        cases (Option.some.inj hj : V.ref x.1 = y)
        have hjl : j < ts.length := (List.getElem?_eq_some_iff.mp hx).1
        have hxm := List.mem_of_getElem? hx
        have ht0 := hT.2 x hxm
        have okx := hok x hxm
        obtain ⟨tx, x⟩ := x
        refine ⟨_, rfl, dl, rfl, ⟨_, SqL.of (k2 _ _ hdl)⟩, for_list (K := K) (xs := days.map V.int) (fun i σ H3 => ∃ (v6 : Option V) (gS' gA' : Int → Option Bool), σ = [some (.ref tl), some (.str (S l)), some (.ref dl), some (.ref sd), some (.ref ad), some (.ref tx), v6] ∧ Same H H3 ∧
            Dy H3 sd (200 * j + 2 * i) gS' ∧ Dy H3 ad (200 * j + 2 * i) gA' ∧ (∀ d, gS' d = if d ∈ days.take i then sickS l d (gS d) x else gS d) ∧ ∀ d, gA' d = if d ∈ days.take i then aloneS l d (gA d) x else gA d)
          ⟨_, _, _, rfl, k2, hS, hA, fun _ => rfl, fun _ => rfl⟩ (fun i σ H3 _ z => by obtain ⟨_, _, _, _, s2, _⟩ := z; exact SqL.of (s2 _ _ hdl)) ?_ ?_⟩
        · rintro i y2 σ H3 hi ⟨v6, gS', gA', rfl, k3, hS3, hA3, eS3, eA3⟩
          rw [List.getElem?_map] at hi
          cases hd : days[i]? with
          | none =>
            rw [hd] at hi
            cases hi
          | some d =>
            rw [hd] at hi
            cases (Option.some.inj hi : V.int d = y2)
            have hil : i < days.length := (List.getElem?_eq_some_iff.mp hd).1
            have big : 200 * j + 2 * i < 1000000 := by omega
            have at_l : ∀ x : Tn, atI x.v 1 = some (.str (S x.l)) := fun x => by cases x <;> exact atI_nat (j := 1) rfl
            -- the first question
            refine ⟨fun σ' H' => σ' = [some (.ref tl), some (.str (S l)), some (.ref dl), some (.ref sd), some (.ref ad), some (.ref tx), some (.int d)] ∧ Same H H' ∧ Dy H' sd (200 * j + 2 * i + 1) (fun t => if t = d then o1 l d (gS' d) x else gS' t) ∧ Dy H' ad (200 * j + 2 * i) gA', ?_, ?_⟩
            · refine ⟨_, rfl, tx, _, _, _, rfl, rfl, SqT.of (k3 _ _ ht0), at_l x, _, rfl, rfl, _, rfl, ?_⟩
              refine ite2 (fun c => ?_) (fun c => iteF ?_)
              · have cl : x.l = l := SX.S_inj (V.str.inj (of_decide_eq_true c))
                cases x with
                | sick l' a z =>
                  refine ⟨_, rfl, tx, _, _, _, rfl, rfl, SqT.of (k3 _ _ ht0), atI_nat (j := 0) rfl, rfl, _, rfl, ?_⟩
                  refine ite2 (fun _ => ?_) (fun z => absurd (decide_eq_true rfl) z)
                  refine ⟨_, rfl, tx, _, _, _, rfl, rfl, SqT.of (k3 _ _ ht0), atI_nat (j := 2) rfl, _, rfl, _, _, rfl, rfl, _, rfl, ?_⟩
                  refine ite2 (fun c2 => ?_) (fun c2 => ?_)
                  · refine ⟨_, rfl, tx, _, _, _, rfl, rfl, SqT.of (k3 _ _ ht0), atI_nat (j := 3) rfl, _, _, rfl, rfl, _, rfl, ?_⟩
                    refine ite2 (fun c3 => ?_) (fun c3 => ?_)
                    · obtain ⟨H4, p1, p2, p3⟩ := hS3.put d true big
                      refine ⟨_, rfl, _, rfl, sd, H4, rfl, p1, rfl, fun b o e => p3 b o (ne_of_none e hsd) (k3 b o e), p2.cong fun t => ?_, hA3.keep fun o e => p3 _ _ nsa.symm e⟩
                      have e1 : o1 l d (gS' d) (.sick l' a z) = some true := if_pos ⟨cl, of_decide_eq_true c2, of_decide_eq_true c3⟩
                      rw [e1]
                    · refine ⟨rfl, k3, (hS3.same_put d).cong fun t => ?_, hA3⟩
                      have e1 : o1 l d (gS' d) (.sick l' a z) = gS' d := if_neg fun q => c3 (decide_eq_true q.2.2)
                      rw [e1]
                  · refine ⟨_, rfl, iteF ⟨rfl, k3, (hS3.same_put d).cong fun t => ?_, hA3⟩⟩
                    have e1 : o1 l d (gS' d) (.sick l' a z) = gS' d := if_neg fun q => c2 (decide_eq_true q.2.1)
                    rw [e1]
                | well l' c' =>
                  refine ⟨_, rfl, tx, _, _, _, rfl, rfl, SqT.of (k3 _ _ ht0), atI_nat (j := 0) rfl, rfl, _, rfl, ?_⟩
                  exact ite2 (fun c => absurd (V.str.inj (of_decide_eq_true c)) w_sw) (fun _ => iteF ⟨rfl, k3, hS3.same_put d, hA3⟩)
                | only l' c' b' =>
                  refine ⟨_, rfl, tx, _, _, _, rfl, rfl, SqT.of (k3 _ _ ht0), atI_nat (j := 0) rfl, rfl, _, rfl, ?_⟩
                  exact ite2 (fun c => absurd (V.str.inj (of_decide_eq_true c)) w_so) (fun _ => iteF ⟨rfl, k3, hS3.same_put d, hA3⟩)
              · have cl : ¬ x.l = l := fun z => c (decide_eq_true (by rw [z]))
                refine ⟨rfl, k3, (hS3.same_put d).cong fun t => ?_, hA3⟩
                have e1 : o1 l d (gS' d) x = gS' d := by
                  cases x with
                  | sick l' a z => exact if_neg fun q => cl q.1
                  | well l' c' => rfl
                  | only l' c' b' => rfl
                rw [e1]
            rintro σ' H4 ⟨rfl, k4, hS4, hA4⟩
            clear hS3 hA3
            -- the second question
            refine ⟨fun σ' H' => σ' = [some (.ref tl), some (.str (S l)), some (.ref dl), some (.ref sd), some (.ref ad), some (.ref tx), some (.int d)] ∧ Same H H' ∧ Dy H' sd (200 * j + 2 * i + 2) (fun t => if t = d then sickS l d (gS' d) x else gS' t) ∧ Dy H' ad (200 * j + 2 * i) gA', ?_, ?_⟩
            · have stay : o1 l d (gS' d) x = sickS l d (gS' d) x → Dy H4 sd (200 * j + 2 * i + 2) (fun t => if t = d then sickS l d (gS' d) x else gS' t) := fun e => by
                rw [← e]
                exact hS4.weak (by omega)
              refine ⟨_, rfl, tx, _, _, _, rfl, rfl, SqT.of (k4 _ _ ht0), at_l x, _, rfl, rfl, _, rfl, ?_⟩
              refine ite2 (fun c => ?_) (fun c => iteF ?_)
              · have cl : x.l = l := SX.S_inj (V.str.inj (of_decide_eq_true c))
                cases x with
                | sick l' a z =>
                  refine ⟨_, rfl, tx, _, _, _, rfl, rfl, SqT.of (k4 _ _ ht0), atI_nat (j := 0) rfl, rfl, _, rfl, ?_⟩
                  exact ite2 (fun c => absurd (V.str.inj (of_decide_eq_true c)) w_ws) (fun _ => iteF ⟨rfl, k4, stay rfl, hA4⟩)
                | well l' c' =>
                  refine ⟨_, rfl, tx, _, _, _, rfl, rfl, SqT.of (k4 _ _ ht0), atI_nat (j := 0) rfl, rfl, _, rfl, ?_⟩
                  refine ite2 (fun _ => ?_) (fun z => absurd (decide_eq_true rfl) z)
                  refine ⟨_, rfl, _, rfl, tx, _, _, _, rfl, rfl, SqT.of (k4 _ _ ht0), atI_nat (j := 2) rfl, _, _, rfl, rfl, _, rfl, ?_⟩
                  refine ite2 (fun c2 => ?_) (fun c2 => ?_)
                  · obtain ⟨H5, p1, p2, p3⟩ := hS4.put d false (by omega)
                    refine ⟨_, rfl, _, rfl, sd, H5, rfl, p1, rfl, fun b o e => p3 b o (ne_of_none e hsd) (k4 b o e), p2.cong fun t => ?_, hA4.keep fun o e => p3 _ _ nsa.symm e⟩
                    have e1 : sickS l d (gS' d) (.well l' c') = some false := if_pos ⟨cl, of_decide_eq_true c2⟩
                    rw [e1]
                    by_cases e : t = d
                    · rw [if_pos e, if_pos e]
                    · rw [if_neg e, if_neg e, if_neg e]
                  · exact ⟨rfl, k4, stay (if_neg fun q => c2 (decide_eq_true q.2)).symm, hA4⟩
                | only l' c' b' =>
                  refine ⟨_, rfl, tx, _, _, _, rfl, rfl, SqT.of (k4 _ _ ht0), atI_nat (j := 0) rfl, rfl, _, rfl, ?_⟩
                  exact ite2 (fun c => absurd (V.str.inj (of_decide_eq_true c)) w_ow) (fun _ => iteF ⟨rfl, k4, stay rfl, hA4⟩)
              · have cl : ¬ x.l = l := fun z => c (decide_eq_true (by rw [z]))
                refine ⟨rfl, k4, stay ?_, hA4⟩
                cases x with
                | sick l' a z => rfl
                | well l' c' => exact (if_neg fun q => cl q.1).symm
                | only l' c' b' => rfl
            clear hS4 hA4
            rintro σ' H5 ⟨rfl, k5, hS5, hA5⟩
            -- what the step leaves
            have tk : days.take (i + 1) = days.take i ++ [d] := by rw [List.take_add_one, hd]; rfl
            have finS : ∀ t, (if t = d then sickS l d (gS' d) x else gS' t) = if t ∈ days.take (i + 1) then sickS l t (gS t) x else gS t := fun t => by
              rw [tk]
              by_cases e : t = d
              · subst e
                rw [if_pos rfl, if_pos (by simp), eS3]
                split
                · rw [sick_idem]
                · rfl
              · rw [if_neg e, eS3]
                simp [e]
            have finA : ∀ t, (if t = d then aloneS l d (gA' d) x else gA' t) = if t ∈ days.take (i + 1) then aloneS l t (gA t) x else gA t := fun t => by
              rw [tk]
              by_cases e : t = d
              · subst e
                rw [if_pos rfl, if_pos (by simp), eA3]
                split
                · rw [alone_idem]
                · rfl
              · rw [if_neg e, eA3]
                simp [e]
            have no3 : aloneS l d (gA' d) x = gA' d → ∀ H6, Same H5 H6 → ∃ (v6 : Option V) (gS' gA' : Int → Option Bool), [some (.ref tl), some (.str (S l)), some (.ref dl), some (.ref sd), some (.ref ad), some (.ref tx), some (.int d)] = [some (.ref tl), some (.str (S l)), some (.ref dl), some (.ref sd), some (.ref ad), some (.ref tx), v6] ∧ Same H H6 ∧
                Dy H6 sd (200 * j + 2 * (i + 1)) gS' ∧ Dy H6 ad (200 * j + 2 * (i + 1)) gA' ∧ (∀ d, gS' d = if d ∈ days.take (i + 1) then sickS l d (gS d) x else gS d) ∧ ∀ d, gA' d = if d ∈ days.take (i + 1) then aloneS l d (gA d) x else gA d := fun e H6 s6 => by
              refine ⟨_, _, _, rfl, k5.trans s6, (hS5.weak (by omega)).keep fun o e => s6 _ _ e, ((hA5.same_put d).weak (by omega)).keep fun o e => s6 _ _ e, finS, fun t => ?_⟩
              rw [← finA t, e]
            have okS : PyData.strOk (Str.ofString "sick") = true := by decide +kernel
            have okW : PyData.strOk (Str.ofString "well") = true := by decide +kernel
            have okO : PyData.strOk (Str.ofString "only") = true := by decide +kernel
            -- the third question
            cases x with
            | sick l' a z =>
              refine ⟨_, rfl, 3, rfl, tx, _, rfl, SqT.of (k5 _ _ ht0), fun q => absurd (show (3 : Nat) = 4 from q.2) (by decide), fun _ p fp => ?_⟩
              have sp := same_new (o := .tup (cutV (Tn.sick l' a z).v none (some 3))) fp
              refine ⟨_, rfl, _, rfl, by show 3 ≤ sizeLine; decide, fun u fu => ?_⟩
              have su := same_new (o := .tup [.str (Str.ofString "only"), .str (S l), .int d]) fu
              refine ⟨.tuple [.str (Str.ofString "sick"), .str (S l'), .int a], .tuple [.str (Str.ofString "only"), .str (S l), .int d], Dp.tup (SqT.of (su _ _ upd_same)) (.cons (.str _) (.cons (.str _) (.cons (.int _) .nil))), Dp.tup (SqT.of upd_same) (.cons (.str _) (.cons (.str _) (.cons (.int _) .nil))), shaped3 okS okx a, shaped3 okO okl d, _, rfl, ?_⟩
              have e : PyData.eqv (.tuple [.str (Str.ofString "sick"), .str (S l'), .int a]) (.tuple [.str (Str.ofString "only"), .str (S l), .int d]) = false := by
                show (Str.ofString "sick" == Str.ofString "only" && (S l' == S l && (a == d && true))) = false
                rw [show (Str.ofString "sick" == Str.ofString "only") = false by decide +kernel]
                rfl
              rw [e]
              exact iteF (no3 rfl _ (sp.trans su))
            | well l' c' =>
              refine ⟨_, rfl, 3, rfl, tx, _, rfl, SqT.of (k5 _ _ ht0), fun _ => ?_, fun q => absurd ⟨rfl, rfl⟩ q⟩
              refine ⟨_, rfl, _, rfl, by show 3 ≤ sizeLine; decide, fun u fu => ?_⟩
              have su := same_new (o := .tup [.str (Str.ofString "only"), .str (S l), .int d]) fu
              refine ⟨.tuple [.str (Str.ofString "well"), .str (S l'), .int c'], .tuple [.str (Str.ofString "only"), .str (S l), .int d], Dp.tup (SqT.of (su _ _ (k5 _ _ ht0))) (.cons (.str _) (.cons (.str _) (.cons (.int _) .nil))), Dp.tup (SqT.of upd_same) (.cons (.str _) (.cons (.str _) (.cons (.int _) .nil))), shaped3 okW okx c', shaped3 okO okl d, _, rfl, ?_⟩
              have e : PyData.eqv (.tuple [.str (Str.ofString "well"), .str (S l'), .int c']) (.tuple [.str (Str.ofString "only"), .str (S l), .int d]) = false := by
                show (Str.ofString "well" == Str.ofString "only" && (S l' == S l && (c' == d && true))) = false
                rw [show (Str.ofString "well" == Str.ofString "only") = false by decide +kernel]
                rfl
              rw [e]
              exact iteF (no3 rfl _ su)
            | only l' c' b' =>
              refine ⟨_, rfl, 3, rfl, tx, _, rfl, SqT.of (k5 _ _ ht0), fun q => absurd (show (3 : Nat) = 4 from q.2) (by decide), fun _ p fp => ?_⟩
              have sp := same_new (o := .tup (cutV (Tn.only l' c' b').v none (some 3))) fp
              refine ⟨_, rfl, _, rfl, by show 3 ≤ sizeLine; decide, fun u fu => ?_⟩
              have su := same_new (o := .tup [.str (Str.ofString "only"), .str (S l), .int d]) fu
              refine ⟨.tuple [.str (Str.ofString "only"), .str (S l'), .int c'], .tuple [.str (Str.ofString "only"), .str (S l), .int d], Dp.tup (SqT.of (su _ _ upd_same)) (.cons (.str _) (.cons (.str _) (.cons (.int _) .nil))), Dp.tup (SqT.of upd_same) (.cons (.str _) (.cons (.str _) (.cons (.int _) .nil))), shaped3 okO okx c', shaped3 okO okl d, _, rfl, ?_⟩
              have e : PyData.eqv (.tuple [.str (Str.ofString "only"), .str (S l'), .int c']) (.tuple [.str (Str.ofString "only"), .str (S l), .int d]) = decide (l' = l ∧ c' = d) := by
                show (Str.ofString "only" == Str.ofString "only" && (S l' == S l && (c' == d && true))) = _
                rw [Bool.eq_iff_iff]
                simp only [Bool.and_eq_true, beq_iff_eq, decide_eq_true_eq, and_true, true_and]
                exact ⟨fun z => ⟨SX.S_inj z.1, z.2⟩, fun z => ⟨by rw [z.1], z.2⟩⟩
              rw [e]
              refine ite2 (fun q => ?_) (fun q => no3 (if_neg fun z => q (decide_eq_true z)) _ (sp.trans su))
              have q' := of_decide_eq_true q
              have s6 := sp.trans su
              obtain ⟨H7, p1, p2, p3⟩ := (hA5.keep fun o e => s6 _ _ e).put d b' big
              refine ⟨_, rfl, tx, _, _, _, rfl, rfl, SqT.of (s6 _ _ (k5 _ _ ht0)), atI_nat (j := 3) rfl, _, rfl, _, rfl, ad, H7, rfl, p1, ?_⟩
              refine ⟨_, _, _, rfl, fun b o e => p3 b o (ne_of_none e fad) (s6 _ _ (k5 b o e)), (hS5.weak (by omega)).keep fun o e => p3 _ _ nsa (s6 _ _ e), p2.weak (by omega), finS, fun t => ?_⟩
              rw [← finA t]
              have e1 : aloneS l d (gA' d) (.only l' c' b') = some b' := if_pos q'
              rw [e1]
        · rintro σ H3 ⟨v6, gS', gA', rfl, k3, hS3, hA3, eS3, eA3⟩
          rw [List.length_map] at hS3 hA3 eS3 eA3
          rw [List.take_length] at eS3 eA3
          have et : (ts.map (·.2)).take (j + 1) = (ts.map (·.2)).take j ++ [x] := by rw [List.take_add_one, List.getElem?_map, hx]; rfl
          refine ⟨_, _, gS', gA', rfl, k3, hS3.weak (by omega), hA3.weak (by omega), fun d hd => ?_, fun d hd => ?_⟩
          · rw [eS3, if_pos hd, eS d hd, et]
            unfold sickF
            rw [List.foldl_append]
            rfl
          · rw [eA3, if_pos hd, eA d hd, et]
            unfold aloneF
            rw [List.foldl_append]
            rfl
    · rintro σ H2 ⟨v5, v6, gS, gA, rfl, k2, hS, hA, eS, eA⟩
      rw [List.length_map] at hS hA eS eA
      have et : (ts.map (·.2)).take ts.length = ts.map (·.2) := List.take_of_length_le (by rw [List.length_map]; omega)
      rw [et] at eS eA
      refine ⟨_, rfl, _, rfl, by show 2 ≤ sizeLine; decide, fun t ft => ?_⟩
      have st := same_new (o := .tup [.ref sd, .ref ad]) ft
      exact hQ t sd ad _ (k2.trans st) (k2.free ft) hsd fad nsa upd_same ⟨gS, (hS.weak (by omega)).keep fun o e => st _ _ e, eS⟩ ⟨gA, (hA.weak (by omega)).keep fun o e => st _ _ e, eA⟩
end
end K12
set_option Elab.async false
set_option linter.all false
set_option maxRecDepth 100000
set_option maxHeartbeats 4000000
namespace K12
open PySem PySem.Spec PyProof.Rows L2
open C8 (Cal Mak Met pe_c pe_mk pe_mt pe_mt0)
open SX (S)
def spD (sps : List Spa) : List PyData := sps.map fun x => .tuple [.int x.2.1, .int x.2.2]
theorem spD_lay : ∀ sps : List Spa, PyData.canLayAll0 (spD sps) = true
  | [] => rfl
  | x :: xs => by
    show (PyData.canLay0 (.tuple [.int x.2.1, .int x.2.2]) && PyData.canLayAll0 (spD xs)) = true
    rw [spD_lay xs]
    rfl
theorem spD_deep : ∀ sps : List Spa, PyData.depthAll (spD sps) ≤ 1
  | [] => by decide
  | x :: xs => by
    show max (PyData.depth (.tuple [.int x.2.1, .int x.2.2])) (PyData.depthAll (spD xs)) ≤ 1
    have := spD_deep xs
    have e : PyData.depth (.tuple [.int x.2.1, .int x.2.2]) = 1 := rfl
    omega
theorem sp_shaped (sps : List Spa) : SeqAt.shaped (.list (spD sps)) = true := by
  unfold SeqAt.shaped
  have h1 : PyData.canLay0 (.list (spD sps)) = true := spD_lay sps
  have h2 : PyData.depth (.list (spD sps)) ≤ 64 := by
    show PyData.depthAll (spD sps) + 1 ≤ 64
    have := spD_deep sps
    omega
  rw [h1, decide_eq_true h2]
  rfl
theorem sp_dp {K : PySem.W.Frag} {H : Hp} : ∀ {sps : List Spa}, (∀ x ∈ sps, H x.1 = some (.tup [.int x.2.1, .int x.2.2])) → DpAll K H (sps.map fun x => V.ref x.1) (spD sps)
  | [], _ => .nil
  | x :: xs, h => .cons (Dp.tup (SqT.of (h x (List.mem_cons_self ..))) (.cons (.int _) (.cons (.int _) .nil))) (sp_dp fun y hy => h y (List.mem_cons_of_mem _ hy))
/-- the spans told so far -/
def SpOk (base : Int) (sps : List Spa) : Prop := ∀ x ∈ sps, base ≤ x.2.1 ∧ x.2.1 ≤ base + 30 ∧ x.2.1 ≤ x.2.2 ∧ x.2.2 ≤ 1000000
theorem pick {α : Type} (g : α → V) {L : List α} {i : Int} (i0 : 0 ≤ i) (i1 : i < (L.length : Int)) : ∃ x ∈ L, atI (L.map g) i = some (g x) := by
  obtain ⟨j, rfl⟩ := Int.eq_ofNat_of_zero_le i0
  have hj : j < L.length := by omega
  exact ⟨L[j], List.getElem_mem hj, atI_nat (j := j) (by rw [List.getElem?_map, List.getElem?_eq_getElem hj]; rfl)⟩
theorem Pen.ne_new {H : Hp} {p u : Addr} {c : Nat} (x : Pen H p c) (e : H u = none) : u ≠ p := by
  obtain ⟨l, ns, n, m, h1, _⟩ := x
  exact (ne_of_none h1 e).symm
theorem SpB.kp {p sd : Addr} {H H' : Hp} {sps : List Spa} {c : Nat} (h : SpB H sd sps) (k : Kp p H H') (n : sd ≠ p) (pn : Pen H p c) : SpB H' sd sps := by
  refine ⟨k.1 _ _ h.1 n, fun x hx => k.1 _ _ (h.2 x hx) ?_⟩
  obtain ⟨l, ns, a, m, h1, _⟩ := pn
  exact ne_of (h.2 x hx) h1 (by intro z; cases z)
section
variable {P : Program} {w : World} {K : PySem.W.Frag} {mg : Str → Option Value} {base : Heap} {f C CW CP : Addr} {fd : FuncData}
def spSpan : Sp := fun vs H Q _ => ∃ (p tl : Addr) (c : Nat) (sps : List Spa) (bs : Int), vs = [.ref p, .ref tl, .int bs] ∧ Pen H p (c + 6) ∧ tl ≠ p ∧ SpB H tl sps ∧ SpOk bs sps ∧ sps.length ≤ 100 ∧ 0 ≤ bs ∧ bs ≤ 999949 ∧
  ∀ (t : Addr) (a z : Int) (H' : Hp), Pen H' p c → Kp p H H' → H t = none → H' t = some (.tup [.int a, .int z]) → bs ≤ a → a ≤ bs + 30 → a ≤ z → z ≤ 1000000 → Q (.ref t) H'
theorem ok_span (F : Dn K d_l_span f fd) (bl : Bl mg) (bmin : mg "min" = none) (bmax : mg "max" = none) (cD : CalD P w K mg base) : FnOk P w K mg base CX0 2 f fd ["_law_pen_here", "_law_told_here", "_law_base"] spSpan := by
  refine F.ok sc_l_span (fun vs H Q E h => ?_) (fun cdv A outer s H vs Q E hr h => ?_)
  · obtain ⟨p, tl, c, sps, bs, rfl, _⟩ := h
    rfl
  · obtain ⟨p, tl, c, sps, bs, rfl, pen, ntp, hT, okT, tlen, b0, b1, hQ⟩ := h
    have hu64 : (A.deeper (envOfC d_l_span.qual d_l_span.scope s.heap.objs.size f cdv)).units + 64 < cLine := by have := hr.un; omega
    refine ⟨_, PSs.nox (pss_cons (ps_par (i := 3) (j := 4) rfl sc_l_span.nd rfl rfl (by decide) rfl rfl (pa_cons (pe_op op_add (pv 2) (pe_c cD hr (by decide) rfl (pa_cons (pv 0) (pa_cons pe_int pa_nil)))) (pa_cons (pe_c cD hr (by decide) rfl (pa_cons (pv 0) (pa_cons pe_int pa_nil))) pa_nil)) rfl)
      (C8.pss_cut (ps_if (PW.pt (pw_and (pt_cmpR (op_neD hu64) (pv 1) (pe_lst pa_nil) (nomark _)) (pw_and1 (pt_cmpR op_eq (pe_c cD hr (by decide) rfl (pa_cons (pv 0) (pa_cons pe_int pa_nil))) pe_int (nomark _)))))
        (pss_cons (ps_asg (pe_ix ix_list (pv 1) (pe_c cD hr (by decide) rfl (pa_cons (pv 0) (pa_cons (pe_callB call_len_seq rfl bl.len boot_len (pa_cons (pv 1) pa_nil)) pa_nil))) (fun _ _ => rfl)) (pg_tup rfl (pgs_cons (pg_name (i := 5) sc_l_span.nd rfl (.inl rfl)) (pgs_cons (pg_name (i := 6) sc_l_span.nd rfl (.inl rfl)) pgs_nil))))
        (pss_cons (ps_set (i := 7) sc_l_span.nd rfl (.inl rfl) (pe_lst (pa_cons (pv 5) (pa_cons (pv 6) (pa_cons (pe_op op_add (pv 6) pe_int) (pa_cons (pe_callB (call_max2 rfl) rfl bmax boot_max (pa_cons (pv 2) (pa_cons (pe_op op_sub (pv 5) pe_int) pa_nil))) (pa_cons (pe_op op_fdiv (pe_op op_add (pv 5) (pv 6)) pe_int) pa_nil)))))))
        (pss_one (ps_set (i := 3) sc_l_span.nd rfl (.inl rfl) (pe_callB (call_min2 rfl) rfl bmin boot_min (pa_cons (pe_ix ix_list (pv 7) (pe_c cD hr (by decide) rfl (pa_cons (pv 0) (pa_cons pe_int pa_nil))) (fun _ _ => rfl)) (pa_cons (pe_op op_add (pv 2) pe_int) pa_nil))))))) pss_nil)
      (pss_one (ps_ret (pe_tup (pa_cons (pv 3) (pa_cons (pe_op op_add (pv 3) (pe_ix ix_list (pe_lst (pa_cons (pv 4) (pa_cons pe_int (pa_cons pe_int (pa_cons (pv 4) (pa_cons pe_int (pa_cons pe_int (pa_cons pe_int (pa_cons (pe_op op_sub pe_int (pv 3)) pa_nil)))))))))
        (pe_c cD hr (by decide) rfl (pa_cons (pv 0) (pa_cons pe_int pa_nil))) (fun _ _ => rfl))) pa_nil))))))), ?_⟩
    refine ⟨_, rfl, _, rfl, p, c + 5, 20, rfl, pen, by decide, by decide, fun r1 H1 x1 y1 pen1 k1 => ?_⟩
    refine ⟨_, _, rfl, rfl, _, rfl, p, c + 4, 9, rfl, pen1, by decide, by decide, fun r2 H2 x2 y2 pen2 k2 => ?_⟩
    refine ⟨_, _, rfl, ?_⟩
    have k02 := k1.trans k2
    refine ⟨fun σ' H' => ∃ (a : Int) (v5 v6 v7 : Option V), σ' = [some (.ref p), some (.ref tl), some (.int bs), some (.int a), some (.int r2), v5, v6, v7] ∧ bs ≤ a ∧ a ≤ bs + 30 ∧ Pen H' p (c + 1) ∧ Kp p H H', ?_, ?_⟩
    · have hT2 := hT.kp k02 ntp pen
      refine ⟨_, rfl, by show 0 ≤ sizeLine; decide, fun e he => ?_⟩
      have se := same_new (o := .lst []) he
      have hT3 := hT2.keep se
      refine ⟨.list (spD sps), .list [], Dp.lst (SqL.of hT3.1) (sp_dp hT3.2), Dp.lst (SqL.of upd_same) .nil, sp_shaped sps, by decide, _, rfl, ?_⟩
      cases sps with
      | nil => exact iteF (iteF ⟨_, _, _, _, rfl, by omega, by omega, (pen2.same se).weak (by omega), k02.trans (Kp.same se)⟩)
      | cons x0 xs0 =>
        refine iteT ?_
        refine ⟨_, rfl, p, c + 3, 2, rfl, (pen2.same se).weak (by omega), by decide, by decide, fun r3 H3 x3 y3 pen3 k3 => ?_⟩
        have k03 := (k02.trans (Kp.same se)).trans k3
        have hT4 := hT3.kp k3 ntp (pen2.same se)
        refine ⟨rfl, _, rfl, ?_⟩
        refine ite2 (fun _ => ?_) (fun _ => ⟨_, _, _, _, rfl, by omega, by omega, pen3.weak (by omega), k03⟩)
        refine ⟨_, rfl, _, rfl, _, rfl, tl, _, rfl, .inl (SqL.of hT4.1), p, c + 2, _, rfl, pen3.weak (by omega), by rw [List.length_map]; simp, by rw [List.length_map]; omega, fun r4 H4 x4 y4 pen4 k4 => ?_⟩
        rw [List.length_map] at y4
        have k04 := k03.trans k4
        have hT5 := hT4.kp k4 ntp pen3
        obtain ⟨x, hx, ex⟩ := pick (fun x : Spa => V.ref x.1) x4 y4
        have okx := okT x hx
        refine ⟨tl, _, _, _, rfl, rfl, SqL.of hT5.1, ex, x.1, _, rfl, SqT.of (hT5.2 x hx), rfl, _, _, rfl, _, _, rfl, rfl, ?_⟩
        refine ⟨_, rfl, _, rfl, _, rfl, _, _, rfl, rfl, _, rfl, _, rfl, _, _, rfl, rfl, _, _, rfl, _, rfl, _, rfl, _, _, rfl, rfl, _, _, rfl, rfl, ⟨by decide, by decide⟩, by show 5 ≤ sizeLine; decide, fun u hu => ?_⟩
        have su := same_new (o := .lst [.int x.2.1, .int x.2.2, .int (x.2.2 + 1), .int (if x.2.1 - 1 > bs then x.2.1 - 1 else bs), .int ((x.2.1 + x.2.2) / 2)]) hu
        refine ⟨_, rfl, _, rfl, p, c + 1, 5, rfl, (pen4.same su).weak (by omega), by decide, by decide, fun r5 H5 x5 y5 pen5 k5 => ?_⟩
        have hu5 : H5 u = some (.lst [.int x.2.1, .int x.2.2, .int (x.2.2 + 1), .int (if x.2.1 - 1 > bs then x.2.1 - 1 else bs), .int ((x.2.1 + x.2.2) / 2)]) := k5.1 u _ upd_same (pen4.ne_new hu)
        obtain ⟨v, hv, hb⟩ := pick (fun v : Int => V.int v) (L := [x.2.1, x.2.2, x.2.2 + 1, if x.2.1 - 1 > bs then x.2.1 - 1 else bs, (x.2.1 + x.2.2) / 2]) x5 (by simpa using y5)
        refine ⟨u, _, _, _, rfl, rfl, SqL.of hu5, hb, _, rfl, _, _, rfl, rfl, _, _, rfl, ?_⟩
        have hv0 : bs ≤ v := by
          simp only [List.mem_cons, List.not_mem_nil, or_false] at hv
          rcases hv with rfl | rfl | rfl | rfl | rfl
          · omega
          · omega
          · omega
          · split <;> omega
          · omega
        refine ⟨_, _, _, _, rfl, ?_, ?_, pen5, (k04.trans (Kp.same su)).trans k5⟩
        · split <;> omega
        · split <;> omega
    rintro σ' H3 ⟨a, v5, v6, v7, rfl, a0, a1, pen3, k3⟩
    refine ⟨_, rfl, _, rfl, _, rfl, _, rfl, _, rfl, _, _, rfl, rfl, by show 8 ≤ sizeLine; decide, fun u hu => ?_⟩
    have su := same_new (o := .lst [.int r2, .int 0, .int 1, .int r2, .int 0, .int 1, .int 3, .int (1000000 - a)]) hu
    refine ⟨_, rfl, p, c, 8, rfl, pen3.same su, by decide, by decide, fun r4 H4 x4 y4 pen4 k4 => ?_⟩
    have hu4 : H4 u = some (.lst [.int r2, .int 0, .int 1, .int r2, .int 0, .int 1, .int 3, .int (1000000 - a)]) := k4.1 u _ upd_same (pen3.ne_new hu)
    obtain ⟨v, hv, hb⟩ := pick (fun v : Int => V.int v) (L := [r2, 0, 1, r2, 0, 1, 3, 1000000 - a]) x4 (by simpa using y4)
    refine ⟨u, _, _, _, rfl, rfl, SqL.of hu4, hb, _, _, rfl, rfl, by show 2 ≤ sizeLine; decide, fun t ft => ?_⟩
    have hv0 : 0 ≤ v ∧ a + v ≤ 1000000 := by
      simp only [List.mem_cons, List.not_mem_nil, or_false] at hv
      rcases hv with rfl | rfl | rfl | rfl | rfl | rfl | rfl | rfl <;> omega
    have kk := (k3.trans (Kp.same su)).trans k4
    have fH : H t = none := by
      cases e : H t with
      | none => rfl
      | some o =>
        by_cases z : t = p
        · rw [z] at ft
          obtain ⟨l, ns, n, m, h1, _⟩ := pen4
          rw [h1] at ft
          cases ft
        · rw [kk.1 t o e z] at ft
          cases ft
    exact hQ t a (a + v) _ (pen4.same (same_new ft)) (kk.trans (Kp.same (same_new ft))) fH upd_same a0 a1 (by omega) (by omega)
end
end K12
set_option Elab.async false
set_option linter.all false
set_option maxRecDepth 100000
set_option maxHeartbeats 4000000
namespace K12
open PySem PySem.Spec PyProof.Rows L2
open C8 (Cal Mak Met pe_c pe_mk pe_mt pe_mt0)
open SX (S)
/-- a turn that goes -/
def TnOk (zs : List (List Nat)) (x : Tn) : Prop := x.l ∈ zs ∧ match x with
  | .sick _ a z => 0 ≤ a ∧ a ≤ z ∧ z ≤ 1000000
  | .well _ d => 0 ≤ d ∧ d ≤ 1000000
  | .only _ d _ => 0 ≤ d ∧ d ≤ 1000000
theorem TnB.push {H : Hp} {fl t : Addr} {ts : List (Addr × Tn)} {x : Tn} (h : TnB H fl ts) (e : H t = some (.tup x.v)) : TnB (upd H fl (.lst ((ts.map fun x => V.ref x.1) ++ [.ref t]))) fl (ts ++ [(t, x)]) := by
  refine ⟨by rw [upd_same, List.map_append]; rfl, fun y hy => ?_⟩
  rcases List.mem_append.mp hy with hy | hy
  · rw [upd_ne (ne_of (h.2 y hy) h.1 (by intro z; cases z))]
    exact h.2 y hy
  · cases List.mem_singleton.mp hy
    rw [upd_ne (ne_of e h.1 (by intro z; cases z))]
    exact e
theorem TnB.put {H : Hp} {fl D : Addr} {ts : List (Addr × Tn)} {o : HO} {xs : List V} (h : TnB H fl ts) (e : H D = some (.lst xs)) (n : fl ≠ D) : TnB (upd H D o) fl ts :=
  ⟨by rw [upd_ne n]; exact h.1, fun y hy => by rw [upd_ne (ne_of (h.2 y hy) e (by intro z; cases z))]; exact h.2 y hy⟩
theorem TnB.keep {H H' : Hp} {fl : Addr} {ts : List (Addr × Tn)} (s : Same H H') (h : TnB H fl ts) : TnB H' fl ts := ⟨s _ _ h.1, fun x hx => s _ _ (h.2 x hx)⟩
theorem TnB.kp {p fl : Addr} {H H' : Hp} {ts : List (Addr × Tn)} {c : Nat} (h : TnB H fl ts) (k : Kp p H H') (n : fl ≠ p) (pn : Pen H p c) : TnB H' fl ts := by
  refine ⟨k.1 _ _ h.1 n, fun x hx => k.1 _ _ (h.2 x hx) ?_⟩
  obtain ⟨l, ns, a, m, h1, _⟩ := pn
  exact ne_of (h.2 x hx) h1 (by intro z; cases z)
theorem SpB.push {H : Hp} {fl t : Addr} {sps : List Spa} {a z : Int} (h : SpB H fl sps) (e : H t = some (.tup [.int a, .int z])) : SpB (upd H fl (.lst ((sps.map fun x => V.ref x.1) ++ [.ref t]))) fl (sps ++ [((t, a, z) : Spa)]) := by
  refine ⟨by rw [upd_same, List.map_append]; rfl, fun y hy => ?_⟩
  rcases List.mem_append.mp hy with hy | hy
  · rw [upd_ne (ne_of (h.2 y hy) h.1 (by intro z; cases z))]
    exact h.2 y hy
  · cases List.mem_singleton.mp hy
    rw [upd_ne (ne_of e h.1 (by intro z; cases z))]
    exact e
theorem SpB.put {H : Hp} {fl D : Addr} {sps : List Spa} {o : HO} {xs : List V} (h : SpB H fl sps) (e : H D = some (.lst xs)) (n : fl ≠ D) : SpB (upd H D o) fl sps :=
  ⟨by rw [upd_ne n]; exact h.1, fun y hy => by rw [upd_ne (ne_of (h.2 y hy) e (by intro z; cases z))]; exact h.2 y hy⟩
theorem cut_mem {xs : List V} {lo hi : Option Int} {y : V} (h : y ∈ cutV xs lo hi) : y ∈ xs := List.mem_of_mem_drop (List.mem_of_mem_take h)
theorem Kp.free {p t : Addr} {H H' : Hp} {c : Nat} (k : Kp p H H') (pn : Pen H' p c) (f : H' t = none) : H t = none := by
  cases e : H t with
  | none => rfl
  | some o =>
    by_cases z : t = p
    · rw [z] at f
      obtain ⟨l, ns, n, m, h1, _⟩ := pn
      rw [h1] at f
      cases f
    · rw [k.1 t o e z] at f
      cases f
/-- the days among which one is drawn -/
def Ds (bs : Int) (L : List Int) : Prop := ∀ d ∈ L, bs ≤ d ∧ d ≤ bs + 50
section
variable {P : Program} {w : World} {K : PySem.W.Frag} {mg : Str → Option Value} {base : Heap} {f C CW CP : Addr} {fd : FuncData}
def spTurns : Sp := fun vs H Q _ => ∃ (p kl : Addr) (c : Nat) (zs : List (List Nat)) (bs : Int), vs = [.ref p, .ref kl, .int bs] ∧ Pen H p (c + 3000) ∧ kl ≠ p ∧ H kl = some (.lst (zs.map fun l => V.str (S l))) ∧ zs ≠ [] ∧ zs.length ≤ 16 ∧ 0 ≤ bs ∧ bs ≤ 999949 ∧
  ∀ (fl : Addr) (ts : List (Addr × Tn)) (H' : Hp), Pen H' p c → Kp p H H' → H fl = none → Off p fl H' → TnB H' fl ts → 3 ≤ ts.length → ts.length ≤ 14 → (∀ x ∈ ts, TnOk zs x.2) → Q (.ref fl) H'
/-- at the head of each turn -/
structure In (p kl fl dl : Addr) (c i : Nat) (zs : List (List Nat)) (bs : Int) (H H2 : Hp) (sps : List Spa) (ts : List (Addr × Tn)) : Prop where
  pen : Pen H2 p c
  kp : Kp p H H2
  of : Off p fl H2
  od : Off p dl H2
  tn : TnB H2 fl ts
  sp : SpB H2 dl sps
  ok : SpOk bs sps
  nm : sps.length ≤ i
  ln : ts.length = i
  go : ∀ x ∈ ts, TnOk zs x.2
theorem In.kpp {p kl fl dl : Addr} {c c' i : Nat} {zs : List (List Nat)} {bs : Int} {H H2 H3 : Hp} {sps : List Spa} {ts : List (Addr × Tn)} (x : In p kl fl dl c i zs bs H H2 sps ts) (k : Kp p H2 H3) (pn : Pen H3 p c') : In p kl fl dl c' i zs bs H H3 sps ts :=
  ⟨pn, x.kp.trans k, x.of.kp k, x.od.kp k, x.tn.kp k x.of.ne x.pen, x.sp.kp k x.od.ne x.pen, x.ok, x.nm, x.ln, x.go⟩
theorem In.same {p kl fl dl : Addr} {c i : Nat} {zs : List (List Nat)} {bs : Int} {H H2 H3 : Hp} {sps : List Spa} {ts : List (Addr × Tn)} (x : In p kl fl dl c i zs bs H H2 sps ts) (k : Same H2 H3) : In p kl fl dl c i zs bs H H3 sps ts :=
  x.kpp (Kp.same k) (x.pen.same k)
theorem In.put {p kl fl dl D : Addr} {c i : Nat} {zs : List (List Nat)} {bs : Int} {H H2 : Hp} {sps : List Spa} {ts : List (Addr × Tn)} {o : HO} {xs : List V} (x : In p kl fl dl c i zs bs H H2 sps ts) (fD : H D = none) (e : H2 D = some (.lst xs)) (n1 : fl ≠ D) (n2 : dl ≠ D) (oD : Off p D H2) : In p kl fl dl c i zs bs H (upd H2 D o) sps ts :=
  ⟨x.pen.put oD, x.kp.new fD, x.of.put oD.ne.symm, x.od.put oD.ne.symm, x.tn.put e n1, x.sp.put e n2, x.ok, x.nm, x.ln, x.go⟩
theorem cut_sp {sps : List Spa} {lo hi : Option Int} {i : Nat} {y : V} (h : (cutV (sps.map fun x => V.ref x.1) lo hi)[i]? = some y) : ∃ x ∈ sps, y = .ref x.1 := by
  obtain ⟨x, hx, e⟩ := List.mem_map.mp (cut_mem (List.mem_of_getElem? h))
  exact ⟨x, hx, e.symm⟩
theorem cut_lt {sps : List Spa} {lo hi : Option Int} {i : Nat} {y : V} (h : (cutV (sps.map fun x => V.ref x.1) lo hi)[i]? = some y) : i < sps.length := by
  have h1 := (List.getElem?_eq_some_iff.mp h).1
  have h2 := cutV_length (sps.map fun x => V.ref x.1) lo hi
  rw [List.length_map] at h2
  omega
theorem Ds.push {bs : Int} {L : List Int} {d : Int} (h : Ds bs L) (d0 : bs ≤ d) (d1 : d ≤ bs + 50) : Ds bs (L ++ [d]) := fun x hx => by
  rcases List.mem_append.mp hx with hx | hx
  · exact h x hx
  · cases List.mem_singleton.mp hx
    exact ⟨d0, d1⟩
theorem Ds.app {bs : Int} {L M : List Int} (h : Ds bs L) (g : Ds bs M) : Ds bs (L ++ M) := fun x hx => (List.mem_append.mp hx).elim (h x) (g x)
/-- a turn is told -/
theorem In.tell {p kl fl dl t : Addr} {c i : Nat} {zs : List (List Nat)} {bs : Int} {H H2 : Hp} {sps : List Spa} {ts : List (Addr × Tn)} {y : Tn} (x : In p kl fl dl c i zs bs H H2 sps ts) (ff : H fl = none) (n : fl ≠ dl) (hn : sps.length ≤ i + 1) (e : H2 t = some (.tup y.v)) (g : TnOk zs y) :
    In p kl fl dl c (i + 1) zs bs H (upd H2 fl (.lst ((ts.map fun x => V.ref x.1) ++ [.ref t]))) sps (ts ++ [(t, y)]) := by
  refine ⟨x.pen.put x.of, x.kp.new ff, x.of.put x.of.ne.symm, x.od.put x.of.ne.symm, x.tn.push e, x.sp.put x.tn.1 n.symm, x.ok, hn, by simp [x.ln], fun z hz => ?_⟩
  rcases List.mem_append.mp hz with hz | hz
  · exact x.go z hz
  · cases List.mem_singleton.mp hz
    exact g
theorem ok_turns (F : Dn K d_l_turns f fd) (bl : Bl mg) (cD : CalD P w K mg base) (cS : Cal P w K mg base 2 "_law_span" spSpan []) : FnOk P w K mg base CX0 3 f fd ["_law_pen_here", "_law_known", "_law_base"] spTurns := by
  refine F.ok sc_l_turns (fun vs H Q E h => ?_) (fun cdv A outer s H vs Q E hr h => ?_)
  · obtain ⟨p, kl, c, zs, bs, rfl, _⟩ := h
    rfl
  · obtain ⟨p, kl, c, zs, bs, rfl, pen, nkp, hk, zne, zlen, b0, b1, hQ⟩ := h
    refine ⟨_, PSs.nox (pss_cons (ps_par (i := 3) (j := 4) rfl sc_l_turns.nd rfl rfl (by decide) rfl rfl (pa_cons (pe_lst pa_nil) (pa_cons (pe_lst pa_nil) pa_nil)) rfl)
      (pss_cons (ps_for PassesOwn.never rfl (pi_range1 rfl bl.range (pa_cons (pe_op op_add pe_int (pe_c cD hr (by decide) rfl (pa_cons (pv 0) (pa_cons pe_int pa_nil)))) pa_nil)) (pg_name (i := 5) sc_l_turns.nd rfl (.inl rfl))
        (pss_cons (ps_par (i := 6) (j := 7) rfl sc_l_turns.nd rfl rfl (by decide) rfl rfl (pa_cons (pe_ix ix_list (pv 1) (pe_c cD hr (by decide) rfl (pa_cons (pv 0) (pa_cons (pe_callB call_len_seq rfl bl.len boot_len (pa_cons (pv 1) pa_nil)) pa_nil))) (fun _ _ => rfl)) (pa_cons (pe_c cD hr (by decide) rfl (pa_cons (pv 0) (pa_cons pe_int pa_nil))) pa_nil)) rfl)
        (pss_one (ps_if (pt_cmpR op_lt (pv 7) pe_int (nomark _))
          (pss_cons (ps_expr (pe_bm PySem.F.plainAttrs_list PySem.F.slot_list_append PySem.F.type_list_append mt_append (pv 4) (pa_cons (pe_c cS hr (by decide) rfl (pa_cons (pv 0) (pa_cons (pv 4) (pa_cons (pv 2) pa_nil)))) pa_nil)))
          (pss_one (ps_expr (pe_bm PySem.F.plainAttrs_list PySem.F.slot_list_append PySem.F.type_list_append mt_append (pv 3) (pa_cons (pe_op op_catT (pe_tup (pa_cons pe_str (pa_cons (pv 6) pa_nil))) (pe_ix ix_list (pv 4) (pe_un un_neg pe_int) (fun _ _ => rfl))) pa_nil)))))
          (pss_one (ps_if (pt_cmpR op_lt (pv 7) pe_int (nomark _))
            (C8.pss_cut (ps_set (i := 8) sc_l_turns.nd rfl (.inl rfl) (pe_op op_cat (pe_lst (pa_cons (pe_op op_add (pv 2) (pe_c cD hr (by decide) rfl (pa_cons (pv 0) (pa_cons pe_int pa_nil)))) (pa_cons (pv 2) pa_nil)))
              (pe_lc (own := [("_law_span_here", 9)]) (g := gName 9) (tt := tYes) rfl sc_l_turns.nd (pi_list (pe_slice sl_list (pv 4) (po_some (pe_un un_neg pe_int)) po_none)) (blkOk_by (N := N_l_turns) (sc := defScope s_l_turns) (by decide +kernel))
                (fun _ _ _ _ _ => pg_name (i := 9) sc_l_turns.nd rfl (Or.inl rfl)) (fun _ _ _ _ _ => pts_nil) (fun _ _ _ _ _ => pe_ix (r := rIxT K) ix_tup (pv 9) pe_int (fun _ _ => rfl)))))
            (C8.pss_cut (ps_set (i := 8) sc_l_turns.nd rfl (.inl rfl) (pe_op op_cat (pv 8)
              (pe_lc (own := [("_law_span_here", 9)]) (g := gName 9) (tt := tYes) rfl sc_l_turns.nd (pi_list (pe_slice sl_list (pv 4) (po_some (pe_un un_neg pe_int)) po_none)) (blkOk_by (N := N_l_turns) (sc := defScope s_l_turns) (by decide +kernel))
                (fun _ _ _ _ _ => pg_name (i := 9) sc_l_turns.nd rfl (Or.inl rfl)) (fun _ _ _ _ _ => pts_nil) (fun _ _ _ _ _ => pe_callB (call_min2 rfl) rfl bl.min boot_min (pa_cons (pe_op op_add (pv 2) pe_int) (pa_cons (pe_op op_add (pe_ix (r := rIxT K) ix_tup (pv 9) pe_int (fun _ _ => rfl)) (pe_c cD hr (by decide) rfl (pa_cons (pv 0) (pa_cons pe_int pa_nil)))) pa_nil))))))
            (pss_one (ps_expr (pe_bm PySem.F.plainAttrs_list PySem.F.slot_list_append PySem.F.type_list_append mt_append (pv 3) (pa_cons (pe_tup (pa_cons pe_str (pa_cons (pv 6) (pa_cons (pe_ix ix_list (pv 8) (pe_c cD hr (by decide) rfl (pa_cons (pv 0) (pa_cons (pe_callB call_len_seq rfl bl.len boot_len (pa_cons (pv 8) pa_nil)) pa_nil))) (fun _ _ => rfl)) pa_nil)))) pa_nil))))))
            (pss_one (ps_expr (pe_bm PySem.F.plainAttrs_list PySem.F.slot_list_append PySem.F.type_list_append mt_append (pv 3) (pa_cons (pe_tup (pa_cons pe_str (pa_cons (pv 6) (pa_cons (pe_op op_add (pv 2) (pe_c cD hr (by decide) rfl (pa_cons (pv 0) (pa_cons pe_int pa_nil)))) (pa_cons (pe_cmpR op_eq (pe_c cD hr (by decide) rfl (pa_cons (pv 0) (pa_cons pe_int pa_nil))) pe_int (nomark _)) pa_nil))))) pa_nil))))))))))
      (pss_one (ps_ret (pv 3))))), ?_⟩
    refine ⟨by show 0 ≤ sizeLine; decide, fun fl hfl => ⟨by show 0 ≤ sizeLine; decide, fun dl hdl => ⟨_, _, rfl, ?_⟩⟩⟩
    have s1 := same_new (o := .lst []) hfl
    have s2 := same_new (o := .lst []) hdl
    have nfd : fl ≠ dl := ne_of_none upd_same hdl
    have fdl := s1.free hdl
    have in0 : In p kl fl dl (c + 3000) 0 zs bs H (upd (upd H fl (.lst [])) dl (.lst [])) [] [] :=
      ⟨pen.same (s1.trans s2), Kp.same (s1.trans s2), (Off.of pen hfl).kp (Kp.same (s1.trans s2)), (Off.of pen fdl).kp (Kp.same (s1.trans s2)), ⟨by rw [upd_ne nfd]; exact upd_same, by simp⟩, ⟨upd_same, by simp⟩, (fun x hx => absurd hx (by simp)), Nat.le_refl _, rfl, by simp⟩
    generalize upd (upd H fl (.lst [])) dl (.lst []) = H1 at in0 ⊢
    refine ⟨_, rfl, p, c + 2999, 12, rfl, in0.pen, by decide, by decide, fun n0 H2 a2 b2 pen2 k2 => ?_⟩
    have in2 := in0.kpp k2 pen2
    refine ⟨_, _, rfl, rfl, _, rfl, by omega, by omega, ?_⟩
    obtain ⟨n, hn, hn1, hn14⟩ : ∃ n : Nat, (3 + n0).toNat = n ∧ 3 ≤ n ∧ n ≤ 14 := ⟨_, rfl, by omega, by omega⟩
    rw [hn]
    refine for_range (n := n) (fun i σ H3 => ∃ (v5 v6 v7 v8 v9 : Option V) (sps : List Spa) (ts : List (Addr × Tn)), σ = [some (.ref p), some (.ref kl), some (.int bs), some (.ref fl), some (.ref dl), v5, v6, v7, v8, v9] ∧ In p kl fl dl (c + 100 * (20 - i)) i zs bs H H3 sps ts)
      ⟨_, _, _, _, _, _, _, rfl, in2.kpp (Kp.refl p _) (pen2.weak (by omega))⟩ ?_ ?_
    · rintro i σ H3 hi ⟨v5, v6, v7, v8, v9, sps, ts, rfl, in3⟩
      have kl3 : ∀ {H4 : Hp}, Kp p H3 H4 → H4 kl = some (.lst (zs.map fun l => V.str (S l))) := fun k => (in3.kp.trans k).1 _ _ hk nkp
      have zpos : 0 < zs.length := List.length_pos_iff.mpr zne
      refine ⟨_, rfl, _, rfl, _, rfl, kl, _, rfl, .inl (SqL.of (kl3 (Kp.refl p _))), p, c + 100 * (20 - i) - 1, _, rfl, in3.pen.weak (by omega), by rw [List.length_map]; omega, by rw [List.length_map]; omega, fun r4 H4 a4 b4 pen4 k4 => ?_⟩
      rw [List.length_map] at b4
      obtain ⟨z, hz, ez⟩ := pick (fun l : List Nat => V.str (S l)) a4 b4
      refine ⟨kl, _, _, _, rfl, rfl, SqL.of (kl3 k4), ez, ?_⟩
      refine ⟨_, rfl, p, c + 100 * (20 - i) - 2, 6, rfl, pen4.weak (by omega), by decide, by decide, fun r5 H5 a5 b5 pen5 k5 => ⟨_, _, rfl, ?_⟩⟩
      have in5 := in3.kpp (k4.trans k5) pen5
      clear in3 kl3 pen4 k4 k5 pen5
      refine ⟨_, rfl, _, _, rfl, rfl, _, rfl, ?_⟩
      refine ite2 (fun _ => ?_) (fun _ => ?_)
      · -- sick
        refine ⟨_, rfl, Or.inl ⟨rfl, _, SqL.of in5.sp.1⟩, _, rfl, _, rfl, _, rfl, p, dl, c + 100 * (20 - i) - 8, sps, bs, rfl, in5.pen.weak (by omega), in5.od.ne, in5.sp, in5.ok, by have := in5.nm; omega, b0, b1, fun t a z6 H6 pen6 k6 ft et a6 b6 c6 d6 => ?_⟩
        have in6 := in5.kpp k6 pen6
        refine ⟨dl, _, _, rfl, rfl, in6.sp.1, ?_, ?_⟩
        · rw [List.length_map]
          have := in6.nm
          exact Nat.lt_of_lt_of_le (by omega : sps.length < 64) (by decide)
        have n6 : dl ≠ fl := nfd.symm
        have sp7 := in6.sp.push et
        have tn7 := in6.tn.put (o := .lst ((sps.map fun x => V.ref x.1) ++ [.ref t])) in6.sp.1 nfd
        have pen7 := in6.pen.put (o := .lst ((sps.map fun x => V.ref x.1) ++ [.ref t])) in6.od
        have kp7 : Kp p H (upd H6 dl (.lst ((sps.map fun x => V.ref x.1) ++ [.ref t]))) := in6.kp.new fdl
        have of7 := in6.of.put (o := .lst ((sps.map fun x => V.ref x.1) ++ [.ref t])) in6.od.ne.symm
        have od7 := in6.od.put (o := .lst ((sps.map fun x => V.ref x.1) ++ [.ref t])) in6.od.ne.symm
        have ok7 : SpOk bs (sps ++ [((t, a, z6) : Spa)]) := fun x hx => by
          rcases List.mem_append.mp hx with hx | hx
          · exact in6.ok x hx
          · cases List.mem_singleton.mp hx
            exact ⟨a6, b6, c6, d6⟩
        generalize upd H6 dl (.lst ((sps.map fun x => V.ref x.1) ++ [.ref t])) = H7 at sp7 tn7 pen7 kp7 of7 od7 ⊢
        refine ⟨_, rfl, Or.inl ⟨rfl, _, SqL.of tn7.1⟩, _, rfl, by show 2 ≤ sizeLine; decide, fun u hu => ?_⟩
        have su := same_new (o := .tup [.str (Str.ofString "sick"), .str (S z)]) hu
        have e7 : (upd H7 u (.tup [.str (Str.ofString "sick"), .str (S z)])) dl = some (.lst ((sps.map fun x => V.ref x.1) ++ [.ref t])) := su _ _ (by have := sp7.1; rw [List.map_append] at this; exact this)
        refine ⟨_, rfl, _, rfl, dl, _, _, _, rfl, rfl, SqL.of e7, atI_last _ _, ?_⟩
        have et7 := su _ _ (sp7.2 (t, a, z6) (by simp))
        refine ⟨u, t, _, _, rfl, rfl, SqT.of upd_same, SqT.of et7, by simp, by show 4 ≤ sizeLine; decide, (fun q => nomatch q), fun _ v hv => ?_⟩
        have sv := same_new (o := .tup ([.str (Str.ofString "sick"), .str (S z)] ++ [.int a, .int z6])) hv
        have s8 := su.trans sv
        refine ⟨fl, _, _, rfl, rfl, s8 _ _ tn7.1, ?_, ?_⟩
        · rw [List.length_map, in6.ln]
          exact Nat.lt_of_lt_of_le (by omega : i < 64) (by decide)
        have tn8 := (tn7.keep s8).push (t := v) (x := .sick z a z6) upd_same
        refine ⟨_, _, _, _, _, sps ++ [((t, a, z6) : Spa)], ts ++ [(v, .sick z a z6)], rfl, ⟨((pen7.same s8).put (of7.kp (Kp.same s8))).weak (by omega), (kp7.trans (Kp.same s8)).new hfl, (of7.kp (Kp.same s8)).put of7.ne.symm, (od7.kp (Kp.same s8)).put of7.ne.symm, tn8, (sp7.keep s8).put (s8 _ _ tn7.1) nfd.symm, ok7, by have := in6.nm; simp; omega, by simp [in6.ln], fun x hx => ?_⟩⟩
        rcases List.mem_append.mp hx with hx | hx
        · exact in6.go x hx
        · cases List.mem_singleton.mp hx
          exact ⟨hz, by omega, c6, d6⟩
      · refine ⟨_, rfl, _, _, rfl, rfl, _, rfl, ?_⟩
        refine ite2 (fun _ => ?_) (fun _ => ?_)
        · -- well
          refine ⟨fun σ' H' => ∃ (sl : Addr) (L : List Int) (v9 : Option V), σ' = [some (.ref p), some (.ref kl), some (.int bs), some (.ref fl), some (.ref dl), some (.int (0 + i)), some (.str (S z)), some (.int r5), some (.ref sl), v9] ∧ In p kl fl dl (c + 100 * (20 - i) - 3) i zs bs H H' sps ts ∧ sl ≠ p ∧ H' sl = some (.lst (L.map V.int)) ∧ Ds bs L ∧ L ≠ [] ∧ L.length ≤ 40, ?_, ?_⟩
          · refine ⟨_, rfl, _, rfl, p, c + 100 * (20 - i) - 3, 30, rfl, in5.pen.weak (by omega), by decide, by decide, fun d H6 d0 d1 pen6 k6 => ?_⟩
            have in6 := in5.kpp k6 pen6
            refine ⟨_, _, rfl, rfl, _, rfl, by show 2 ≤ sizeLine; decide, fun u hu => ?_⟩
            have su := same_new (o := .lst [.int (bs + d), .int bs]) hu
            have in7 := in6.same su
            have hu7 := upd_same (H := H6) (a := u) (o := .lst [.int (bs + d), .int bs])
            generalize upd H6 u (.lst [.int (bs + d), .int bs]) = H7 at in7 hu7 ⊢
            refine ⟨_, rfl, _, rfl, _, rfl, dl, _, rfl, SqL.of in7.sp.1, fun q hq => ?_⟩
            have sq := same_new (o := .lst (cutV (sps.map fun x => V.ref x.1) (some (-1)) none)) hq
            have in8 := in7.same sq
            have hq8 := upd_same (H := H7) (a := q) (o := .lst (cutV (sps.map fun x => V.ref x.1) (some (-1)) none))
            have hu8 := sq _ _ hu7
            generalize upd H7 q (.lst (cutV (sps.map fun x => V.ref x.1) (some (-1)) none)) = H8 at in8 hq8 hu8 ⊢
            refine ⟨q, rfl, ⟨_, SqL.of hq8⟩, fun D hD => ?_⟩
            refine lc_list (K := K) (xs := cutV (sps.map fun x => V.ref x.1) (some (-1)) none) (fun j H9 => Same H8 H9 ∧ ∃ M : List Int, H9 D = some (.lst (M.map V.int)) ∧ Ds bs M ∧ M.length = j) ⟨same_new hD, [], upd_same, fun x hx => absurd hx (by simp), rfl⟩ (fun j H9 _ z => SqL.of (z.1 _ _ hq8)) ?_ ?_
            · rintro j y H9 hj ⟨s9, M, hM, dM, lM⟩
              obtain ⟨x, hx, rfl⟩ := cut_sp hj
              have jl := cut_lt hj
              have okx := in8.ok x hx
              refine ⟨rfl, _, rfl, x.1, _, _, _, rfl, rfl, SqT.of (s9 _ _ (in8.sp.2 x hx)), rfl, ?_⟩
              refine ⟨_, hM, ?_, fun b o e => ?_, M ++ [x.2.1], ?_, dM.push okx.1 (by omega), by simp [lM]⟩
              · rw [List.length_map, lM]
                have := in8.nm
                exact Nat.lt_of_lt_of_le (by omega : j < 64) (by decide)
              · rw [upd_ne (ne_of_none e hD)]
                exact s9 b o e
              · rw [upd_same]
                simp
            · rintro H9 ⟨s9, M, hM, dM, lM⟩
              have lM2 : M.length ≤ 16 := by
                have h2 := cutV_length (sps.map fun x => V.ref x.1) (some (-1)) none
                rw [List.length_map] at h2
                have := in8.nm
                omega
              refine ⟨u, D, _, _, rfl, rfl, s9 _ _ hu8, hM, ?_, fun sl hsl => ?_⟩
              · rw [List.length_map]
                exact Nat.le_trans (by simp; omega : _ ≤ 64) (by decide)
              · have in9 := (in8.same s9).same (same_new (o := .lst ([.int (bs + d), .int bs] ++ M.map V.int)) hsl)
                refine ⟨sl, [bs + d, bs] ++ M, _, rfl, in9, (in8.same s9).pen.ne_new hsl, ?_, Ds.app (fun x hx => ?_) dM, by simp, by simp; omega⟩
                · rw [upd_same]
                  simp
                · simp only [List.mem_cons, List.not_mem_nil, or_false] at hx
                  rcases hx with rfl | rfl <;> omega
          rintro σ' H6 ⟨sl, L, v9, rfl, in6, nsp, hL, dL, Lne, Llen⟩
          refine ⟨fun σ' H' => ∃ (sl : Addr) (L : List Int) (v9 : Option V), σ' = [some (.ref p), some (.ref kl), some (.int bs), some (.ref fl), some (.ref dl), some (.int (0 + i)), some (.str (S z)), some (.int r5), some (.ref sl), v9] ∧ In p kl fl dl (c + 100 * (20 - i) - 30) i zs bs H H' sps ts ∧ sl ≠ p ∧ H' sl = some (.lst (L.map V.int)) ∧ Ds bs L ∧ L ≠ [] ∧ L.length ≤ 80, ?_, ?_⟩
          · refine ⟨_, rfl, _, rfl, _, rfl, _, rfl, dl, _, rfl, SqL.of in6.sp.1, fun q hq => ?_⟩
            have sq := same_new (o := .lst (cutV (sps.map fun x => V.ref x.1) (some (-2)) none)) hq
            have in8 := in6.same sq
            have hq8 := upd_same (H := H6) (a := q) (o := .lst (cutV (sps.map fun x => V.ref x.1) (some (-2)) none))
            have hu8 := sq _ _ hL
            have nqp := in6.pen.ne_new hq
            generalize upd H6 q (.lst (cutV (sps.map fun x => V.ref x.1) (some (-2)) none)) = H8 at in8 hq8 hu8 ⊢
            refine ⟨q, rfl, ⟨_, SqL.of hq8⟩, fun D hD => ?_⟩
            have sD := same_new (o := .lst []) hD
            have fD : H D = none := in8.kp.free in8.pen hD
            have n1 : fl ≠ D := ne_of_none in8.tn.1 hD
            have n2 : dl ≠ D := ne_of_none in8.sp.1 hD
            have n3 : q ≠ D := ne_of_none hq8 hD
            have n4 : sl ≠ D := ne_of_none hu8 hD
            refine lc_list (K := K) (xs := cutV (sps.map fun x => V.ref x.1) (some (-2)) none) (fun j H9 => In p kl fl dl (c + 100 * (20 - i) - 3 - j) i zs bs H H9 sps ts ∧ Off p D H9 ∧ H9 q = some (.lst (cutV (sps.map fun x => V.ref x.1) (some (-2)) none)) ∧ H9 sl = some (.lst (L.map V.int)) ∧ ∃ M : List Int, H9 D = some (.lst (M.map V.int)) ∧ Ds bs M ∧ M.length = j)
              ⟨in8.same sD, (Off.of in8.pen hD).kp (Kp.same sD), sD _ _ hq8, sD _ _ hu8, [], upd_same, fun x hx => absurd hx (by simp), rfl⟩ (fun j H9 _ z => SqL.of z.2.2.1) ?_ ?_
            · rintro j y H9 hj ⟨in9, o9, hq9, hs9, M, hM, dM, lM⟩
              obtain ⟨x, hx, rfl⟩ := cut_sp hj
              have jl := cut_lt hj
              have jn := in9.nm
              have okx := in9.ok x hx
              refine ⟨rfl, _, rfl, _, _, rfl, rfl, _, rfl, x.1, _, _, _, rfl, rfl, SqT.of (in9.sp.2 x hx), rfl, _, rfl, p, c + 100 * (20 - i) - 3 - (j + 1), 2, rfl, in9.pen.weak (by omega), by decide, by decide, fun e H10 e0 e1 pen10 k10 => ?_⟩
              have in10 := in9.kpp k10 pen10
              have o10 := o9.kp k10
              have hM10 := k10.1 _ _ hM o9.ne
              refine ⟨_, _, rfl, rfl, _, _, rfl, ?_⟩
              refine ⟨_, hM10, ?_, in10.put fD hM10 n1 n2 o10, o10.put o10.ne.symm, ?_, ?_, M ++ [if x.2.2 + e < bs + 40 then x.2.2 + e else bs + 40], ?_, dM.push ?_ ?_, by simp [lM]⟩
              · rw [List.length_map, lM]
                exact Nat.lt_of_lt_of_le (by omega : j < 64) (by decide)
              · rw [upd_ne n3]
                exact k10.1 _ _ hq9 nqp
              · rw [upd_ne n4]
                exact k10.1 _ _ hs9 nsp
              · rw [upd_same, List.map_append]
                rfl
              · show bs ≤ (if x.2.2 + e < bs + 40 then x.2.2 + e else bs + 40)
                split <;> omega
              · show (if x.2.2 + e < bs + 40 then x.2.2 + e else bs + 40) ≤ bs + 50
                split <;> omega
            · rintro H9 ⟨in9, o9, hq9, hs9, M, hM, dM, lM⟩
              have lM2 : M.length ≤ 16 := by
                have h2 := cutV_length (sps.map fun x => V.ref x.1) (some (-2)) none
                rw [List.length_map] at h2
                have := in8.nm
                omega
              refine ⟨sl, D, _, _, rfl, rfl, hs9, hM, ?_, fun s2 hs2 => ?_⟩
              · rw [List.length_map, List.length_map]
                exact Nat.le_trans (by omega : _ ≤ 64) (by decide)
              · have in10 := in9.same (same_new (o := .lst (L.map V.int ++ M.map V.int)) hs2)
                refine ⟨s2, L ++ M, _, rfl, in10.kpp (Kp.refl p _) (in10.pen.weak (by omega)), in9.pen.ne_new hs2, ?_, dL.app dM, by simp [Lne], by rw [List.length_append]; omega⟩
                rw [upd_same, List.map_append]
          clear in6 nsp hL dL Lne Llen
          rintro σ' H6 ⟨sl, L, v9, rfl, in6, nsp, hL, dL, Lne, Llen⟩
          have Lpos := List.length_pos_iff.mpr Lne
          refine ⟨_, rfl, Or.inl ⟨rfl, _, SqL.of in6.tn.1⟩, _, rfl, _, rfl, _, rfl, _, rfl, sl, _, rfl, .inl (SqL.of hL), p, c + 100 * (20 - i) - 31, _, rfl, in6.pen.weak (by omega), by rw [List.length_map]; omega, by rw [List.length_map]; omega, fun r7 H7 a7 b7 pen7 k7 => ?_⟩
          rw [List.length_map] at b7
          obtain ⟨d, hd, ed⟩ := pick V.int a7 b7
          have hd' := dL d hd
          refine ⟨sl, _, _, _, rfl, rfl, SqL.of (k7.1 _ _ hL nsp), ed, by show 3 ≤ sizeLine; decide, fun t ft => ?_⟩
          have in8 := (in6.kpp k7 pen7).same (same_new (o := .tup [.str (Str.ofString "well"), .str (S z), .int d]) ft)
          refine ⟨fl, _, _, rfl, rfl, in8.tn.1, ?_, ?_⟩
          · rw [List.length_map, in8.ln]
            exact Nat.lt_of_lt_of_le (by omega : i < 64) (by decide)
          have in9 := in8.tell (t := t) (y := .well z d) hfl nfd (by have := in8.nm; omega) upd_same ⟨hz, by omega, by omega⟩
          exact ⟨_, _, _, _, _, sps, _, rfl, in9.kpp (Kp.refl p _) (in9.pen.weak (by omega))⟩
        · -- only
          refine ⟨_, rfl, Or.inl ⟨rfl, _, SqL.of in5.tn.1⟩, _, rfl, _, rfl, _, rfl, p, c + 100 * (20 - i) - 3, 30, rfl, in5.pen.weak (by omega), by decide, by decide, fun d H6 d0 d1 pen6 k6 => ?_⟩
          refine ⟨_, _, rfl, rfl, _, rfl, p, c + 100 * (20 - i) - 4, 2, rfl, pen6.weak (by omega), by decide, by decide, fun e H7 e0 e1 pen7 k7 => ⟨rfl, by show 4 ≤ sizeLine; decide, fun t ft => ?_⟩⟩
          have in8 := (in5.kpp (k6.trans k7) pen7).same (same_new (o := .tup [.str (Str.ofString "only"), .str (S z), .int (bs + d), .bl (decide (V.int e = V.int 0))]) ft)
          refine ⟨fl, _, _, rfl, rfl, in8.tn.1, ?_, ?_⟩
          · rw [List.length_map, in8.ln]
            exact Nat.lt_of_lt_of_le (by omega : i < 64) (by decide)
          have in9 := in8.tell (t := t) (y := .only z (bs + d) (decide (V.int e = V.int 0))) hfl nfd (by have := in8.nm; omega) upd_same ⟨hz, by omega, by omega⟩
          exact ⟨_, _, _, _, _, sps, _, rfl, in9.kpp (Kp.refl p _) (in9.pen.weak (by omega))⟩
    · rintro σ H3 ⟨v5, v6, v7, v8, v9, sps, ts, rfl, in3⟩
      exact ⟨_, rfl, hQ fl ts H3 (in3.pen.weak (by omega)) in3.kp hfl in3.of in3.tn (by rw [in3.ln]; exact hn1) (by rw [in3.ln]; exact hn14) in3.go⟩
end
end K12
set_option Elab.async false
set_option linter.all false
set_option maxRecDepth 100000
set_option maxHeartbeats 4000000
/-! KW: calls by keywords alone: f(k = v, ..), o.m(k = v, ..). -/
namespace KW
open PySem PySem.Spec PyProof.Rows L2
section
variable {X : Cx} {k j : Nat} {C f : Addr} {fd : FuncData} {ps ks : List Str} {sp : Sp} {x m : Str} {p pos apos : Pos} {o : Expr} {kws : List Keyword} {ta : TE} {tk : TA} {g : List Value → List Value → List Value} {gV : List V → List V → List V}
theorem pe_cK (F : FnOk X.prog X.w X.K X.mg X.base CX0 k f fd ps sp) (hr : Room k X.A) (hg : Gl X x) (hm : X.mg x = some (.ref f)) (hk : PySem.W.keepIn X.K (.ref f) = true) (hb : KBn X.K fd ps 0 ks g gV) (hkw : PK X kws tk)
    (hall : (backToKw pos (keywordEach kws X.env)).all (·.1.isSome) = true := by rfl) (hks : (backToKw pos (keywordEach kws X.env)).filterMap (·.1) = ks := by rfl) (hdb : (x == ("__debug__" : Str)) = false := by decide)
    (hpl : ((backTo pos (starEach [] X.env)).any (·.1) || (backToKw pos (keywordEach kws X.env)).any (·.1.isNone)) = false := by rfl) :
    PE X (.Call (.Name x p) [] kws pos) (fun σ H Q => tk σ H fun zs H1 => zs.length = ks.length ∧ sp (gV [] zs) H1 Q E0) := by
  refine ⟨fun pins s σ H Q I h => wpAny_Call_Name_kw (ld_glob I hg hm (PySem.W.callWith_KW0 (h₀ := X.base) I.ok.mod.kin hk hall ?_ hpl) hdb)⟩
  refine thn (hkw.run pos pins s σ H _ I h) fun ws s2 ⟨zs, H2, I2, rz, l2, q2⟩ => ⟨I2.kIn, ?_⟩
  rw [hks]
  exact run_fnN (us := []) (vs := []) F hr hb (fun _ _ _ _ _ _ _ h => False.elim h) I2 .nil rz rfl l2 q2
theorem pe_mtK {pl : Sem Bool} (he : PE X o ta) (c : Cls X.K C) (hm : Meth X.K C m f) (F : FnOk X.prog X.w X.K X.mg X.base CX0 k f fd ps sp) (hr : Room k X.A) (hb : KBn X.K fd ps 1 ks g gV) (hkw : PK X kws tk)
    (hall : (backToKw pos (keywordEach kws X.env)).all (·.1.isSome) = true := by rfl) (hks : (backToKw pos (keywordEach kws X.env)).filterMap (·.1) = ks := by rfl)
    (hpl : ((backTo pos (starEach [] X.env)).any (·.1) || (backToKw pos (keywordEach kws X.env)).any (·.1.isNone)) = false := by rfl)
    (ht : eval (.Call (.Attribute o m apos) [] kws pos) X.env = (do
      let ov ← eval o X.env
      standAt apos.atName
      let (f, first) ← holding [ov] (getMethod ov m pl)
      callWith pos f first (backTo pos (starEach [] X.env)) (backToKw pos (keywordEach kws X.env))) := by rfl) :
    PE X (.Call (.Attribute o m apos) [] kws pos) (fun σ H Q => ta σ H fun x H1 => ∃ a dx fs, x = .ref a ∧ H1 a = some (.ins C dx fs) ∧ fs.lookup m = none ∧ tk σ H1 fun zs H2 => zs.length = ks.length ∧ sp (gV [.ref a] zs) H2 Q E0) := by
  refine ⟨fun pins s σ H Q I h => ?_⟩
  refine PySem.W.methodCall_KW (pl := pl) (thn (he.run pins s σ H _ I h) fun u s1 ⟨x, H1, I1, rx, a, dx, fs, ex, ea, l, q⟩ => ?_) ht
  subst ex
  obtain rfl : u = Value.ref a := rx
  refine getmeth_ok I1 ea c hm l (PySem.W.callWith_KW0 (first := [.ref a]) (h₀ := X.base) I.ok.mod.kin hm.kp hall ?_ hpl)
  refine thn (hkw.run pos pins s1 σ H1 _ I1 q) fun ws s2 ⟨zs, H2, I2, rz, l2, q2⟩ => ⟨I2.kIn, ?_⟩
  rw [hks]
  exact run_fnN (us := [.ref a]) (vs := [.ref a]) F hr hb (fun _ _ _ _ _ _ _ h => False.elim h) I2 (.cons rfl .nil) rz rfl l2 q2
end
end KW
set_option Elab.async false
set_option linter.all false
set_option maxRecDepth 100000
set_option maxHeartbeats 4000000
/-! KB: what a call by keywords binds, for a def without keyword-only parameters. -/
namespace KW
open PySem PySem.Spec PyProof.Rows L2
section
variable {K : PySem.W.Frag} {x qual : Str} {params : Arguments} {body : List Stmt} {scope : Scope} {dvs : List V} {kws : List (Str × V)} {f : Addr} {fd : FuncData} {ps : List Str}
theorem kb1 (F : FunD K x qual params body scope dvs kws f fd) (n : Nat) (ks : List Str) (g : {α : Type} → List α → List α → List α → List α) (hd : dvs ≠ [])
    (hrel : ∀ {vs ds zs : List V} {us its ws : List Value}, Vals vs us → Vals ds its → Vals zs ws → Vals (g vs ds zs) (g us its ws))
    (h : ∀ (T : Addr) (kV doc pm : Value) (an : Option Addr) (cdv ct : Value) (us its ws : List Value), us.length = n → its.length = dvs.length → ws.length = ks.length →
      ∃ k, bindArgs (PySem.W.fnOf x qual params body scope (.ref T) kV doc pm an cdv ct) ⟨us, ks.zip ws⟩ = seqItems? (.ref T) >>= k ∧ k (some its.toArray) = pure (ps.zip (g us its ws))) :
    ∃ its : List Value, KBn K fd ps n ks (fun us ws => g us its ws) (fun vs zs => g vs dvs zs) := by
  obtain ⟨oc, od, dV, kV, doc, pm, an, cdv, ct, osl, rfl, lk, hcd, hD, hK⟩ := F.ex
  rcases hD with ⟨e, _⟩ | ⟨_, T, o, its, m, rfl, lT, oT, rT⟩
  · exact absurd e hd
  · refine ⟨its, ⟨fun s us ws X l1 l2 => ?_, fun r1 r2 => hrel r1 rT r2⟩⟩
    obtain ⟨k, e1, e2⟩ := h T kV doc pm an cdv ct us its ws l1 rT.length.symm l2
    refine BindsTo.of_looks fun M => ?_
    rw [e1]
    exact looks_items X lT oT (.of_pure e2)
theorem kb0 (F : FunD K x qual params body scope [] kws f fd) (n : Nat) (ks : List Str) (g : {α : Type} → List α → List α → List α)
    (hrel : ∀ {vs zs : List V} {us ws : List Value}, Vals vs us → Vals zs ws → Vals (g vs zs) (g us ws))
    (h : ∀ (kV doc pm : Value) (an : Option Addr) (cdv ct : Value) (us ws : List Value), us.length = n → ws.length = ks.length →
      bindArgs (PySem.W.fnOf x qual params body scope .none kV doc pm an cdv ct) ⟨us, ks.zip ws⟩ = pure (ps.zip (g us ws))) :
    KBn K fd ps n ks (fun us ws => g us ws) (fun vs zs => g vs zs) := by
  obtain ⟨oc, od, dV, kV, doc, pm, an, cdv, ct, osl, rfl, lk, hcd, hD, hK⟩ := F.ex
  rcases hD with ⟨_, rfl⟩ | ⟨e, _⟩
  · exact ⟨fun s us ws X l1 l2 => .of_eq (h kV doc pm an cdv ct us ws l1 l2), fun r1 r2 => hrel r1 r2⟩
  · exact absurd rfl e
end
end KW
set_option Elab.async false
set_option linter.all false
set_option maxRecDepth 100000
set_option maxHeartbeats 4000000
namespace K12
open PySem PySem.Spec PyProof.Rows L2
open C8 (Cal Mak Met pe_c pe_mk pe_mt pe_mt0)
open SX (S)
/-- one who entered -/
structure En where
  l : List Nat
  q : Addr
  dx : Addr
  mk' : Addr
  ad : Addr
  sd : Addr
  m : Nat
  kv : List (Key × V)
  al : Int → Option Bool
  sps : List Spa
def En.kq (e : En) : Key × V := (Sum.inr (S e.l), .ref e.q)
def En.has (e : En) (b : Addr) : Prop := b = e.q ∨ b = e.ad ∨ b = e.sd
structure WS (C CW : Addr) (H : Hp) (kw wd : Addr) (n : Nat) (es : List En) : Prop where
  kw_ : Kw C H kw wd (es.map En.kq)
  wi : ∀ (i : Nat) (e : En), es[i]? = some e → Wi CW H e.q e.dx 4 e.mk' e.ad e.sd e.m e.kv e.al e.sps
  nk : ∀ (i : Nat) (e : En), es[i]? = some e → e.kv.length ≤ n ∧ e.sps.length ≤ n
  ap : ∀ (i j : Nat) (a b : En), es[i]? = some a → es[j]? = some b → i ≠ j → a.l ≠ b.l ∧ a.q ≠ b.q ∧ a.ad ≠ b.ad ∧ a.sd ≠ b.sd ∧ a.mk' ≠ b.ad
  mw : ∀ (i : Nat) (e : En), es[i]? = some e → e.mk' ≠ e.ad ∧ e.ad ≠ wd
theorem WS.keep {C CW kw wd : Addr} {H H' : Hp} {n : Nat} {es : List En} (s : Same H H') (x : WS C CW H kw wd n es) : WS C CW H' kw wd n es := by
  obtain ⟨⟨⟨dx, a⟩, b⟩, c, d, e, f⟩ := x
  exact ⟨⟨⟨dx, s _ _ a⟩, s _ _ b⟩, fun i x h => (c i x h).keep s, d, e, f⟩
/-- a heap in which all that Wants has stays -/
theorem WS.stay {C CW kw wd : Addr} {H H' : Hp} {n : Nat} {es : List En} (x : WS C CW H kw wd n es) (s : ∀ b o, H b = some o → (∀ ys, o ≠ .lst ys) ∨ (∃ (i : Nat) (e : En), es[i]? = some e ∧ b = e.sd) → H' b = some o) : WS C CW H' kw wd n es := by
  obtain ⟨⟨⟨dx, a⟩, b⟩, c, d, e, f⟩ := x
  refine ⟨⟨⟨dx, s _ _ a (.inl fun _ z => by cases z)⟩, s _ _ b (.inl fun _ z => by cases z)⟩, fun i x h => ?_, d, e, f⟩
  obtain ⟨w1, w2, w3, w4, w5⟩ := c i x h
  exact ⟨s _ _ w1 (.inl fun _ z => by cases z), s _ _ w2 (.inl fun _ z => by cases z), s _ _ w3 (.inl fun _ z => by cases z), w4, s _ _ w5.1 (.inr ⟨i, x, h, rfl⟩), fun y hy => s _ _ (w5.2 y hy) (.inl fun _ z => by cases z)⟩
theorem val_of : ∀ {es : List En} {i : Nat} {e : En}, es[i]? = some e → (∀ (j : Nat) (b : En), es[j]? = some b → j ≠ i → b.l ≠ e.l) → valV (es.map En.kq) (Sum.inr (S e.l)) = some (.ref e.q)
  | [], i, e, h, _ => by simp at h
  | x :: xs, 0, e, h, _ => by
    cases (Option.some.inj h)
    exact valV_pos rfl
  | x :: xs, i + 1, e, h, hn => by
    have n0 : x.l ≠ e.l := hn 0 x rfl (by omega)
    refine (valV_neg fun z => n0 (SX.S_inj (Sum.inr.inj z))).trans (val_of (i := i) h fun j b hb hj => hn (j + 1) b hb (by omega))
theorem WS.val {C CW kw wd : Addr} {H : Hp} {n i : Nat} {es : List En} {e : En} (x : WS C CW H kw wd n es) (h : es[i]? = some e) : valV (es.map En.kq) (Sum.inr (S e.l)) = some (.ref e.q) :=
  val_of h fun j b hb hj => (x.ap j i b e hb h hj).1
theorem map_set {es : List En} {i : Nat} {e e' : En} (h : es[i]? = some e) (hk : e'.kq = e.kq) : (es.set i e').map En.kq = es.map En.kq := by
  rw [List.map_set, hk]
  have h1 : (es.map En.kq)[i]? = some e.kq := by rw [List.getElem?_map, h]; rfl
  obtain ⟨hl, he⟩ := List.getElem?_eq_some_iff.mp h1
  rw [← he]
  exact List.set_getElem_self hl
theorem kw_ne {C CW kw wd q dx mk ad sd : Addr} {H : Hp} {s : Int} {dk : Addr} (h1 : H kw = some (.ins C dk (kwF wd))) (h2 : H q = some (.ins CW dx (wiF s mk ad sd))) : kw ≠ q := by
  intro z
  rw [z, h2] at h1
  injection h1 with h1
  injection h1 with _ _ h1
  have e1 := kw_look wd
  rw [← h1, wi_no s mk ad sd (by decide +kernel) (by decide +kernel) (by decide +kernel) (by decide +kernel) (by decide +kernel) (by decide +kernel)] at e1
  cases e1
theorem WS.step {C CW kw wd : Addr} {H H' : Hp} {n i : Nat} {es : List En} {e e' : En} (x : WS C CW H kw wd n es) (h : es[i]? = some e) (hl : e'.l = e.l) (hq : e'.q = e.q) (hmk : e'.mk' = e.mk') (had : e'.ad = e.ad) (hsd : e'.sd = e.sd ∨ H e'.sd = none)
    (W : Wi CW H' e'.q e'.dx 4 e'.mk' e'.ad e'.sd e'.m e'.kv e'.al e'.sps) (fr : ∀ b o, H b = some o → ¬ e.has b → H' b = some o) (n1 : e'.kv.length ≤ n + 1) (n2 : e'.sps.length ≤ n + 1) : WS C CW H' kw wd (n + 1) (es.set i e') := by
  have il := (List.getElem?_eq_some_iff.mp h).1
  have We := x.wi i e h
  have get : ∀ (j : Nat) (b : En), (es.set i e')[j]? = some b → (j = i ∧ b = e') ∨ (j ≠ i ∧ es[j]? = some b) := fun j b hb => by
    by_cases c : j = i
    · rw [c, List.getElem?_set_self il] at hb
      exact .inl ⟨c, (Option.some.inj hb).symm⟩
    · rw [List.getElem?_set_ne (fun z => c z.symm)] at hb
      exact .inr ⟨c, hb⟩
  obtain ⟨⟨dk, hk⟩, hwd⟩ := x.kw_
  refine ⟨?_, fun j b hb => ?_, fun j b hb => ?_, fun j k a b ha hb hjk => ?_, fun j b hb => ?_⟩
  · rw [map_set h (by unfold En.kq; rw [hl, hq])]
    refine ⟨⟨dk, fr _ _ hk ?_⟩, fr _ _ hwd ?_⟩
    · rintro (z | z | z)
      · exact kw_ne hk We.at_ z
      · exact ne_of hk We.ad_ (by intro z; cases z) z
      · exact ne_of hk We.sp_.1 (by intro z; cases z) z
    · rintro (z | z | z)
      · exact ne_of hwd We.at_ (by intro z; cases z) z
      · exact (x.mw i e h).2 z.symm
      · exact ne_of hwd We.sp_.1 (by intro z; cases z) z
  · rcases get j b hb with ⟨rfl, rfl⟩ | ⟨c, hb⟩
    · exact W
    · have Wb := x.wi j b hb
      obtain ⟨a1, a2, a3, a4, a5⟩ := x.ap j i b e hb h c
      refine ⟨fr _ _ Wb.at_ ?_, fr _ _ Wb.mk_ ?_, fr _ _ Wb.ad_ ?_, Wb.al_, fr _ _ Wb.sp_.1 ?_, fun y hy => fr _ _ (Wb.sp_.2 y hy) ?_⟩
      · rintro (z | z | z)
        · exact a2 z
        · exact ne_of Wb.at_ We.ad_ (by intro z; cases z) z
        · exact ne_of Wb.at_ We.sp_.1 (by intro z; cases z) z
      · rintro (z | z | z)
        · exact ne_of Wb.mk_ We.at_ (by intro z; cases z) z
        · exact a5 z
        · exact ne_of Wb.mk_ We.sp_.1 (by intro z; cases z) z
      · rintro (z | z | z)
        · exact ne_of Wb.ad_ We.at_ (by intro z; cases z) z
        · exact a3 z
        · exact ne_of Wb.ad_ We.sp_.1 (by intro z; cases z) z
      · rintro (z | z | z)
        · exact ne_of Wb.sp_.1 We.at_ (by intro z; cases z) z
        · exact ne_of Wb.sp_.1 We.ad_ (by intro z; cases z) z
        · exact a4 z
      · rintro (z | z | z)
        · exact ne_of (Wb.sp_.2 y hy) We.at_ (by intro z; cases z) z
        · exact ne_of (Wb.sp_.2 y hy) We.ad_ (by intro z; cases z) z
        · exact ne_of (Wb.sp_.2 y hy) We.sp_.1 (by intro z; cases z) z
  · rcases get j b hb with ⟨rfl, rfl⟩ | ⟨c, hb⟩
    · exact ⟨n1, n2⟩
    · have := x.nk j b hb
      omega
  · have sdN : ∀ (k : Nat) (b : En), es[k]? = some b → k ≠ i → e'.sd ≠ b.sd := fun k b hb c => by
      rcases hsd with z | z
      · rw [z]
        exact (x.ap i k e b h hb (fun q => c q.symm)).2.2.2.1
      · exact (ne_of_none (x.wi k b hb).sp_.1 z).symm
    rcases get j a ha with ⟨rfl, rfl⟩ | ⟨c, ha'⟩
    · rcases get k b hb with ⟨rfl, rfl⟩ | ⟨c2, hb⟩
      · exact absurd rfl hjk
      · have := x.ap j k e b h hb hjk
        rw [hl, hq, had, hmk]
        exact ⟨this.1, this.2.1, this.2.2.1, sdN k b hb c2, this.2.2.2.2⟩
    · rcases get k b hb with ⟨rfl, rfl⟩ | ⟨c2, hb⟩
      · have := x.ap j k a e ha' h hjk
        rw [hl, hq, had]
        exact ⟨this.1, this.2.1, this.2.2.1, (sdN j a ha' c).symm, this.2.2.2.2⟩
      · exact x.ap j k a b ha' hb hjk
  · rcases get j b hb with ⟨rfl, rfl⟩ | ⟨c, hb⟩
    · rw [hmk, had]
      exact x.mw j e h
    · exact x.mw j b hb
/-- what a turn makes of an entry -/
structure Gone (H : Hp) (x : Tn) (e e' : En) : Prop where
  l : e'.l = e.l
  m : e'.m = e.m
  al : ∀ d, e'.al d = aloneS e.l d (e.al d) x
  sk : ∀ d, sickOn e'.sps d = (sickS e.l d (some (sickOn e.sps d)) x).getD false
  ha : ∀ b, e'.has b → e.has b ∨ H b = none
section
variable {P : Program} {w : World} {K : PySem.W.Frag} {mg : Str → Option Value} {base : Heap} {f C CW CP : Addr} {fd : FuncData}
theorem al_put {kv : List (Key × V)} {al : Int → Option Bool} (h : ∀ d, valV kv (Sum.inl d) = (al d).map V.bl) (c : Int) (b : Bool) (d : Int) : valV (putK kv (Sum.inl c) (.bl b)) (Sum.inl d) = ((fun t => if t = c then some b else al t) d).map V.bl := by
  rw [valV_put, h]
  show _ = Option.map V.bl (if d = c then some b else al d)
  by_cases e : d = c
  · rw [if_pos (by rw [e]), if_pos e]
    rfl
  · rw [if_neg (fun z => e (Sum.inl.inj z)), if_neg e]
def spTold (C CW : Addr) : Sp := fun vs H Q _ => ∃ (kw wd tt : Addr) (nm : Bool) (n i : Nat) (es : List En) (e : En) (x : Tn) (zs : List (List Nat)), vs = [.ref kw, .ref tt, .bl nm] ∧ WS C CW H kw wd n es ∧ n ≤ 90 ∧ H tt = some (.tup x.v) ∧ es[i]? = some e ∧ x.l = e.l ∧ TnOk zs x ∧
  ∀ (H' : Hp) (e' : En), Gone H x e e' → (∀ b o, H b = some o → ¬ e.has b → H' b = some o) → WS C CW H' kw wd (n + 1) (es.set i e') → Q .non H'
/-- the methods that are told of -/
structure Tm (P : Program) (w : World) (K : PySem.W.Frag) (mg : Str → Option Value) (base : Heap) (C CW : Addr) : Prop where
  cl : Cls K C
  sick : Met P w K mg base 6 C "sick" (spSick C CW) []
  well : Met P w K mg base 5 C "well" (spWell C CW) []
  only : Met P w K mg base 5 C "only" (spOnly C CW) []
abbrev psS : List Str := ["self", "name", "first", "last"]
abbrev psW : List Str := ["self", "name", "day"]
abbrev psO : List Str := ["self", "name", "day", "want"]
theorem ok_told {fS fW fO : Addr} {fdS fdW fdO : FuncData} (F : Dn K d_l_told f fd) (T : Tm P w K mg base C CW) (mS : Meth K C "sick" fS) (FS : FnOk P w K mg base CX0 6 fS fdS psS (spSick C CW)) (mW : Meth K C "well" fW) (FW : FnOk P w K mg base CX0 5 fW fdW psW (spWell C CW))
    (mO : Meth K C "only" fO) (FO : FnOk P w K mg base CX0 5 fO fdO psO (spOnly C CW))
    (kS : KBn K fdS psS 1 ["last", "first", "name"] (fun us ws => us ++ (ws.drop 2 ++ ((ws.drop 1).take 1 ++ ws.take 1))) (fun vs zs => vs ++ (zs.drop 2 ++ ((zs.drop 1).take 1 ++ zs.take 1))))
    (kW : KBn K fdW psW 1 ["day", "name"] (fun us ws => us ++ (ws.drop 1 ++ ws.take 1)) (fun vs zs => vs ++ (zs.drop 1 ++ zs.take 1)))
    (kO : KBn K fdO psO 1 ["want", "name", "day"] (fun us ws => us ++ (ws.drop 1 ++ ws.take 1)) (fun vs zs => vs ++ (zs.drop 1 ++ zs.take 1))) :
    FnOk P w K mg base CX0 7 f fd ["_law_kept", "_law_turn", "_law_is_named"] (spTold C CW) := by
  refine F.ok sc_l_told (fun vs H Q E h => ?_) (fun cdv A outer s H vs Q E hr h => ?_)
  · obtain ⟨kw, wd, tt, nm, n, i, es, e, x, zs, rfl, _⟩ := h
    rfl
  · obtain ⟨kw, wd, tt, nm, n, i, es, e, x, zs, rfl, X, hn, ht, he, hxl, hok, hQ⟩ := h
    refine ⟨_, PSs.nox (pss_one (ps_if (PW.pt (pw_and (pt_cmpR op_eq (pe_ix ix_tup (pv 1) pe_int (fun _ _ => rfl)) pe_str (nomark _)) (pw_and1 (pt_val (pv 2)))))
        (pss_one (ps_expr (KW.pe_mtK (pv 0) T.cl mS FS hr kS (pk_cons (pe_ix ix_tup (pv 1) pe_int (fun _ _ => rfl)) (pk_cons (pe_ix ix_tup (pv 1) pe_int (fun _ _ => rfl)) (pk_cons (pe_ix ix_tup (pv 1) pe_int (fun _ _ => rfl)) pk_nil))))))
      (pss_one (ps_if (pt_cmpR op_eq (pe_ix ix_tup (pv 1) pe_int (fun _ _ => rfl)) pe_str (nomark _))
        (pss_one (ps_expr (pe_mt T.sick hr (by decide) (pv 0) (pa_cons (pe_ix ix_tup (pv 1) pe_int (fun _ _ => rfl)) (pa_cons (pe_ix ix_tup (pv 1) pe_int (fun _ _ => rfl)) (pa_cons (pe_ix ix_tup (pv 1) pe_int (fun _ _ => rfl)) pa_nil))))))
      (pss_one (ps_if (pt_cmpR op_eq (pe_ix ix_tup (pv 1) pe_int (fun _ _ => rfl)) pe_str (nomark _))
        (pss_one (ps_expr (pe_ifExp (pt_val (pv 2)) (KW.pe_mtK (pv 0) T.cl mW FW (hr.mono (by decide)) kW (pk_cons (pe_ix ix_tup (pv 1) pe_int (fun _ _ => rfl)) (pk_cons (pe_ix ix_tup (pv 1) pe_int (fun _ _ => rfl)) pk_nil)))
          (pe_mt T.well hr (by decide) (pv 0) (pa_cons (pe_ix ix_tup (pv 1) pe_int (fun _ _ => rfl)) (pa_cons (pe_ix ix_tup (pv 1) pe_int (fun _ _ => rfl)) pa_nil))))))
      (pss_one (ps_if (pt_val (pv 2))
        (pss_one (ps_expr (KW.pe_mtK (pv 0) T.cl mO FO (hr.mono (by decide)) kO (pk_cons (pe_ix ix_tup (pv 1) pe_int (fun _ _ => rfl)) (pk_cons (pe_ix ix_tup (pv 1) pe_int (fun _ _ => rfl)) (pk_cons (pe_ix ix_tup (pv 1) pe_int (fun _ _ => rfl)) pk_nil))))))
        (pss_one (ps_expr (pe_mt T.only hr (by decide) (pv 0) (pa_cons (pe_ix ix_tup (pv 1) pe_int (fun _ _ => rfl)) (pa_cons (pe_ix ix_tup (pv 1) pe_int (fun _ _ => rfl)) (pa_cons (pe_ix ix_tup (pv 1) pe_int (fun _ _ => rfl)) pa_nil)))))))))))))), ?_⟩
    obtain ⟨⟨dk, hk⟩, hwd⟩ := id X.kw_
    have W := X.wi i e he
    have nk := X.nk i e he
    have val := X.val he
    cases x with
    | sick l a z =>
      cases (hxl : l = e.l)
      obtain ⟨_, a0, az, z1⟩ := hok
      have go : ∀ Q', (∀ H', Q' .non H' ↔ Q .non H') → spSick C CW [.ref kw, .str (S e.l), .int a, .int z] H Q' E0 := fun Q' hQ' => by
        refine ⟨kw, wd, e.q, e.dx, e.mk', e.ad, e.sd, _, _, 4, e.m, e.kv, e.al, e.sps, a, z, rfl, X.kw_, val, W, by omega, a0, az, z1, fun t ft => (hQ' _).mpr ?_⟩
        refine hQ _ { e with sps := e.sps ++ [((t, a, z) : Spa)] } ⟨rfl, rfl, fun d => rfl, fun d => ?_, fun b hb => .inl hb⟩ (fun b o hb nb => ?_) (X.step he rfl rfl rfl rfl (.inl rfl) ⟨?_, ?_, ?_, W.al_, ?_, ?_⟩ (fun b o hb nb => ?_) (by show e.kv.length ≤ n + 1; omega) (by show (e.sps ++ [((t, a, z) : Spa)]).length ≤ n + 1; simp; omega))
        · show sickOn (e.sps ++ [((t, a, z) : Spa)]) d = _
          rw [sick_app]
          show _ = ((if e.l = e.l ∧ a ≤ d ∧ d ≤ z then some true else some (sickOn e.sps d)) : Option Bool).getD false
          by_cases c : a ≤ d ∧ d ≤ z
          · rw [if_pos ⟨rfl, c⟩]
            simp [sickOn, c]
          · rw [if_neg (fun q => c q.2)]
            simp [sickOn, c]
        · rw [upd_ne (fun q => nb (.inr (.inr q))), upd_ne (ne_of_none hb ft)]
          exact hb
        · rw [upd_ne (ne_of W.at_ W.sp_.1 (by intro z; cases z)), upd_ne (ne_of_none W.at_ ft)]
          exact W.at_
        · rw [upd_ne (ne_of W.mk_ W.sp_.1 (by intro z; cases z)), upd_ne (ne_of_none W.mk_ ft)]
          exact W.mk_
        · rw [upd_ne (ne_of W.ad_ W.sp_.1 (by intro z; cases z)), upd_ne (ne_of_none W.ad_ ft)]
          exact W.ad_
        · exact upd_same
        · intro y hy
          have nts : t ≠ e.sd := (ne_of_none W.sp_.1 ft).symm
          rcases List.mem_append.mp hy with hy | hy
          · rw [upd_ne (ne_of (W.sp_.2 y hy) W.sp_.1 (by intro z; cases z)), upd_ne (ne_of_none (W.sp_.2 y hy) ft)]
            exact W.sp_.2 y hy
          · cases List.mem_singleton.mp hy
            rw [upd_ne nts, upd_same]
        · rw [upd_ne (fun q => nb (.inr (.inr q))), upd_ne (ne_of_none hb ft)]
          exact hb
      refine ⟨_, rfl, tt, _, _, _, rfl, rfl, SqT.of ht, rfl, rfl, _, rfl, ?_⟩
      have e1 : decide (V.str (Str.ofString "sick") = V.str (Str.ofString "sick")) = true := by simp
      rw [e1]
      refine iteT ⟨_, rfl, nm, rfl, ?_⟩
      refine ite2 (fun _ => ?_) (fun _ => ?_)
      · exact ⟨_, rfl, kw, dk, _, rfl, hk, kw_no wd (by decide +kernel), _, rfl, tt, _, _, _, rfl, rfl, SqT.of ht, rfl, _, rfl, tt, _, _, _, rfl, rfl, SqT.of ht, rfl, _, rfl, tt, _, _, _, rfl, rfl, SqT.of ht, rfl, rfl, go _ (fun _ => Iff.rfl)⟩
      · refine ⟨_, rfl, tt, _, _, _, rfl, rfl, SqT.of ht, rfl, rfl, _, rfl, ?_⟩
        rw [e1]
        exact iteT ⟨_, rfl, kw, dk, _, rfl, hk, kw_no wd (by decide +kernel), _, rfl, tt, _, _, _, rfl, rfl, SqT.of ht, rfl, _, rfl, tt, _, _, _, rfl, rfl, SqT.of ht, rfl, _, rfl, tt, _, _, _, rfl, rfl, SqT.of ht, rfl, go _ (fun _ => Iff.rfl)⟩
    | well l c =>
      cases (hxl : l = e.l)
      obtain ⟨_, c0, c1⟩ := hok
      have go : ∀ Q', (∀ H', Q' .non H' ↔ Q .non H') → spWell C CW [.ref kw, .str (S e.l), .int c] H Q' E0 := fun Q' hQ' => by
        refine ⟨kw, wd, e.q, e.dx, e.mk', e.ad, e.sd, _, _, 4, e.m, e.kv, e.al, e.sps, c, rfl, X.kw_, val, W, by omega, c0, c1, fun D sps' H1 s1 fD hD hl hs => (hQ' _).mpr ?_⟩
        have W1 := W.keep s1
        refine hQ _ { e with sd := D, sps := sps' } ⟨rfl, rfl, fun d => rfl, fun d => ?_, fun b hb => ?_⟩ (fun b o hb nb => ?_) (X.step he rfl rfl rfl rfl (.inr fD) ⟨upd_same, ?_, ?_, W.al_, ?_, ?_⟩ (fun b o hb nb => ?_) (by show e.kv.length ≤ n + 1; omega) (by show sps'.length ≤ n + 1; omega))
        · show sickOn sps' d = ((if e.l = e.l ∧ c ≤ d then some false else some (sickOn e.sps d)) : Option Bool).getD false
          rw [hs]
          by_cases h : c ≤ d
          · rw [if_pos ⟨rfl, h⟩, decide_eq_false (by omega)]
            simp
          · rw [if_neg (fun q => h q.2), decide_eq_true (by omega)]
            simp
        · rcases hb with z | z | z
          · exact .inl (.inl z)
          · exact .inl (.inr (.inl z))
          · exact .inr (by rw [z]; exact fD)
        · rw [upd_ne (fun q => nb (.inl q))]
          exact s1 _ _ hb
        · rw [upd_ne (ne_of W1.mk_ W1.at_ (by intro z; cases z))]
          exact W1.mk_
        · rw [upd_ne (ne_of W1.ad_ W1.at_ (by intro z; cases z))]
          exact W1.ad_
        · rw [upd_ne (ne_of hD.1 W1.at_ (by intro z; cases z))]
          exact hD.1
        · intro y hy
          rw [upd_ne (ne_of (hD.2 y hy) W1.at_ (by intro z; cases z))]
          exact hD.2 y hy
        · rw [upd_ne (fun q => nb (.inl q))]
          exact s1 _ _ hb
      have e1 : decide (V.str (Str.ofString "well") = V.str (Str.ofString "sick")) = false := by simp [w_sw]
      have e2 : decide (V.str (Str.ofString "well") = V.str (Str.ofString "well")) = true := by simp
      refine ⟨_, rfl, tt, _, _, _, rfl, rfl, SqT.of ht, rfl, rfl, _, rfl, ?_⟩
      rw [e1]
      refine iteF (iteF ?_)
      refine ⟨_, rfl, tt, _, _, _, rfl, rfl, SqT.of ht, rfl, rfl, _, rfl, ?_⟩
      rw [e1]
      refine iteF ⟨_, rfl, tt, _, _, _, rfl, rfl, SqT.of ht, rfl, rfl, _, rfl, ?_⟩
      rw [e2]
      refine iteT ⟨_, rfl, nm, rfl, ?_⟩
      refine ite2 (fun _ => ?_) (fun _ => ?_)
      · exact ⟨_, rfl, kw, dk, _, rfl, hk, kw_no wd (by decide +kernel), _, rfl, tt, _, _, _, rfl, rfl, SqT.of ht, rfl, _, rfl, tt, _, _, _, rfl, rfl, SqT.of ht, rfl, rfl, go _ (fun _ => Iff.rfl)⟩
      · exact ⟨_, rfl, kw, dk, _, rfl, hk, kw_no wd (by decide +kernel), _, rfl, tt, _, _, _, rfl, rfl, SqT.of ht, rfl, _, rfl, tt, _, _, _, rfl, rfl, SqT.of ht, rfl, go _ (fun _ => Iff.rfl)⟩
    | only l c b =>
      cases (hxl : l = e.l)
      obtain ⟨_, c0, c1⟩ := hok
      have go : ∀ Q', (∀ H', Q' .non H' ↔ Q .non H') → spOnly C CW [.ref kw, .str (S e.l), .int c, .bl b] H Q' E0 := fun Q' hQ' => by
        refine ⟨kw, wd, e.q, e.dx, e.mk', e.ad, e.sd, _, _, 4, e.m, e.kv, e.al, e.sps, c, b, rfl, X.kw_, val, W, by omega, c0, c1, (hQ' _).mpr ?_⟩
        refine hQ _ { e with kv := putK e.kv (Sum.inl c) (.bl b), al := fun t => if t = c then some b else e.al t } ⟨rfl, rfl, fun d => ?_, fun d => rfl, fun b hb => .inl hb⟩ (fun a o hb nb => ?_) (X.step he rfl rfl rfl rfl (.inl rfl) ⟨?_, ?_, upd_same, al_put W.al_ c b, ?_, ?_⟩ (fun a o hb nb => ?_) (by show (putK e.kv (Sum.inl c) (.bl b)).length ≤ n + 1; have := putK_len e.kv (Sum.inl c) (.bl b); omega) (by show e.sps.length ≤ n + 1; omega))
        · show (if d = c then some b else e.al d) = if e.l = e.l ∧ c = d then some b else e.al d
          by_cases h : d = c
          · rw [if_pos h, if_pos ⟨rfl, h.symm⟩]
          · rw [if_neg h, if_neg (fun q => h q.2.symm)]
        · rw [upd_ne (fun q => nb (.inr (.inl q)))]
          exact hb
        · rw [upd_ne (ne_of W.at_ W.ad_ (by intro z; cases z))]
          exact W.at_
        · rw [upd_ne (X.mw i e he).1]
          exact W.mk_
        · rw [upd_ne (ne_of W.sp_.1 W.ad_ (by intro z; cases z))]
          exact W.sp_.1
        · intro y hy
          rw [upd_ne (ne_of (W.sp_.2 y hy) W.ad_ (by intro z; cases z))]
          exact W.sp_.2 y hy
        · rw [upd_ne (fun q => nb (.inr (.inl q)))]
          exact hb
      have e1 : decide (V.str (Str.ofString "only") = V.str (Str.ofString "sick")) = false := by simp [w_so]
      have e2 : decide (V.str (Str.ofString "only") = V.str (Str.ofString "well")) = false := by simp [w_ow]
      refine ⟨_, rfl, tt, _, _, _, rfl, rfl, SqT.of ht, rfl, rfl, _, rfl, ?_⟩
      rw [e1]
      refine iteF (iteF ?_)
      refine ⟨_, rfl, tt, _, _, _, rfl, rfl, SqT.of ht, rfl, rfl, _, rfl, ?_⟩
      rw [e1]
      refine iteF ⟨_, rfl, tt, _, _, _, rfl, rfl, SqT.of ht, rfl, rfl, _, rfl, ?_⟩
      rw [e2]
      refine iteF ⟨_, rfl, nm, rfl, ?_⟩
      refine ite2 (fun _ => ?_) (fun _ => ?_)
      · exact ⟨_, rfl, kw, dk, _, rfl, hk, kw_no wd (by decide +kernel), _, rfl, tt, _, _, _, rfl, rfl, SqT.of ht, rfl, _, rfl, tt, _, _, _, rfl, rfl, SqT.of ht, rfl, _, rfl, tt, _, _, _, rfl, rfl, SqT.of ht, rfl, rfl, go _ (fun _ => Iff.rfl)⟩
      · exact ⟨_, rfl, kw, dk, _, rfl, hk, kw_no wd (by decide +kernel), _, rfl, tt, _, _, _, rfl, rfl, SqT.of ht, rfl, _, rfl, tt, _, _, _, rfl, rfl, SqT.of ht, rfl, _, rfl, tt, _, _, _, rfl, rfl, SqT.of ht, rfl, go _ (fun _ => Iff.rfl)⟩
end
end K12
set_option Elab.async false
set_option linter.all false
set_option maxRecDepth 100000
set_option maxHeartbeats 4000000
namespace K12
open PySem PySem.Spec PyProof.Rows L2
open C8 (Cal Mak Met pe_c pe_mk pe_mt pe_mt0)
open SX (S)
/-- what holds between the law's statements: lists ls that nobody writes, turns ts, who entered -/
structure LI (C CW p kw wd md : Addr) (c n : Nat) (ls : List (Addr × List V)) (ts : List (Addr × Tn)) (es : List En) (H : Hp) : Prop where
  pen : Pen H p c
  ls_ : ∀ x ∈ ls, H x.1 = some (.lst x.2) ∧ x.1 ≠ p ∧ ∀ (i : Nat) (e : En), es[i]? = some e → x.1 ≠ e.sd
  ws : WS C CW H kw wd n es
  md_ : ∃ kvm, H md = some (.dK kvm) ∧ kvm.length ≤ 16 ∧ ∀ (i : Nat) (e : En), es[i]? = some e → valV kvm (Sum.inr (S e.l)) = some (.int (e.m : Nat)) ∧ md ≠ e.ad
  off : ∀ (i : Nat) (e : En), es[i]? = some e → Off p e.sd H
  tp : ∀ x ∈ ts, H x.1 = some (.tup x.2.v)
theorem LI.kp {C CW p kw wd md : Addr} {c c' n : Nat} {ls : List (Addr × List V)} {ts : List (Addr × Tn)} {es : List En} {H H' : Hp} (x : LI C CW p kw wd md c n ls ts es H) (k : Kp p H H') (pn : Pen H' p c') : LI C CW p kw wd md c' n ls ts es H' := by
  obtain ⟨l0, ns, a, b, hp, _⟩ := id x.pen
  have nl : ∀ {b : Addr} {o : HO}, H b = some o → (∀ ys, o ≠ .lst ys) → b ≠ p := fun {b o} e h => ne_of e hp (h _)
  refine ⟨pn, fun y hy => ?_, x.ws.stay fun b o e h => ?_, ?_, fun i e h => (x.off i e h).kp k, fun y hy => k.1 _ _ (x.tp y hy) (nl (x.tp y hy) fun _ z => by cases z)⟩
  · obtain ⟨h1, h2, h3⟩ := x.ls_ y hy
    exact ⟨k.1 _ _ h1 h2, h2, h3⟩
  · refine k.1 _ _ e ?_
    rcases h with h | ⟨i, y, hy, rfl⟩
    · exact nl e h
    · exact (x.off i y hy).ne
  · obtain ⟨kvm, h1, h2, h3⟩ := x.md_
    exact ⟨kvm, k.1 _ _ h1 (nl h1 fun _ z => by cases z), h2, h3⟩
theorem LI.same {C CW p kw wd md : Addr} {c n : Nat} {ls : List (Addr × List V)} {ts : List (Addr × Tn)} {es : List En} {H H' : Hp} (x : LI C CW p kw wd md c n ls ts es H) (k : Same H H') : LI C CW p kw wd md c n ls ts es H' := x.kp (Kp.same k) (x.pen.same k)
theorem LI.weak {C CW p kw wd md : Addr} {c c' n : Nat} {ls : List (Addr × List V)} {ts : List (Addr × Tn)} {es : List En} {H : Hp} (x : LI C CW p kw wd md c n ls ts es H) (h : c' ≤ c) : LI C CW p kw wd md c' n ls ts es H := x.kp (Kp.refl p H) (x.pen.weak h)
/-- a new list -/
theorem LI.new {C CW p kw wd md b : Addr} {c n : Nat} {ls : List (Addr × List V)} {ts : List (Addr × Tn)} {es : List En} {H : Hp} {ys : List V} (x : LI C CW p kw wd md c n ls ts es H) (f : H b = none) : LI C CW p kw wd md c n ((b, ys) :: ls) ts es (upd H b (.lst ys)) := by
  have y := x.same (same_new (o := .lst ys) f)
  refine ⟨y.pen, fun z hz => ?_, y.ws, y.md_, y.off, y.tp⟩
  rcases List.mem_cons.mp hz with rfl | hz
  · exact ⟨upd_same, x.pen.ne_new f, fun i e h => (ne_of_none (x.ws.wi i e h).sp_.1 f).symm⟩
  · exact y.ls_ z hz
/-- a list that is there -/
theorem LI.add {C CW p kw wd md b : Addr} {c n : Nat} {ls : List (Addr × List V)} {ts : List (Addr × Tn)} {es : List En} {H0 H : Hp} {ys : List V} (x0 : LI C CW p kw wd md c n ls ts es H0) {c' : Nat} (x : LI C CW p kw wd md c' n ls ts es H) (f : H0 b = none) (e : H b = some (.lst ys)) : LI C CW p kw wd md c' n ((b, ys) :: ls) ts es H := by
  refine ⟨x.pen, fun z hz => ?_, x.ws, x.md_, x.off, x.tp⟩
  rcases List.mem_cons.mp hz with rfl | hz
  · exact ⟨e, x0.pen.ne_new f, fun i e h => (ne_of_none (x0.ws.wi i e h).sp_.1 f).symm⟩
  · exact x.ls_ z hz
theorem LI.ts' {C CW p kw wd md : Addr} {c n : Nat} {ls : List (Addr × List V)} {ts ts' : List (Addr × Tn)} {es : List En} {H : Hp} (x : LI C CW p kw wd md c n ls ts es H) (h : ∀ y ∈ ts', H y.1 = some (.tup y.2.v)) : LI C CW p kw wd md c n ls ts' es H := ⟨x.pen, x.ls_, x.ws, x.md_, x.off, h⟩
theorem LI.drop {C CW p kw wd md : Addr} {c n : Nat} {y : Addr × List V} {ls : List (Addr × List V)} {ts : List (Addr × Tn)} {es : List En} {H : Hp} (x : LI C CW p kw wd md c n (y :: ls) ts es H) : LI C CW p kw wd md c n ls ts es H := ⟨x.pen, fun z hz => x.ls_ z (List.mem_cons_of_mem _ hz), x.ws, x.md_, x.off, x.tp⟩
/-- the first of the lists is written -/
theorem LI.put {C CW p kw wd md b : Addr} {c n : Nat} {ys ys' : List V} {ls : List (Addr × List V)} {ts : List (Addr × Tn)} {es : List En} {H : Hp} (x : LI C CW p kw wd md c n ((b, ys) :: ls) ts es H) (oB : Off p b H) (nb : ∀ z ∈ ls, z.1 ≠ b) : LI C CW p kw wd md c n ((b, ys') :: ls) ts es (upd H b (.lst ys')) ∧ Off p b (upd H b (.lst ys')) := by
  obtain ⟨hb, nbp, nbs⟩ := x.ls_ (b, ys) (List.mem_cons_self ..)
  have nl : ∀ {a : Addr} {o : HO}, H a = some o → (∀ ys, o ≠ .lst ys) → a ≠ b := fun {a o} e h => ne_of e hb (h _)
  refine ⟨⟨x.pen.put oB, fun z hz => ?_, x.ws.stay fun a o e h => ?_, ?_, fun i e h => (x.off i e h).put nbp.symm, fun y hy => ?_⟩, oB.put nbp.symm⟩
  · rcases List.mem_cons.mp hz with rfl | hz'
    · exact ⟨upd_same, nbp, nbs⟩
    · obtain ⟨h1, h2, h3⟩ := x.ls_ z (List.mem_cons_of_mem _ hz')
      exact ⟨by rw [upd_ne (nb z hz')]; exact h1, h2, h3⟩
  · rw [upd_ne]
    · exact e
    · rcases h with h | ⟨i, y, hy, rfl⟩
      · exact nl e h
      · exact (nbs i y hy).symm
  · obtain ⟨kvm, h1, h2, h3⟩ := x.md_
    exact ⟨kvm, by rw [upd_ne (nl h1 fun _ z => by cases z)]; exact h1, h2, h3⟩
  · rw [upd_ne (nl (x.tp y hy) fun _ z => by cases z)]
    exact x.tp y hy
/-- a turn is told to Wants -/
theorem LI.told {C CW p kw wd md : Addr} {c n i : Nat} {ls : List (Addr × List V)} {ts : List (Addr × Tn)} {es : List En} {H H' : Hp} {e e' : En} {x : Tn} (y : LI C CW p kw wd md c n ls ts es H) (he : es[i]? = some e) (g : Gone H x e e') (fr : ∀ b o, H b = some o → ¬ e.has b → H' b = some o) (ws : WS C CW H' kw wd (n + 1) (es.set i e')) :
    LI C CW p kw wd md c (n + 1) ls ts (es.set i e') H' := by
  have W := y.ws.wi i e he
  have il := (List.getElem?_eq_some_iff.mp he).1
  have get : ∀ (j : Nat) (b : En), (es.set i e')[j]? = some b → (j = i ∧ b = e') ∨ (j ≠ i ∧ es[j]? = some b) := fun j b hb => by
    by_cases c : j = i
    · rw [c, List.getElem?_set_self il] at hb
      exact .inl ⟨c, (Option.some.inj hb).symm⟩
    · rw [List.getElem?_set_ne (fun z => c z.symm)] at hb
      exact .inr ⟨c, hb⟩
  have nl : ∀ {b : Addr} {ys : List V}, H b = some (.lst ys) → b ≠ e.sd → ¬ e.has b := fun {b ys} h n => by
    rintro (z | z | z)
    · exact ne_of h W.at_ (by intro z; cases z) z
    · exact ne_of h W.ad_ (by intro z; cases z) z
    · exact n z
  have new : ∀ {b : Addr} {o : HO}, H b = some o → ¬ e.has b → ¬ e'.has b := fun {b o} h n z => by
    rcases g.ha b z with q | q
    · exact n q
    · rw [q] at h
      cases h
  obtain ⟨la, pns, pa, pb, hp, hla, nlp, p0, p1⟩ := id y.pen
  have o1 : p ≠ e.sd := (y.off i e he).ne.symm
  have o2 : la ≠ e.sd := by
    obtain ⟨la', n', m', h1, h2, _⟩ := y.off i e he
    rw [pen_inj (Option.some.inj (hp.symm.trans h1))]
    exact h2
  have hp' := fr _ _ hp (nl hp o1)
  have hla' := fr _ _ hla (nl hla o2)
  refine ⟨⟨la, pns, pa, pb, hp', hla', nlp, p0, p1⟩, fun z hz => ?_, ws, ?_, fun j b hb => ?_, fun z hz => ?_⟩
  · obtain ⟨h1, h2, h3⟩ := y.ls_ z hz
    have nz := nl h1 (h3 i e he)
    refine ⟨fr _ _ h1 nz, h2, fun j b hb => ?_⟩
    rcases get j b hb with ⟨rfl, rfl⟩ | ⟨_, hb⟩
    · exact fun q => new h1 nz (.inr (.inr q))
    · exact h3 j b hb
  · obtain ⟨kvm, h1, h2, h3⟩ := y.md_
    have nm : ¬ e.has md := by
      rintro (z | z | z)
      · exact ne_of h1 W.at_ (by intro z; cases z) z
      · exact (h3 i e he).2 z
      · exact ne_of h1 W.sp_.1 (by intro z; cases z) z
    refine ⟨kvm, fr _ _ h1 nm, h2, fun j b hb => ?_⟩
    rcases get j b hb with ⟨rfl, rfl⟩ | ⟨_, hb⟩
    · rw [g.l, g.m]
      exact ⟨(h3 j e he).1, fun q => new h1 nm (.inr (.inl q))⟩
    · exact h3 j b hb
  · rcases get j b hb with ⟨rfl, rfl⟩ | ⟨_, hb⟩
    · exact ⟨la, pa, pb, hp', fun q => new hla (nl hla o2) (.inr (.inr q)), fun q => new hp (nl hp o1) (.inr (.inr q))⟩
    · obtain ⟨la', n', m', h1, h2, h3⟩ := y.off j b hb
      rw [pen_inj (Option.some.inj (h1.symm.trans hp))] at h2
      exact ⟨la, pa, pb, hp', h2, h3⟩
  · refine fr _ _ (y.tp z hz) ?_
    rintro (q | q | q)
    · exact ne_of (y.tp z hz) W.at_ (by intro z; cases z) q
    · exact ne_of (y.tp z hz) W.ad_ (by intro z; cases z) q
    · exact ne_of (y.tp z hz) W.sp_.1 (by intro z; cases z) q
/-- what is told of each -/
def Sem (es : List En) (tk : List Tn) : Prop := ∀ (i : Nat) (e : En), es[i]? = some e → ∀ d, e.al d = aloneF e.l tk d ∧ sickOn e.sps d = (sickF e.l tk d).getD false
theorem sick_get (l : List Nat) (d : Int) (o : Option Bool) (x : Tn) : (sickS l d o x).getD false = (sickS l d (some (o.getD false)) x).getD false := by
  cases x <;> simp only [sickS]
  · split <;> rfl
  · split <;> rfl
  · rfl
theorem sick_other {l : List Nat} {d : Int} {o : Option Bool} {x : Tn} (h : x.l ≠ l) : sickS l d o x = o := by
  cases x with
  | sick l' a z => exact if_neg (fun q => h q.1)
  | well l' c => exact if_neg (fun q => h q.1)
  | only l' c b => rfl
theorem alone_other {l : List Nat} {d : Int} {o : Option Bool} {x : Tn} (h : x.l ≠ l) : aloneS l d o x = o := by
  cases x with
  | sick l' a z => rfl
  | well l' c => rfl
  | only l' c b => exact if_neg (fun q => h q.1)
theorem Sem.step {C CW kw wd : Addr} {H H0 : Hp} {n i : Nat} {es : List En} {e e' : En} {tk : List Tn} {x : Tn} (s : Sem es tk) (ws : WS C CW H kw wd n es) (he : es[i]? = some e) (hx : x.l = e.l) (g : Gone H0 x e e') : Sem (es.set i e') (tk ++ [x]) := by
  have il := (List.getElem?_eq_some_iff.mp he).1
  intro j b hb d
  have a1 : aloneF b.l (tk ++ [x]) d = aloneS b.l d (aloneF b.l tk d) x := by unfold aloneF; rw [List.foldl_append]; rfl
  have s1 : sickF b.l (tk ++ [x]) d = sickS b.l d (sickF b.l tk d) x := by unfold sickF; rw [List.foldl_append]; rfl
  rw [a1, s1]
  by_cases c : j = i
  · rw [c, List.getElem?_set_self il] at hb
    cases (Option.some.inj hb)
    have := s i e he d
    refine ⟨by rw [g.al, this.1, g.l], ?_⟩
    rw [g.sk, this.2, g.l, sick_get e.l d (sickF e.l tk d)]
  · rw [List.getElem?_set_ne (fun z => c z.symm)] at hb
    have nl : x.l ≠ b.l := by
      rw [hx]
      exact (ws.ap i j e b he hb (fun z => c z.symm)).1
    have := s j b hb d
    rw [alone_other nl, sick_other nl]
    exact this
end K12
set_option Elab.async false
set_option linter.all false
set_option maxRecDepth 100000
set_option maxHeartbeats 4000000
namespace K12
open PySem PySem.Spec PyProof.Rows L2
open C8 (Cal Mak Met pe_c pe_mk pe_mt pe_mt0)
open SX (S)
/-- the dict of masks is written -/
theorem LI.mask {C CW p kw wd md : Addr} {c n : Nat} {ls : List (Addr × List V)} {ts : List (Addr × Tn)} {es : List En} {H : Hp} {kvm : List (Key × V)} {z : List Nat} {v : V} (x : LI C CW p kw wd md c n ls ts es H) (hm : H md = some (.dK kvm)) (len : kvm.length < 16) (nw : md ≠ wd)
    (nk : ∀ (i : Nat) (e : En), es[i]? = some e → md ≠ e.mk') (nz : ∀ (i : Nat) (e : En), es[i]? = some e → e.l ≠ z) : LI C CW p kw wd md c n ls ts es (upd H md (.dK (putK kvm (Sum.inr (S z)) v))) := by
  have nl : ∀ {b : Addr} {o : HO}, H b = some o → o ≠ .dK kvm → b ≠ md := fun {b o} e h => ne_of e hm h
  obtain ⟨kvm', h1, h2, h3⟩ := x.md_
  cases Option.some.inj (hm.symm.trans h1)
  obtain ⟨la, pns, pa, pb, hp, hla, p3⟩ := id x.pen
  refine ⟨⟨la, pns, pa, pb, by rw [upd_ne (nl hp (by intro z; cases z))]; exact hp, by rw [upd_ne (nl hla (by intro z; cases z))]; exact hla, p3⟩, fun y hy => ?_, ?_, ⟨_, upd_same, ?_, fun i e h => ⟨?_, (h3 i e h).2⟩⟩, fun i e h => ?_, fun y hy => ?_⟩
  · obtain ⟨a1, a2, a3⟩ := x.ls_ y hy
    exact ⟨by rw [upd_ne (nl a1 (by intro z; cases z))]; exact a1, a2, a3⟩
  · obtain ⟨⟨dk, hk⟩, hwd⟩ := x.ws.kw_
    refine ⟨⟨⟨dk, by rw [upd_ne (nl hk (by intro z; cases z))]; exact hk⟩, by rw [upd_ne nw.symm]; exact hwd⟩, fun i e h => ?_, x.ws.nk, x.ws.ap, x.ws.mw⟩
    have W := x.ws.wi i e h
    refine ⟨by rw [upd_ne (nl W.at_ (by intro z; cases z))]; exact W.at_, by rw [upd_ne (nk i e h).symm]; exact W.mk_, by rw [upd_ne (h3 i e h).2.symm]; exact W.ad_, W.al_, by rw [upd_ne (nl W.sp_.1 (by intro z; cases z))]; exact W.sp_.1, fun y hy => by rw [upd_ne (nl (W.sp_.2 y hy) (by intro z; cases z))]; exact W.sp_.2 y hy⟩
  · have := putK_len kvm (Sum.inr (S z)) v
    omega
  · rw [valV_put, if_neg (fun q => nz i e h (SX.S_inj (Sum.inr.inj q)))]
    exact (h3 i e h).1
  · exact (x.off i e h).put (nl hp (by intro z; cases z))
  · rw [upd_ne (nl (x.tp y hy) (by intro z; cases z))]
    exact x.tp y hy
theorem get_app {es : List En} {e' : En} {j : Nat} {b : En} (h : (es ++ [e'])[j]? = some b) : (j = es.length ∧ b = e') ∨ (j < es.length ∧ es[j]? = some b) := by
  by_cases c : j < es.length
  · rw [List.getElem?_append_left c] at h
    exact .inr ⟨c, h⟩
  · rw [List.getElem?_append_right (by omega)] at h
    have c0 : j - es.length = 0 := by
      have := (List.getElem?_eq_some_iff.mp h).1
      simp at this
      omega
    rw [c0] at h
    exact .inl ⟨by omega, (Option.some.inj h).symm⟩
/-- one more enters -/
theorem LI.enter {C CW p kw wd md q dx mk ad sd : Addr} {c n : Nat} {ls : List (Addr × List V)} {ts : List (Addr × Tn)} {es : List En} {H H' : Hp} {z : List Nat} {m : Nat} (x : LI C CW p kw wd md c n ls ts es H) (nw : md ≠ wd)
    (nk : ∀ (i : Nat) (e : En), es[i]? = some e → e.mk' ≠ wd) (nz : ∀ (i : Nat) (e : En), es[i]? = some e → e.l ≠ z) (hv : ∀ kvm, H md = some (.dK kvm) → valV kvm (Sum.inr (S z)) = some (.int m))
    (fq : H q = none) (fmk : H mk = none) (fad : H ad = none) (fsd : H sd = none) (n1 : mk ≠ ad) (n3 : ad ≠ wd) (k : ∀ b o, b ≠ wd → H b = some o → H' b = some o) (hwd' : H' wd = some (.dK (putK (es.map En.kq) (Sum.inr (S z)) (.ref q))))
    (hq : H' q = some (.ins CW dx (wiF 4 mk ad sd))) (hmk : H' mk = some (.dK [(Sum.inl 0, .int m)])) (had : H' ad = some (.dK [])) (hsd : H' sd = some (.lst [])) :
    LI C CW p kw wd md c n ls ts (es ++ [⟨z, q, dx, mk, ad, sd, m, [], fun _ => none, []⟩]) H' := by
  obtain ⟨⟨dk, hk⟩, hwd⟩ := x.ws.kw_
  have nl : ∀ {b : Addr} {o : HO}, H b = some o → o ≠ .dK (es.map En.kq) → b ≠ wd := fun {b o} e h => ne_of e hwd h
  obtain ⟨kvm, h1, h2, h3⟩ := x.md_
  obtain ⟨la, pns, pa, pb, hp, hla, p3⟩ := id x.pen
  have hp' := k _ _ (nl hp (by intro z; cases z)) hp
  have hla' := k _ _ (nl hla (by intro z; cases z)) hla
  have noV : valV (es.map En.kq) (Sum.inr (S z)) = none := by
    cases e : valV (es.map En.kq) (Sum.inr (S z)) with
    | none => rfl
    | some v =>
      obtain ⟨y, hy, hy2⟩ := List.mem_map.mp (valV_in e)
      obtain ⟨e0, he0, rfl⟩ := List.mem_map.mp hy
      obtain ⟨i, hi, hi2⟩ := List.getElem_of_mem he0
      exact absurd (SX.S_inj (Sum.inr.inj hy2)) (nz i e0 (by rw [List.getElem?_eq_getElem hi, hi2]))
  refine ⟨⟨la, pns, pa, pb, hp', hla', p3⟩, fun y hy => ?_, ⟨?_, fun j b hb => ?_, fun j b hb => ?_, fun i j a b ha hb hij => ?_, fun j b hb => ?_⟩, ⟨kvm, k _ _ nw h1, h2, fun j b hb => ?_⟩, fun j b hb => ?_, fun y hy => ?_⟩
  · obtain ⟨a1, a2, a3⟩ := x.ls_ y hy
    refine ⟨k _ _ (nl a1 (by intro z; cases z)) a1, a2, fun j b hb => ?_⟩
    rcases get_app hb with ⟨_, rfl⟩ | ⟨_, hb⟩
    · exact ne_of_none a1 fsd
    · exact a3 j b hb
  · refine ⟨⟨dk, k _ _ (nl hk (by intro z; cases z)) hk⟩, ?_⟩
    rw [hwd', putK_new _ noV, List.map_append]
    rfl
  · rcases get_app hb with ⟨_, rfl⟩ | ⟨_, hb⟩
    · exact ⟨hq, hmk, had, fun _ => rfl, hsd, fun y hy => nomatch hy⟩
    · have W := x.ws.wi j b hb
      exact ⟨k _ _ (nl W.at_ (by intro z; cases z)) W.at_, k _ _ (nk j b hb) W.mk_, k _ _ (x.ws.mw j b hb).2 W.ad_, W.al_, k _ _ (nl W.sp_.1 (by intro z; cases z)) W.sp_.1, fun y hy => k _ _ (nl (W.sp_.2 y hy) (by intro z; cases z)) (W.sp_.2 y hy)⟩
  · rcases get_app hb with ⟨_, rfl⟩ | ⟨_, hb⟩
    · exact ⟨Nat.zero_le _, Nat.zero_le _⟩
    · exact x.ws.nk j b hb
  · rcases get_app ha with ⟨ei, rfl⟩ | ⟨_, ha⟩
    · rcases get_app hb with ⟨ej, rfl⟩ | ⟨_, hb⟩
      · omega
      · have W := x.ws.wi j b hb
        exact ⟨fun q => nz j b hb q.symm, (ne_of_none W.at_ fq).symm, (ne_of_none W.ad_ fad).symm, (ne_of_none W.sp_.1 fsd).symm, (ne_of_none W.ad_ fmk).symm⟩
    · have W := x.ws.wi i a ha
      rcases get_app hb with ⟨ej, rfl⟩ | ⟨_, hb⟩
      · exact ⟨nz i a ha, ne_of_none W.at_ fq, ne_of_none W.ad_ fad, ne_of_none W.sp_.1 fsd, ne_of_none W.mk_ fad⟩
      · exact x.ws.ap i j a b ha hb hij
  · rcases get_app hb with ⟨_, rfl⟩ | ⟨_, hb⟩
    · exact ⟨n1, n3⟩
    · exact x.ws.mw j b hb
  · rcases get_app hb with ⟨_, rfl⟩ | ⟨_, hb⟩
    · exact ⟨hv kvm h1, ne_of_none h1 fad⟩
    · exact h3 j b hb
  · rcases get_app hb with ⟨_, rfl⟩ | ⟨_, hb⟩
    · exact ⟨la, pa, pb, hp', ne_of_none hla fsd, ne_of_none hp fsd⟩
    · obtain ⟨la', n', m', e1, e2, e3⟩ := x.off j b hb
      rw [pen_inj (Option.some.inj (e1.symm.trans hp))] at e2
      exact ⟨la, pa, pb, hp', e2, e3⟩
  · exact k _ _ (nl (x.tp y hy) (by intro z; cases z)) (x.tp y hy)
end K12
set_option Elab.async false
set_option linter.all false
set_option maxRecDepth 100000
set_option maxHeartbeats 4000000
/-! LR: list(range(a, b)). -/
namespace LR
open PySem PySem.Spec PyProof.Rows L2
def rLR : List V → Hp → VK → Prop := fun xs H Q => ∃ (p : Addr) (lo : Int) (n : Nat), xs = [.ref p] ∧ H p = some (.rng lo (lo + n)) ∧ n ≤ 10000 ∧ -(2 ^ 60) ≤ lo ∧ lo ≤ 2 ^ 60 ∧ ∀ l, H l = none → Q (.ref l) (upd H l (.lst ((List.range n).map fun i => V.int (lo + (i : Nat)))))
theorem call_list_rng {X : Cx} (hc : X.calm = true) : CallR X (.type "list") rLR := by
  intro pins s σ H xs us Q I r h
  obtain ⟨p, lo, n, rfl, hp, hn, l0, l1, q⟩ := h
  obtain ⟨u, rfl, rx⟩ := vals1 r
  obtain rfl : u = Value.ref p := rx
  obtain ⟨t, u, v, hr⟩ := (show ObjOk X.prog X.w H s.heap p (.rng lo (lo + n)) from I.hok p _ hp)
  have hs : Builtin.Range.small lo (lo + n) 1 = true := PySem.small_one (by omega) (by omega) (by omega) (by omega)
  have hz : Builtin.Range.rangeSize lo (lo + n) 1 = n := by
    unfold Builtin.Range.rangeSize
    simp
    omega
  refine PySem.call_list_range (I.ok.hd hc) hr hs hz (by omega) fun h' tk acc c' hk hS hi => ?_
  refine ⟨.ref s.heap.objs.size, upd H s.heap.objs.size (.lst ((List.range n).map fun i => V.int (lo + (i : Nat)))), I.laid hk (Nat.le_refl _) (show ObjOk X.prog X.w _ _ _ (.lst ((List.range n).map fun i => V.int (lo + (i : Nat)))) from ⟨?_, acc.toList, c', ?_, ?_⟩), rfl, q _ (I.hok.fresh (Nat.le_refl _))⟩
  · rw [List.length_map, List.length_range]
    exact Nat.le_trans hn (by decide)
  · refine vals_of_at ?_ fun j x w h1 h2 => ?_
    · rw [List.length_map, List.length_range, Array.length_toList, hi.1]
    · have hj : j < n := by
        have := (List.getElem?_eq_some_iff.mp h1).1
        rw [List.length_map, List.length_range] at this
        exact this
      rw [List.getElem?_map, List.getElem?_range hj] at h1
      cases h1
      obtain ⟨t', e⟩ := hi.2 j w (by rw [← Array.getElem?_toList]; exact h2)
      exact ⟨t', by rw [e, Int.mul_one]⟩
  · rw [Array.toArray_toList]
    exact hS
end LR
set_option Elab.async false
set_option linter.all false
set_option maxRecDepth 100000
set_option maxHeartbeats 4000000
namespace K12
open PySem PySem.Spec PyProof.Rows L2
open C8 (Cal Mak Met pe_c pe_mk pe_mt pe_mt0)
open SX (S)
theorem pw2 (k : Nat) (h : k < 7) : atI [V.int 1, .int 2, .int 4, .int 8, .int 16, .int 32, .int 64] (k : Int) = some (.int ((2 ^ k : Nat) : Int)) := by
  match k, h with
  | 0, _ => rfl
  | 1, _ => rfl
  | 2, _ => rfl
  | 3, _ => rfl
  | 4, _ => rfl
  | 5, _ => rfl
  | 6, _ => rfl
/-- who entered, by the names -/
structure En0 (md wd : Addr) (zs : List (List Nat)) (es : List En) : Prop where
  nm : es.map (·.l) = zs
  st : ∀ (i : Nat) (e : En), es[i]? = some e → e.al = (fun _ => none) ∧ e.sps = [] ∧ md ≠ e.mk' ∧ e.mk' ≠ wd
theorem En0.sem {md wd : Addr} {zs : List (List Nat)} {es : List En} (x : En0 md wd zs es) : Sem es [] := fun i e h d => by
  obtain ⟨h1, h2, _⟩ := x.st i e h
  rw [h1, h2]
  exact ⟨rfl, rfl⟩
theorem name_at {es : List En} {zs : List (List Nat)} {z : List Nat} (h : es.map (·.l) = zs) (hz : z ∈ zs) : ∃ (i : Nat) (e : En), es[i]? = some e ∧ e.l = z := by
  rw [← h] at hz
  obtain ⟨e, he, rfl⟩ := List.mem_map.mp hz
  obtain ⟨i, hi, hi2⟩ := List.getElem_of_mem he
  exact ⟨i, e, by rw [List.getElem?_eq_getElem hi, hi2], rfl⟩
theorem name_ne {es : List En} {zs : List (List Nat)} {j i : Nat} {z : List Nat} {e : En} (h : es.map (·.l) = zs.take j) (pz : zs.Pairwise (· ≠ ·)) (hz : zs[j]? = some z) (he : es[i]? = some e) : e.l ≠ z := by
  have h1 : (es.map (·.l))[i]? = some e.l := by rw [List.getElem?_map, he]; rfl
  rw [h] at h1
  obtain ⟨hi, hi2⟩ := List.getElem?_eq_some_iff.mp h1
  obtain ⟨hj, hj2⟩ := List.getElem?_eq_some_iff.mp hz
  rw [List.length_take] at hi
  rw [List.getElem_take] at hi2
  rw [← hi2, ← hj2]
  exact List.pairwise_iff_getElem.mp pz i j (by omega) hj (by omega)
theorem map_setl {es : List En} {i : Nat} {e e' : En} (h : es[i]? = some e) (hl : e'.l = e.l) : (es.set i e').map (·.l) = es.map (·.l) := by
  rw [List.map_set, hl]
  have h1 : (es.map (·.l))[i]? = some e.l := by rw [List.getElem?_map, h]; rfl
  obtain ⟨hl, he⟩ := List.getElem?_eq_some_iff.mp h1
  rw [← he]
  exact List.set_getElem_self hl
/-- how many turns are told behind the first i halves -/
def cutN (n : Nat) : Nat → Nat
  | 0 => 0
  | 1 => n / 2
  | _ => n
theorem cut_seg {ts : List (Addr × Tn)} {lo hi : Nat} (h : lo ≤ hi) (h2 : hi ≤ ts.length) : cutV (ts.map fun x => V.ref x.1) (some (lo : Int)) (some (hi : Int)) = ((ts.drop lo).take (hi - lo)).map fun x => V.ref x.1 := by
  unfold cutV
  rw [HT.sIx_nat, HT.sIx_nat, List.length_map, Nat.min_eq_left h2, Nat.min_eq_left (Nat.le_trans h h2), List.map_take, List.map_drop]
theorem cut_upto {ts : List (Addr × Tn)} {hi : Nat} (h2 : hi ≤ ts.length) : cutV (ts.map fun x => V.ref x.1) none (some (hi : Int)) = (ts.take hi).map fun x => V.ref x.1 := by
  unfold cutV
  rw [HT.sIx_nat, HT.sIx_none, List.length_map, Nat.min_eq_left h2, List.map_take]
  rfl
theorem due_eq (m k : Nat) : decide (V.int ((m : Int) / ((2 ^ k : Nat) : Int) % 2) = V.int 1) = decide (m / 2 ^ k % 2 = 1) := by
  refine decide_eq_decide.mpr ⟨fun h => ?_, fun h => ?_⟩
  · have h1 := V.int.inj h
    exact_mod_cast h1
  · congr 1
    exact_mod_cast h
section
variable {P : Program} {w : World} {K : PySem.W.Frag} {mg : Str → Option Value} {base : Heap} {f C CW CP fK : Addr} {fd fdK : FuncData}
def spLaw (K : PySem.W.Frag) : Sp := fun vs H Q _ => ∃ (a : Addr) (ns : List Int), vs = [.ref a] ∧ SqL K H a (ns.map V.int) ∧ ns.length ≤ 63 ∧ ∀ H', Q (.bl true) H'
theorem ok_law (F : Dn K d_law f fd) (bl : Bl mg) (T : ClK K mg C) (MKK : Mk K C fK) (FK : FnOk P w K mg base CX0 1 fK fdK ["self"] (spKI C)) (bK : Binds K fdK ["self"] []) (cPn : Cal P w K mg base 1 "_law_pen" (spPen K) []) (cD : CalD P w K mg base)
    (cN : Cal P w K mg base 2 "_law_names" spNames []) (MP : Mak P w K mg base 4 "Person" CP (spPI CP) []) (mE : Met P w K mg base 5 C "enter" (spEnter C CW CP) [.int 0]) (mW : Met P w K mg base 5 C "wants" (spWants C CW) [])
    (cT : Cal P w K mg base 3 "_law_turns" spTurns []) (cC : Cal P w K mg base 1 "_law_counted" spCounted []) (cTo : Cal P w K mg base 7 "_law_told" (spTold C CW) []) : FnOk P w K mg base CX0 8 f fd ["_law_script"] (spLaw K) := by
  refine F.ok sc_law (fun vs H Q E h => ?_) (fun cdv A outer s H vs Q E hr h => ?_)
  · obtain ⟨a, ns, rfl, _⟩ := h
    rfl
  · obtain ⟨a, ns, rfl, hS, hlen, hQ⟩ := h
    have hu := hu_of hr
    refine ⟨_, PSs.nox (pss_cons (ps_set (i := 1) sc_law.nd rfl (.inl rfl) (pe_c cPn hr (by decide) rfl (pa_cons (pv 0) pa_nil)))
      (C8.pss_cut (ps_set (i := 2) sc_law.nd rfl (.inl rfl) (pe_ix ix_list (pe_lst (pa_cons pe_int (pa_cons pe_int (pa_cons pe_int (pa_cons (pe_c cD hr (by decide) rfl (pa_cons (pv 1) (pa_cons pe_int pa_nil))) (pa_cons pe_int pa_nil)))))) (pe_c cD hr (by decide) rfl (pa_cons (pv 1) (pa_cons pe_int pa_nil))) (fun _ _ => rfl)))
      (pss_cons (ps_par3 (i := 3) (j := 4) (l := 5) rfl sc_law.nd rfl rfl rfl (by decide) (by decide) (by decide) rfl rfl rfl (pa_cons (pe_make0 MKK FK (hr.mono (by decide)) rfl T.g bK .nil pass0) (pa_cons (pe_c cN hr (by decide) rfl (pa_cons (pv 1) (pa_cons (pe_op op_add pe_int (pe_c cD hr (by decide) rfl (pa_cons (pv 1) (pa_cons pe_int pa_nil)))) pa_nil))) (pa_cons pe_dnewK pa_nil))) rfl)
      (C8.pss_cut (ps_for PassesOwn.never rfl (pi_list (pv 4)) (pg_name (i := 6) sc_law.nd rfl (.inl rfl))
        (pss_cons (ps_dput hu (pv 5) (pv 6) (pe_ix ix_list (pe_lst (pa_cons pe_int (pa_cons pe_int (pa_cons (pe_c cD hr (by decide) rfl (pa_cons (pv 1) (pa_cons pe_int pa_nil))) pa_nil)))) (pe_c cD hr (by decide) rfl (pa_cons (pv 1) (pa_cons pe_int pa_nil))) (fun _ _ => rfl)) rfl)
        (pss_one (ps_expr (pe_mt mE hr (by decide) (pv 3) (pa_cons (pe_mk MP hr (by decide) rfl (pa_cons (pv 6) (pa_cons pe_int (pa_cons (pe_dget hu (pv 5) (pv 6) (fun _ _ => rfl)) pa_nil)))) pa_nil))))))
      (pss_cons (ps_set (i := 7) sc_law.nd rfl (.inl rfl) (pe_c cT hr (by decide) rfl (pa_cons (pv 1) (pa_cons (pv 4) (pa_cons (pv 2) pa_nil)))))
      (C8.pss_cut (ps_for PassesOwn.never rfl (pi_range1 rfl bl.range (pa_cons (pe_op op_mul pe_int (pe_callTy call_int1 rfl bl.int boot_int (pa_cons (pe_cmpR op_eq (pe_c cD hr (by decide) rfl (pa_cons (pv 1) (pa_cons pe_int pa_nil))) pe_int (nomark _)) pa_nil))) pa_nil)) (pg_name (i := 8) sc_law.nd rfl (.inl rfl))
        (pss_one (ps_expr (pe_bm PySem.F.plainAttrs_list PySem.F.slot_list_insert PySem.F.type_list_insert mt_insert (pv 7) (pa_cons (pv 8) (pa_cons (pe_tup (pa_cons pe_str (pa_cons (pe_ix ix_list (pv 4) pe_int (fun _ _ => rfl)) (pa_cons (pe_op op_add (pv 2) (pv 8)) (pa_cons (pe_cmpR op_eq (pe_c cD hr (by decide) rfl (pa_cons (pv 1) (pa_cons pe_int pa_nil))) pe_int (nomark _)) pa_nil))))) pa_nil))))))
      (pss_cons (ps_set (i := 9) sc_law.nd rfl (.inl rfl) (pe_callTy (LR.call_list_rng rfl) rfl bl.list boot_list (pa_cons (pe_callTy cr_range2 rfl bl.range boot_range (pa_cons (pe_callB (call_max2 rfl) rfl bl.max boot_max (pa_cons pe_int (pa_cons (pe_op op_sub (pv 2) pe_int) pa_nil))) (pa_cons (pe_op op_add (pv 2) pe_int) pa_nil))) pa_nil)))
      (pss_cons (ps_for PassesOwn.never rfl (pi_tup (pe_tup (pa_cons (pe_op op_fdiv (pe_callB call_len_seq rfl bl.len boot_len (pa_cons (pv 7) pa_nil)) pe_int) (pa_cons (pe_callB call_len_seq rfl bl.len boot_len (pa_cons (pv 7) pa_nil)) pa_nil)))) (pg_name (i := 10) sc_law.nd rfl (.inl rfl))
        (C8.pss_cut (ps_for PassesOwn.never rfl (pi_list (pe_slice sl_list (pv 7) (po_some (pe_op op_mul (pe_op op_fdiv (pe_callB call_len_seq rfl bl.len boot_len (pa_cons (pv 7) pa_nil)) pe_int) (pe_callTy call_int1 rfl bl.int boot_int (pa_cons (pe_cmpR op_eq (pv 10) (pe_callB call_len_seq rfl bl.len boot_len (pa_cons (pv 7) pa_nil)) (nomark _)) pa_nil)))) (po_some (pv 10)))) (pg_name (i := 11) sc_law.nd rfl (.inl rfl))
          (pss_one (ps_expr (pe_c cTo hr (by decide) rfl (pa_cons (pv 3) (pa_cons (pv 11) (pa_cons (pe_cmpR op_eq (pe_c cD hr (by decide) rfl (pa_cons (pv 1) (pa_cons pe_int pa_nil))) pe_int (nomark _)) pa_nil)))))))
        (pss_one (ps_for PassesOwn.never rfl (pi_list (pv 4)) (pg_name (i := 6) sc_law.nd rfl (.inl rfl))
          (pss_cons (ps_asg (pe_c cC hr (by decide) rfl (pa_cons (pe_slice sl_list (pv 7) po_none (po_some (pv 10))) (pa_cons (pv 6) (pa_cons (pv 9) pa_nil)))) (pg_tup rfl (pgs_cons (pg_name (i := 12) sc_law.nd rfl (.inl rfl)) (pgs_cons (pg_name (i := 13) sc_law.nd rfl (.inl rfl)) pgs_nil))))
          (pss_one (ps_for PassesOwn.never rfl (pi_list (pv 9)) (pg_name (i := 14) sc_law.nd rfl (.inl rfl))
            (pss_cons (ps_set (i := 15) sc_law.nd rfl (.inl rfl) (pe_dget2 hu (pv 13) (pv 14) (pe_cmpR op_eq (pe_op op_mod (pe_op op_fdiv (pe_dget hu (pv 5) (pv 6) (fun _ _ => rfl)) (pe_ix ix_tup (pe_tup (pa_cons pe_int (pa_cons pe_int (pa_cons pe_int (pa_cons pe_int (pa_cons pe_int (pa_cons pe_int (pa_cons pe_int pa_nil)))))))) (pe_op op_mod (pv 14) pe_int) (fun _ _ => rfl))) pe_int) pe_int (nomark _)) ⟨rfl, rfl, rfl, rfl⟩))
            (pss_one (ps_if (pt_cmpR op_ne (pe_mt mW hr (by decide) (pv 3) (pa_cons (pv 6) (pa_cons (pv 14) pa_nil))) (pe_and (pv 15) (pe_one (pe_not (pe_dget2 hu (pv 12) (pv 14) pe_bl ⟨rfl, rfl, rfl, rfl⟩)))) (nomark _)) pss_never pss_nil))))))))))
      (pss_one (ps_ret pe_bl)))))))))), ?_⟩
    refine ⟨_, rfl, a, ns, rfl, hS, hlen, fun p H1 s1 f1 pen1 => ?_⟩
    -- the base
    refine ⟨fun σ' H' => ∃ bs : Int, σ' = [some (.ref a), some (.ref p), some (.int bs), none, none, none, none, none, none, none, none, none, none, none, none, none] ∧ 0 ≤ bs ∧ bs ≤ 999949 ∧ Pen H' p 800000000, ?_, ?_⟩
    · refine ⟨_, rfl, p, 899999999, _, rfl, pen1, by decide, by decide, fun r H2 r0 r1 pen2 k2 => ⟨by show 5 ≤ sizeLine; decide, fun u hu2 => ?_⟩⟩
      have su := same_new (o := .lst [.int 0, .int 8, .int 98, .int r, .int 999949]) hu2
      refine ⟨_, rfl, p, 899999998, 5, rfl, pen2.same su, by decide, by decide, fun j H3 j0 j1 pen3 k3 => ?_⟩
      have hu3 := k3.1 u _ upd_same (pen2.ne_new hu2)
      obtain ⟨v, hv, ev⟩ := pick V.int (L := [0, 8, 98, r, 999949]) j0 (by simpa using j1)
      refine ⟨u, _, _, _, rfl, rfl, SqL.of hu3, ev, v, rfl, ?_, ?_, pen3.weak (by decide)⟩
      · simp only [List.mem_cons, List.not_mem_nil, or_false] at hv
        rcases hv with rfl | rfl | rfl | rfl | rfl <;> omega
      · simp only [List.mem_cons, List.not_mem_nil, or_false] at hv
        rcases hv with rfl | rfl | rfl | rfl | rfl <;> omega
    rintro σ' H2 ⟨bs, rfl, b0, b1, pen2⟩
    -- Wants, names, masks
    intro kw dk fkw fdk ndk
    refine ⟨kw, dk, rfl, upd_same, fun wd fwd nkw => ⟨rfl, ?_⟩⟩
    have sK : Same H2 (upd (upd (upd (upd H2 dk (.own kw)) kw (.ins C dk [])) wd (.dK [])) kw (.ins C dk (kwF wd))) := fun b o e => by
      have e1 : b ≠ kw := ne_of_none e fkw
      have e2 : b ≠ dk := ne_of_none e fdk
      have e3 : (upd (upd H2 dk (.own kw)) kw (.ins C dk [])) b = some o := by rw [upd_ne e1, upd_ne e2]; exact e
      rw [upd_ne e1, upd_ne (ne_of_none e3 fwd)]
      exact e3
    have hkw0 := upd_same (H := upd (upd (upd H2 dk (.own kw)) kw (.ins C dk [])) wd (.dK [])) (a := kw) (o := .ins C dk (kwF wd))
    have hwd0 : (upd (upd (upd (upd H2 dk (.own kw)) kw (.ins C dk [])) wd (.dK [])) kw (.ins C dk (kwF wd))) wd = some (.dK []) := by rw [upd_ne nkw.symm]; exact upd_same
    generalize upd (upd (upd (upd H2 dk (.own kw)) kw (.ins C dk [])) wd (.dK [])) kw (.ins C dk (kwF wd)) = H3 at sK hkw0 hwd0 ⊢
    refine ⟨_, rfl, _, rfl, p, 799999999, 3, rfl, pen2.same sK, by decide, by decide, fun n0 H4 n00 n01 pen4 k4 => ?_⟩
    obtain ⟨nn, hnn⟩ : ∃ nn : Nat, 1 + n0 = nn := ⟨(1 + n0).toNat, by omega⟩
    refine ⟨_, _, rfl, rfl, p, 790000000, nn, by rw [← hnn]; rfl, pen4.weak (by decide), by omega, fun kl zs H5 pen5 k5 fkl okl hkl zlen zok zpw => ?_⟩
    intro md fmd
    have sM := same_new (o := .dK []) fmd
    have hmd := upd_same (H := H5) (a := md) (o := .dK [])
    obtain ⟨la0, pns0, pa0, pb0, hp4, _⟩ := id (pen2.same sK)
    have kwp : kw ≠ p := ne_of hkw0 hp4 (by intro z; cases z)
    have wdp : wd ≠ p := ne_of hwd0 hp4 (by intro z; cases z)
    have hkw5 := sM _ _ ((k4.trans k5).1 _ _ hkw0 kwp)
    have hwd5 := sM _ _ ((k4.trans k5).1 _ _ hwd0 wdp)
    have nmw : md ≠ wd := (ne_of_none ((k4.trans k5).1 _ _ hwd0 wdp) fmd).symm
    have li0 : LI C CW p kw wd md 790000000 0 [(kl, zs.map fun l => V.str (S l))] [] [] (upd H5 md (.dK [])) :=
      ⟨pen5.same sM, fun x hx => by
        cases List.mem_singleton.mp hx
        exact ⟨sM _ _ hkl, okl.ne, fun i e h => by simp at h⟩, ⟨⟨⟨dk, hkw5⟩, hwd5⟩, fun i e h => by simp at h, fun i e h => by simp at h, fun i j a b h => by simp at h, fun i e h => by simp at h⟩, ⟨[], hmd, by decide, fun i e h => by simp at h⟩, fun i e h => by simp at h, fun x hx => nomatch hx⟩
    generalize upd H5 md (.dK []) = H6 at li0 hmd ⊢
    clear sM hkw5 hwd5 hkw0 hwd0 sK pen2 pen4 pen5 k4 k5 okl hkl fkl fmd fwd fkw fdk
    refine ⟨_, _, _, rfl, ?_⟩
    -- all enter
    refine ⟨fun σ' H' => ∃ (es : List En) (v6 : Option V), σ' = [some (.ref a), some (.ref p), some (.int bs), some (.ref kw), some (.ref kl), some (.ref md), v6, none, none, none, none, none, none, none, none, none] ∧ LI C CW p kw wd md 780000000 0 [(kl, zs.map fun l => V.str (S l))] [] es H' ∧ En0 md wd zs es, ?_, ?_⟩
    · refine ⟨_, rfl, kl, rfl, ⟨_, SqL.of (li0.ls_ _ (List.mem_cons_self ..)).1⟩, for_list (K := K) (xs := zs.map fun l => V.str (S l)) (fun j σ H7 => ∃ (es : List En) (v6 : Option V) (kvm : List (Key × V)), σ = [some (.ref a), some (.ref p), some (.int bs), some (.ref kw), some (.ref kl), some (.ref md), v6, none, none, none, none, none, none, none, none, none] ∧ LI C CW p kw wd md (790000000 - 10 * j) 0 [(kl, zs.map fun l => V.str (S l))] [] es H7 ∧ En0 md wd (zs.take j) es ∧ H7 md = some (.dK kvm) ∧ kvm.length ≤ j)
        ⟨[], _, [], rfl, li0, ⟨rfl, fun i e h => by simp at h⟩, hmd, Nat.le_refl _⟩ (fun j σ H7 _ z => by obtain ⟨_, _, _, _, li, _⟩ := z; exact SqL.of (li.ls_ _ (List.mem_cons_self ..)).1) ?_ ?_⟩
      · rintro j y σ H7 hj ⟨es, v6, kvm, rfl, li, en, hm, hkl⟩
        rw [List.getElem?_map] at hj
        cases hz : zs[j]? with
        | none =>
          rw [hz] at hj
          cases hj
        | some z =>
          rw [hz] at hj
          cases (Option.some.inj hj : V.str (S z) = y)
          have hjl : j < zs.length := (List.getElem?_eq_some_iff.mp hz).1
          have zok' := zok z (List.mem_of_getElem? hz)
          have nz : ∀ (i : Nat) (e : En), es[i]? = some e → e.l ≠ z := fun i e he => name_ne en.nm zpw hz he
          refine ⟨_, rfl, p, 790000000 - 10 * j - 1, 128, rfl, li.pen.weak (by omega), by decide, by decide, fun r H8 r0 r1 pen8 k8 => ⟨by show 3 ≤ sizeLine; decide, fun u fu => ?_⟩⟩
          have su := same_new (o := .lst [.int 127, .int 127, .int r]) fu
          refine ⟨_, rfl, p, 790000000 - 10 * j - 2, 3, rfl, (pen8.same su).weak (by omega), by decide, by decide, fun q H9 q0 q1 pen9 k9 => ?_⟩
          have hu9 := k9.1 u _ upd_same (pen8.ne_new fu)
          obtain ⟨v, hv, ev⟩ := pick V.int (L := [127, 127, r]) q0 (by simpa using q1)
          have hv2 : 0 ≤ v ∧ v ≤ 127 := by
            simp only [List.mem_cons, List.not_mem_nil, or_false] at hv
            rcases hv with rfl | rfl | rfl <;> omega
          obtain ⟨m, rfl⟩ := Int.eq_ofNat_of_zero_le hv2.1
          have kk : Kp p H7 H9 := (k8.trans (Kp.same su)).trans k9
          have li9 := li.kp kk pen9
          have hm9 := kk.1 _ _ hm (by
            obtain ⟨l0, ns0, a0, b0, hp0, _⟩ := id li.pen
            exact ne_of hm hp0 (by intro z; cases z))
          refine ⟨u, _, _, _, rfl, rfl, SqL.of hu9, ev, _, rfl, _, rfl, md, _, rfl, DPut.k (k := Sum.inr (S z)) hm9 (Nat.lt_of_lt_of_le (by omega : kvm.length < 64) (by decide)), ?_⟩
          have li10 := li9.mask (z := z) (v := .int (m : Nat)) hm9 (by omega) nmw (fun i e he => (en.st i e he).2.2.1) nz
          have hm10 := upd_same (H := H9) (a := md) (o := .dK (putK kvm (Sum.inr (S z)) (.int (m : Nat))))
          generalize upd H9 md (.dK (putK kvm (Sum.inr (S z)) (.int (m : Nat)))) = H10 at li10 hm10 ⊢
          have hvm : valV (putK kvm (Sum.inr (S z)) (.int (m : Nat))) (Sum.inr (S z)) = some (.int (m : Nat)) := by rw [valV_put, if_pos rfl]
          obtain ⟨⟨dk', hk10⟩, hwd10⟩ := id li10.ws.kw_
          refine ⟨_, rfl, kw, dk', _, rfl, hk10, kw_no wd (by decide +kernel), _, rfl, _, rfl, _, rfl, md, .int (m : Nat), rfl, (hvm ▸ DGet.k (k := Sum.inr (S z)) hm10), ?_⟩
          intro pe pdx fpe fpd npe
          have k0 : ∀ b o, H10 b = some o → (upd (upd H10 pdx (.own pe)) pe (.ins CP pdx [])) b = some o := fun b o e => by
            rw [upd_ne (ne_of_none e fpe), upd_ne (ne_of_none e fpd)]
            exact e
          refine ⟨pe, pdx, z, 4, m, rfl, zok', by decide, by decide, by omega, by omega, upd_same, fun H11 k11 hpe => ⟨rfl, ?_⟩⟩
          have s11 : Same H10 H11 := fun b o e => k11 b o (ne_of_none e fpe) (k0 b o e)
          have li11 := li10.same s11
          have hm11 := s11 _ _ hm10
          obtain ⟨⟨dk2, hk11⟩, hwd11⟩ := id li11.ws.kw_
          refine ⟨kw, wd, pe, pdx, es.map En.kq, z, 4, m, rfl, li11.ws.kw_, hpe, ?_, ?_, fun q dx mk ad sd H12 fq fmk fad fsd n1 n2 n3 k12 hwd12 hq hmk had hsd => ?_⟩
          · cases e : valV (es.map En.kq) (Sum.inr (S z)) with
            | none => rfl
            | some v =>
              obtain ⟨y, hy, hy2⟩ := List.mem_map.mp (valV_in e)
              obtain ⟨e0, he0, rfl⟩ := List.mem_map.mp hy
              obtain ⟨i, hi, hi2⟩ := List.getElem_of_mem he0
              exact absurd (SX.S_inj (Sum.inr.inj hy2)) (nz i e0 (by rw [List.getElem?_eq_getElem hi, hi2]))
          · have e1 : es.length = (zs.take j).length := by rw [← en.nm, List.length_map]
            rw [List.length_map, e1, List.length_take]
            omega
          · have li12 := li11.enter nmw (fun i e he => (en.st i e he).2.2.2) nz (fun kvm' h' => by cases Option.some.inj (hm11.symm.trans h'); exact hvm) fq fmk fad fsd n1 n3 k12 hwd12 hq hmk had hsd
            refine ⟨_, _, _, rfl, li12.weak (by omega), ⟨?_, fun i e he => ?_⟩, k12 _ _ nmw hm11, ?_⟩
            · rw [List.map_append, en.nm, List.take_add_one, hz]
              rfl
            · rcases get_app he with ⟨_, rfl⟩ | ⟨_, he⟩
              · exact ⟨rfl, rfl, ne_of_none hm11 fmk, n2⟩
              · exact en.st i e he
            · have := putK_len kvm (Sum.inr (S z)) (.int (m : Nat))
              omega
      · rintro σ H7 ⟨es, v6, kvm, rfl, li, en, hm, hkl⟩
        rw [List.length_map, List.take_length] at en
        exact ⟨es, v6, rfl, li.weak (by rw [List.length_map]; omega), en⟩
    rintro σ' H7 ⟨es, v6, rfl, li, en⟩
    have zne : zs ≠ [] := fun z => by
      rw [z] at zlen
      simp at zlen
      omega
    have zpos := List.length_pos_iff.mpr zne
    have sem0 := en.sem
    have nm0 := en.nm
    clear en li0 hmd
    -- the turns
    have hkl7 := li.ls_ _ (List.mem_cons_self ..)
    refine ⟨_, rfl, _, rfl, _, rfl, p, kl, 770000000, zs, bs, rfl, li.pen.weak (by decide), hkl7.2.1, hkl7.1, zne, by omega, b0, b1, fun tl ts0 H8 pen8 k8 ftl off8 tn8 t3 t14 ok8 => ?_⟩
    have li8 := (li.weak (c' := 780000000) (by decide)).add (li.kp k8 pen8) ftl tn8.1
    have li8' := li8.ts' tn8.2
    have ntk : kl ≠ tl := ne_of_none hkl7.1 ftl
    clear li8 li
    -- days alone put in
    refine ⟨fun σ' H' => ∃ (ts : List (Addr × Tn)) (v8 : Option V), σ' = [some (.ref a), some (.ref p), some (.int bs), some (.ref kw), some (.ref kl), some (.ref md), v6, some (.ref tl), v8, none, none, none, none, none, none, none] ∧ LI C CW p kw wd md 760000000 0 [(tl, ts.map fun x => V.ref x.1), (kl, zs.map fun l => V.str (S l))] ts es H' ∧ 3 ≤ ts.length ∧ ts.length ≤ 64 ∧ ∀ x ∈ ts, TnOk zs x.2, ?_, ?_⟩
    · refine ⟨_, rfl, p, 769999999, 4, rfl, li8'.pen, by decide, by decide, fun r H9 r0 r1 pen9 k9 => ⟨rfl, .inr ⟨_, rfl, _, _, rfl, rfl, cb_l (by decide) (by decide), _, rfl, ?_, ?_, ?_⟩⟩⟩
      · split <;> decide
      · split <;> decide
      have li9 := li8'.kp k9 pen9
      have off9 := off8.kp k9
      obtain ⟨N, hN, hN50⟩ : ∃ N : Nat, (50 * (if decide (V.int r = V.int 0) = true then 1 else 0 : Int)).toNat = N ∧ N ≤ 50 := ⟨_, rfl, by split <;> decide⟩
      rw [hN]
      refine for_range (n := N) (fun i σ H10 => ∃ (ts : List (Addr × Tn)) (v8 : Option V), σ = [some (.ref a), some (.ref p), some (.int bs), some (.ref kw), some (.ref kl), some (.ref md), v6, some (.ref tl), v8, none, none, none, none, none, none, none] ∧ LI C CW p kw wd md (769999999 - 10 * i) 0 [(tl, ts.map fun x => V.ref x.1), (kl, zs.map fun l => V.str (S l))] ts es H10 ∧ Off p tl H10 ∧ 3 ≤ ts.length ∧ ts.length ≤ 14 + i ∧ ∀ x ∈ ts, TnOk zs x.2)
        ⟨ts0, _, rfl, li9, off9, t3, by omega, ok8⟩ ?_ ?_
      · rintro i σ H10 hi ⟨ts, v8, rfl, li10, off10, t3', tl', ok10⟩
        have htl := li10.ls_ _ (List.mem_cons_self ..)
        have hkl := li10.ls_ (kl, zs.map fun l => V.str (S l)) (by simp)
        refine ⟨_, rfl, Or.inl ⟨rfl, _, SqL.of htl.1⟩, _, rfl, _, rfl, kl, _, _, .str (S zs[0]), rfl, rfl, SqL.of hkl.1, atI_nat (j := 0) (by rw [List.getElem?_map, List.getElem?_eq_getElem zpos]; rfl), ?_⟩
        refine ⟨_, rfl, _, rfl, _, _, rfl, rfl, _, rfl, p, 769999999 - 10 * i - 1, 2, rfl, li10.pen.weak (by omega), by decide, by decide, fun e H11 e0 e1 pen11 k11 => ⟨rfl, by show 4 ≤ sizeLine; decide, fun t ft => ?_⟩⟩
        have li11 := li10.kp k11 pen11
        have st := same_new (o := .tup [.str (Str.ofString "only"), .str (S zs[0]), .int (bs + (0 + (i : Int))), .bl (decide (V.int e = V.int 0))]) ft
        have li12 := li11.same st
        have off12 := (off10.kp k11).kp (Kp.same st)
        have ht12 := upd_same (H := H11) (a := t) (o := .tup [.str (Str.ofString "only"), .str (S zs[0]), .int (bs + (0 + (i : Int))), .bl (decide (V.int e = V.int 0))])
        generalize upd H11 t (.tup [.str (Str.ofString "only"), .str (S zs[0]), .int (bs + (0 + (i : Int))), .bl (decide (V.int e = V.int 0))]) = H12 at li12 off12 ht12 ⊢
        have htl12 := li12.ls_ _ (List.mem_cons_self ..)
        refine ⟨tl, _, _, _, rfl, rfl, htl12.1, ?_, by omega, by omega, ?_⟩
        · rw [List.length_map]
          exact Nat.lt_of_lt_of_le (by omega : ts.length < 128) (by decide)
        · have iN : (0 + (i : Int)).toNat = i := by omega
          rw [iN]
          obtain ⟨li13, off13⟩ := li12.put (ys' := (ts.map fun x => V.ref x.1).take i ++ [.ref t] ++ (ts.map fun x => V.ref x.1).drop i) off12 (fun z hz => by
            cases List.mem_singleton.mp hz
            exact ntk)
          have nt : t ≠ tl := ne_of ht12 htl12.1 (by intro z; cases z)
          refine ⟨ts.take i ++ [(t, .only zs[0] (bs + (0 + (i : Int))) (decide (V.int e = V.int 0)))] ++ ts.drop i, _, rfl, ?_, off13, ?_, ?_, ?_⟩
          · have e1 : ((ts.take i ++ [(t, .only zs[0] (bs + (0 + (i : Int))) (decide (V.int e = V.int 0)))] ++ ts.drop i : List (Addr × Tn)).map fun x => V.ref x.1) = (ts.map fun x => V.ref x.1).take i ++ [.ref t] ++ (ts.map fun x => V.ref x.1).drop i := by
              rw [List.map_append, List.map_append, List.map_take, List.map_drop]
              rfl
            rw [e1]
            refine (li13.weak (by omega)).ts' fun y hy => ?_
            rcases List.mem_append.mp hy with hy | hy
            · rcases List.mem_append.mp hy with hy | hy
              · exact li13.tp y (List.mem_of_mem_take hy)
              · cases List.mem_singleton.mp hy
                rw [upd_ne nt]
                exact ht12
            · exact li13.tp y (List.mem_of_mem_drop hy)
          · simp only [List.length_append, List.length_take, List.length_drop, List.length_cons, List.length_nil]
            omega
          · simp only [List.length_append, List.length_take, List.length_drop, List.length_cons, List.length_nil]
            omega
          · intro y hy
            rcases List.mem_append.mp hy with hy | hy
            · rcases List.mem_append.mp hy with hy | hy
              · exact ok10 y (List.mem_of_mem_take hy)
              · cases List.mem_singleton.mp hy
                exact ⟨List.getElem_mem zpos, by omega, by omega⟩
            · exact ok10 y (List.mem_of_mem_drop hy)
      · rintro σ H10 ⟨ts, v8, rfl, li10, off10, t3', tl', ok10⟩
        exact ⟨ts, v8, rfl, li10.weak (by omega), t3', by omega, ok10⟩
    clear li8' ok8 t3 t14 tn8 off8 k8 pen8
    rintro σ' H9 ⟨ts, v8, rfl, li9, t3, t64, okT⟩
    -- the days
    obtain ⟨lo, hlo, lo0, lo1⟩ : ∃ lo : Int, (if bs - 3 > 0 then bs - 3 else 0) = lo ∧ 0 ≤ lo ∧ lo ≤ bs := ⟨_, rfl, by split <;> omega, by split <;> omega⟩
    obtain ⟨dn, hdn, dn60⟩ : ∃ dn : Nat, bs + 52 = lo + dn ∧ dn ≤ 60 := ⟨(bs + 52 - lo).toNat, by omega, by
      rw [← hlo]
      split <;> omega⟩
    refine ⟨_, rfl, _, _, rfl, rfl, _, _, rfl, _, rfl, _, _, rfl, rfl, _, _, rfl, fun rg frg => ?_⟩
    rw [hlo, hdn]
    have sr := same_new (o := .rng lo (lo + dn)) frg
    refine ⟨rg, lo, dn, rfl, upd_same, by omega, by omega, by omega, fun dl fdl => ?_⟩
    have li10 := (li9.same sr).new (ys := ((List.range dn).map fun i => lo + ((i : Nat) : Int)).map V.int) fdl
    have edl : ((List.range dn).map fun i => V.int (lo + ((i : Nat) : Int))) = ((List.range dn).map fun i => lo + ((i : Nat) : Int)).map V.int := by rw [List.map_map]; rfl
    rw [edl]
    obtain ⟨days, hdays, dlen, dok⟩ : ∃ days : List Int, ((List.range dn).map fun i => lo + ((i : Nat) : Int)) = days ∧ days.length ≤ 60 ∧ ∀ d ∈ days, 0 ≤ d ∧ d ≤ 1000000 := ⟨_, rfl, by simpa using dn60, fun d hd => by
      obtain ⟨k, hk, rfl⟩ := List.mem_map.mp hd
      have := List.mem_range.mp hk
      omega⟩
    rw [hdays] at li10 ⊢
    generalize upd (upd H9 rg (.rng lo (lo + dn))) dl (.lst (days.map V.int)) = H10 at li10 ⊢
    clear sr li9
    obtain ⟨tn, htn⟩ : ∃ tn : Nat, ts.length = tn := ⟨_, rfl⟩
    have htl := li10.ls_ (tl, ts.map fun x => V.ref x.1) (by simp)
    refine ⟨_, rfl, tl, _, rfl, .inl (SqL.of htl.1), _, _, rfl, rfl, ⟨by decide, by decide⟩, _, rfl, tl, _, rfl, .inl (SqL.of htl.1), by show 2 ≤ sizeLine; decide, fun tu ftu => ?_⟩
    rw [List.length_map, htn]
    have stu := same_new (o := .tup [.int ((tn : Int) / 2), .int (tn : Int)]) ftu
    have li11 := li10.same stu
    have htu := upd_same (H := H10) (a := tu) (o := .tup [.int ((tn : Int) / 2), .int (tn : Int)])
    generalize upd H10 tu (.tup [.int ((tn : Int) / 2), .int (tn : Int)]) = H11 at li11 htu ⊢
    clear stu li10 htl
    -- the two halves
    refine ⟨tu, rfl, ⟨_, SqT.of htu⟩, for_tup (K := K) (xs := [.int ((tn : Int) / 2), .int (tn : Int)]) (fun ph σ H12 => ∃ (es : List En) (v6 v10 v11 v12 v13 v14 v15 : Option V), σ = [some (.ref a), some (.ref p), some (.int bs), some (.ref kw), some (.ref kl), some (.ref md), v6, some (.ref tl), v8, some (.ref dl), v10, v11, v12, v13, v14, v15] ∧
        LI C CW p kw wd md (700000000 - 1000 * ph) (cutN tn ph) [(dl, days.map V.int), (tl, ts.map fun x => V.ref x.1), (kl, zs.map fun l => V.str (S l))] ts es H12 ∧ H12 tu = some (.tup [.int ((tn : Int) / 2), .int (tn : Int)]) ∧ es.map (·.l) = zs ∧ Sem es ((ts.map (·.2)).take (cutN tn ph)))
      ⟨es, _, _, _, _, _, _, _, rfl, li11.weak (by decide), htu, nm0, by rw [show cutN tn 0 = 0 from rfl, List.take_zero]; exact sem0⟩ (fun ph σ H12 _ z => by obtain ⟨_, _, _, _, _, _, _, _, _, _, h, _⟩ := z; exact SqT.of h) ?_ ?_⟩
    · clear li11 htu nm0 sem0
      rintro ph y σ H12 hph ⟨es, v6, v10, v11, v12, v13, v14, v15, rfl, li, htu, nm, sem⟩
      obtain ⟨rfl, h01, h12, hlo2⟩ : y = .int (cutN tn (ph + 1) : Nat) ∧ ph < 2 ∧ cutN tn (ph + 1) ≤ tn ∧ cutN tn ph ≤ cutN tn (ph + 1) := by
        match ph, hph with
        | 0, e => exact ⟨(Option.some.inj e).symm, by decide, Nat.div_le_self .., Nat.zero_le _⟩
        | 1, e => exact ⟨(Option.some.inj e).symm, by decide, Nat.le_refl _, Nat.div_le_self ..⟩
      have htl := li.ls_ (tl, ts.map fun x => V.ref x.1) (by simp)
      -- they are told
      refine ⟨fun σ' H' => ∃ (es : List En) (v11 : Option V), σ' = [some (.ref a), some (.ref p), some (.int bs), some (.ref kw), some (.ref kl), some (.ref md), v6, some (.ref tl), v8, some (.ref dl), some (.int (cutN tn (ph + 1) : Nat)), v11, v12, v13, v14, v15] ∧
        LI C CW p kw wd md (700000000 - 1000 * (ph + 1)) (cutN tn (ph + 1)) [(dl, days.map V.int), (tl, ts.map fun x => V.ref x.1), (kl, zs.map fun l => V.str (S l))] ts es H' ∧ H' tu = some (.tup [.int ((tn : Int) / 2), .int (tn : Int)]) ∧ es.map (·.l) = zs ∧ Sem es ((ts.map (·.2)).take (cutN tn (ph + 1))), ?_, ?_⟩
      · refine ⟨_, rfl, _, rfl, tl, _, rfl, .inl (SqL.of htl.1), _, _, rfl, rfl, ⟨by decide, by decide⟩, _, rfl, _, rfl, tl, _, rfl, .inl (SqL.of htl.1), rfl, .inr ⟨_, rfl, _, _, rfl, rfl, ?_, _, rfl, _, rfl, _, rfl, tl, _, rfl, SqL.of htl.1, fun sl fsl => ?_⟩⟩
        · refine cb_r ?_ ?_ <;> split <;> decide
        rw [List.length_map, htn]
        have elo : ((tn : Int) / 2 * (if decide (V.int (cutN tn (ph + 1) : Nat) = V.int (tn : Int)) = true then 1 else 0)) = (cutN tn ph : Nat) := by
          match ph, h01 with
          | 0, _ =>
            rw [if_neg]
            · simp [cutN]
            · intro z
              have z1 := V.int.inj (of_decide_eq_true z)
              have : tn / 2 = tn := by
                have : ((tn / 2 : Nat) : Int) = tn := z1
                exact_mod_cast this
              omega
          | 1, _ =>
            rw [if_pos (by simp [cutN])]
            simp [cutN]
        rw [elo, cut_seg hlo2 (by omega)]
        obtain ⟨seg, hseg⟩ : ∃ seg, (ts.drop (cutN tn ph)).take (cutN tn (ph + 1) - cutN tn ph) = seg := ⟨_, rfl⟩
        rw [hseg]
        have slen : seg.length = cutN tn (ph + 1) - cutN tn ph := by
          rw [← hseg, List.length_take, List.length_drop]
          omega
        have li13 := li.new (ys := seg.map fun x => V.ref x.1) fsl
        have htu13 := same_new (o := .lst (seg.map fun x => V.ref x.1)) fsl _ _ htu
        generalize upd H12 sl (.lst (seg.map fun x => V.ref x.1)) = H13 at li13 htu13 ⊢
        refine ⟨sl, rfl, ⟨_, SqL.of (li13.ls_ _ (List.mem_cons_self ..)).1⟩, for_list (K := K) (xs := seg.map fun x => V.ref x.1) (fun j σ H14 => ∃ (es : List En) (v11 : Option V), σ = [some (.ref a), some (.ref p), some (.int bs), some (.ref kw), some (.ref kl), some (.ref md), v6, some (.ref tl), v8, some (.ref dl), some (.int (cutN tn (ph + 1) : Nat)), v11, v12, v13, v14, v15] ∧
            LI C CW p kw wd md (700000000 - 1000 * ph - j) (cutN tn ph + j) [(sl, seg.map fun x => V.ref x.1), (dl, days.map V.int), (tl, ts.map fun x => V.ref x.1), (kl, zs.map fun l => V.str (S l))] ts es H14 ∧ H14 tu = some (.tup [.int ((tn : Int) / 2), .int (tn : Int)]) ∧ es.map (·.l) = zs ∧ Sem es ((ts.map (·.2)).take (cutN tn ph + j)))
          ⟨es, _, rfl, li13, htu13, nm, sem⟩ (fun j σ H14 _ z => by obtain ⟨_, _, _, l, _⟩ := z; exact SqL.of (l.ls_ _ (List.mem_cons_self ..)).1) ?_ ?_⟩
        · clear li13 htu13 nm sem htl li
          rintro j y σ H14 hj ⟨es, v11, rfl, li, htu, nm, sem⟩
          rw [List.getElem?_map] at hj
          cases hx : seg[j]? with
          | none =>
            rw [hx] at hj
            cases hj
          | some x =>
            rw [hx] at hj
            cases (Option.some.inj hj : V.ref x.1 = y)
            have hjl : j < seg.length := (List.getElem?_eq_some_iff.mp hx).1
            have hxt : ts[cutN tn ph + j]? = some x := by
              rw [← hseg, List.getElem?_take, if_pos (by omega), List.getElem?_drop] at hx
              exact hx
            have hxm := List.mem_of_getElem? hxt
            obtain ⟨i, e, he, hel⟩ := name_at nm (okT x hxm).1
            refine ⟨_, rfl, _, rfl, _, rfl, p, 700000000 - 1000 * ph - j - 1, 2, rfl, li.pen.weak (by omega), by decide, by decide, fun r H15 r0 r1 pen15 k15 => ⟨rfl, ?_⟩⟩
            have li15 := li.kp k15 pen15
            have htu15 := k15.1 _ _ htu (by
              obtain ⟨l0, ns0, a0, b0, hp0, _⟩ := id li.pen
              exact ne_of htu hp0 (by intro z; cases z))
            refine ⟨kw, wd, x.1, _, cutN tn ph + j, i, es, e, x.2, zs, rfl, li15.ws, by omega, li15.tp x hxm, he, hel.symm, okT x hxm, fun H16 e' g fr ws => ?_⟩
            have W := li15.ws.wi i e he
            refine ⟨es.set i e', _, rfl, (li15.told he g fr ws).weak (by omega), fr _ _ htu15 ?_, by rw [map_setl he g.l]; exact nm, ?_⟩
            · rintro (q | q | q)
              · exact ne_of htu15 W.at_ (by intro z; cases z) q
              · exact ne_of htu15 W.ad_ (by intro z; cases z) q
              · exact ne_of htu15 W.sp_.1 (by intro z; cases z) q
            · have e1 : (ts.map (·.2)).take (cutN tn ph + (j + 1)) = (ts.map (·.2)).take (cutN tn ph + j) ++ [x.2] := by
                rw [← Nat.add_assoc, List.take_add_one, List.getElem?_map, hxt]
                rfl
              rw [e1]
              exact sem.step li15.ws he hel.symm g
        · rintro σ H14 ⟨es, v11, rfl, li, htu, nm, sem⟩
          rw [List.length_map, slen, show cutN tn ph + (cutN tn (ph + 1) - cutN tn ph) = cutN tn (ph + 1) by omega] at li sem
          exact ⟨es, v11, rfl, li.drop.weak (by omega), htu, nm, sem⟩
      clear li htu nm sem htl v11 es
      rintro σ' H13 ⟨es, v11, rfl, li, htu, nm, sem⟩
      have hkl := li.ls_ (kl, zs.map fun l => V.str (S l)) (by simp)
      refine ⟨_, rfl, kl, rfl, ⟨_, SqL.of hkl.1⟩, for_list (K := K) (xs := zs.map fun l => V.str (S l)) (fun j σ H14 => ∃ (v6 v12 v13 v14 v15 : Option V), σ = [some (.ref a), some (.ref p), some (.int bs), some (.ref kw), some (.ref kl), some (.ref md), v6, some (.ref tl), v8, some (.ref dl), some (.int (cutN tn (ph + 1) : Nat)), v11, v12, v13, v14, v15] ∧ Same H13 H14)
        ⟨_, _, _, _, _, rfl, Same.refl _⟩ (fun j σ H14 _ z => by obtain ⟨_, _, _, _, _, _, s⟩ := z; exact SqL.of (s _ _ hkl.1)) ?_ ?_⟩
      · rintro j y σ H14 hj ⟨v6, v12, v13, v14, v15, rfl, s14⟩
        rw [List.getElem?_map] at hj
        cases hz : zs[j]? with
        | none =>
          rw [hz] at hj
          cases hj
        | some z =>
          rw [hz] at hj
          cases (Option.some.inj hj : V.str (S z) = y)
          have hzm := List.mem_of_getElem? hz
          obtain ⟨i, e, he, hel⟩ := name_at nm hzm
          subst hel
          have li14 := li.same s14
          have htl := li14.ls_ (tl, ts.map fun x => V.ref x.1) (by simp)
          have hdl := li14.ls_ (dl, days.map V.int) (by simp)
          refine ⟨_, rfl, _, rfl, _, rfl, tl, _, rfl, SqL.of htl.1, fun s2 fs2 => ?_⟩
          rw [cut_upto (by omega)]
          have ss2 := same_new (o := .lst ((ts.take (cutN tn (ph + 1))).map fun x => V.ref x.1)) fs2
          have li15 := li14.same ss2
          refine ⟨_, rfl, _, rfl, s2, dl, e.l, ts.take (cutN tn (ph + 1)), days, rfl, ⟨upd_same, fun x hx => li15.tp x (List.mem_of_mem_take hx)⟩, fun x hx => zok _ (okT x (List.mem_of_mem_take hx)).1, zok _ hzm, ss2 _ _ hdl.1, by rw [List.length_take]; omega, by omega, fun t sd ad H16 s16 ft fsd fad nsa ht gS gA => ?_⟩
          obtain ⟨gs, dS, eS⟩ := gS
          obtain ⟨ga, dA, eA⟩ := gA
          rw [List.map_take] at eS eA
          have li16 := li15.same s16
          have s1316 := (s14.trans ss2).trans s16
          have hdl16 := li16.ls_ (dl, days.map V.int) (by simp)
          refine ⟨t, _, rfl, SqT.of ht, rfl, _, _, rfl, _, _, rfl, rfl, ?_⟩
          refine ⟨_, rfl, dl, rfl, ⟨_, SqL.of hdl16.1⟩, for_list (K := K) (xs := days.map V.int) (fun k σ H17 => ∃ (v14 v15 : Option V), σ = [some (.ref a), some (.ref p), some (.int bs), some (.ref kw), some (.ref kl), some (.ref md), some (.str (S e.l)), some (.ref tl), v8, some (.ref dl), some (.int (cutN tn (ph + 1) : Nat)), v11, some (.ref sd), some (.ref ad), v14, v15] ∧ Same H16 H17)
            ⟨_, _, rfl, Same.refl _⟩ (fun k σ H17 _ z => by obtain ⟨_, _, _, s⟩ := z; exact SqL.of (s _ _ hdl16.1)) ?_ ?_⟩
          · rintro k y σ H17 hk ⟨v14, v15, rfl, s17⟩
            rw [List.getElem?_map] at hk
            cases hd : days[k]? with
            | none =>
              rw [hd] at hk
              cases hk
            | some d =>
              rw [hd] at hk
              cases (Option.some.inj hk : V.int d = y)
              have hdm := List.mem_of_getElem? hd
              have dd := dok d hdm
              have li17 := li16.same s17
              obtain ⟨kvA, hA1, hA2, hA3⟩ := dA
              obtain ⟨kvS, hS1, hS2, hS3⟩ := dS
              have hA17 := s17 _ _ hA1
              obtain ⟨kvm, hm1, hm2, hm3⟩ := li17.md_
              have hmv := (hm3 i e he).1
              refine ⟨_, rfl, ad, rfl, .inl ⟨_, .inl hA17⟩, _, rfl, _, rfl, _, rfl, md, .int (e.m : Nat), rfl, (hmv ▸ DGet.k (k := Sum.inr (S e.l)) hm1), by show 7 ≤ sizeLine; decide, fun u fu => ?_⟩
              have su := same_new (o := .tup [.int 1, .int 2, .int 4, .int 8, .int 16, .int 32, .int 64]) fu
              obtain ⟨q, hq⟩ := Int.eq_ofNat_of_zero_le (Int.emod_nonneg d (by decide : (7 : Int) ≠ 0))
              have hq7 : q < 7 := by
                have := Int.emod_lt_of_pos d (by decide : (0 : Int) < 7)
                omega
              have p2 : 0 < 2 ^ q ∧ 2 ^ q < 1073741824 := ⟨Nat.two_pow_pos q, Nat.lt_of_lt_of_le (Nat.pow_lt_pow_right (by decide) hq7) (by decide)⟩
              refine ⟨_, rfl, _, _, rfl, rfl, (by decide : (0 : Int) < 7), u, _, _, .int ((2 ^ q : Nat) : Int), rfl, rfl, SqT.of upd_same, by rw [hq]; exact pw2 q hq7, _, _, rfl, rfl, ⟨by omega, by omega⟩, _, _, rfl, rfl, (by decide : (0 : Int) < 2), rfl, _, DGet.k (k := Sum.inl d) (su _ _ hA17), ?_⟩
              rw [hA3, due_eq, eA d hdm]
              have s18 := s17.trans su
              have li18 := li16.same s18
              obtain ⟨⟨dk18, hk18⟩, hwd18⟩ := id li18.ws.kw_
              have W := li18.ws.wi i e he
              have nk := li18.ws.nk i e he
              have semd := sem i e he d
              have ev : ((aloneF e.l ((ts.map (·.2)).take (cutN tn (ph + 1))) d).map V.bl).getD (.bl (decide (e.m / 2 ^ q % 2 = 1))) = .bl ((e.al d).getD (decide (e.m / 2 ^ q % 2 = 1))) := by
                rw [← semd.1]
                cases e.al d <;> rfl
              rw [ev]
              generalize upd H17 u (.tup [.int 1, .int 2, .int 4, .int 8, .int 16, .int 32, .int 64]) = H18 at *
              refine ⟨_, rfl, kw, dk18, _, rfl, hk18, kw_no wd (by decide +kernel), _, rfl, _, rfl, kw, wd, e.q, e.dx, e.mk', e.ad, e.sd, _, S e.l, 4, e.m, e.kv, e.al, e.sps, d, rfl, li18.ws.kw_, li18.ws.val he, W, by omega, dd.1, dd.2, fun H19 s19 => ?_⟩
              have hS19 := s19 _ _ (s18 _ _ hS1)
              have hsick : ((gs d).map V.bl).getD (.bl false) = .bl (sickOn e.sps d) := by
                rw [eS d hdm, semd.2]
                cases sickF e.l ((ts.map (·.2)).take (cutN tn (ph + 1))) d <;> rfl
              have hh : holdsOn e.m e.al e.sps d = ((e.al d).getD (decide (e.m / 2 ^ q % 2 = 1)) && !sickOn e.sps d) := by
                unfold holdsOn
                rw [hq, Int.toNat_natCast]
                cases sickOn e.sps d <;> simp
              refine ⟨_, rfl, _, rfl, ?_⟩
              refine ite2 (fun c => ?_) (fun c => ?_)
              · refine ⟨_, rfl, sd, rfl, .inl ⟨_, .inl hS19⟩, _, rfl, _, DGet.k (k := Sum.inl d) hS19, ?_⟩
                rw [hS3, hsick]
                refine ⟨_, rfl, rfl, _, rfl, ?_⟩
                rw [hh, c]
                refine iteNS (by simp) ⟨_, _, rfl, s18.trans s19⟩
              · refine ⟨rfl, _, rfl, ?_⟩
                have c' : (e.al d).getD (decide (e.m / 2 ^ q % 2 = 1)) = false := by simpa using c
                rw [hh, c']
                refine iteNS (by simp) ⟨_, _, rfl, s18.trans s19⟩
          · rintro σ H17 ⟨v14, v15, rfl, s17⟩
            exact ⟨_, _, _, _, _, rfl, s1316.trans s17⟩
      · rintro σ H14 ⟨v6, v12, v13, v14, v15, rfl, s14⟩
        exact ⟨es, _, _, _, _, _, _, _, rfl, li.same s14, s14 _ _ htu, nm, sem⟩
    · rintro σ H12 _
      exact hQ H12
end
end K12
set_option Elab.async false
set_option linter.all false
set_option maxRecDepth 100000
set_option maxHeartbeats 0
namespace K12
open PySem PySem.Spec PyProof.Rows L2
open C8 (Cal Mak Met pe_c pe_mk pe_mt pe_mt0)
def fa : List He.Fa := [.glo "is_whole", .glo "is_between", .glo "is_name", .glo "is_day", .glo "is_mask", .glo "check_day", .glo "check_span", .glo "weekdays", .glo "_law_pen", .glo "_law_draw", .glo "_law_names", .glo "_law_span", .glo "_law_turns", .glo "_law_counted", .glo "_law_told", .glo "law", .free "isinstance", .free "int", .free "bool", .free "str", .free "list", .free "range", .free "len", .free "all", .free "any", .free "max", .free "min", .glo "Person", .cls "Person", .mkr "Person", .glo "Wish", .cls "Wish", .mkr "Wish", .glo "Wants", .cls "Wants", .mkr "Wants", .noat "Person" "name", .noat "Person" "seats", .noat "Person" "mask", .noat "Wish" "seats", .noat "Wish" "first", .noat "Wish" "last", .noat "Wish" "masks", .noat "Wish" "alone", .noat "Wish" "spans", .noat "Wants" "wishes", .meth "Wish" "is_sick", .meth "Wish" "mask_on", .meth "Wish" "holds_on", .meth "Wants" "wish_of", .meth "Wants" "enter", .meth "Wants" "only", .meth "Wants" "sick", .meth "Wants" "well", .meth "Wants" "wants", .int "LAST_DAY" 1000000, .int "LAST_MASK" 127, .int "LONGEST_NAME" 8, .int "WEEK" 7, .int "MOST_SEATS" 9]
def xk (K : PySem.W.Frag) : Bool := (fun _ => true) K
abbrev R : PySem.W.OpenRow := PySem.W.OpenLaw.row PySem.Challenge.rw_rideturns_k12_sick_ones_and_well_again
abbrev hk : PySem.W.Hook := He.hookX 6 fa fn [] [] xk
def ob (s : PySem.W.SharedT) : He.AlX := He.obsX 6 fa fn [] [] xk (HandSHeadRun.getT s)
theorem ob_eq (s : PySem.W.SharedT) : ob s = hk.obs s.abs := He.obsX_eq (HandSHeadRun.getT_eq s)
abbrev loose : List Str := [("_wall" : Str), ("BadName" : Str), ("NoNumber" : Str), ("NoName" : Str), ("NoDay" : Str), ("Taken" : Str), ("LAST_DAY" : Str), ("LAST_MASK" : Str), ("LONGEST_NAME" : Str), ("is_whole" : Str), ("is_between" : Str), ("is_name" : Str), ("is_day" : Str), ("is_mask" : Str), ("check_day" : Str), ("check_span" : Str), ("WEEK" : Str), ("mask_text" : Str), ("weekdays" : Str), ("Wish" : Str), ("Wants" : Str), ("MOST_SEATS" : Str), ("Person" : Str), ("_law_pen" : Str), ("_law_draw" : Str), ("_law_names" : Str), ("_law_span" : Str), ("_law_turns" : Str), ("_law_counted" : Str), ("_law_told" : Str)]
theorem run_ (w : World) : HandSHeadRun.RunEq R (PySem.W.view R.prog [36]) hk ob 3000 loose w := by
  intro os
  kernel_rfl
theorem cal_of {P : Program} {w : World} {K : PySem.W.Frag} {mg : Str → Option Value} {base : Heap} {f : Addr} {fd : FuncData} {ps : List Str} {k : Nat} {x : Str} {sp : Sp} (F : FnOk P w K mg base CX0 k f fd ps sp) (g : mg x = some (.ref f)) (kp : PySem.W.keepIn K (.ref f) = true) (b : Binds K fd ps []) : Cal P w K mg base k x sp [] :=
  ⟨f, fd, ps, [], F, g, kp, b, .nil⟩
theorem met_of {P : Program} {w : World} {K : PySem.W.Frag} {mg : Str → Option Value} {base : Heap} {f C : Addr} {fd : FuncData} {ps : List Str} {k : Nat} {m : Str} {sp : Sp} (c : Cls K C) (h : Meth K C m f) (F : FnOk P w K mg base CX0 k f fd ps sp) (b : Binds K fd ps []) : Met P w K mg base k C m sp [] :=
  ⟨f, fd, ps, [], c, h, F, b, .nil⟩
theorem facts {P : Program} {w : World} {K : PySem.W.Frag} {h h0 : Heap} {mg : Str → Option Value} {f : Addr} (X : K.In h) (G : h.Ns mainGlobals mg) (hfa : mg ("law" : Str) = some (.ref f)) (c : He.SaysX fa fn [] [] xk w h0 K) :
    ∃ fd : FuncData, (∀ (s : Shared) (v : Value), BindsTo s fd ⟨[v], []⟩ [("_law_script", v)]) ∧ ∀ base : Heap, K.In base → base.Ns mainGlobals mg → FnOk P w K mg base CX0 8 f fd ["_law_script"] (spLaw K) := by
  have d := c.t.d
  have x := c.more
  have gl : ∀ (i : Nat) (x : Str), fa[i]? = some (.glo x) → mg x = some (.ref (He.ga K x)) := fun i x e => He.glo_ok X G (d.fact i e)
  have fr : ∀ (i : Nat) (x : Str), fa[i]? = some (.free x) → mg x = none := fun i x e => He.free_ok X G (d.fact i e)
  have me : ∀ (i : Nat) (C m : Str), fa[i]? = some (.meth C m) → Meth K (He.ga K C) m (He.ma K (He.ga K C) m) := fun i C m e => He.meth_ok (d.fact i e)
  have gl_is_whole := gl 0 "is_whole" rfl
  have gl_is_between := gl 1 "is_between" rfl
  have gl_is_name := gl 2 "is_name" rfl
  have gl_is_day := gl 3 "is_day" rfl
  have gl_is_mask := gl 4 "is_mask" rfl
  have gl_check_day := gl 5 "check_day" rfl
  have gl_check_span := gl 6 "check_span" rfl
  have gl_weekdays := gl 7 "weekdays" rfl
  have gl__law_pen := gl 8 "_law_pen" rfl
  have gl__law_draw := gl 9 "_law_draw" rfl
  have gl__law_names := gl 10 "_law_names" rfl
  have gl__law_span := gl 11 "_law_span" rfl
  have gl__law_turns := gl 12 "_law_turns" rfl
  have gl__law_counted := gl 13 "_law_counted" rfl
  have gl__law_told := gl 14 "_law_told" rfl
  have gl_law := gl 15 "law" rfl
  have fr_isinstance := fr 16 "isinstance" rfl
  have fr_int := fr 17 "int" rfl
  have fr_bool := fr 18 "bool" rfl
  have fr_str := fr 19 "str" rfl
  have fr_list := fr 20 "list" rfl
  have fr_range := fr 21 "range" rfl
  have fr_len := fr 22 "len" rfl
  have fr_all := fr 23 "all" rfl
  have fr_any := fr 24 "any" rfl
  have fr_max := fr 25 "max" rfl
  have fr_min := fr 26 "min" rfl
  have gl_Person := gl 27 "Person" rfl
  have cls_Person := He.cls_ok (d.fact 28 (f := .cls "Person") rfl)
  have mk_Person := He.mkr_ok (d.fact 29 (f := .mkr "Person") rfl)
  have gl_Wish := gl 30 "Wish" rfl
  have cls_Wish := He.cls_ok (d.fact 31 (f := .cls "Wish") rfl)
  have mk_Wish := He.mkr_ok (d.fact 32 (f := .mkr "Wish") rfl)
  have gl_Wants := gl 33 "Wants" rfl
  have cls_Wants := He.cls_ok (d.fact 34 (f := .cls "Wants") rfl)
  have mk_Wants := He.mkr_ok (d.fact 35 (f := .mkr "Wants") rfl)
  have no_Person_name := He.noat_ok (d.fact 36 (f := .noat "Person" "name") rfl)
  have no_Person_seats := He.noat_ok (d.fact 37 (f := .noat "Person" "seats") rfl)
  have no_Person_mask := He.noat_ok (d.fact 38 (f := .noat "Person" "mask") rfl)
  have no_Wish_seats := He.noat_ok (d.fact 39 (f := .noat "Wish" "seats") rfl)
  have no_Wish_first := He.noat_ok (d.fact 40 (f := .noat "Wish" "first") rfl)
  have no_Wish_last := He.noat_ok (d.fact 41 (f := .noat "Wish" "last") rfl)
  have no_Wish_masks := He.noat_ok (d.fact 42 (f := .noat "Wish" "masks") rfl)
  have no_Wish_alone := He.noat_ok (d.fact 43 (f := .noat "Wish" "alone") rfl)
  have no_Wish_spans := He.noat_ok (d.fact 44 (f := .noat "Wish" "spans") rfl)
  have no_Wants_wishes := He.noat_ok (d.fact 45 (f := .noat "Wants" "wishes") rfl)
  have me_Wish_is_sick := me 46 "Wish" "is_sick" rfl
  have me_Wish_mask_on := me 47 "Wish" "mask_on" rfl
  have me_Wish_holds_on := me 48 "Wish" "holds_on" rfl
  have me_Wants_wish_of := me 49 "Wants" "wish_of" rfl
  have me_Wants_enter := me 50 "Wants" "enter" rfl
  have me_Wants_only := me 51 "Wants" "only" rfl
  have me_Wants_sick := me 52 "Wants" "sick" rfl
  have me_Wants_well := me 53 "Wants" "well" rfl
  have me_Wants_wants := me 54 "Wants" "wants" rfl
  have val_LAST_DAY := He.int_ok X G (d.fact 55 (f := .int "LAST_DAY" 1000000) rfl)
  have val_LAST_MASK := He.int_ok X G (d.fact 56 (f := .int "LAST_MASK" 127) rfl)
  have val_LONGEST_NAME := He.int_ok X G (d.fact 57 (f := .int "LONGEST_NAME" 8) rfl)
  have val_WEEK := He.int_ok X G (d.fact 58 (f := .int "WEEK" 7) rfl)
  have val_MOST_SEATS := He.int_ok X G (d.fact 59 (f := .int "MOST_SEATS" 9) rfl)
  obtain ⟨fd_is_whole, D_is_whole⟩ := d.def_ 6 (d := d_is_whole) rfl
  obtain ⟨fd_is_between, D_is_between⟩ := d.def_ 7 (d := d_is_between) rfl
  obtain ⟨fd_is_name, D_is_name⟩ := d.def_ 8 (d := d_is_name) rfl
  obtain ⟨fd_is_day, D_is_day⟩ := d.def_ 9 (d := d_is_day) rfl
  obtain ⟨fd_is_mask, D_is_mask⟩ := d.def_ 10 (d := d_is_mask) rfl
  obtain ⟨fd_check_day, D_check_day⟩ := d.def_ 11 (d := d_check_day) rfl
  obtain ⟨fd_check_span, D_check_span⟩ := d.def_ 12 (d := d_check_span) rfl
  obtain ⟨fd_weekdays, D_weekdays⟩ := d.def_ 14 (d := d_weekdays) rfl
  obtain ⟨fd_Wish_init, D_Wish_init⟩ := d.def_ 15 (d := d_Wish_init) rfl
  obtain ⟨fd_Wish_is_sick, D_Wish_is_sick⟩ := d.def_ 16 (d := d_Wish_is_sick) rfl
  obtain ⟨fd_Wish_mask_on, D_Wish_mask_on⟩ := d.def_ 17 (d := d_Wish_mask_on) rfl
  obtain ⟨fd_Wish_holds_on, D_Wish_holds_on⟩ := d.def_ 18 (d := d_Wish_holds_on) rfl
  obtain ⟨fd_Wants_init, D_Wants_init⟩ := d.def_ 19 (d := d_Wants_init) rfl
  obtain ⟨fd_Wants_wish_of, D_Wants_wish_of⟩ := d.def_ 20 (d := d_Wants_wish_of) rfl
  obtain ⟨fd_Wants_enter, D_Wants_enter⟩ := d.def_ 21 (d := d_Wants_enter) rfl
  obtain ⟨fd_Wants_only, D_Wants_only⟩ := d.def_ 24 (d := d_Wants_only) rfl
  obtain ⟨fd_Wants_sick, D_Wants_sick⟩ := d.def_ 26 (d := d_Wants_sick) rfl
  obtain ⟨fd_Wants_well, D_Wants_well⟩ := d.def_ 27 (d := d_Wants_well) rfl
  obtain ⟨fd_Wants_wants, D_Wants_wants⟩ := d.def_ 28 (d := d_Wants_wants) rfl
  obtain ⟨fd_Person_init, D_Person_init⟩ := d.def_ 31 (d := d_Person_init) rfl
  obtain ⟨fd_l_pen, D_l_pen⟩ := d.def_ 35 (d := d_l_pen) rfl
  obtain ⟨fd_l_draw, D_l_draw⟩ := d.def_ 36 (d := d_l_draw) rfl
  obtain ⟨fd_l_names, D_l_names⟩ := d.def_ 37 (d := d_l_names) rfl
  obtain ⟨fd_l_span, D_l_span⟩ := d.def_ 38 (d := d_l_span) rfl
  obtain ⟨fd_l_turns, D_l_turns⟩ := d.def_ 39 (d := d_l_turns) rfl
  obtain ⟨fd_l_counted, D_l_counted⟩ := d.def_ 40 (d := d_l_counted) rfl
  obtain ⟨fd_l_told, D_l_told⟩ := d.def_ 41 (d := d_l_told) rfl
  obtain ⟨fd_law, D_law⟩ := d.def_ 42 (d := d_law) rfl
  have e := hfa.symm.trans gl_law
  cases e
  have bL := FunD.bindsA (ps := ["_law_script"]) D_law fun _ _ _ _ _ _ us hl => match us, hl with | [_], _ => rfl
  refine ⟨fd_law, fun s v => bL s [v] rfl, fun base _ _ => ?_⟩
  have b_is_whole : Binds K fd_is_whole ["thing"] [] := D_is_whole.bindsN fun _ _ _ _ _ _ us hl => match us, hl with | [_], _ => rfl
  have b_is_between : Binds K fd_is_between ["thing", "low", "high"] [] := D_is_between.bindsN fun _ _ _ _ _ _ us hl => match us, hl with | [_, _, _], _ => rfl
  have b_is_name : Binds K fd_is_name ["thing"] [] := D_is_name.bindsN fun _ _ _ _ _ _ us hl => match us, hl with | [_], _ => rfl
  have b_is_day : Binds K fd_is_day ["thing"] [] := D_is_day.bindsN fun _ _ _ _ _ _ us hl => match us, hl with | [_], _ => rfl
  have b_is_mask : Binds K fd_is_mask ["thing"] [] := D_is_mask.bindsN fun _ _ _ _ _ _ us hl => match us, hl with | [_], _ => rfl
  have b_check_day : Binds K fd_check_day ["thing"] [] := D_check_day.bindsN fun _ _ _ _ _ _ us hl => match us, hl with | [_], _ => rfl
  have b_check_span : Binds K fd_check_span ["first", "last"] [] := D_check_span.bindsN fun _ _ _ _ _ _ us hl => match us, hl with | [_, _], _ => rfl
  have b_weekdays : Binds K fd_weekdays ["mask"] [] := D_weekdays.bindsN fun _ _ _ _ _ _ us hl => match us, hl with | [_], _ => rfl
  have b_Wish_init : Binds K fd_Wish_init ["self", "person", "day"] [] := D_Wish_init.bindsN fun _ _ _ _ _ _ us hl => match us, hl with | [_, _, _], _ => rfl
  have b_Wish_is_sick : Binds K fd_Wish_is_sick ["self", "day"] [] := D_Wish_is_sick.bindsN fun _ _ _ _ _ _ us hl => match us, hl with | [_, _], _ => rfl
  have b_Wish_mask_on : Binds K fd_Wish_mask_on ["self", "day"] [] := D_Wish_mask_on.bindsN fun _ _ _ _ _ _ us hl => match us, hl with | [_, _], _ => rfl
  have b_Wish_holds_on : Binds K fd_Wish_holds_on ["self", "day"] [] := D_Wish_holds_on.bindsN fun _ _ _ _ _ _ us hl => match us, hl with | [_, _], _ => rfl
  have b_Wants_init : Binds K fd_Wants_init ["self"] [] := D_Wants_init.bindsN fun _ _ _ _ _ _ us hl => match us, hl with | [_], _ => rfl
  have b_Wants_wish_of : Binds K fd_Wants_wish_of ["self", "name"] [] := D_Wants_wish_of.bindsN fun _ _ _ _ _ _ us hl => match us, hl with | [_, _], _ => rfl
  have b_Wants_enter : Binds K fd_Wants_enter ["self", "person", "day"] [] := by
    obtain ⟨ds, h1, h2⟩ := D_Wants_enter.binds1 (ps := ["self", "person", "day"]) 3 1 (List.cons_ne_nil _ _) rfl (fun T kV doc pm an cdv ct us its hl h1 => match us, hl, its, h1 with | [_, _, _], _, [_], _ => ⟨_, rfl, rfl⟩)
    cases h1
    exact h2
  obtain ⟨ds1_Wants_enter, v1_Wants_enter, b1_Wants_enter⟩ := D_Wants_enter.binds1 (ps := ["self", "person", "day"]) 2 0 (List.cons_ne_nil _ _) rfl (fun T kV doc pm an cdv ct us its hl h1 => match us, hl, its, h1 with | [_, _], _, [_], _ => ⟨_, rfl, rfl⟩)
  have b_Wants_only : Binds K fd_Wants_only ["self", "name", "day", "want"] [] := by
    obtain ⟨ds, h1, h2⟩ := D_Wants_only.binds1 (ps := ["self", "name", "day", "want"]) 4 1 (List.cons_ne_nil _ _) rfl (fun T kV doc pm an cdv ct us its hl h1 => match us, hl, its, h1 with | [_, _, _, _], _, [_], _ => ⟨_, rfl, rfl⟩)
    cases h1
    exact h2
  obtain ⟨ds1_Wants_only, v1_Wants_only, b1_Wants_only⟩ := D_Wants_only.binds1 (ps := ["self", "name", "day", "want"]) 3 0 (List.cons_ne_nil _ _) rfl (fun T kV doc pm an cdv ct us its hl h1 => match us, hl, its, h1 with | [_, _, _], _, [_], _ => ⟨_, rfl, rfl⟩)
  have b_Wants_sick : Binds K fd_Wants_sick ["self", "name", "first", "last"] [] := D_Wants_sick.bindsN fun _ _ _ _ _ _ us hl => match us, hl with | [_, _, _, _], _ => rfl
  have b_Wants_well : Binds K fd_Wants_well ["self", "name", "day"] [] := D_Wants_well.bindsN fun _ _ _ _ _ _ us hl => match us, hl with | [_, _, _], _ => rfl
  have b_Wants_wants : Binds K fd_Wants_wants ["self", "name", "day"] [] := D_Wants_wants.bindsN fun _ _ _ _ _ _ us hl => match us, hl with | [_, _, _], _ => rfl
  have b_Person_init : Binds K fd_Person_init ["self", "name", "seats", "mask"] [] := by
    obtain ⟨ds, h1, h2⟩ := D_Person_init.binds1 (ps := ["self", "name", "seats", "mask"]) 4 2 (List.cons_ne_nil _ _) rfl (fun T kV doc pm an cdv ct us its hl h1 => match us, hl, its, h1 with | [_, _, _, _], _, [_, _], _ => ⟨_, rfl, rfl⟩)
    cases h1
    exact h2
  obtain ⟨ds2_Person_init, v2_Person_init, b2_Person_init⟩ := D_Person_init.binds1 (ps := ["self", "name", "seats", "mask"]) 2 0 (List.cons_ne_nil _ _) rfl (fun T kV doc pm an cdv ct us its hl h1 => match us, hl, its, h1 with | [_, _], _, [_, _], _ => ⟨_, rfl, rfl⟩)
  obtain ⟨ds1_Person_init, v1_Person_init, b1_Person_init⟩ := D_Person_init.binds1 (ps := ["self", "name", "seats", "mask"]) 3 1 (List.cons_ne_nil _ _) rfl (fun T kV doc pm an cdv ct us its hl h1 => match us, hl, its, h1 with | [_, _, _], _, [_, _], _ => ⟨_, rfl, rfl⟩)
  have b_l_pen : Binds K fd_l_pen ["_law_script"] [] := D_l_pen.bindsN fun _ _ _ _ _ _ us hl => match us, hl with | [_], _ => rfl
  have b_l_draw : Binds K fd_l_draw ["_law_pen_here", "_law_many"] [] := D_l_draw.bindsN fun _ _ _ _ _ _ us hl => match us, hl with | [_, _], _ => rfl
  have b_l_names : Binds K fd_l_names ["_law_pen_here", "_law_many"] [] := D_l_names.bindsN fun _ _ _ _ _ _ us hl => match us, hl with | [_, _], _ => rfl
  have b_l_span : Binds K fd_l_span ["_law_pen_here", "_law_told_here", "_law_base"] [] := D_l_span.bindsN fun _ _ _ _ _ _ us hl => match us, hl with | [_, _, _], _ => rfl
  have b_l_turns : Binds K fd_l_turns ["_law_pen_here", "_law_known", "_law_base"] [] := D_l_turns.bindsN fun _ _ _ _ _ _ us hl => match us, hl with | [_, _, _], _ => rfl
  have b_l_counted : Binds K fd_l_counted ["_law_turns_here", "_law_called", "_law_days"] [] := D_l_counted.bindsN fun _ _ _ _ _ _ us hl => match us, hl with | [_, _, _], _ => rfl
  have b_l_told : Binds K fd_l_told ["_law_kept", "_law_turn", "_law_is_named"] [] := D_l_told.bindsN fun _ _ _ _ _ _ us hl => match us, hl with | [_, _, _], _ => rfl
  have b_law : Binds K fd_law ["_law_script"] [] := D_law.bindsN fun _ _ _ _ _ _ us hl => match us, hl with | [_], _ => rfl
  have B : Bl mg := ⟨fr_isinstance, fr_int, fr_bool, fr_str, fr_list, fr_range, fr_len, fr_all, fr_any, fr_max, fr_min⟩
  have TP : ClP K mg (He.ga K "Person") := ⟨cls_Person, no_Person_name, no_Person_seats, no_Person_mask, gl_Person⟩
  have TW : ClW K mg (He.ga K "Wish") := ⟨cls_Wish, no_Wish_seats, no_Wish_first, no_Wish_last, no_Wish_masks, no_Wish_alone, no_Wish_spans, gl_Wish⟩
  have TK : ClK K mg (He.ga K "Wants") := ⟨cls_Wants, no_Wants_wishes, gl_Wants⟩
  have cW : CalW P w K mg base := cal_of (ok_whole D_is_whole B) gl_is_whole D_is_whole.kp b_is_whole
  have cB : CalB P w K mg base := cal_of (ok_between D_is_between cW) gl_is_between D_is_between.kp b_is_between
  have cNa := cal_of (P := P) (w := w) (base := base) (ok_name D_is_name B val_LONGEST_NAME) gl_is_name D_is_name.kp b_is_name
  have cDy := cal_of (ok_day D_is_day cB val_LAST_DAY) gl_is_day D_is_day.kp b_is_day
  have cMa := cal_of (ok_mask D_is_mask cB val_LAST_MASK) gl_is_mask D_is_mask.kp b_is_mask
  have cCh : CalC P w K mg base := cal_of (ok_check D_check_day cDy) gl_check_day D_check_day.kp b_check_day
  have cWd := cal_of (P := P) (w := w) (base := base) (ok_wd D_weekdays B val_WEEK) gl_weekdays D_weekdays.kp b_weekdays
  have mS := met_of (P := P) (w := w) (base := base) TW.cl me_Wish_is_sick (ok_sickOn D_Wish_is_sick B TW) b_Wish_is_sick
  have mM := met_of (P := P) (w := w) (base := base) TW.cl me_Wish_mask_on (ok_maskOn D_Wish_mask_on B TW) b_Wish_mask_on
  have mH := met_of (P := P) (w := w) (base := base) TW.cl me_Wish_holds_on (ok_holds D_Wish_holds_on B TW mS mM cWd val_WEEK) b_Wish_holds_on
  have mWo : MetW P w K mg base (He.ga K "Wants") := met_of TK.cl me_Wants_wish_of (ok_wishOf D_Wants_wish_of B TK) b_Wants_wish_of
  have cSn := cal_of (ok_spanC D_check_span cCh) gl_check_span D_check_span.kp b_check_span
  have FSi := ok_sick (C := He.ga K "Wants") (CW := He.ga K "Wish") D_Wants_sick mWo cSn TW
  have FWe := ok_well (C := He.ga K "Wants") (CW := He.ga K "Wish") D_Wants_well B mWo cCh TW
  have FOn := ok_only (C := He.ga K "Wants") (CW := He.ga K "Wish") D_Wants_only B mWo cCh TW
  have mWa := met_of TK.cl me_Wants_wants (ok_wants D_Wants_wants mWo cCh mH) b_Wants_wants
  have MW : MakW P w K mg base (He.ga K "Wish") (He.ga K "Person") := ⟨_, _, _, _, mk_Wish, ok_winit D_Wish_init TW TP val_LAST_DAY, TW.g, b_Wish_init, .nil⟩
  have FEn := ok_enter (C := He.ga K "Wants") D_Wants_enter TK TP cCh MW
  have mEn : Met P w K mg base 5 (He.ga K "Wants") "enter" (spEnter (He.ga K "Wants") (He.ga K "Wish") (He.ga K "Person")) [.int 0] := ⟨_, _, _, _, TK.cl, me_Wants_enter, FEn, b1_Wants_enter, v1_Wants_enter⟩
  have MP : Mak P w K mg base 4 "Person" (He.ga K "Person") (spPI (He.ga K "Person")) [] := ⟨_, _, _, _, mk_Person, ok_pinit D_Person_init cNa cB cMa TP val_MOST_SEATS, TP.g, b_Person_init, .nil⟩
  have cPn := cal_of (P := P) (w := w) (base := base) (ok_pen D_l_pen B) gl__law_pen D_l_pen.kp b_l_pen
  have cD : CalD P w K mg base := cal_of (ok_draw D_l_draw B) gl__law_draw D_l_draw.kp b_l_draw
  have cNm := cal_of (ok_names D_l_names B cD) gl__law_names D_l_names.kp b_l_names
  have cSp := cal_of (ok_span D_l_span B fr_min fr_max cD) gl__law_span D_l_span.kp b_l_span
  have cTu := cal_of (ok_turns D_l_turns B cD cSp) gl__law_turns D_l_turns.kp b_l_turns
  have cCo := cal_of (P := P) (w := w) (base := base) (ok_counted D_l_counted) gl__law_counted D_l_counted.kp b_l_counted
  have kS := KW.kb0 (ps := psS) D_Wants_sick 1 ["last", "first", "name"] (fun us ws => us ++ (ws.drop 2 ++ ((ws.drop 1).take 1 ++ ws.take 1))) (fun r s => r.append ((s.drop 2).append (((s.drop 1).take 1).append (s.take 1)))) (fun kV doc pm an cdv ct us ws h1 h2 => match us, h1, ws, h2 with | [_], _, [_, _, _], _ => rfl)
  have kW := KW.kb0 (ps := psW) D_Wants_well 1 ["day", "name"] (fun us ws => us ++ (ws.drop 1 ++ ws.take 1)) (fun r s => r.append ((s.drop 1).append (s.take 1))) (fun kV doc pm an cdv ct us ws h1 h2 => match us, h1, ws, h2 with | [_], _, [_, _], _ => rfl)
  obtain ⟨iO, kO⟩ := KW.kb1 (ps := psO) D_Wants_only 1 ["want", "name", "day"] (fun us its ws => us ++ (ws.drop 1 ++ ws.take 1)) (List.cons_ne_nil _ _) (fun r _ s => r.append ((s.drop 1).append (s.take 1))) (fun T kV doc pm an cdv ct us its ws h1 h2 h3 => match us, h1, its, h2, ws, h3 with | [_], _, [_], _, [_, _, _], _ => ⟨_, rfl, rfl⟩)
  have TM : Tm P w K mg base (He.ga K "Wants") (He.ga K "Wish") := ⟨TK.cl, met_of TK.cl me_Wants_sick FSi b_Wants_sick, met_of TK.cl me_Wants_well FWe b_Wants_well, met_of TK.cl me_Wants_only FOn b_Wants_only⟩
  have cTo := cal_of (ok_told D_l_told TM me_Wants_sick FSi me_Wants_well FWe me_Wants_only FOn kS kW kO) gl__law_told D_l_told.kp b_l_told
  exact ok_law D_law B TK mk_Wants (ok_kinit D_Wants_init TK) b_Wants_init cPn cD cNm MP mEn mWa cTu cCo cTo
end K12
open PySem PySem.W PySem.Calls PyProof.Rows
set_option maxRecDepth 100000 in
set_option maxHeartbeats 0 in
theorem PySem.Challenge.cw_rideturns_k12_sick_ones_and_well_again_holds : PySem.Challenge.rw_rideturns_k12_sick_ones_and_well_again.Holds := by
  w_on; o_law
  refine HandSHeadRun.head_any (r := OpenLaw.row PySem.Challenge.rw_rideturns_k12_sick_ones_and_well_again) (q := view (OpenLaw.row PySem.Challenge.rw_rideturns_k12_sick_ones_and_well_again).prog [36]) (H := K12.hk) (ob := K12.ob) (M := 3000) (loose := K12.loose) (d := HandSHeadRun.topDef (OpenLaw.row PySem.Challenge.rw_rideturns_k12_sick_ones_and_well_again).prog 36) (kwd := []) K12.ob_eq
    (by kernel_rfl) (fun s => by kernel_rfl) K12.run_ (by kernel_rfl) (by kernel_rfl) (by kernel_rfl) (by rfl) (by first | assumption | decide +kernel) (by decide +kernel) ⟨rfl, rfl, rfl, rfl, rfl, by decide +kernel⟩ ?hw ?hc
  case hw => w_witness2
  case hc =>
    refine L2.walk_ofE (l := PySem.Challenge.rw_rideturns_k12_sick_ones_and_well_again) (n := 63) (k := 8) (x := "_law_script") (CX := L2.CX0) rfl (by decide) (by kernel_rfl) ⟨rfl, by decide, by decide⟩ ?F (fun _ _ _ _ z => z)
    intro w mg fa h Y G hmg0
    obtain ⟨K, KX, c⟩ := Y
    have hmg : mg ("law" : PySem.Str) = some (.ref fa) := by
      have e : (HandSHeadRun.topDef (OpenLaw.row PySem.Challenge.rw_rideturns_k12_sick_ones_and_well_again).prog 36).name = ("law" : PySem.Str) := by kernel_rfl
      rw [← e]
      exact hmg0
    obtain ⟨fd, hb, hF⟩ := K12.facts (P := (PySem.Challenge.rw_rideturns_k12_sick_ones_and_well_again).prog) (w := w) KX G hmg c
    exact ⟨K, fd, K12.spLaw K, KX, hb, fun H a ns hl _ hS => ⟨a, ns, rfl, hS, hl, fun _ => rfl⟩, hF⟩
