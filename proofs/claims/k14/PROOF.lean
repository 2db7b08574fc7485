import PyProof.Rows.All
import Wide.All
import OpenK.AllK
import Wide.FinOn
import HandS.ForMost
import HandS.ForExc
import HandS.Defaults
import HandS.Codes
import HandS.IsInst
import HandS.Wide
import HandS.Flow
import HandS.Evl
import HandS.Steps
import HandS.ExcField
import HandS.Head0
import HandS.Head1
import HandS.Head2
import HandS.HeadEnd
import HandS.HeadHook1
import HandS.HeadHook2
import HandS.HeadHook3
import HandS.HeadHook4
import KE.KExcInit
import HandS.ExcInit
import PyProof.Rows.FactsExc_KeyError
import PyProof.ExcBaseAll.LookupError
import HandS.Style
import HandS.Comp
import HandS.Text
import HandS.More
import PyProof.StrOps2
import HandS.Walk
import HandS.StrMore
import PyProof.WalkInts
import HandS.WideBits
import HandS.DictComp
import HandS.List
import HandS.Call
import KE.SortCalls
import KE.SortKeyed
import HandS.Deep
import HandS.Dict
import KE.LtData
import HandS.RaiseMore
import KE.KCallOwn
import PyProof.ReprRoads
import PyProof.ReprDict
import HandS.Iter
import HandS.OwnEq
import HandS.DictTup
import KE.SortData
import KE.DatumOrd
import PyProof.ReprLen
import HandS.Words
import HandS.MakeKw
import HandS.MakeKwOnly
import HandS.ExcOwn
import HandS.TryOnly
import PyProof.Rows.FactsExc_LookupError
import KE.KxField
import HandS.Base
import HandS.FStr
import PySem.Challenge.RW_rideturns_k14_whole_wants_there_and_back
set_option Elab.async false
set_option linter.all false
set_option maxRecDepth 100000
set_option maxHeartbeats 4000000
namespace K14
open PySem PySem.Spec PyProof.Rows L2
def top (i : Nat) : Stmt := PySem.Challenge.pw_rideturns_k14_whole_wants_there_and_back.main.body.getD i (.Pass ⟨0, 0, 0, 0⟩)
abbrev s_BadName_init : Stmt := inClass (top 1) 0
abbrev N_BadName_init : List Str := ["self", "name"]
theorem sc_BadName_init : FnScope N_BadName_init ["self", "name"] (defScope s_BadName_init) := ⟨rfl, rfl, rfl, by decide +kernel, rfl, by decide +kernel, by decide +kernel⟩
def d_BadName_init : He.DefD := ⟨("BadName", some "__init__"), "__init__", "BadName.__init__", defArgs s_BadName_init, defBody s_BadName_init, defScope s_BadName_init, [], []⟩
abbrev s_NoNumber_init : Stmt := inClass (top 2) 0
abbrev N_NoNumber_init : List Str := ["self", "thing"]
theorem sc_NoNumber_init : FnScope N_NoNumber_init ["self", "thing"] (defScope s_NoNumber_init) := ⟨rfl, rfl, rfl, by decide +kernel, rfl, by decide +kernel, by decide +kernel⟩
def d_NoNumber_init : He.DefD := ⟨("NoNumber", some "__init__"), "__init__", "NoNumber.__init__", defArgs s_NoNumber_init, defBody s_NoNumber_init, defScope s_NoNumber_init, [], []⟩
abbrev s_NoText_init : Stmt := inClass (top 3) 0
abbrev N_NoText_init : List Str := ["self", "row"]
theorem sc_NoText_init : FnScope N_NoText_init ["self", "row"] (defScope s_NoText_init) := ⟨rfl, rfl, rfl, by decide +kernel, rfl, by decide +kernel, by decide +kernel⟩
def d_NoText_init : He.DefD := ⟨("NoText", some "__init__"), "__init__", "NoText.__init__", defArgs s_NoText_init, defBody s_NoText_init, defScope s_NoText_init, [], []⟩
abbrev s_NoName_init : Stmt := inClass (top 4) 0
abbrev N_NoName_init : List Str := ["self", "name"]
theorem sc_NoName_init : FnScope N_NoName_init ["self", "name"] (defScope s_NoName_init) := ⟨rfl, rfl, rfl, by decide +kernel, rfl, by decide +kernel, by decide +kernel⟩
def d_NoName_init : He.DefD := ⟨("NoName", some "__init__"), "__init__", "NoName.__init__", defArgs s_NoName_init, defBody s_NoName_init, defScope s_NoName_init, [], []⟩
abbrev s_NoDay_init : Stmt := inClass (top 5) 0
abbrev N_NoDay_init : List Str := ["self", "day"]
theorem sc_NoDay_init : FnScope N_NoDay_init ["self", "day"] (defScope s_NoDay_init) := ⟨rfl, rfl, rfl, by decide +kernel, rfl, by decide +kernel, by decide +kernel⟩
def d_NoDay_init : He.DefD := ⟨("NoDay", some "__init__"), "__init__", "NoDay.__init__", defArgs s_NoDay_init, defBody s_NoDay_init, defScope s_NoDay_init, [], []⟩
abbrev s_Taken_init : Stmt := inClass (top 6) 0
abbrev N_Taken_init : List Str := ["self", "name"]
theorem sc_Taken_init : FnScope N_Taken_init ["self", "name"] (defScope s_Taken_init) := ⟨rfl, rfl, rfl, by decide +kernel, rfl, by decide +kernel, by decide +kernel⟩
def d_Taken_init : He.DefD := ⟨("Taken", some "__init__"), "__init__", "Taken.__init__", defArgs s_Taken_init, defBody s_Taken_init, defScope s_Taken_init, [], []⟩
abbrev s_is_whole : Stmt := top 11
abbrev N_is_whole : List Str := ["thing"]
theorem sc_is_whole : FnScope N_is_whole ["thing"] (defScope s_is_whole) := ⟨rfl, rfl, rfl, by decide +kernel, rfl, by decide +kernel, by decide +kernel⟩
def d_is_whole : He.DefD := ⟨("is_whole", none), "is_whole", "is_whole", defArgs s_is_whole, defBody s_is_whole, defScope s_is_whole, [], []⟩
abbrev s_is_between : Stmt := top 12
abbrev N_is_between : List Str := ["thing", "low", "high"]
theorem sc_is_between : FnScope N_is_between ["thing", "low", "high"] (defScope s_is_between) := ⟨rfl, rfl, rfl, by decide +kernel, rfl, by decide +kernel, by decide +kernel⟩
def d_is_between : He.DefD := ⟨("is_between", none), "is_between", "is_between", defArgs s_is_between, defBody s_is_between, defScope s_is_between, [], []⟩
abbrev s_is_name : Stmt := top 13
abbrev N_is_name : List Str := ["thing", "sign"]
theorem sc_is_name : FnScope N_is_name ["thing"] (defScope s_is_name) := ⟨rfl, rfl, rfl, by decide +kernel, rfl, by decide +kernel, by decide +kernel⟩
def d_is_name : He.DefD := ⟨("is_name", none), "is_name", "is_name", defArgs s_is_name, defBody s_is_name, defScope s_is_name, [], []⟩
abbrev s_is_day : Stmt := top 14
abbrev N_is_day : List Str := ["thing"]
theorem sc_is_day : FnScope N_is_day ["thing"] (defScope s_is_day) := ⟨rfl, rfl, rfl, by decide +kernel, rfl, by decide +kernel, by decide +kernel⟩
def d_is_day : He.DefD := ⟨("is_day", none), "is_day", "is_day", defArgs s_is_day, defBody s_is_day, defScope s_is_day, [], []⟩
abbrev s_is_mask : Stmt := top 15
abbrev N_is_mask : List Str := ["thing"]
theorem sc_is_mask : FnScope N_is_mask ["thing"] (defScope s_is_mask) := ⟨rfl, rfl, rfl, by decide +kernel, rfl, by decide +kernel, by decide +kernel⟩
def d_is_mask : He.DefD := ⟨("is_mask", none), "is_mask", "is_mask", defArgs s_is_mask, defBody s_is_mask, defScope s_is_mask, [], []⟩
abbrev s_check_day : Stmt := top 16
abbrev N_check_day : List Str := ["thing"]
theorem sc_check_day : FnScope N_check_day ["thing"] (defScope s_check_day) := ⟨rfl, rfl, rfl, by decide +kernel, rfl, by decide +kernel, by decide +kernel⟩
def d_check_day : He.DefD := ⟨("check_day", none), "check_day", "check_day", defArgs s_check_day, defBody s_check_day, defScope s_check_day, [], []⟩
abbrev s_check_span : Stmt := top 17
abbrev N_check_span : List Str := ["first", "last"]
theorem sc_check_span : FnScope N_check_span ["first", "last"] (defScope s_check_span) := ⟨rfl, rfl, rfl, by decide +kernel, rfl, by decide +kernel, by decide +kernel⟩
def d_check_span : He.DefD := ⟨("check_span", none), "check_span", "check_span", defArgs s_check_span, defBody s_check_span, defScope s_check_span, [], []⟩
abbrev s_mask_text : Stmt := top 21
abbrev N_mask_text : List Str := ["mask"]
theorem sc_mask_text : FnScope N_mask_text ["mask"] (defScope s_mask_text) := ⟨rfl, rfl, rfl, by decide +kernel, rfl, by decide +kernel, by decide +kernel⟩
def d_mask_text : He.DefD := ⟨("mask_text", none), "mask_text", "mask_text", defArgs s_mask_text, defBody s_mask_text, defScope s_mask_text, [], []⟩
abbrev s_mask_of : Stmt := top 22
abbrev N_mask_of : List Str := ["text", "high", "low"]
theorem sc_mask_of : FnScope N_mask_of ["text"] (defScope s_mask_of) := ⟨rfl, rfl, rfl, by decide +kernel, rfl, by decide +kernel, by decide +kernel⟩
def d_mask_of : He.DefD := ⟨("mask_of", none), "mask_of", "mask_of", defArgs s_mask_of, defBody s_mask_of, defScope s_mask_of, [], []⟩
abbrev s_weekdays : Stmt := top 23
abbrev N_weekdays : List Str := ["mask", "day"]
theorem sc_weekdays : FnScope N_weekdays ["mask"] (defScope s_weekdays) := ⟨rfl, rfl, rfl, by decide +kernel, rfl, by decide +kernel, by decide +kernel⟩
def d_weekdays : He.DefD := ⟨("weekdays", none), "weekdays", "weekdays", defArgs s_weekdays, defBody s_weekdays, defScope s_weekdays, [], []⟩
abbrev s_mask_from : Stmt := top 24
abbrev N_mask_from : List Str := ["days", "mask", "day"]
theorem sc_mask_from : FnScope N_mask_from ["days"] (defScope s_mask_from) := ⟨rfl, rfl, rfl, by decide +kernel, rfl, by decide +kernel, by decide +kernel⟩
def d_mask_from : He.DefD := ⟨("mask_from", none), "mask_from", "mask_from", defArgs s_mask_from, defBody s_mask_from, defScope s_mask_from, [], []⟩
abbrev s_Wish_init : Stmt := inClass (top 26) 0
abbrev N_Wish_init : List Str := ["self", "person", "day"]
theorem sc_Wish_init : FnScope N_Wish_init ["self", "person", "day"] (defScope s_Wish_init) := ⟨rfl, rfl, rfl, by decide +kernel, rfl, by decide +kernel, by decide +kernel⟩
def d_Wish_init : He.DefD := ⟨("Wish", some "__init__"), "__init__", "Wish.__init__", defArgs s_Wish_init, defBody s_Wish_init, defScope s_Wish_init, [], []⟩
abbrev s_Wish_is_sick : Stmt := inClass (top 26) 1
abbrev N_Wish_is_sick : List Str := ["self", "day", "first", "last"]
theorem sc_Wish_is_sick : FnScope N_Wish_is_sick ["self", "day"] (defScope s_Wish_is_sick) := ⟨rfl, rfl, rfl, by decide +kernel, rfl, by decide +kernel, by decide +kernel⟩
def d_Wish_is_sick : He.DefD := ⟨("Wish", some "is_sick"), "is_sick", "Wish.is_sick", defArgs s_Wish_is_sick, defBody s_Wish_is_sick, defScope s_Wish_is_sick, [], []⟩
abbrev s_Wish_mask_on : Stmt := inClass (top 26) 2
abbrev N_Wish_mask_on : List Str := ["self", "day", "start"]
theorem sc_Wish_mask_on : FnScope N_Wish_mask_on ["self", "day"] (defScope s_Wish_mask_on) := ⟨rfl, rfl, rfl, by decide +kernel, rfl, by decide +kernel, by decide +kernel⟩
def d_Wish_mask_on : He.DefD := ⟨("Wish", some "mask_on"), "mask_on", "Wish.mask_on", defArgs s_Wish_mask_on, defBody s_Wish_mask_on, defScope s_Wish_mask_on, [], []⟩
abbrev s_Wish_holds_on : Stmt := inClass (top 26) 3
abbrev N_Wish_holds_on : List Str := ["self", "day"]
theorem sc_Wish_holds_on : FnScope N_Wish_holds_on ["self", "day"] (defScope s_Wish_holds_on) := ⟨rfl, rfl, rfl, by decide +kernel, rfl, by decide +kernel, by decide +kernel⟩
def d_Wish_holds_on : He.DefD := ⟨("Wish", some "holds_on"), "holds_on", "Wish.holds_on", defArgs s_Wish_holds_on, defBody s_Wish_holds_on, defScope s_Wish_holds_on, [], []⟩
abbrev s_Wants_init : Stmt := inClass (top 27) 0
abbrev N_Wants_init : List Str := ["self"]
theorem sc_Wants_init : FnScope N_Wants_init ["self"] (defScope s_Wants_init) := ⟨rfl, rfl, rfl, by decide +kernel, rfl, by decide +kernel, by decide +kernel⟩
def d_Wants_init : He.DefD := ⟨("Wants", some "__init__"), "__init__", "Wants.__init__", defArgs s_Wants_init, defBody s_Wants_init, defScope s_Wants_init, [], []⟩
abbrev s_Wants_wish_of : Stmt := inClass (top 27) 1
abbrev N_Wants_wish_of : List Str := ["self", "name"]
theorem sc_Wants_wish_of : FnScope N_Wants_wish_of ["self", "name"] (defScope s_Wants_wish_of) := ⟨rfl, rfl, rfl, by decide +kernel, rfl, by decide +kernel, by decide +kernel⟩
def d_Wants_wish_of : He.DefD := ⟨("Wants", some "wish_of"), "wish_of", "Wants.wish_of", defArgs s_Wants_wish_of, defBody s_Wants_wish_of, defScope s_Wants_wish_of, [], []⟩
abbrev s_Wants_enter : Stmt := inClass (top 27) 2
abbrev N_Wants_enter : List Str := ["self", "person", "day"]
theorem sc_Wants_enter : FnScope N_Wants_enter ["self", "person", "day"] (defScope s_Wants_enter) := ⟨rfl, rfl, rfl, by decide +kernel, rfl, by decide +kernel, by decide +kernel⟩
def d_Wants_enter : He.DefD := ⟨("Wants", some "enter"), "enter", "Wants.enter", defArgs s_Wants_enter, defBody s_Wants_enter, defScope s_Wants_enter, [.int 0], []⟩
abbrev s_Wants_leave : Stmt := inClass (top 27) 3
abbrev N_Wants_leave : List Str := ["self", "name", "day", "wish"]
theorem sc_Wants_leave : FnScope N_Wants_leave ["self", "name", "day"] (defScope s_Wants_leave) := ⟨rfl, rfl, rfl, by decide +kernel, rfl, by decide +kernel, by decide +kernel⟩
def d_Wants_leave : He.DefD := ⟨("Wants", some "leave"), "leave", "Wants.leave", defArgs s_Wants_leave, defBody s_Wants_leave, defScope s_Wants_leave, [], []⟩
abbrev s_Wants_weekly : Stmt := inClass (top 27) 4
abbrev N_Wants_weekly : List Str := ["self", "name", "mask", "day", "wish"]
theorem sc_Wants_weekly : FnScope N_Wants_weekly ["self", "name", "mask", "day"] (defScope s_Wants_weekly) := ⟨rfl, rfl, rfl, by decide +kernel, rfl, by decide +kernel, by decide +kernel⟩
def d_Wants_weekly : He.DefD := ⟨("Wants", some "weekly"), "weekly", "Wants.weekly", defArgs s_Wants_weekly, defBody s_Wants_weekly, defScope s_Wants_weekly, [.int 0], []⟩
abbrev s_Wants_only : Stmt := inClass (top 27) 5
abbrev N_Wants_only : List Str := ["self", "name", "day", "want", "wish"]
theorem sc_Wants_only : FnScope N_Wants_only ["self", "name", "day", "want"] (defScope s_Wants_only) := ⟨rfl, rfl, rfl, by decide +kernel, rfl, by decide +kernel, by decide +kernel⟩
def d_Wants_only : He.DefD := ⟨("Wants", some "only"), "only", "Wants.only", defArgs s_Wants_only, defBody s_Wants_only, defScope s_Wants_only, [.bl true], []⟩
abbrev s_Wants_usual : Stmt := inClass (top 27) 6
abbrev N_Wants_usual : List Str := ["self", "name", "day", "wish"]
theorem sc_Wants_usual : FnScope N_Wants_usual ["self", "name", "day"] (defScope s_Wants_usual) := ⟨rfl, rfl, rfl, by decide +kernel, rfl, by decide +kernel, by decide +kernel⟩
def d_Wants_usual : He.DefD := ⟨("Wants", some "usual"), "usual", "Wants.usual", defArgs s_Wants_usual, defBody s_Wants_usual, defScope s_Wants_usual, [], []⟩
abbrev s_Wants_sick : Stmt := inClass (top 27) 7
abbrev N_Wants_sick : List Str := ["self", "name", "first", "last", "wish"]
theorem sc_Wants_sick : FnScope N_Wants_sick ["self", "name", "first", "last"] (defScope s_Wants_sick) := ⟨rfl, rfl, rfl, by decide +kernel, rfl, by decide +kernel, by decide +kernel⟩
def d_Wants_sick : He.DefD := ⟨("Wants", some "sick"), "sick", "Wants.sick", defArgs s_Wants_sick, defBody s_Wants_sick, defScope s_Wants_sick, [], []⟩
abbrev s_Wants_well : Stmt := inClass (top 27) 8
abbrev N_Wants_well : List Str := ["self", "name", "day", "wish", "first", "last"]
theorem sc_Wants_well : FnScope N_Wants_well ["self", "name", "day"] (defScope s_Wants_well) := ⟨rfl, rfl, rfl, by decide +kernel, rfl, by decide +kernel, by decide +kernel⟩
def d_Wants_well : He.DefD := ⟨("Wants", some "well"), "well", "Wants.well", defArgs s_Wants_well, defBody s_Wants_well, defScope s_Wants_well, [], []⟩
abbrev s_Wants_wants : Stmt := inClass (top 27) 9
abbrev N_Wants_wants : List Str := ["self", "name", "day", "wish"]
theorem sc_Wants_wants : FnScope N_Wants_wants ["self", "name", "day"] (defScope s_Wants_wants) := ⟨rfl, rfl, rfl, by decide +kernel, rfl, by decide +kernel, by decide +kernel⟩
def d_Wants_wants : He.DefD := ⟨("Wants", some "wants"), "wants", "Wants.wants", defArgs s_Wants_wants, defBody s_Wants_wants, defScope s_Wants_wants, [], []⟩
abbrev s_Wants_riders : Stmt := inClass (top 27) 10
abbrev N_Wants_riders : List Str := ["self", "day", "name"]
theorem sc_Wants_riders : FnScope N_Wants_riders ["self", "day"] (defScope s_Wants_riders) := ⟨rfl, rfl, rfl, by decide +kernel, rfl, by decide +kernel, by decide +kernel⟩
def d_Wants_riders : He.DefD := ⟨("Wants", some "riders"), "riders", "Wants.riders", defArgs s_Wants_riders, defBody s_Wants_riders, defScope s_Wants_riders, [], []⟩
abbrev s_Wants_room : Stmt := inClass (top 27) 11
abbrev N_Wants_room : List Str := ["self", "day", "name"]
theorem sc_Wants_room : FnScope N_Wants_room ["self", "day"] (defScope s_Wants_room) := ⟨rfl, rfl, rfl, by decide +kernel, rfl, by decide +kernel, by decide +kernel⟩
def d_Wants_room : He.DefD := ⟨("Wants", some "room"), "room", "Wants.room", defArgs s_Wants_room, defBody s_Wants_room, defScope s_Wants_room, [], []⟩
abbrev s_Person_init : Stmt := inClass (top 30) 0
abbrev N_Person_init : List Str := ["self", "name", "seats", "mask"]
theorem sc_Person_init : FnScope N_Person_init ["self", "name", "seats", "mask"] (defScope s_Person_init) := ⟨rfl, rfl, rfl, by decide +kernel, rfl, by decide +kernel, by decide +kernel⟩
def d_Person_init : He.DefD := ⟨("Person", some "__init__"), "__init__", "Person.__init__", defArgs s_Person_init, defBody s_Person_init, defScope s_Person_init, [.int 0, .int 31], []⟩
abbrev s_Person_eq : Stmt := inClass (top 30) 1
abbrev N_Person_eq : List Str := ["self", "other"]
theorem sc_Person_eq : FnScope N_Person_eq ["self", "other"] (defScope s_Person_eq) := ⟨rfl, rfl, rfl, by decide +kernel, rfl, by decide +kernel, by decide +kernel⟩
def d_Person_eq : He.DefD := ⟨("Person", some "__eq__"), "__eq__", "Person.__eq__", defArgs s_Person_eq, defBody s_Person_eq, defScope s_Person_eq, [], []⟩
abbrev s_Person_str : Stmt := inClass (top 30) 2
abbrev N_Person_str : List Str := ["self"]
theorem sc_Person_str : FnScope N_Person_str ["self"] (defScope s_Person_str) := ⟨rfl, rfl, rfl, by decide +kernel, rfl, by decide +kernel, by decide +kernel⟩
def d_Person_str : He.DefD := ⟨("Person", some "__str__"), "__str__", "Person.__str__", defArgs s_Person_str, defBody s_Person_str, defScope s_Person_str, [], []⟩
abbrev s_Person_repr : Stmt := inClass (top 30) 3
abbrev N_Person_repr : List Str := ["self"]
theorem sc_Person_repr : FnScope N_Person_repr ["self"] (defScope s_Person_repr) := ⟨rfl, rfl, rfl, by decide +kernel, rfl, by decide +kernel, by decide +kernel⟩
def d_Person_repr : He.DefD := ⟨("Person", some "__repr__"), "__repr__", "Person.__repr__", defArgs s_Person_repr, defBody s_Person_repr, defScope s_Person_repr, [], []⟩
abbrev s_l_pen : Stmt := top 32
abbrev N_l_pen : List Str := ["_law_script"]
theorem sc_l_pen : FnScope N_l_pen ["_law_script"] (defScope s_l_pen) := ⟨rfl, rfl, rfl, by decide +kernel, rfl, by decide +kernel, by decide +kernel⟩
def d_l_pen : He.DefD := ⟨("_law_pen", none), "_law_pen", "_law_pen", defArgs s_l_pen, defBody s_l_pen, defScope s_l_pen, [], []⟩
abbrev s_l_draw : Stmt := top 33
abbrev N_l_draw : List Str := ["_law_pen_here", "_law_many", "_law_found", "_law_at", "_law_cell", "_law_number"]
theorem sc_l_draw : FnScope N_l_draw ["_law_pen_here", "_law_many"] (defScope s_l_draw) := ⟨rfl, rfl, rfl, by decide +kernel, rfl, by decide +kernel, by decide +kernel⟩
def d_l_draw : He.DefD := ⟨("_law_draw", none), "_law_draw", "_law_draw", defArgs s_l_draw, defBody s_l_draw, defScope s_l_draw, [], []⟩
abbrev s_l_names : Stmt := top 34
abbrev N_l_names : List Str := ["_law_pen_here", "_law_many", "_law_letters", "_law_words", "_law_size", "_law_k", "_law_base", "_law_at", "_law_spot", "_law_way", "_law_found", "_law_word"]
theorem sc_l_names : FnScope N_l_names ["_law_pen_here", "_law_many"] (defScope s_l_names) := ⟨rfl, rfl, rfl, by decide +kernel, rfl, by decide +kernel, by decide +kernel⟩
def d_l_names : He.DefD := ⟨("_law_names", none), "_law_names", "_law_names", defArgs s_l_names, defBody s_l_names, defScope s_l_names, [], []⟩
abbrev s_l_day : Stmt := top 35
abbrev N_l_day : List Str := ["_law_pen_here", "_law_base", "_law_some"]
theorem sc_l_day : FnScope N_l_day ["_law_pen_here", "_law_base"] (defScope s_l_day) := ⟨rfl, rfl, rfl, by decide +kernel, rfl, by decide +kernel, by decide +kernel⟩
def d_l_day : He.DefD := ⟨("_law_day", none), "_law_day", "_law_day", defArgs s_l_day, defBody s_l_day, defScope s_l_day, [], []⟩
abbrev s_l_deed : Stmt := top 36
abbrev N_l_deed : List Str := ["_law_pen_here", "_law_some_names", "_law_base", "_law_called", "_law_today", "_law_far", "_law_some"]
theorem sc_l_deed : FnScope N_l_deed ["_law_pen_here", "_law_some_names", "_law_base"] (defScope s_l_deed) := ⟨rfl, rfl, rfl, by decide +kernel, rfl, by decide +kernel, by decide +kernel⟩
def d_l_deed : He.DefD := ⟨("_law_deed", none), "_law_deed", "_law_deed", defArgs s_l_deed, defBody s_l_deed, defScope s_l_deed, [], []⟩
abbrev s_l_done : Stmt := top 37
abbrev N_l_done : List Str := ["_law_kept", "_law_deed_here", "_law_word", "_law_called", "_law_today"]
theorem sc_l_done : FnScope N_l_done ["_law_kept", "_law_deed_here"] (defScope s_l_done) := ⟨rfl, rfl, rfl, by decide +kernel, rfl, by decide +kernel, by decide +kernel⟩
def d_l_done : He.DefD := ⟨("_law_done", none), "_law_done", "_law_done", defArgs s_l_done, defBody s_l_done, defScope s_l_done, [], []⟩
abbrev s_l_rules : Stmt := top 38
abbrev N_l_rules : List Str := ["_law_deeds", "_law_called", "_law_found", "_law_deed_here", "_law_word", "_law_one_here", "_law_other"]
theorem sc_l_rules : FnScope N_l_rules ["_law_deeds", "_law_called"] (defScope s_l_rules) := ⟨rfl, rfl, rfl, by decide +kernel, rfl, by decide +kernel, by decide +kernel⟩
def d_l_rules : He.DefD := ⟨("_law_rules", none), "_law_rules", "_law_rules", defArgs s_l_rules, defBody s_l_rules, defScope s_l_rules, [], []⟩
abbrev s_l_people : Stmt := top 39
abbrev N_l_people : List Str := ["_law_pen_here", "_law_base", "_law_found", "_law_called", "_law_begin"]
theorem sc_l_people : FnScope N_l_people ["_law_pen_here", "_law_base"] (defScope s_l_people) := ⟨rfl, rfl, rfl, by decide +kernel, rfl, by decide +kernel, by decide +kernel⟩
def d_l_people : He.DefD := ⟨("_law_people", none), "_law_people", "_law_people", defArgs s_l_people, defBody s_l_people, defScope s_l_people, [], []⟩
abbrev s_l_begun : Stmt := top 40
abbrev N_l_begun : List Str := ["_law_people_here", "_law_found", "_law_called", "_law_places", "_law_number", "_law_begin"]
theorem sc_l_begun : FnScope N_l_begun ["_law_people_here"] (defScope s_l_begun) := ⟨rfl, rfl, rfl, by decide +kernel, rfl, by decide +kernel, by decide +kernel⟩
def d_l_begun : He.DefD := ⟨("_law_begun", none), "_law_begun", "_law_begun", defArgs s_l_begun, defBody s_l_begun, defScope s_l_begun, [], []⟩
abbrev s_l_seen : Stmt := top 41
abbrev N_l_seen : List Str := ["_law_kept", "_law_people_here", "_law_asked", "_law_found", "_law_today", "_law_one_here"]
theorem sc_l_seen : FnScope N_l_seen ["_law_kept", "_law_people_here", "_law_asked"] (defScope s_l_seen) := ⟨rfl, rfl, rfl, by decide +kernel, rfl, by decide +kernel, by decide +kernel⟩
def d_l_seen : He.DefD := ⟨("_law_seen", none), "_law_seen", "_law_seen", defArgs s_l_seen, defBody s_l_seen, defScope s_l_seen, [], []⟩
abbrev s_l_goes : Stmt := top 42
abbrev N_l_goes : List Str := ["_law_deeds", "_law_act", "_law_alone", "_law_one_here", "_law_is_so"]
theorem sc_l_goes : FnScope N_l_goes ["_law_deeds", "_law_act"] (defScope s_l_goes) := ⟨rfl, rfl, rfl, by decide +kernel, rfl, by decide +kernel, by decide +kernel⟩
def d_l_goes : He.DefD := ⟨("_law_goes", none), "_law_goes", "_law_goes", defArgs s_l_goes, defBody s_l_goes, defScope s_l_goes, [], []⟩
abbrev s_l_one : Stmt := top 43
abbrev N_l_one : List Str := ["_law_kept", "_law_called", "_law_asked", "_law_today"]
theorem sc_l_one : FnScope N_l_one ["_law_kept", "_law_called", "_law_asked"] (defScope s_l_one) := ⟨rfl, rfl, rfl, by decide +kernel, rfl, by decide +kernel, by decide +kernel⟩
def d_l_one : He.DefD := ⟨("_law_one", none), "_law_one", "_law_one", defArgs s_l_one, defBody s_l_one, defScope s_l_one, [], []⟩
abbrev s_l_stage_right : Stmt := top 44
abbrev N_l_stage_right : List Str := ["_law_kept", "_law_people_here", "_law_asked", "_law_today", "_law_due", "_law_one_here"]
theorem sc_l_stage_right : FnScope N_l_stage_right ["_law_kept", "_law_people_here", "_law_asked"] (defScope s_l_stage_right) := ⟨rfl, rfl, rfl, by decide +kernel, rfl, by decide +kernel, by decide +kernel⟩
def d_l_stage_right : He.DefD := ⟨("_law_stage_right", none), "_law_stage_right", "_law_stage_right", defArgs s_l_stage_right, defBody s_l_stage_right, defScope s_l_stage_right, [], []⟩
abbrev s_l_is_no_day : Stmt := top 45
abbrev N_l_is_no_day : List Str := ["_law_kept", "_law_called", "_law_today"]
theorem sc_l_is_no_day : FnScope N_l_is_no_day ["_law_kept", "_law_called", "_law_today"] (defScope s_l_is_no_day) := ⟨rfl, rfl, rfl, by decide +kernel, rfl, by decide +kernel, by decide +kernel⟩
def d_l_is_no_day : He.DefD := ⟨("_law_is_no_day", none), "_law_is_no_day", "_law_is_no_day", defArgs s_l_is_no_day, defBody s_l_is_no_day, defScope s_l_is_no_day, [], []⟩
abbrev s_l_alone_right : Stmt := top 46
abbrev N_l_alone_right : List Str := ["_law_pen_here", "_law_kept", "_law_people_here", "_law_asked", "_law_called", "_law_today", "_law_ahead", "_law_can"]
theorem sc_l_alone_right : FnScope N_l_alone_right ["_law_pen_here", "_law_kept", "_law_people_here", "_law_asked"] (defScope s_l_alone_right) := ⟨rfl, rfl, rfl, by decide +kernel, rfl, by decide +kernel, by decide +kernel⟩
def d_l_alone_right : He.DefD := ⟨("_law_alone_right", none), "_law_alone_right", "_law_alone_right", defArgs s_l_alone_right, defBody s_l_alone_right, defScope s_l_alone_right, [], []⟩
abbrev s_l_entering_right : Stmt := top 47
abbrev N_l_entering_right : List Str := ["_law_pen_here", "_law_kept", "_law_people_here", "_law_asked", "_law_one_here", "_law_known", "_law_other", "_law_ahead", "_law_today", "_law_number", "_law_when", "_law_later", "_law_word"]
theorem sc_l_entering_right : FnScope N_l_entering_right ["_law_pen_here", "_law_kept", "_law_people_here", "_law_asked"] (defScope s_l_entering_right) := ⟨rfl, rfl, rfl, by decide +kernel, rfl, by decide +kernel, by decide +kernel⟩
def d_l_entering_right : He.DefD := ⟨("_law_entering_right", none), "_law_entering_right", "_law_entering_right", defArgs s_l_entering_right, defBody s_l_entering_right, defScope s_l_entering_right, [], []⟩
abbrev s_l_left_right : Stmt := top 48
abbrev N_l_left_right : List Str := ["_law_pen_here", "_law_kept", "_law_people_here", "_law_asked", "_law_called", "_law_last_one", "_law_sooner", "_law_ahead", "_law_today"]
theorem sc_l_left_right : FnScope N_l_left_right ["_law_pen_here", "_law_kept", "_law_people_here", "_law_asked"] (defScope s_l_left_right) := ⟨rfl, rfl, rfl, by decide +kernel, rfl, by decide +kernel, by decide +kernel⟩
def d_l_left_right : He.DefD := ⟨("_law_left_right", none), "_law_left_right", "_law_left_right", defArgs s_l_left_right, defBody s_l_left_right, defScope s_l_left_right, [], []⟩
abbrev s_law : Stmt := top 49
abbrev N_law : List Str := ["_law_script", "_law_pen_here", "_law_base", "_law_people_here", "_law_deeds", "_law_kept", "_law_known", "_law_asked", "_law_turn", "_law_act", "_law_one_here", "_law_k"]
theorem sc_law : FnScope N_law ["_law_script"] (defScope s_law) := ⟨rfl, rfl, rfl, by decide +kernel, rfl, by decide +kernel, by decide +kernel⟩
def d_law : He.DefD := ⟨("law", none), "law", "law", defArgs s_law, defBody s_law, defScope s_law, [], []⟩
def fn : List He.DefD := [d_BadName_init, d_NoNumber_init, d_NoText_init, d_NoName_init, d_NoDay_init, d_Taken_init, d_is_whole, d_is_between, d_is_name, d_is_day, d_is_mask, d_check_day, d_check_span, d_mask_text, d_mask_of, d_weekdays, d_mask_from, d_Wish_init, d_Wish_is_sick, d_Wish_mask_on, d_Wish_holds_on, d_Wants_init, d_Wants_wish_of, d_Wants_enter, d_Wants_leave, d_Wants_weekly, d_Wants_only, d_Wants_usual, d_Wants_sick, d_Wants_well, d_Wants_wants, d_Wants_riders, d_Wants_room, d_Person_init, d_Person_eq, d_Person_str, d_Person_repr, d_l_pen, d_l_draw, d_l_names, d_l_day, d_l_deed, d_l_done, d_l_rules, d_l_people, d_l_begun, d_l_seen, d_l_goes, d_l_one, d_l_stage_right, d_l_is_no_day, d_l_alone_right, d_l_entering_right, d_l_left_right, d_law]
end K14
set_option Elab.async false
set_option linter.all false
set_option maxRecDepth 100000
set_option maxHeartbeats 4000000
/-! GX: own exceptions over any built-in base, whose own __init__ calls the base's and stores a field. -/
namespace GX
open PySem PySem.Spec PyProof.Rows L2

/-- what the written part tells of the class -/
structure Gx (K : PySem.W.Frag) (C : Addr) (bmB : List Value) (nid : String) : Prop where
  over : PySem.W.excOver K C bmB = true
  made : PySem.W.excInitIn K C bmB nid = true
  hasd : ∃ cd, PySem.W.clsIn K C = some cd ∧ cd.hasDict = true
  sets : PySem.W.findIn K (.ref C) "__setattr__" = some (some (.builtin "object.__setattr__"))
  base : PySem.W.subIn K (.ref C) (.type "BaseException") = some true
  typ : PySem.W.typeIn K (.ref C) = some (.type "type")
  keep : PySem.W.keepIn K (.ref C) = true

section
open Builtin Builtin.ObjectAttr
variable {prog : Program} {w : World} {A : Around} {R : Result → Shared → Prop} {hp : Heap} {g : Array GenState} {d : Drawn} {t : Nat} {os : OsState} {B : String} {bmB : List Value}
theorem first_store {K : PySem.W.Frag} {name : Str} {tk : Tok} {v : Value} {x C : Addr} {fv : Array Value} {cd : ClassData} (SF : StoreFacts B bmB "object.__setattr__" "object")
    (X : K.In hp) (hx : hp.get? x = some { cls := .ref C, data := .fields fv }) (ho : PySem.W.excOver K C bmB = true) (hc : PySem.W.clsIn K C = some cd) (hd : cd.hasDict = true)
    (hf : PySem.W.findIn K (.ref C) name = some none)
    (post : ∀ h' tk' dx, (∀ b o, b ≠ x → hp.get? b = some o → h'.get? b = some o) → hp.objs.size ≤ dx → dx ≠ x →
      h'.get? x = some { cls := .ref C, dict := some dx, data := .fields fv } → h'.Ns1 dx (fun y => if y = name then some v else none) → R (.ok (.ret .none)) ⟨h', g, d, tk', os⟩) :
    codeAny (model prog w) A (.call (.builtin "object.__setattr__") ⟨[.ref x, .str name tk, v], []⟩) R ⟨hp, g, d, t, os⟩ := by
  have inst : PySem.W.InstAt hp x { cls := .ref C, data := .fields fv } C none := ⟨hx, rfl, rfl, trivial⟩
  have far : x ≠ hp.objs.size := Nat.ne_of_lt (Heap.lt_size hx)
  have lc : PySem.W.Looks (model prog w) hp (classData C) cd := PySem.W.looks_clsIn X hc
  refine PySem.W.osa_openX (r := none) SF X inst ho (by unfold PySem.W.takerIn; rw [hf]; rfl) fun b => ?_
  dsimp only
  obtain ⟨n1, n2, n3, n4, n5, n6, n7, n8, n9, n10, n11⟩ := cd
  dsimp only at hd
  subst hd
  unfold storeInOwnDict ownDictForStores
  repeat (first | with_reducible refine PySem.HandSPX.store_in_new ?_ ?_ | with_reducible refine wpAny_loadPart_at hx ?_ | with_reducible refine lc.at ?_ | wp_step)
  · exact ⟨_, #[], _, (Heap.get?_update_ne _ _ _ _ far.symm).trans (Heap.get?_push_at rfl rfl), rfl, fun e he => absurd he (by simp), fun _ => rfl⟩
  · intro h' tk' hn hs
    have hx1 : (hp.push { cls := .type "dict", data := .dict #[] }).get? x = some { cls := .ref C, data := .fields fv } := Heap.get?_push_of_some _ hx
    refine post h' tk' hp.objs.size (fun b o hb hob => ?_) (Nat.le_refl _) far.symm ?_ hn
    · have e1 := hs.2 b (Nat.ne_of_lt (Heap.lt_size hob))
      rw [e1, Heap.get?_update_ne _ _ _ _ hb]
      exact Heap.get?_push_of_some _ hob
    · rw [hs.2 x far]
      exact Heap.get?_update_self _ hx1 rfl
end

section
variable {X : Cx} {pins : List (Addr × Obj)} {σ : L2.St} {H : Hp} {s : Shared} {a C dx : Addr} {f : Str} {y : V} {u : Value} {Q : Unit → Shared → Prop} {E : Value → Shared → Prop} {A : Around} {B : String} {bmB : List Value} {nid iid : String}
/-- self.f = y, the first store -/
theorem put_first (SF : StoreFacts B bmB "object.__setattr__" "object") (T : Gx X.K C bmB nid) (I : Inv X pins σ H s) (e : H a = some (exo a C none)) (hno : PySem.W.findIn X.K (.ref C) f = some none) (ry : RelV y u)
    (post : ∀ dx s', H dx = none → dx ≠ a → Inv X pins σ (upd (upd H dx (exd dx [(f, y)])) a (exo a C (some dx))) s' → Q () s') : wpAny (model X.prog X.w) A (setAttr (.ref a) f u) Q E s := by
  obtain ⟨cd, hcd, hdd⟩ := T.hasd
  obtain ⟨t1, at1⟩ := exo_at I.hok e
  obtain ⟨hp, g, d, t, os⟩ := s
  refine PySem.W.set_plain I.kIn (ox := { cls := .ref C, dict := none, data := .fields #[.ref t1, .none, .none, .none, .bool false, .none] }) (od := none) ⟨at1, rfl, rfl, trivial⟩ T.sets ?_
  refine first_store SF I.kIn at1 T.over hcd hdd hno (fun h' tk' dx kp dn dne hx hn => ?_)
  have fresh : H dx = none := I.hok.fresh dn
  have old : ∀ {b : Addr} {o : Obj}, hp.get? b = some o → b ≠ dx := fun {b o} q => Nat.ne_of_lt (Nat.lt_of_lt_of_le (Heap.lt_size q) dn)
  have other : ∀ {b : Addr}, H b = none → b ≠ a := fun {b} n z => by
    rw [z, e] at n
    cases n
  have un : Un X.fs [] H (upd (upd H dx (exd dx [(f, y)])) a (exo a C (some dx))) hp h' := {
    keep := fun b o q n _ _ => kp b o (other n) q
    slot := fun b o q n _ _ => ⟨o.slots, kp b o (other n) q⟩
    free := fun b o q n _ => by rw [upd_ne (other n), upd_ne (old q)]; exact n
    there := fun b o q _ => by
      by_cases hb : b = a
      · exact ⟨_, hb ▸ hx⟩
      · exact ⟨o, kp b o hb q⟩
    tups := fun b xs q => by rw [upd_ne (at_ne e q exo_tup), upd_ne (ne_of_none q fresh)]; exact q
    frzs := fun b o v q => by rw [upd_ne (at_ne e q exo_frz), upd_ne (ne_of_none q fresh)]; exact q
    tbls := fun b ps q => ⟨#[], by rw [upd_ne (at_ne e q exo_tbl), upd_ne (ne_of_none q fresh), q]; simp⟩ }
  refine post dx _ fresh dne (I.un (t' := tk') un fun b o q => ?_)
  by_cases hb : b = a
  · subst hb
    rw [upd_same] at q
    cases q
    exact exo_ok hx
  · rw [upd_ne hb] at q
    by_cases hd : b = dx
    · subst hd
      rw [upd_same] at q
      cases q
      exact exd_ok hn (relO_put (fs := []) ry fun g => True.intro)
    · rw [upd_ne hd] at q
      refine (I.hok b o q).stay (fun c v hc z => kp c v ?_ z) (fun c hc => ?_) (fun c xs hc => ?_)
      · rcases hc with hc | hc
        · exact hc ▸ hb
        · exact at_ne e hc exo_own
      · rw [upd_ne (at_ne e hc exo_own), upd_ne (ne_of_none hc fresh)]; exact hc
      · rw [upd_ne (at_ne e hc exo_tup), upd_ne (ne_of_none hc fresh)]; exact hc
/-- Base.__init__(self, ..) -/
theorem base_init {us : List Value} {Q : Value → Shared → Prop} (FB : ExcBaseFacts B nid iid bmB) (T : Gx X.K C bmB nid) (I : Inv X pins σ H s) (e : H a = some (exo a C none)) (hl : us.length ≤ sizeLine) (post : ∀ s', Inv X pins σ H s' → Q .none s') :
    wpAny (model X.prog X.w) A (call (.builtin iid) (.ref a :: us)) Q E s := by
  obtain ⟨nm, N, qn, bs, bm, hdct, sn, sub, ab, col, dd, k0, k1, k2, k3, k5, hC, hT⟩ := PySem.W.excInit_of I.kIn T.made
  obtain ⟨t1, at1⟩ := exo_at I.hok e
  obtain ⟨hp, g, d, t, os⟩ := s
  refine wpAny_call (PySem.HandSPX.init_base FB hT hC at1 hl fun h' t2 kp hx => ?_)
  have J := I.write (t' := t) (x := a) (e := a) (o := exo a C none) (by rw [e]; exact True.intro) (.inl rfl) kp ⟨_, hx⟩ (exo_ok hx)
  have same : upd H a (exo a C none) = H := funext fun b => by
    by_cases hb : b = a
    · rw [hb, upd_same, e]
    · rw [upd_ne hb]
  rw [same] at J
  exact post _ J
end

/-! ### readings and rules -/
/-- Base.__init__(self, ..) -/
def tBi (K : PySem.W.Frag) (bmB : List Value) (nid : String) (ta : TA) : TE := fun σ H Q => ta σ H fun vs H1 => ∃ (a C : Addr) (ws : List V), vs = .ref a :: ws ∧ ws.length ≤ 1000 ∧ Gx K C bmB nid ∧ H1 a = some (exo a C none) ∧ Q .non H1
/-- self.f = e, the first one -/
def tPf (K : PySem.W.Frag) (bmB : List Value) (nid : String) (f : Str) (to te : TE) : TS := fun D σ H => te σ H fun y H1 => to σ H1 fun x H2 => ∃ a C : Addr, x = .ref a ∧ Gx K C bmB nid ∧ PySem.W.findIn K (.ref C) f = some none ∧
  H2 a = some (exo a C none) ∧ ∀ dx, H2 dx = none → dx ≠ a → D.nx σ (upd (upd H2 dx (exd dx [(f, y)])) a (exo a C (some dx)))
section
variable {X : Cx} {o e : Expr} {es : List Expr} {to te : TE} {ta : TA} {f : Str} {p p' p1 p2 pos : Pos} {B nid iid : String} {bmB : List Value} {x : Str}
theorem pe_bi {pl : Sem Bool} (FB : ExcBaseFacts B nid iid bmB) (hg : Gl X x) (hm : X.mg x = none) (hv : bootBuiltins x = some (.type B)) (ty : typeOf (.type B) = pure (.type "type"))
    (vV : PySem.W.findCls X.K (.type B) (.type "type") "__init__" = some (.val (.builtin iid))) (hb : PySem.W.handedIn (.builtin iid) = true) (hst : Manifest.isStub B = false) (ha : PA X (e :: es) ta)
    (hc : eval (.Call (.Attribute (.Name x p1) "__init__" p2) (e :: es) [] pos) X.env = (do
      let ov ← eval (.Name x p1) X.env
      standAt p2.atName
      let (f, first) ← holding [ov] (getMethod ov "__init__" pl)
      callWith pos f first (backTo pos (starEach (e :: es) X.env)) (backToKw pos (keywordEach [] X.env))) := by rfl)
    (hn : x ≠ "__name__" := by decide) (hd : (x == ("__debug__" : Str)) = false := by decide)
    (he : starEach (e :: es) X.env = (false, eval e X.env) :: starEach es X.env := by rfl) (hpl : (backTo pos (starEach es X.env)).any (·.1) = false := by rfl) :
    PE X (.Call (.Attribute (.Name x p1) "__init__" p2) (e :: es) [] pos) (tBi X.K bmB nid ta) := by
  refine ⟨fun pins s σ H Q I h => ?_⟩
  refine PySem.W.methodCall_KW (ld_blt I hg hm hv ?_ hn hd) hc
  obtain ⟨m, fr⟩ := I.fr
  refine PySem.W.method_type fr I.ok.mod.kin ty hst vV hb ?_
  show wpAny _ _ (callWith pos (Value.builtin iid) [] (backTo pos (starEach (e :: es) X.env)) []) _ _ _
  refine PyProof.Rows.callWith_method1 (thn (ha.run pos pins _ σ H _ (I.tok _) h) fun us s1 hh => ?_) he hpl
  obtain ⟨vs, H1, I1, r1, a, C, ws, ev, hl, T, ea, q⟩ := hh
  subst ev
  cases r1 with
  | @cons _ u0 _ ur ra rw' =>
    obtain rfl : u0 = Value.ref a := ra
    have hlen : ur.length ≤ sizeLine := by
      have := Paired.length rw'
      rw [sizeLine_eq]
      omega
    exact base_init FB T I1 ea hlen fun s' J => ⟨.non, H1, J, rfl, q⟩
theorem ps_pf (SF : StoreFacts B bmB "object.__setattr__" "object") (ho : PE X o to) (he : PE X e te) (hs : swapsWith e (some (.Attribute o f p')) pos.line X.env = pure false := by rfl) : PS X (.Assign [.Attribute o f p'] e pos) (tPf X.K bmB nid f to te) := by
  refine ⟨fun pins s σ H D I h => ?_⟩
  refine plainObj_wpAny_Assign_Attribute (thn (he.run pins s σ H _ I h) fun v s1 h1 => ?_) hs
  obtain ⟨y, H1, I1, r1, q1⟩ := h1
  refine thn (ho.run pins s1 σ H1 _ I1 q1) fun u s2 h2 => ?_
  obtain ⟨z, H2, I2, r2, a, C, ex, T, hno, ea, q⟩ := h2
  subst ex
  obtain rfl : u = Value.ref a := r2
  exact put_first SF T I2 ea hno r1 fun dx s' n ne J => ⟨σ, _, J, q dx n ne⟩
/-- C(e, ..) as what is raised, C's own __init__ keeping sp -/
theorem pmk_gx {CX : CXT} {C fI : Addr} {k : Nat} {fd : FuncData} {ps : List Str} {sp : Sp} {ds : List Value} {dvs : List V} (FB : ExcBaseFacts B nid iid bmB) (T : Gx X.K C bmB nid) (iC : PySem.W.findIn X.K (.ref C) "__init__" = some (some (.ref fI)))
    (tI : PySem.W.typeIn X.K (.ref fI) = some (.type "function"))
    (F1 : FnOk X.prog X.w X.K X.mg X.base CX k fI fd ps sp) (hr : Room (k + 1) X.A) (hb : Binds X.K fd ps ds) (hd : Vals dvs ds) (hx : Passes CX X (fun _ _ _ => False)) (hg : Gl X x) (hm : X.mg x = some (.ref C)) (ha : PA X (e :: es) ta)
    (hdb : (x == ("__debug__" : Str)) = false := by decide) (he : starEach (e :: es) X.env = (false, eval e X.env) :: starEach es X.env := by rfl) (hpl : (backTo pos (starEach es X.env)).any (·.1) = false := by rfl) :
    PMk X (.Call (.Name x p) (e :: es) [] pos) (tMkO C sp dvs ta) := by
  intro pins s σ H Q I h
  refine wpAny_Call_Name_kw (ld_glob I hg hm ?_ hdb)
  refine PySem.W.callWith_K (h₀ := X.base) I.ok.mod.kin T.keep (thn (ha.run pos pins s σ H _ I h) fun us s1 hh => ?_) he hpl
  obtain ⟨vs, H1, I1, r1, hz, q1⟩ := hh
  refine ⟨I1.kIn, ?_⟩
  show wpAny _ _ (call (.ref C) us) _ _ _
  obtain ⟨nm, N, qn, bs, bm, hdct, sn, sub, ab, col, dd, k0, k1, k2, k3, k5, hC, hT⟩ := PySem.W.excInit_of I1.kIn T.made
  obtain ⟨hp, g, dr, tk, os⟩ := s1
  have big : hp.objs.size ≤ hp.objs.size + 1 := Nat.le_succ _
  have hq := q1 (hp.objs.size + 1) (I1.hok.fresh big)
  have kk : ∀ b o, hp.get? b = some o → ((hp.push (PySem.W.kdv_tup us)).push (PySem.HandSPX.excO C hp.objs.size)).get? b = some o := fun b o z =>
    Heap.get?_push_of_some _ (Heap.get?_push_of_some _ z)
  have there : ((hp.push (PySem.W.kdv_tup us)).push (PySem.HandSPX.excO C hp.objs.size)).get? (hp.objs.size + 1) = some (PySem.HandSPX.excO C hp.objs.size) := by heap_get
  have I2 := I1.laid (t' := tk) (a := hp.objs.size + 1) (o := exo (hp.objs.size + 1) C none) (h' := (hp.push (PySem.W.kdv_tup us)).push (PySem.HandSPX.excO C hp.objs.size)) kk big (exo_ok there)
  have r2 : Vals (V.ref (hp.objs.size + 1) :: (vs ++ dvs)) (Value.ref (hp.objs.size + 1) :: (us ++ ds)) := .cons rfl (r1.append hd)
  have hl : (Value.ref (hp.objs.size + 1) :: us ++ ds).length = ps.length := by
    have e1 := r2.length
    rw [F1.len _ _ _ _ hq] at e1
    exact e1.symm
  have few : us.length ≤ sizeLine := by
    have := Paired.length r1
    rw [sizeLine_eq]
    omega
  refine wpAny_call (PySem.HandSPX.call_own FB hT hC (PySem.W.looks_findIn I1.kIn iC) (fun self => PySem.W.bind_fn I1.kIn self tI) few (codeAny_mono
    (F1.run _ X.stack _ _ ⟨Value.ref (hp.objs.size + 1) :: us, []⟩ (Value.ref (hp.objs.size + 1) :: (us ++ ds)) _ _ (fun _ _ _ => False) (hr.make C us []) (I2.env0.make C us []) (hb _ (Value.ref (hp.objs.size + 1) :: us) I2.kIn hl) r2 hq) fun r s' hq' => ?_))
  cases r with
  | error er => exact hx pins σ _ _ er s' I2 hq'
  | ok fl =>
    cases fl with
    | ret u =>
      obtain ⟨v, H2, os2, bare2, un2, hok2, rv, ev, d, fs, ea, ed, hd1, q2⟩ := hq'
      subst ev
      obtain ⟨h2, g2, d2, t2, os'⟩ := s'
      exact ⟨rv, mk_end (raises_own T.base T.typ) I1 big kk un2 hok2 os2 bare2 ea ed hd1 q2⟩
    | next => exact False.elim hq'
    | brk => exact False.elim hq'
    | cont => exact False.elim hq'
end
/-! ### the head's look at such a class -/
def hasDB (K : PySem.W.Frag) (C : Addr) : Bool := match PySem.W.clsIn K C with
  | some cd => cd.hasDict
  | none => false
/-- Base.__init__, read off the class Base -/
def vvB (K : PySem.W.Frag) (B iid : String) : Bool := match PySem.W.findCls K (.type B) (.type "type") "__init__" with
  | some (.val (.builtin n)) => n == iid
  | _ => false
theorem vvB_ok {K : PySem.W.Frag} {B iid : String} (h : vvB K B iid = true) : PySem.W.findCls K (.type B) (.type "type") "__init__" = some (.val (.builtin iid)) := by
  unfold vvB at h
  split at h
  · rename_i n e
    rw [e, eq_of_beq h]
  · cases h
/-- what isinstance asks of an own class -/
def isB (K : PySem.W.Frag) (C : Addr) : Bool := He.eqO (PySem.W.findIn K (.ref C) "__class__") (some (some (.builtin "object.__class__"))) && (He.eqO (PySem.W.specialIn K (.builtin "object.__class__") "__get__") (some (some (.builtin "getset_descriptor.__get__"))) &&
  (decide (PySem.W.takesIn K (.builtin "object.__class__") = some true) && decide (PySem.W.mroIn K C (.type "object") = some true)))
def gxB (K : PySem.W.Frag) (C : Addr) (bmB : List Value) (nid : String) : Bool := PySem.W.excOver K C bmB && (PySem.W.excInitIn K C bmB nid && (hasDB K C &&
  (He.eqO (PySem.W.findIn K (.ref C) "__setattr__") (some (some (.builtin "object.__setattr__"))) && (decide (PySem.W.subIn K (.ref C) (.type "BaseException") = some true) &&
  (decide (PySem.W.typeIn K (.ref C) = some (.type "type")) && PySem.W.keepIn K (.ref C))))))
theorem gxB_ok {K : PySem.W.Frag} {C : Addr} {bmB : List Value} {nid : String} (h : gxB K C bmB nid = true) : Gx K C bmB nid := by
  unfold gxB at h
  simp only [Bool.and_eq_true, decide_eq_true_eq] at h
  obtain ⟨h1, h2, h3, h4, h5, h6, h7⟩ := h
  refine ⟨h1, h2, ?_, He.eqO_ok h4, h5, h6, h7⟩
  unfold hasDB at h3
  split at h3
  · rename_i cd e
    exact ⟨cd, e, h3⟩
  · cases h3
end GX
set_option Elab.async false
set_option linter.all false
set_option maxRecDepth 100000
set_option maxHeartbeats 4000000
/-! GXK: own exceptions over a base that has no __new__ of its own (KeyError: LookupError's is called). -/
namespace GXK
open PySem PySem.Spec L2 PySem.HandSPX
abbrev keT : List Value := [.type "KeyError", .type "LookupError", .type "Exception", .type "BaseException", .type "object"]
/-- what is asked of the base's own __init__ -/
structure InitF (B iid : String) (bmB : List Value) : Prop where
  entry : entryFor table iid = some Builtin.«BaseException.__init__»
  split : splitId iid = some (B, "__init__")
  kind : builtinKind iid = some .slot
  row : Manifest.signature? iid = some ⟨.positional, "*", B, .self, [⟨"args", .varPos, false⟩]⟩
  star : (B != "*") = true
  has : bmB.contains (.type B) = true
  init : Slot B "__init__" iid
/-- what is asked of the __new__ that is called -/
structure NewF (Bn nid inN : String) (bmN bmB : List Value) : Prop where
  base : ExcBaseFacts Bn nid inN bmN
  has : bmB.contains (.type Bn) = true
  noA : bmB.contains (.type "AttributeError") = false
  noN : bmB.contains (.type "NameError") = false
section
variable {prog : Program} {w : World} {M : Model} {A : Around} {E : Value → Shared → Prop} {R : Result → Shared → Prop} {h : Heap} {g : Array GenState} {d : Drawn} {t : Nat} {os : OsState}
variable {nm q : Str} {C N : Addr} {bs bm bmB bmN : List Value} {hdct : Bool} {sn : List Str} {sub : List Value} {ab : Bool} {col : Option Bool} {dd : Option Addr} {k0 k1 k2 k3 k5 : Option Value} {B Bn nid iid inN : String}
theorem new_checked (F : NewF Bn nid inN bmN bmB) (like : ∀ X : String, bm.contains (.type X) = bmB.contains (.type X)) {rest : List Value} {Q : Unit → Shared → Prop} (atC : h.get? C = some (excClassObj nm q C N bs bm hdct sn sub ab col dd k0 k1 k2 k3 k5 nid)) (post : Q () ⟨h, g, d, t, os⟩) : wpAny M A (checkBuiltinCall nid ⟨.ref C :: rest, []⟩) Q E ⟨h, g, d, t, os⟩ := by
  have yes : (Value.ref C :: bm).contains (.type Bn) = true := by rw [List.contains_cons, like, F.has, Bool.or_true]
  have hstar := F.base.noStar
  simp only [checkBuiltinCall, F.base.newKind, F.base.newSplit, F.base.newRow]
  repeat (first | refine wpAny_loadPart_at atC ?_ | (refine wpAny_isSubtype_exc atC ?_; rw [yes]) | refine wpAny_staticBase_exc atC ?_ | refine wpAny_madeBy_exc atC ?_ | simp only [bne_self_eq_false, Bool.false_eq_true, if_false] | wp_step)
  exact post
theorem init_checked (F : InitF B iid bmB) (like : ∀ X : String, bm.contains (.type X) = bmB.contains (.type X)) {e : Addr} {oe : Obj} {rest : List Value} {Q : Unit → Shared → Prop} (atC : h.get? C = some (excClassObj nm q C N bs bm hdct sn sub ab col dd k0 k1 k2 k3 k5 nid)) (ate : h.get? e = some oe) (clsC : oe.cls = .ref C) (post : Q () ⟨h, g, d, t, os⟩) : wpAny M A (checkBuiltinCall iid ⟨.ref e :: rest, []⟩) Q E ⟨h, g, d, t, os⟩ := by
  have yes : (Value.ref C :: bm).contains (.type B) = true := by rw [List.contains_cons, like, F.has, Bool.or_true]
  have hshort := F.star
  simp only [checkBuiltinCall, F.kind, F.split, F.row]
  repeat (first | (with_reducible refine wpAny_loadPart_at ate ?_; rw [clsC]) | with_reducible refine wpAny_loadPart_at atC ?_ | (with_reducible refine wpAny_isSubtype_exc atC ?_; rw [yes]) | wp_step)
  refine wpAny_onRaise ?_
  have star : ∀ (a b : String) (n : Nat), Bind.check ⟨.positional, "*", B, .self, [⟨"args", .varPos, false⟩]⟩ a b n (List.map (fun x => x.fst) ({ pos := Value.ref e :: rest } : Args).kw) = pure () := fun a b n => check_star_args _ _ _ _ _ _
  rw [star]
  exact wpAny_pure post
theorem made (F : NewF Bn nid inN bmN bmB) (like : ∀ X : String, bm.contains (.type X) = bmB.contains (.type X)) {rest : List Value} (atC : h.get? C = some (excClassObj nm q C N bs bm hdct sn sub ab col dd k0 k1 k2 k3 k5 nid))
    (post : R (.ok (.ret (.ref (h.objs.size + 1)))) ⟨(h.push (W.kdv_tup rest)).push (excO C h.objs.size), g, d, t, os⟩) (few : rest.length ≤ sizeLine) : codeAny (model prog w) A (.builtin nid ⟨.ref C :: rest, []⟩) R ⟨h, g, d, t, os⟩ := by
  have hends := F.base.ends
  have c1 : (Value.ref C :: bm).contains (.type Bn) = true := by rw [List.contains_cons, like, F.has, Bool.or_true]
  have c2 : (Value.ref C :: bm).contains (.type "AttributeError") = false := by rw [List.contains_cons, like, F.noA]; rfl
  have c3 : (Value.ref C :: bm).contains (.type "NameError") = false := by rw [List.contains_cons, like, F.noN]; rfl
  refine codeAny_builtinAt F.base.entry ?_
  unfold Builtin.«BaseException.__new__»; refine wpAt_bind ?_
  show wpAt _ _ _ (stack >>= _) _ _ _; refine wpAt_bind (wpAt_stack fun p below => wpAt_of_wpAny ?_)
  wp_walk
  refine wpAt_of_wpAny ?_
  rw [F.base.owner]
  repeat (first | with_reducible refine wpAny_madeHere_exc F.base.canon atC ?_ | with_reducible refine wpAny_loadPart_at atC ?_ | (with_reducible refine wpAny_isSubtype_exc atC ?_; first | rw [c1] | rw [c2] | rw [c3]) | wp_step)
  show R _ _
  rw [Heap.size_push]
  exact post
theorem type_called (F : NewF Bn nid inN bmN bmB) (like : ∀ X : String, bm.contains (.type X) = bmB.contains (.type X)) {rest : List Value} {fI : Addr} {Q : Fin → Shared → Prop} (atC : h.get? C = some (excClassObj nm q C N bs bm hdct sn sub ab col dd k0 k1 k2 k3 k5 nid))
    (hi : W.Looks (model prog w) h (typeLookup (.ref C) "__init__") (some (.ref fI))) (hb : ∀ self, W.Looks (model prog w) h (bindSpecial (.ref fI) self) (.ref fI, [self])) (few : rest.length ≤ sizeLine)
    (run : codeAny (model prog w) A (.call (.ref fI) ⟨.ref (h.objs.size + 1) :: rest, []⟩) (fun r s' => match r with | .ok (.ret v) => v = .none ∧ Q (.done (.ret (.ref (h.objs.size + 1)))) s' | .ok _ => False | .error e => E e s') ⟨(h.push (W.kdv_tup rest)).push (excO C h.objs.size), g, d, t, os⟩) :
    wpAny (model prog w) A (Builtin.«type.__call__» ⟨.ref C :: rest, []⟩) Q E ⟨h, g, d, t, os⟩ := by
  repeat (first | with_reducible refine wpAny_loadPart_at atC ?_ | with_reducible refine wpAny_madeBy_exc atC ?_ | wp_step)
  refine codeAny_call_builtin_code (Code.quiet_builtin _ F.base.quiet) (new_checked F like atC ?_)
  refine made F like atC ?_ few
  show wpAny _ _ _ _ _ _
  have keep : ∀ b o, h.get? b = some o → ((h.push (W.kdv_tup rest)).push (excO C h.objs.size)).get? b = some o := fun b o e => Heap.get?_push_of_some _ (Heap.get?_push_of_some _ e)
  have atC1 := keep _ _ atC
  have ate : ((h.push (W.kdv_tup rest)).push (excO C h.objs.size)).get? (h.objs.size + 1) = some (excO C h.objs.size) := by heap_get
  have own : (Value.ref C :: bm).contains (.ref C) = true := by simp
  have look := hi.keeps keep
  have bnd := (hb (.ref (h.objs.size + 1))).keeps keep
  unfold isInstance
  repeat (first | with_reducible refine wpAny_loadPart_at ate ?_ | (with_reducible refine wpAny_isSubtype_exc atC1 ?_; rw [own]) | wp_step)
  show wpAny _ _ (typeLookup (.ref C) _) _ _ _; refine look.at ?_
  refine wpAny_holding (wpAny_bind (bnd.at ?_)); refine wpAny_bind (wpAny_call (codeAny_mono run fun r s' z => ?_))
  rcases r with e | (v | _ | _ | _) <;> first | exact z | exact z.elim | skip
  obtain ⟨rfl, z⟩ := z
  first | exact wpAny_pure (wpAny_pure z) | (wp_walk; exact z)
theorem called (F : NewF Bn nid inN bmN bmB) (like : ∀ X : String, bm.contains (.type X) = bmB.contains (.type X)) {rest : List Value} {fI : Addr} (atC : h.get? C = some (excClassObj nm q C N bs bm hdct sn sub ab col dd k0 k1 k2 k3 k5 nid))
    (hi : W.Looks (model prog w) h (typeLookup (.ref C) "__init__") (some (.ref fI))) (hb : ∀ self, W.Looks (model prog w) h (bindSpecial (.ref fI) self) (.ref fI, [self])) (few : rest.length ≤ sizeLine)
    (run : codeAny (model prog w) (A.under (.builtin "type.__call__" ⟨.ref C :: rest, []⟩)) (.call (.ref fI) ⟨.ref (h.objs.size + 1) :: rest, []⟩) (W.InitBack (h.objs.size + 1) R) ⟨(h.push (W.kdv_tup rest)).push (excO C h.objs.size), g, d, t, os⟩) : codeAny (model prog w) A (.call (.ref C) ⟨rest, []⟩) R ⟨h, g, d, t, os⟩ := by
  have f1 := tc_lookup
  have f2 := tc_bind (.ref C)
  have hTy : (⟨h, g, d, t, os⟩ : Shared).TypeIs (.ref C) "type" := ⟨_, atC, rfl⟩
  refine codeAny_of_tree ?_
  show wpAny _ _ (callAny (.ref C) _) _ _ _
  repeat (any_goals (first | assumption | with_reducible refine wpAny_loadPart_at atC ?_ | wp_step))
  refine ⟨rfl, codeAny_call_builtin_at (Code.quiet_builtin _ (by decide +kernel)) entry_typeCall (wpAny_check_type_call_sub atC (type_called F like atC hi hb few (codeAny_mono run fun r s' z => ?_)))⟩
  rcases r with e | (v | _ | _ | _) <;> exact z
theorem inited (F : InitF B iid bmB) (like : ∀ X : String, bm.contains (.type X) = bmB.contains (.type X)) {e t0 : Addr} {rest : List Value} (atC : h.get? C = some (excClassObj nm q C N bs bm hdct sn sub ab col dd k0 k1 k2 k3 k5 nid)) (ate : h.get? e = some (excO C t0)) (few : rest.length ≤ sizeLine)
    (post : ∀ h' t1, (∀ b o, b ≠ e → h.get? b = some o → h'.get? b = some o) → h'.get? e = some (excO C t1) → R (.ok (.ret .none)) ⟨h', g, d, t, os⟩) : codeAny (model prog w) A (.call (.builtin iid) ⟨.ref e :: rest, []⟩) R ⟨h, g, d, t, os⟩ := by
  refine codeAny_call_builtin F.init.plain F.entry (init_checked F like atC ate rfl ?_)
  wp_walk
  refine post _ h.objs.size (fun b o hb ho => by rw [Heap.get?_update_other _ _ (Ne.symm hb)]; exact Heap.get?_push_of_some _ ho) ?_
  rw [Heap.get?_update_self _ (Heap.get?_push_of_some _ ate) rfl]; rfl
end
open PyProof.Rows
section
variable {X : Cx} {pins : List (Addr × Obj)} {σ : L2.St} {H : Hp} {s : Shared} {a C : Addr} {E : Value → Shared → Prop} {A : Around} {B Bn nid iid inN : String} {bmB bmN : List Value}
theorem base_init {us : List Value} {Q : Value → Shared → Prop} (FB : InitF B iid bmB) (T : GX.Gx X.K C bmB nid) (I : Inv X pins σ H s) (e : H a = some (exo a C none)) (few : us.length ≤ sizeLine) (post : ∀ s', Inv X pins σ H s' → Q .none s') : wpAny (model X.prog X.w) A (call (.builtin iid) (.ref a :: us)) Q E s := by
  obtain ⟨nm, N, qn, bs, bm, hdct, sn, sub, ab, col, dd, k0, k1, k2, k3, k5, hC, hT⟩ := PySem.W.excInit_of I.kIn T.made
  obtain ⟨t1, at1⟩ := exo_at I.hok e
  obtain ⟨hp, g, d, t, os⟩ := s
  refine wpAny_call (inited FB hT hC at1 few fun h' t2 kp hx => ?_)
  have J := I.write (t' := t) (x := a) (e := a) (o := exo a C none) (by rw [e]; exact True.intro) (.inl rfl) kp ⟨_, hx⟩ (exo_ok hx)
  have same : upd H a (exo a C none) = H := funext fun b => by
    by_cases hb : b = a
    · rw [hb, upd_same, e]
    · rw [upd_ne hb]
  rw [same] at J
  exact post _ J
end
section
variable {X : Cx} {e : Expr} {es : List Expr} {ta : TA} {p p1 p2 pos : Pos} {B Bn nid iid inN : String} {bmB bmN : List Value} {x : Str}
/-- Base.__init__(self, ..) -/
theorem pe_bi {pl : Sem Bool} (FB : InitF B iid bmB) (hg : Gl X x) (hm : X.mg x = none) (hv : bootBuiltins x = some (.type B)) (ty : typeOf (.type B) = pure (.type "type"))
    (vV : PySem.W.findCls X.K (.type B) (.type "type") "__init__" = some (.val (.builtin iid))) (hb : PySem.W.handedIn (.builtin iid) = true) (hst : Manifest.isStub B = false) (ha : PA X (e :: es) ta)
    (hc : eval (.Call (.Attribute (.Name x p1) "__init__" p2) (e :: es) [] pos) X.env = (do
      let ov ← eval (.Name x p1) X.env
      standAt p2.atName
      let (f, first) ← holding [ov] (getMethod ov "__init__" pl)
      callWith pos f first (backTo pos (starEach (e :: es) X.env)) (backToKw pos (keywordEach [] X.env))) := by rfl)
    (hn : x ≠ "__name__" := by decide) (hd : (x == ("__debug__" : Str)) = false := by decide)
    (he : starEach (e :: es) X.env = (false, eval e X.env) :: starEach es X.env := by rfl) (hpl : (backTo pos (starEach es X.env)).any (·.1) = false := by rfl) :
    PE X (.Call (.Attribute (.Name x p1) "__init__" p2) (e :: es) [] pos) (GX.tBi X.K bmB nid ta) := by
  refine ⟨fun pins s σ H Q I h => ?_⟩
  refine PySem.W.methodCall_KW (ld_blt I hg hm hv ?_ hn hd) hc
  obtain ⟨m, fr⟩ := I.fr
  refine PySem.W.method_type fr I.ok.mod.kin ty hst vV hb ?_
  show wpAny _ _ (callWith pos (Value.builtin iid) [] (backTo pos (starEach (e :: es) X.env)) []) _ _ _
  refine PyProof.Rows.callWith_method1 (thn (ha.run pos pins _ σ H _ (I.tok _) h) fun us s1 hh => ?_) he hpl
  obtain ⟨vs, H1, I1, r1, a, C, ws, ev, hl, T, ea, q⟩ := hh
  subst ev
  cases r1 with
  | @cons _ u0 _ ur ra rw' =>
    obtain rfl : u0 = Value.ref a := ra
    have few : ur.length ≤ sizeLine := by
      have := Paired.length rw'
      rw [sizeLine_eq]
      omega
    exact base_init FB T I1 ea few fun s' J => ⟨.non, H1, J, rfl, q⟩
/-- C(e, ..) as what is raised -/
theorem pmk {CX : CXT} {C fI : Addr} {k : Nat} {fd : FuncData} {ps : List Str} {sp : Sp} {ds : List Value} {dvs : List V} (FB : NewF Bn nid inN bmN bmB) (T : GX.Gx X.K C bmB nid) (iC : PySem.W.findIn X.K (.ref C) "__init__" = some (some (.ref fI)))
    (tI : PySem.W.typeIn X.K (.ref fI) = some (.type "function"))
    (F1 : FnOk X.prog X.w X.K X.mg X.base CX k fI fd ps sp) (hr : Room (k + 1) X.A) (hb : Binds X.K fd ps ds) (hd : Vals dvs ds) (hx : Passes CX X (fun _ _ _ => False)) (hg : Gl X x) (hm : X.mg x = some (.ref C)) (ha : PA X (e :: es) ta)
    (hdb : (x == ("__debug__" : Str)) = false := by decide) (he : starEach (e :: es) X.env = (false, eval e X.env) :: starEach es X.env := by rfl) (hpl : (backTo pos (starEach es X.env)).any (·.1) = false := by rfl) :
    PMk X (.Call (.Name x p) (e :: es) [] pos) (tMkO C sp dvs ta) := by
  intro pins s σ H Q I h
  refine wpAny_Call_Name_kw (ld_glob I hg hm ?_ hdb)
  refine PySem.W.callWith_K (h₀ := X.base) I.ok.mod.kin T.keep (thn (ha.run pos pins s σ H _ I h) fun us s1 hh => ?_) he hpl
  obtain ⟨vs, H1, I1, r1, hz, q1⟩ := hh
  refine ⟨I1.kIn, ?_⟩
  show wpAny _ _ (call (.ref C) us) _ _ _
  obtain ⟨nm, N, qn, bs, bm, hdct, sn, sub, ab, col, dd, k0, k1, k2, k3, k5, hC, hT⟩ := PySem.W.excInit_of I1.kIn T.made
  obtain ⟨hp, g, dr, tk, os⟩ := s1
  have big : hp.objs.size ≤ hp.objs.size + 1 := Nat.le_succ _
  have hq := q1 (hp.objs.size + 1) (I1.hok.fresh big)
  have kk : ∀ b o, hp.get? b = some o → ((hp.push (PySem.W.kdv_tup us)).push (excO C hp.objs.size)).get? b = some o := fun b o z => Heap.get?_push_of_some _ (Heap.get?_push_of_some _ z)
  have there : ((hp.push (PySem.W.kdv_tup us)).push (excO C hp.objs.size)).get? (hp.objs.size + 1) = some (excO C hp.objs.size) := by heap_get
  have I2 := I1.laid (t' := tk) (a := hp.objs.size + 1) (o := exo (hp.objs.size + 1) C none) (h' := (hp.push (PySem.W.kdv_tup us)).push (excO C hp.objs.size)) kk big (exo_ok there)
  have r2 : Vals (V.ref (hp.objs.size + 1) :: (vs ++ dvs)) (Value.ref (hp.objs.size + 1) :: (us ++ ds)) := .cons rfl (r1.append hd)
  have hl : (Value.ref (hp.objs.size + 1) :: us ++ ds).length = ps.length := by
    have e1 := r2.length
    rw [F1.len _ _ _ _ hq] at e1
    exact e1.symm
  have few : us.length ≤ sizeLine := by
    have := Paired.length r1
    rw [sizeLine_eq]
    omega
  refine wpAny_call (called FB hT hC (PySem.W.looks_findIn I1.kIn iC) (fun self => PySem.W.bind_fn I1.kIn self tI) few (codeAny_mono
    (F1.run _ X.stack _ _ ⟨Value.ref (hp.objs.size + 1) :: us, []⟩ (Value.ref (hp.objs.size + 1) :: (us ++ ds)) _ _ (fun _ _ _ => False) (hr.make C us []) (I2.env0.make C us []) (hb _ (Value.ref (hp.objs.size + 1) :: us) I2.kIn hl) r2 hq) fun r s' hq' => ?_))
  cases r with
  | error er => exact hx pins σ _ _ er s' I2 hq'
  | ok fl =>
    cases fl with
    | ret u =>
      obtain ⟨v, H2, os2, bare2, un2, hok2, rv, ev, d, fs, ea, ed, hd1, q2⟩ := hq'
      subst ev
      obtain ⟨h2, g2, d2, t2, os'⟩ := s'
      exact ⟨rv, mk_end (raises_own T.base T.typ) I1 big kk un2 hok2 os2 bare2 ea ed hd1 q2⟩
    | next => exact False.elim hq'
    | brk => exact False.elim hq'
    | cont => exact False.elim hq'
end
/-! KeyError -/
theorem initKE : InitF "KeyError" "KeyError.__init__" keT where
  entry := excClass_KeyError.initEntry
  split := by decide +kernel
  kind := by decide +kernel
  row := by kernel_rfl
  star := by decide +kernel
  has := by decide +kernel
  init := excClass_KeyError.init
theorem newKE : NewF "LookupError" "LookupError.__new__" "LookupError.__init__" [.type "LookupError", .type "Exception", .type "BaseException", .type "object"] keT where
  base := PySem.F.excBase_LookupError
  has := by decide +kernel
  noA := by decide +kernel
  noN := by decide +kernel
theorem storeKE : StoreFacts "KeyError" keT "object.__setattr__" "object" where
  mro := by kernel_rfl
  slot := .of (owner := "object") (n := "__setattr__") (by rw [typeLookup_type, builtinLookup_eq_fast]; kernel_rfl) (by decide +kernel) (by decide +kernel) (by decide +kernel) (by first | exact .inl (by decide +kernel) | exact .inr (by decide +kernel)) (by rw [isSubtype_type]; kernel_rfl)
  entry := PySem.F.store_ZeroDivisionError.entry
  kind := by decide +kernel
  split := by decide +kernel
  hasOwner := by decide +kernel
  args := fun a b c => by unfold argsOk; kernel_rfl
  passes := fun self => by kernel_rfl
theorem typKE : typeOf (.type "KeyError") = pure (.type "type") := by kernel_rfl
end GXK
set_option Elab.async false
set_option linter.all false
set_option maxRecDepth 100000
set_option maxHeartbeats 0
namespace K14
open PySem PySem.Spec PyProof.Rows L2
def fa : List He.Fa := [.glo "is_whole", .glo "is_between", .glo "is_name", .glo "is_day", .glo "is_mask", .glo "check_day", .glo "check_span", .glo "mask_text", .glo "mask_of", .glo "weekdays", .glo "mask_from", .glo "_law_pen", .glo "_law_draw", .glo "_law_names", .glo "_law_day", .glo "_law_deed", .glo "_law_done", .glo "_law_rules", .glo "_law_people", .glo "_law_begun", .glo "_law_seen", .glo "_law_goes", .glo "_law_one", .glo "_law_stage_right", .glo "_law_is_no_day", .glo "_law_alone_right", .glo "_law_entering_right", .glo "_law_left_right", .glo "law", .free "isinstance", .free "int", .free "bool", .free "str", .free "list", .free "range", .free "len", .free "all", .free "any", .free "max", .free "min", .free "repr", .free "dict", .free "sorted", .free "enumerate", .free "LookupError", .glo "Person", .cls "Person", .mkr "Person", .glo "Wish", .cls "Wish", .mkr "Wish", .glo "Wants", .cls "Wants", .mkr "Wants", .glo "NoDay", .noat "Person" "name", .noat "Person" "seats", .noat "Person" "mask", .noat "Wish" "seats", .noat "Wish" "first", .noat "Wish" "last", .noat "Wish" "masks", .noat "Wish" "alone", .noat "Wish" "spans", .noat "Wants" "wishes", .noat "NoDay" "day", .meth "Wish" "is_sick", .meth "Wish" "mask_on", .meth "Wish" "holds_on", .meth "Wants" "wish_of", .meth "Wants" "enter", .meth "Wants" "leave", .meth "Wants" "weekly", .meth "Wants" "only", .meth "Wants" "usual", .meth "Wants" "sick", .meth "Wants" "well", .meth "Wants" "wants", .meth "Wants" "riders", .meth "Wants" "room", .meth "NoDay" "__init__", .int "LAST_DAY" 1000000, .int "LAST_MASK" 127, .int "LONGEST_NAME" 8, .int "WEEK" 7, .int "MOST_SEATS" 9, .str "SIXTEEN" "0123456789abcdef"]
abbrev R : PySem.W.OpenRow := PySem.W.OpenLaw.row PySem.Challenge.rw_rideturns_k14_whole_wants_there_and_back
abbrev loose : List Str := [("BadName" : Str), ("NoNumber" : Str), ("NoText" : Str), ("NoName" : Str), ("NoDay" : Str), ("Taken" : Str), ("LAST_DAY" : Str), ("LAST_MASK" : Str), ("LONGEST_NAME" : Str), ("is_whole" : Str), ("is_between" : Str), ("is_name" : Str), ("is_day" : Str), ("is_mask" : Str), ("check_day" : Str), ("check_span" : Str), ("WEEK" : Str), ("SIXTEEN" : Str), ("mask_text" : Str), ("mask_of" : Str), ("weekdays" : Str), ("mask_from" : Str), ("Wish" : Str), ("Wants" : Str), ("MOST_SEATS" : Str), ("Person" : Str), ("_law_pen" : Str), ("_law_draw" : Str), ("_law_names" : Str), ("_law_day" : Str), ("_law_deed" : Str), ("_law_done" : Str), ("_law_rules" : Str), ("_law_people" : Str), ("_law_begun" : Str), ("_law_seen" : Str), ("_law_goes" : Str), ("_law_one" : Str), ("_law_stage_right" : Str), ("_law_is_no_day" : Str), ("_law_alone_right" : Str), ("_law_entering_right" : Str), ("_law_left_right" : Str)]

def xk1 (K : PySem.W.Frag) : Bool := GX.gxB K (He.ga K "NoDay") [.type "LookupError", .type "Exception", .type "BaseException", .type "object"] "LookupError.__new__" && (GX.vvB K "LookupError" "LookupError.__init__" && decide (PySem.W.exmOne K (.ref (He.ga K "NoDay")) (.ref (He.ga K "NoDay")) = some true))
def xk (K : PySem.W.Frag) : Bool := (xk1) K
noncomputable def eN (w : World) (os : PySem.OsState) : Option PySem.W.SharedT := HandSHeadRun.endF (HandSHeadRun.stepQ (HandSHeadRun.denQ HandSHeadRun.tabQ) R.prog w) 8000 R.prog w os
abbrev Kf (s : PySem.W.SharedT) : PySem.W.Frag := He.frT (HandSHeadRun.getT s) (He.asD (HandSHeadRun.getT s) 6)
theorem runB (w : World) (os : PySem.OsState) : (eN w os).map (fun s => fa.all fun f => f.ok (Kf s)) = some true := by
  kernel_rfl
section
open PySem.W PySem.Calls
theorem runL (w : World) (os : PySem.OsState) : (eN w os).map (fun s => HandSHeadRun.looksF R.prog (boot_heap w.params) s.abs) = some true := by
  kernel_rfl
end
section
open PySem.W PySem.Calls
theorem runS (w : World) (os : PySem.OsState) : (eN w os).map (fun s => HandSHeadRun.seenQ (PySem.W.view R.prog [49]) loose (importedModules R.prog.main.body) (fun s => xlAt (PySem.W.view R.prog [49]) [] s && recOk R.toRowW.records s) s.abs) = some (openGood (PySem.W.view R.prog [49]) loose) := by
  kernel_rfl
end
theorem runC (w : World) (os : PySem.OsState) : (eN w os).map (fun s => (fn.all fun d => d.ok (Kf s), (xk (Kf s) && He.tabsB (HandSHeadRun.getT s) [] (Kf s)), fn.map fun d => He.fnW (Kf s) d.at_)) = some (true, true, fn.map He.DefD.val) := by
  kernel_rfl
end K14
set_option Elab.async false
set_option linter.all false
set_option maxRecDepth 100000
set_option maxHeartbeats 4000000
namespace K14
open PySem PySem.Spec PyProof.Rows L2
open C8 (Cal Mak Met pe_c pe_mk pe_mt pe_mt0)
/-- a def of the text -/
abbrev Dn (K : PySem.W.Frag) (d : He.DefD) (f : Addr) (fd : FuncData) : Prop := FunD K d.name d.qual d.params d.body d.scope (d.dvs K) (d.kws K) f fd
/-- what the module's names are -/
structure Bl (mg : Str → Option Value) : Prop where
  isi : mg "isinstance" = none
  int : mg "int" = none
  bool : mg "bool" = none
  str : mg "str" = none
  list : mg "list" = none
  range : mg "range" = none
  len : mg "len" = none
  all : mg "all" = none
  any : mg "any" = none
  max : mg "max" = none
  min : mg "min" = none
theorem same_new {H : Hp} {p : Addr} {o : HO} (h : H p = none) : Same H (upd H p o) := fun a u e => by
  rw [upd_ne (ne_of_none e h)]
  exact e
theorem dpInts {K : PySem.W.Frag} {H : Hp} : ∀ ns : List Int, DpAll K H (ns.map V.int) (ns.map PyData.int)
  | [] => .nil
  | n :: ns => .cons (.int n) (dpInts ns)
theorem cb_l {i j : Int} (h1 : -(2 ^ 64) < i) (h2 : i < 2 ^ 64) : CMul i j := .inl ⟨h1, h2⟩
theorem cb_r {i j : Int} (h1 : -(2 ^ 64) < j) (h2 : j < 2 ^ 64) : CMul i j := .inr ⟨h1, h2⟩
/-- the pen at p, good for c draws more -/
def penL (l : Addr) (n m : Int) : List V := [.ref l, .int n, .int m]
def Pen (H : Hp) (p : Addr) (c : Nat) : Prop := ∃ (l : Addr) (ns : List Int) (n m : Int), H p = some (.lst (penL l n m)) ∧ H l = some (.lst (ns.map V.int)) ∧ l ≠ p ∧ 0 ≤ n ∧ n + c ≤ 1000000000
theorem Pen.weak {H : Hp} {p : Addr} {c c' : Nat} (hc : c' ≤ c) (x : Pen H p c) : Pen H p c' := by
  obtain ⟨l, ns, n, m, h1, h2, h3, h4, h5⟩ := x
  exact ⟨l, ns, n, m, h1, h2, h3, h4, by omega⟩
theorem Pen.same {H H' : Hp} {p : Addr} {c : Nat} (s : Same H H') (x : Pen H p c) : Pen H' p c := by
  obtain ⟨l, ns, n, m, h1, h2, h3⟩ := x
  exact ⟨l, ns, n, m, s _ _ h1, s _ _ h2, h3⟩
/-- all but the pen is kept, its cells stay where they are -/
def Kp (p : Addr) (H H' : Hp) : Prop := (∀ b o, H b = some o → b ≠ p → H' b = some o) ∧ ∀ l n m, H p = some (.lst (penL l n m)) → ∃ n' m', H' p = some (.lst (penL l n' m'))
theorem Kp.refl (p : Addr) (H : Hp) : Kp p H H := ⟨fun _ _ e _ => e, fun _ n m e => ⟨n, m, e⟩⟩
theorem Kp.trans {p : Addr} {H H1 H2 : Hp} (a : Kp p H H1) (b : Kp p H1 H2) : Kp p H H2 := ⟨fun c o e n => b.1 c o (a.1 c o e n) n, fun l n m e => let ⟨n', m', e'⟩ := a.2 l n m e; b.2 l n' m' e'⟩
theorem Kp.same {p : Addr} {H H1 : Hp} (a : Same H H1) : Kp p H H1 := ⟨fun c o e _ => a c o e, fun _ n m e => ⟨n, m, a _ _ e⟩⟩
theorem pen_inj {l l' : Addr} {n m n' m' : Int} (h : HO.lst (penL l n m) = HO.lst (penL l' n' m')) : l = l' := by
  injection h with h
  injection h with h _
  injection h
theorem Kp.put {p l : Addr} {H : Hp} {n m : Int} (n' m' : Int) (e : H p = some (.lst (penL l n m))) : Kp p H (upd H p (.lst (penL l n' m'))) := by
  refine ⟨fun c o z ne => by rw [upd_ne ne]; exact z, fun l' n1 m1 z => ⟨n', m', ?_⟩⟩
  rw [upd_same, pen_inj (Option.some.inj (z.symm.trans e))]
theorem Kp.new {p st : Addr} {H1 H2 : Hp} {o : HO} (k : Kp p H1 H2) (f : H1 st = none) : Kp p H1 (upd H2 st o) :=
  ⟨fun b u e ne => by rw [upd_ne (ne_of_none e f)]; exact k.1 b u e ne, fun l n m e => by
    obtain ⟨n', m', e'⟩ := k.2 l n m e
    exact ⟨n', m', by rw [upd_ne (ne_of_none e f)]; exact e'⟩⟩
/-- D is neither the pen nor its cells -/
def Off (p D : Addr) (H : Hp) : Prop := ∃ l n m, H p = some (.lst (penL l n m)) ∧ l ≠ D ∧ p ≠ D
theorem Off.kp {p D : Addr} {H H' : Hp} (x : Off p D H) (k : Kp p H H') : Off p D H' := by
  obtain ⟨la, n, m, e, n1, n2⟩ := x
  obtain ⟨n', m', e'⟩ := k.2 _ _ _ e
  exact ⟨la, n', m', e', n1, n2⟩
theorem Off.of {p D : Addr} {H : Hp} {c : Nat} (x : Pen H p c) (f : H D = none) : Off p D H := by
  obtain ⟨la, ns, n, m, e1, e2, _⟩ := x
  exact ⟨la, n, m, e1, ne_of_none e2 f, ne_of_none e1 f⟩
theorem Off.ne {p D : Addr} {H : Hp} (x : Off p D H) : D ≠ p := by
  obtain ⟨_, _, _, _, _, n⟩ := x
  exact n.symm
theorem Off.put {p D D' : Addr} {H : Hp} {o : HO} (x : Off p D H) (n : p ≠ D') : Off p D (upd H D' o) := by
  obtain ⟨la', n', m', e', n1, n2⟩ := x
  exact ⟨la', n', m', by rw [upd_ne n]; exact e', n1, n2⟩
theorem Pen.put {p D : Addr} {H : Hp} {o : HO} {c : Nat} (x : Pen H p c) (y : Off p D H) : Pen (upd H D o) p c := by
  obtain ⟨la, ns, n, m, e1, e2, e3⟩ := x
  obtain ⟨la', n', m', e', n1, n2⟩ := y
  cases pen_inj (Option.some.inj (e1.symm.trans e'))
  exact ⟨la, ns, n, m, by rw [upd_ne n2]; exact e1, by rw [upd_ne n1]; exact e2, e3⟩
section
variable {P : Program} {w : World} {K : PySem.W.Frag} {mg : Str → Option Value} {base : Heap} {f C : Addr} {fd : FuncData}
def spPen (K : PySem.W.Frag) : Sp := fun vs H Q _ => ∃ (a : Addr) (ns : List Int), vs = [.ref a] ∧ SqL K H a (ns.map V.int) ∧ ns.length ≤ 63 ∧ ∀ p H', Same H H' → H p = none → Pen H' p 900000000 → Q (.ref p) H'
theorem ok_pen (F : Dn K d_l_pen f fd) (b : Bl mg) : FnOk P w K mg base CX0 1 f fd ["_law_script"] (spPen K) := by
  refine F.ok sc_l_pen (fun vs H Q E h => ?_) (fun cdv A outer s H vs Q E hr h => ?_)
  · obtain ⟨a, ns, rfl, _⟩ := h
    rfl
  · obtain ⟨a, ns, rfl, hS, hlen, hQ⟩ := h
    refine ⟨_, PSs.nox (pss_one (ps_ret (pe_lst (pa_cons (pe_callTy call_list_of rfl b.list boot_list (pa_cons (pe_slice sl_list (pv 0) po_none (po_some pe_int)) pa_nil)) (pa_cons pe_int (pa_cons pe_int pa_nil)))))), ?_⟩
    refine ⟨_, rfl, 63, rfl, a, _, rfl, hS, fun q hq => ⟨q, _, rfl, Or.inl (SqL.of upd_same), fun l hl => ?_⟩⟩
    refine ⟨by show 3 ≤ sizeLine; decide, fun p hp => ?_⟩
    have e : cutV (ns.map V.int) none (some 63) = (ns.take 63).map V.int := by
      unfold cutV
      simp [HT.sIx, List.map_take]
    have s1 := same_new (o := .lst (cutV (ns.map V.int) none (some 63))) hq
    have s2 := same_new (o := .lst (cutV (ns.map V.int) none (some 63))) hl
    have s3 := same_new (o := .lst (penL l 0 0)) hp
    refine hQ p _ ((s1.trans s2).trans s3) ((s1.trans s2).free hp) ⟨l, ns.take 63, 0, 0, upd_same, ?_, ?_, by decide, by decide⟩
    · rw [← e]
      exact s3 _ _ upd_same
    · exact ne_of_none upd_same hp
def spDraw : Sp := fun vs H Q _ => ∃ (p : Addr) (c : Nat) (k : Int), vs = [.ref p, .int k] ∧ Pen H p (c + 1) ∧ 0 < k ∧ k < 1073741824 ∧
  ∀ r H', 0 ≤ r → r < k → Pen H' p c → Kp p H H' → Q (.int r) H'
theorem ok_draw (F : Dn K d_l_draw f fd) (b : Bl mg) : FnOk P w K mg base CX0 1 f fd ["_law_pen_here", "_law_many"] spDraw := by
  refine F.ok sc_l_draw (fun vs H Q E h => ?_) (fun cdv A outer s H vs Q E hr h => ?_)
  · obtain ⟨p, c, k, rfl, _⟩ := h
    rfl
  · obtain ⟨p, c, k, rfl, ⟨l, ns, n, m, hp, hl, nlp, hn, hc⟩, hk0, hk1, hQ⟩ := h
    have hu64 : (A.deeper (envOfC d_l_draw.qual d_l_draw.scope s.heap.objs.size f cdv)).units + 64 < cLine := by have := hr.un; omega
    refine ⟨_, PSs.nox (pss_cons (ps_if (pt_cmpR op_gt (pe_ix ix_list (pv 0) pe_int (fun _ _ => rfl)) pe_int (nomark _))
         (pss_cons (ps_set (i := 2) sc_l_draw.nd rfl (.inl rfl) (pe_op op_mod (pe_ix ix_list (pv 0) pe_int (fun _ _ => rfl)) (pv 1)))
         (pss_cons (ps_asg (pe_op op_fdiv (pe_ix ix_list (pv 0) pe_int (fun _ _ => rfl)) (pv 1)) (pg_sub (pv 0) pe_int set_list))
         (pss_one (ps_ret (pv 2))))) pss_nil)
      (pss_cons (ps_set (i := 3) sc_l_draw.nd rfl (.inl rfl) (pe_ix ix_list (pv 0) pe_int (fun _ _ => rfl)))
      (pss_cons (ps_asg (pe_op op_add (pv 3) pe_int) (pg_sub (pv 0) pe_int set_list))
      (pss_cons (ps_set (i := 4) sc_l_draw.nd rfl (.inl rfl) pe_int)
      (C8.pss_cut (ps_if (pt_cmpR (op_neD hu64) (pe_ix ix_list (pv 0) pe_int (fun _ _ => rfl)) (pe_lst pa_nil) (nomark _))
        (pss_one (ps_set (i := 4) sc_l_draw.nd rfl (.inl rfl) (pe_ix ix_list (pe_ix ix_list (pv 0) pe_int (fun _ _ => rfl)) (pe_op op_mod (pv 3) (pe_callB call_len_seq rfl b.len boot_len (pa_cons (pe_ix ix_list (pv 0) pe_int (fun _ _ => rfl)) pa_nil))) (fun _ _ => rfl)))) pss_nil)
      (pss_cons (ps_if (PW.pt (pw_and (pt_cmpR op_ge (pv 4) (pe_op op_pow pe_int pe_int) (nomark _)) (pw_and1 (pt_cmpR op_lt (pv 3) (pe_callB call_len_seq rfl b.len boot_len (pa_cons (pe_ix ix_list (pv 0) pe_int (fun _ _ => rfl)) pa_nil)) (nomark _)))))
         (pss_cons (ps_asg (pe_op op_fdiv (pv 4) (pv 1)) (pg_sub (pv 0) pe_int set_list))
         (pss_one (ps_ret (pe_op op_mod (pv 4) (pv 1))))) pss_nil)
      (pss_cons (ps_set (i := 5) sc_l_draw.nd rfl (.inl rfl) (pe_op op_mod (pe_op op_add (pe_op op_add (pe_op op_add (pe_op op_mul (pe_op op_mod (pv 4) pe_int) pe_int) (pe_op op_mul (pe_op op_mul pe_int (pv 3)) (pv 3))) (pe_op op_mul pe_int (pv 3))) pe_int) pe_int))
      (pss_cons (ps_set (i := 5) sc_l_draw.nd rfl (.inl rfl) (pe_op op_mod (pe_op op_mul (pv 5) (pe_op op_add (pe_op op_mod (pv 5) pe_int) pe_int)) pe_int))
      (pss_one (ps_ret (pe_op op_mod (pe_op op_fdiv (pe_op op_mod (pe_op op_add (pe_op op_mul (pv 5) pe_int) (pv 3)) pe_int) pe_int) (pv 1)))))))))))), ?_⟩
    have cM : ∀ x y : Int, 0 < y → (0 ≤ x % y ∧ x % y < y) := fun x y hy => ⟨Int.emod_nonneg _ (by omega), Int.emod_lt_of_pos _ hy⟩
    have i2 : ∀ {n m : Int}, atI (penL l n m) 2 = some (.int m) := atI_nat (j := 2) rfl
    have i1 : ∀ {n m : Int}, atI (penL l n m) 1 = some (.int n) := atI_nat (j := 1) rfl
    have i0 : ∀ {n m : Int}, atI (penL l n m) 0 = some (.ref l) := atI_nat (j := 0) rfl
    refine ⟨_, rfl, p, _, _, _, rfl, rfl, SqL.of hp, i2, _, _, rfl, rfl, _, rfl, ?_⟩
    refine ite2 (fun h1 => ?_) (fun h1 => ?_)
    · refine ⟨_, rfl, p, _, _, _, rfl, rfl, SqL.of hp, i2, _, rfl, _, _, rfl, rfl, hk0, ?_⟩
      refine ⟨_, rfl, p, _, _, _, rfl, rfl, SqL.of hp, i2, _, rfl, _, _, rfl, rfl, ⟨hk0, hk1⟩, _, rfl, p, _, _, 2, rfl, rfl, hp, rfl, ?_⟩
      refine ⟨_, rfl, hQ _ _ (cM _ _ hk0).1 (cM _ _ hk0).2 ⟨l, ns, n, m / k, upd_same, ?_, nlp, hn, by omega⟩ (Kp.put n (m / k) hp)⟩
      rw [upd_ne nlp]
      exact hl
    · refine ⟨_, rfl, p, _, _, _, rfl, rfl, SqL.of hp, i1, ?_⟩
      refine ⟨_, rfl, _, _, rfl, rfl, _, rfl, p, _, _, 1, rfl, rfl, hp, rfl, ?_⟩
      have hp1 : (upd H p (.lst (penL l (n + 1) m))) p = some (.lst (penL l (n + 1) m)) := upd_same
      have hl1 : (upd H p (.lst (penL l (n + 1) m))) l = some (.lst (ns.map V.int)) := by rw [upd_ne nlp]; exact hl
      have kp1 : Kp p H (upd H p (.lst (penL l (n + 1) m))) := Kp.put _ _ hp
      refine ⟨fun σ' H' => ∃ (cell : Int), σ' = [some (.ref p), some (.int k), none, some (.int n), some (.int cell), none] ∧ H' p = some (.lst (penL l (n + 1) m)) ∧ H' l = some (.lst (ns.map V.int)) ∧ Kp p H H', ?_, ?_⟩
      · refine ⟨_, rfl, p, _, _, _, rfl, rfl, SqL.of hp1, i0, (by show 0 ≤ sizeLine; decide), fun e he => ?_⟩
        have s2 := same_new (o := .lst []) he
        have hp2 := s2 _ _ hp1
        have hl2 := s2 _ _ hl1
        have kp2 := kp1.trans (Kp.same s2)
        refine ⟨.list (ns.map .int), .list [], Dp.lst (SqL.of hl2) (dpInts ns), Dp.lst (SqL.of upd_same) .nil, PySem.W.ke_shaped_ints ns, by decide, _, rfl, ?_⟩
        cases ns with
        | nil => exact iteF ⟨5, rfl, hp2, hl2, kp2⟩
        | cons z zs =>
          refine iteT ?_
          have hlen : (0 : Int) < (((z :: zs).map V.int).length : Int) := by simp
          refine ⟨_, rfl, p, _, _, _, rfl, rfl, SqL.of hp2, i0, _, rfl, _, rfl, p, _, _, _, rfl, rfl, SqL.of hp2, i0, l, _, rfl, Or.inl (SqL.of hl2), _, _, rfl, rfl, hlen, ?_⟩
          obtain ⟨q, hq⟩ := Int.eq_ofNat_of_zero_le (cM n _ hlen).1
          have hq2 := (cM n _ hlen).2
          rw [hq] at hq2
          have hq3 : q < (z :: zs).length := by rw [List.length_map] at hq2; omega
          refine ⟨l, _, _, .int ((z :: zs)[q]), rfl, rfl, SqL.of hl2, (by rw [hq]; exact atI_nat (by rw [List.getElem?_map, List.getElem?_eq_getElem hq3]; rfl)), ?_⟩
          exact ⟨_, rfl, hp2, hl2, kp2⟩
      · rintro σ' H' ⟨cell, rfl, hp2, hl2, kp2⟩
        have stay0 : Pen H' p c := ⟨l, ns, n + 1, m, hp2, hl2, nlp, by omega, by omega⟩
        have last : ∀ D : Ends, D.rt = Q → tSeq (tAsg (tOp (rI (fun _ j => 0 < j) fun i j => .int (i % j)) (tOp (rI0 fun i j => .int (i + j)) (tOp (rI0 fun i j => .int (i + j)) (tOp (rI0 fun i j => .int (i + j))
            (tOp (rI CMul fun i j => .int (i * j)) (tOp (rI (fun _ j => 0 < j) fun i j => .int (i % j)) (tVar 4) (tC (.int 2147483629))) (tC (.int 40503))) (tOp (rI CMul fun i j => .int (i * j)) (tOp (rI CMul fun i j => .int (i * j)) (tC (.int 7919)) (tVar 3)) (tVar 3)))
            (tOp (rI CMul fun i j => .int (i * j)) (tC (.int 104729)) (tVar 3))) (tC (.int 29))) (tC (.int 2147483647))) (gName 5))
          (tSeq (tAsg (tOp (rI (fun _ j => 0 < j) fun i j => .int (i % j)) (tOp (rI CMul fun i j => .int (i * j)) (tVar 5) (tOp (rI0 fun i j => .int (i + j)) (tOp (rI (fun _ j => 0 < j) fun i j => .int (i % j)) (tVar 5) (tC (.int 65003))) (tC (.int 3)))) (tC (.int 2147483587))) (gName 5))
          (tRet (tOp (rI (fun _ j => 0 < j) fun i j => .int (i % j)) (tOp (rI CDiv fun i j => .int (i / j)) (tOp (rI (fun _ j => 0 < j) fun i j => .int (i % j)) (tOp (rI0 fun i j => .int (i + j)) (tOp (rI CMul fun i j => .int (i * j)) (tVar 5) (tC (.int 69621))) (tVar 3)) (tC (.int 2147483563))) (tC (.int 16))) (tVar 1)))) D [some (.ref p), some (.int k), none, some (.int n), some (.int cell), none] H' := by
          intro D hD
          refine ⟨_, rfl, _, _, rfl, rfl, (by decide : (0 : Int) < 2147483629), _, _, rfl, rfl, cb_r (by decide) (by decide), _, rfl, _, _, rfl, rfl, cb_l (by decide) (by decide), _, rfl, _, _, rfl, rfl, cb_r (by omega) (by omega), _, _, rfl, rfl, ?_⟩
          refine ⟨_, rfl, _, _, rfl, rfl, cb_l (by decide) (by decide), _, _, rfl, rfl, _, _, rfl, rfl, _, _, rfl, rfl, (by decide : (0 : Int) < 2147483647), ?_⟩
          refine ⟨_, rfl, _, rfl, _, _, rfl, rfl, (by decide : (0 : Int) < 65003), _, _, rfl, rfl, _, _, rfl, rfl, ?_, _, _, rfl, rfl, (by decide : (0 : Int) < 2147483587), ?_⟩
          · refine cb_l ?_ ?_
            · exact Int.lt_of_lt_of_le (by decide) (cM _ 2147483647 (by decide)).1
            · exact Int.lt_trans (cM _ 2147483647 (by decide)).2 (by decide)
          refine ⟨_, rfl, _, _, rfl, rfl, cb_r (by decide) (by decide), _, rfl, _, _, rfl, rfl, _, _, rfl, rfl, (by decide : (0 : Int) < 2147483563), _, _, rfl, rfl, ⟨by decide, by decide⟩, _, rfl, _, _, rfl, rfl, hk0, ?_⟩
          rw [hD]
          exact hQ _ _ (cM _ _ hk0).1 (cM _ _ hk0).2 stay0 kp2
        refine ⟨_, rfl, _, _, rfl, rfl, ⟨by decide, by decide, by decide⟩, _, _, rfl, rfl, _, rfl, ?_⟩
        refine ite2 (fun g1 => ?_) (fun g1 => iteF (last _ rfl))
        refine ⟨_, rfl, _, rfl, p, _, _, _, rfl, rfl, SqL.of hp2, i0, l, _, rfl, Or.inl (SqL.of hl2), _, _, rfl, rfl, _, rfl, ?_⟩
        refine ite2 (fun g2 => ?_) (fun g2 => last _ rfl)
        refine ⟨_, rfl, _, rfl, _, _, rfl, rfl, ⟨hk0, hk1⟩, _, rfl, p, _, _, 2, rfl, rfl, hp2, rfl, ?_⟩
        refine ⟨_, rfl, _, rfl, _, _, rfl, rfl, hk0, ?_⟩
        refine hQ _ _ (cM _ _ hk0).1 (cM _ _ hk0).2 ⟨l, ns, n + 1, cell / k, upd_same, ?_, nlp, by omega, by omega⟩ (kp2.trans (Kp.put (n + 1) (cell / k) hp2))
        rw [upd_ne nlp]
        exact hl2
end
end K14
set_option Elab.async false
set_option linter.all false
set_option maxRecDepth 100000
set_option maxHeartbeats 4000000
/-! NM: the names that a law draws: words by a base, a place, a spot and a way. -/
namespace NM
open PySem PySem.Spec
def ok (l : List Nat) : Prop := 1 ≤ l.length ∧ l.length ≤ 8 ∧ ∀ c ∈ l, 97 ≤ c ∧ c ≤ 122
def words : List (List Nat) := [[108, 97, 116, 101], [105, 110], [111, 117, 116], [114, 105, 100, 101], [104, 97, 110, 100], [108, 97, 99, 107], [121, 101, 115], [110, 111], [110, 97, 109, 101, 115], [103, 111, 110, 101], [116, 101, 120, 116], [112, 108, 97, 110], [117, 110, 100, 111], [117, 115, 117, 97, 108], [98, 97, 99, 107], [108, 101, 97, 118, 101]]
def lets : List Nat := (List.range 26).map (97 + ·)
def w0 (bs : List Nat) (at_ spot k : Nat) : List Nat := bs.take at_ ++ [97 + (spot + 5 * k) % 26] ++ bs.drop (at_ + 1)
def w1 (bs : List Nat) (at_ spot k : Nat) : List Nat := (w0 bs at_ spot k).take (bs.length - k % (bs.length - at_))
def w2 (spot k : Nat) : List Nat := (List.replicate 8 (97 + (spot + k / 8) % 26)).take (k % 8 + 1)
def w3 (spot k : Nat) : List Nat := words.getD ((spot + k) % 16) []
def word (bs : List Nat) (at_ spot way k : Nat) : List Nat := if way = 1 then w1 bs at_ spot k else if way = 2 then w2 spot k else if way = 3 then w3 spot k else w0 bs at_ spot k
theorem words_ok : ∀ i, i < 16 → ok (words.getD i []) := by
  have : ∀ i : Fin 16, 1 ≤ (words.getD i.1 []).length ∧ (words.getD i.1 []).length ≤ 8 ∧ (words.getD i.1 []).all (fun c => decide (97 ≤ c ∧ c ≤ 122)) = true := by decide +kernel
  intro i hi
  obtain ⟨h1, h2, h3⟩ := this ⟨i, hi⟩
  refine ⟨h1, h2, fun c hc => ?_⟩
  have := List.all_eq_true.mp h3 c hc
  exact of_decide_eq_true this
theorem words_inj : ∀ i j, i < 16 → j < 16 → words.getD i [] = words.getD j [] → i = j := by
  have : ∀ i j : Fin 16, words.getD i.1 [] = words.getD j.1 [] → i = j := by decide +kernel
  intro i j hi hj e
  exact congrArg Fin.val (this ⟨i, hi⟩ ⟨j, hj⟩ e)
section
variable {bs : List Nat} {at_ spot k : Nat}
theorem w0_len (h : at_ < bs.length) : (w0 bs at_ spot k).length = bs.length := by
  unfold w0
  simp only [List.length_append, List.length_take, List.length_drop, List.length_cons, List.length_nil]
  omega
theorem w0_at (h : at_ < bs.length) : (w0 bs at_ spot k)[at_]? = some (97 + (spot + 5 * k) % 26) := by
  unfold w0
  rw [List.append_assoc, List.getElem?_append_right (by rw [List.length_take]; omega), List.length_take, Nat.min_eq_left (by omega), Nat.sub_self]
  rfl
theorem w0_mem (hb : ∀ c ∈ bs, 97 ≤ c ∧ c ≤ 122) : ∀ c ∈ w0 bs at_ spot k, 97 ≤ c ∧ c ≤ 122 := by
  intro c hc
  unfold w0 at hc
  rcases List.mem_append.mp hc with hc | hc
  · rcases List.mem_append.mp hc with hc | hc
    · exact hb c (List.mem_of_mem_take hc)
    · rw [List.mem_singleton] at hc
      omega
  · exact hb c (List.mem_of_mem_drop hc)
theorem w1_len (h : at_ < bs.length) : at_ + 1 ≤ (w1 bs at_ spot k).length ∧ (w1 bs at_ spot k).length ≤ bs.length := by
  unfold w1
  rw [List.length_take, w0_len h]
  have := Nat.mod_lt k (show 0 < bs.length - at_ by omega)
  omega
theorem w1_at (h : at_ < bs.length) : (w1 bs at_ spot k)[at_]? = some (97 + (spot + 5 * k) % 26) := by
  have h1 := (w1_len (spot := spot) (k := k) h).1
  unfold w1 at h1 ⊢
  rw [List.length_take, w0_len h] at h1
  rw [List.getElem?_take_of_lt (by omega)]
  exact w0_at h
theorem spot_inj {i j : Nat} (hi : i < 16) (hj : j < 16) (e : 97 + (spot + 5 * i) % 26 = 97 + (spot + 5 * j) % 26) : i = j := by omega
theorem word_ok (hb0 : 1 ≤ bs.length) (hb8 : bs.length ≤ 8) (hb : ∀ c ∈ bs, 97 ≤ c ∧ c ≤ 122) (h : at_ < bs.length) (way : Nat) : ok (word bs at_ spot way k) := by
  unfold word
  split
  · have := w1_len (spot := spot) (k := k) h
    exact ⟨by omega, by omega, fun c hc => w0_mem hb c (List.mem_of_mem_take hc)⟩
  split
  · unfold w2
    refine ⟨by rw [List.length_take, List.length_replicate]; omega, by rw [List.length_take, List.length_replicate]; omega, fun c hc => ?_⟩
    have := List.eq_of_mem_replicate (List.mem_of_mem_take hc)
    omega
  split
  · exact words_ok _ (Nat.mod_lt _ (by decide))
  · exact ⟨by rw [w0_len h]; exact hb0, by rw [w0_len h]; exact hb8, w0_mem hb⟩
theorem word_inj (h : at_ < bs.length) (way : Nat) {i j : Nat} (hi : i < 16) (hj : j < 16) (e : word bs at_ spot way i = word bs at_ spot way j) : i = j := by
  unfold word at e
  split at e
  · have h1 := w1_at (spot := spot) (k := i) h
    rw [e, w1_at h] at h1
    exact (spot_inj hj hi (Option.some.inj h1)).symm
  split at e
  · unfold w2 at e
    have hl := congrArg List.length e
    rw [List.length_take, List.length_take, List.length_replicate, List.length_replicate] at hl
    have h0 : ((List.replicate 8 (97 + (spot + i / 8) % 26)).take (i % 8 + 1))[0]? = ((List.replicate 8 (97 + (spot + j / 8) % 26)).take (j % 8 + 1))[0]? := by rw [e]
    rw [List.getElem?_take_of_lt (by omega), List.getElem?_take_of_lt (by omega), List.getElem?_replicate, List.getElem?_replicate, if_pos (by decide), if_pos (by decide)] at h0
    have := Option.some.inj h0
    omega
  split at e
  · have := words_inj _ _ (Nat.mod_lt _ (by decide)) (Nat.mod_lt _ (by decide)) e
    omega
  · have h1 := w0_at (spot := spot) (k := i) h
    rw [e, w0_at h] at h1
    exact (spot_inj hj hi (Option.some.inj h1)).symm
/-- as many as are asked: unlike ones -/
theorem all_unlike (h : at_ < bs.length) (way n : Nat) (hn : n ≤ 16) : ((List.range n).map (word bs at_ spot way)).Pairwise (· ≠ ·) := by
  rw [List.pairwise_map]
  refine (List.pairwise_lt_range (n := n)).imp_of_mem fun {a b} ha hb hlt e => ?_
  have := word_inj h way (by have := List.mem_range.mp ha; omega) (by have := List.mem_range.mp hb; omega) e
  omega
end
end NM
set_option Elab.async false
set_option linter.all false
set_option maxRecDepth 100000
set_option maxHeartbeats 4000000
namespace K14
open PySem PySem.Spec PyProof.Rows L2
open C8 (Cal Mak Met pe_c pe_mk pe_mt pe_mt0)
open SX (S)
theorem lets_S : (Str.ofString "abcdefghijklmnopqrstuvwxyz").cps.toList = NM.lets := by decide +kernel
theorem words_S : Txt.split (Str.ofString "late in out ride hand lack yes no names gone text plan undo usual back leave") (Str.ofString " ") = NM.words.map S := by decide +kernel
theorem at_lets {x : Int} {j : Nat} (e : x = (j : Int)) (hj : j < 26) : atI (Str.ofString "abcdefghijklmnopqrstuvwxyz").cps.toList x = some (97 + j) := by
  rw [e, lets_S]
  refine atI_nat ?_
  unfold NM.lets
  rw [List.getElem?_map, List.getElem?_range hj]
  rfl
theorem cut_t {l : List Nat} {x : Int} {j : Nat} (e : x = (j : Int)) (h : j ≤ l.length) : cutS (S l) none (some x) = S (l.take j) := by
  rw [e]
  unfold cutS
  rw [HT.sIx_nat, HT.sIx_none, SX.S_len, Nat.min_eq_left h]
  simp [S]
theorem cut_d {l : List Nat} {x : Int} {j : Nat} (e : x = (j : Int)) (h : j ≤ l.length) : cutS (S l) (some x) none = S (l.drop j) := by
  rw [e]
  unfold cutS
  rw [HT.sIx_nat, HT.sIx_none, SX.S_len, Nat.min_eq_left h]
  simp [S, List.take_of_length_le]
theorem ones : ∀ bs : List Nat, ((bs.map fun c => S [c]).map (·.length)).sum = bs.length
  | [] => rfl
  | b :: bs => by
    rw [List.map_cons, List.map_cons, List.sum_cons, ones bs, List.length_cons, SX.S_len]
    simp
    omega
theorem joined : ∀ bs : List Nat, TL.joinL [] (bs.map fun c => [c]) = bs
  | [] => rfl
  | [b] => rfl
  | b :: d :: bs => by
    have := joined (d :: bs)
    simp only [List.map_cons, TL.joinL] at this ⊢
    simp [this]
/-- a sign eight times -/
theorem op_eight {X : Cx} : OpR X (binaryOp .Mult) (fun x y H Q => ∃ c : Nat, x = .str ⟨#[c]⟩ ∧ y = .int 8 ∧ Q (.str (S (List.replicate 8 c))) H) := by
  intro pins s σ H x y v u Q I rx ry h
  obtain ⟨c, rfl, rfl, q⟩ := h
  obtain ⟨t, rfl⟩ := rx
  obtain ⟨t', rfl⟩ := ry
  refine PySem.P.mul_str (by decide) (fun _ _ => by show ¬ ((1 : Int) > (2 ^ 63 - 1) / 8); decide) (fun _ _ => by show Builtin.Str.tooLong 8 = false; decide) ?_
  rw [if_neg (by decide), if_neg (by show ¬ ((8 : Int) == 1 || (1 : Nat) == 0) = true; decide)]
  exact ⟨by show 8 ≤ _; decide, ⟨.str (S (List.replicate 8 c)), H, I.tok _, ⟨_, rfl⟩, q⟩⟩
section
variable {P : Program} {w : World} {K : PySem.W.Frag} {mg : Str → Option Value} {base : Heap} {f C : Addr} {fd : FuncData}
abbrev CalD (P : Program) (w : World) (K : PySem.W.Frag) (mg : Str → Option Value) (base : Heap) : Prop := Cal P w K mg base 1 "_law_draw" spDraw []
def spNames : Sp := fun vs H Q _ => ∃ (p : Addr) (c n : Nat), vs = [.ref p, .int n] ∧ Pen H p (c + 40) ∧ n ≤ 16 ∧
  ∀ (o : Addr) (zs : List (List Nat)) (H' : Hp), Pen H' p c → Kp p H H' → H o = none → Off p o H' → H' o = some (.lst (zs.map fun l => V.str (S l))) → zs.length = n → (∀ z ∈ zs, NM.ok z) → zs.Pairwise (· ≠ ·) → Q (.ref o) H'
theorem ok_names (F : Dn K d_l_names f fd) (bl : Bl mg) (cD : CalD P w K mg base) : FnOk P w K mg base CX0 2 f fd ["_law_pen_here", "_law_many"] spNames := by
  refine F.ok sc_l_names (fun vs H Q E h => ?_) (fun cdv A outer s H vs Q E hr h => ?_)
  · obtain ⟨p, c, n, rfl, _⟩ := h
    rfl
  · obtain ⟨p, c, n, rfl, pen, hn, hQ⟩ := h
    refine ⟨_, PSs.nox (pss_cons (ps_set (i := 2) sc_l_names.nd rfl (.inr rfl) pe_str)
      (pss_cons (ps_set (i := 3) sc_l_names.nd rfl (.inl rfl) (pe_split pe_str pe_str))
      (pss_cons (ps_set (i := 4) sc_l_names.nd rfl (.inl rfl) (pe_op op_add pe_int (pe_c cD hr (by decide) rfl (pa_cons (pv 0) (pa_cons pe_int pa_nil)))))
      (C8.pss_cut (ps_set (i := 6) sc_l_names.nd rfl (.inl rfl) (pe_join pe_str (pe_lc (own := [("_law_k", 5)]) (g := gName 5) (tt := tYes) rfl sc_l_names.nd (pi_range1 rfl bl.range (pa_cons (pv 4) pa_nil)) (blkOk_by (N := N_l_names) (sc := defScope s_l_names) (by decide +kernel))
          (fun _ _ _ _ _ => pg_name (i := 5) sc_l_names.nd rfl (Or.inl rfl)) (fun _ _ _ _ _ => pts_nil) (fun _ _ _ _ _ => pe_ix ix_str (pv 2) (pe_c cD hr (by decide) rfl (pa_cons (pv 0) (pa_cons pe_int pa_nil))) (fun _ _ => rfl)))))
      (pss_cons (ps_par3 (i := 7) (j := 8) (l := 9) rfl sc_l_names.nd rfl rfl rfl (by decide) (by decide) (by decide) rfl rfl rfl (pa_cons (pe_c cD hr (by decide) rfl (pa_cons (pv 0) (pa_cons (pv 4) pa_nil))) (pa_cons (pe_c cD hr (by decide) rfl (pa_cons (pv 0) (pa_cons pe_int pa_nil)))
          (pa_cons (pe_op op_mod (pe_c cD hr (by decide) rfl (pa_cons (pv 0) (pa_cons pe_int pa_nil))) pe_int) pa_nil))) rfl)
      (pss_cons (ps_set (i := 10) sc_l_names.nd rfl (.inl rfl) (pe_lst pa_nil))
      (pss_cons (ps_for PassesOwn.never rfl (pi_range1 rfl bl.range (pa_cons (pv 1) pa_nil)) (pg_name (i := 5) sc_l_names.nd rfl (.inl rfl))
        (pss_cons (ps_set (i := 11) sc_l_names.nd rfl (.inl rfl) (pe_op op_add_str (pe_op op_add_str (pe_slice sl_str (pv 6) po_none (po_some (pv 7))) (pe_ix ix_str (pv 2) (pe_op op_mod (pe_op op_add (pv 8) (pe_op op_mul pe_int (pv 5))) pe_int) (fun _ _ => rfl)))
            (pe_slice sl_str (pv 6) (po_some (pe_op op_add (pv 7) pe_int)) po_none)))
        (C8.pss_cut (ps_if (pt_cmpR op_eq (pv 9) pe_int (nomark _)) (pss_one (ps_set (i := 11) sc_l_names.nd rfl (.inl rfl) (pe_slice sl_str (pv 11) po_none (po_some (pe_op op_sub (pv 4) (pe_op op_mod (pv 5) (pe_op op_sub (pv 4) (pv 7)))))))) pss_nil)
        (C8.pss_cut (ps_if (pt_cmpR op_eq (pv 9) pe_int (nomark _)) (pss_one (ps_set (i := 11) sc_l_names.nd rfl (.inl rfl) (pe_slice sl_str (pe_op op_eight (pe_ix ix_str (pv 2) (pe_op op_mod (pe_op op_add (pv 8) (pe_op op_fdiv (pv 5) pe_int)) pe_int) (fun _ _ => rfl)) pe_int) po_none
            (po_some (pe_op op_add (pe_op op_mod (pv 5) pe_int) pe_int))))) pss_nil)
        (C8.pss_cut (ps_if (pt_cmpR op_eq (pv 9) pe_int (nomark _)) (pss_one (ps_set (i := 11) sc_l_names.nd rfl (.inl rfl) (pe_ix ix_list (pv 3) (pe_op op_mod (pe_op op_add (pv 8) (pv 5)) pe_int) (fun _ _ => rfl)))) pss_nil)
        (pss_one (ps_expr (pe_bm PySem.F.plainAttrs_list PySem.F.slot_list_insert PySem.F.type_list_insert mt_insert (pv 10) (pa_cons (pe_c cD hr (by decide) rfl (pa_cons (pv 0) (pa_cons (pe_op op_add (pe_callB call_len_seq rfl bl.len boot_len (pa_cons (pv 10) pa_nil)) pe_int) pa_nil))) (pa_cons (pv 11) pa_nil))))))))))
      (pss_one (ps_ret (pv 10)))))))))), ?_⟩
    -- the words
    refine ⟨⟨_, rfl⟩, _, _, rfl, rfl, by decide +kernel, by decide +kernel, fun wl fwl => ?_⟩
    rw [words_S]
    have s1 := same_new (o := .lst ((NM.words.map S).map V.str)) fwl
    have hwl := upd_same (H := H) (a := wl) (o := .lst ((NM.words.map S).map V.str))
    have pen1 := pen.same s1
    have off1 : Off p wl (upd H wl (.lst ((NM.words.map S).map V.str))) := (Off.of pen fwl).kp (Kp.same s1)
    generalize upd H wl (.lst ((NM.words.map S).map V.str)) = H1 at s1 hwl pen1 off1 ⊢
    -- the size
    refine ⟨_, rfl, p, c + 39, _, rfl, pen1, by decide, by decide, fun z0 H2 a2 b2 pen2 k2 => ?_⟩
    refine ⟨_, _, rfl, rfl, ?_⟩
    obtain ⟨sz, hsz⟩ := Int.eq_ofNat_of_zero_le (show 0 ≤ 1 + z0 by omega)
    have sz1 : 1 ≤ sz := by omega
    have sz8 : sz ≤ 8 := by omega
    have hwl2 := k2.1 _ _ hwl off1.ne
    have off2 := off1.kp k2
    -- the base
    refine ⟨fun σ' H' => ∃ bs : List Nat, σ' = [some (.ref p), some (.int n), some (.str (Str.ofString "abcdefghijklmnopqrstuvwxyz")), some (.ref wl), some (.int (sz : Int)), none, some (.str (S bs)), none, none, none, none, none] ∧ bs.length = sz ∧ (∀ c ∈ bs, 97 ≤ c ∧ c ≤ 122) ∧
      Pen H' p (c + 30) ∧ Kp p H H' ∧ H' wl = some (.lst ((NM.words.map S).map V.str)) ∧ Off p wl H', ?_, ?_⟩
    · refine ⟨⟨_, rfl⟩, _, rfl, _, rfl, by omega, by omega, ?_⟩
      rw [hsz, Int.toNat_natCast]
      intro D hD
      have offD := Off.of pen2 hD
      have sD := same_new (o := .lst []) hD
      refine lc_range (n := sz) (fun i H3 => ∃ bs : List Nat, bs.length = i ∧ (∀ c ∈ bs, 97 ≤ c ∧ c ≤ 122) ∧ H3 D = some (.lst (bs.map fun c => V.str (S [c]))) ∧ Pen H3 p (c + 39 - i) ∧ Kp p H2 H3 ∧ Off p D H3) ?_ ?_ ?_
      · exact ⟨[], rfl, by simp, upd_same, pen2.same sD, Kp.same sD, offD.kp (Kp.same sD)⟩
      · rintro i H3 hi ⟨bs, hbl, hbc, hd, pen3, k3, off3⟩
        refine ⟨rfl, ?_⟩
        refine ⟨_, rfl, _, rfl, p, c + 39 - (i + 1), _, rfl, pen3.weak (by omega), by decide, by decide, fun r H4 r0 r1 pen4 k4 => ?_⟩
        obtain ⟨rn, rfl⟩ := Int.eq_ofNat_of_zero_le r0
        have hd4 := k4.1 _ _ hd off3.ne
        have off4 := off3.kp k4
        refine ⟨_, _, 97 + rn, rfl, rfl, by decide +kernel, at_lets rfl (by omega), _, hd4, ?_, bs ++ [97 + rn], by simp [hbl], ?_, ?_, pen4.put off4, (k3.trans k4).new hD, ?_⟩
        · rw [List.length_map, hbl]
          exact Nat.lt_of_lt_of_le (by omega : i < 64) (by decide)
        · intro c' hc'
          rcases List.mem_append.mp hc' with hc' | hc'
          · exact hbc c' hc'
          · rw [List.mem_singleton] at hc'
            omega
        · rw [upd_same]
          simp [S]
        · exact off4.put (by obtain ⟨_, _, _, _, _, z⟩ := off4; exact z)
      · rintro H3 ⟨bs, hbl, hbc, hd, pen3, k3, off3⟩
        have ey : (bs.map fun c => V.str (S [c])) = (bs.map fun c => S [c]).map V.str := by rw [List.map_map]; rfl
        refine ⟨_, D, bs.map fun c => S [c], rfl, rfl, .inl (by rw [← ey]; exact SqL.of hd), ?_, bs, ?_, hbl, hbc, pen3.weak (by omega), ((Kp.same s1).trans k2).trans k3, k3.1 _ _ hwl2 off2.ne, off2.kp k3⟩
        · have e1 : ((bs.map fun c => S [c]).map (·.length)).sum = bs.length := by
            exact ones bs
          rw [e1, List.length_map]
          have e2 : (Str.ofString "").length = 0 := by decide +kernel
          rw [e2, hbl]
          omega
        · have e3 : Txt.join (Str.ofString "") (bs.map fun c => S [c]) = S bs := by
            have e4 : Str.ofString "" = S [] := by decide +kernel
            have e5 : (bs.map fun c => S [c]) = (bs.map fun c => [c]).map S := by rw [List.map_map]; rfl
            rw [e4, e5, SX.join_S]
            rw [joined]
          rw [e3]
          rw [← hsz]
          rfl
    clear pen pen1 pen2 k2 hwl hwl2 off1 off2 s1
    rintro σ' H3 ⟨bs, rfl, hbl, hbc, pen3, k3, hwl3, offw3⟩
    refine ⟨_, rfl, _, rfl, p, c + 29, _, rfl, pen3, by omega, by omega, fun at_ H4 a4 b4 pen4 k4 => ?_⟩
    refine ⟨_, rfl, p, c + 28, _, rfl, pen4, by decide, by decide, fun spot H5 a5 b5 pen5 k5 => ?_⟩
    refine ⟨_, rfl, p, c + 27, _, rfl, pen5, by decide, by decide, fun way0 H6 a6 b6 pen6 k6 => ?_⟩
    refine ⟨_, _, rfl, rfl, (by decide : (0 : Int) < 4), _, _, _, rfl, ?_⟩
    obtain ⟨at_, rfl⟩ := Int.eq_ofNat_of_zero_le a4
    obtain ⟨spot, rfl⟩ := Int.eq_ofNat_of_zero_le a5
    obtain ⟨way, hway⟩ := Int.eq_ofNat_of_zero_le (show 0 ≤ way0 % 4 by omega)
    have hat : at_ < bs.length := by omega
    have k36 := (k4.trans k5).trans k6
    have k06 := k3.trans k36
    have hwl6 := k36.1 _ _ hwl3 offw3.ne
    have offw6 := offw3.kp k36
    clear k4 k5 k6 pen4 pen5
    refine ⟨by show 0 ≤ sizeLine; decide, fun o fo => ?_⟩
    have so := same_new (o := .lst []) fo
    refine ⟨_, rfl, _, rfl, by omega, by omega, ?_⟩
    rw [Int.toNat_natCast]
    refine for_range (n := n) (fun i σ H7 => ∃ (zs : List (List Nat)) (v5 v11 : Option V), σ = [some (.ref p), some (.int n), some (.str (Str.ofString "abcdefghijklmnopqrstuvwxyz")), some (.ref wl), some (.int (sz : Int)), v5, some (.str (S bs)), some (.int (at_ : Int)), some (.int (spot : Int)), some (.int (way0 % 4)), some (.ref o), v11] ∧
        H7 o = some (.lst (zs.map fun l => V.str (S l))) ∧ zs.Perm ((List.range i).map (NM.word bs at_ spot way)) ∧ Pen H7 p (c + 27 - i) ∧ Kp p H6 H7 ∧ Off p o H7)
      ⟨[], none, none, rfl, upd_same, List.Perm.refl _, pen6.same so, Kp.same so, (Off.of pen6 fo).kp (Kp.same so)⟩ ?_ ?_
    · rintro i σ H7 hi ⟨zs, v5, v11, rfl, ho7, perm7, pen7, k7, off7⟩
      have hwl7 := k7.1 _ _ hwl6 offw6.ne
      have zl : zs.length = i := by rw [perm7.length_eq, List.length_map, List.length_range]
      have len0 : (S bs).length ≤ sizeLine := by rw [SX.S_len]; exact Nat.le_trans (by omega : bs.length ≤ 8) (by decide)
      have lets_len : (Str.ofString "abcdefghijklmnopqrstuvwxyz").length ≤ sizeLine := by decide +kernel
      have e5 : ((spot : Int) + 5 * (0 + (i : Int))) % 26 = (((spot + 5 * i) % 26 : Nat) : Int) := by omega
      -- the word
      refine ⟨_, rfl, _, rfl, _, rfl, _, rfl, len0, ?_⟩
      rw [cut_t rfl (by omega)]
      refine ⟨_, rfl, _, rfl, _, rfl, _, _, rfl, rfl, cb_l (by decide) (by decide), _, _, rfl, rfl, _, _, rfl, rfl, (by decide : (0 : Int) < 26), _, _, _, rfl, rfl, lets_len, at_lets e5 (Nat.mod_lt _ (by decide)), _, _, rfl, rfl, ?_, ?_⟩
      · rw [SX.S_len, List.length_take]
        exact Nat.le_trans (by show min at_ bs.length + 1 ≤ 64; omega) (by decide)
      refine ⟨_, rfl, _, rfl, _, _, rfl, rfl, _, rfl, _, rfl, len0, ?_⟩
      rw [cut_d (j := at_ + 1) (by omega) (by omega)]
      have ec : S (bs.take at_) ++ (⟨#[97 + (spot + 5 * i) % 26]⟩ : Str) = S (bs.take at_ ++ [97 + (spot + 5 * i) % 26]) := SX.S_cat _ _
      rw [ec]
      refine ⟨_, _, rfl, rfl, ?_, ?_⟩
      · rw [SX.S_len, SX.S_len, List.length_append, List.length_take, List.length_drop]
        exact Nat.le_trans (by show min at_ bs.length + 1 + (bs.length - (at_ + 1)) ≤ 64; omega) (by decide)
      rw [SX.S_cat]
      have ew0 : bs.take at_ ++ [97 + (spot + 5 * i) % 26] ++ bs.drop (at_ + 1) = NM.w0 bs at_ spot i := rfl
      rw [ew0]
      -- cut short
      refine ⟨fun σ' H' => H' = H7 ∧ σ' = [some (.ref p), some (.int n), some (.str (Str.ofString "abcdefghijklmnopqrstuvwxyz")), some (.ref wl), some (.int (sz : Int)), some (.int (0 + i)), some (.str (S bs)), some (.int (at_ : Int)), some (.int (spot : Int)), some (.int (way0 % 4)), some (.ref o), some (.str (S (if way = 1 then NM.w1 bs at_ spot i else NM.w0 bs at_ spot i)))], ?_, ?_⟩
      · refine ⟨_, rfl, rfl, _, rfl, ?_⟩
        refine ite2 (fun c1 => ?_) (fun c1 => ?_)
        · have e1 : way = 1 := by have := V.int.inj (of_decide_eq_true c1); omega
          refine ⟨_, rfl, _, rfl, _, rfl, _, rfl, _, rfl, _, _, rfl, rfl, _, _, rfl, rfl, (by omega : (0 : Int) < (sz : Int) - (at_ : Int)), _, _, rfl, rfl, _, rfl, _, rfl, by rw [SX.S_len, NM.w0_len hat]; exact Nat.le_trans (by omega : bs.length ≤ 8) (by decide), ?_⟩
          have em : (sz : Int) - (0 + (i : Int)) % ((sz : Int) - (at_ : Int)) = ((bs.length - i % (bs.length - at_) : Nat) : Int) := by
            have h1 : ((sz : Int) - (at_ : Int)) = ((bs.length - at_ : Nat) : Int) := by omega
            rw [h1, Int.zero_add, ← Int.natCast_emod]
            have := Nat.mod_lt i (show 0 < bs.length - at_ by omega)
            omega
          rw [cut_t em (by rw [NM.w0_len hat]; omega)]
          rw [if_pos e1]
          exact ⟨rfl, rfl⟩
        · have e1 : ¬ way = 1 := fun z => c1 (decide_eq_true (by rw [hway, z]; rfl))
          rw [if_neg e1]
          exact ⟨rfl, rfl⟩
      rintro σ' H' ⟨rfl, rfl⟩
      -- one sign again and again
      refine ⟨fun σ' H'' => H'' = H' ∧ σ' = [some (.ref p), some (.int n), some (.str (Str.ofString "abcdefghijklmnopqrstuvwxyz")), some (.ref wl), some (.int (sz : Int)), some (.int (0 + i)), some (.str (S bs)), some (.int (at_ : Int)), some (.int (spot : Int)), some (.int (way0 % 4)), some (.ref o), some (.str (S (if way = 1 then NM.w1 bs at_ spot i else if way = 2 then NM.w2 spot i else NM.w0 bs at_ spot i)))], ?_, ?_⟩
      · refine ⟨_, rfl, rfl, _, rfl, ?_⟩
        refine ite2 (fun c1 => ?_) (fun c1 => ?_)
        · have e1 : way = 2 := by have := V.int.inj (of_decide_eq_true c1); omega
          have e6 : ((spot : Int) + (0 + (i : Int)) / 8) % 26 = (((spot + i / 8) % 26 : Nat) : Int) := by omega
          refine ⟨_, rfl, _, rfl, _, rfl, _, _, rfl, rfl, ⟨by decide, by decide⟩, _, _, rfl, rfl, _, _, rfl, rfl, (by decide : (0 : Int) < 26), _, _, _, rfl, rfl, lets_len, at_lets e6 (Nat.mod_lt _ (by decide)), _, rfl, rfl, ?_⟩
          refine ⟨_, rfl, _, _, rfl, rfl, (by decide : (0 : Int) < 8), _, _, rfl, rfl, _, rfl, _, rfl, by rw [SX.S_len, List.length_replicate]; decide, ?_⟩
          rw [cut_t (j := i % 8 + 1) (by omega) (by rw [List.length_replicate]; omega)]
          subst e1
          exact ⟨rfl, rfl⟩
        · have e1 : ¬ way = 2 := fun z => c1 (decide_eq_true (by rw [hway, z]; rfl))
          rw [if_neg e1]
          exact ⟨rfl, rfl⟩
      rintro σ' H'' ⟨rfl, rfl⟩
      -- a word of the list
      refine ⟨fun σ' H' => H' = H'' ∧ σ' = [some (.ref p), some (.int n), some (.str (Str.ofString "abcdefghijklmnopqrstuvwxyz")), some (.ref wl), some (.int (sz : Int)), some (.int (0 + i)), some (.str (S bs)), some (.int (at_ : Int)), some (.int (spot : Int)), some (.int (way0 % 4)), some (.ref o), some (.str (S (NM.word bs at_ spot way i)))], ?_, ?_⟩
      · refine ⟨_, rfl, rfl, _, rfl, ?_⟩
        refine ite2 (fun c1 => ?_) (fun c1 => ?_)
        · have e1 : way = 3 := by have := V.int.inj (of_decide_eq_true c1); omega
          have e7 : ((spot : Int) + (0 + (i : Int))) % 16 = (((spot + i) % 16 : Nat) : Int) := by omega
          have hw16 : (spot + i) % 16 < NM.words.length := Nat.mod_lt _ (by decide)
          refine ⟨_, rfl, _, rfl, _, rfl, _, _, rfl, rfl, _, _, rfl, rfl, (by decide : (0 : Int) < 16), wl, _, _, .str (S (NM.w3 spot i)), rfl, rfl, SqL.of hwl7, ?_, ?_⟩
          · rw [e7]
            refine atI_nat ?_
            rw [List.getElem?_map, List.getElem?_map, List.getElem?_eq_getElem hw16]
            unfold NM.w3
            rw [List.getD_eq_getElem?_getD, List.getElem?_eq_getElem hw16]
            rfl
          · subst e1
            exact ⟨rfl, rfl⟩
        · have e1 : ¬ way = 3 := fun z => c1 (decide_eq_true (by rw [hway, z]; rfl))
          refine ⟨rfl, ?_⟩
          unfold NM.word
          rw [if_neg e1]
      rintro σ' H' ⟨rfl, rfl⟩
      -- put in
      refine ⟨_, rfl, Or.inl ⟨rfl, _, SqL.of ho7⟩, _, rfl, _, rfl, o, _, rfl, .inl (SqL.of ho7), _, _, rfl, rfl, p, c + 27 - (i + 1), _, rfl, pen7.weak (by omega), by omega, by rw [List.length_map]; omega, fun r H8 r0 r1 pen8 k8 => ?_⟩
      have off8 := off7.kp k8
      have ho8 := k8.1 _ _ ho7 off7.ne
      refine ⟨_, rfl, o, _, _, _, rfl, rfl, ho8, ?_, r0, by rw [List.length_map] at r1; omega, ?_⟩
      · rw [List.length_map, zl]
        exact Nat.lt_of_lt_of_le (by omega : i < 64) (by decide)
      · refine ⟨zs.take r.toNat ++ [NM.word bs at_ spot way i] ++ zs.drop r.toNat, _, _, rfl, ?_, ?_, pen8.put off8, (k7.trans k8).new fo, ?_⟩
        · rw [upd_same]
          simp [List.map_append, List.map_take, List.map_drop]
        · have hp1 : (zs.take r.toNat ++ [NM.word bs at_ spot way i] ++ zs.drop r.toNat).Perm (NM.word bs at_ spot way i :: zs) := by
            rw [List.append_assoc]
            have := List.perm_middle (a := NM.word bs at_ spot way i) (l₁ := zs.take r.toNat) (l₂ := zs.drop r.toNat)
            rw [List.take_append_drop] at this
            exact this
          refine hp1.trans ?_
          rw [List.range_succ, List.map_append]
          exact (List.Perm.cons _ perm7).trans (List.perm_append_singleton _ _).symm
        · exact off8.put (by obtain ⟨_, _, _, _, _, z⟩ := off8; exact z)
    · rintro σ H7 ⟨zs, v5, v11, rfl, ho7, perm7, pen7, k7, off7⟩
      refine ⟨_, rfl, hQ o zs H7 (pen7.weak (by omega)) (k06.trans k7) ?_ off7 ho7 (by rw [perm7.length_eq, List.length_map, List.length_range]) (fun z hz => ?_) ?_⟩
      · cases q : H o with
        | none => rfl
        | some u =>
          have z := k06.1 _ _ q (Off.of pen6 fo).ne
          rw [fo] at z
          cases z
      · obtain ⟨k, _, rfl⟩ := List.mem_map.mp (perm7.subset hz)
        exact NM.word_ok (by omega) (by omega) hbc hat way
      · exact (perm7.symm.pairwise_iff (fun h => Ne.symm h)).mp (NM.all_unlike hat way n hn)
end
end K14
set_option Elab.async false
set_option linter.all false
set_option maxRecDepth 100000
set_option maxHeartbeats 4000000
namespace K14
open PySem PySem.Spec PyProof.Rows L2
open C8 (Cal Mak Met pe_c pe_mk pe_mt pe_mt0)
open SX (S)
section
variable {P : Program} {w : World} {K : PySem.W.Frag} {mg : Str → Option Value} {base : Heap} {f C : Addr} {fd : FuncData}
def spWhole : Sp := fun vs H Q _ => ∃ n : Int, vs = [.int n] ∧ Q (.bl true) H
theorem ok_whole (F : Dn K d_is_whole f fd) (b : Bl mg) : FnOk P w K mg base CX0 1 f fd ["thing"] spWhole := by
  refine F.ok sc_is_whole (fun vs H Q E h => ?_) (fun cdv A outer s H vs Q E hr h => ?_)
  · obtain ⟨n, rfl, _⟩ := h
    rfl
  · obtain ⟨n, rfl, hQ⟩ := h
    refine ⟨_, PSs.nox (pss_one (ps_ret (pe_and
      (pe_callB call_isi rfl b.isi boot_isinstance (pa_cons (pv 0) (pa_cons (pe_bltn (v := .ty "int") rfl b.int boot_int rfl) pa_nil)))
      (pe_one (pe_not (pe_callB call_isi rfl b.isi boot_isinstance (pa_cons (pv 0) (pa_cons (pe_bltn (v := .ty "bool") rfl b.bool boot_bool rfl) pa_nil)))))))), ?_⟩
    refine ⟨_, rfl, _, _, _, _, true, rfl, ClsV.ty _, TyX.base (TyOf.int n), kit_ty (by decide +kernel), true, rfl, ?_⟩
    refine iteT ?_
    exact ⟨_, rfl, _, _, _, _, false, rfl, ClsV.ty _, TyX.base (TyOf.int n), kit_ty (by decide +kernel), false, rfl, hQ⟩
abbrev CalW (P : Program) (w : World) (K : PySem.W.Frag) (mg : Str → Option Value) (base : Heap) : Prop := Cal P w K mg base 1 "is_whole" spWhole []
def spBetween : Sp := fun vs H Q _ => ∃ n lo hi : Int, vs = [.int n, .int lo, .int hi] ∧ Q (.bl (decide (lo ≤ n ∧ n ≤ hi))) H
theorem ok_between (F : Dn K d_is_between f fd) (cW : CalW P w K mg base) : FnOk P w K mg base CX0 2 f fd ["thing", "low", "high"] spBetween := by
  refine F.ok sc_is_between (fun vs H Q E h => ?_) (fun cdv A outer s H vs Q E hr h => ?_)
  · obtain ⟨n, lo, hi, rfl, _⟩ := h
    rfl
  · obtain ⟨n, lo, hi, rfl, hQ⟩ := h
    refine ⟨_, PSs.nox (pss_one (ps_ret (pe_and (pe_c cW hr (by decide) rfl (pa_cons (pv 0) pa_nil)) (pe_one (pe_chain op_le op_le (pv 1) (pv 0) (pv 2)))))), ?_⟩
    refine ⟨_, rfl, n, rfl, true, rfl, iteT ?_⟩
    refine ⟨_, rfl, _, rfl, _, _, rfl, rfl, _, rfl, ?_⟩
    refine ite2 (fun h1 => ?_) (fun h1 => ?_)
    · have h1' : lo ≤ n := of_decide_eq_true h1
      refine ⟨_, rfl, _, _, rfl, rfl, ?_⟩
      have e : decide (n ≤ hi) = decide (lo ≤ n ∧ n ≤ hi) := decide_eq_decide.mpr ⟨fun z => ⟨h1', z⟩, fun z => z.2⟩
      show Q (.bl (decide (n ≤ hi))) H
      rw [e]
      exact hQ
    · have h1' : ¬ lo ≤ n := fun z => h1 (decide_eq_true z)
      have e : decide (lo ≤ n ∧ n ≤ hi) = false := decide_eq_false fun z => h1' z.1
      rw [e] at hQ
      exact hQ
abbrev CalB (P : Program) (w : World) (K : PySem.W.Frag) (mg : Str → Option Value) (base : Heap) : Prop := Cal P w K mg base 2 "is_between" spBetween []
def spDay : Sp := fun vs H Q _ => ∃ n : Int, vs = [.int n] ∧ Q (.bl (decide (0 ≤ n ∧ n ≤ 1000000))) H
theorem ok_day (F : Dn K d_is_day f fd) (cB : CalB P w K mg base) (g : ∃ t, mg "LAST_DAY" = some (.int 1000000 t)) : FnOk P w K mg base CX0 3 f fd ["thing"] spDay := by
  refine F.ok sc_is_day (fun vs H Q E h => ?_) (fun cdv A outer s H vs Q E hr h => ?_)
  · obtain ⟨n, rfl, _⟩ := h
    rfl
  · obtain ⟨n, rfl, hQ⟩ := h
    obtain ⟨t, g⟩ := g
    refine ⟨_, PSs.nox (pss_one (ps_ret (pe_c cB hr (by decide) rfl (pa_cons (pv 0) (pa_cons pe_int (pa_cons (pe_glob (v := .int 1000000) rfl g ⟨t, rfl⟩) pa_nil)))))), ?_⟩
    exact ⟨_, rfl, n, 0, 1000000, rfl, hQ⟩
def spMask : Sp := fun vs H Q _ => ∃ n : Int, vs = [.int n] ∧ Q (.bl (decide (0 ≤ n ∧ n ≤ 127))) H
theorem ok_mask (F : Dn K d_is_mask f fd) (cB : CalB P w K mg base) (g : ∃ t, mg "LAST_MASK" = some (.int 127 t)) : FnOk P w K mg base CX0 3 f fd ["thing"] spMask := by
  refine F.ok sc_is_mask (fun vs H Q E h => ?_) (fun cdv A outer s H vs Q E hr h => ?_)
  · obtain ⟨n, rfl, _⟩ := h
    rfl
  · obtain ⟨n, rfl, hQ⟩ := h
    obtain ⟨t, g⟩ := g
    refine ⟨_, PSs.nox (pss_one (ps_ret (pe_c cB hr (by decide) rfl (pa_cons (pv 0) (pa_cons pe_int (pa_cons (pe_glob (v := .int 127) rfl g ⟨t, rfl⟩) pa_nil)))))), ?_⟩
    exact ⟨_, rfl, n, 0, 127, rfl, hQ⟩
def spCheck : Sp := fun vs H Q _ => ∃ n : Int, vs = [.int n] ∧ 0 ≤ n ∧ n ≤ 1000000 ∧ Q .non H
theorem ok_check (F : Dn K d_check_day f fd) (cDy : Cal P w K mg base 3 "is_day" spDay []) : FnOk P w K mg base CX0 4 f fd ["thing"] spCheck := by
  refine F.ok sc_check_day (fun vs H Q E h => ?_) (fun cdv A outer s H vs Q E hr h => ?_)
  · obtain ⟨n, rfl, _⟩ := h
    rfl
  · obtain ⟨n, rfl, h0, h1, hQ⟩ := h
    refine ⟨_, PSs.nox (pss_one (ps_if (pt_not (pt_val (pe_c cDy hr (by decide) rfl (pa_cons (pv 0) pa_nil)))) pss_never pss_nil)), ?_⟩
    refine ⟨_, rfl, n, rfl, _, rfl, ?_⟩
    rw [decide_eq_true (show 0 ≤ n ∧ n ≤ 1000000 from ⟨h0, h1⟩)]
    exact iteF hQ
/-- what is a name -/
def spName : Sp := fun vs H Q _ => ∃ l : List Nat, vs = [.str (S l)] ∧ NM.ok l ∧ ∀ H', Same H H' → Q (.bl true) H'
theorem ok_name (F : Dn K d_is_name f fd) (b : Bl mg) (g : ∃ t, mg "LONGEST_NAME" = some (.int 8 t)) : FnOk P w K mg base CX0 1 f fd ["thing"] spName := by
  refine F.ok sc_is_name (fun vs H Q E h => ?_) (fun cdv A outer s H vs Q E hr h => ?_)
  · obtain ⟨l, rfl, _⟩ := h
    rfl
  · obtain ⟨l, rfl, ⟨l1, l8, lc⟩, hQ⟩ := h
    obtain ⟨t, g⟩ := g
    have hz : (S l).length ≤ sizeLine := by rw [SX.S_len]; exact Nat.le_trans l8 (by decide)
    refine ⟨_, PSs.nox (pss_cons (ps_if (PW.pt (pw_or (pt_not (pt_val (pe_callB call_isi rfl b.isi boot_isinstance (pa_cons (pv 0) (pa_cons (pe_bltn (v := .ty "str") rfl b.str boot_str rfl) pa_nil)))))
        (pw_or1 (pt_not (pt_chain op_le op_le pe_int (pe_callB call_len_str rfl b.len boot_len (pa_cons (pv 0) pa_nil)) (pe_glob (v := .int 8) rfl g ⟨t, rfl⟩)))))) pss_never pss_nil)
      (pss_one (ps_ret (pe_callB (cr_all rfl) rfl b.all boot_all (pa_cons (pe_lc (own := [("sign", 1)]) (g := gName 1) (tt := tYes) rfl sc_is_name.nd (pi_str (pv 0)) (blkOk_by (N := N_is_name) (sc := defScope s_is_name) (by decide +kernel))
          (fun _ _ _ _ _ => pg_name (i := 1) sc_is_name.nd rfl (Or.inl rfl)) (fun _ _ _ _ _ => pts_nil) (fun _ _ _ _ _ => pe_chain op_le_str op_le_str pe_str (pv 1) pe_str)) pa_nil))))), ?_⟩
    refine ⟨_, rfl, _, _, _, _, true, rfl, ClsV.ty _, TyX.base (TyOf.str _), kit_ty (by decide +kernel), true, rfl, iteF ?_⟩
    refine ⟨_, rfl, _, rfl, hz, _, _, rfl, rfl, _, rfl, ?_⟩
    rw [SX.S_len]
    refine ite2 (fun _ => ?_) (fun z => absurd (decide_eq_true (by omega)) z)
    refine ⟨_, _, rfl, rfl, _, rfl, ?_⟩
    have e8 : decide ((l.length : Int) ≤ 8) = true := decide_eq_true (by omega)
    rw [e8]
    refine iteF ?_
    refine ⟨_, rfl, _, rfl, fun D hD => lc_it walk_str (fun i H2 => H2 D = some (.lst ((List.replicate i true).map V.bl)) ∧ Same H H2) ⟨upd_same, same_new hD⟩ (fun _ _ _ _ => trivial) ?_ ?_⟩
    · rintro i x H2 H3 hi ⟨hd, sm⟩ ⟨rfl, c', hc', rfl⟩
      have hi' : i < l.length := by simpa [S] using hi
      have hmem : c' ∈ l := by
        have : l[i]? = some c' := by simpa [S] using hc'
        exact List.mem_of_getElem? this
      have hcc := lc c' hmem
      refine ⟨rfl, ?_⟩
      refine ⟨_, rfl, _, _, rfl, rfl, _, rfl, ?_⟩
      have ea : (!decide ((⟨#[c']⟩ : Str).cps.toList < (Str.ofString "a").cps.toList)) = true := by
        have e1 : (Str.ofString "a").cps.toList = [97] := by decide +kernel
        rw [e1]
        have : ¬ (([c'] : List Nat) < [97]) := by
          rw [List.cons_lt_cons_iff]
          rintro (z | ⟨z, z'⟩)
          · omega
          · exact absurd z' (by simp)
        simp [this]
      have ez : (!decide ((Str.ofString "z").cps.toList < (⟨#[c']⟩ : Str).cps.toList)) = true := by
        have e1 : (Str.ofString "z").cps.toList = [122] := by decide +kernel
        rw [e1]
        have : ¬ (([122] : List Nat) < [c']) := by
          rw [List.cons_lt_cons_iff]
          rintro (z | ⟨z, z'⟩)
          · omega
          · exact absurd z' (by simp)
        simp [this]
      rw [ea]
      refine iteT ⟨_, _, rfl, rfl, ?_⟩
      rw [ez]
      refine ⟨_, hd, ?_, ?_, ?_⟩
      · rw [List.length_map, List.length_replicate]
        exact Nat.lt_of_lt_of_le (by omega : i < 64) (by decide)
      · rw [upd_same]
        simp [List.replicate_succ']
      · intro a o e
        rw [upd_ne (ne_of_none e hD)]
        exact sm a o e
    · rintro H2 ⟨hd, sm⟩
      refine ⟨D, _, rfl, SqL.of hd, ?_⟩
      have e3 : (List.replicate (S l).cps.size true).all id = true := by simp
      rw [e3]
      exact hQ H2 sm
end
end K14
set_option Elab.async false
set_option linter.all false
set_option maxRecDepth 100000
set_option maxHeartbeats 4000000
namespace K14
open PySem PySem.Spec PyProof.Rows L2
open C8 (Cal Mak Met pe_c pe_mk pe_mt pe_mt0)
open SX (S)
/-- max of a list of one number -/
theorem cr_max1 {X : Cx} (hc : X.calm = true) : CallR X (.builtin "max") (fun xs H Q => ∃ (p : Addr) (n : Int), xs = [.ref p] ∧ SqL X.K H p [.int n] ∧ Q (.int n) H) := by
  intro pins s σ H vs us Q I r h
  obtain ⟨p, n, rfl, hs, q⟩ := h
  obtain ⟨its, rv, hl, _⟩ := I.list hs
  rw [Vals.ref1 r]
  obtain ⟨u, rfl, t, rfl⟩ := rv.one
  have ei : intItems #[(n, t)] = #[Value.int n t] := by simp [intItems]
  refine max_intList (xs := #[(n, t)]) (I.ok.hd hc) (by rw [ei]; exact hl.isList) (by simp) fun v h' tk e k => ?_
  rw [ei] at e
  have e' : (some (Value.int n t)) = some v := by simpa [argBest] using e
  cases e'
  exact ⟨.int n, H, I.kept k, ⟨t, rfl⟩, q⟩
/-- the weekdays of a mask -/
def wd (m : Nat) : List Int := ((List.range 7).filter fun d => decide (m / 2 ^ d % 2 = 1)).map Int.ofNat
section
variable {P : Program} {w : World} {K : PySem.W.Frag} {mg : Str → Option Value} {base : Heap} {f C : Addr} {fd : FuncData}
def spWd : Sp := fun vs H Q _ => ∃ m : Nat, vs = [.int m] ∧ ∀ p H', Same H H' → H p = none → H' p = some (.lst ((wd m).map V.int)) → Q (.ref p) H'
theorem ok_wd (F : Dn K d_weekdays f fd) (b : Bl mg) (g : ∃ t, mg "WEEK" = some (.int 7 t)) : FnOk P w K mg base CX0 1 f fd ["mask"] spWd := by
  refine F.ok sc_weekdays (fun vs H Q E h => ?_) (fun cdv A outer s H vs Q E hr h => ?_)
  · obtain ⟨m, rfl, _⟩ := h
    rfl
  · obtain ⟨m, rfl, hQ⟩ := h
    obtain ⟨t, g⟩ := g
    refine ⟨_, PSs.nox (pss_one (ps_ret (pe_lc (own := [("day", 1)]) (g := gName 1) rfl sc_weekdays.nd (pi_range1 rfl b.range (pa_cons (pe_glob (v := .int 7) rfl g ⟨t, rfl⟩) pa_nil)) (blkOk_by (N := N_weekdays) (sc := defScope s_weekdays) (by decide +kernel))
      (fun _ _ _ _ _ => pg_name (i := 1) sc_weekdays.nd rfl (Or.inl rfl)) (fun _ _ _ _ _ => pts_one (pt_cmpR op_eq (pe_op op_odd (pe_op op_shrN (pv 0) (pv 1)) pe_int) pe_int (nomark _))) (fun _ _ _ _ _ => pv 1)))), ?_⟩
    refine ⟨_, rfl, by decide, by decide, fun D hD => ?_⟩
    refine lc_range (n := 7) (fun i H2 => H2 D = some (.lst ((((List.range i).filter fun d => decide (m / 2 ^ d % 2 = 1)).map Int.ofNat).map V.int)) ∧ Same H H2) ⟨upd_same, same_new hD⟩ ?_ ?_
    · rintro i H2 hi ⟨hd, s2⟩
      refine ⟨rfl, ?_⟩
      have e1 : (m : Int) / 2 ^ i = ((m / 2 ^ i : Nat) : Int) := by
        rw [Int.natCast_ediv]
        simp
      refine ⟨_, rfl, _, rfl, _, i, rfl, by rw [Int.zero_add], m / 2 ^ i, ?_, rfl, rfl, _, rfl, ?_⟩
      · rw [e1]
      have e2 : decide (V.int ((m / 2 ^ i % 2 : Nat) : Int) = V.int 1) = decide (m / 2 ^ i % 2 = 1) := decide_eq_decide.mpr ⟨fun z => by have := V.int.inj z; omega, fun z => by rw [z]; rfl⟩
      rw [e2]
      rw [List.range_succ, List.filter_append]
      refine ite2 (fun c => ?_) (fun c => ?_)
      · have c' : m / 2 ^ i % 2 = 1 := of_decide_eq_true c
        refine ⟨_, rfl, _, hd, ?_, ?_, ?_⟩
        · rw [List.length_map, List.length_map]
          exact Nat.lt_of_le_of_lt (List.length_filter_le _ _) (by rw [List.length_range]; exact Nat.lt_of_lt_of_le (by omega : i < 64) (by decide))
        · rw [upd_same]
          simp [c']
        · intro a o e
          rw [upd_ne (ne_of_none e hD)]
          exact s2 a o e
      · have c' : ¬ m / 2 ^ i % 2 = 1 := fun z => c (decide_eq_true z)
        refine ⟨?_, s2⟩
        rw [hd]
        simp [c']
    · rintro H2 ⟨hd, s2⟩
      exact hQ D H2 s2 hD hd
end
end K14
set_option Elab.async false
set_option linter.all false
set_option maxRecDepth 100000
set_option maxHeartbeats 4000000
namespace K14
open PySem PySem.Spec PyProof.Rows L2
open C8 (Cal Mak Met pe_c pe_mk pe_mt pe_mt0)
open SX (S)
/-! ### a Person -/
def peF (l : List Nat) (s m : Int) : List (Str × V) := putF "mask" (.int m) (putF "seats" (.int s) (putF "name" (.str (S l)) []))
theorem n1 : ¬ (("name" : Str) = "mask") := by decide +kernel
theorem n2 : ¬ (("name" : Str) = "seats") := by decide +kernel
theorem n3 : ¬ (("seats" : Str) = "mask") := by decide +kernel
theorem pe_name (l : List Nat) (s m : Int) : (peF l s m).lookup ("name" : Str) = some (.str (S l)) := by
  unfold peF
  rw [lookup_putF, if_neg n1, lookup_putF, if_neg n2, lookup_putF, if_pos rfl]
theorem pe_seats (l : List Nat) (s m : Int) : (peF l s m).lookup ("seats" : Str) = some (.int s) := by
  unfold peF
  rw [lookup_putF, if_neg n3, lookup_putF, if_pos rfl]
theorem pe_mask (l : List Nat) (s m : Int) : (peF l s m).lookup ("mask" : Str) = some (.int m) := by
  unfold peF
  rw [lookup_putF, if_pos rfl]
structure ClP (K : PySem.W.Frag) (mg : Str → Option Value) (C : Addr) : Prop where
  cl : Cls K C
  nn : NoAttr K C "name"
  ns : NoAttr K C "seats"
  nm : NoAttr K C "mask"
  g : mg "Person" = some (.ref C)
section
variable {P : Program} {w : World} {K : PySem.W.Frag} {mg : Str → Option Value} {base : Heap} {f C : Addr} {fd : FuncData}
def spPI (C : Addr) : Sp := fun vs H Q _ => ∃ (p dx : Addr) (l : List Nat) (s m : Int), vs = [.ref p, .str (S l), .int s, .int m] ∧ NM.ok l ∧ 0 ≤ s ∧ s ≤ 9 ∧ 0 ≤ m ∧ m ≤ 127 ∧ H p = some (.ins C dx []) ∧
  ∀ H', (∀ a o, a ≠ p → H a = some o → H' a = some o) → H' p = some (.ins C dx (peF l s m)) → Q .non H'
theorem ok_pinit (F : Dn K d_Person_init f fd) (cN : Cal P w K mg base 1 "is_name" spName []) (cB : CalB P w K mg base) (cM : Cal P w K mg base 3 "is_mask" spMask []) (T : ClP K mg C) (g : ∃ t, mg "MOST_SEATS" = some (.int 9 t)) : FnOk P w K mg base CX0 4 f fd ["self", "name", "seats", "mask"] (spPI C) := by
  refine F.ok sc_Person_init (fun vs H Q E h => ?_) (fun cdv A outer s H vs Q E hr h => ?_)
  · obtain ⟨p, dx, l, st, m, rfl, _⟩ := h
    rfl
  · obtain ⟨p, dx, l, st, m, rfl, ok, s0, s9, m0, m7, hp, hQ⟩ := h
    obtain ⟨t, g⟩ := g
    refine ⟨_, PSs.nox (pss_cons (ps_if (pt_not (pt_val (pe_c cN hr (by decide) rfl (pa_cons (pv 1) pa_nil)))) pss_never pss_nil)
      (pss_cons (ps_if (pt_not (pt_val (pe_c cB hr (by decide) rfl (pa_cons (pv 2) (pa_cons pe_int (pa_cons (pe_glob (v := .int 9) rfl g ⟨t, rfl⟩) pa_nil)))))) pss_never pss_nil)
      (pss_cons (ps_if (pt_not (pt_val (pe_c cM hr (by decide) rfl (pa_cons (pv 3) pa_nil)))) pss_never pss_nil)
      (pss_cons (ps_fld (pv 0) (pv 1) rfl) (pss_cons (ps_fld (pv 0) (pv 2) rfl) (pss_one (ps_fld (pv 0) (pv 3) rfl))))))), ?_⟩
    refine ⟨_, rfl, l, rfl, ok, fun H1 s1 => ⟨true, rfl, iteF ?_⟩⟩
    refine ⟨_, rfl, st, 0, 9, rfl, _, rfl, ?_⟩
    rw [decide_eq_true (show 0 ≤ st ∧ st ≤ 9 from ⟨s0, s9⟩)]
    refine iteF ?_
    refine ⟨_, rfl, m, rfl, _, rfl, ?_⟩
    rw [decide_eq_true (show 0 ≤ m ∧ m ≤ 127 from ⟨m0, m7⟩)]
    refine iteF ?_
    refine ⟨_, rfl, _, rfl, p, C, dx, _, rfl, s1 _ _ hp, T.cl, T.nn, by show 0 < 1000; decide, ?_⟩
    refine ⟨_, rfl, _, rfl, p, C, dx, _, rfl, upd_same, T.cl, T.ns, by show 1 < 1000; decide, ?_⟩
    refine ⟨_, rfl, _, rfl, p, C, dx, _, rfl, upd_same, T.cl, T.nm, by show 2 < 1000; decide, ?_⟩
    refine hQ _ (fun a o ha e => ?_) upd_same
    rw [upd_ne ha, upd_ne ha, upd_ne ha]
    exact s1 _ _ e
end
/-! ### a Wish -/
theorem putF_two (x : Str) (u v : V) : ∀ fs : List (Str × V), putF x v (putF x u fs) = putF x v fs
  | [] => by simp [putF]
  | q :: fs => by
    obtain ⟨y, z⟩ := q
    by_cases h : y = x
    · simp [putF, h]
    · simp [putF, h, putF_two x u v fs]
def wb (s f l : Int) (mk ad : Addr) : List (Str × V) := putF "alone" (.ref ad) (putF "masks" (.ref mk) (putF "last" (.int l) (putF "first" (.int f) (putF "seats" (.int s) []))))
def wiF (s f l : Int) (mk ad sd : Addr) : List (Str × V) := putF "spans" (.ref sd) (wb s f l mk ad)
theorem wi_put (s f l : Int) (mk ad sd sd' : Addr) : putF "spans" (.ref sd') (wiF s f l mk ad sd) = wiF s f l mk ad sd' := putF_two _ _ _ _
theorem wi_last (s f l l' : Int) (mk ad sd : Addr) : putF "last" (.int l') (wiF s f l mk ad sd) = wiF s f l' mk ad sd := by
  have a3 : ¬ (("spans" : Str) = "last") := by decide +kernel
  have b3 : ¬ (("alone" : Str) = "last") := by decide +kernel
  have c3 : ¬ (("masks" : Str) = "last") := by decide +kernel
  have d3 : ¬ (("first" : Str) = "last") := by decide +kernel
  have e3 : ¬ (("seats" : Str) = "last") := by decide +kernel
  have t1 : ¬ (("seats" : Str) = "first") := by decide +kernel
  have t2 : ¬ (("seats" : Str) = "masks") := by decide +kernel
  have t3 : ¬ (("first" : Str) = "masks") := by decide +kernel
  have t4 : ¬ (("last" : Str) = "masks") := by decide +kernel
  have t5 : ¬ (("seats" : Str) = "alone") := by decide +kernel
  have t6 : ¬ (("first" : Str) = "alone") := by decide +kernel
  have t7 : ¬ (("last" : Str) = "alone") := by decide +kernel
  have t8 : ¬ (("masks" : Str) = "alone") := by decide +kernel
  have t9 : ¬ (("seats" : Str) = "spans") := by decide +kernel
  have u1 : ¬ (("first" : Str) = "spans") := by decide +kernel
  have u2 : ¬ (("last" : Str) = "spans") := by decide +kernel
  have u3 : ¬ (("masks" : Str) = "spans") := by decide +kernel
  have u4 : ¬ (("alone" : Str) = "spans") := by decide +kernel
  unfold wiF wb
  simp [putF, a3, b3, c3, d3, e3, t1, t2, t3, t4, t5, t6, t7, t8, t9, u1, u2, u3, u4]
theorem wi_look (s f l : Int) (mk ad sd : Addr) : (wiF s f l mk ad sd).lookup ("spans" : Str) = some (.ref sd) ∧ (wiF s f l mk ad sd).lookup ("alone" : Str) = some (.ref ad) ∧ (wiF s f l mk ad sd).lookup ("masks" : Str) = some (.ref mk) ∧
    (wiF s f l mk ad sd).lookup ("last" : Str) = some (.int l) ∧ (wiF s f l mk ad sd).lookup ("first" : Str) = some (.int f) ∧ (wiF s f l mk ad sd).lookup ("seats" : Str) = some (.int s) := by
  have a1 : ¬ (("alone" : Str) = "spans") := by decide +kernel
  have a2 : ¬ (("masks" : Str) = "spans") := by decide +kernel
  have a3 : ¬ (("last" : Str) = "spans") := by decide +kernel
  have a4 : ¬ (("first" : Str) = "spans") := by decide +kernel
  have b2 : ¬ (("masks" : Str) = "alone") := by decide +kernel
  have b3 : ¬ (("last" : Str) = "alone") := by decide +kernel
  have b4 : ¬ (("first" : Str) = "alone") := by decide +kernel
  have c3 : ¬ (("last" : Str) = "masks") := by decide +kernel
  have c4 : ¬ (("first" : Str) = "masks") := by decide +kernel
  have d4 : ¬ (("first" : Str) = "last") := by decide +kernel
  have z1 : ¬ (("seats" : Str) = "spans") := by decide +kernel
  have z2 : ¬ (("seats" : Str) = "alone") := by decide +kernel
  have z3 : ¬ (("seats" : Str) = "masks") := by decide +kernel
  have z4 : ¬ (("seats" : Str) = "last") := by decide +kernel
  have z5 : ¬ (("seats" : Str) = "first") := by decide +kernel
  refine ⟨?_, ?_, ?_, ?_, ?_, ?_⟩ <;> unfold wiF wb <;> simp [lookup_putF, a1, a2, a3, a4, b2, b3, b4, c3, c4, d4, z1, z2, z3, z4, z5]
theorem wi_no (s f l : Int) (mk ad sd : Addr) {m : Str} (h1 : ¬ m = "spans") (h2 : ¬ m = "alone") (h3 : ¬ m = "masks") (h4 : ¬ m = "last") (h5 : ¬ m = "first") (h6 : ¬ m = "seats") : (wiF s f l mk ad sd).lookup m = none := by
  unfold wiF wb
  rw [lookup_putF, if_neg h1, lookup_putF, if_neg h2, lookup_putF, if_neg h3, lookup_putF, if_neg h4, lookup_putF, if_neg h5, lookup_putF, if_neg h6]
  rfl
structure ClW (K : PySem.W.Frag) (mg : Str → Option Value) (C : Addr) : Prop where
  cl : Cls K C
  n1 : NoAttr K C "seats"
  n2 : NoAttr K C "first"
  n3 : NoAttr K C "last"
  n4 : NoAttr K C "masks"
  n5 : NoAttr K C "alone"
  n6 : NoAttr K C "spans"
  g : mg "Wish" = some (.ref C)
section
variable {P : Program} {w : World} {K : PySem.W.Frag} {mg : Str → Option Value} {base : Heap} {f C CP : Addr} {fd : FuncData}
def spWI (C CP : Addr) : Sp := fun vs H Q _ => ∃ (p dx pe pdx : Addr) (l : List Nat) (s m d : Int), vs = [.ref p, .ref pe, .int d] ∧ H pe = some (.ins CP pdx (peF l s m)) ∧ H p = some (.ins C dx []) ∧
  ∀ H' mk ad sd, (∀ a o, a ≠ p → H a = some o → H' a = some o) → H mk = none → H ad = none → H sd = none → mk ≠ ad → mk ≠ sd → ad ≠ sd → H' p = some (.ins C dx (wiF s d 1000000 mk ad sd)) → H' mk = some (.dK [(Sum.inl d, .int m)]) → H' ad = some (.dK []) → H' sd = some (.lst []) → Q .non H'
theorem ok_winit (F : Dn K d_Wish_init f fd) (T : ClW K mg C) (TP : ClP K mg CP) (g : ∃ t, mg "LAST_DAY" = some (.int 1000000 t)) : FnOk P w K mg base CX0 1 f fd ["self", "person", "day"] (spWI C CP) := by
  refine F.ok sc_Wish_init (fun vs H Q E h => ?_) (fun cdv A outer s H vs Q E hr h => ?_)
  · obtain ⟨p, dx, pe, pdx, l, st, m, d, rfl, _⟩ := h
    rfl
  · obtain ⟨p, dx, pe, pdx, l, st, m, d, rfl, hpe, hp, hQ⟩ := h
    obtain ⟨t, g⟩ := g
    have npe : pe ≠ p := fun z => by
      rw [z, hp] at hpe
      injection hpe with h1
      injection h1 with h2 h3 h4
      have := pe_mask l st m
      rw [← h4] at this
      cases this
    refine ⟨_, PSs.nox (pss_cons (ps_fld (pv 0) (pe_fld (pv 1) rfl) rfl) (pss_cons (ps_fld (pv 0) (pv 2) rfl) (pss_cons (ps_fld (pv 0) (pe_glob (v := .int 1000000) rfl g ⟨t, rfl⟩) rfl)
      (pss_cons (ps_fld (pv 0) (pe_disp (pps_cons (pv 2) (pe_fld (pv 1) rfl) pps_nil) rfl rfl (by simp) (by decide)) rfl) (pss_cons (ps_fld (pv 0) pe_dnewK rfl) (pss_one (ps_fld (pv 0) (pe_lst pa_nil) rfl))))))), ?_⟩
    refine ⟨_, rfl, pe, CP, pdx, _, _, rfl, hpe, TP.cl, TP.ns, pe_seats l st m, _, rfl, p, C, dx, _, rfl, hp, T.cl, T.n1, by show 0 < 1000; decide, ?_⟩
    refine ⟨_, rfl, _, rfl, p, C, dx, _, rfl, upd_same, T.cl, T.n2, by show 1 < 1000; decide, ?_⟩
    refine ⟨_, rfl, p, C, dx, _, rfl, upd_same, T.cl, T.n3, by show 2 < 1000; decide, ?_⟩
    have hp3 := upd_same (H := upd (upd H p (.ins C dx (putF "seats" (.int st) []))) p (.ins C dx (putF "first" (.int d) (putF "seats" (.int st) [])))) (a := p) (o := .ins C dx (putF "last" (.int 1000000) (putF "first" (.int d) (putF "seats" (.int st) []))))
    have k3 : ∀ a o, a ≠ p → H a = some o → (upd (upd (upd H p (.ins C dx (putF "seats" (.int st) []))) p (.ins C dx (putF "first" (.int d) (putF "seats" (.int st) [])))) p (.ins C dx (putF "last" (.int 1000000) (putF "first" (.int d) (putF "seats" (.int st) []))))) a = some o := fun a o n e => by rw [upd_ne n, upd_ne n, upd_ne n]; exact e
    generalize upd (upd (upd H p (.ins C dx (putF "seats" (.int st) []))) p (.ins C dx (putF "first" (.int d) (putF "seats" (.int st) [])))) p (.ins C dx (putF "last" (.int 1000000) (putF "first" (.int d) (putF "seats" (.int st) [])))) = H3 at hp3 k3 ⊢
    have free : ∀ {H' : Hp}, (∀ a o, a ≠ p → H a = some o → H' a = some o) → H' p ≠ none → ∀ b, H' b = none → H b = none := fun k np b e => by
      cases q : H b with
      | none => rfl
      | some u =>
        by_cases h : b = p
        · rw [h] at e
          exact absurd e np
        · rw [k b u h q] at e
          cases e
    intro mk hmk
    have fmk := free k3 (by rw [hp3]; simp) mk hmk
    have npm : p ≠ mk := ne_of_none hp3 hmk
    refine ⟨_, rfl, _, rfl, pe, CP, pdx, _, _, rfl, (by rw [upd_ne (ne_of_none (k3 _ _ npe hpe) hmk)]; exact k3 _ _ npe hpe), TP.cl, TP.nm, pe_mask l st m, upd_same, [(Sum.inl d, .int m)], rfl, by show 1 ≤ 15; decide, ?_⟩
    have em : mergeK [] [((Sum.inl d : Key), V.int m)] = [(Sum.inl d, .int m)] := rfl
    rw [em]
    have hp4 : (upd (upd H3 mk (.dK [])) mk (.dK [(Sum.inl d, .int m)])) p = some (.ins C dx (putF "last" (.int 1000000) (putF "first" (.int d) (putF "seats" (.int st) [])))) := by rw [upd_ne npm, upd_ne npm]; exact hp3
    have k4 : ∀ a o, a ≠ p → H a = some o → (upd (upd H3 mk (.dK [])) mk (.dK [(Sum.inl d, .int m)])) a = some o := fun a o n e => by
      have e3 := k3 a o n e
      rw [upd_ne (ne_of_none e3 hmk), upd_ne (ne_of_none e3 hmk)]
      exact e3
    have hm4 := upd_same (H := upd H3 mk (.dK [])) (a := mk) (o := .dK [(Sum.inl d, .int m)])
    generalize upd (upd H3 mk (.dK [])) mk (.dK [(Sum.inl d, .int m)]) = H4 at hp4 k4 hm4 ⊢
    refine ⟨_, rfl, p, C, dx, _, rfl, hp4, T.cl, T.n4, by show 3 < 1000; decide, ?_⟩
    have nmp : mk ≠ p := npm.symm
    have hm5 : (upd H4 p (.ins C dx (putF "masks" (.ref mk) (putF "last" (.int 1000000) (putF "first" (.int d) (putF "seats" (.int st) [])))))) mk = some (.dK [(Sum.inl d, .int m)]) := by rw [upd_ne nmp]; exact hm4
    have hp5 := upd_same (H := H4) (a := p) (o := .ins C dx (putF "masks" (.ref mk) (putF "last" (.int 1000000) (putF "first" (.int d) (putF "seats" (.int st) [])))))
    have k5 : ∀ a o, a ≠ p → H a = some o → (upd H4 p (.ins C dx (putF "masks" (.ref mk) (putF "last" (.int 1000000) (putF "first" (.int d) (putF "seats" (.int st) [])))))) a = some o := fun a o n e => by rw [upd_ne n]; exact k4 a o n e
    generalize upd H4 p (.ins C dx (putF "masks" (.ref mk) (putF "last" (.int 1000000) (putF "first" (.int d) (putF "seats" (.int st) []))))) = H5 at hm5 hp5 k5 ⊢
    intro ad had
    have fad := free k5 (by rw [hp5]; simp) ad had
    have npa : p ≠ ad := ne_of_none hp5 had
    have nma : mk ≠ ad := ne_of_none hm5 had
    refine ⟨_, rfl, p, C, dx, _, rfl, (by rw [upd_ne npa]; exact hp5), T.cl, T.n5, by show 4 < 1000; decide, ?_⟩
    have hp6 := upd_same (H := upd H5 ad (.dK [])) (a := p) (o := .ins C dx (wb st d 1000000 mk ad))
    have hm6 : (upd (upd H5 ad (.dK [])) p (.ins C dx (wb st d 1000000 mk ad))) mk = some (.dK [(Sum.inl d, .int m)]) := by rw [upd_ne nmp, upd_ne nma]; exact hm5
    have ha6 : (upd (upd H5 ad (.dK [])) p (.ins C dx (wb st d 1000000 mk ad))) ad = some (.dK []) := by rw [upd_ne npa.symm, upd_same]
    have k6 : ∀ a o, a ≠ p → H a = some o → (upd (upd H5 ad (.dK [])) p (.ins C dx (wb st d 1000000 mk ad))) a = some o := fun a o n e => by
      have e5 := k5 a o n e
      rw [upd_ne n, upd_ne (ne_of_none e5 had)]
      exact e5
    refine ⟨by show 0 ≤ sizeLine; decide, fun sd hsd => ?_⟩
    have fsd := free k6 (by rw [hp6]; simp) sd hsd
    have nps : p ≠ sd := ne_of_none hp6 hsd
    have nms : mk ≠ sd := ne_of_none hm6 hsd
    have nas : ad ≠ sd := ne_of_none ha6 hsd
    refine ⟨_, rfl, p, C, dx, _, rfl, (by rw [upd_ne nps]; exact hp6), T.cl, T.n6, by show 5 < 1000; decide, ?_⟩
    refine hQ _ mk ad sd (fun a o n e => ?_) fmk fad fsd nma nms nas upd_same ?_ ?_ ?_
    · have e6 := k6 a o n e
      rw [upd_ne n, upd_ne (ne_of_none e6 hsd)]
      exact e6
    · rw [upd_ne nmp, upd_ne nms]
      exact hm6
    · rw [upd_ne npa.symm, upd_ne nas]
      exact ha6
    · rw [upd_ne nps.symm, upd_same]
end
end K14
set_option Elab.async false
set_option linter.all false
set_option maxRecDepth 100000
set_option maxHeartbeats 4000000
namespace K14
open PySem PySem.Spec PyProof.Rows L2
open C8 (Cal Mak Met pe_c pe_mk pe_mt pe_mt0)
open SX (S)
/-! ### tables by whole numbers -/
section
variable {α : Type}
def getI (l : List (Int × α)) (k : Int) : Option α := (l.find? fun p => decide (p.1 = k)).map (·.2)
def putI (l : List (Int × α)) (k : Int) (v : α) : List (Int × α) := if (l.any fun p => decide (p.1 = k)) = true then l.map (fun p => if p.1 = k then (p.1, v) else p) else l ++ [(k, v)]
def dropI (l : List (Int × α)) (k : Int) : List (Int × α) := l.filter fun p => decide (p.1 ≠ k)
def enc (g : α → V) (l : List (Int × α)) : List (Key × V) := l.map fun p => ((Sum.inl p.1 : Key), g p.2)
theorem key_eq (a b : Int) : ((Sum.inl a : Key) = Sum.inl b) = (a = b) := by simp
theorem val_enc (g : α → V) (k : Int) : ∀ l : List (Int × α), valV (enc g l) (Sum.inl k) = (getI l k).map g
  | [] => rfl
  | p :: r => by
    by_cases h : p.1 = k
    · have h' : ((Sum.inl p.1 : Key), g p.2).1 = (Sum.inl k : Key) := by rw [h]
      show valV (((Sum.inl p.1 : Key), g p.2) :: enc g r) (Sum.inl k) = _
      rw [valV_pos h']
      unfold getI
      rw [List.find?_cons_of_pos (by exact decide_eq_true h)]
      rfl
    · have h' : ¬ ((Sum.inl p.1 : Key), g p.2).1 = (Sum.inl k : Key) := fun z => h (Sum.inl.inj z)
      show valV (((Sum.inl p.1 : Key), g p.2) :: enc g r) (Sum.inl k) = _
      rw [valV_neg h', val_enc g k r]
      unfold getI
      rw [List.find?_cons_of_neg (by simpa using h)]
theorem put_enc (g : α → V) (l : List (Int × α)) (k : Int) (v : α) : putK (enc g l) (Sum.inl k) (g v) = enc g (putI l k v) := by
  have e : ((enc g l).any fun kv => decide (kv.1 = (Sum.inl k : Key))) = l.any fun p => decide (p.1 = k) := by
    unfold enc
    rw [List.any_map]
    congr 1
    funext p
    exact decide_eq_decide.mpr ⟨fun z => Sum.inl.inj z, fun z => by show (Sum.inl p.1 : Key) = _; rw [z]⟩
  unfold putK putI
  rw [e]
  split
  · unfold enc
    rw [List.map_map, List.map_map]
    refine List.map_congr_left fun p _ => ?_
    show (if (Sum.inl p.1 : Key) = Sum.inl k then _ else _) = ((Sum.inl (if p.1 = k then (p.1, v) else p).1 : Key), g (if p.1 = k then (p.1, v) else p).2)
    by_cases h : p.1 = k
    · rw [if_pos h, if_pos (by rw [h])]
    · rw [if_neg h, if_neg (fun z => h (Sum.inl.inj z))]
  · unfold enc
    rw [List.map_append]
    rfl
theorem drop_enc (g : α → V) (l : List (Int × α)) (k : Int) : dropK (enc g l) (Sum.inl k) = enc g (dropI l k) := by
  unfold dropK dropI enc
  rw [List.filter_map]
  congr 1
  refine List.filter_congr fun p _ => ?_
  exact decide_eq_decide.mpr ⟨fun z y => z (by show (Sum.inl p.1 : Key) = _; rw [y]), fun z y => z (Sum.inl.inj y)⟩
theorem getI_isSome (l : List (Int × α)) (k : Int) : (getI l k).isSome = true ↔ k ∈ l.map (·.1) := by
  unfold getI
  rw [Option.isSome_map, List.find?_isSome]
  constructor
  · rintro ⟨p, hp, e⟩
    exact List.mem_map.mpr ⟨p, hp, of_decide_eq_true e⟩
  · intro h
    obtain ⟨p, hp, e⟩ := List.mem_map.mp h
    exact ⟨p, hp, decide_eq_true e⟩
theorem get_cons (p : Int × α) (r : List (Int × α)) (k : Int) : getI (p :: r) k = if p.1 = k then some p.2 else getI r k := by
  unfold getI
  by_cases h : p.1 = k
  · rw [List.find?_cons_of_pos (by exact decide_eq_true h), if_pos h]
    rfl
  · rw [List.find?_cons_of_neg (by simpa using h), if_neg h]
theorem get_app (k : Int) (b : List (Int × α)) : ∀ a : List (Int × α), getI (a ++ b) k = (getI a k).or (getI b k)
  | [] => rfl
  | p :: r => by
    rw [List.cons_append, get_cons, get_cons]
    by_cases h : p.1 = k
    · rw [if_pos h, if_pos h]
      rfl
    · rw [if_neg h, if_neg h, get_app k b r]
theorem get_repl (k j : Int) (v : α) : ∀ l : List (Int × α), getI (l.map fun p => if p.1 = k then (p.1, v) else p) j = (getI l j).map fun x => if j = k then v else x
  | [] => rfl
  | p :: r => by
    rw [List.map_cons, get_cons, get_cons, get_repl k j v r]
    by_cases h : p.1 = k
    · rw [if_pos h]
      by_cases q : p.1 = j
      · rw [if_pos q, if_pos q]
        show some v = some (if j = k then v else p.2)
        rw [if_pos (q.symm.trans h)]
      · rw [if_neg q, if_neg q]
    · rw [if_neg h]
      by_cases q : p.1 = j
      · rw [if_pos q, if_pos q]
        show some p.2 = some (if j = k then v else p.2)
        rw [if_neg (fun z => h (q.trans z))]
      · rw [if_neg q, if_neg q]
theorem get_put (l : List (Int × α)) (k j : Int) (v : α) : getI (putI l k v) j = if j = k then some v else getI l j := by
  unfold putI
  have ea : (l.any fun p => decide (p.1 = k)) = (getI l k).isSome := by
    rw [Bool.eq_iff_iff, getI_isSome, List.any_eq_true, List.mem_map]
    exact ⟨fun ⟨p, hp, e⟩ => ⟨p, hp, of_decide_eq_true e⟩, fun ⟨p, hp, e⟩ => ⟨p, hp, decide_eq_true e⟩⟩
  rw [ea]
  by_cases h : (getI l k).isSome = true
  · rw [if_pos h, get_repl]
    by_cases q : j = k
    · subst q
      obtain ⟨x, hx⟩ := Option.isSome_iff_exists.mp h
      rw [hx, if_pos rfl]
      simp
    · rw [if_neg q]
      simp [q]
  · rw [if_neg h, get_app, get_cons]
    by_cases q : j = k
    · subst q
      have : getI l j = none := by simpa using h
      rw [this, if_pos rfl, if_pos rfl]
      rfl
    · rw [if_neg q, if_neg (fun z => q z.symm)]
      show (getI l j).or none = _
      simp
theorem get_drop (k j : Int) : ∀ l : List (Int × α), getI (dropI l k) j = if j = k then none else getI l j
  | [] => by unfold dropI getI; simp
  | p :: r => by
    have ih := get_drop k j r
    unfold dropI at ih ⊢
    rw [get_cons]
    by_cases h : p.1 = k
    · rw [List.filter_cons_of_neg (by simpa using h), ih]
      by_cases q : j = k
      · rw [if_pos q, if_pos q]
      · rw [if_neg q, if_neg q, if_neg (fun z => q (z.symm.trans h))]
    · rw [List.filter_cons_of_pos (by simpa using h), get_cons, ih]
      by_cases q : p.1 = j
      · rw [if_pos q, if_pos q, if_neg (fun z => h (q.trans z))]
      · rw [if_neg q, if_neg q]
theorem put_len (l : List (Int × α)) (k : Int) (v : α) : (putI l k v).length ≤ l.length + 1 := by
  unfold putI
  split
  · rw [List.length_map]
    omega
  · simp
theorem drop_len (l : List (Int × α)) (k : Int) : (dropI l k).length ≤ l.length := List.length_filter_le _ _
theorem put_keys {l : List (Int × α)} {k j : Int} {v : α} (h : j ∈ (putI l k v).map (·.1)) : j ∈ l.map (·.1) ∨ j = k := by
  rw [← getI_isSome, get_put] at h
  by_cases q : j = k
  · exact .inr q
  · rw [if_neg q] at h
    exact .inl ((getI_isSome l j).mp h)
end
/-! ### the greatest of some days -/
def topI : List Int → Int
  | [] => -1
  | x :: r => if topI r < x then x else topI r
theorem topI_ge : ∀ {l : List Int} {x : Int}, x ∈ l → x ≤ topI l
  | y :: r, x, h => by
    unfold topI
    rcases List.mem_cons.mp h with rfl | h
    · split <;> omega
    · have := topI_ge h
      split <;> omega
theorem topI_mem : ∀ {l : List Int}, l ≠ [] → (∀ x ∈ l, 0 ≤ x) → topI l ∈ l
  | x :: r, _, h => by
    unfold topI
    split
    · exact List.mem_cons_self
    · rename_i c
      cases r with
      | nil =>
        have := h x List.mem_cons_self
        exact absurd (show topI [] < x by show (-1 : Int) < x; omega) c
      | cons y t => exact List.mem_cons_of_mem _ (topI_mem (by simp) fun z hz => h z (List.mem_cons_of_mem _ hz))
/-! ### a Wish, as data -/
structure Ws where
  s : Int
  f : Int
  l : Int
  ms : List (Int × Nat)
  al : List (Int × Bool)
  sp : List (Int × Int)
structure Wa where
  q : Addr
  dx : Addr
  mm : Addr
  ad : Addr
  sd : Addr
def sickB (sp : List (Int × Int)) (d : Int) : Bool := sp.any fun x => decide (x.1 ≤ d ∧ d ≤ x.2)
def startOn (ms : List (Int × Nat)) (d : Int) : Int := topI ((ms.map (·.1)).filter fun k => decide (k ≤ d))
def maskAt (ms : List (Int × Nat)) (d : Int) : Nat := (getI ms (startOn ms d)).getD 0
def bitOn (m : Nat) (d : Int) : Bool := decide (m / 2 ^ (d % 7).toNat % 2 = 1)
def Ws.holds (w : Ws) (d : Int) : Bool := if (w.f ≤ d ∧ d ≤ w.l) ∧ sickB w.sp d = false then (getI w.al d).getD (bitOn (maskAt w.ms d) d) else false
structure Wok (n : Nat) (w : Ws) : Prop where
  f0 : 0 ≤ w.f
  fm : w.f ∈ w.ms.map (·.1)
  k0 : ∀ k ∈ w.ms.map (·.1), 0 ≤ k
  nm : w.ms.length ≤ n
  na : w.al.length ≤ n
  ns : w.sp.length ≤ n
theorem Wok.weak {n n' : Nat} {w : Ws} (h : Wok n w) (hn : n ≤ n') : Wok n' w := ⟨h.f0, h.fm, h.k0, Nat.le_trans h.nm hn, Nat.le_trans h.na hn, Nat.le_trans h.ns hn⟩
theorem start_is {ms : List (Int × Nat)} {d m : Int} (h0 : ∀ k ∈ ms.map (·.1), 0 ≤ k) (hm : m ∈ (ms.map (·.1)).filter fun k => decide (k ≤ d)) (hu : ∀ y, y ∈ (ms.map (·.1)).filter (fun k => decide (k ≤ d)) → y ≤ m) : startOn ms d = m := by
  have a := topI_ge hm
  have b := hu _ (topI_mem (l := (ms.map (·.1)).filter fun k => decide (k ≤ d)) (fun z => by rw [z] at hm; cases hm) (fun x hx => h0 x (List.mem_filter.mp hx).1))
  unfold startOn
  omega
/-! ### a Wish, on the heap -/
abbrev Spa := Addr × Int × Int
def SpB (H : Hp) (sd : Addr) (sps : List Spa) : Prop := H sd = some (.lst (sps.map fun x => V.ref x.1)) ∧ ∀ x ∈ sps, H x.1 = some (.tup [.int x.2.1, .int x.2.2])
structure Wi (C : Addr) (H : Hp) (a : Wa) (w : Ws) : Prop where
  at_ : H a.q = some (.ins C a.dx (wiF w.s w.f w.l a.mm a.ad a.sd))
  mk_ : H a.mm = some (.dK (enc (fun m : Nat => V.int m) w.ms))
  ad_ : H a.ad = some (.dK (enc V.bl w.al))
  sp_ : ∃ sps : List Spa, sps.map (·.2) = w.sp ∧ SpB H a.sd sps
  nma : a.mm ≠ a.ad
def cel (a : Wa) : List Addr := [a.q, a.mm, a.ad, a.sd]
theorem Wi.off {C : Addr} {H : Hp} {a : Wa} {w : Ws} (h : Wi C H a w) {b : Addr} (hb : b ∈ cel a) : (∃ o, H b = some o) ∧ ∀ vs, H b ≠ some (.tup vs) := by
  obtain ⟨sps, _, hs, _⟩ := h.sp_
  unfold cel at hb
  simp only [List.mem_cons, List.not_mem_nil, or_false] at hb
  rcases hb with rfl | rfl | rfl | rfl
  · rw [h.at_]; exact ⟨⟨_, rfl⟩, fun vs z => by cases z⟩
  · rw [h.mk_]; exact ⟨⟨_, rfl⟩, fun vs z => by cases z⟩
  · rw [h.ad_]; exact ⟨⟨_, rfl⟩, fun vs z => by cases z⟩
  · rw [hs]; exact ⟨⟨_, rfl⟩, fun vs z => by cases z⟩
/-- what is kept but for some cells, none of them its own and none of them tuples -/
theorem Wi.keepP {C : Addr} {H H' : Hp} {a : Wa} {w : Ws} {xs : List Addr} (h : Wi C H a w) (k : ∀ b o, b ∉ xs → H b = some o → H' b = some o) (hd : ∀ b ∈ cel a, b ∉ xs) (ht : ∀ b ∈ xs, ∀ vs, H b ≠ some (.tup vs)) : Wi C H' a w := by
  obtain ⟨sps, e, hs, hx⟩ := h.sp_
  refine ⟨k _ _ (hd _ (by simp [cel])) h.at_, k _ _ (hd _ (by simp [cel])) h.mk_, k _ _ (hd _ (by simp [cel])) h.ad_, ⟨sps, e, k _ _ (hd _ (by simp [cel])) hs, fun x hm => ?_⟩, h.nma⟩
  exact k _ _ (fun z => ht _ z _ (hx x hm)) (hx x hm)
theorem Wi.keep {C : Addr} {H H' : Hp} {a : Wa} {w : Ws} (s : Same H H') (h : Wi C H a w) : Wi C H' a w := h.keepP (xs := []) (fun b o _ e => s b o e) (fun b _ => by simp) (fun b hb => by cases hb)
end K14
set_option Elab.async false
set_option linter.all false
set_option maxRecDepth 100000
set_option maxHeartbeats 4000000
namespace K14
open PySem PySem.Spec PyProof.Rows L2
open C8 (Cal Mak Met pe_c pe_mk pe_mt pe_mt0)
open SX (S)
theorem line_lt {n : Nat} (h : n ≤ 100000) : n < sizeLine := by have := sizeLine_eq; omega
theorem take_one {α : Type} {l : List α} {i : Nat} {x : α} (h : l[i]? = some x) : l.take (i + 1) = l.take i ++ [x] := by rw [List.take_succ, h]; rfl
section
variable {P : Program} {w : World} {K : PySem.W.Frag} {mg : Str → Option Value} {base : Heap} {f C CP : Addr} {fd : FuncData}
def spSickOn (C : Addr) : Sp := fun vs H Q _ => ∃ (a : Wa) (z : Ws) (d : Int), vs = [.ref a.q, .int d] ∧ Wi C H a z ∧ z.sp.length ≤ 1000 ∧ ∀ H', Same H H' → Q (.bl (sickB z.sp d)) H'
theorem ok_sickOn (F : Dn K d_Wish_is_sick f fd) (b : Bl mg) (T : ClW K mg C) : FnOk P w K mg base CX0 1 f fd ["self", "day"] (spSickOn C) := by
  refine F.ok sc_Wish_is_sick (fun vs H Q E h => ?_) (fun cdv A outer s H vs Q E hr h => ?_)
  · obtain ⟨a, z, d, rfl, _⟩ := h
    rfl
  · obtain ⟨a, z, d, rfl, W, hlen, hQ⟩ := h
    refine ⟨_, PSs.nox (pss_one (ps_ret (pe_callB (cr_any rfl) rfl b.any boot_any (pa_cons (pe_lc (own := [("first", 2), ("last", 3)]) (g := gTup K 2 (gCons (gName 2) (gCons (gName 3) gNil))) (tt := tYes) rfl sc_Wish_is_sick.nd (pi_list (pe_fld (pv 0) rfl)) (blkOk_by (N := N_Wish_is_sick) (sc := defScope s_Wish_is_sick) (by decide +kernel))
      (fun _ _ _ _ _ => pg_tup rfl (pgs_cons (pg_name (i := 2) sc_Wish_is_sick.nd rfl (Or.inl rfl)) (pgs_cons (pg_name (i := 3) sc_Wish_is_sick.nd rfl (Or.inl rfl)) pgs_nil))) (fun _ _ _ _ _ => pts_nil) (fun _ _ _ _ _ => pe_chain op_le op_le (pv 2) (pv 1) (pv 3))) pa_nil)))), ?_⟩
    obtain ⟨sps, es, hs, hx0⟩ := W.sp_
    have hlen' : sps.length ≤ 1000 := by rw [← es, List.length_map] at hlen; exact hlen
    refine ⟨_, rfl, a.q, C, a.dx, _, _, rfl, W.at_, T.cl, T.n6, (wi_look z.s z.f z.l a.mm a.ad a.sd).1, a.sd, rfl, ⟨_, SqL.of hs⟩, fun D hD => ?_⟩
    refine lc_list (K := K) (xs := sps.map fun x => V.ref x.1) (fun i H2 => H2 D = some (.lst (((sps.take i).map fun x => decide (x.2.1 ≤ d ∧ d ≤ x.2.2)).map V.bl)) ∧ Same H H2) ⟨upd_same, same_new hD⟩ (fun i H2 _ z => SqL.of (z.2 _ _ hs)) ?_ ?_
    · rintro i y H2 hi ⟨hd, s2⟩
      rw [List.getElem?_map] at hi
      cases hx : sps[i]? with
      | none =>
        rw [hx] at hi
        cases hi
      | some x =>
        rw [hx] at hi
        cases (Option.some.inj hi : V.ref x.1 = y)
        refine ⟨x.1, _, rfl, SqT.of (s2 _ _ (hx0 x (List.mem_of_getElem? hx))), rfl, _, _, rfl, _, _, rfl, rfl, rfl, ?_⟩
        have fin : ∀ bb, bb = decide (x.2.1 ≤ d ∧ d ≤ x.2.2) → ∃ acc, H2 D = some (.lst acc) ∧ acc.length < sizeLine ∧ (upd H2 D (.lst (acc ++ [V.bl bb])) D = some (.lst (((sps.take (i + 1)).map fun x => decide (x.2.1 ≤ d ∧ d ≤ x.2.2)).map V.bl)) ∧ Same H (upd H2 D (.lst (acc ++ [V.bl bb])))) := by
          rintro bb rfl
          refine ⟨_, hd, ?_, ?_, fun a o e => ?_⟩
          · rw [List.length_map, List.length_map, List.length_take]
            exact line_lt (by omega)
          · rw [upd_same, take_one hx]
            simp
          · rw [upd_ne (ne_of_none e hD)]
            exact s2 a o e
        refine ⟨_, rfl, _, rfl, _, _, rfl, rfl, _, rfl, ?_⟩
        refine ite2 (fun c => ?_) (fun c => ?_)
        · have c' : x.2.1 ≤ d := of_decide_eq_true c
          refine ⟨_, rfl, _, _, rfl, rfl, ?_⟩
          have e : decide (d ≤ x.2.2) = decide (x.2.1 ≤ d ∧ d ≤ x.2.2) := decide_eq_decide.mpr ⟨fun z => ⟨c', z⟩, fun z => z.2⟩
          exact fin _ e
        · have c' : ¬ x.2.1 ≤ d := fun z => c (decide_eq_true z)
          have e : decide (x.2.1 ≤ d ∧ d ≤ x.2.2) = false := decide_eq_false fun z => c' z.1
          exact fin _ e.symm
    · rintro H2 ⟨hd, s2⟩
      rw [List.length_map, List.take_length] at hd
      refine ⟨D, _, rfl, SqL.of hd, ?_⟩
      have e : (sps.map fun x => decide (x.2.1 ≤ d ∧ d ≤ x.2.2)).any id = sickB z.sp d := by rw [← es]; unfold sickB; rw [List.any_map, List.any_map]; rfl
      rw [e]
      exact hQ H2 s2
def spMaskOn (C : Addr) : Sp := fun vs H Q _ => ∃ (a : Wa) (z : Ws) (d : Int) (n : Nat), vs = [.ref a.q, .int d] ∧ Wi C H a z ∧ Wok n z ∧ n ≤ 1000 ∧ z.f ≤ d ∧ ∀ H', Same H H' → Q (.int (maskAt z.ms d : Nat)) H'
theorem ok_maskOn (F : Dn K d_Wish_mask_on f fd) (b : Bl mg) (T : ClW K mg C) : FnOk P w K mg base CX0 1 f fd ["self", "day"] (spMaskOn C) := by
  refine F.ok sc_Wish_mask_on (fun vs H Q E h => ?_) (fun cdv A outer s H vs Q E hr h => ?_)
  · obtain ⟨a, z, d, n, rfl, _⟩ := h
    rfl
  · obtain ⟨a, z, d, n, rfl, W, wok, hn, hd, hQ⟩ := h
    have hu := hu_of hr
    refine ⟨_, PSs.nox (pss_one (ps_ret (pe_lock (pe_dget hu (pe_fld (pv 0) rfl) (pe_callB (cr_max rfl) rfl b.max boot_max (pa_cons (pe_lc (own := [("start", 2)]) (g := gName 2) rfl sc_Wish_mask_on.nd (pi_keys (pe_fld (pv 0) rfl)) (blkOk_by (N := N_Wish_mask_on) (sc := defScope s_Wish_mask_on) (by decide +kernel))
      (fun _ _ _ _ _ => pg_name (i := 2) sc_Wish_mask_on.nd rfl (Or.inl rfl)) (fun _ _ _ _ _ => pts_one (pt_cmpR op_le (pv 2) (pv 1) (nomark _))) (fun _ _ _ _ _ => pv 2)) pa_nil)) (fun _ _ => rfl))))), ?_⟩
    have look := wi_look z.s z.f z.l a.mm a.ad a.sd
    have nqm : a.q ≠ a.mm := ne_of W.at_ W.mk_ (by intro z; cases z)
    refine ⟨a.mm, _, W.mk_, trivial, fun od => ?_⟩
    have hq : (upd H a.mm (.frz od (.dK (enc (fun m : Nat => V.int m) z.ms)))) a.q = some (.ins C a.dx (wiF z.s z.f z.l a.mm a.ad a.sd)) := by rw [upd_ne nqm]; exact W.at_
    refine ⟨_, rfl, a.q, C, a.dx, _, _, rfl, hq, T.cl, T.n4, look.2.2.1, ?_⟩
    refine ⟨_, rfl, a.q, C, a.dx, _, _, rfl, hq, T.cl, T.n4, look.2.2.1, a.mm, od, rfl, .inl ⟨_, upd_same, fun D hD => ?_⟩⟩
    have nmD : a.mm ≠ D := ne_of_none upd_same hD
    have frH : H D = none := by rw [upd_ne nmD.symm] at hD; exact hD
    refine lc_it walk_keys (fun i H2 => H2 D = some (.lst ((((z.ms.map (·.1)).take i).filter fun k => decide (k ≤ d)).map V.int)) ∧ H2 a.mm = some (.frz od (.dK (enc (fun m : Nat => V.int m) z.ms))) ∧ ∀ b o, b ≠ a.mm → H b = some o → H2 b = some o) ?_ (fun i H2 _ z => z.2.1) ?_ ?_
    · refine ⟨upd_same, by rw [upd_ne nmD]; exact upd_same, fun b o n e => ?_⟩
      rw [upd_ne (ne_of_none e frH), upd_ne n]
      exact e
    · rintro i x H2 H3 hi ⟨hd2, hm, k2⟩ ⟨rfl, k, v, e, rfl⟩
      have e' := e
      unfold enc at e'
      rw [List.getElem?_map] at e'
      cases hp : z.ms[i]? with
      | none =>
        rw [hp] at e'
        cases e'
      | some p =>
        rw [hp] at e'
        cases (Option.some.inj e' : ((Sum.inl p.1 : Key), V.int (p.2 : Nat)) = (k, v))
        have hk : (z.ms.map (·.1))[i]? = some p.1 := by rw [List.getElem?_map, hp]; rfl
        have put : ∀ (bb : Bool) , bb = decide (p.1 ≤ d) → (((z.ms.map (·.1)).take (i + 1)).filter fun k => decide (k ≤ d)).map V.int = (((z.ms.map (·.1)).take i).filter fun k => decide (k ≤ d)).map V.int ++ (if bb then [V.int p.1] else []) := by
          rintro bb rfl
          rw [take_one hk, List.filter_append, List.map_append]
          congr 1
          by_cases c : p.1 ≤ d
          · rw [List.filter_cons_of_pos (by exact decide_eq_true c), decide_eq_true c]
            rfl
          · rw [List.filter_cons_of_neg (by simpa using c), decide_eq_false c]
            rfl
        refine ⟨rfl, ?_⟩
        refine ⟨_, rfl, _, rfl, _, _, rfl, rfl, _, rfl, ?_⟩
        refine ite2 (fun c => ?_) (fun c => ?_)
        · refine ⟨_, rfl, _, hd2, ?_, ?_, by rw [upd_ne nmD]; exact hm, fun b o n e => ?_⟩
          · rw [List.length_map]
            have h1 := List.length_filter_le (fun k => decide (k ≤ d)) ((z.ms.map (·.1)).take i)
            rw [List.length_take, List.length_map] at h1
            have := wok.nm
            exact line_lt (by omega)
          · rw [upd_same, put true c.symm]
            rfl
          · rw [upd_ne (ne_of_none e frH)]
            exact k2 b o n e
        · refine ⟨?_, hm, k2⟩
          rw [put false (by simpa using c)]
          simpa using hd2
    · rintro H2 ⟨hd2, hm, k2⟩
      have el : (enc (fun m : Nat => V.int m) z.ms).length = (z.ms.map (·.1)).length := by unfold enc; rw [List.length_map, List.length_map]
      rw [el, List.take_length] at hd2
      have fin : z.f ∈ (z.ms.map (·.1)).filter fun k => decide (k ≤ d) := List.mem_filter.mpr ⟨wok.fm, decide_eq_true hd⟩
      refine ⟨D, _, rfl, SqL.of hd2, List.length_pos_of_mem fin, fun m hm1 hm2 => ?_⟩
      have es := start_is wok.k0 hm1 hm2
      have eg : getI z.ms m = some (maskAt z.ms d) := by
        have : (getI z.ms m).isSome = true := (getI_isSome _ _).mpr (List.mem_filter.mp hm1).1
        unfold maskAt
        rw [es]
        obtain ⟨y, hy⟩ := Option.isSome_iff_exists.mp this
        rw [hy]
        rfl
      refine ⟨a.mm, .int (maskAt z.ms d : Nat), rfl, .inl ⟨_, Sum.inl m, .inr ⟨_, hm⟩, rfl, ?_⟩, hm, ?_⟩
      · rw [val_enc, eg]
        rfl
      refine hQ _ fun b o e => ?_
      by_cases h : b = a.mm
      · subst h
        rw [upd_same, ← W.mk_]
        exact e
      · rw [upd_ne h]
        exact k2 b o h e
end
end K14
set_option Elab.async false
set_option linter.all false
set_option maxRecDepth 100000
set_option maxHeartbeats 4000000
namespace K14
open PySem PySem.Spec PyProof.Rows L2
open C8 (Cal Mak Met pe_c pe_mk pe_mt pe_mt0)
open SX (S)
theorem in_wd (m : Nat) {d : Int} (h0 : 0 ≤ d) : inV (.int (d % 7)) ((wd m).map V.int) = bitOn m d := by
  unfold bitOn
  obtain ⟨j, hj⟩ := Int.eq_ofNat_of_zero_le (show 0 ≤ d % 7 by omega)
  have j7 : j < 7 := by omega
  rw [hj, Int.toNat_natCast]
  unfold inV wd
  rw [Bool.eq_iff_iff, List.any_eq_true, decide_eq_true_eq]
  constructor
  · rintro ⟨y, hy, e⟩
    rw [List.map_map, List.mem_map] at hy
    obtain ⟨x, hx, rfl⟩ := hy
    rw [List.mem_filter] at hx
    have e' : (x : Int) = (j : Int) := by
      have : ((Int.ofNat x) == (j : Int)) = true := e
      exact eq_of_beq this
    have : x = j := by omega
    subst this
    exact of_decide_eq_true hx.2
  · intro e
    refine ⟨.int (j : Int), ?_, ?_⟩
    · rw [List.map_map, List.mem_map]
      exact ⟨j, List.mem_filter.mpr ⟨List.mem_range.mpr j7, decide_eq_true e⟩, rfl⟩
    · show ((j : Int) == (j : Int)) = true
      exact beq_self_eq_true _
section
variable {P : Program} {w : World} {K : PySem.W.Frag} {mg : Str → Option Value} {base : Heap} {f C CP : Addr} {fd : FuncData}
def spHolds (C : Addr) : Sp := fun vs H Q _ => ∃ (a : Wa) (z : Ws) (d : Int) (n : Nat), vs = [.ref a.q, .int d] ∧ Wi C H a z ∧ Wok n z ∧ n ≤ 1000 ∧ 0 ≤ d ∧ ∀ H', Same H H' → Q (.bl (z.holds d)) H'
theorem ok_holds (F : Dn K d_Wish_holds_on f fd) (b : Bl mg) (T : ClW K mg C) (mS : Met P w K mg base 1 C "is_sick" (spSickOn C) []) (mM : Met P w K mg base 1 C "mask_on" (spMaskOn C) []) (cWd : Cal P w K mg base 1 "weekdays" spWd []) (g : ∃ t, mg "WEEK" = some (.int 7 t)) : FnOk P w K mg base CX0 2 f fd ["self", "day"] (spHolds C) := by
  refine F.ok sc_Wish_holds_on (fun vs H Q E h => ?_) (fun cdv A outer s H vs Q E hr h => ?_)
  · obtain ⟨a, z, d, n, rfl, _⟩ := h
    rfl
  · obtain ⟨a, z, d, n, rfl, W, wok, hn, d0, hQ⟩ := h
    have hu := hu_of hr
    obtain ⟨t, g⟩ := g
    obtain ⟨k1, k2, k3, k4, k5, k6⟩ := wi_look z.s z.f z.l a.mm a.ad a.sd
    have no : ∀ {x : Str}, ¬ x = "spans" → ¬ x = "alone" → ¬ x = "masks" → ¬ x = "last" → ¬ x = "first" → ¬ x = "seats" → (wiF z.s z.f z.l a.mm a.ad a.sd).lookup x = none := fun h1 h2 h3 h4 h5 h6 => wi_no z.s z.f z.l a.mm a.ad a.sd h1 h2 h3 h4 h5 h6
    refine ⟨_, PSs.nox (pss_cons (ps_if (PW.pt (pw_or (pt_not (pt_chain op_le op_le (pe_fld (pv 0) rfl) (pv 1) (pe_fld (pv 0) rfl))) (pw_or1 (pt_val (pe_mt mS hr (by decide) (pv 0) (pa_cons (pv 1) pa_nil)))))) (pss_one (ps_ret pe_bl)) pss_nil)
      (pss_cons (ps_if (pt_cmp (pc_din hu (pv 1) (pe_fld (pv 0) rfl))) (pss_one (ps_ret (pe_dget hu (pe_fld (pv 0) rfl) (pv 1) (fun _ _ => rfl)))) pss_nil)
      (pss_one (ps_ret (pe_cmpR op_in_seq (pe_op op_mod (pv 1) (pe_glob (v := .int 7) rfl g ⟨t, rfl⟩)) (pe_c cWd hr (by decide) rfl (pa_cons (pe_mt mM hr (by decide) (pv 0) (pa_cons (pv 1) pa_nil)) pa_nil)) rfl))))), ?_⟩
    have no' : ¬ (z.f ≤ d ∧ d ≤ z.l) → z.holds d = false := fun c => by unfold Ws.holds; rw [if_neg (fun y => c y.1)]
    refine ⟨_, rfl, a.q, C, a.dx, _, _, rfl, W.at_, T.cl, T.n2, k5, _, rfl, _, _, rfl, rfl, _, rfl, ?_⟩
    refine ite2 (fun c1 => ?_) (fun c1 => ?_)
    · have c1' : z.f ≤ d := of_decide_eq_true c1
      refine ⟨_, rfl, a.q, C, a.dx, _, _, rfl, W.at_, T.cl, T.n3, k4, _, _, rfl, rfl, _, rfl, ?_⟩
      refine ite2 (fun c2 => ?_) (fun c2 => ?_)
      · have c2' : ¬ d ≤ z.l := fun y => by rw [decide_eq_true y] at c2; cases c2
        have := hQ H (fun _ _ e => e)
        rw [no' (fun y => c2' y.2)] at this
        exact this
      have c2' : d ≤ z.l := by
        by_cases y : d ≤ z.l
        · exact y
        · rw [decide_eq_false y] at c2
          exact absurd rfl c2
      refine ⟨_, rfl, a.q, a.dx, _, rfl, W.at_, no (by decide +kernel) (by decide +kernel) (by decide +kernel) (by decide +kernel) (by decide +kernel) (by decide +kernel), _, rfl, a, z, d, rfl, W, (by have := wok.ns; omega), fun H1 s1 => ?_⟩
      have W1 := W.keep s1
      refine ⟨_, rfl, ?_⟩
      refine ite2 (fun c => ?_) (fun c => ?_)
      · have e : z.holds d = false := by unfold Ws.holds; rw [if_neg (fun y => by rw [c] at y; cases y.2)]
        rw [e] at hQ
        exact hQ H1 s1
      have e1 : z.holds d = (getI z.al d).getD (bitOn (maskAt z.ms d) d) := by unfold Ws.holds; rw [if_pos ⟨⟨c1', c2'⟩, by simpa using c⟩]
      rw [e1] at hQ
      refine ⟨_, rfl, _, rfl, a.q, C, a.dx, _, _, rfl, W1.at_, T.cl, T.n5, k2, a.ad, _, rfl, DGet.k (k := Sum.inl d) W1.ad_, _, rfl, ?_⟩
      rw [val_enc]
      cases ha : getI z.al d with
      | some bb =>
        rw [ha] at hQ
        refine iteT ?_
        refine ⟨_, rfl, a.q, C, a.dx, _, _, rfl, W1.at_, T.cl, T.n5, k2, _, rfl, a.ad, .bl bb, rfl, ?_, hQ H1 s1⟩
        have := DGet.k (k := Sum.inl d) W1.ad_
        rw [val_enc, ha] at this
        exact this
      | none =>
        rw [ha] at hQ
        refine iteF ?_
        refine ⟨_, rfl, _, _, rfl, rfl, (by decide : (0 : Int) < 7), ?_⟩
        refine ⟨_, rfl, a.q, a.dx, _, rfl, W1.at_, no (by decide +kernel) (by decide +kernel) (by decide +kernel) (by decide +kernel) (by decide +kernel) (by decide +kernel), _, rfl, a, z, d, n, rfl, W1, wok, hn, c1', fun H2 s2 => ?_⟩
        refine ⟨_, rfl, fun p H3 s3 fp hp => ?_⟩
        refine ⟨p, _, rfl, .inl (SqL.of hp), rfl, ?_, ?_⟩
        · rw [List.all_eq_true]
          intro x hx
          obtain ⟨y, _, rfl⟩ := List.mem_map.mp hx
          rfl
        · show Q (.bl (inV (.int (d % 7)) ((wd (maskAt z.ms d)).map V.int))) H3
          rw [in_wd _ d0]
          exact hQ H3 ((s1.trans s2).trans s3)
    · have c1' : ¬ z.f ≤ d := fun y => c1 (decide_eq_true y)
      have := hQ H (fun _ _ e => e)
      rw [no' (fun y => c1' y.1)] at this
      exact ⟨_, rfl, this⟩
end
end K14
set_option Elab.async false
set_option linter.all false
set_option maxRecDepth 100000
set_option maxHeartbeats 4000000
namespace K14
open PySem PySem.Spec PyProof.Rows L2
open C8 (Cal Mak Met pe_c pe_mk pe_mt pe_mt0)
open SX (S)
structure ClK (K : PySem.W.Frag) (mg : Str → Option Value) (C : Addr) : Prop where
  cl : Cls K C
  nw : NoAttr K C "wishes"
  g : mg "Wants" = some (.ref C)
def kwF (wd : Addr) : List (Str × V) := putF "wishes" (.ref wd) []
theorem kw_look (wd : Addr) : (kwF wd).lookup ("wishes" : Str) = some (.ref wd) := by
  unfold kwF
  rw [lookup_putF, if_pos rfl]
theorem kw_no (wd : Addr) {m : Str} (h : ¬ m = "wishes") : (kwF wd).lookup m = none := by
  unfold kwF
  rw [lookup_putF, if_neg h]
  rfl
/-! ### Wants, on the heap -/
abbrev En := List Nat × Wa × Ws
abbrev Dt := List Nat × Ws
def cels (zs : List En) : List Addr := zs.flatMap fun z => cel z.2.1
def kvsW (zs : List En) : List (Key × V) := zs.map fun z => ((Sum.inr (S z.1) : Key), V.ref z.2.1.q)
def dts (zs : List En) : List Dt := zs.map fun z => (z.1, z.2.2)
structure Kn (C CW : Addr) (H : Hp) (kw wd : Addr) (zs : List En) : Prop where
  at_ : ∃ dx, H kw = some (.ins C dx (kwF wd))
  wd_ : H wd = some (.dK (kvsW zs))
  each : ∀ z ∈ zs, Wi CW H z.2.1 z.2.2
  nn : (zs.map (·.1)).Nodup
  nc : (kw :: wd :: cels zs).Nodup
def Kd (C CW : Addr) (H : Hp) (kw : Addr) (ds : List Dt) (cs : List Addr) : Prop := ∃ wd zs, dts zs = ds ∧ wd :: cels zs = cs ∧ Kn C CW H kw wd zs
def upW (ds : List Dt) (l : List Nat) (g : Ws → Ws) : List Dt := ds.map fun x => if x.1 = l then (x.1, g x.2) else x
/-- what a change of some cells leaves: the others, and no cell but of those or new -/
def Fr (H H' : Hp) (cs cs' : List Addr) : Prop := (∀ b o, b ∉ cs → H b = some o → H' b = some o) ∧ ∀ b ∈ cs', b ∈ cs ∨ H b = none
theorem val_mem : ∀ {zs : List En} {l : List Nat} {a : Wa} {z : Ws}, (zs.map (·.1)).Nodup → (l, a, z) ∈ zs → valV (kvsW zs) (Sum.inr (S l)) = some (.ref a.q)
  | y :: r, l, a, z, hn, hm => by
    show valV (((Sum.inr (S y.1) : Key), V.ref y.2.1.q) :: kvsW r) (Sum.inr (S l)) = _
    obtain ⟨h1, h2⟩ := List.nodup_cons.mp hn
    rcases List.mem_cons.mp hm with rfl | hm
    · exact valV_pos rfl
    · have ne : ¬ y.1 = l := fun e => h1 (List.mem_map.mpr ⟨(l, a, z), hm, e.symm⟩)
      rw [valV_neg (fun e => ne (SX.S_inj (Sum.inr.inj e)))]
      exact val_mem h2 hm
theorem val_no : ∀ {zs : List En} {l : List Nat}, l ∉ zs.map (·.1) → valV (kvsW zs) (Sum.inr (S l)) = none
  | [], l, _ => rfl
  | y :: r, l, hm => by
    show valV (((Sum.inr (S y.1) : Key), V.ref y.2.1.q) :: kvsW r) (Sum.inr (S l)) = _
    rw [List.map_cons, List.mem_cons, not_or] at hm
    rw [valV_neg (fun e => hm.1 (SX.S_inj (Sum.inr.inj e)).symm)]
    exact val_no hm.2
theorem Kn.off {C CW kw wd : Addr} {H : Hp} {zs : List En} (h : Kn C CW H kw wd zs) {b : Addr} (hb : b ∈ kw :: wd :: cels zs) : (∃ o, H b = some o) ∧ ∀ vs, H b ≠ some (.tup vs) := by
  obtain ⟨dx, hk⟩ := h.at_
  rcases List.mem_cons.mp hb with rfl | hb
  · rw [hk]; exact ⟨⟨_, rfl⟩, fun vs z => by cases z⟩
  rcases List.mem_cons.mp hb with rfl | hb
  · rw [h.wd_]; exact ⟨⟨_, rfl⟩, fun vs z => by cases z⟩
  obtain ⟨z, hz, hb⟩ := List.mem_flatMap.mp hb
  exact (h.each z hz).off hb
theorem Kn.keepP {C CW kw wd : Addr} {H H' : Hp} {zs : List En} (h : Kn C CW H kw wd zs) (k : ∀ b ∈ kw :: wd :: cels zs, ∀ o, H b = some o → H' b = some o) (kt : ∀ b vs, H b = some (.tup vs) → H' b = some (.tup vs)) : Kn C CW H' kw wd zs := by
  obtain ⟨dx, hk⟩ := h.at_
  refine ⟨⟨dx, k _ (by simp) _ hk⟩, k _ (by simp) _ h.wd_, fun z hz => ?_, h.nn, h.nc⟩
  have hc : ∀ b ∈ cel z.2.1, ∀ o, H b = some o → H' b = some o := fun b hb o e => k b (List.mem_cons_of_mem _ (List.mem_cons_of_mem _ (List.mem_flatMap.mpr ⟨z, hz, hb⟩))) o e
  have W := h.each z hz
  obtain ⟨sps, e, hs, hx⟩ := W.sp_
  exact ⟨hc _ (by simp [cel]) _ W.at_, hc _ (by simp [cel]) _ W.mk_, hc _ (by simp [cel]) _ W.ad_, ⟨sps, e, hc _ (by simp [cel]) _ hs, fun x hm => kt _ _ (hx x hm)⟩, W.nma⟩
theorem Kd.keep {C CW kw : Addr} {H H' : Hp} {ds : List Dt} {cs : List Addr} (s : Same H H') (h : Kd C CW H kw ds cs) : Kd C CW H' kw ds cs := by
  obtain ⟨wd, zs, e1, e2, h⟩ := h
  exact ⟨wd, zs, e1, e2, h.keepP (fun b _ o e => s b o e) (fun b vs e => s b _ e)⟩
/-- one wish is changed in its place -/
theorem Kn.step {C CW kw wd : Addr} {H H' : Hp} {z1 z2 : List En} {l : List Nat} {a a' : Wa} {z z' : Ws} (h : Kn C CW H kw wd (z1 ++ (l, a, z) :: z2)) (k : ∀ b o, b ∉ cel a → H b = some o → H' b = some o) (W : Wi CW H' a' z') (hq : a'.q = a.q) (sub : ∀ b ∈ cel a', b ∈ cel a ∨ H b = none) (nd : (cel a').Nodup) :
    Kn C CW H' kw wd (z1 ++ (l, a', z') :: z2) ∧ Fr H H' (wd :: cels (z1 ++ (l, a, z) :: z2)) (wd :: cels (z1 ++ (l, a', z') :: z2)) := by
  have ec : ∀ (x : Wa) (y : Ws), cels (z1 ++ (l, x, y) :: z2) = cels z1 ++ (cel x ++ cels z2) := fun x y => by unfold cels; rw [List.flatMap_append, List.flatMap_cons]
  have Wa0 : Wi CW H a z := h.each (l, a, z) (by simp)
  have hnc := h.nc
  rw [ec] at hnc
  have e1 : kw :: wd :: (cels z1 ++ (cel a ++ cels z2)) = (kw :: wd :: cels z1) ++ (cel a ++ cels z2) := rfl
  rw [e1, List.nodup_append, List.nodup_append] at hnc
  obtain ⟨n1, ⟨n2, n3, n4⟩, n5⟩ := hnc
  have some_ : ∀ b ∈ kw :: wd :: cels (z1 ++ (l, a, z) :: z2), ∃ o, H b = some o := fun b hb => (h.off hb).1
  have offA : ∀ b ∈ (kw :: wd :: cels z1), b ∉ cel a := fun b hb hc => n5 b hb b (List.mem_append_left _ hc) rfl
  have offB : ∀ b ∈ cels z2, b ∉ cel a := fun b hb hc => n4 b hc b hb rfl
  have offA' : ∀ b ∈ (kw :: wd :: cels z1), b ∉ cel a' := fun b hb hc => by
    rcases sub b hc with y | y
    · exact offA b hb y
    · obtain ⟨o, ho⟩ := some_ b (by
        rw [ec]
        rcases List.mem_cons.mp hb with rfl | hb
        · simp
        rcases List.mem_cons.mp hb with rfl | hb
        · simp
        · simp [hb])
      rw [ho] at y
      cases y
  have offB' : ∀ b ∈ cels z2, b ∉ cel a' := fun b hb hc => by
    rcases sub b hc with y | y
    · exact offB b hb y
    · obtain ⟨o, ho⟩ := some_ b (by rw [ec]; simp [hb])
      rw [ho] at y
      cases y
  obtain ⟨dx, hk⟩ := h.at_
  refine ⟨⟨⟨dx, k _ _ (offA _ (by simp)) hk⟩, ?_, fun y hy => ?_, ?_, ?_⟩, ⟨fun b o hb e => k b o (fun hc => hb (by rw [ec]; simp [hc])) e, fun b hb => ?_⟩⟩
  · have ek : kvsW (z1 ++ (l, a', z') :: z2) = kvsW (z1 ++ (l, a, z) :: z2) := by
      unfold kvsW
      rw [List.map_append, List.map_append, List.map_cons, List.map_cons, hq]
    rw [ek]
    exact k _ _ (offA _ (by simp)) h.wd_
  · have old : ∀ x ∈ z1 ++ (l, a, z) :: z2, (∀ b ∈ cel x.2.1, b ∉ cel a) → Wi CW H' x.2.1 x.2.2 := fun x hx hd => (h.each x hx).keepP k hd fun b hb => (Wa0.off hb).2
    rcases List.mem_append.mp hy with hy | hy
    · exact old y (List.mem_append_left _ hy) fun b hb => offA b (List.mem_cons_of_mem _ (List.mem_cons_of_mem _ (List.mem_flatMap.mpr ⟨y, hy, hb⟩)))
    rcases List.mem_cons.mp hy with rfl | hy
    · exact W
    · exact old y (List.mem_append_right _ (List.mem_cons_of_mem _ hy)) fun b hb => offB b (List.mem_flatMap.mpr ⟨y, hy, hb⟩)
  · have := h.nn
    rw [List.map_append, List.map_cons] at this ⊢
    exact this
  · rw [ec]
    have e2 : kw :: wd :: (cels z1 ++ (cel a' ++ cels z2)) = (kw :: wd :: cels z1) ++ (cel a' ++ cels z2) := rfl
    rw [e2, List.nodup_append, List.nodup_append]
    refine ⟨n1, ⟨nd, n3, fun x hx y hy e => offB' y hy (e ▸ hx)⟩, fun x hx y hy e => ?_⟩
    subst e
    rcases List.mem_append.mp hy with hy | hy
    · exact offA' x hx hy
    · exact n5 x hx x (List.mem_append_right _ hy) rfl
  · rw [ec] at hb
    rcases List.mem_cons.mp hb with rfl | hb
    · exact .inl (by simp)
    rcases List.mem_append.mp hb with hb | hb
    · exact .inl (by rw [ec]; simp [hb])
    rcases List.mem_append.mp hb with hb | hb
    · rcases sub b hb with y | y
      · exact .inl (by rw [ec]; simp [y])
      · exact .inr y
    · exact .inl (by rw [ec]; simp [hb])
theorem dts_step {z1 z2 : List En} {l : List Nat} {a a' : Wa} {z : Ws} (g : Ws → Ws) (hn : ((z1 ++ (l, a, z) :: z2).map (·.1)).Nodup) : dts (z1 ++ (l, a', g z) :: z2) = upW (dts (z1 ++ (l, a, z) :: z2)) l g := by
  rw [List.map_append, List.map_cons, List.nodup_append] at hn
  obtain ⟨h1, h2, h3⟩ := hn
  have h2' := (List.nodup_cons.mp h2).1
  have e1 : ∀ (y : List En), l ∉ y.map (·.1) → upW (dts y) l g = dts y := fun y hy => by
    unfold upW dts
    rw [List.map_map]
    refine List.map_congr_left fun x hx => ?_
    show (if x.1 = l then _ else _) = _
    rw [if_neg (fun e => hy (List.mem_map.mpr ⟨x, hx, e⟩))]
  have a1 : ∀ (x : List En) (y : En) (r : List En), dts (x ++ y :: r) = dts x ++ (y.1, y.2.2) :: dts r := fun x y r => by unfold dts; rw [List.map_append, List.map_cons]
  have a2 : ∀ (x : List Dt) (y : Dt) (r : List Dt), upW (x ++ y :: r) l g = upW x l g ++ (if y.1 = l then (y.1, g y.2) else y) :: upW r l g := fun x y r => by unfold upW; rw [List.map_append, List.map_cons]
  rw [a1, a1, a2, e1 z1 (fun hm => h3 l hm l (by simp) rfl), e1 z2 h2']
  simp
theorem Kd.step {C CW kw wd : Addr} {H H' : Hp} {z1 z2 : List En} {l : List Nat} {a a' : Wa} {z : Ws} (g : Ws → Ws) (h : Kn C CW H kw wd (z1 ++ (l, a, z) :: z2)) (k : ∀ b o, b ∉ cel a → H b = some o → H' b = some o) (W : Wi CW H' a' (g z)) (hq : a'.q = a.q) (sub : ∀ b ∈ cel a', b ∈ cel a ∨ H b = none) (nd : (cel a').Nodup) :
    ∃ cs', Kd C CW H' kw (upW (dts (z1 ++ (l, a, z) :: z2)) l g) cs' ∧ Fr H H' (wd :: cels (z1 ++ (l, a, z) :: z2)) cs' := by
  obtain ⟨k1, f1⟩ := h.step k W hq sub nd
  exact ⟨_, ⟨wd, _, dts_step g h.nn, rfl, k1⟩, f1⟩
theorem Kd.find {C CW kw : Addr} {H : Hp} {ds : List Dt} {cs : List Addr} (h : Kd C CW H kw ds cs) {l : List Nat} {z : Ws} (hm : (l, z) ∈ ds) : ∃ wd z1 z2 a, ds = dts (z1 ++ (l, a, z) :: z2) ∧ cs = wd :: cels (z1 ++ (l, a, z) :: z2) ∧ Kn C CW H kw wd (z1 ++ (l, a, z) :: z2) ∧ Wi CW H a z ∧ (cel a).Nodup := by
  obtain ⟨wd, zs, rfl, rfl, h⟩ := h
  obtain ⟨y, hy, e⟩ := List.mem_map.mp hm
  obtain ⟨l', a, z'⟩ := y
  have el : l' = l := congrArg Prod.fst e
  have ez : z' = z := congrArg Prod.snd e
  rw [el, ez] at hy
  clear e el ez
  obtain ⟨z1, z2, rfl⟩ := List.append_of_mem hy
  have hn := h.nc
  have ec : cels (z1 ++ (l, a, z) :: z2) = cels z1 ++ (cel a ++ cels z2) := by unfold cels; rw [List.flatMap_append, List.flatMap_cons]
  rw [ec] at hn
  have e1 : kw :: wd :: (cels z1 ++ (cel a ++ cels z2)) = (kw :: wd :: cels z1) ++ (cel a ++ cels z2) := rfl
  rw [e1, List.nodup_append, List.nodup_append] at hn
  exact ⟨wd, z1, z2, a, rfl, rfl, h, h.each _ hy, hn.2.1.1⟩
end K14
set_option Elab.async false
set_option linter.all false
set_option maxRecDepth 100000
set_option maxHeartbeats 4000000
namespace K14
open PySem PySem.Spec PyProof.Rows L2
open C8 (Cal Mak Met pe_c pe_mk pe_mt pe_mt0)
open SX (S)
theorem putF_len (x : Str) (v : V) : ∀ fs : List (Str × V), (putF x v fs).length ≤ fs.length + 1
  | [] => by simp [putF]
  | q :: fs => by
    obtain ⟨y, z⟩ := q
    have := putF_len x v fs
    unfold putF
    split <;> simp <;> omega
theorem wi_len (s f l : Int) (mk ad sd : Addr) : (wiF s f l mk ad sd).length < 1000 := by
  unfold wiF wb
  have h1 := putF_len "seats" (.int s) []
  have h2 := putF_len "first" (.int f) (putF "seats" (.int s) [])
  have h3 := putF_len "last" (.int l) (putF "first" (.int f) (putF "seats" (.int s) []))
  have h4 := putF_len "masks" (.ref mk) (putF "last" (.int l) (putF "first" (.int f) (putF "seats" (.int s) [])))
  have h5 := putF_len "alone" (.ref ad) (putF "masks" (.ref mk) (putF "last" (.int l) (putF "first" (.int f) (putF "seats" (.int s) []))))
  have h6 := putF_len "spans" (.ref sd) (putF "alone" (.ref ad) (putF "masks" (.ref mk) (putF "last" (.int l) (putF "first" (.int f) (putF "seats" (.int s) [])))))
  simp at h1
  omega
/-- what is told, and what is done with a wish -/
def leaveW (d : Int) (y : Ws) : Ws := { y with l := d }
def weeklyW (m : Nat) (d : Int) (y : Ws) : Ws := { y with ms := putI y.ms d m }
def onlyW (d : Int) (b : Bool) (y : Ws) : Ws := { y with al := putI y.al d b }
def usualW (d : Int) (y : Ws) : Ws := { y with al := dropI y.al d }
def sickW (a t : Int) (y : Ws) : Ws := { y with sp := y.sp ++ [(a, t)] }
def wellL (sp : List (Int × Int)) (d : Int) : List (Int × Int) := (sp.filter fun x => decide (x.1 < d)).map fun x => (x.1, if d - 1 < x.2 then d - 1 else x.2)
def wellW (d : Int) (y : Ws) : Ws := { y with sp := wellL y.sp d }
section
variable {P : Program} {w : World} {K : PySem.W.Frag} {mg : Str → Option Value} {base : Heap} {f C CW CP : Addr} {fd : FuncData}
def spKI (C CW : Addr) : Sp := fun vs H Q _ => ∃ (p dx : Addr), vs = [.ref p] ∧ H p = some (.ins C dx []) ∧ ∀ H' cs', Kd C CW H' p [] cs' → (∀ b o, b ≠ p → H b = some o → H' b = some o) → (∀ b ∈ cs', H b = none) → Q .non H'
theorem ok_kinit (F : Dn K d_Wants_init f fd) (T : ClK K mg C) : FnOk P w K mg base CX0 1 f fd ["self"] (spKI C CW) := by
  refine F.ok sc_Wants_init (fun vs H Q E h => ?_) (fun cdv A outer s H vs Q E hr h => ?_)
  · obtain ⟨p, dx, rfl, _⟩ := h
    rfl
  · obtain ⟨p, dx, rfl, hp, hQ⟩ := h
    refine ⟨_, PSs.nox (pss_one (ps_fld (pv 0) pe_dnewK rfl)), ?_⟩
    intro wd hwd
    have n : p ≠ wd := ne_of_none hp hwd
    refine ⟨_, rfl, p, C, dx, _, rfl, (by rw [upd_ne n]; exact hp), T.cl, T.nw, by show 0 < 1000; decide, ?_⟩
    refine hQ _ [wd] ⟨wd, [], rfl, rfl, ⟨⟨dx, upd_same⟩, ?_, (fun z hz => by cases hz), List.nodup_nil, ?_⟩⟩ (fun b o nb e => ?_) (fun b hb => ?_)
    · rw [upd_ne n.symm, upd_same]
      rfl
    · show [p, wd].Nodup
      simp [n]
    · rw [upd_ne nb, upd_ne (ne_of_none e hwd)]
      exact e
    · rw [List.mem_singleton.mp hb]
      exact hwd
def spWishOf (C CW : Addr) : Sp := fun vs H Q _ => ∃ (kw wd : Addr) (zs : List En) (l : List Nat) (a : Wa) (z : Ws), vs = [.ref kw, .str (S l)] ∧ Kn C CW H kw wd zs ∧ (l, a, z) ∈ zs ∧ Q (.ref a.q) H
theorem ok_wishOf (F : Dn K d_Wants_wish_of f fd) (b : Bl mg) (T : ClK K mg C) : FnOk P w K mg base CX0 1 f fd ["self", "name"] (spWishOf C CW) := by
  refine F.ok sc_Wants_wish_of (fun vs H Q E h => ?_) (fun cdv A outer s H vs Q E hr h => ?_)
  · obtain ⟨kw, wd, zs, l, a, z, rfl, _⟩ := h
    rfl
  · obtain ⟨kw, wd, zs, l, a, z, rfl, hk, hm, hQ⟩ := h
    obtain ⟨dx, hkw⟩ := hk.at_
    have hv := val_mem hk.nn hm
    have hu := hu_of hr
    refine ⟨_, PSs.nox (pss_cons (ps_if (PW.pt (pw_or (pt_not (pt_val (pe_callB call_isi rfl b.isi boot_isinstance (pa_cons (pv 1) (pa_cons (pe_bltn (v := .ty "str") rfl b.str boot_str rfl) pa_nil))))) (pw_or1 (pt_cmp (pc_dnotin hu (pv 1) (pe_fld (pv 0) rfl)))))) pss_never pss_nil)
      (pss_one (ps_ret (pe_dget hu (pe_fld (pv 0) rfl) (pv 1) (fun _ _ => rfl))))), ?_⟩
    refine ⟨_, rfl, _, _, _, _, true, rfl, ClsV.ty _, TyX.base (TyOf.str _), kit_ty (by decide +kernel), true, rfl, iteF ?_⟩
    refine ⟨_, rfl, _, rfl, kw, C, dx, _, _, rfl, hkw, T.cl, T.nw, kw_look wd, wd, _, rfl, DGet.k (k := Sum.inr (S l)) hk.wd_, _, rfl, ?_⟩
    rw [hv]
    refine iteF ?_
    refine ⟨_, rfl, kw, C, dx, _, _, rfl, hkw, T.cl, T.nw, kw_look wd, _, rfl, wd, .ref a.q, rfl, ?_, hQ⟩
    have := DGet.k (k := Sum.inr (S l)) hk.wd_
    rw [hv] at this
    exact this
abbrev MetW (P : Program) (w : World) (K : PySem.W.Frag) (mg : Str → Option Value) (base : Heap) (C CW : Addr) : Prop := Met P w K mg base 1 C "wish_of" (spWishOf C CW) []
abbrev CalC (P : Program) (w : World) (K : PySem.W.Frag) (mg : Str → Option Value) (base : Heap) : Prop := Cal P w K mg base 4 "check_day" spCheck []
def spWants (C CW : Addr) : Sp := fun vs H Q _ => ∃ (kw : Addr) (ds : List Dt) (cs : List Addr) (l : List Nat) (z : Ws) (d : Int) (n : Nat), vs = [.ref kw, .str (S l), .int d] ∧ Kd C CW H kw ds cs ∧ (l, z) ∈ ds ∧ Wok n z ∧ n ≤ 1000 ∧ 0 ≤ d ∧ d ≤ 1000000 ∧ ∀ H', Same H H' → Q (.bl (z.holds d)) H'
theorem ok_wants (F : Dn K d_Wants_wants f fd) (mW : MetW P w K mg base C CW) (cC : CalC P w K mg base) (mH : Met P w K mg base 2 CW "holds_on" (spHolds CW) []) : FnOk P w K mg base CX0 5 f fd ["self", "name", "day"] (spWants C CW) := by
  refine F.ok sc_Wants_wants (fun vs H Q E h => ?_) (fun cdv A outer s H vs Q E hr h => ?_)
  · obtain ⟨kw, ds, cs, l, z, d, n, rfl, _⟩ := h
    rfl
  · obtain ⟨kw, ds, cs, l, z, d, n, rfl, hk, hm, wok, hn, d0, d1, hQ⟩ := h
    obtain ⟨wd, z1, z2, a, rfl, rfl, hk, W, hnd⟩ := hk.find hm
    obtain ⟨dk, hkw⟩ := hk.at_
    refine ⟨_, PSs.nox (pss_cons (ps_set (i := 3) sc_Wants_wants.nd rfl (.inl rfl) (pe_mt mW hr (by decide) (pv 0) (pa_cons (pv 1) pa_nil))) (pss_cons (ps_expr (pe_c cC hr (by decide) rfl (pa_cons (pv 2) pa_nil))) (pss_one (ps_ret (pe_mt mH hr (by decide) (pv 3) (pa_cons (pv 2) pa_nil)))))), ?_⟩
    refine ⟨_, rfl, kw, dk, _, rfl, hkw, kw_no wd (by decide +kernel), _, rfl, kw, wd, _, l, a, z, rfl, hk, by simp, ?_⟩
    refine ⟨_, rfl, d, rfl, d0, d1, ?_⟩
    exact ⟨_, rfl, a.q, a.dx, _, rfl, W.at_, wi_no z.s z.f z.l a.mm a.ad a.sd (by decide +kernel) (by decide +kernel) (by decide +kernel) (by decide +kernel) (by decide +kernel) (by decide +kernel), _, rfl, a, z, d, n, rfl, W, wok, hn, d0, hQ⟩
/-- the cells of a wish are apart -/
theorem cel_ne {a : Wa} (h : (cel a).Nodup) : a.q ≠ a.mm ∧ a.q ≠ a.ad ∧ a.q ≠ a.sd ∧ a.mm ≠ a.ad ∧ a.mm ≠ a.sd ∧ a.ad ≠ a.sd := by
  unfold cel at h
  simp at h
  obtain ⟨⟨h1, h2, h3⟩, ⟨h4, h5⟩, h6⟩ := h
  exact ⟨h1, h2, h3, h4, h5, h6⟩
/-- one cell of a wish is written anew -/
theorem Wi.wrote {H : Hp} {a : Wa} {z : Ws} {b : Addr} {o : HO} (h : Wi CW H a z) (hb : b ∈ cel a) : (∀ c u, c ∉ cel a → H c = some u → (upd H b o) c = some u) ∧ ∀ sps : List Spa, (∀ x ∈ sps, H x.1 = some (.tup [.int x.2.1, .int x.2.2])) → ∀ x ∈ sps, (upd H b o) x.1 = some (.tup [.int x.2.1, .int x.2.2]) := by
  refine ⟨fun c u hc e => ?_, fun sps hs x hx => ?_⟩
  · rw [upd_ne (fun e2 => hc (by rw [e2]; exact hb))]
    exact e
  · rw [upd_ne (fun e2 => (h.off hb).2 _ (by rw [← e2]; exact hs x hx))]
    exact hs x hx
def spLeave (C CW : Addr) : Sp := fun vs H Q _ => ∃ (kw : Addr) (ds : List Dt) (cs : List Addr) (l : List Nat) (z : Ws) (d : Int), vs = [.ref kw, .str (S l), .int d] ∧ Kd C CW H kw ds cs ∧ (l, z) ∈ ds ∧ 0 ≤ d ∧ d ≤ 1000000 ∧
  ∀ H' cs', Kd C CW H' kw (upW ds l (leaveW d)) cs' → Fr H H' cs cs' → Q .non H'
theorem ok_leave (F : Dn K d_Wants_leave f fd) (mW : MetW P w K mg base C CW) (cC : CalC P w K mg base) (TW : ClW K mg CW) : FnOk P w K mg base CX0 5 f fd ["self", "name", "day"] (spLeave C CW) := by
  refine F.ok sc_Wants_leave (fun vs H Q E h => ?_) (fun cdv A outer s H vs Q E hr h => ?_)
  · obtain ⟨kw, ds, cs, l, z, d, rfl, _⟩ := h
    rfl
  · obtain ⟨kw, ds, cs, l, z, d, rfl, hk, hm, d0, d1, hQ⟩ := h
    obtain ⟨wd, z1, z2, a, rfl, rfl, hk, W, hnd⟩ := hk.find hm
    obtain ⟨dk, hkw⟩ := hk.at_
    refine ⟨_, PSs.nox (pss_cons (ps_set (i := 3) sc_Wants_leave.nd rfl (.inl rfl) (pe_mt mW hr (by decide) (pv 0) (pa_cons (pv 1) pa_nil))) (pss_cons (ps_expr (pe_c cC hr (by decide) rfl (pa_cons (pv 2) pa_nil))) (pss_one (ps_fld (pv 3) (pv 2) rfl)))), ?_⟩
    refine ⟨_, rfl, kw, dk, _, rfl, hkw, kw_no wd (by decide +kernel), _, rfl, kw, wd, _, l, a, z, rfl, hk, by simp, ?_⟩
    refine ⟨_, rfl, d, rfl, d0, d1, ?_⟩
    refine ⟨_, rfl, _, rfl, a.q, CW, a.dx, _, rfl, W.at_, TW.cl, TW.n3, wi_len _ _ _ _ _ _, ?_⟩
    rw [wi_last]
    obtain ⟨n1, n2, n3, n4, n5, n6⟩ := cel_ne hnd
    obtain ⟨sps, es, hs, hx⟩ := W.sp_
    obtain ⟨t1, t2⟩ := W.wrote (b := a.q) (o := .ins CW a.dx (wiF z.s z.f d a.mm a.ad a.sd)) (by simp [cel])
    obtain ⟨cs', k1, k2⟩ := Kd.step (leaveW d) hk t1 (a' := a) ⟨upd_same, by rw [upd_ne n1.symm]; exact W.mk_, by rw [upd_ne n2.symm]; exact W.ad_, ⟨sps, es, by rw [upd_ne n3.symm]; exact hs, t2 sps hx⟩, W.nma⟩ rfl (fun b hb => .inl hb) hnd
    exact hQ _ cs' k1 k2
def spWeekly (C CW : Addr) : Sp := fun vs H Q _ => ∃ (kw : Addr) (ds : List Dt) (cs : List Addr) (l : List Nat) (z : Ws) (m : Nat) (d : Int), vs = [.ref kw, .str (S l), .int m, .int d] ∧ Kd C CW H kw ds cs ∧ (l, z) ∈ ds ∧ z.ms.length ≤ 1000 ∧ m ≤ 127 ∧ 0 ≤ d ∧ d ≤ 1000000 ∧
  ∀ H' cs', Kd C CW H' kw (upW ds l (weeklyW m d)) cs' → Fr H H' cs cs' → Q .non H'
theorem ok_weekly (F : Dn K d_Wants_weekly f fd) (mW : MetW P w K mg base C CW) (cC : CalC P w K mg base) (cM : Cal P w K mg base 3 "is_mask" spMask []) (TW : ClW K mg CW) : FnOk P w K mg base CX0 5 f fd ["self", "name", "mask", "day"] (spWeekly C CW) := by
  refine F.ok sc_Wants_weekly (fun vs H Q E h => ?_) (fun cdv A outer s H vs Q E hr h => ?_)
  · obtain ⟨kw, ds, cs, l, z, m, d, rfl, _⟩ := h
    rfl
  · obtain ⟨kw, ds, cs, l, z, m, d, rfl, hk, hm, hlen, m1, d0, d1, hQ⟩ := h
    obtain ⟨wd, z1, z2, a, rfl, rfl, hk, W, hnd⟩ := hk.find hm
    obtain ⟨dk, hkw⟩ := hk.at_
    have hu := hu_of hr
    refine ⟨_, PSs.nox (pss_cons (ps_set (i := 4) sc_Wants_weekly.nd rfl (.inl rfl) (pe_mt mW hr (by decide) (pv 0) (pa_cons (pv 1) pa_nil))) (pss_cons (ps_expr (pe_c cC hr (by decide) rfl (pa_cons (pv 3) pa_nil)))
      (pss_cons (ps_if (pt_not (pt_val (pe_c cM hr (by decide) rfl (pa_cons (pv 2) pa_nil)))) pss_never pss_nil) (pss_one (ps_dput hu (pe_fld (pv 4) rfl) (pv 3) (pv 2) rfl))))), ?_⟩
    refine ⟨_, rfl, kw, dk, _, rfl, hkw, kw_no wd (by decide +kernel), _, rfl, kw, wd, _, l, a, z, rfl, hk, by simp, ?_⟩
    refine ⟨_, rfl, d, rfl, d0, d1, ?_⟩
    refine ⟨_, rfl, m, rfl, _, rfl, ?_⟩
    rw [decide_eq_true (show 0 ≤ (m : Int) ∧ (m : Int) ≤ 127 by omega)]
    refine iteF ?_
    refine ⟨_, rfl, _, rfl, a.q, CW, a.dx, _, _, rfl, W.at_, TW.cl, TW.n4, (wi_look z.s z.f z.l a.mm a.ad a.sd).2.2.1, _, rfl, a.mm, _, rfl, DPut.k (k := Sum.inl d) W.mk_ (by unfold enc; rw [List.length_map]; exact line_lt (by omega)), ?_⟩
    rw [put_enc (fun m : Nat => V.int m) z.ms d m]
    obtain ⟨n1, n2, n3, n4, n5, n6⟩ := cel_ne hnd
    obtain ⟨sps, es, hs, hx⟩ := W.sp_
    obtain ⟨t1, t2⟩ := W.wrote (b := a.mm) (o := .dK (enc (fun m : Nat => V.int m) (putI z.ms d m))) (by simp [cel])
    obtain ⟨cs', k1, k2⟩ := Kd.step (weeklyW m d) hk t1 (a' := a) ⟨by rw [upd_ne n1]; exact W.at_, upd_same, by rw [upd_ne n4.symm]; exact W.ad_, ⟨sps, es, by rw [upd_ne n5.symm]; exact hs, t2 sps hx⟩, W.nma⟩ rfl (fun b hb => .inl hb) hnd
    exact hQ _ cs' k1 k2
def spOnly (C CW : Addr) : Sp := fun vs H Q _ => ∃ (kw : Addr) (ds : List Dt) (cs : List Addr) (l : List Nat) (z : Ws) (d : Int) (bb : Bool), vs = [.ref kw, .str (S l), .int d, .bl bb] ∧ Kd C CW H kw ds cs ∧ (l, z) ∈ ds ∧ z.al.length ≤ 1000 ∧ 0 ≤ d ∧ d ≤ 1000000 ∧
  ∀ H' cs', Kd C CW H' kw (upW ds l (onlyW d bb)) cs' → Fr H H' cs cs' → Q .non H'
theorem ok_only (F : Dn K d_Wants_only f fd) (b : Bl mg) (mW : MetW P w K mg base C CW) (cC : CalC P w K mg base) (TW : ClW K mg CW) : FnOk P w K mg base CX0 5 f fd ["self", "name", "day", "want"] (spOnly C CW) := by
  refine F.ok sc_Wants_only (fun vs H Q E h => ?_) (fun cdv A outer s H vs Q E hr h => ?_)
  · obtain ⟨kw, ds, cs, l, z, d, bb, rfl, _⟩ := h
    rfl
  · obtain ⟨kw, ds, cs, l, z, d, bb, rfl, hk, hm, hlen, d0, d1, hQ⟩ := h
    obtain ⟨wd, z1, z2, a, rfl, rfl, hk, W, hnd⟩ := hk.find hm
    obtain ⟨dk, hkw⟩ := hk.at_
    have hu := hu_of hr
    refine ⟨_, PSs.nox (pss_cons (ps_set (i := 4) sc_Wants_only.nd rfl (.inl rfl) (pe_mt mW hr (by decide) (pv 0) (pa_cons (pv 1) pa_nil))) (pss_cons (ps_expr (pe_c cC hr (by decide) rfl (pa_cons (pv 2) pa_nil)))
      (pss_one (ps_dput hu (pe_fld (pv 4) rfl) (pv 2) (pe_callTy call_bool1 rfl b.bool boot_bool (pa_cons (pv 3) pa_nil)) rfl)))), ?_⟩
    refine ⟨_, rfl, kw, dk, _, rfl, hkw, kw_no wd (by decide +kernel), _, rfl, kw, wd, _, l, a, z, rfl, hk, by simp, ?_⟩
    refine ⟨_, rfl, d, rfl, d0, d1, ?_⟩
    refine ⟨_, rfl, .inr ⟨bb, rfl, _, rfl, a.q, CW, a.dx, _, _, rfl, W.at_, TW.cl, TW.n5, (wi_look z.s z.f z.l a.mm a.ad a.sd).2.1, _, rfl, a.ad, _, rfl, DPut.k (k := Sum.inl d) W.ad_ (by unfold enc; rw [List.length_map]; exact line_lt (by omega)), ?_⟩⟩
    rw [put_enc V.bl z.al d bb]
    obtain ⟨n1, n2, n3, n4, n5, n6⟩ := cel_ne hnd
    obtain ⟨sps, es, hs, hx⟩ := W.sp_
    obtain ⟨t1, t2⟩ := W.wrote (b := a.ad) (o := .dK (enc V.bl (putI z.al d bb))) (by simp [cel])
    obtain ⟨cs', k1, k2⟩ := Kd.step (onlyW d bb) hk t1 (a' := a) ⟨by rw [upd_ne n2]; exact W.at_, by rw [upd_ne n4]; exact W.mk_, upd_same, ⟨sps, es, by rw [upd_ne n6.symm]; exact hs, t2 sps hx⟩, W.nma⟩ rfl (fun b hb => .inl hb) hnd
    exact hQ _ cs' k1 k2
def spUsual (C CW : Addr) : Sp := fun vs H Q _ => ∃ (kw : Addr) (ds : List Dt) (cs : List Addr) (l : List Nat) (z : Ws) (d : Int), vs = [.ref kw, .str (S l), .int d] ∧ Kd C CW H kw ds cs ∧ (l, z) ∈ ds ∧ z.al.length ≤ 1000 ∧ (getI z.al d).isSome = true ∧ 0 ≤ d ∧ d ≤ 1000000 ∧
  ∀ H' cs', Kd C CW H' kw (upW ds l (usualW d)) cs' → Fr H H' cs cs' → Q .non H'
theorem ok_usual (F : Dn K d_Wants_usual f fd) (mW : MetW P w K mg base C CW) (cC : CalC P w K mg base) (TW : ClW K mg CW) : FnOk P w K mg base CX0 5 f fd ["self", "name", "day"] (spUsual C CW) := by
  refine F.ok sc_Wants_usual (fun vs H Q E h => ?_) (fun cdv A outer s H vs Q E hr h => ?_)
  · obtain ⟨kw, ds, cs, l, z, d, rfl, _⟩ := h
    rfl
  · obtain ⟨kw, ds, cs, l, z, d, rfl, hk, hm, hlen, hin, d0, d1, hQ⟩ := h
    obtain ⟨wd, z1, z2, a, rfl, rfl, hk, W, hnd⟩ := hk.find hm
    obtain ⟨dk, hkw⟩ := hk.at_
    have hu := hu_of hr
    refine ⟨_, PSs.nox (pss_cons (ps_set (i := 3) sc_Wants_usual.nd rfl (.inl rfl) (pe_mt mW hr (by decide) (pv 0) (pa_cons (pv 1) pa_nil))) (pss_cons (ps_expr (pe_c cC hr (by decide) rfl (pa_cons (pv 2) pa_nil)))
      (pss_cons (ps_if (pt_cmp (pc_dnotin hu (pv 2) (pe_fld (pv 3) rfl))) pss_never pss_nil) (pss_one (ps_ddel (pe_fld (pv 3) rfl) (pv 2)))))), ?_⟩
    refine ⟨_, rfl, kw, dk, _, rfl, hkw, kw_no wd (by decide +kernel), _, rfl, kw, wd, _, l, a, z, rfl, hk, by simp, ?_⟩
    refine ⟨_, rfl, d, rfl, d0, d1, ?_⟩
    have look := (wi_look z.s z.f z.l a.mm a.ad a.sd).2.1
    refine ⟨_, rfl, _, rfl, a.q, CW, a.dx, _, _, rfl, W.at_, TW.cl, TW.n5, look, a.ad, _, rfl, DGet.k (k := Sum.inl d) W.ad_, _, rfl, ?_⟩
    rw [val_enc, Option.isSome_map, hin]
    refine iteF ?_
    refine ⟨_, rfl, a.q, CW, a.dx, _, _, rfl, W.at_, TW.cl, TW.n5, look, _, rfl, a.ad, _, Sum.inl d, rfl, W.ad_, rfl, ?_, ?_⟩
    · rw [val_enc, Option.isSome_map, hin]
    rw [drop_enc V.bl z.al d]
    obtain ⟨n1, n2, n3, n4, n5, n6⟩ := cel_ne hnd
    obtain ⟨sps, es, hs, hx⟩ := W.sp_
    obtain ⟨t1, t2⟩ := W.wrote (b := a.ad) (o := .dK (enc V.bl (dropI z.al d))) (by simp [cel])
    obtain ⟨cs', k1, k2⟩ := Kd.step (usualW d) hk t1 (a' := a) ⟨by rw [upd_ne n2]; exact W.at_, by rw [upd_ne n4]; exact W.mk_, upd_same, ⟨sps, es, by rw [upd_ne n6.symm]; exact hs, t2 sps hx⟩, W.nma⟩ rfl (fun b hb => .inl hb) hnd
    exact hQ _ cs' k1 k2
def spSpanC : Sp := fun vs H Q _ => ∃ a z : Int, vs = [.int a, .int z] ∧ 0 ≤ a ∧ a ≤ z ∧ z ≤ 1000000 ∧ Q .non H
theorem ok_spanC (F : Dn K d_check_span f fd) (cC : CalC P w K mg base) : FnOk P w K mg base CX0 5 f fd ["first", "last"] spSpanC := by
  refine F.ok sc_check_span (fun vs H Q E h => ?_) (fun cdv A outer s H vs Q E hr h => ?_)
  · obtain ⟨a, z, rfl, _⟩ := h
    rfl
  · obtain ⟨a, z, rfl, a0, az, z1, hQ⟩ := h
    refine ⟨_, PSs.nox (pss_cons (ps_expr (pe_c cC hr (by decide) rfl (pa_cons (pv 0) pa_nil))) (pss_cons (ps_expr (pe_c cC hr (by decide) rfl (pa_cons (pv 1) pa_nil)))
      (pss_one (ps_if (pt_cmpR op_lt (pv 1) (pv 0) (nomark _)) pss_never pss_nil)))), ?_⟩
    refine ⟨_, rfl, a, rfl, a0, by omega, ?_⟩
    refine ⟨_, rfl, z, rfl, by omega, z1, ?_⟩
    refine ⟨_, rfl, _, rfl, _, _, rfl, rfl, _, rfl, ?_⟩
    exact ite2 (fun c => absurd (of_decide_eq_true c) (by omega)) (fun _ => hQ)
def spSick (C CW : Addr) : Sp := fun vs H Q _ => ∃ (kw : Addr) (ds : List Dt) (cs : List Addr) (l : List Nat) (z : Ws) (d t : Int), vs = [.ref kw, .str (S l), .int d, .int t] ∧ Kd C CW H kw ds cs ∧ (l, z) ∈ ds ∧ z.sp.length ≤ 1000 ∧ 0 ≤ d ∧ d ≤ t ∧ t ≤ 1000000 ∧
  ∀ H' cs', Kd C CW H' kw (upW ds l (sickW d t)) cs' → Fr H H' cs cs' → Q .non H'
theorem ok_sick (F : Dn K d_Wants_sick f fd) (mW : MetW P w K mg base C CW) (cC : Cal P w K mg base 5 "check_span" spSpanC []) (TW : ClW K mg CW) : FnOk P w K mg base CX0 6 f fd ["self", "name", "first", "last"] (spSick C CW) := by
  refine F.ok sc_Wants_sick (fun vs H Q E h => ?_) (fun cdv A outer s H vs Q E hr h => ?_)
  · obtain ⟨kw, ds, cs, l, z, d, t, rfl, _⟩ := h
    rfl
  · obtain ⟨kw, ds, cs, l, z, d, t, rfl, hk, hm, hlen, d0, dt, t1, hQ⟩ := h
    obtain ⟨wd, z1, z2, a, rfl, rfl, hk, W, hnd⟩ := hk.find hm
    obtain ⟨dk, hkw⟩ := hk.at_
    refine ⟨_, PSs.nox (pss_cons (ps_set (i := 4) sc_Wants_sick.nd rfl (.inl rfl) (pe_mt mW hr (by decide) (pv 0) (pa_cons (pv 1) pa_nil))) (pss_cons (ps_expr (pe_c cC hr (by decide) rfl (pa_cons (pv 2) (pa_cons (pv 3) pa_nil))))
      (pss_one (ps_expr (pe_bm PySem.F.plainAttrs_list PySem.F.slot_list_append PySem.F.type_list_append mt_append (pe_fld (pv 4) rfl) (pa_cons (pe_tup (pa_cons (pv 2) (pa_cons (pv 3) pa_nil))) pa_nil)))))), ?_⟩
    refine ⟨_, rfl, kw, dk, _, rfl, hkw, kw_no wd (by decide +kernel), _, rfl, kw, wd, _, l, a, z, rfl, hk, by simp, ?_⟩
    refine ⟨_, rfl, _, rfl, d, t, rfl, d0, dt, t1, ?_⟩
    obtain ⟨sps, es, hs, hx⟩ := W.sp_
    have hlen' : sps.length ≤ 1000 := by rw [← es, List.length_map] at hlen; exact hlen
    refine ⟨_, rfl, a.q, CW, a.dx, _, _, rfl, W.at_, TW.cl, TW.n6, (wi_look z.s z.f z.l a.mm a.ad a.sd).1, Or.inl ⟨rfl, _, SqL.of hs⟩, _, rfl, _, rfl, by show 2 ≤ sizeLine; decide, fun u fu => ?_⟩
    refine ⟨a.sd, _, _, rfl, rfl, same_new fu _ _ hs, ?_, ?_⟩
    · rw [List.length_map]
      exact line_lt (by omega)
    obtain ⟨n1, n2, n3, n4, n5, n6⟩ := cel_ne hnd
    have su := same_new (o := .tup [.int d, .int t]) fu
    have nu : ∀ b ∈ cel a, b ≠ u := fun b hb e => by
      obtain ⟨o, ho⟩ := (W.off hb).1
      rw [e, fu] at ho
      cases ho
    have e1 : (sps.map fun x => V.ref x.1) ++ [V.ref u] = (sps ++ [((u, d, t) : Spa)]).map fun x => V.ref x.1 := by rw [List.map_append]; rfl
    rw [e1]
    have ns : ∀ x ∈ sps, x.1 ≠ a.sd := fun x hm e => by
      have := hx x hm
      rw [e, hs] at this
      cases this
    obtain ⟨cs', k1, k2⟩ := Kd.step (sickW d t) hk (H' := upd (upd H u (.tup [.int d, .int t])) a.sd (.lst ((sps ++ [((u, d, t) : Spa)]).map fun x => V.ref x.1))) (a' := a) (fun b o hb e => by
      rw [upd_ne (fun e2 => hb (by rw [e2]; simp [cel]))]
      exact su _ _ e)
      ⟨by rw [upd_ne n3]; exact su _ _ W.at_, by rw [upd_ne n5]; exact su _ _ W.mk_, by rw [upd_ne n6]; exact su _ _ W.ad_, ⟨sps ++ [((u, d, t) : Spa)], by rw [List.map_append, es]; rfl, upd_same, fun x hm => by
        rcases List.mem_append.mp hm with hm | hm
        · rw [upd_ne (ns x hm)]
          exact su _ _ (hx x hm)
        · cases List.mem_singleton.mp hm
          rw [upd_ne (nu a.sd (by simp [cel])).symm]
          exact upd_same⟩, W.nma⟩ rfl (fun b hb => .inl hb) hnd
    exact hQ _ cs' k1 k2
end
end K14
set_option Elab.async false
set_option linter.all false
set_option maxRecDepth 100000
set_option maxHeartbeats 4000000
/-! {k: v for .. in ..} over any walk: one invariant. -/
namespace DCI
open PySem PySem.Spec PyProof.Rows L2
theorem dc_it {J : It} {n : Nat} {G : Hp → Prop} {Y : Nat → Hp → V → Hp → Prop} (w : Walk J n G Y) {g : TG} {tt : TT} {tk tv : TE} {vs : List Nat} {σ : L2.St} {H1 : Hp} {D : Addr} {Qd : Hp → Prop} (Pv : Nat → Hp → Prop) (h0 : Pv 0 (upd H1 D (.dK []))) (hG : ∀ i H, i ≤ n → Pv i H → G H)
    (hs : ∀ i x H H', i < n → Pv i H → Y i H x H' → g x (wipe σ vs) H' fun σ2 H2 => wipe σ2 vs = wipe σ vs ∧ tt σ2 H2 fun b H3 =>
      if b = true then tk σ2 H3 fun y H4 => tv σ2 H4 fun z H5 => ∃ kvs k, y = kV k ∧ H5 D = some (.dK kvs) ∧ kvs.length < sizeLine ∧ Pv (i + 1) (upd H5 D (.dK (putK kvs k z))) else Pv (i + 1) H3) (hd : ∀ H, Pv n H → Qd H) :
    ∃ W : Nat → Nat → Hp → Prop, (∃ m, W 0 m (upd H1 D (.dK []))) ∧ ∀ i m H, W i m H →
      (J.stop i H ∧ Qd H) ∨ (J.go i H ∧ ∃ Nx : Hp → Prop, (∀ H', Nx H' → ∃ m', m' < m ∧ W (i + 1) m' H') ∧ ∀ x H', J.yld i H x H' → g x (wipe σ vs) H' fun σ2 H2 => wipe σ2 vs = wipe σ vs ∧ tt σ2 H2 fun b H3 =>
        if b = true then tk σ2 H3 fun y H4 => tv σ2 H4 fun z H5 => ∃ kvs k, y = kV k ∧ H5 D = some (.dK kvs) ∧ kvs.length < sizeLine ∧ Nx (upd H5 D (.dK (putK kvs k z))) else Nx H3) := by
  refine ⟨fun i m H => m = n - i ∧ i ≤ n ∧ Pv i H, ⟨n, rfl, Nat.zero_le _, h0⟩, ?_⟩
  rintro i m H ⟨rfl, hi, p⟩
  by_cases hlt : i < n
  · exact .inr ⟨w.goes i H hlt (hG i H hi p), Pv (i + 1), fun H' p' => ⟨n - (i + 1), by omega, rfl, hlt, p'⟩, fun x H' y => hs i x H H' hlt p (w.yields i H x H' hlt (hG i H hi p) y)⟩
  · have e : i = n := by omega
    subst e
    exact .inl ⟨w.stops H (hG i H hi p), hd H p⟩
end DCI
set_option Elab.async false
set_option linter.all false
set_option maxRecDepth 100000
set_option maxHeartbeats 4000000
/-! sorted(xs), xs a list of data at any depth -/
namespace SRT
open PySem PySem.Spec PyProof.Rows L2
/-- p stands not behind q -/
def leD (p q : V × PyData) : Bool := !PySem.W.dataLt q.2 p.2
/-- the sorted list -/
def srt (xs : List V) (ds : List PyData) : List V := ((xs.zip ds).mergeSort leD).map Prod.fst
theorem len_of {K : PySem.W.Frag} {H : Hp} : ∀ {xs : List V} {ds : List PyData}, DpAll K H xs ds → xs.length = ds.length
  | _, _, .nil => rfl
  | _, _, .cons _ t => congrArg (· + 1) (len_of t)
theorem srt_perm {xs : List V} {ds : List PyData} (h : xs.length = ds.length) : (srt xs ds).Perm xs := by
  unfold srt
  refine ((List.mergeSort_perm _ _).map Prod.fst).trans ?_
  rw [List.map_fst_zip (by omega)]
theorem vals_each : ∀ {xs : List V} {us : List Value} {ds : List PyData}, Vals xs us → xs.length = ds.length → PySem.W.EachIs (fun v (b : V × PyData) => RelV b.1 v) us (xs.zip ds)
  | [], _, [], .nil, _ => .nil
  | x :: xs, _, d :: ds, .cons r rs, h => .cons r (vals_each rs (by simpa using h))
theorem each_vals : ∀ {us : List Value} {bs : List (V × PyData)}, PySem.W.EachIs (fun v (b : V × PyData) => RelV b.1 v) us bs → Vals (bs.map Prod.fst) us
  | _, _, .nil => .nil
  | _, _, .cons r rs => .cons r (each_vals rs)
def rSortedD (K : PySem.W.Frag) : List V → Hp → VK → Prop := fun vs H Q => ∃ (a : Addr) (xs : List V) (ds : List PyData), vs = [V.ref a] ∧ (SqL K H a xs ∨ SqT K H a xs) ∧ DpAll K H xs ds ∧ PySem.W.AllAlike ds ∧ PySem.W.Sortable ds ∧ (∀ d ∈ ds, d.depth ≤ 60) ∧
  ∀ p : Addr, H p = none → Q (.ref p) (upd H p (.lst (srt xs ds)))
/-! sorted of a tuple -/
section
variable {prog : Program} {w : World} {A : Around} {E : Value → Shared → Prop} {s : Shared} {κ : KeyKind}
theorem gather_tup {b : Addr} {us : List Value} {R : List Value → Shared → Prop} (ht : s.heap.IsTuple b us.toArray) (hz : us.length ≤ sizeLine)
    (h : R us { s with heap := (s.heap.push (seqObj "list" #[] 0)).update s.heap.objs.size (Obj.mapSeq (· ++ us.toArray)) }) : wpAny (model prog w) A (collect (.ref b)) R E s := by
  obtain ⟨ob, e1, e2, k, e3⟩ := id ht
  have e4 : (s.heap.push (seqObj "list" #[] 0)).get? b = some ob := Heap.get?_push_of_some _ e1
  have em : (s.heap.push (seqObj "list" #[] 0)).get? s.heap.objs.size = some (seqObj "list" #[] 0) := Heap.get?_push_size _ rfl
  unfold collect
  refine wpAny_bind (wpAny_runValue (codeAny_builtin entry_proto_collect' ?_))
  show wpAny _ _ (do again (.builtin "list.__iadd__" ⟨[← newList [], .ref b], []⟩)) _ _ s
  refine wpAny_bind (wpAny_newList (wpAny_pure ⟨Code.quiet_builtin _ (by decide +kernel), codeAny_builtin entry_list_iadd' ?_⟩))
  show wpAny _ _ (Builtin.List.listExtendWith (.ref s.heap.objs.size) (.ref b) (.ref s.heap.objs.size)) _ _ { s with heap := s.heap.push (seqObj "list" #[] 0) }
  unfold Builtin.List.listExtendWith
  refine wpAny_bind (wpAny_typeOf (T := "tuple") ⟨ob, e4, e2⟩ ?_)
  have et : (Value.type "tuple" == Value.type "tuple") = true := by rfl
  rw [if_pos (by rw [et]; simp)]
  refine wpAny_bind (listItems_at e4 e3 (wpAny_bind (listItems_at em rfl ?_)))
  rw [if_neg (by simp)]
  refine wpAny_bind (listUpdate_at em rfl ?_ (Nat.zero_le _) (by simp only [Array.size_append, List.size_toArray, List.length_nil]; omega))
  refine wpAny_pure ?_
  show wpAny (model prog w) A (load s.heap.objs.size >>= fun o => match o.data with | .seq xs _ => pure xs.toList | _ => unsupported "internal:collect") R E _
  refine wpAny_bind (wpAny_load (get?_update_seq em _) ?_)
  show wpAny _ _ (pure ((#[] : Array Value) ++ us.toArray).toList) R E _
  have e5 : ((#[] : Array Value) ++ us.toArray).toList = us := by simp
  rw [e5]
  exact wpAny_pure h
theorem sorted_tupV {b : Addr} {us : List Value} {R : Value → Shared → Prop} (ht : s.heap.IsTuple b us.toArray) (hz : us.length ≤ sizeLine)
    (S : PySem.W.SortsAt prog w A.in1.in1 { s with heap := PySem.W.sortingHeap (PySem.W.copyHeap s.heap us) (s.heap.objs.size + 1) us } κ us)
    (h : R (.ref (s.heap.objs.size + 1)) { s with heap := sortedAll s.heap us (PySem.W.sortVals κ false us us).toArray }) : wpAny (model prog w) A (call (.builtin "sorted") [.ref b]) R E s := by
  refine Calls.call_function_entry kind_sorted plain_sorted entry_sorted (args_sorted1 _) ?_
  unfold Builtin.«sorted»
  refine wpAny_bind (m := checkCount "sorted" 1 1 _) (wpAny_pure (wpAny_bind (gather_tup ht hz (wpAny_bind (wpAny_newList ?_ hz)))))
  have e : ((s.heap.push (seqObj "list" #[] 0)).update s.heap.objs.size (Obj.mapSeq (· ++ us.toArray))).objs.size = s.heap.objs.size + 1 := (Heap.size_update ..).trans (size_push' ..)
  show wpAny _ _ _ _ _ { s with heap := PySem.W.copyHeap s.heap us }
  rw [e]
  refine wpAny_bind (wpAny_holding (wpAny_call_entry slot_list_sort ⟨_, PySem.W.copyHeap_at s.heap us, rfl⟩ entry_list_sort ?_ (args_list_sort _)))
  exact PySem.W.list_sort_vals (s := { s with heap := PySem.W.copyHeap s.heap us }) (PySem.W.copyHeap_at s.heap us) S hz ⟨_, rfl, wpAny_pure ⟨_, rfl, h⟩⟩
end
section
variable {X : Cx} {pins : List (Addr × Obj)} {σ : L2.St} {H : Hp} {s : Shared}
theorem reads_each (I : Inv X pins σ H s) : ∀ {ds : List PyData} {vs : List V} {us : List Value}, DpAll X.K H vs ds → Vals vs us → PySem.W.EachIs (fun v d => ∃ as, Reads s.heap v d as) us ds
  | [], _, _, h, r => by
    cases h
    cases r
    exact .nil
  | d :: ds, _, _, h, r => by
    cases h with
    | cons h1 h2 =>
      cases r with
      | cons r1 r2 => exact .cons (Dp.reads I d _ _ h1 r1) (reads_each I h2 r2)
theorem cr_sortedD (hu : X.A.units + 64 < cLine) : CallR X (.builtin "sorted") (rSortedD X.K) := by
  intro pins s σ H vs us Q I r h
  obtain ⟨a, xs, ds, rfl, hs, hd, al, so, dp, q⟩ := h
  rw [Vals.ref1 r]
  have ln := len_of hd
  have main : ∀ its : List Value, Vals xs its → xs.length ≤ sizeLine → ∃ κ : KeyKind, PySem.W.SortsAt X.prog X.w X.A.in1.in1 { s with heap := PySem.W.sortingHeap (PySem.W.copyHeap s.heap its) (s.heap.objs.size + 1) its } κ its ∧
      EP X pins σ Q (.ref (s.heap.objs.size + 1)) { s with heap := sortedAll s.heap its (PySem.W.sortVals κ false its its).toArray } := fun its rv hz => by
    have e := reads_each I hd rv
    have e2 : PySem.W.EachIs (fun v d => ∃ as, Reads (PySem.W.sortingHeap (PySem.W.copyHeap s.heap its) (s.heap.objs.size + 1) its) v d as) its ds := e.mono fun v d ⟨as, h⟩ => ⟨as, Reads.keeps (fun b o z => PySem.W.sorting_copy_old z) h⟩
    have S := PySem.W.SortsAt.data (prog := X.prog) (w := X.w) (A := X.A.in1.in1) (s := { s with heap := PySem.W.sortingHeap (PySem.W.copyHeap s.heap its) (s.heap.objs.size + 1) its }) e2 al so (fun d hd => by have := dp d hd; show X.A.units + 1 + 1 + d.depth < cLine; omega)
    refine ⟨_, S, ?_⟩
    have ek : PySem.W.EachIs (fun v (b : V × PyData) => (PySem.W.dataKind (PySem.W.sortingHeap (PySem.W.copyHeap s.heap its) (s.heap.objs.size + 1) its) ds).keyOf v = some (PySem.W.keyToks b.2)) its (xs.zip ds) := by
      have f := PySem.W.each_keys al e2
      have mz : (xs.zip ds).map Prod.snd = ds := List.map_snd_zip (by omega)
      rw [← mz] at f
      have f' := PySem.W.each_of_map (fun b : V × PyData => b.2) f
      rw [mz] at f'
      exact f'
    have eo := PySem.W.sortVals_each (κ := PySem.W.dataKind (PySem.W.sortingHeap (PySem.W.copyHeap s.heap its) (s.heap.objs.size + 1) its) ds) (rev := false) (fun b : V × PyData => PySem.W.keyToks b.2) (vals_each rv ln) ek
    have vo := each_vals eo
    generalize PySem.W.sortVals _ false its its = out at vo ⊢
    obtain ⟨ep, he'⟩ := PyProof.Rows.sortedAll_at s.heap its out.toArray
    have hlen : (srt xs ds).length ≤ sizeLine := by rw [(srt_perm ln).length_eq]; exact hz
    exact ⟨.ref _, upd H (s.heap.objs.size + 1) (.lst (srt xs ds)), I.laid (t' := s.toks) (fun _ _ => PyProof.Rows.sortedAll_old) (Nat.le_succ _) ⟨hlen, out, ep, vo, he'⟩, rfl, q _ (I.hok.fresh (Nat.le_succ _))⟩
  rcases hs with hs | hs
  · obtain ⟨its, rv, hl, hz⟩ := I.list hs
    obtain ⟨κ, S, k⟩ := main its rv hz
    exact PySem.W.sorted_vals hl.isList S (by rw [← rv.length]; exact hz) k
  · obtain ⟨its, rv, hl, hz⟩ := I.tuple hs
    obtain ⟨κ, S, k⟩ := main its rv hz
    exact sorted_tupV hl (by rw [← rv.length]; exact hz) S k
/-- texts -/
def leS (x y : Str) : Prop := ¬ y.cps.toList < x.cps.toList
theorem dpS {H : Hp} : ∀ xs : List Str, DpAll X.K H (xs.map V.str) (xs.map PyData.str)
  | [] => .nil
  | x :: xs => .cons (.str x) (dpS xs)
theorem srtS (xs : List Str) : ∃ ys : List Str, srt (xs.map V.str) (xs.map PyData.str) = ys.map V.str ∧ ys.Perm xs ∧ ys.Pairwise leS := by
  have tot := PySem.W.sortLe_total (listOrd itemOrd) false (fun p : V × PyData => PySem.W.keyToks p.2)
  have pw := PySem.W.sort_pairwise tot ((xs.map V.str).zip (xs.map PyData.str))
  have pm := List.mergeSort_perm ((xs.map V.str).zip (xs.map PyData.str)) leD
  have mem : ∀ p ∈ ((xs.map V.str).zip (xs.map PyData.str)).mergeSort leD, ∃ x, p = (V.str x, PyData.str x) := fun p hp => by
    have := pm.mem_iff.mp hp
    rw [List.zip_map'] at this
    obtain ⟨x, _, e⟩ := List.mem_map.mp this
    exact ⟨x, e.symm⟩
  have pw' : (((xs.map V.str).zip (xs.map PyData.str)).mergeSort leD).Pairwise fun a b => leD a b = true := pw
  unfold srt
  generalize ((xs.map V.str).zip (xs.map PyData.str)).mergeSort leD = L at pm mem pw'
  have : ∃ ys : List Str, L = ys.map fun x => (V.str x, PyData.str x) := by
    clear pm pw'
    induction L with
    | nil => exact ⟨[], rfl⟩
    | cons p L ih =>
      obtain ⟨x, e⟩ := mem p List.mem_cons_self
      obtain ⟨ys, e2⟩ := ih fun q hq => mem q (List.mem_cons_of_mem _ hq)
      exact ⟨x :: ys, by rw [e, e2]; rfl⟩
  obtain ⟨ys, rfl⟩ := this
  refine ⟨ys, ?_, ?_, ?_⟩
  · rw [List.map_map]
    rfl
  · have p2 := pm.map fun p : V × PyData => match p.1 with | .str x => x | _ => ""
    rw [List.map_map, List.zip_map', List.map_map] at p2
    simpa [Function.comp_def] using p2
  · refine (List.pairwise_map.mp pw').imp fun {a b} h => ?_
    have h' : (!PySem.W.dataLt (.str b) (.str a)) = true := h
    rw [PySem.W.dataLt_str] at h'
    simpa [leS] using h'
/-- sorted of texts, a list or a tuple -/
def rSortedTx (K : PySem.W.Frag) : List V → Hp → VK → Prop := fun vs H Q => ∃ (a : Addr) (xs : List Str), vs = [V.ref a] ∧ (SqL K H a (xs.map V.str) ∨ SqT K H a (xs.map V.str)) ∧
  ∀ (ys : List Str) (p : Addr), ys.Perm xs → ys.Pairwise leS → H p = none → Q (.ref p) (upd H p (.lst (ys.map V.str)))
theorem cr_sortedTx (hu : X.A.units + 64 < cLine) : CallR X (.builtin "sorted") (rSortedTx X.K) := by
  intro pins s σ H vs us Q I r h
  obtain ⟨a, xs, rfl, hs, q⟩ := h
  obtain ⟨ys, e, pm, pw⟩ := srtS xs
  refine cr_sortedD hu pins s σ H _ us Q I r ⟨a, _, xs.map PyData.str, rfl, hs, dpS xs, fun d h1 d' h2 => ?_, .inr fun d h1 => ?_, fun d h1 => ?_, fun p fp => ?_⟩
  · obtain ⟨x, _, rfl⟩ := List.mem_map.mp h1
    obtain ⟨y, _, rfl⟩ := List.mem_map.mp h2
    rfl
  · obtain ⟨x, _, rfl⟩ := List.mem_map.mp h1
    refine ⟨fun z => ?_, fun l z => ?_⟩ <;> cases z
  · obtain ⟨x, _, rfl⟩ := List.mem_map.mp h1
    show 0 ≤ 60
    decide
  · rw [e]
    exact q ys p pm pw fp
end
end SRT
set_option Elab.async false
set_option linter.all false
set_option maxRecDepth 100000
set_option maxHeartbeats 4000000
namespace K14
open PySem PySem.Spec PyProof.Rows L2
open C8 (Cal Mak Met pe_c pe_mk pe_mt pe_mt0)
open SX (S)
open SRT (leS)
structure Bl2 (mg : Str → Option Value) : Prop where
  dict : mg "dict" = none
  srt : mg "sorted" = none
  enum : mg "enumerate" = none
theorem well_app (a b : List (Int × Int)) (d : Int) : wellL (a ++ b) d = wellL a d ++ wellL b d := by
  unfold wellL
  rw [List.filter_append, List.map_append]
section
variable {P : Program} {w : World} {K : PySem.W.Frag} {mg : Str → Option Value} {base : Heap} {f C CW CP : Addr} {fd : FuncData}
def spWell (C CW : Addr) : Sp := fun vs H Q _ => ∃ (kw : Addr) (ds : List Dt) (cs : List Addr) (l : List Nat) (z : Ws) (d : Int), vs = [.ref kw, .str (S l), .int d] ∧ Kd C CW H kw ds cs ∧ (l, z) ∈ ds ∧ z.sp.length ≤ 1000 ∧ 0 ≤ d ∧ d ≤ 1000000 ∧
  ∀ H' cs', Kd C CW H' kw (upW ds l (wellW d)) cs' → Fr H H' cs cs' → Q .non H'
theorem ok_well (F : Dn K d_Wants_well f fd) (b : Bl mg) (mW : MetW P w K mg base C CW) (cC : CalC P w K mg base) (TW : ClW K mg CW) : FnOk P w K mg base CX0 5 f fd ["self", "name", "day"] (spWell C CW) := by
  refine F.ok sc_Wants_well (fun vs H Q E h => ?_) (fun cdv A outer s H vs Q E hr h => ?_)
  · obtain ⟨kw, ds, cs, l, z, d, rfl, _⟩ := h
    rfl
  · obtain ⟨kw, ds, cs, l, z, d, rfl, hk, hm, hlen, d0, d1, hQ⟩ := h
    obtain ⟨wd, z1, z2, a, rfl, rfl, hk, W, hnd⟩ := hk.find hm
    obtain ⟨dk, hkw⟩ := hk.at_
    refine ⟨_, PSs.nox (pss_cons (ps_set (i := 3) sc_Wants_well.nd rfl (.inl rfl) (pe_mt mW hr (by decide) (pv 0) (pa_cons (pv 1) pa_nil))) (pss_cons (ps_expr (pe_c cC hr (by decide) rfl (pa_cons (pv 2) pa_nil)))
      (pss_one (ps_fld (pv 3) (pe_lc (own := [("first", 4), ("last", 5)]) (g := gTup K 2 (gCons (gName 4) (gCons (gName 5) gNil))) rfl sc_Wants_well.nd (pi_list (pe_fld (pv 3) rfl)) (blkOk_by (N := N_Wants_well) (sc := defScope s_Wants_well) (by decide +kernel))
        (fun _ _ _ _ _ => pg_tup rfl (pgs_cons (pg_name (i := 4) sc_Wants_well.nd rfl (Or.inl rfl)) (pgs_cons (pg_name (i := 5) sc_Wants_well.nd rfl (Or.inl rfl)) pgs_nil))) (fun _ _ _ _ _ => pts_one (pt_cmpR op_lt (pv 4) (pv 2) (nomark _)))
        (fun _ _ _ _ _ => pe_tup (pa_cons (pv 4) (pa_cons (pe_callB (call_min2 rfl) rfl b.min boot_min (pa_cons (pv 5) (pa_cons (pe_op op_sub (pv 2) pe_int) pa_nil))) pa_nil)))) rfl)))), ?_⟩
    refine ⟨_, rfl, kw, dk, _, rfl, hkw, kw_no wd (by decide +kernel), _, rfl, kw, wd, _, l, a, z, rfl, hk, by simp, ?_⟩
    refine ⟨_, rfl, d, rfl, d0, d1, ?_⟩
    obtain ⟨sps, es, hs, hx⟩ := W.sp_
    have hlen' : sps.length ≤ 1000 := by rw [← es, List.length_map] at hlen; exact hlen
    refine ⟨_, rfl, a.q, CW, a.dx, _, _, rfl, W.at_, TW.cl, TW.n6, (wi_look z.s z.f z.l a.mm a.ad a.sd).1, a.sd, rfl, ⟨_, SqL.of hs⟩, fun D hD => ?_⟩
    refine lc_list (K := K) (xs := sps.map fun x => V.ref x.1) (fun i H2 => ∃ sps' : List Spa, SpB H2 D sps' ∧ sps'.length ≤ i ∧ sps'.map (·.2) = wellL ((sps.take i).map (·.2)) d ∧ Same H H2)
      ⟨[], ⟨upd_same, by simp⟩, Nat.le_refl _, rfl, same_new hD⟩ (fun i H2 _ z => by obtain ⟨_, _, _, _, s2⟩ := z; exact SqL.of (s2 _ _ hs)) ?_ ?_
    · rintro i y H2 hi ⟨sps', hsp, hl', hs', s2⟩
      rw [List.getElem?_map] at hi
      cases hx1 : sps[i]? with
      | none =>
        rw [hx1] at hi
        cases hi
      | some x =>
        rw [hx1] at hi
        cases (Option.some.inj hi : V.ref x.1 = y)
        have hil : i < sps.length := (List.getElem?_eq_some_iff.mp hx1).1
        have et : sps.take (i + 1) = sps.take i ++ [x] := take_one hx1
        refine ⟨x.1, _, rfl, SqT.of (s2 _ _ (hx x (List.mem_of_getElem? hx1))), rfl, _, _, rfl, _, _, rfl, rfl, rfl, ?_⟩
        refine ⟨_, rfl, _, rfl, _, _, rfl, rfl, _, rfl, ?_⟩
        refine ite2 (fun c => ?_) (fun c => ?_)
        · have c' : x.2.1 < d := of_decide_eq_true c
          refine ⟨_, rfl, _, rfl, _, rfl, _, _, rfl, rfl, _, _, rfl, by show 2 ≤ sizeLine; decide, fun u fu => ?_⟩
          have su := same_new (o := .tup [.int x.2.1, .int (if d - 1 < x.2.2 then d - 1 else x.2.2)]) fu
          have nDu : D ≠ u := ne_of_none hsp.1 fu
          refine ⟨_, su _ _ hsp.1, ?_, sps' ++ [(u, x.2.1, if d - 1 < x.2.2 then d - 1 else x.2.2)], ⟨?_, ?_⟩, ?_, ?_, ?_⟩
          · rw [List.length_map]
            exact line_lt (by omega)
          · rw [upd_same]
            simp
          · intro z hz
            rcases List.mem_append.mp hz with hz | hz
            · rw [upd_ne (ne_of (hsp.2 z hz) hsp.1 (by intro z; cases z))]
              exact su _ _ (hsp.2 z hz)
            · cases List.mem_singleton.mp hz
              rw [upd_ne nDu.symm]
              exact upd_same
          · rw [List.length_append]
            simp
            omega
          · rw [et, List.map_append, List.map_append, hs', well_app]
            unfold wellL
            simp [c']
          · intro a o e
            rw [upd_ne (ne_of_none e hD)]
            exact su _ _ (s2 a o e)
        · have c' : ¬ x.2.1 < d := fun z => c (decide_eq_true z)
          refine ⟨sps', hsp, by omega, ?_, s2⟩
          rw [et, List.map_append, well_app, hs']
          unfold wellL
          simp [c']
    · rintro H2 ⟨sps', hsp, hl', hs', s2⟩
      rw [List.length_map, List.take_length, es] at hs'
      refine ⟨_, rfl, a.q, CW, a.dx, _, rfl, s2 _ _ W.at_, TW.cl, TW.n6, wi_len _ _ _ _ _ _, ?_⟩
      rw [wi_put]
      obtain ⟨n1, n2, n3, n4, n5, n6⟩ := cel_ne hnd
      have nD : ∀ b ∈ cel a, b ≠ D := fun b hb e => by
        obtain ⟨o, ho⟩ := (W.off hb).1
        rw [e, hD] at ho
        cases ho
      have nDq := nD a.q (by simp [cel])
      obtain ⟨cs', k1, k2⟩ := Kd.step (wellW d) hk (H' := upd H2 a.q (.ins CW a.dx (wiF z.s z.f z.l a.mm a.ad D))) (a' := { a with sd := D }) (fun b o hb e => by
        rw [upd_ne (fun e2 => hb (by rw [e2]; simp [cel]))]
        exact s2 _ _ e)
        ⟨upd_same, by rw [upd_ne n1.symm]; exact s2 _ _ W.mk_, by rw [upd_ne n2.symm]; exact s2 _ _ W.ad_, ⟨sps', hs', by rw [upd_ne nDq.symm]; exact hsp.1, fun x hm => by
          rw [upd_ne (fun e2 => by
            have h1 := hsp.2 x hm
            rw [e2, s2 _ _ W.at_] at h1
            cases h1)]
          exact hsp.2 x hm⟩, W.nma⟩ rfl (fun b hb => by
          unfold cel at hb ⊢
          simp only [List.mem_cons, List.not_mem_nil, or_false] at hb ⊢
          rcases hb with h | h | h | h
          · exact .inl (.inl h)
          · exact .inl (.inr (.inl h))
          · exact .inl (.inr (.inr (.inl h)))
          · exact .inr (by rw [h]; exact hD)) (by
          unfold cel
          simp
          exact ⟨⟨n1, n2, nDq⟩, ⟨n4, nD a.mm (by simp [cel])⟩, nD a.ad (by simp [cel])⟩)
      exact hQ _ cs' k1 k2
abbrev MakW (P : Program) (w : World) (K : PySem.W.Frag) (mg : Str → Option Value) (base : Heap) (CW CP : Addr) : Prop := Mak P w K mg base 1 "Wish" CW (spWI CW CP) []
def newW (s d : Int) (m : Nat) : Ws := ⟨s, d, 1000000, [(d, m)], [], []⟩
def spEnter (C CW CP : Addr) : Sp := fun vs H Q _ => ∃ (kw pe pdx : Addr) (ds : List Dt) (cs : List Addr) (l : List Nat) (s : Int) (m : Nat) (d : Int), vs = [.ref kw, .ref pe, .int d] ∧ Kd C CW H kw ds cs ∧ H pe = some (.ins CP pdx (peF l s m)) ∧ l ∉ ds.map (·.1) ∧ ds.length ≤ 1000 ∧ 0 ≤ d ∧ d ≤ 1000000 ∧
  ∀ H' cs', Kd C CW H' kw (ds ++ [(l, newW s d m)]) cs' → Fr H H' cs cs' → Q .non H'
theorem ok_enter (F : Dn K d_Wants_enter f fd) (T : ClK K mg C) (TP : ClP K mg CP) (cC : CalC P w K mg base) (MW : MakW P w K mg base CW CP) : FnOk P w K mg base CX0 5 f fd ["self", "person", "day"] (spEnter C CW CP) := by
  refine F.ok sc_Wants_enter (fun vs H Q E h => ?_) (fun cdv A outer s H vs Q E hr h => ?_)
  · obtain ⟨kw, pe, pdx, ds, cs, l, st, m, d, rfl, _⟩ := h
    rfl
  · obtain ⟨kw, pe, pdx, ds, cs, l, st, m, d, rfl, ⟨wd, zs, rfl, rfl, hk⟩, hpe, hl, hlen, d0, d1, hQ⟩ := h
    obtain ⟨dk, hkw⟩ := hk.at_
    have hu := hu_of hr
    have en : (dts zs).map (·.1) = zs.map (·.1) := by unfold dts; rw [List.map_map]; rfl
    rw [en] at hl
    have hv := val_no hl
    have hlen' : zs.length ≤ 1000 := by unfold dts at hlen; rw [List.length_map] at hlen; exact hlen
    refine ⟨_, PSs.nox (pss_cons (ps_if (pt_cmp (pc_din hu (pe_fld (pv 1) rfl) (pe_fld (pv 0) rfl))) pss_never pss_nil) (pss_cons (ps_expr (pe_c cC hr (by decide) rfl (pa_cons (pv 2) pa_nil)))
      (pss_one (ps_dput hu (pe_fld (pv 0) rfl) (pe_fld (pv 1) rfl) (pe_mk MW hr (by decide) rfl (pa_cons (pv 1) (pa_cons (pv 2) pa_nil))) rfl)))), ?_⟩
    refine ⟨_, rfl, pe, CP, pdx, _, _, rfl, hpe, TP.cl, TP.nn, pe_name l st m, _, rfl, kw, C, dk, _, _, rfl, hkw, T.cl, T.nw, kw_look wd, wd, _, rfl, DGet.k (k := Sum.inr (S l)) hk.wd_, _, rfl, ?_⟩
    rw [hv]
    refine iteF ?_
    refine ⟨_, rfl, d, rfl, d0, d1, ?_⟩
    refine ⟨_, rfl, _, rfl, ?_⟩
    intro q dx nq nd ne
    have k0 : ∀ b o, H b = some o → (upd (upd H dx (.own q)) q (.ins CW dx [])) b = some o := fun b o e => by
      rw [upd_ne (ne_of_none e nq), upd_ne (ne_of_none e nd)]
      exact e
    have fr0 : ∀ b, (upd (upd H dx (.own q)) q (.ins CW dx [])) b = none → H b = none := fun b e => by
      cases z : H b with
      | none => rfl
      | some u =>
        rw [k0 b u z] at e
        cases e
    refine ⟨q, dx, pe, pdx, l, st, m, d, rfl, k0 _ _ hpe, upd_same, fun H' mk ad sd k fmk fad fsd n1 n2 n3 hq hmk had hsd => ⟨rfl, ?_⟩⟩
    have hwd := hk.wd_
    have nqw : wd ≠ q := ne_of_none hwd nq
    have k1 : ∀ b o, H b = some o → H' b = some o := fun b o e => k b o (ne_of_none e nq) (k0 b o e)
    have qn : ∀ b, (upd (upd H dx (.own q)) q (.ins CW dx [])) b = none → b ≠ q := fun b e z => by
      rw [z, upd_same] at e
      cases e
    have fmk' := fr0 _ fmk
    have fad' := fr0 _ fad
    have fsd' := fr0 _ fsd
    have nmq := qn _ fmk
    have naq := qn _ fad
    have nsq := qn _ fsd
    have nmw : mk ≠ wd := (ne_of_none hwd fmk').symm
    have naw : ad ≠ wd := (ne_of_none hwd fad').symm
    have nsw : sd ≠ wd := (ne_of_none hwd fsd').symm
    refine ⟨_, rfl, kw, C, dk, _, _, rfl, k1 _ _ hkw, T.cl, T.nw, kw_look wd, _, rfl, pe, CP, pdx, _, _, rfl, k1 _ _ hpe, TP.cl, TP.nn, pe_name l st m, wd, _, rfl, DPut.k (k := Sum.inr (S l)) (k1 _ _ hwd) (by unfold kvsW; rw [List.length_map]; exact line_lt (by omega)), ?_⟩
    let a : Wa := ⟨q, dx, mk, ad, sd⟩
    have ek : putK (kvsW zs) (Sum.inr (S l)) (.ref q) = kvsW (zs ++ [(l, a, newW st d m)]) := by
      rw [putK_new _ hv]
      unfold kvsW
      rw [List.map_append]
      rfl
    rw [ek]
    have ec : cels (zs ++ [(l, a, newW st d m)]) = cels zs ++ [q, mk, ad, sd] := by
      unfold cels
      rw [List.flatMap_append]
      rfl
    have fresh : ∀ b ∈ [q, mk, ad, sd], H b = none := fun b hb => by
      simp only [List.mem_cons, List.not_mem_nil, or_false] at hb
      rcases hb with rfl | rfl | rfl | rfl <;> assumption
    have kk : ∀ b o, b ≠ wd → H b = some o → (upd H' wd (.dK (kvsW (zs ++ [(l, a, newW st d m)])))) b = some o := fun b o nb e => by
      rw [upd_ne nb]
      exact k1 b o e
    have hnc := hk.nc
    have wdn : wd ∉ cels zs := (List.nodup_cons.mp (List.nodup_cons.mp hnc).2).1
    have kwn : kw ≠ wd := fun z => (List.nodup_cons.mp hnc).1 (by rw [z]; simp)
    refine hQ _ (wd :: (cels zs ++ [q, mk, ad, sd])) ⟨wd, zs ++ [(l, a, newW st d m)], ?_, by rw [ec], ⟨⟨dk, kk _ _ kwn hkw⟩, upd_same, fun y hy => ?_, ?_, ?_⟩⟩ ⟨fun b o hb e => kk b o (fun z => hb (by rw [z]; simp)) e, fun b hb => ?_⟩
    · unfold dts
      rw [List.map_append]
      rfl
    · rcases List.mem_append.mp hy with hy | hy
      · refine (hk.each y hy).keepP (xs := [wd]) (fun b o hb e => kk b o (fun z => hb (by rw [z]; simp)) e) (fun b hb => ?_) (fun b hb vs => ?_)
        · rw [List.mem_singleton]
          rintro rfl
          exact wdn (List.mem_flatMap.mpr ⟨y, hy, hb⟩)
        · rw [List.mem_singleton.mp hb, hwd]
          intro z
          cases z
      · cases List.mem_singleton.mp hy
        refine ⟨by rw [upd_ne nqw.symm]; exact hq, by rw [upd_ne nmw]; exact hmk, by rw [upd_ne naw]; exact had, ⟨[], rfl, by rw [upd_ne nsw]; exact hsd, fun x hx => by cases hx⟩, n1⟩
    · rw [List.map_append, List.nodup_append]
      refine ⟨hk.nn, by simp, fun x hx y hy e => ?_⟩
      rw [List.map_cons, List.map_nil, List.mem_singleton] at hy
      have hy' : y = l := hy
      exact hl (by rw [← hy', ← e]; exact hx)
    · rw [ec]
      have e2 : kw :: wd :: (cels zs ++ [q, mk, ad, sd]) = (kw :: wd :: cels zs) ++ [q, mk, ad, sd] := rfl
      rw [e2, List.nodup_append]
      refine ⟨hnc, by simp; exact ⟨⟨nmq.symm, naq.symm, nsq.symm⟩, ⟨n1, n2⟩, n3⟩, fun x hx y hy e => ?_⟩
      obtain ⟨o, ho⟩ := (hk.off hx).1
      rw [e, fresh y hy] at ho
      cases ho
    · rcases List.mem_cons.mp hb with rfl | hb
      · exact .inl (by simp)
      rcases List.mem_append.mp hb with hb | hb
      · exact .inl (by simp [hb])
      · exact .inr (fresh b hb)
end
end K14
set_option Elab.async false
set_option linter.all false
set_option maxRecDepth 100000
set_option maxHeartbeats 4000000
/-! data: texts, pairs -/
namespace DQ
open PySem PySem.Spec PyProof.Rows L2
def pD (q : Int × Int) : PyData := .tuple [.int q.1, .int q.2]
theorem all_strs : ∀ xs : List Str, (∀ x ∈ xs, PyData.strOk x = true) → PyData.canLayAll0 (xs.map PyData.str) = true ∧ PyData.depthAll (xs.map PyData.str) = 0
  | [], _ => ⟨rfl, rfl⟩
  | x :: r, h => by
    obtain ⟨h1, h2⟩ := all_strs r fun y hy => h y (List.mem_cons_of_mem _ hy)
    have h3 := h x List.mem_cons_self
    exact ⟨by simp [PyData.canLayAll0, PyData.canLay0, h1, h3], by simp [PyData.depthAll, PyData.depth, h2]⟩
theorem sh_strs {xs : List Str} (h : ∀ x ∈ xs, PyData.strOk x = true) : SeqAt.shaped (.list (xs.map PyData.str)) = true := by
  obtain ⟨h1, h2⟩ := all_strs xs h
  simp [SeqAt.shaped, PyData.canLay0, PyData.depth, h1, h2]
theorem all_pairs : ∀ qs : List (Int × Int), PyData.canLayAll0 (qs.map pD) = true ∧ PyData.depthAll (qs.map pD) ≤ 2
  | [] => ⟨rfl, by decide⟩
  | _ :: r => by
    obtain ⟨h1, h2⟩ := all_pairs r
    refine ⟨by simp [PyData.canLayAll0, PyData.canLay0, pD, h1], ?_⟩
    show max (PyData.depth (pD _)) (PyData.depthAll (r.map pD)) ≤ 2
    have h3 : ∀ q, PyData.depth (pD q) ≤ 2 := fun q => by show 1 ≤ 2; decide
    exact Nat.max_le.mpr ⟨h3 _, h2⟩
theorem sh_pair (q : Int × Int) : SeqAt.shaped (pD q) = true := rfl
theorem sh_pairs (qs : List (Int × Int)) : SeqAt.shaped (.list (qs.map pD)) = true := by
  obtain ⟨h1, h2⟩ := all_pairs qs
  have h3 : PyData.depthAll (qs.map pD) + 1 ≤ 64 := by omega
  simp [SeqAt.shaped, PyData.canLay0, PyData.depth, h1]
  omega
theorem eq_strs (xs : List Str) : PyData.eqv (.list (xs.map PyData.str)) (.list (xs.map PyData.str)) = true := by
  refine PySem.W.eqv_refl_alike _ ?_
  induction xs with
  | nil => rfl
  | cons x xs ih => simpa [PySem.W.alike, PySem.W.alikeAll] using ih
theorem eq_pair (q : Int × Int) : PyData.eqv (pD q) (pD q) = true := PySem.W.eqv_refl_alike _ rfl
theorem eq_pairs (qs : List (Int × Int)) : PyData.eqv (.list (qs.map pD)) (.list (qs.map pD)) = true := by
  refine PySem.W.eqv_refl_alike _ ?_
  induction qs with
  | nil => rfl
  | cons x xs ih => simpa [PySem.W.alike, PySem.W.alikeAll, pD] using ih
theorem dp_strs {K : PySem.W.Frag} {H : Hp} : ∀ xs : List Str, DpAll K H (xs.map V.str) (xs.map PyData.str)
  | [] => .nil
  | x :: xs => .cons (.str x) (dp_strs xs)
theorem dp_pair {K : PySem.W.Frag} {H : Hp} {t : Addr} {q : Int × Int} (h : H t = some (.tup [.int q.1, .int q.2])) : Dp K H (.ref t) (pD q) := .tup (SqT.of h) (.cons (.int _) (.cons (.int _) .nil))
theorem dp_pairs {K : PySem.W.Frag} {H : Hp} : ∀ L : List (Addr × (Int × Int)), (∀ p ∈ L, H p.1 = some (.tup [.int p.2.1, .int p.2.2])) → DpAll K H (L.map fun p => V.ref p.1) ((L.map (·.2)).map pD)
  | [], _ => .nil
  | p :: L, h => .cons (dp_pair (h p List.mem_cons_self)) (dp_pairs L fun q hq => h q (List.mem_cons_of_mem _ hq))
/-- a dict by names -/
theorem val_map (f : Str → V) {y : Str} : ∀ {l : List Str}, y ∈ l → valV (l.map fun x => ((Sum.inr x : Key), f x)) (Sum.inr y) = some (f y)
  | x :: l, h => by
    rw [List.map_cons]
    by_cases e : x = y
    · rw [valV_pos (by rw [e])]
      rw [e]
    · rw [valV_neg (fun z => e (Sum.inr.inj z))]
      exact val_map f ((List.mem_cons.mp h).resolve_left fun z => e z.symm)
theorem val_none (f : Str → V) {y : Str} : ∀ {l : List Str}, y ∉ l → valV (l.map fun x => ((Sum.inr x : Key), f x)) (Sum.inr y) = none
  | [], _ => rfl
  | x :: l, h => by
    rw [List.map_cons, valV_neg (fun z => h (by rw [Sum.inr.inj z]; exact List.mem_cons_self))]
    exact val_none f fun z => h (List.mem_cons_of_mem _ z)
theorem put_new (f : Str → V) {y : Str} {l : List Str} (h : y ∉ l) : putK (l.map fun x => ((Sum.inr x : Key), f x)) (Sum.inr y) (f y) = (l ++ [y]).map fun x => ((Sum.inr x : Key), f x) := by
  rw [putK_new _ (val_none f h), List.map_append]
  rfl
theorem put_old (f : Str → V) {y : Str} {v : V} {l : List Str} (h : y ∈ l) : putK (l.map fun x => ((Sum.inr x : Key), f x)) (Sum.inr y) v = l.map fun x => ((Sum.inr x : Key), if x = y then v else f x) := by
  have a : ((l.map fun x => ((Sum.inr x : Key), f x)).any fun kv => decide (kv.1 = Sum.inr y)) = true := by
    rw [List.any_eq_true]
    exact ⟨(Sum.inr y, f y), List.mem_map.mpr ⟨y, h, rfl⟩, by simp⟩
  unfold putK
  rw [if_pos a, List.map_map]
  refine List.map_congr_left fun x _ => ?_
  show (if (Sum.inr x : Key) = Sum.inr y then ((Sum.inr x : Key), v) else (Sum.inr x, f x)) = _
  by_cases e : x = y
  · rw [if_pos (by rw [e]), if_pos e]
  · rw [if_neg (fun z => e (Sum.inr.inj z)), if_neg e]
theorem merge_map (f : Str → V) : ∀ {l m : List Str}, (m ++ l).Nodup → mergeK (m.map fun x => ((Sum.inr x : Key), f x)) (l.map fun x => ((Sum.inr x : Key), f x)) = (m ++ l).map fun x => ((Sum.inr x : Key), f x)
  | [], m, _ => by rw [List.append_nil]; rfl
  | y :: l, m, h => by
    have h' : (m ++ [y] ++ l).Nodup := by rw [List.append_assoc]; exact h
    have ny : y ∉ m := fun z => by
      have := (List.nodup_append.mp h).2.2 y z y List.mem_cons_self
      exact this rfl
    show mergeK (putK _ (Sum.inr y) (f y)) (l.map fun x => ((Sum.inr x : Key), f x)) = _
    rw [put_new f ny, merge_map f h', List.append_assoc]
    rfl
end DQ
set_option Elab.async false
set_option linter.all false
set_option maxRecDepth 100000
set_option maxHeartbeats 4000000
namespace K14
open PySem PySem.Spec PyProof.Rows L2
open C8 (Cal Mak Met pe_c pe_mk pe_mt pe_mt0)
open SX (S)
open SRT (leS)
/-- who holds on a day, in the order of entering -/
def onDay (ds : List Dt) (d : Int) : List Str := (ds.filter fun x => x.2.holds d).map fun x => S x.1
theorem onDay_snoc (ds : List Dt) (x : Dt) (d : Int) : onDay (ds ++ [x]) d = onDay ds d ++ (if x.2.holds d then [S x.1] else []) := by
  unfold onDay
  rw [List.filter_append, List.map_append]
  congr 1
  cases h : x.2.holds d <;> simp [h]
theorem onDay_sub {ds : List Dt} {d : Int} {y : Str} (h : y ∈ onDay ds d) : ∃ x ∈ ds, x.2.holds d = true ∧ y = S x.1 := by
  unfold onDay at h
  obtain ⟨x, hx, e⟩ := List.mem_map.mp h
  obtain ⟨h1, h2⟩ := List.mem_filter.mp hx
  exact ⟨x, h1, h2, e.symm⟩
theorem onDay_len (ds : List Dt) (d : Int) : (onDay ds d).length ≤ ds.length := by
  unfold onDay
  rw [List.length_map]
  exact List.length_filter_le _ _
theorem onDay_nd {ds : List Dt} (d : Int) (h : (ds.map (·.1)).Nodup) : (onDay ds d).Nodup := by
  have h2 : (((ds.filter fun x => x.2.holds d).map (·.1))).Nodup := h.sublist (List.Sublist.map _ List.filter_sublist)
  have e : onDay ds d = ((ds.filter fun x => x.2.holds d).map (·.1)).map S := by unfold onDay; rw [List.map_map]; rfl
  rw [e]
  exact List.Pairwise.map S (fun a b n z => n (SX.S_inj z)) h2
theorem seats_by : ∀ {ds : List Dt}, (ds.map (·.1)).Nodup → ∃ g : Str → Int, ∀ x ∈ ds, g (S x.1) = x.2.s
  | [], _ => ⟨fun _ => 0, fun x hx => by cases hx⟩
  | y :: r, h => by
    obtain ⟨h1, h2⟩ := List.nodup_cons.mp h
    obtain ⟨g, hg⟩ := seats_by h2
    refine ⟨fun t => if t = S y.1 then y.2.s else g t, fun x hx => ?_⟩
    rcases List.mem_cons.mp hx with rfl | hx
    · exact if_pos rfl
    · show (if S x.1 = S y.1 then _ else _) = _
      rw [if_neg (fun e => h1 (List.mem_map.mpr ⟨x, hx, SX.S_inj e⟩))]
      exact hg x hx
section
variable {P : Program} {w : World} {K : PySem.W.Frag} {mg : Str → Option Value} {base : Heap} {f C CW CP : Addr} {fd : FuncData}
theorem pe_fldK {X : Cx} {K : PySem.W.Frag} {e : Expr} {ta : TE} {f : Str} {pos : Pos} (hK : X.K = K) (he : PE X e ta) (hb : attributeBase e f X.env (eval e X.env) = eval e X.env) : PE X (.Attribute e f pos) (tFld K ta f) := hK ▸ pe_fld he hb
/-- the promise asked of a state: each wish is in order -/
def Oks (n : Nat) (ds : List Dt) : Prop := (∀ x ∈ ds, Wok n x.2) ∧ n ≤ 1000 ∧ ds.length ≤ 1000
def spRiders (C CW : Addr) : Sp := fun vs H Q _ => ∃ (kw : Addr) (ds : List Dt) (cs : List Addr) (d : Int) (n : Nat), vs = [.ref kw, .int d] ∧ Kd C CW H kw ds cs ∧ Oks n ds ∧ 0 ≤ d ∧ d ≤ 1000000 ∧
  ∀ H' p (ys : List Str), Same H H' → H p = none → H' p = some (.lst (ys.map V.str)) → ys.Perm (onDay ds d) → ys.Pairwise leS → Q (.ref p) H'
theorem ok_riders (F : Dn K d_Wants_riders f fd) (b2 : Bl2 mg) (T : ClK K mg C) (cC : CalC P w K mg base) (mH : Met P w K mg base 2 CW "holds_on" (spHolds CW) []) : FnOk P w K mg base CX0 5 f fd ["self", "day"] (spRiders C CW) := by
  refine F.ok sc_Wants_riders (fun vs H Q E h => ?_) (fun cdv A outer s H vs Q E hr h => ?_)
  · obtain ⟨kw, ds, cs, d, n, rfl, _⟩ := h
    rfl
  · obtain ⟨kw, ds, cs, d, n, rfl, ⟨wd, zs, rfl, rfl, hk⟩, ok, d0, d1, hQ⟩ := h
    obtain ⟨dk, hkw⟩ := hk.at_
    have hu := hu_of hr
    refine ⟨_, PSs.nox (pss_cons (ps_expr (pe_c cC hr (by decide) rfl (pa_cons (pv 1) pa_nil)))
      (pss_one (ps_ret (pe_lock (pe_callB (SRT.cr_sortedTx hr.units) rfl b2.srt boot_sorted (pa_cons (pe_lc (own := [("name", 2)]) (g := gName 2) rfl sc_Wants_riders.nd (pi_keys (pe_fld (pv 0) rfl)) (blkOk_by (N := N_Wants_riders) (sc := defScope s_Wants_riders) (by decide +kernel))
      (fun _ _ _ _ _ => pg_name (i := 2) sc_Wants_riders.nd rfl (Or.inl rfl)) (fun _ _ _ _ _ => pts_one (pt_val (pe_mt mH hr (by decide) (pe_dget hu (pe_fldK (K := K) rfl (pv 0) rfl) (pv 2) (fun _ _ => rfl)) (pa_cons (pv 1) pa_nil)))) (fun _ _ _ _ _ => pv 2)) pa_nil)))))), ?_⟩
    refine ⟨_, rfl, d, rfl, d0, d1, ?_⟩
    have hwd := hk.wd_
    have nkw : kw ≠ wd := ne_of hkw hwd (by intro z; cases z)
    refine ⟨wd, _, hwd, trivial, fun od => ?_⟩
    refine ⟨_, rfl, kw, C, dk, _, _, rfl, (by rw [upd_ne nkw]; exact hkw), T.cl, T.nw, kw_look wd, wd, od, rfl, .inl ⟨_, upd_same, fun D hD => ?_⟩⟩
    have nD : wd ≠ D := ne_of_none upd_same hD
    have frH : H D = none := by rw [upd_ne nD.symm] at hD; exact hD
    have ez : ∀ i, (dts zs).take i = dts (zs.take i) := fun i => by unfold dts; rw [List.map_take]
    refine lc_it walk_keys (fun i H2 => H2 D = some (.lst ((onDay ((dts zs).take i) d).map V.str)) ∧ H2 wd = some (.frz od (.dK (kvsW zs))) ∧ ∀ b o, b ≠ wd → H b = some o → H2 b = some o) ?_ (fun i H2 _ z => z.2.1) ?_ ?_
    · refine ⟨upd_same, by rw [upd_ne nD]; exact upd_same, fun b o n e => ?_⟩
      rw [upd_ne (ne_of_none e frH), upd_ne n]
      exact e
    · rintro i x H2 H3 hi ⟨hd2, hm, k2⟩ ⟨rfl, k, v, e, rfl⟩
      have e' := e
      unfold kvsW at e'
      rw [List.getElem?_map] at e'
      cases hp : zs[i]? with
      | none =>
        rw [hp] at e'
        cases e'
      | some p =>
        rw [hp] at e'
        cases (Option.some.inj e' : ((Sum.inr (S p.1) : Key), V.ref p.2.1.q) = (k, v))
        obtain ⟨l, a, z⟩ := p
        have hmem : (l, a, z) ∈ zs := List.mem_of_getElem? hp
        have W : Wi CW H3 a z := (hk.each _ hmem).keepP (xs := [wd]) (fun b o hb e => k2 b o (by simpa using hb) e) (fun b hb => by
          rw [List.mem_singleton]
          rintro rfl
          exact (List.nodup_cons.mp (List.nodup_cons.mp hk.nc).2).1 (List.mem_flatMap.mpr ⟨_, hmem, hb⟩)) (fun b hb vs => by
          rw [List.mem_singleton.mp hb, hwd]
          intro z
          cases z)
        have ed : (dts zs)[i]? = some (l, z) := by unfold dts; rw [List.getElem?_map, hp]; rfl
        have wok : Wok n z := ok.1 (l, z) (List.mem_of_getElem? ed)
        have eo : onDay ((dts zs).take (i + 1)) d = onDay ((dts zs).take i) d ++ (if z.holds d then [S l] else []) := by rw [take_one ed, onDay_snoc]
        have hv := val_mem hk.nn hmem
        refine ⟨rfl, ?_⟩
        refine ⟨_, rfl, kw, C, dk, _, _, rfl, k2 _ _ nkw hkw, T.cl, T.nw, kw_look wd, _, rfl, wd, .ref a.q, rfl, .inl ⟨_, Sum.inr (S l), .inr ⟨_, hm⟩, rfl, hv.symm⟩, ?_⟩
        refine ⟨a.q, a.dx, _, rfl, W.at_, wi_no z.s z.f z.l a.mm a.ad a.sd (by decide +kernel) (by decide +kernel) (by decide +kernel) (by decide +kernel) (by decide +kernel) (by decide +kernel), _, rfl, a, z, d, n, rfl, W, wok, ok.2.1, d0, fun H4 s4 => ?_⟩
        have fin : H4 D = some (.lst ((onDay ((dts zs).take i) d).map V.str)) ∧ H4 wd = some (.frz od (.dK (kvsW zs))) ∧ ∀ b o, b ≠ wd → H b = some o → H4 b = some o := ⟨s4 _ _ hd2, s4 _ _ hm, fun b o nb e => s4 _ _ (k2 b o nb e)⟩
        refine ⟨_, rfl, ?_⟩
        refine ite2 (fun c => ?_) (fun c => ?_)
        · refine ⟨_, rfl, _, fin.1, ?_, ?_, by rw [upd_ne nD]; exact fin.2.1, fun b o nb e => ?_⟩
          · rw [List.length_map]
            have h1 := onDay_len ((dts zs).take i) d
            rw [List.length_take] at h1
            have := ok.2.2
            exact line_lt (by omega)
          · rw [upd_same, eo, if_pos c, List.map_append]
            rfl
          · rw [upd_ne (ne_of_none e frH)]
            exact fin.2.2 b o nb e
        · refine ⟨?_, fin.2.1, fin.2.2⟩
          rw [eo, if_neg c, List.append_nil]
          exact fin.1
    · rintro H2 ⟨hd2, hm, k2⟩
      have el : (kvsW zs).length = (dts zs).length := by unfold kvsW dts; rw [List.length_map, List.length_map]
      rw [el, List.take_length] at hd2
      refine ⟨D, _, rfl, .inl (SqL.of hd2), fun ys p pm pw fp => ?_⟩
      have nDp : wd ≠ p := ne_of_none hm fp
      have frp : H p = none := by
        cases q : H p with
        | none => rfl
        | some u =>
          rw [k2 p u (fun z => nDp z.symm) q] at fp
          cases fp
      refine ⟨by rw [upd_ne nDp]; exact hm, ?_⟩
      refine hQ _ p ys (fun b o e => ?_) frp (by rw [upd_ne nDp.symm]; exact upd_same) pm pw
      by_cases h : b = wd
      · subst h
        rw [upd_same, ← hwd]
        exact e
      · rw [upd_ne h, upd_ne (ne_of_none e frp)]
        exact k2 b o h e
def spRoom (C CW : Addr) : Sp := fun vs H Q _ => ∃ (kw : Addr) (ds : List Dt) (cs : List Addr) (d : Int) (n : Nat), vs = [.ref kw, .int d] ∧ Kd C CW H kw ds cs ∧ Oks n ds ∧ (ds.map (·.1)).Nodup ∧ 0 ≤ d ∧ d ≤ 1000000 ∧
  ∀ H' p (ys : List Str) (g : Str → Int), Same H H' → H p = none → H' p = some (.dK (ys.map fun y => ((Sum.inr y : Key), V.int (g y)))) → ys.Perm (onDay ds d) → ys.Nodup → (∀ x ∈ ds, g (S x.1) = x.2.s) → Q (.ref p) H'
theorem ok_room (F : Dn K d_Wants_room f fd) (T : ClK K mg C) (TW : ClW K mg CW) (mR : Met P w K mg base 5 C "riders" (spRiders C CW) []) : FnOk P w K mg base CX0 6 f fd ["self", "day"] (spRoom C CW) := by
  refine F.ok sc_Wants_room (fun vs H Q E h => ?_) (fun cdv A outer s H vs Q E hr h => ?_)
  · obtain ⟨kw, ds, cs, d, n, rfl, _⟩ := h
    rfl
  · obtain ⟨kw, ds, cs, d, n, rfl, ⟨wd, zs, rfl, rfl, hk⟩, ok, hnn, d0, d1, hQ⟩ := h
    obtain ⟨dk, hkw⟩ := hk.at_
    have hu := hu_of hr
    refine ⟨_, PSs.nox (pss_one (ps_ret (pe_dc (own := [("name", 2)]) (g := gName 2) (tt := tYes) rfl sc_Wants_room.nd (pi_list (pe_mt mR hr (by decide) (pv 0) (pa_cons (pv 1) pa_nil))) (blkOk_by (N := N_Wants_room) (sc := defScope s_Wants_room) (by decide +kernel))
      (fun _ _ _ _ _ => pg_name (i := 2) sc_Wants_room.nd rfl (Or.inl rfl)) (fun _ _ _ _ _ => pts_nil) (fun _ _ _ _ _ => pv 2) (fun _ _ _ _ _ => pe_fldK (K := K) rfl (pe_dget hu (pe_fldK (K := K) rfl (pv 0) rfl) (pv 2) (fun _ _ => rfl)) rfl)))), ?_⟩
    refine ⟨_, rfl, kw, dk, _, rfl, hkw, kw_no wd (by decide +kernel), _, rfl, kw, _, _, d, n, rfl, ⟨wd, zs, rfl, rfl, hk⟩, ok, d0, d1, fun H1 p ys s1 fp hp pm pw => ?_⟩
    refine ⟨p, rfl, ⟨_, SqL.of hp⟩, fun D hD => ?_⟩
    have ynd : ys.Nodup := pm.nodup_iff.mpr (onDay_nd d hnn)
    obtain ⟨g, hg⟩ := seats_by hnn
    refine DCI.dc_it (walk_list (K := K) (xs := ys.map V.str)) (fun i H2 => H2 D = some (.dK ((ys.take i).map fun y => ((Sum.inr y : Key), V.int (g y)))) ∧ Same H1 H2) ⟨upd_same, same_new hD⟩ (fun i H2 _ z => SqL.of (z.2 _ _ hp)) ?_ ?_
    · rintro i x H2 H3 hi ⟨hd2, s2⟩ ⟨rfl, hx⟩
      rw [List.getElem?_map] at hx
      cases hy : ys[i]? with
      | none =>
        rw [hy] at hx
        cases hx
      | some y =>
        rw [hy] at hx
        cases (Option.some.inj hx : V.str y = x)
        obtain ⟨u, hu1, hu2, hu3⟩ := onDay_sub (pm.mem_iff.mp (List.mem_of_getElem? hy))
        obtain ⟨v, hv1, hv2⟩ := List.mem_map.mp hu1
        obtain ⟨l, a, z⟩ := v
        subst hv2
        subst hu3
        have s3 : Same H H3 := s1.trans s2
        have W := (hk.each _ hv1).keep s3
        have hv := val_mem hk.nn hv1
        have hg1 : g (S l) = z.s := hg _ hu1
        refine ⟨rfl, ?_⟩
        refine ⟨_, rfl, _, rfl, kw, C, dk, _, _, rfl, s3 _ _ hkw, T.cl, T.nw, kw_look wd, _, rfl, wd, .ref a.q, rfl, .inl ⟨_, Sum.inr (S l), .inl (s3 _ _ hk.wd_), rfl, hv.symm⟩, ?_⟩
        refine ⟨a.q, CW, a.dx, _, _, rfl, W.at_, TW.cl, TW.n1, (wi_look z.s z.f z.l a.mm a.ad a.sd).2.2.2.2.2, ?_⟩
        refine ⟨_, Sum.inr (S l), rfl, hd2, ?_, ?_, fun b o e => ?_⟩
        · rw [List.length_map, List.length_take]
          have h1 := pm.length_eq
          have h2 := onDay_len (dts zs) d
          have := ok.2.2
          exact line_lt (by omega)
        · have nd2 := ynd.sublist (List.take_sublist (i + 1) ys)
          rw [take_one hy, List.nodup_append] at nd2
          rw [upd_same, take_one hy]
          have hp := DQ.put_new (fun y => V.int (g y)) (y := S l) (l := ys.take i) (fun h => nd2.2.2 _ h _ (List.mem_singleton.mpr rfl) rfl)
          have e1 : V.int z.s = V.int (g (S l)) := by rw [hg1]
          rw [e1]
          exact congrArg (fun x => some (HO.dK x)) hp
        · rw [upd_ne (ne_of_none e hD)]
          exact s2 _ _ e
    · rintro H2 ⟨hd2, s2⟩
      rw [List.length_map, List.take_length] at hd2
      exact hQ H2 D ys g (s1.trans s2) (by
        cases q : H D with
        | none => rfl
        | some u =>
          rw [s1 _ _ q] at hD
          cases hD) hd2 pm ynd hg
end
end K14
set_option Elab.async false
set_option linter.all false
set_option maxRecDepth 100000
set_option maxHeartbeats 4000000
namespace K14
open PySem PySem.Spec PyProof.Rows L2
open C8 (Cal Mak Met pe_c pe_mk pe_mt pe_mt0)
open SX (S)
theorem pick {α : Type} (g : α → V) {L : List α} {i : Int} (i0 : 0 ≤ i) (i1 : i < (L.length : Int)) : ∃ x ∈ L, atI (L.map g) i = some (g x) := by
  obtain ⟨j, rfl⟩ := Int.eq_ofNat_of_zero_le i0
  have hj : j < L.length := by omega
  exact ⟨L[j], List.getElem_mem hj, atI_nat (j := j) (by rw [List.getElem?_map, List.getElem?_eq_getElem hj]; rfl)⟩
theorem Pen.ne_new {H : Hp} {p u : Addr} {c : Nat} (x : Pen H p c) (e : H u = none) : u ≠ p := by
  obtain ⟨l, ns, n, m, h1, _⟩ := x
  exact (ne_of_none h1 e).symm
/-! ### deeds -/
inductive Dd where
  | leave (l : List Nat) (d : Int)
  | weekly (l : List Nat) (m : Nat) (d : Int)
  | only (l : List Nat) (d : Int) (b : Bool)
  | usual (l : List Nat) (d : Int)
  | sick (l : List Nat) (a t : Int)
  | well (l : List Nat) (d : Int)
def Dd.l : Dd → List Nat
  | .leave l _ => l
  | .weekly l _ _ => l
  | .only l _ _ => l
  | .usual l _ => l
  | .sick l _ _ => l
  | .well l _ => l
def Dd.v : Dd → List V
  | .leave l d => [.str (Str.ofString "leave"), .str (S l), .int d]
  | .weekly l m d => [.str (Str.ofString "weekly"), .str (S l), .int m, .int d]
  | .only l d b => [.str (Str.ofString "only"), .str (S l), .int d, .bl b]
  | .usual l d => [.str (Str.ofString "usual"), .str (S l), .int d]
  | .sick l a t => [.str (Str.ofString "sick"), .str (S l), .int a, .int t]
  | .well l d => [.str (Str.ofString "well"), .str (S l), .int d]
def isDay (d : Int) : Prop := 0 ≤ d ∧ d ≤ 1000000
def Dd.ok : Dd → Prop
  | .leave _ d => isDay d
  | .weekly _ m d => m ≤ 127 ∧ isDay d
  | .only _ d _ => isDay d
  | .usual _ d => isDay d
  | .sick _ a t => isDay a ∧ a ≤ t ∧ isDay t
  | .well _ d => isDay d
def Tups (H : Hp) (ts : List (Addr × Dd)) : Prop := ∀ x ∈ ts, H x.1 = some (.tup x.2.v)
/-- what stands while a deed is drawn: the pen, one more cell, some tuples -/
structure Dr (p : Addr) (c : Nat) (t : Addr) (o : HO) (H H' : Hp) (ts : List (Addr × Dd)) : Prop where
  pen : Pen H' p c
  kp : Kp p H H'
  cell : H' t = some o
  ne : t ≠ p
  tp : Tups H' ts
theorem Dr.new {p t u : Addr} {c : Nat} {o o' : HO} {H H' : Hp} {ts : List (Addr × Dd)} (h : Dr p c t o H H' ts) (f : H' u = none) : Dr p c t o H (upd H' u o') ts := by
  have s := same_new (o := o') f
  exact ⟨h.pen.same s, h.kp.trans (Kp.same s), s _ _ h.cell, h.ne, fun x hx => s _ _ (h.tp x hx)⟩
theorem Dr.tup {p t u : Addr} {c : Nat} {o : HO} {H H' : Hp} {ts : List (Addr × Dd)} (h : Dr p c t o H H' ts) (f : H' u = none) (x : Dd) : Dr p c t o H (upd H' u (.tup x.v)) (ts ++ [(u, x)]) := by
  have n := h.new (o' := .tup x.v) f
  refine ⟨n.pen, n.kp, n.cell, n.ne, fun y hy => ?_⟩
  rcases List.mem_append.mp hy with hy | hy
  · exact n.tp y hy
  · cases List.mem_singleton.mp hy
    exact upd_same
theorem Dr.kpp {p t : Addr} {c c' : Nat} {o : HO} {H H' H'' : Hp} {ts : List (Addr × Dd)} (h : Dr p c t o H H' ts) (k : Kp p H' H'') (pen : Pen H'' p c') : Dr p c' t o H H'' ts := by
  refine ⟨pen, h.kp.trans k, k.1 _ _ h.cell h.ne, h.ne, fun x hx => k.1 _ _ (h.tp x hx) ?_⟩
  obtain ⟨l, ns, n, m, hp, _⟩ := h.pen
  exact ne_of (h.tp x hx) hp (by intro z; cases z)
theorem Dr.hold {p t u : Addr} {c : Nat} {o o' : HO} {H H' : Hp} {ts : List (Addr × Dd)} (h : Dr p c t o H H' ts) (f : H' u = none) : Dr p c u o' H (upd H' u o') ts := by
  have n := h.new (o' := o') f
  exact ⟨n.pen, n.kp, upd_same, h.pen.ne_new f, n.tp⟩
theorem Dr.start {p u : Addr} {c : Nat} {o' : HO} {H H' : Hp} (pen : Pen H' p c) (k : Kp p H H') (f : H' u = none) : Dr p c u o' H (upd H' u o') [] :=
  ⟨pen.same (same_new f), k.trans (Kp.same (same_new f)), upd_same, pen.ne_new f, fun x hx => by cases hx⟩
section
variable {P : Program} {w : World} {K : PySem.W.Frag} {mg : Str → Option Value} {base : Heap} {f C CW CP : Addr} {fd : FuncData}
def spLDay : Sp := fun vs H Q _ => ∃ (p : Addr) (c : Nat) (b : Int), vs = [.ref p, .int b] ∧ Pen H p (c + 6) ∧ isDay b ∧ ∀ (n : Int) (H' : Hp), Pen H' p c → Kp p H H' → isDay n → Q (.int n) H'
theorem ok_lday (F : Dn K d_l_day f fd) (b : Bl mg) (cD : CalD P w K mg base) : FnOk P w K mg base CX0 2 f fd ["_law_pen_here", "_law_base"] spLDay := by
  refine F.ok sc_l_day (fun vs H Q E h => ?_) (fun cdv A outer s H vs Q E hr h => ?_)
  · obtain ⟨p, c, b, rfl, _⟩ := h
    rfl
  · obtain ⟨p, c, bs, rfl, pen, hb, hQ⟩ := h
    refine ⟨_, PSs.nox (pss_cons (ps_set (i := 2) sc_l_day.nd rfl (.inl rfl) (pe_lst (pa_cons (pe_op op_add (pv 1) (pe_c cD hr (by decide) rfl (pa_cons (pv 0) (pa_cons pe_int pa_nil)))) (pa_cons (pe_op op_add (pv 1) (pe_c cD hr (by decide) rfl (pa_cons (pv 0) (pa_cons pe_int pa_nil))))
        (pa_cons (pe_op op_add (pv 1) (pe_c cD hr (by decide) rfl (pa_cons (pv 0) (pa_cons pe_int pa_nil)))) (pa_cons (pe_c cD hr (by decide) rfl (pa_cons (pv 0) (pa_cons pe_int pa_nil))) pa_nil))))))
      (pss_one (ps_ret (pe_callB (call_min2 rfl) rfl b.min boot_min (pa_cons pe_int (pa_cons (pe_ix ix_list (pe_op op_cat (pv 2) (pe_lst (pa_cons (pe_op op_sub pe_int (pe_c cD hr (by decide) rfl (pa_cons (pv 0) (pa_cons pe_int pa_nil)))) pa_nil))) (pe_c cD hr (by decide) rfl (pa_cons (pv 0) (pa_cons pe_int pa_nil))) (fun _ _ => rfl)) pa_nil)))))), ?_⟩
    obtain ⟨b0, b1⟩ := hb
    refine ⟨_, rfl, _, rfl, p, c + 5, 25, rfl, pen, by decide, by decide, fun r1 H1 a1 z1 pen1 k1 => ?_⟩
    refine ⟨_, _, rfl, rfl, _, rfl, _, rfl, p, c + 4, 25, rfl, pen1, by decide, by decide, fun r2 H2 a2 z2 pen2 k2 => ?_⟩
    refine ⟨_, _, rfl, rfl, _, rfl, _, rfl, p, c + 3, 60, rfl, pen2, by decide, by decide, fun r3 H3 a3 z3 pen3 k3 => ?_⟩
    refine ⟨_, _, rfl, rfl, _, rfl, p, c + 2, 1000001, rfl, pen3, by decide, by decide, fun r4 H4 a4 z4 pen4 k4 => ?_⟩
    refine ⟨by show 4 ≤ sizeLine; decide, fun u fu => ?_⟩
    have D0 : Dr p (c + 2) u (.lst ([bs + r1, bs + r2, bs + r3, r4].map V.int)) H _ [] := Dr.start pen4 (((k1.trans k2).trans k3).trans k4) fu
    have D0' : Dr p (c + 2) u (.lst ([bs + r1, bs + r2, bs + r3, r4].map V.int)) H (upd H4 u (.lst [V.int (bs + r1), V.int (bs + r2), V.int (bs + r3), V.int r4])) [] := D0
    clear D0
    generalize upd H4 u (.lst [V.int (bs + r1), V.int (bs + r2), V.int (bs + r3), V.int r4]) = H5 at D0' ⊢
    refine ⟨_, rfl, _, rfl, p, c + 1, 3, rfl, D0'.pen, by decide, by decide, fun r5 H6 a5 z5 pen6 k6 => ?_⟩
    have D1 := D0'.kpp k6 pen6
    refine ⟨_, _, rfl, rfl, by show 1 ≤ sizeLine; decide, fun v fv => ?_⟩
    have D2 := D1.new (o' := .lst ([1000000 - r5].map V.int)) fv
    have nuv : u ≠ v := ne_of_none D1.cell fv
    refine ⟨u, v, _, _, rfl, rfl, D2.cell, upd_same, by show 5 ≤ sizeLine; decide, fun x fx => ?_⟩
    have D3 := D2.hold (o' := .lst ([bs + r1, bs + r2, bs + r3, r4, 1000000 - r5].map V.int)) fx
    refine ⟨_, rfl, p, c, 5, rfl, D3.pen, by decide, by decide, fun r6 H7 a6 z6 pen7 k7 => ?_⟩
    have D4 := D3.kpp k7 pen7
    obtain ⟨n, hn, en⟩ := pick (fun v : Int => V.int v) (L := [bs + r1, bs + r2, bs + r3, r4, 1000000 - r5]) a6 (by simpa using z6)
    refine ⟨x, _, _, _, rfl, rfl, SqL.of D4.cell, en, _, _, rfl, ?_⟩
    refine hQ _ _ D4.pen D4.kp ?_
    have hn0 : 0 ≤ n := by
      simp only [List.mem_cons, List.not_mem_nil, or_false] at hn
      rcases hn with rfl | rfl | rfl | rfl | rfl <;> omega
    unfold isDay
    split <;> omega
/-- a deed drawn -/
def spDeed : Sp := fun vs H Q _ => ∃ (p kl : Addr) (c : Nat) (zs : List (List Nat)) (b : Int), vs = [.ref p, .ref kl, .int b] ∧ Pen H p (c + 20) ∧ kl ≠ p ∧ H kl = some (.lst (zs.map fun l => V.str (S l))) ∧ zs ≠ [] ∧ zs.length ≤ 100 ∧ isDay b ∧
  ∀ (t : Addr) (x : Dd) (H' : Hp), Pen H' p c → Kp p H H' → H' t = some (.tup x.v) → x.l ∈ zs → x.ok → Q (.ref t) H'
theorem ok_deed (F : Dn K d_l_deed f fd) (b : Bl mg) (cD : CalD P w K mg base) (cY : Cal P w K mg base 2 "_law_day" spLDay []) : FnOk P w K mg base CX0 3 f fd ["_law_pen_here", "_law_some_names", "_law_base"] spDeed := by
  refine F.ok sc_l_deed (fun vs H Q E h => ?_) (fun cdv A outer s H vs Q E hr h => ?_)
  · obtain ⟨p, kl, c, zs, b, rfl, _⟩ := h
    rfl
  · obtain ⟨p, kl, c, zs, bs, rfl, pen, nkp, hkl, zne, zlen, hb, hQ⟩ := h
    refine ⟨_, PSs.nox (pss_cons (ps_par (i := 3) (j := 4) rfl sc_l_deed.nd rfl rfl (by decide) rfl rfl (pa_cons (pe_ix ix_list (pv 1) (pe_c cD hr (by decide) rfl (pa_cons (pv 0) (pa_cons (pe_callB call_len_seq rfl b.len boot_len (pa_cons (pv 1) pa_nil)) pa_nil))) (fun _ _ => rfl)) (pa_cons (pe_c cY hr (by decide) rfl (pa_cons (pv 0) (pa_cons (pv 2) pa_nil))) pa_nil)) rfl)
      (pss_cons (ps_set (i := 5) sc_l_deed.nd rfl (.inl rfl) (pe_callB (call_min2 rfl) rfl b.min boot_min (pa_cons pe_int (pa_cons (pe_op op_add (pv 4) (pe_c cD hr (by decide) rfl (pa_cons (pv 0) (pa_cons pe_int pa_nil)))) pa_nil))))
      (pss_cons (ps_set (i := 6) sc_l_deed.nd rfl (.inl rfl) (pe_lst (pa_cons (pe_tup (pa_cons pe_str (pa_cons (pv 3) (pa_cons (pv 4) pa_nil)))) (pa_cons (pe_tup (pa_cons pe_str (pa_cons (pv 3) (pa_cons (pe_c cD hr (by decide) rfl (pa_cons (pv 0) (pa_cons pe_int pa_nil))) (pa_cons (pv 4) pa_nil)))))
        (pa_cons (pe_tup (pa_cons pe_str (pa_cons (pv 3) (pa_cons (pv 4) (pa_cons pe_bl pa_nil))))) pa_nil)))))
      (pss_cons (ps_set (i := 6) sc_l_deed.nd rfl (.inl rfl) (pe_op op_cat (pv 6) (pe_lst (pa_cons (pe_tup (pa_cons pe_str (pa_cons (pv 3) (pa_cons (pv 4) (pa_cons pe_bl pa_nil))))) (pa_cons (pe_tup (pa_cons pe_str (pa_cons (pv 3) (pa_cons (pv 4) pa_nil))))
        (pa_cons (pe_tup (pa_cons pe_str (pa_cons (pv 3) (pa_cons (pv 4) (pa_cons (pv 5) pa_nil))))) pa_nil))))))
      (pss_cons (ps_set (i := 6) sc_l_deed.nd rfl (.inl rfl) (pe_op op_cat (pv 6) (pe_lst (pa_cons (pe_tup (pa_cons pe_str (pa_cons (pv 3) (pa_cons (pv 4) pa_nil)))) (pa_cons (pe_tup (pa_cons pe_str (pa_cons (pv 3) (pa_cons (pe_c cD hr (by decide) rfl (pa_cons (pv 0) (pa_cons pe_int pa_nil)))
        (pa_cons (pe_ix ix_list (pe_lst (pa_cons (pv 4) (pa_cons pe_int pa_nil))) (pe_c cD hr (by decide) rfl (pa_cons (pv 0) (pa_cons pe_int pa_nil))) (fun _ _ => rfl)) pa_nil))))) pa_nil)))))
      (pss_one (ps_ret (pe_ix ix_list (pe_op op_cat (pv 6) (pe_lst (pa_cons (pe_tup (pa_cons pe_str (pa_cons (pv 3) (pa_cons (pv 4) (pa_cons (pv 4) pa_nil))))) pa_nil))) (pe_c cD hr (by decide) rfl (pa_cons (pv 0) (pa_cons pe_int pa_nil))) (fun _ _ => rfl))))))))), ?_⟩
    have zpos : 0 < zs.length := List.length_pos_iff.mpr zne
    refine ⟨_, rfl, _, rfl, _, rfl, kl, _, rfl, .inl (SqL.of hkl), p, c + 19, _, rfl, pen, by rw [List.length_map]; omega, by rw [List.length_map]; omega, fun r1 H1 a1 z1 pen1 k1 => ?_⟩
    rw [List.length_map] at z1
    obtain ⟨l, hl, el⟩ := pick (fun l : List Nat => V.str (S l)) a1 z1
    refine ⟨kl, _, _, _, rfl, rfl, SqL.of (k1.1 _ _ hkl nkp), el, ?_⟩
    refine ⟨_, rfl, _, rfl, p, c + 13, bs, rfl, pen1, hb, fun d H2 pen2 k2 hd => ⟨_, _, rfl, ?_⟩⟩
    refine ⟨_, rfl, _, rfl, p, c + 12, 15, rfl, pen2, by decide, by decide, fun r3 H3 a3 z3 pen3 k3 => ?_⟩
    refine ⟨_, _, rfl, rfl, _, _, rfl, ?_⟩
    obtain ⟨fr, efr, hfr0, hfr1⟩ : ∃ fr : Int, fr = (if d + r3 < 1000000 then d + r3 else 1000000) ∧ d ≤ fr ∧ fr ≤ 1000000 := ⟨_, rfl, by obtain ⟨d0, d1⟩ := hd; split <;> omega, by split <;> omega⟩
    rw [← efr]
    have k03 := (k1.trans k2).trans k3
    have D0 : Dr p (c + 12) kl (.lst (zs.map fun l => V.str (S l))) H H3 [] := ⟨pen3, k03, k03.1 _ _ hkl nkp, nkp, fun x hx => by cases hx⟩
    refine ⟨_, rfl, _, rfl, by show 3 ≤ sizeLine; decide, fun u1 fu1 => ?_⟩
    have D1 := D0.tup fu1 (.leave l d)
    have ED1 : Dr p _ _ _ H (upd H3 u1 (.tup [.str (Str.ofString "leave"), .str (S l), .int d])) _ := D1
    clear D1
    generalize upd H3 u1 (.tup [.str (Str.ofString "leave"), .str (S l), .int d]) = H4 at ED1 ⊢
    refine ⟨_, rfl, _, rfl, p, c + 11, 128, rfl, ED1.pen, by decide, by decide, fun m H5 aH5 zH5 penH5 kH5 => ?_⟩
    have D2 := ED1.kpp kH5 penH5
    obtain ⟨m, rfl⟩ := Int.eq_ofNat_of_zero_le aH5
    refine ⟨_, rfl, by show 4 ≤ sizeLine; decide, fun u2 fu2 => ?_⟩
    have D3 := D2.tup fu2 (.weekly l m d)
    have ED3 : Dr p _ _ _ H (upd H5 u2 (.tup [.str (Str.ofString "weekly"), .str (S l), .int (m : Int), .int d])) _ := D3
    clear D3
    generalize upd H5 u2 (.tup [.str (Str.ofString "weekly"), .str (S l), .int (m : Int), .int d]) = H6 at ED3 ⊢
    refine ⟨_, rfl, _, rfl, by show 4 ≤ sizeLine; decide, fun u3 fu3 => ?_⟩
    have D4 := ED3.tup fu3 (.only l d true)
    have ED4 : Dr p _ _ _ H (upd H6 u3 (.tup [.str (Str.ofString "only"), .str (S l), .int d, .bl true])) _ := D4
    clear D4
    generalize upd H6 u3 (.tup [.str (Str.ofString "only"), .str (S l), .int d, .bl true]) = H7 at ED4 ⊢
    refine ⟨by show 3 ≤ sizeLine; decide, fun t1 ft1 => ?_⟩
    have D5 := ED4.hold (o' := (.lst [.ref u1, .ref u2, .ref u3])) ft1
    generalize upd H7 t1 (.lst [.ref u1, .ref u2, .ref u3]) = H8 at D5 ⊢
    refine ⟨_, rfl, _, rfl, _, rfl, by show 4 ≤ sizeLine; decide, fun u4 fu4 => ?_⟩
    have D6 := D5.tup fu4 (.only l d false)
    have ED6 : Dr p _ _ _ H (upd H8 u4 (.tup [.str (Str.ofString "only"), .str (S l), .int d, .bl false])) _ := D6
    clear D6
    generalize upd H8 u4 (.tup [.str (Str.ofString "only"), .str (S l), .int d, .bl false]) = H9 at ED6 ⊢
    refine ⟨_, rfl, _, rfl, by show 3 ≤ sizeLine; decide, fun u5 fu5 => ?_⟩
    have D7 := ED6.tup fu5 (.usual l d)
    have ED7 : Dr p _ _ _ H (upd H9 u5 (.tup [.str (Str.ofString "usual"), .str (S l), .int d])) _ := D7
    clear D7
    generalize upd H9 u5 (.tup [.str (Str.ofString "usual"), .str (S l), .int d]) = H13 at ED7 ⊢
    refine ⟨_, rfl, _, rfl, _, rfl, by show 4 ≤ sizeLine; decide, fun u6 fu6 => ?_⟩
    have D8 := ED7.tup fu6 (.sick l d fr)
    have ED8 : Dr p _ _ _ H (upd H13 u6 (.tup [.str (Str.ofString "sick"), .str (S l), .int d, .int fr])) _ := D8
    clear D8
    generalize upd H13 u6 (.tup [.str (Str.ofString "sick"), .str (S l), .int d, .int fr]) = H11 at ED8 ⊢
    refine ⟨by show 3 ≤ sizeLine; decide, fun t2 ft2 => ?_⟩
    have D9 := ED8.new (o' := (.lst [.ref u4, .ref u5, .ref u6])) ft2
    have hht2 : (upd H11 t2 (.lst [.ref u4, .ref u5, .ref u6])) t2 = some (.lst [.ref u4, .ref u5, .ref u6]) := upd_same
    generalize upd H11 t2 (.lst [.ref u4, .ref u5, .ref u6]) = H12 at D9 hht2 ⊢
    refine ⟨t1, t2, _, _, rfl, rfl, D9.cell, hht2, by show 6 ≤ sizeLine; decide, fun t3 ft3 => ?_⟩
    have D13' := D9.hold (o' := (.lst [.ref u1, .ref u2, .ref u3, .ref u4, .ref u5, .ref u6])) ft3
    have D13 : Dr p _ _ (.lst [.ref u1, .ref u2, .ref u3, .ref u4, .ref u5, .ref u6]) H (upd H12 t3 (.lst ([.ref u1, .ref u2, .ref u3] ++ [.ref u4, .ref u5, .ref u6]))) _ := D13'
    clear D13'
    generalize upd H12 t3 (.lst ([.ref u1, .ref u2, .ref u3] ++ [.ref u4, .ref u5, .ref u6])) = H13 at D13 ⊢
    refine ⟨_, rfl, _, rfl, _, rfl, by show 3 ≤ sizeLine; decide, fun u7 fu7 => ?_⟩
    have D11 := D13.tup fu7 (.well l d)
    have ED11 : Dr p _ _ _ H (upd H13 u7 (.tup [.str (Str.ofString "well"), .str (S l), .int d])) _ := D11
    clear D11
    generalize upd H13 u7 (.tup [.str (Str.ofString "well"), .str (S l), .int d]) = H14 at ED11 ⊢
    refine ⟨_, rfl, _, rfl, p, c + 10, 128, rfl, ED11.pen, by decide, by decide, fun m2 H15 aH15 zH15 penH15 kH15 => ?_⟩
    have D12 := ED11.kpp kH15 penH15
    obtain ⟨m2, rfl⟩ := Int.eq_ofNat_of_zero_le aH15
    refine ⟨_, rfl, by show 2 ≤ sizeLine; decide, fun v fv => ?_⟩
    have D13 := D12.new (o' := .lst [.int d, .int 0]) fv
    have hv : (upd H15 v (.lst [.int d, .int 0])) v = some (.lst ([d, 0].map V.int)) := upd_same
    have nvp := D12.pen.ne_new fv
    generalize upd H15 v (.lst [.int d, .int 0]) = H16 at D13 hv ⊢
    refine ⟨_, rfl, p, c + 9, 2, rfl, D13.pen, by decide, by decide, fun r7 H17 aH17 zH17 penH17 kH17 => ?_⟩
    have D14 := D13.kpp kH17 penH17
    obtain ⟨d2, hd2, ed2⟩ := pick (fun v : Int => V.int v) (L := [d, 0]) aH17 (by simpa using zH17)
    have hd2' : isDay d2 := by
      simp only [List.mem_cons, List.not_mem_nil, or_false] at hd2
      rcases hd2 with rfl | rfl
      · exact hd
      · exact ⟨by decide, by decide⟩
    refine ⟨v, _, _, _, rfl, rfl, SqL.of (kH17.1 _ _ hv nvp), ed2, ?_⟩
    refine ⟨by show 4 ≤ sizeLine; decide, fun u8 fu8 => ?_⟩
    have D15 := D14.tup fu8 (.weekly l m2 d2)
    have ED15 : Dr p _ _ _ H (upd H17 u8 (.tup [.str (Str.ofString "weekly"), .str (S l), .int (m2 : Int), .int d2])) _ := D15
    clear D15
    generalize upd H17 u8 (.tup [.str (Str.ofString "weekly"), .str (S l), .int (m2 : Int), .int d2]) = H18 at ED15 ⊢
    refine ⟨by show 2 ≤ sizeLine; decide, fun t4 ft4 => ?_⟩
    have D16 := ED15.new (o' := (.lst [.ref u7, .ref u8])) ft4
    have hht4 : (upd H18 t4 (.lst [.ref u7, .ref u8])) t4 = some (.lst [.ref u7, .ref u8]) := upd_same
    generalize upd H18 t4 (.lst [.ref u7, .ref u8]) = H19 at D16 hht4 ⊢
    refine ⟨t3, t4, _, _, rfl, rfl, D16.cell, hht4, by show 8 ≤ sizeLine; decide, fun t5 ft5 => ?_⟩
    have D17' := D16.hold (o' := (.lst [.ref u1, .ref u2, .ref u3, .ref u4, .ref u5, .ref u6, .ref u7, .ref u8])) ft5
    have D17 : Dr p _ _ (.lst [.ref u1, .ref u2, .ref u3, .ref u4, .ref u5, .ref u6, .ref u7, .ref u8]) H (upd H19 t5 (.lst ([.ref u1, .ref u2, .ref u3, .ref u4, .ref u5, .ref u6] ++ [.ref u7, .ref u8]))) _ := D17'
    clear D17'
    generalize upd H19 t5 (.lst ([.ref u1, .ref u2, .ref u3, .ref u4, .ref u5, .ref u6] ++ [.ref u7, .ref u8])) = H20 at D17 ⊢
    refine ⟨_, rfl, _, rfl, _, rfl, _, rfl, by show 4 ≤ sizeLine; decide, fun u9 fu9 => ?_⟩
    have D18 := D17.tup fu9 (.sick l d d)
    have ED18 : Dr p _ _ _ H (upd H20 u9 (.tup [.str (Str.ofString "sick"), .str (S l), .int d, .int d])) _ := D18
    clear D18
    generalize upd H20 u9 (.tup [.str (Str.ofString "sick"), .str (S l), .int d, .int d]) = H21 at ED18 ⊢
    refine ⟨by show 1 ≤ sizeLine; decide, fun t6 ft6 => ?_⟩
    have D19 := ED18.new (o' := (.lst [.ref u9])) ft6
    have hht6 : (upd H21 t6 (.lst [.ref u9])) t6 = some (.lst [.ref u9]) := upd_same
    generalize upd H21 t6 (.lst [.ref u9]) = H22 at D19 hht6 ⊢
    refine ⟨t5, t6, _, _, rfl, rfl, D19.cell, hht6, by show 9 ≤ sizeLine; decide, fun t7 ft7 => ?_⟩
    have D20' := D19.hold (o' := (.lst [.ref u1, .ref u2, .ref u3, .ref u4, .ref u5, .ref u6, .ref u7, .ref u8, .ref u9])) ft7
    have D20 : Dr p _ _ (.lst [.ref u1, .ref u2, .ref u3, .ref u4, .ref u5, .ref u6, .ref u7, .ref u8, .ref u9]) H (upd H22 t7 (.lst ([.ref u1, .ref u2, .ref u3, .ref u4, .ref u5, .ref u6, .ref u7, .ref u8] ++ [.ref u9]))) _ := D20'
    clear D20'
    generalize upd H22 t7 (.lst ([.ref u1, .ref u2, .ref u3, .ref u4, .ref u5, .ref u6, .ref u7, .ref u8] ++ [.ref u9])) = H23 at D20 ⊢
    refine ⟨_, rfl, p, c + 8, 9, rfl, D20.pen, by decide, by decide, fun r9 H24 aH24 zH24 penH24 kH24 => ?_⟩
    have D21 := D20.kpp kH24 penH24
    obtain ⟨x, hx, ex⟩ := pick (fun x : Addr × Dd => V.ref x.1) (L := ([(u1, .leave l d), (u2, .weekly l m d), (u3, .only l d true), (u4, .only l d false), (u5, .usual l d), (u6, .sick l d fr), (u7, .well l d), (u8, .weekly l m2 d2), (u9, .sick l d d)] : List (Addr × Dd))) aH24 (by simpa using zH24)
    refine ⟨t7, _, _, _, rfl, rfl, SqL.of D21.cell, ex, ?_⟩
    refine hQ x.1 x.2 _ (D21.pen.weak (by omega)) D21.kp (D21.tp x (by simpa using hx)) ?_ ?_
    · simp only [List.mem_cons, List.not_mem_nil, or_false] at hx
      rcases hx with rfl | rfl | rfl | rfl | rfl | rfl | rfl | rfl | rfl <;> exact hl
    · simp only [List.mem_cons, List.not_mem_nil, or_false] at hx
      rcases hx with rfl | rfl | rfl | rfl | rfl | rfl | rfl | rfl | rfl
      · exact hd
      · exact ⟨by omega, hd⟩
      · exact hd
      · exact hd
      · exact hd
      · exact ⟨hd, hfr0, Int.le_trans hd.1 hfr0, hfr1⟩
      · exact hd
      · exact ⟨by omega, hd2'⟩
      · exact ⟨hd, Int.le_refl _, hd⟩
end
end K14
set_option Elab.async false
set_option linter.all false
set_option maxRecDepth 100000
set_option maxHeartbeats 4000000
namespace K14
open PySem PySem.Spec PyProof.Rows L2
open C8 (Cal Mak Met pe_c pe_mk pe_mt pe_mt0)
open SX (S)
theorem zero_text {d : Int} (h : isDay d) (e : Str.ofString (toString d) = Str.ofString "0") : d = 0 := by
  obtain ⟨n, rfl⟩ := Int.eq_ofNat_of_zero_le h.1
  have hn : n < 10 ^ 8 := by have := h.2; omega
  have h1 := TL.int_num (n := n) (Nat.le_trans (TL.numL_len (k := 8) (by decide) hn) (by decide))
  have h2 : intText? (Str.ofString "0") = some 0 := TL.int_num (n := 0) (by decide)
  have h1' : intText? (Str.ofString (toString (n : Int))) = some (n : Int) := h1
  rw [show Str.ofString (toString (n : Int)) = Str.ofString "0" from e, h2] at h1'
  exact (Option.some.inj h1').symm
theorem day_log {d : Int} (h : isDay d) : d.natAbs.log2 < 1920 := by
  by_cases z : d.natAbs = 0
  · rw [z]
    decide
  · have h1 : d.natAbs < 2 ^ 20 := by have := h.1; have := h.2; omega
    exact Nat.lt_trans ((Nat.log2_lt z).mpr h1) (by decide)
theorem if_no {a b : Str} {R T : Prop} (h : ¬ a = b) (t : T) : if decide (V.str a = V.str b) = true then R else T := by
  rw [decide_eq_false (fun z => h (V.str.inj z))]
  simpa using t
theorem if_yes {a : Str} {R T : Prop} (t : R) : if decide (V.str a = V.str a) = true then R else T := by
  rw [decide_eq_true rfl]
  simpa using t
/-- what a deed does to a wish -/
def Dd.act : Dd → Ws → Ws
  | .leave _ d => leaveW d
  | .weekly _ m d => weeklyW m d
  | .only _ d b => onlyW d b
  | .usual _ d => usualW d
  | .sick _ a t => sickW a t
  | .well _ d => wellW d
/-- what the usual asks -/
def Dd.can : Dd → Ws → Prop
  | .usual _ d, z => (getI z.al d).isSome = true
  | _, _ => True
section
variable {P : Program} {w : World} {K : PySem.W.Frag} {mg : Str → Option Value} {base : Heap} {f C CW CP : Addr} {fd : FuncData}
structure Mts (P : Program) (w : World) (K : PySem.W.Frag) (mg : Str → Option Value) (base : Heap) (C CW : Addr) : Prop where
  lv : Met P w K mg base 5 C "leave" (spLeave C CW) []
  wk : Met P w K mg base 5 C "weekly" (spWeekly C CW) []
  wk0 : Met P w K mg base 5 C "weekly" (spWeekly C CW) [.int 0]
  on : Met P w K mg base 5 C "only" (spOnly C CW) []
  on0 : Met P w K mg base 5 C "only" (spOnly C CW) [.bl true]
  us : Met P w K mg base 5 C "usual" (spUsual C CW) []
  sk : Met P w K mg base 6 C "sick" (spSick C CW) []
  we : Met P w K mg base 5 C "well" (spWell C CW) []
def spDone (C CW : Addr) : Sp := fun vs H Q _ => ∃ (kw t : Addr) (ds : List Dt) (cs : List Addr) (x : Dd) (z : Ws) (n : Nat), vs = [.ref kw, .ref t] ∧ Kd C CW H kw ds cs ∧ H t = some (.tup x.v) ∧ (x.l, z) ∈ ds ∧ Wok n z ∧ n ≤ 1000 ∧ x.ok ∧ x.can z ∧
  ∀ H' cs', Kd C CW H' kw (upW ds x.l x.act) cs' → Fr H H' cs cs' → Q .non H'
theorem ok_done (F : Dn K d_l_done f fd) (b : Bl mg) (brep : mg "repr" = none) (M : Mts P w K mg base C CW) : FnOk P w K mg base CX0 7 f fd ["_law_kept", "_law_deed_here"] (spDone C CW) := by
  refine F.ok sc_l_done (fun vs H Q E h => ?_) (fun cdv A outer s H vs Q E hr h => ?_)
  · obtain ⟨kw, t, ds, cs, x, z, n, rfl, _⟩ := h
    rfl
  · obtain ⟨kw, t, ds, cs, x, z, n, rfl, hk, ht, hm, wok, hn, hok, hcan, hQ⟩ := h
    refine ⟨_, PSs.nox (pss_cons (ps_par3 (i := 2) (j := 3) (l := 4) rfl sc_l_done.nd rfl rfl rfl (by decide) (by decide) (by decide) rfl rfl rfl (pa_cons (pe_ix ix_tup (pv 1) pe_int (fun _ _ => rfl)) (pa_cons (pe_ix ix_tup (pv 1) pe_int (fun _ _ => rfl)) (pa_cons (pe_ix ix_tup (pv 1) pe_int (fun _ _ => rfl)) pa_nil))) rfl)
      (pss_cons (ps_if (pt_cmpR op_eq (pv 2) pe_str (nomark _)) (pss_one (ps_ret (pe_mt M.lv hr (by decide) (pv 0) (pa_cons (pv 3) (pa_cons (pv 4) pa_nil))))) pss_nil)
      (pss_cons (ps_if (PW.pt (pw_and (pt_cmpR op_eq (pv 2) pe_str (nomark _)) (pw_and1 (pt_cmpR op_eq (pe_callB SkE.call_repr_int rfl brep boot_repr (pa_cons (pe_ix ix_tup (pv 1) pe_int (fun _ _ => rfl)) pa_nil)) pe_str (nomark _)))))
        (pss_one (ps_ret (pe_mt M.wk0 hr (by decide) (pv 0) (pa_cons (pv 3) (pa_cons (pe_ix ix_tup (pv 1) pe_int (fun _ _ => rfl)) pa_nil))))) pss_nil)
      (pss_cons (ps_if (pt_cmpR op_eq (pv 2) pe_str (nomark _)) (pss_one (ps_ret (pe_mt M.wk hr (by decide) (pv 0) (pa_cons (pv 3) (pa_cons (pe_ix ix_tup (pv 1) pe_int (fun _ _ => rfl)) (pa_cons (pe_ix ix_tup (pv 1) pe_int (fun _ _ => rfl)) pa_nil)))))) pss_nil)
      (pss_cons (ps_if (PW.pt (pw_and (pt_cmpR op_eq (pv 2) pe_str (nomark _)) (pw_and (pt_val (pe_ix ix_tup (pv 1) pe_int (fun _ _ => rfl))) (pw_and (pt_val (pe_callB call_isi rfl b.isi boot_isinstance (pa_cons (pv 4) (pa_cons (pe_bltn (v := .ty "int") rfl b.int boot_int rfl) pa_nil))))
          (pw_and1 (pt_cmpR op_eq (pe_op op_mod (pv 4) pe_int) pe_int (nomark _)))))))
        (pss_one (ps_ret (pe_mt M.on0 hr (by decide) (pv 0) (pa_cons (pv 3) (pa_cons (pv 4) pa_nil))))) pss_nil)
      (pss_cons (ps_if (pt_cmpR op_eq (pv 2) pe_str (nomark _)) (pss_one (ps_ret (pe_mt M.on hr (by decide) (pv 0) (pa_cons (pv 3) (pa_cons (pv 4) (pa_cons (pe_ix ix_tup (pv 1) pe_int (fun _ _ => rfl)) pa_nil)))))) pss_nil)
      (pss_cons (ps_if (pt_cmpR op_eq (pv 2) pe_str (nomark _)) (pss_one (ps_ret (pe_mt M.us hr (by decide) (pv 0) (pa_cons (pv 3) (pa_cons (pv 4) pa_nil))))) pss_nil)
      (pss_cons (ps_if (pt_cmpR op_eq (pv 2) pe_str (nomark _)) (pss_one (ps_ret (pe_mt M.sk hr (by decide) (pv 0) (pa_cons (pv 3) (pa_cons (pv 4) (pa_cons (pe_ix ix_tup (pv 1) pe_int (fun _ _ => rfl)) pa_nil)))))) pss_nil)
      (pss_one (ps_ret (pe_mt M.we hr (by decide) (pv 0) (pa_cons (pv 3) (pa_cons (pv 4) pa_nil))))))))))))), ?_⟩
    obtain ⟨wd, zs, e1, e2, hk'⟩ := id hk
    obtain ⟨dk, hkw⟩ := hk'.at_
    have sq : ∀ {X : Cx}, SqT K H t x.v := SqT.of ht
    have kno : ∀ {m : Str}, ¬ m = "wishes" → (kwF wd).lookup m = none := fun h => kw_no wd h
    cases x with
    | leave l d =>
      refine ⟨_, rfl, t, _, _, _, rfl, rfl, SqT.of ht, rfl, _, rfl, t, _, _, _, rfl, rfl, SqT.of ht, rfl, _, rfl, t, _, _, _, rfl, rfl, SqT.of ht, rfl, _, _, _, rfl, ?_⟩
      refine ⟨_, rfl, rfl, _, rfl, if_yes ?_⟩
      exact ⟨_, rfl, kw, dk, _, rfl, hkw, kno (by decide +kernel), _, rfl, _, rfl, kw, ds, cs, l, z, d, rfl, hk, hm, hok.1, hok.2, hQ⟩
    | weekly l m d =>
      refine ⟨_, rfl, t, _, _, _, rfl, rfl, SqT.of ht, rfl, _, rfl, t, _, _, _, rfl, rfl, SqT.of ht, rfl, _, rfl, t, _, _, _, rfl, rfl, SqT.of ht, rfl, _, _, _, rfl, ?_⟩
      refine ⟨_, rfl, rfl, _, rfl, if_no (by decide +kernel) ?_⟩
      refine ⟨_, rfl, rfl, _, rfl, if_yes ?_⟩
      refine ⟨_, rfl, t, _, _, _, rfl, rfl, SqT.of ht, rfl, d, rfl, day_log hok.2, rfl, _, rfl, ?_⟩
      have hm1 := hok.1
      have hd0 := hok.2.1
      have hd1 := hok.2.2
      have hms := wok.nm
      refine ite2 (fun c => ?_) (fun c => ?_)
      · have ed : d = 0 := zero_text hok.2 (V.str.inj (of_decide_eq_true c))
        subst ed
        exact ⟨_, rfl, kw, dk, _, rfl, hkw, kno (by decide +kernel), _, rfl, _, rfl, t, _, _, _, rfl, rfl, SqT.of ht, rfl, kw, ds, cs, l, z, m, 0, rfl, hk, hm, by omega, hm1, hd0, hd1, hQ⟩
      · refine ⟨_, rfl, rfl, _, rfl, if_yes ?_⟩
        exact ⟨_, rfl, kw, dk, _, rfl, hkw, kno (by decide +kernel), _, rfl, _, rfl, t, _, _, _, rfl, rfl, SqT.of ht, rfl, _, rfl, t, _, _, _, rfl, rfl, SqT.of ht, rfl, kw, ds, cs, l, z, m, d, rfl, hk, hm, by omega, hm1, hd0, hd1, hQ⟩
    | only l d bb =>
      refine ⟨_, rfl, t, _, _, _, rfl, rfl, SqT.of ht, rfl, _, rfl, t, _, _, _, rfl, rfl, SqT.of ht, rfl, _, rfl, t, _, _, _, rfl, rfl, SqT.of ht, rfl, _, _, _, rfl, ?_⟩
      refine ⟨_, rfl, rfl, _, rfl, if_no (by decide +kernel) ?_⟩
      refine ⟨_, rfl, rfl, _, rfl, if_no (by decide +kernel) ?_⟩
      refine ⟨_, rfl, rfl, _, rfl, if_no (by decide +kernel) ?_⟩
      refine ⟨_, rfl, rfl, _, rfl, if_yes ?_⟩
      have hal := wok.na
      have hd0 := hok.1
      have hd1 := hok.2
      refine ⟨_, rfl, t, _, _, _, rfl, rfl, SqT.of ht, rfl, bb, rfl, ?_⟩
      cases bb with
      | false =>
        refine iteF (iteF ?_)
        refine ⟨_, rfl, rfl, _, rfl, if_yes ?_⟩
        exact ⟨_, rfl, kw, dk, _, rfl, hkw, kno (by decide +kernel), _, rfl, _, rfl, _, rfl, t, _, _, _, rfl, rfl, SqT.of ht, rfl, kw, ds, cs, l, z, d, false, rfl, hk, hm, by omega, hd0, hd1, hQ⟩
      | true =>
        refine iteT ?_
        refine ⟨_, rfl, _, _, _, _, true, rfl, ClsV.ty _, TyX.base (TyOf.int d), kit_ty (by decide +kernel), true, rfl, iteT ?_⟩
        refine ⟨_, rfl, _, _, rfl, rfl, (by decide : (0 : Int) < 2), rfl, _, rfl, ?_⟩
        refine ite2 (fun c => ?_) (fun c => ?_)
        · exact ⟨_, rfl, kw, dk, _, rfl, hkw, kno (by decide +kernel), _, rfl, _, rfl, kw, ds, cs, l, z, d, true, rfl, hk, hm, by omega, hd0, hd1, hQ⟩
        · refine ⟨_, rfl, rfl, _, rfl, if_yes ?_⟩
          exact ⟨_, rfl, kw, dk, _, rfl, hkw, kno (by decide +kernel), _, rfl, _, rfl, _, rfl, t, _, _, _, rfl, rfl, SqT.of ht, rfl, kw, ds, cs, l, z, d, true, rfl, hk, hm, by omega, hd0, hd1, hQ⟩
    | usual l d =>
      refine ⟨_, rfl, t, _, _, _, rfl, rfl, SqT.of ht, rfl, _, rfl, t, _, _, _, rfl, rfl, SqT.of ht, rfl, _, rfl, t, _, _, _, rfl, rfl, SqT.of ht, rfl, _, _, _, rfl, ?_⟩
      refine ⟨_, rfl, rfl, _, rfl, if_no (by decide +kernel) ?_⟩
      refine ⟨_, rfl, rfl, _, rfl, if_no (by decide +kernel) ?_⟩
      refine ⟨_, rfl, rfl, _, rfl, if_no (by decide +kernel) ?_⟩
      refine ⟨_, rfl, rfl, _, rfl, if_no (by decide +kernel) ?_⟩
      refine ⟨_, rfl, rfl, _, rfl, if_no (by decide +kernel) ?_⟩
      refine ⟨_, rfl, rfl, _, rfl, if_yes ?_⟩
      have hal := wok.na
      exact ⟨_, rfl, kw, dk, _, rfl, hkw, kno (by decide +kernel), _, rfl, _, rfl, kw, ds, cs, l, z, d, rfl, hk, hm, by omega, hcan, hok.1, hok.2, hQ⟩
    | sick l a u =>
      refine ⟨_, rfl, t, _, _, _, rfl, rfl, SqT.of ht, rfl, _, rfl, t, _, _, _, rfl, rfl, SqT.of ht, rfl, _, rfl, t, _, _, _, rfl, rfl, SqT.of ht, rfl, _, _, _, rfl, ?_⟩
      refine ⟨_, rfl, rfl, _, rfl, if_no (by decide +kernel) ?_⟩
      refine ⟨_, rfl, rfl, _, rfl, if_no (by decide +kernel) ?_⟩
      refine ⟨_, rfl, rfl, _, rfl, if_no (by decide +kernel) ?_⟩
      refine ⟨_, rfl, rfl, _, rfl, if_no (by decide +kernel) ?_⟩
      refine ⟨_, rfl, rfl, _, rfl, if_no (by decide +kernel) ?_⟩
      refine ⟨_, rfl, rfl, _, rfl, if_no (by decide +kernel) ?_⟩
      refine ⟨_, rfl, rfl, _, rfl, if_yes ?_⟩
      have hsp := wok.ns
      exact ⟨_, rfl, kw, dk, _, rfl, hkw, kno (by decide +kernel), _, rfl, _, rfl, _, rfl, t, _, _, _, rfl, rfl, SqT.of ht, rfl, kw, ds, cs, l, z, a, u, rfl, hk, hm, by omega, hok.1.1, hok.2.1, hok.2.2.2, hQ⟩
    | well l d =>
      refine ⟨_, rfl, t, _, _, _, rfl, rfl, SqT.of ht, rfl, _, rfl, t, _, _, _, rfl, rfl, SqT.of ht, rfl, _, rfl, t, _, _, _, rfl, rfl, SqT.of ht, rfl, _, _, _, rfl, ?_⟩
      refine ⟨_, rfl, rfl, _, rfl, if_no (by decide +kernel) ?_⟩
      refine ⟨_, rfl, rfl, _, rfl, if_no (by decide +kernel) ?_⟩
      refine ⟨_, rfl, rfl, _, rfl, if_no (by decide +kernel) ?_⟩
      refine ⟨_, rfl, rfl, _, rfl, if_no (by decide +kernel) ?_⟩
      refine ⟨_, rfl, rfl, _, rfl, if_no (by decide +kernel) ?_⟩
      refine ⟨_, rfl, rfl, _, rfl, if_no (by decide +kernel) ?_⟩
      refine ⟨_, rfl, rfl, _, rfl, if_no (by decide +kernel) ?_⟩
      have hsp := wok.ns
      exact ⟨_, rfl, kw, dk, _, rfl, hkw, kno (by decide +kernel), _, rfl, _, rfl, kw, ds, cs, l, z, d, rfl, hk, hm, by omega, hok.1, hok.2, hQ⟩
end
end K14
set_option Elab.async false
set_option linter.all false
set_option maxRecDepth 100000
set_option maxHeartbeats 4000000
namespace K14
open PySem PySem.Spec PyProof.Rows L2
open C8 (Cal Mak Met pe_c pe_mk pe_mt pe_mt0)
open SX (S)
theorem cut_mem {xs : List V} {lo hi : Option Int} {y : V} (h : y ∈ cutV xs lo hi) : y ∈ xs := List.mem_of_mem_drop (List.mem_of_mem_take h)
theorem cut_lt {α : Type} {g : α → V} {L : List α} {lo hi : Option Int} {i : Nat} {y : V} (h : (cutV (L.map g) lo hi)[i]? = some y) : (∃ x ∈ L, y = g x) ∧ i < L.length := by
  refine ⟨?_, ?_⟩
  · obtain ⟨x, hx, e⟩ := List.mem_map.mp (cut_mem (List.mem_of_getElem? h))
    exact ⟨x, hx, e.symm⟩
  · have h1 := (List.getElem?_eq_some_iff.mp h).1
    have h2 := cutV_length (L.map g) lo hi
    rw [List.length_map] at h2
    omega
/-- what a deed tells behind its name -/
def Dd.tl (x : Dd) : List V := x.v.drop 2
theorem tl_is {x : Dd} (h : x.ok) {y : V} (hy : y ∈ x.tl) : (∃ n : Int, y = .int n ∧ isDay n) ∨ ∃ b, y = .bl b := by
  cases x with
  | leave l d =>
    cases List.mem_singleton.mp (show y ∈ [V.int d] from hy)
    exact .inl ⟨d, rfl, h⟩
  | weekly l m d =>
    have hy' : y ∈ [V.int m, V.int d] := hy
    simp only [List.mem_cons, List.not_mem_nil, or_false] at hy'
    rcases hy' with rfl | rfl
    · exact .inl ⟨m, rfl, by have := h.1; exact ⟨by omega, by omega⟩⟩
    · exact .inl ⟨d, rfl, h.2⟩
  | only l d b =>
    have hy' : y ∈ [V.int d, V.bl b] := hy
    simp only [List.mem_cons, List.not_mem_nil, or_false] at hy'
    rcases hy' with rfl | rfl
    · exact .inl ⟨d, rfl, h⟩
    · exact .inr ⟨b, rfl⟩
  | usual l d =>
    cases List.mem_singleton.mp (show y ∈ [V.int d] from hy)
    exact .inl ⟨d, rfl, h⟩
  | sick l a t =>
    have hy' : y ∈ [V.int a, V.int t] := hy
    simp only [List.mem_cons, List.not_mem_nil, or_false] at hy'
    rcases hy' with rfl | rfl
    · exact .inl ⟨a, rfl, h.1⟩
    · exact .inl ⟨t, rfl, h.2.2⟩
  | well l d =>
    cases List.mem_singleton.mp (show y ∈ [V.int d] from hy)
    exact .inl ⟨d, rfl, h⟩
theorem tl_len (x : Dd) : x.tl.length ≤ 2 := by cases x <;> simp [Dd.tl, Dd.v]
theorem tl_cut (x : Dd) : cutV x.v (some 2) none = x.tl ∧ ¬ (HT.sIx x.v.length 0 (some 2) = 0 ∧ HT.sIx x.v.length x.v.length none = x.v.length) := by
  cases x with
  | leave l d => exact ⟨rfl, fun h => absurd h.1 (by show ¬ HT.sIx 3 0 (some 2) = 0; decide)⟩
  | weekly l m d => exact ⟨rfl, fun h => absurd h.1 (by show ¬ HT.sIx 4 0 (some 2) = 0; decide)⟩
  | only l d b => exact ⟨rfl, fun h => absurd h.1 (by show ¬ HT.sIx 4 0 (some 2) = 0; decide)⟩
  | usual l d => exact ⟨rfl, fun h => absurd h.1 (by show ¬ HT.sIx 3 0 (some 2) = 0; decide)⟩
  | sick l a t => exact ⟨rfl, fun h => absurd h.1 (by show ¬ HT.sIx 4 0 (some 2) = 0; decide)⟩
  | well l d => exact ⟨rfl, fun h => absurd h.1 (by show ¬ HT.sIx 3 0 (some 2) = 0; decide)⟩
theorem Kp.free {p t : Addr} {H H' : Hp} {c : Nat} (k : Kp p H H') (pn : Pen H' p c) (f : H' t = none) : H t = none := by
  cases e : H t with
  | none => rfl
  | some u =>
    have n : t ≠ p := pn.ne_new f
    rw [k.1 _ _ e n] at f
    cases f
structure Ly (p o : Addr) (c k : Nat) (H H' : Hp) (L : List Int) : Prop where
  pen : Pen H' p c
  kp : Kp p H H'
  off : Off p o H'
  o_ : H' o = some (.lst (L.map V.int))
  dy : ∀ d ∈ L, isDay d
  ln : L.length ≤ k
theorem Ly.kpp {p o : Addr} {c c' k : Nat} {H H' H'' : Hp} {L : List Int} (h : Ly p o c k H H' L) (kp : Kp p H' H'') (pen : Pen H'' p c') : Ly p o c' k H H'' L := ⟨pen, h.kp.trans kp, h.off.kp kp, kp.1 _ _ h.o_ h.off.ne, h.dy, h.ln⟩
theorem Ly.same {p o : Addr} {c k : Nat} {H H' H'' : Hp} {L : List Int} (h : Ly p o c k H H' L) (s : Same H' H'') : Ly p o c k H H'' L := h.kpp (Kp.same s) (h.pen.same s)
theorem Ly.weak {p o : Addr} {c c' k k' : Nat} {H H' : Hp} {L : List Int} (h : Ly p o c k H H' L) (hc : c' ≤ c) (hk : k ≤ k') : Ly p o c' k' H H' L := ⟨h.pen.weak hc, h.kp, h.off, h.o_, h.dy, Nat.le_trans h.ln hk⟩
theorem Ly.push {p o : Addr} {c k : Nat} {H H' : Hp} {L : List Int} {x : Int} (h : Ly p o c k H H' L) (fo : H o = none) (hx : isDay x) : Ly p o c (k + 1) H (upd H' o (.lst (L.map V.int ++ [.int x]))) (L ++ [x]) := by
  refine ⟨h.pen.put h.off, h.kp.new fo, h.off.put h.off.ne.symm, ?_, fun d hd => ?_, ?_⟩
  · rw [upd_same, List.map_append]
    rfl
  · rcases List.mem_append.mp hd with hd | hd
    · exact h.dy d hd
    · rw [List.mem_singleton.mp hd]
      exact hx
  · have := h.ln
    simp
    omega
end K14
set_option Elab.async false
set_option linter.all false
set_option maxRecDepth 100000
set_option maxHeartbeats 4000000
namespace K14
open PySem PySem.Spec PyProof.Rows L2
open C8 (Cal Mak Met pe_c pe_mk pe_mt pe_mt0)
open SX (S)
/-! ### those who are entered -/
structure Fo where
  l : List Nat
  s : Int
  m : Nat
  b : Int
def Fo.v (x : Fo) : List V := [.str (S x.l), .int x.s, .int x.m, .int x.b]
structure Fo.ok (x : Fo) : Prop where
  l : NM.ok x.l
  s : 0 ≤ x.s ∧ x.s ≤ 9
  m : x.m ≤ 127
  b : isDay x.b
abbrev Fs := List (Addr × Fo)
def refs (fs : Fs) : List V := fs.map fun x => V.ref x.1
def FsT (H : Hp) (fs : Fs) : Prop := ∀ x ∈ fs, H x.1 = some (.tup x.2.v)
structure Fk (p o : Addr) (c : Nat) (H H' : Hp) (fs : Fs) : Prop where
  pen : Pen H' p c
  kp : Kp p H H'
  off : Off p o H'
  o_ : H' o = some (.lst (refs fs))
  tp : FsT H' fs
  ok : ∀ x ∈ fs, x.2.ok
theorem Fk.kpp {p o : Addr} {c c' : Nat} {H H' H'' : Hp} {fs : Fs} (h : Fk p o c H H' fs) (k : Kp p H' H'') (pen : Pen H'' p c') : Fk p o c' H H'' fs := by
  refine ⟨pen, h.kp.trans k, h.off.kp k, k.1 _ _ h.o_ h.off.ne, fun x hx => k.1 _ _ (h.tp x hx) ?_, h.ok⟩
  obtain ⟨l, ns, n, m, hp, _⟩ := h.pen
  exact ne_of (h.tp x hx) hp (by intro z; cases z)
theorem Fk.same {p o : Addr} {c : Nat} {H H' H'' : Hp} {fs : Fs} (h : Fk p o c H H' fs) (s : Same H' H'') : Fk p o c H H'' fs := h.kpp (Kp.same s) (h.pen.same s)
theorem Fk.weak {p o : Addr} {c c' : Nat} {H H' : Hp} {fs : Fs} (h : Fk p o c H H' fs) (hc : c' ≤ c) : Fk p o c' H H' fs := ⟨h.pen.weak hc, h.kp, h.off, h.o_, h.tp, h.ok⟩
theorem Fk.push {p o u : Addr} {c : Nat} {H H' : Hp} {fs : Fs} {x : Fo} (h : Fk p o c H H' fs) (fo : H o = none) (hu : H' u = some (.tup x.v)) (hx : x.ok) : Fk p o c H (upd H' o (.lst (refs fs ++ [.ref u]))) (fs ++ [(u, x)]) := by
  have nt : ∀ {a : Addr} {vs : List V}, H' a = some (.tup vs) → a ≠ o := fun e => ne_of e h.o_ (by intro z; cases z)
  refine ⟨h.pen.put h.off, h.kp.new fo, h.off.put h.off.ne.symm, ?_, fun y hy => ?_, fun y hy => ?_⟩
  · rw [upd_same]
    unfold refs
    rw [List.map_append]
    rfl
  · rcases List.mem_append.mp hy with hy | hy
    · rw [upd_ne (nt (h.tp y hy))]
      exact h.tp y hy
    · cases List.mem_singleton.mp hy
      rw [upd_ne (nt hu)]
      exact hu
  · rcases List.mem_append.mp hy with hy | hy
    · exact h.ok y hy
    · cases List.mem_singleton.mp hy
      exact hx
end K14
set_option Elab.async false
set_option linter.all false
set_option maxRecDepth 100000
set_option maxHeartbeats 4000000
namespace K14
open PySem PySem.Spec PyProof.Rows L2
open C8 (Cal Mak Met pe_c pe_mk pe_mt pe_mt0)
open SX (S)
/-! ### what is told of one, as the law reads it -/
structure Rl where
  last : Option Int
  ms : List (Int × Nat)
  al : List (Int × Bool)
  sp : List (Int × Int)
def cutL (sp : List (Int × Int)) (d : Int) : List (Int × Int) := sp.map fun x => (x.1, if d - 1 < x.2 then d - 1 else x.2)
def Dd.rl : Dd → Rl → Rl
  | .leave _ d, R => { R with last := some d }
  | .weekly _ m d, R => { R with ms := R.ms.filter (fun x => decide (x.1 ≠ d)) ++ [(d, m)] }
  | .only _ d b, R => { R with al := R.al.filter (fun x => decide (x.1 ≠ d)) ++ [(d, b)] }
  | .usual _ d, R => { R with al := R.al.filter (fun x => decide (x.1 ≠ d)) }
  | .sick _ a t, R => { R with sp := R.sp ++ [(a, t)] }
  | .well _ d, R => { R with sp := cutL R.sp d }
def rulesOf (l : List Nat) (ts : List Dd) : Rl := ts.foldl (fun R x => if x.l = l then x.rl R else R) ⟨none, [], [], []⟩
/-- a list of pairs -/
def Prs {α : Type} (g : α → List V) (H : Hp) (m : Addr) (L : List α) : Prop := ∃ ts : List (Addr × α), ts.map (·.2) = L ∧ H m = some (.lst (ts.map fun x => V.ref x.1)) ∧ ∀ x ∈ ts, H x.1 = some (.tup (g x.2))
theorem Prs.same {α : Type} {g : α → List V} {H H' : Hp} {m : Addr} {L : List α} (h : Prs g H m L) (s : Same H H') : Prs g H' m L := by
  obtain ⟨ts, e, h1, h2⟩ := h
  exact ⟨ts, e, s _ _ h1, fun x hx => s _ _ (h2 x hx)⟩
/-- a cell that is no tuple and not the list is written -/
theorem Prs.off {α : Type} {g : α → List V} {H : Hp} {m b : Addr} {o : HO} {L : List α} (h : Prs g H m L) (n : m ≠ b) (nt : ∀ vs, H b ≠ some (.tup vs)) : Prs g (upd H b o) m L := by
  obtain ⟨ts, e, h1, h2⟩ := h
  refine ⟨ts, e, by rw [upd_ne n]; exact h1, fun x hx => ?_⟩
  rw [upd_ne (fun z => nt _ (by rw [← z]; exact h2 x hx))]
  exact h2 x hx
def gM (x : Int × Nat) : List V := [.int x.1, .int x.2]
def gA (x : Int × Bool) : List V := [.int x.1, .bl x.2]
def gS (x : Int × Int) : List V := [.int x.1, .int x.2]
def lastV : Option Int → V
  | none => .non
  | some d => .int d
def rkv (R : Rl) (m a s : Addr) : List (Key × V) := [(Sum.inr (Str.ofString "last"), lastV R.last), (Sum.inr (Str.ofString "masks"), .ref m), (Sum.inr (Str.ofString "alone"), .ref a), (Sum.inr (Str.ofString "spans"), .ref s)]
structure Rh (H : Hp) (r m a s : Addr) (R : Rl) : Prop where
  r_ : H r = some (.dK (rkv R m a s))
  m_ : Prs gM H m R.ms
  a_ : Prs gA H a R.al
  s_ : Prs gS H s R.sp
  nma : m ≠ a
  nms : m ≠ s
  nas : a ≠ s
theorem Rh.same {H H' : Hp} {r m a s : Addr} {R : Rl} (h : Rh H r m a s R) (k : Same H H') : Rh H' r m a s R := ⟨k _ _ h.r_, h.m_.same k, h.a_.same k, h.s_.same k, h.nma, h.nms, h.nas⟩
theorem rkv_last (R : Rl) (m a s : Addr) (d : Int) : putK (rkv R m a s) (Sum.inr (Str.ofString "last")) (.int d) = rkv { R with last := some d } m a s := by
  cases R with | mk l' _ _ _ => cases l' <;> rfl
theorem rkv_masks (R : Rl) (m a s n : Addr) : putK (rkv R m a s) (Sum.inr (Str.ofString "masks")) (.ref n) = rkv R n a s := rfl
theorem rkv_alone (R : Rl) (m a s n : Addr) : putK (rkv R m a s) (Sum.inr (Str.ofString "alone")) (.ref n) = rkv R m n s := rfl
theorem rkv_spans (R : Rl) (m a s n : Addr) : putK (rkv R m a s) (Sum.inr (Str.ofString "spans")) (.ref n) = rkv R m a n := rfl
theorem rkv_vm (R : Rl) (m a s : Addr) : valV (rkv R m a s) (Sum.inr (Str.ofString "masks")) = some (.ref m) := rfl
theorem rkv_va (R : Rl) (m a s : Addr) : valV (rkv R m a s) (Sum.inr (Str.ofString "alone")) = some (.ref a) := rfl
theorem rkv_vs (R : Rl) (m a s : Addr) : valV (rkv R m a s) (Sum.inr (Str.ofString "spans")) = some (.ref s) := rfl
theorem rkv_0 (m a s : Addr) : mergeK [] (rkv ⟨none, [], [], []⟩ m a s) = rkv ⟨none, [], [], []⟩ m a s := rfl
structure Rn (n : Nat) (R : Rl) : Prop where
  m : R.ms.length ≤ n
  a : R.al.length ≤ n
  s : R.sp.length ≤ n
theorem Rn.step {n : Nat} {R : Rl} (h : Rn n R) (x : Dd) : Rn (n + 1) (x.rl R) := by
  obtain ⟨h1, h2, h3⟩ := h
  cases x with
  | leave l d => exact ⟨by show R.ms.length ≤ _; omega, by show R.al.length ≤ _; omega, by show R.sp.length ≤ _; omega⟩
  | weekly l m d =>
    refine ⟨?_, by show R.al.length ≤ _; omega, by show R.sp.length ≤ _; omega⟩
    show (R.ms.filter (fun x => decide (x.1 ≠ d)) ++ [(d, m)]).length ≤ _
    have := List.length_filter_le (fun x : Int × Nat => decide (x.1 ≠ d)) R.ms
    rw [List.length_append]
    show _ + 1 ≤ _
    omega
  | only l d b =>
    refine ⟨by show R.ms.length ≤ _; omega, ?_, by show R.sp.length ≤ _; omega⟩
    show (R.al.filter (fun x => decide (x.1 ≠ d)) ++ [(d, b)]).length ≤ _
    have := List.length_filter_le (fun x : Int × Bool => decide (x.1 ≠ d)) R.al
    rw [List.length_append]
    show _ + 1 ≤ _
    omega
  | usual l d =>
    refine ⟨by show R.ms.length ≤ _; omega, ?_, by show R.sp.length ≤ _; omega⟩
    show (R.al.filter (fun x => decide (x.1 ≠ d))).length ≤ _
    have := List.length_filter_le (fun x : Int × Bool => decide (x.1 ≠ d)) R.al
    omega
  | sick l a t =>
    refine ⟨by show R.ms.length ≤ _; omega, by show R.al.length ≤ _; omega, ?_⟩
    show (R.sp ++ [(a, t)]).length ≤ _
    rw [List.length_append]
    show _ + 1 ≤ _
    omega
  | well l d =>
    refine ⟨by show R.ms.length ≤ _; omega, by show R.al.length ≤ _; omega, ?_⟩
    show (cutL R.sp d).length ≤ _
    unfold cutL
    rw [List.length_map]
    omega
theorem rules_snoc (l : List Nat) (ts : List Dd) (x : Dd) : rulesOf l (ts ++ [x]) = if x.l = l then x.rl (rulesOf l ts) else rulesOf l ts := by
  unfold rulesOf
  rw [List.foldl_append]
  rfl
theorem rules_len (l : List Nat) (ts : List Dd) : ∀ n, n ≤ ts.length → Rn n (rulesOf l (ts.take n))
  | 0, _ => ⟨Nat.le_refl _, Nat.le_refl _, Nat.le_refl _⟩
  | n + 1, h => by
    have ih := rules_len l ts n (by omega)
    have e : ts[n]? = some ts[n] := List.getElem?_eq_getElem (by omega)
    rw [take_one e, rules_snoc]
    split
    · exact ih.step _
    · exact ⟨Nat.le_succ_of_le ih.m, Nat.le_succ_of_le ih.a, Nat.le_succ_of_le ih.s⟩
theorem in_no {c : Bool} {R T : Prop} (h : c = false) (t : T) : if c = true then R else T := by
  rw [h]
  simpa using t
theorem in_yes {c : Bool} {R T : Prop} (h : c = true) (t : R) : if c = true then R else T := by
  rw [h]
  simpa using t
theorem dg_m {G : Hp} {r m a s : Addr} {R : Rl} (h : G r = some (.dK (rkv R m a s))) : DGet G r (.str (Str.ofString "masks")) (some (.ref m)) := by
  have := DGet.k (k := Sum.inr (Str.ofString "masks")) h
  rw [rkv_vm] at this
  exact this
theorem dg_a {G : Hp} {r m a s : Addr} {R : Rl} (h : G r = some (.dK (rkv R m a s))) : DGet G r (.str (Str.ofString "alone")) (some (.ref a)) := by
  have := DGet.k (k := Sum.inr (Str.ofString "alone")) h
  rw [rkv_va] at this
  exact this
theorem dg_s {G : Hp} {r m a s : Addr} {R : Rl} (h : G r = some (.dK (rkv R m a s))) : DGet G r (.str (Str.ofString "spans")) (some (.ref s)) := by
  have := DGet.k (k := Sum.inr (Str.ofString "spans")) h
  rw [rkv_vs] at this
  exact this
abbrev fl {α : Type} (d : Int) (ts : List (Addr × Int × α)) : List (Addr × Int × α) := ts.filter fun t => decide (t.2.1 ≠ d)
theorem fl_step {α : Type} {ts : List (Addr × Int × α)} {j : Nat} {t : Addr × Int × α} (h : ts[j]? = some t) (d : Int) : fl d (ts.take (j + 1)) = fl d (ts.take j) ++ (if t.2.1 = d then [] else [t]) := by
  unfold fl
  rw [take_one h, List.filter_append]
  congr 1
  by_cases c : t.2.1 = d
  · rw [if_pos c, List.filter_cons_of_neg (by simpa using c)]
    rfl
  · rw [if_neg c, List.filter_cons_of_pos (by simpa using c)]
    rfl
theorem fl_map {α : Type} (d : Int) (ts : List (Addr × Int × α)) : (fl d ts).map (·.2) = (ts.map (·.2)).filter fun x => decide (x.1 ≠ d) := by
  unfold fl
  rw [List.filter_map]
  rfl
theorem fl_len {α : Type} (d : Int) (ts : List (Addr × Int × α)) : (fl d ts).length ≤ ts.length := List.length_filter_le _ _
abbrev rf {α : Type} (ts : List (Addr × α)) : List V := ts.map fun x => V.ref x.1
section
variable {P : Program} {w : World} {K : PySem.W.Frag} {mg : Str → Option Value} {base : Heap} {f C CW CP : Addr} {fd : FuncData}
def spRules : Sp := fun vs H Q _ => ∃ (dl : Addr) (l : List Nat) (ts : List (Addr × Dd)), vs = [.ref dl, .str (S l)] ∧ H dl = some (.lst (ts.map fun x => V.ref x.1)) ∧ Tups H ts ∧ ts.length ≤ 100 ∧
  ∀ (r m a s : Addr) (H' : Hp), Same H H' → H r = none → (H m = none ∧ H a = none ∧ H s = none) → Rh H' r m a s (rulesOf l (ts.map (·.2))) → Q (.ref r) H'
theorem ok_rules (F : Dn K d_l_rules f fd) (b : Bl mg) : FnOk P w K mg base CX0 1 f fd ["_law_deeds", "_law_called"] spRules := by
  refine F.ok sc_l_rules (fun vs H Q E h => ?_) (fun cdv A outer s H vs Q E hr h => ?_)
  · obtain ⟨dl, l, ts, rfl, _⟩ := h
    rfl
  · obtain ⟨dl, l, ts, rfl, hdl, hts, tlen, hQ⟩ := h
    have hu := hu_of hr
    refine ⟨_, PSs.nox (pss_cons (ps_set (i := 2) sc_l_rules.nd rfl (.inl rfl) (pe_disp (pps_cons pe_str pe_non (pps_cons pe_str (pe_lst pa_nil) (pps_cons pe_str (pe_lst pa_nil) (pps_cons pe_str (pe_lst pa_nil) pps_nil)))) rfl rfl (by simp) (by decide)))
      (pss_cons (ps_for PassesOwn.never rfl (pi_list (pv 0)) (pg_name (i := 3) sc_l_rules.nd rfl (.inr rfl))
        (pss_cons (ps_set (i := 4) sc_l_rules.nd rfl (.inl rfl) (pe_ix ix_tup (pv 3) pe_int (fun _ _ => rfl)))
        (pss_cons (ps_if (PW.pt (pw_and (pt_cmpR op_eq (pe_ix ix_tup (pv 3) pe_int (fun _ _ => rfl)) (pv 1) (nomark _)) (pw_and1 (pt_cmpR op_eq (pv 4) pe_str (nomark _)))))
          (pss_one (ps_dput hu (pv 2) pe_str (pe_ix ix_tup (pv 3) pe_int (fun _ _ => rfl)) rfl)) pss_nil)
        (pss_cons (ps_if (PW.pt (pw_and (pt_cmpR op_eq (pe_ix ix_tup (pv 3) pe_int (fun _ _ => rfl)) (pv 1) (nomark _)) (pw_and1 (pt_cmpR op_eq (pv 4) pe_str (nomark _)))))
          (pss_one (ps_dput hu (pv 2) pe_str (pe_op op_cat (pe_lc (own := [("_law_one_here", 5)]) (g := gName 5) rfl sc_l_rules.nd (pi_list (pe_dget hu (pv 2) pe_str (fun _ _ => rfl))) (blkOk_by (N := N_l_rules) (sc := defScope s_l_rules) (by decide +kernel))
              (fun _ _ _ _ _ => pg_name (i := 5) sc_l_rules.nd rfl (Or.inl rfl)) (fun _ _ _ _ _ => pts_one (pt_cmpR op_ne (pe_ix (r := rIxT K) ix_tup (pv 5) pe_int (fun _ _ => rfl)) (pe_ix (r := rIxT K) ix_tup (pv 3) pe_int (fun _ _ => rfl)) (nomark _))) (fun _ _ _ _ _ => pv 5))
            (pe_lst (pa_cons (pe_tup (pa_cons (pe_ix ix_tup (pv 3) pe_int (fun _ _ => rfl)) (pa_cons (pe_ix ix_tup (pv 3) pe_int (fun _ _ => rfl)) pa_nil))) pa_nil))) rfl)) pss_nil)
        (pss_cons (ps_if (PW.pt (pw_and (pt_cmpR op_eq (pe_ix ix_tup (pv 3) pe_int (fun _ _ => rfl)) (pv 1) (nomark _)) (pw_and1 (pt_cmpR op_in_seq (pv 4) (pe_tup (pa_cons pe_str (pa_cons pe_str pa_nil))) (by rfl)))))
          (pss_cons (ps_dput hu (pv 2) pe_str (pe_lc (own := [("_law_one_here", 5)]) (g := gName 5) rfl sc_l_rules.nd (pi_list (pe_dget hu (pv 2) pe_str (fun _ _ => rfl))) (blkOk_by (N := N_l_rules) (sc := defScope s_l_rules) (by decide +kernel))
              (fun _ _ _ _ _ => pg_name (i := 5) sc_l_rules.nd rfl (Or.inl rfl)) (fun _ _ _ _ _ => pts_one (pt_cmpR op_ne (pe_ix (r := rIxT K) ix_tup (pv 5) pe_int (fun _ _ => rfl)) (pe_ix (r := rIxT K) ix_tup (pv 3) pe_int (fun _ _ => rfl)) (nomark _))) (fun _ _ _ _ _ => pv 5)) rfl)
          (pss_one (ps_expr (pe_bm PySem.F.plainAttrs_list PySem.F.slot_list_extend PySem.F.type_list_extend mt_extend (pe_dget hu (pv 2) pe_str (fun _ _ => rfl)) (pa_cons (pe_op op_rep (pe_lst (pa_cons (pe_slice sl_tup (pv 3) (po_some pe_int) po_none) pa_nil))
            (pe_callTy call_int1 rfl b.int boot_int (pa_cons (pe_cmpR op_eq (pv 4) pe_str (nomark _)) pa_nil))) pa_nil))))) pss_nil)
        (pss_cons (ps_if (PW.pt (pw_and (pt_cmpR op_eq (pe_ix ix_tup (pv 3) pe_int (fun _ _ => rfl)) (pv 1) (nomark _)) (pw_and1 (pt_cmpR op_eq (pv 4) pe_str (nomark _)))))
          (pss_one (ps_expr (pe_bm PySem.F.plainAttrs_list PySem.F.slot_list_append PySem.F.type_list_append mt_append (pe_dget hu (pv 2) pe_str (fun _ _ => rfl)) (pa_cons (pe_slice sl_tup (pv 3) (po_some pe_int) po_none) pa_nil)))) pss_nil)
        (pss_one (ps_if (PW.pt (pw_and (pt_cmpR op_eq (pe_ix ix_tup (pv 3) pe_int (fun _ _ => rfl)) (pv 1) (nomark _)) (pw_and1 (pt_cmpR op_eq (pv 4) pe_str (nomark _)))))
          (pss_one (ps_dput hu (pv 2) pe_str (pe_lc (own := [("_law_one_here", 5), ("_law_other", 6)]) (g := gTup K 2 (gCons (gName 5) (gCons (gName 6) gNil))) (tt := tYes) rfl sc_l_rules.nd (pi_list (pe_dget hu (pv 2) pe_str (fun _ _ => rfl))) (blkOk_by (N := N_l_rules) (sc := defScope s_l_rules) (by decide +kernel))
              (fun _ _ _ _ _ => pg_tup rfl (pgs_cons (pg_name (i := 5) sc_l_rules.nd rfl (Or.inl rfl)) (pgs_cons (pg_name (i := 6) sc_l_rules.nd rfl (Or.inl rfl)) pgs_nil))) (fun _ _ _ _ _ => pts_nil)
              (fun _ _ _ _ _ => pe_tup (pa_cons (pv 5) (pa_cons (pe_callB (call_min2 rfl) rfl b.min boot_min (pa_cons (pv 6) (pa_cons (pe_op op_sub (pe_ix (r := rIxT K) ix_tup (pv 3) pe_int (fun _ _ => rfl)) pe_int) pa_nil))) pa_nil)))) rfl)) pss_nil))))))))
      (pss_one (ps_ret (pv 2))))), ?_⟩
    intro r fr
    refine ⟨by show 0 ≤ sizeLine; decide, fun m fm => ⟨by show 0 ≤ sizeLine; decide, fun a fa => ⟨by show 0 ≤ sizeLine; decide, fun s0 fs => ?_⟩⟩⟩
    have nrm : r ≠ m := ne_of_none upd_same fm
    have sr := same_new (o := .dK []) fr
    have sm := same_new (o := .lst []) fm
    have sa := same_new (o := .lst []) fa
    have ss := same_new (o := .lst []) fs
    have nma : m ≠ a := ne_of_none upd_same fa
    have nas : a ≠ s0 := ne_of_none upd_same fs
    have nms : m ≠ s0 := ne_of_none (sa _ _ upd_same) fs
    have nra : r ≠ a := ne_of_none (sm _ _ upd_same) fa
    have nrs : r ≠ s0 := ne_of_none (sa _ _ (sm _ _ upd_same)) fs
    have hr4 : (upd (upd (upd (upd H r (.dK [])) m (.lst [])) a (.lst [])) s0 (.lst [])) r = some (.dK []) := ss _ _ (sa _ _ (sm _ _ upd_same))
    have hm4 : (upd (upd (upd (upd H r (.dK [])) m (.lst [])) a (.lst [])) s0 (.lst [])) m = some (.lst []) := ss _ _ (sa _ _ upd_same)
    have ha4 : (upd (upd (upd (upd H r (.dK [])) m (.lst [])) a (.lst [])) s0 (.lst [])) a = some (.lst []) := ss _ _ upd_same
    have hs4 : (upd (upd (upd (upd H r (.dK [])) m (.lst [])) a (.lst [])) s0 (.lst [])) s0 = some (.lst []) := upd_same
    have s04 : Same H (upd (upd (upd (upd H r (.dK [])) m (.lst [])) a (.lst [])) s0 (.lst [])) := ((sr.trans sm).trans sa).trans ss
    have fm0 := sr.free fm
    have fa0 := (sr.trans sm).free fa
    have fs0 := ((sr.trans sm).trans sa).free fs
    generalize upd (upd (upd (upd H r (.dK [])) m (.lst [])) a (.lst [])) s0 (.lst []) = H4 at hr4 hm4 ha4 hs4 s04 ⊢
    refine ⟨hr4, rkv ⟨none, [], [], []⟩ m a s0, rfl, by show 4 ≤ 15; decide, ?_⟩
    rw [rkv_0]
    have keepr : ∀ {G : Hp} {o : HO}, Same H G → Same H (upd G r o) := fun k b u e => by rw [upd_ne (ne_of_none e fr)]; exact k b u e
    have R0 : Rh (upd H4 r (.dK (rkv ⟨none, [], [], []⟩ m a s0))) r m a s0 ⟨none, [], [], []⟩ := ⟨upd_same, ⟨[], rfl, by rw [upd_ne nrm.symm]; exact hm4, fun x hx => by cases hx⟩, ⟨[], rfl, by rw [upd_ne nra.symm]; exact ha4, fun x hx => by cases hx⟩, ⟨[], rfl, by rw [upd_ne nrs.symm]; exact hs4, fun x hx => by cases hx⟩, nma, nms, nas⟩
    have s05 := keepr (o := .dK (rkv ⟨none, [], [], []⟩ m a s0)) s04
    generalize upd H4 r (.dK (rkv ⟨none, [], [], []⟩ m a s0)) = H5 at R0 s05 ⊢
    refine ⟨_, rfl, dl, rfl, ⟨_, SqL.of (s05 _ _ hdl)⟩, ?_⟩
    refine for_list (xs := ts.map fun x => V.ref x.1) (fun i σ H' => ∃ (v3 v4 v5 v6 : Option V) (m a s : Addr), σ = [some (.ref dl), some (.str (S l)), some (.ref r), v3, v4, v5, v6] ∧ Same H H' ∧ Rh H' r m a s (rulesOf l ((ts.take i).map (·.2))) ∧ H m = none ∧ H a = none ∧ H s = none)
      ⟨_, _, _, _, m, a, s0, rfl, s05, R0, fm0, fa0, fs0⟩ (fun i σ H' _ z => by obtain ⟨_, _, _, _, _, _, _, _, z, _⟩ := z; exact SqL.of (z _ _ hdl)) ?_ ?_
    · clear R0 s05 hr4 hm4 ha4 hs4 s04 H4 H5 fm0 fa0 fs0 nrm nra nrs nma nas nms sr sm sa ss fm fa fs m a s0
      rintro i y σ G hi ⟨v3, v4, v5, v6, m, a, s0, rfl, sG, rh, fm, fa, fs⟩
      rw [List.getElem?_map] at hi
      cases hx : ts[i]? with
      | none =>
        rw [hx] at hi
        cases hi
      | some x =>
        rw [hx] at hi
        cases (Option.some.inj hi : V.ref x.1 = y)
        have hxm := List.mem_of_getElem? hx
        have hxG := sG _ _ (hts x hxm)
        have il : i < ts.length := (List.getElem?_eq_some_iff.mp hx).1
        have rn := rules_len l (ts.map (·.2)) i (by rw [List.length_map]; omega)
        rw [← List.map_take] at rn
        have nx : rulesOf l ((ts.take (i + 1)).map (·.2)) = if x.2.l = l then x.2.rl (rulesOf l ((ts.take i).map (·.2))) else rulesOf l ((ts.take i).map (·.2)) := by rw [take_one hx, List.map_append]; exact rules_snoc _ _ _
        generalize rulesOf l ((ts.take (i + 1)).map (·.2)) = R' at nx ⊢
        generalize rulesOf l ((ts.take i).map (·.2)) = R at nx rh rn ⊢
        obtain ⟨x, dd⟩ := x
        by_cases hl : ¬ dd.l = l
        · have nx' : R' = R := nx.trans (if_neg hl)
          subst nx'
          have hne : ¬ S dd.l = S l := fun z => hl (SX.S_inj z)
          cases dd <;> (
            refine ⟨_, rfl, x, _, _, _, rfl, rfl, SqT.of hxG, rfl, ?_⟩
            refine ⟨_, rfl, x, _, _, _, rfl, rfl, SqT.of hxG, rfl, _, rfl, rfl, _, rfl, if_no hne ?_⟩
            refine ⟨_, rfl, x, _, _, _, rfl, rfl, SqT.of hxG, rfl, _, rfl, rfl, _, rfl, if_no hne ?_⟩
            refine ⟨_, rfl, x, _, _, _, rfl, rfl, SqT.of hxG, rfl, _, rfl, rfl, _, rfl, if_no hne ?_⟩
            refine ⟨_, rfl, x, _, _, _, rfl, rfl, SqT.of hxG, rfl, _, rfl, rfl, _, rfl, if_no hne ?_⟩
            refine ⟨_, rfl, x, _, _, _, rfl, rfl, SqT.of hxG, rfl, _, rfl, rfl, _, rfl, if_no hne ?_⟩
            exact ⟨_, _, _, _, m, a, s0, rfl, sG, rh, fm, fa, fs⟩)
        have hl : dd.l = l := Decidable.of_not_not hl
        have nx' : R' = dd.rl R := nx.trans (if_pos hl)
        subst nx'
        clear nx
        have keepr : ∀ {G : Hp} {o : HO}, Same H G → Same H (upd G r o) := fun k b u e => by rw [upd_ne (ne_of_none e fr)]; exact k b u e
        have nmr : m ≠ r := by
          obtain ⟨_, _, h1, _⟩ := rh.m_
          exact ne_of h1 rh.r_ (by intro z; cases z)
        have nar : a ≠ r := by
          obtain ⟨_, _, h1, _⟩ := rh.a_
          exact ne_of h1 rh.r_ (by intro z; cases z)
        have nsr : s0 ≠ r := by
          obtain ⟨_, _, h1, _⟩ := rh.s_
          exact ne_of h1 rh.r_ (by intro z; cases z)
        have ntr : ∀ vs, G r ≠ some (.tup vs) := fun vs z => by
          rw [rh.r_] at z
          cases z
        have offx : ∀ {G : Hp} {b : Addr} {o : HO} {vs : List V}, (∀ ws, G b ≠ some (.tup ws)) → G x = some (.tup vs) → (upd G b o) x = some (.tup vs) := fun h e => by
          rw [upd_ne (fun z => h _ (by rw [← z]; exact e))]
          exact e
        cases dd with
        | leave l' d =>
          cases hl
          refine ⟨_, rfl, x, _, _, _, rfl, rfl, SqT.of hxG, rfl, ?_⟩
          refine ⟨_, rfl, x, _, _, _, rfl, rfl, SqT.of hxG, rfl, _, rfl, rfl, _, rfl, if_yes ?_⟩
          refine ⟨_, rfl, rfl, _, rfl, if_yes ?_⟩
          refine ⟨_, rfl, x, _, _, _, rfl, rfl, SqT.of hxG, rfl, _, rfl, r, _, rfl, DPut.k (k := Sum.inr (Str.ofString "last")) rh.r_ (by show 4 < sizeLine; decide), ?_⟩
          rw [rkv_last]
          have hxG := offx (o := .dK (rkv { R with last := some d } m a s0)) ntr hxG
          have rh : Rh (upd G r (.dK (rkv { R with last := some d } m a s0))) r m a s0 (Dd.rl (.leave l' d) R) := ⟨upd_same, rh.m_.off nmr ntr, rh.a_.off nar ntr, rh.s_.off nsr ntr, rh.nma, rh.nms, rh.nas⟩
          have sG := keepr (o := .dK (rkv { R with last := some d } m a s0)) sG
          generalize upd G r (.dK (rkv { R with last := some d } m a s0)) = G at sG rh hxG ⊢
          refine ⟨_, rfl, x, _, _, _, rfl, rfl, SqT.of hxG, rfl, _, rfl, rfl, _, rfl, if_yes ?_⟩
          refine ⟨_, rfl, rfl, _, rfl, if_no (by decide +kernel) ?_⟩
          refine ⟨_, rfl, x, _, _, _, rfl, rfl, SqT.of hxG, rfl, _, rfl, rfl, _, rfl, if_yes ?_⟩
          refine ⟨_, rfl, by show 2 ≤ sizeLine; decide, fun u fu => ⟨u, _, rfl, .inr (SqT.of upd_same), rfl, rfl, ?_⟩⟩
          have su := same_new (o := .tup [V.str (Str.ofString "only"), V.str (Str.ofString "usual")]) fu
          have sG := sG.trans su
          have rh := rh.same su
          have hxG := su _ _ hxG
          generalize upd G u (.tup [V.str (Str.ofString "only"), V.str (Str.ofString "usual")]) = G at sG rh hxG ⊢
          refine ⟨_, rfl, in_no (by decide +kernel) ?_⟩
          refine ⟨_, rfl, x, _, _, _, rfl, rfl, SqT.of hxG, rfl, _, rfl, rfl, _, rfl, if_yes ?_⟩
          refine ⟨_, rfl, rfl, _, rfl, if_no (by decide +kernel) ?_⟩
          refine ⟨_, rfl, x, _, _, _, rfl, rfl, SqT.of hxG, rfl, _, rfl, rfl, _, rfl, if_yes ?_⟩
          refine ⟨_, rfl, rfl, _, rfl, if_no (by decide +kernel) ?_⟩
          exact ⟨_, _, _, _, m, a, s0, rfl, sG, rh, fm, fa, fs⟩
        | weekly l' mm d =>
          cases hl
          refine ⟨_, rfl, x, _, _, _, rfl, rfl, SqT.of hxG, rfl, ?_⟩
          refine ⟨_, rfl, x, _, _, _, rfl, rfl, SqT.of hxG, rfl, _, rfl, rfl, _, rfl, if_yes ?_⟩
          refine ⟨_, rfl, rfl, _, rfl, if_no (by decide +kernel) ?_⟩
          refine ⟨_, rfl, x, _, _, _, rfl, rfl, SqT.of hxG, rfl, _, rfl, rfl, _, rfl, if_yes ?_⟩
          refine ⟨_, rfl, rfl, _, rfl, if_yes ?_⟩
          obtain ⟨tm, em, hm, hmt⟩ := rh.m_
          have ltm : tm.length ≤ i := by have := congrArg List.length em; rw [List.length_map] at this; have := rn.m; omega
          refine ⟨_, rfl, r, .ref m, rfl, dg_m rh.r_, m, rfl, ⟨_, SqL.of hm⟩, fun D fD => ?_⟩
          refine lc_list (K := K) (xs := rf tm) (fun j G2 => G2 D = some (.lst (rf (fl d (tm.take j)))) ∧ Same G G2) ⟨upd_same, same_new fD⟩ (fun j G2 _ z => SqL.of (z.2 _ _ hm)) ?_ ?_
          · rintro j y G2 hj ⟨hD2, s2⟩
            obtain ⟨t, ht, rfl⟩ : ∃ t, tm[j]? = some t ∧ V.ref t.1 = y := by
              unfold rf at hj
              rw [List.getElem?_map] at hj
              obtain ⟨t, ht, e⟩ := Option.map_eq_some_iff.mp hj
              exact ⟨t, ht, e⟩
            refine ⟨rfl, _, rfl, t.1, _, _, _, rfl, rfl, SqT.of (s2 _ _ (hmt t (List.mem_of_getElem? ht))), rfl, _, rfl, x, _, _, _, rfl, rfl, SqT.of (s2 _ _ hxG), rfl, rfl, _, rfl, ?_⟩
            have hjl : j < tm.length := (List.getElem?_eq_some_iff.mp ht).1
            refine ite2 (fun c => ?_) (fun c => ?_)
            · have c' : ¬ t.2.1 = d := fun z => by
                rw [decide_eq_true (by rw [z])] at c
                cases c
              refine ⟨_, rfl, _, hD2, ?_, ?_, fun b u e => ?_⟩
              · unfold rf
                rw [List.length_map]
                have h1 := fl_len d (tm.take j)
                rw [List.length_take] at h1
                exact line_lt (by omega)
              · rw [upd_same, fl_step ht, if_neg c']
                unfold rf
                rw [List.map_append]
                rfl
              · rw [upd_ne (ne_of_none e fD)]
                exact s2 b u e
            · have c' : t.2.1 = d := by
                by_cases z : t.2.1 = d
                · exact z
                · exfalso
                  refine c ?_
                  rw [decide_eq_false (fun e => z (V.int.inj e))]
                  rfl
              refine ⟨?_, s2⟩
              rw [fl_step ht, if_pos c', List.append_nil]
              exact hD2
          rintro G2 ⟨hD2, s2⟩
          unfold rf at hD2
          rw [List.length_map, List.take_length] at hD2
          have rh2 := rh.same s2
          have sG2 := sG.trans s2
          have hx2 := s2 _ _ hxG
          have fD0 := sG.free fD
          have fll := fl_len d tm
          have fdm : (fl d tm).map (·.2) = _ := (fl_map d tm).trans (by rw [em])
          have flt : ∀ y ∈ fl d tm, G2 y.1 = some (.tup (gM y.2)) := fun y hy => s2 _ _ (hmt y (List.mem_filter.mp hy).1)
          refine ⟨_, rfl, x, _, _, _, rfl, rfl, SqT.of hx2, rfl, _, rfl, x, _, _, _, rfl, rfl, SqT.of hx2, rfl, by show 2 ≤ sizeLine; decide, fun u fu => ⟨by show 1 ≤ sizeLine; decide, fun v fv => ?_⟩⟩
          have su := same_new (o := .tup [V.int d, V.int (mm : Nat)]) fu
          have sv := same_new (o := .lst [V.ref u]) fv
          have hu3 := sv _ _ (upd_same (H := G2) (a := u) (o := .tup [V.int d, V.int (mm : Nat)]))
          have hv3 : (upd (upd G2 u (.tup [V.int d, V.int (mm : Nat)])) v (.lst [V.ref u])) v = some (.lst [V.ref u]) := upd_same
          have s23 := su.trans sv
          generalize upd (upd G2 u (.tup [V.int d, V.int (mm : Nat)])) v (.lst [V.ref u]) = G3 at hu3 hv3 s23 ⊢
          refine ⟨D, v, _, _, rfl, rfl, s23 _ _ hD2, hv3, Nat.le_of_lt (line_lt (by rw [List.length_map]; show _ + 1 ≤ _; omega)), fun N fN => ?_⟩
          have sN := same_new (o := .lst ((fl d tm).map (fun x => V.ref x.1) ++ [V.ref u])) fN
          have hN : (upd G3 N (.lst ((fl d tm).map (fun x => V.ref x.1) ++ [V.ref u]))) N = some (.lst ((fl d tm).map (fun x => V.ref x.1) ++ [V.ref u])) := upd_same
          have s24 := s23.trans sN
          have hu4 := sN _ _ hu3
          have rh4 := rh2.same s24
          have sG4 := sG2.trans s24
          have hx4 := s24 _ _ hx2
          have fN0 : H N = none := (sG2.trans s23).free fN
          have nNa : N ≠ a := by
            obtain ⟨_, _, h1, _⟩ := rh2.a_
            exact (ne_of_none (s23 _ _ h1) fN).symm
          have nNs : N ≠ s0 := by
            obtain ⟨_, _, h1, _⟩ := rh2.s_
            exact (ne_of_none (s23 _ _ h1) fN).symm
          generalize upd G3 N (.lst ((fl d tm).map (fun x => V.ref x.1) ++ [V.ref u])) = G4 at hN s24 hu4 rh4 sG4 hx4 ⊢
          refine ⟨_, rfl, r, _, rfl, DPut.k (k := Sum.inr (Str.ofString "masks")) rh4.r_ (by show 4 < sizeLine; decide), ?_⟩
          rw [rkv_masks]
          have ntr4 : ∀ vs, G4 r ≠ some (.tup vs) := fun vs z => by
            rw [rh4.r_] at z
            cases z
          have pN : Prs gM G4 N (R.ms.filter (fun x => decide (x.1 ≠ d)) ++ [(d, mm)]) := by
            refine ⟨fl d tm ++ [(u, d, mm)], by rw [List.map_append, fdm]; rfl, by rw [List.map_append]; exact hN, fun y hy => ?_⟩
            rcases List.mem_append.mp hy with hy | hy
            · exact s24 _ _ (flt y hy)
            · cases List.mem_singleton.mp hy
              exact hu4
          have nNr : N ≠ r := ne_of hN rh4.r_ (by intro z; cases z)
          have hxG := offx (o := .dK (rkv R N a s0)) ntr4 hx4
          have rh : Rh (upd G4 r (.dK (rkv R N a s0))) r N a s0 (Dd.rl (.weekly l' mm d) R) := ⟨upd_same, pN.off nNr ntr4, rh4.a_.off nar ntr4, rh4.s_.off nsr ntr4, nNa, nNs, rh4.nas⟩
          have sG := keepr (o := .dK (rkv R N a s0)) sG4
          generalize upd G4 r (.dK (rkv R N a s0)) = G at sG rh hxG ⊢
          refine ⟨_, rfl, x, _, _, _, rfl, rfl, SqT.of hxG, rfl, _, rfl, rfl, _, rfl, if_yes ?_⟩
          refine ⟨_, rfl, by show 2 ≤ sizeLine; decide, fun u0 fu0 => ⟨u0, _, rfl, .inr (SqT.of upd_same), rfl, rfl, ?_⟩⟩
          have su0 := same_new (o := .tup [V.str (Str.ofString "only"), V.str (Str.ofString "usual")]) fu0
          have sG := sG.trans su0
          have rh := rh.same su0
          have hxG := su0 _ _ hxG
          generalize upd G u0 (.tup [V.str (Str.ofString "only"), V.str (Str.ofString "usual")]) = G at sG rh hxG ⊢
          refine ⟨_, rfl, in_no (by decide +kernel) ?_⟩
          refine ⟨_, rfl, x, _, _, _, rfl, rfl, SqT.of hxG, rfl, _, rfl, rfl, _, rfl, if_yes ?_⟩
          refine ⟨_, rfl, rfl, _, rfl, if_no (by decide +kernel) ?_⟩
          refine ⟨_, rfl, x, _, _, _, rfl, rfl, SqT.of hxG, rfl, _, rfl, rfl, _, rfl, if_yes ?_⟩
          refine ⟨_, rfl, rfl, _, rfl, if_no (by decide +kernel) ?_⟩
          exact ⟨_, _, _, _, N, a, s0, rfl, sG, rh, fN0, fa, fs⟩
        | only l' d bb =>
          cases hl
          refine ⟨_, rfl, x, _, _, _, rfl, rfl, SqT.of hxG, rfl, ?_⟩
          refine ⟨_, rfl, x, _, _, _, rfl, rfl, SqT.of hxG, rfl, _, rfl, rfl, _, rfl, if_yes ?_⟩
          refine ⟨_, rfl, rfl, _, rfl, if_no (by decide +kernel) ?_⟩
          refine ⟨_, rfl, x, _, _, _, rfl, rfl, SqT.of hxG, rfl, _, rfl, rfl, _, rfl, if_yes ?_⟩
          refine ⟨_, rfl, rfl, _, rfl, if_no (by decide +kernel) ?_⟩
          refine ⟨_, rfl, x, _, _, _, rfl, rfl, SqT.of hxG, rfl, _, rfl, rfl, _, rfl, if_yes ?_⟩
          refine ⟨_, rfl, by show 2 ≤ sizeLine; decide, fun u0 fu0 => ⟨u0, _, rfl, .inr (SqT.of upd_same), rfl, rfl, ?_⟩⟩
          have su0 := same_new (o := .tup [V.str (Str.ofString "only"), V.str (Str.ofString "usual")]) fu0
          have sG := sG.trans su0
          have rh := rh.same su0
          have hxG := su0 _ _ hxG
          generalize upd G u0 (.tup [V.str (Str.ofString "only"), V.str (Str.ofString "usual")]) = G at sG rh hxG ⊢
          refine ⟨_, rfl, in_yes (by decide +kernel) ?_⟩
          obtain ⟨tm, em, hm, hmt⟩ := rh.a_
          have ltm : tm.length ≤ i := by have := congrArg List.length em; rw [List.length_map] at this; have := rn.a; omega
          refine ⟨_, rfl, r, .ref a, rfl, dg_a rh.r_, a, rfl, ⟨_, SqL.of hm⟩, fun D fD => ?_⟩
          refine lc_list (K := K) (xs := rf tm) (fun j G2 => G2 D = some (.lst (rf (fl d (tm.take j)))) ∧ Same G G2) ⟨upd_same, same_new fD⟩ (fun j G2 _ z => SqL.of (z.2 _ _ hm)) ?_ ?_
          · rintro j y G2 hj ⟨hD2, s2⟩
            obtain ⟨t, ht, rfl⟩ : ∃ t, tm[j]? = some t ∧ V.ref t.1 = y := by
              unfold rf at hj
              rw [List.getElem?_map] at hj
              obtain ⟨t, ht, e⟩ := Option.map_eq_some_iff.mp hj
              exact ⟨t, ht, e⟩
            refine ⟨rfl, _, rfl, t.1, _, _, _, rfl, rfl, SqT.of (s2 _ _ (hmt t (List.mem_of_getElem? ht))), rfl, _, rfl, x, _, _, _, rfl, rfl, SqT.of (s2 _ _ hxG), rfl, rfl, _, rfl, ?_⟩
            have hjl : j < tm.length := (List.getElem?_eq_some_iff.mp ht).1
            refine ite2 (fun c => ?_) (fun c => ?_)
            · have c' : ¬ t.2.1 = d := fun z => by
                rw [decide_eq_true (by rw [z])] at c
                cases c
              refine ⟨_, rfl, _, hD2, ?_, ?_, fun b u e => ?_⟩
              · unfold rf
                rw [List.length_map]
                have h1 := fl_len d (tm.take j)
                rw [List.length_take] at h1
                exact line_lt (by omega)
              · rw [upd_same, fl_step ht, if_neg c']
                unfold rf
                rw [List.map_append]
                rfl
              · rw [upd_ne (ne_of_none e fD)]
                exact s2 b u e
            · have c' : t.2.1 = d := by
                by_cases z : t.2.1 = d
                · exact z
                · exfalso
                  refine c ?_
                  rw [decide_eq_false (fun e => z (V.int.inj e))]
                  rfl
              refine ⟨?_, s2⟩
              rw [fl_step ht, if_pos c', List.append_nil]
              exact hD2
          rintro G2 ⟨hD2, s2⟩
          unfold rf at hD2
          rw [List.length_map, List.take_length] at hD2
          have rh2 := rh.same s2
          have sG2 := sG.trans s2
          have hx2 := s2 _ _ hxG
          have fD0 := sG.free fD
          have fll := fl_len d tm
          have fdm : (fl d tm).map (·.2) = _ := (fl_map d tm).trans (by rw [em])
          have flt : ∀ y ∈ fl d tm, G2 y.1 = some (.tup (gA y.2)) := fun y hy => s2 _ _ (hmt y (List.mem_filter.mp hy).1)
          refine ⟨_, rfl, r, _, rfl, DPut.k (k := Sum.inr (Str.ofString "alone")) rh2.r_ (by show 4 < sizeLine; decide), ?_⟩
          rw [rkv_alone]
          have ntr4 : ∀ vs, G2 r ≠ some (.tup vs) := fun vs z => by
            rw [rh2.r_] at z
            cases z
          have nDm : D ≠ m := by
            obtain ⟨_, _, h1, _⟩ := rh.m_
            exact (ne_of_none h1 fD).symm
          have nDs : D ≠ s0 := by
            obtain ⟨_, _, h1, _⟩ := rh.s_
            exact (ne_of_none h1 fD).symm
          have nDr : D ≠ r := ne_of hD2 rh2.r_ (by intro z; cases z)
          have hx3 := offx (o := .dK (rkv R m D s0)) ntr4 hx2
          have sG3 := keepr (o := .dK (rkv R m D s0)) sG2
          have hD3 : (upd G2 r (.dK (rkv R m D s0))) D = some (.lst ((fl d tm).map (fun x => V.ref x.1))) := by rw [upd_ne nDr]; exact hD2
          have hr3 : (upd G2 r (.dK (rkv R m D s0))) r = some (.dK (rkv R m D s0)) := upd_same
          have pm3 := rh2.m_.off (o := .dK (rkv R m D s0)) nmr ntr4
          have ps3 := rh2.s_.off (o := .dK (rkv R m D s0)) nsr ntr4
          have flt3 : ∀ y ∈ fl d tm, (upd G2 r (.dK (rkv R m D s0))) y.1 = some (.tup (gA y.2)) := fun y hy => by
            rw [upd_ne (fun z => ntr4 _ (by rw [← z]; exact flt y hy))]
            exact flt y hy
          generalize upd G2 r (.dK (rkv R m D s0)) = G3 at hx3 sG3 hD3 hr3 pm3 ps3 flt3 ⊢
          obtain ⟨ct, cn⟩ := tl_cut (Dd.only l' d bb)
          refine ⟨_, rfl, r, .ref D, rfl, dg_a hr3, Or.inl ⟨rfl, _, SqL.of hD3⟩, _, rfl, _, rfl, x, _, rfl, SqT.of hx3, cn, fun q fq => ?_⟩
          rw [ct]
          refine ⟨by show 1 ≤ sizeLine; decide, fun v fv => ?_⟩
          have sq := same_new (o := .tup (Dd.only l' d bb).tl) fq
          have sv := same_new (o := .lst [V.ref q]) fv
          have hq4 := sv _ _ (upd_same (H := G3) (a := q) (o := .tup (Dd.only l' d bb).tl))
          have hv4 : (upd (upd G3 q (.tup (Dd.only l' d bb).tl)) v (.lst [V.ref q])) v = some (.lst [V.ref q]) := upd_same
          have s34 := sq.trans sv
          generalize upd (upd G3 q (.tup (Dd.only l' d bb).tl)) v (.lst [V.ref q]) = G4 at hq4 hv4 s34 ⊢
          refine ⟨_, rfl, rfl, .inr ⟨_, rfl, ?_⟩⟩
          rw [show decide (V.str (Str.ofString "only") = V.str (Str.ofString "only")) = true from decide_eq_true rfl, if_pos rfl]
          refine ⟨v, 1, _, rfl, rfl, hv4, by decide, by decide, by show 1 ≤ sizeLine; decide, fun N fN => ?_⟩
          have eN : (List.replicate (1 : Int).toNat [V.ref q]).flatten = [V.ref q] := rfl
          rw [eN]
          have sN := same_new (o := .lst [V.ref q]) fN
          have hN5 : (upd G4 N (.lst [V.ref q])) N = some (.lst [V.ref q]) := upd_same
          have s35 := s34.trans sN
          have hq5 := sN _ _ hq4
          generalize upd G4 N (.lst [V.ref q]) = G5 at hN5 s35 hq5 ⊢
          have hD5 := s35 _ _ hD3
          refine ⟨D, N, _, _, rfl, rfl, hD5, hN5, Nat.le_of_lt (line_lt (by rw [List.length_map]; show _ + 1 ≤ _; omega)), ?_⟩
          have ntD : ∀ vs, G5 D ≠ some (.tup vs) := fun vs z => by
            rw [hD5] at z
            cases z
          have offd : ∀ {t : Addr} {vs : List V}, G5 t = some (.tup vs) → (upd G5 D (.lst ((fl d tm).map (fun x => V.ref x.1) ++ [V.ref q]))) t = some (.tup vs) := fun e => by
            rw [upd_ne (fun z => ntD _ (by rw [← z]; exact e))]
            exact e
          have pD : Prs gA (upd G5 D (.lst ((fl d tm).map (fun x => V.ref x.1) ++ [V.ref q]))) D (R.al.filter (fun x => decide (x.1 ≠ d)) ++ [(d, bb)]) := by
            refine ⟨fl d tm ++ [(q, d, bb)], by rw [List.map_append, fdm]; rfl, by rw [upd_same, List.map_append]; rfl, fun y hy => ?_⟩
            rcases List.mem_append.mp hy with hy | hy
            · exact offd (s35 _ _ (flt3 y hy))
            · cases List.mem_singleton.mp hy
              exact offd hq5
          have rh : Rh (upd G5 D (.lst ((fl d tm).map (fun x => V.ref x.1) ++ [V.ref q]))) r m D s0 (Dd.rl (Dd.only l' d bb) R) := ⟨by rw [upd_ne nDr.symm]; exact s35 _ _ hr3, (pm3.same s35).off nDm.symm ntD, pD, (ps3.same s35).off nDs.symm ntD, nDm.symm, rh2.nms, nDs⟩
          have sG : Same H (upd G5 D (.lst ((fl d tm).map (fun x => V.ref x.1) ++ [V.ref q]))) := fun b u e => by
            rw [upd_ne (ne_of_none e fD0)]
            exact (sG3.trans s35) b u e
          have hxG := offd (s35 _ _ hx3)
          generalize upd G5 D (.lst ((fl d tm).map (fun x => V.ref x.1) ++ [V.ref q])) = G at sG rh hxG ⊢
          refine ⟨_, rfl, x, _, _, _, rfl, rfl, SqT.of hxG, rfl, _, rfl, rfl, _, rfl, if_yes ?_⟩
          refine ⟨_, rfl, rfl, _, rfl, if_no (by decide +kernel) ?_⟩
          refine ⟨_, rfl, x, _, _, _, rfl, rfl, SqT.of hxG, rfl, _, rfl, rfl, _, rfl, if_yes ?_⟩
          refine ⟨_, rfl, rfl, _, rfl, if_no (by decide +kernel) ?_⟩
          exact ⟨_, _, _, _, m, D, s0, rfl, sG, rh, fm, fD0, fs⟩
        | usual l' d =>
          cases hl
          refine ⟨_, rfl, x, _, _, _, rfl, rfl, SqT.of hxG, rfl, ?_⟩
          refine ⟨_, rfl, x, _, _, _, rfl, rfl, SqT.of hxG, rfl, _, rfl, rfl, _, rfl, if_yes ?_⟩
          refine ⟨_, rfl, rfl, _, rfl, if_no (by decide +kernel) ?_⟩
          refine ⟨_, rfl, x, _, _, _, rfl, rfl, SqT.of hxG, rfl, _, rfl, rfl, _, rfl, if_yes ?_⟩
          refine ⟨_, rfl, rfl, _, rfl, if_no (by decide +kernel) ?_⟩
          refine ⟨_, rfl, x, _, _, _, rfl, rfl, SqT.of hxG, rfl, _, rfl, rfl, _, rfl, if_yes ?_⟩
          refine ⟨_, rfl, by show 2 ≤ sizeLine; decide, fun u0 fu0 => ⟨u0, _, rfl, .inr (SqT.of upd_same), rfl, rfl, ?_⟩⟩
          have su0 := same_new (o := .tup [V.str (Str.ofString "only"), V.str (Str.ofString "usual")]) fu0
          have sG := sG.trans su0
          have rh := rh.same su0
          have hxG := su0 _ _ hxG
          generalize upd G u0 (.tup [V.str (Str.ofString "only"), V.str (Str.ofString "usual")]) = G at sG rh hxG ⊢
          refine ⟨_, rfl, in_yes (by decide +kernel) ?_⟩
          obtain ⟨tm, em, hm, hmt⟩ := rh.a_
          have ltm : tm.length ≤ i := by have := congrArg List.length em; rw [List.length_map] at this; have := rn.a; omega
          refine ⟨_, rfl, r, .ref a, rfl, dg_a rh.r_, a, rfl, ⟨_, SqL.of hm⟩, fun D fD => ?_⟩
          refine lc_list (K := K) (xs := rf tm) (fun j G2 => G2 D = some (.lst (rf (fl d (tm.take j)))) ∧ Same G G2) ⟨upd_same, same_new fD⟩ (fun j G2 _ z => SqL.of (z.2 _ _ hm)) ?_ ?_
          · rintro j y G2 hj ⟨hD2, s2⟩
            obtain ⟨t, ht, rfl⟩ : ∃ t, tm[j]? = some t ∧ V.ref t.1 = y := by
              unfold rf at hj
              rw [List.getElem?_map] at hj
              obtain ⟨t, ht, e⟩ := Option.map_eq_some_iff.mp hj
              exact ⟨t, ht, e⟩
            refine ⟨rfl, _, rfl, t.1, _, _, _, rfl, rfl, SqT.of (s2 _ _ (hmt t (List.mem_of_getElem? ht))), rfl, _, rfl, x, _, _, _, rfl, rfl, SqT.of (s2 _ _ hxG), rfl, rfl, _, rfl, ?_⟩
            have hjl : j < tm.length := (List.getElem?_eq_some_iff.mp ht).1
            refine ite2 (fun c => ?_) (fun c => ?_)
            · have c' : ¬ t.2.1 = d := fun z => by
                rw [decide_eq_true (by rw [z])] at c
                cases c
              refine ⟨_, rfl, _, hD2, ?_, ?_, fun b u e => ?_⟩
              · unfold rf
                rw [List.length_map]
                have h1 := fl_len d (tm.take j)
                rw [List.length_take] at h1
                exact line_lt (by omega)
              · rw [upd_same, fl_step ht, if_neg c']
                unfold rf
                rw [List.map_append]
                rfl
              · rw [upd_ne (ne_of_none e fD)]
                exact s2 b u e
            · have c' : t.2.1 = d := by
                by_cases z : t.2.1 = d
                · exact z
                · exfalso
                  refine c ?_
                  rw [decide_eq_false (fun e => z (V.int.inj e))]
                  rfl
              refine ⟨?_, s2⟩
              rw [fl_step ht, if_pos c', List.append_nil]
              exact hD2
          rintro G2 ⟨hD2, s2⟩
          unfold rf at hD2
          rw [List.length_map, List.take_length] at hD2
          have rh2 := rh.same s2
          have sG2 := sG.trans s2
          have hx2 := s2 _ _ hxG
          have fD0 := sG.free fD
          have fll := fl_len d tm
          have fdm : (fl d tm).map (·.2) = _ := (fl_map d tm).trans (by rw [em])
          have flt : ∀ y ∈ fl d tm, G2 y.1 = some (.tup (gA y.2)) := fun y hy => s2 _ _ (hmt y (List.mem_filter.mp hy).1)
          refine ⟨_, rfl, r, _, rfl, DPut.k (k := Sum.inr (Str.ofString "alone")) rh2.r_ (by show 4 < sizeLine; decide), ?_⟩
          rw [rkv_alone]
          have ntr4 : ∀ vs, G2 r ≠ some (.tup vs) := fun vs z => by
            rw [rh2.r_] at z
            cases z
          have nDm : D ≠ m := by
            obtain ⟨_, _, h1, _⟩ := rh.m_
            exact (ne_of_none h1 fD).symm
          have nDs : D ≠ s0 := by
            obtain ⟨_, _, h1, _⟩ := rh.s_
            exact (ne_of_none h1 fD).symm
          have nDr : D ≠ r := ne_of hD2 rh2.r_ (by intro z; cases z)
          have hx3 := offx (o := .dK (rkv R m D s0)) ntr4 hx2
          have sG3 := keepr (o := .dK (rkv R m D s0)) sG2
          have hD3 : (upd G2 r (.dK (rkv R m D s0))) D = some (.lst ((fl d tm).map (fun x => V.ref x.1))) := by rw [upd_ne nDr]; exact hD2
          have hr3 : (upd G2 r (.dK (rkv R m D s0))) r = some (.dK (rkv R m D s0)) := upd_same
          have pm3 := rh2.m_.off (o := .dK (rkv R m D s0)) nmr ntr4
          have ps3 := rh2.s_.off (o := .dK (rkv R m D s0)) nsr ntr4
          have flt3 : ∀ y ∈ fl d tm, (upd G2 r (.dK (rkv R m D s0))) y.1 = some (.tup (gA y.2)) := fun y hy => by
            rw [upd_ne (fun z => ntr4 _ (by rw [← z]; exact flt y hy))]
            exact flt y hy
          generalize upd G2 r (.dK (rkv R m D s0)) = G3 at hx3 sG3 hD3 hr3 pm3 ps3 flt3 ⊢
          obtain ⟨ct, cn⟩ := tl_cut (Dd.usual l' d)
          refine ⟨_, rfl, r, .ref D, rfl, dg_a hr3, Or.inl ⟨rfl, _, SqL.of hD3⟩, _, rfl, _, rfl, x, _, rfl, SqT.of hx3, cn, fun q fq => ?_⟩
          rw [ct]
          refine ⟨by show 1 ≤ sizeLine; decide, fun v fv => ?_⟩
          have sq := same_new (o := .tup (Dd.usual l' d).tl) fq
          have sv := same_new (o := .lst [V.ref q]) fv
          have hq4 := sv _ _ (upd_same (H := G3) (a := q) (o := .tup (Dd.usual l' d).tl))
          have hv4 : (upd (upd G3 q (.tup (Dd.usual l' d).tl)) v (.lst [V.ref q])) v = some (.lst [V.ref q]) := upd_same
          have s34 := sq.trans sv
          generalize upd (upd G3 q (.tup (Dd.usual l' d).tl)) v (.lst [V.ref q]) = G4 at hq4 hv4 s34 ⊢
          refine ⟨_, rfl, rfl, .inr ⟨_, rfl, ?_⟩⟩
          rw [show decide (V.str (Str.ofString "usual") = V.str (Str.ofString "only")) = false from decide_eq_false (fun z => absurd (V.str.inj z) (by decide +kernel)), if_neg (by decide)]
          refine ⟨v, 0, _, rfl, rfl, hv4, by decide, by decide, by show 0 ≤ sizeLine; decide, fun N fN => ?_⟩
          have eN : (List.replicate (0 : Int).toNat [V.ref q]).flatten = [] := rfl
          rw [eN]
          have sN := same_new (o := .lst []) fN
          have hN5 : (upd G4 N (.lst [])) N = some (.lst []) := upd_same
          have s35 := s34.trans sN
          have hq5 := sN _ _ hq4
          generalize upd G4 N (.lst []) = G5 at hN5 s35 hq5 ⊢
          have hD5 := s35 _ _ hD3
          refine ⟨D, N, _, _, rfl, rfl, hD5, hN5, Nat.le_of_lt (line_lt (by rw [List.length_map]; show _ + 0 ≤ _; omega)), ?_⟩
          have ntD : ∀ vs, G5 D ≠ some (.tup vs) := fun vs z => by
            rw [hD5] at z
            cases z
          have offd : ∀ {t : Addr} {vs : List V}, G5 t = some (.tup vs) → (upd G5 D (.lst ((fl d tm).map (fun x => V.ref x.1) ++ []))) t = some (.tup vs) := fun e => by
            rw [upd_ne (fun z => ntD _ (by rw [← z]; exact e))]
            exact e
          have pD : Prs gA (upd G5 D (.lst ((fl d tm).map (fun x => V.ref x.1) ++ []))) D (R.al.filter (fun x => decide (x.1 ≠ d))) := by
            refine ⟨fl d tm, fdm, by rw [upd_same, List.append_nil], fun y hy => ?_⟩
            exact offd (s35 _ _ (flt3 y hy))
          have rh : Rh (upd G5 D (.lst ((fl d tm).map (fun x => V.ref x.1) ++ []))) r m D s0 (Dd.rl (Dd.usual l' d) R) := ⟨by rw [upd_ne nDr.symm]; exact s35 _ _ hr3, (pm3.same s35).off nDm.symm ntD, pD, (ps3.same s35).off nDs.symm ntD, nDm.symm, rh2.nms, nDs⟩
          have sG : Same H (upd G5 D (.lst ((fl d tm).map (fun x => V.ref x.1) ++ []))) := fun b u e => by
            rw [upd_ne (ne_of_none e fD0)]
            exact (sG3.trans s35) b u e
          have hxG := offd (s35 _ _ hx3)
          generalize upd G5 D (.lst ((fl d tm).map (fun x => V.ref x.1) ++ [])) = G at sG rh hxG ⊢
          refine ⟨_, rfl, x, _, _, _, rfl, rfl, SqT.of hxG, rfl, _, rfl, rfl, _, rfl, if_yes ?_⟩
          refine ⟨_, rfl, rfl, _, rfl, if_no (by decide +kernel) ?_⟩
          refine ⟨_, rfl, x, _, _, _, rfl, rfl, SqT.of hxG, rfl, _, rfl, rfl, _, rfl, if_yes ?_⟩
          refine ⟨_, rfl, rfl, _, rfl, if_no (by decide +kernel) ?_⟩
          exact ⟨_, _, _, _, m, D, s0, rfl, sG, rh, fm, fD0, fs⟩
        | sick l' a0 t0 =>
          cases hl
          refine ⟨_, rfl, x, _, _, _, rfl, rfl, SqT.of hxG, rfl, ?_⟩
          refine ⟨_, rfl, x, _, _, _, rfl, rfl, SqT.of hxG, rfl, _, rfl, rfl, _, rfl, if_yes ?_⟩
          refine ⟨_, rfl, rfl, _, rfl, if_no (by decide +kernel) ?_⟩
          refine ⟨_, rfl, x, _, _, _, rfl, rfl, SqT.of hxG, rfl, _, rfl, rfl, _, rfl, if_yes ?_⟩
          refine ⟨_, rfl, rfl, _, rfl, if_no (by decide +kernel) ?_⟩
          refine ⟨_, rfl, x, _, _, _, rfl, rfl, SqT.of hxG, rfl, _, rfl, rfl, _, rfl, if_yes ?_⟩
          refine ⟨_, rfl, by show 2 ≤ sizeLine; decide, fun u0 fu0 => ⟨u0, _, rfl, .inr (SqT.of upd_same), rfl, rfl, ?_⟩⟩
          have su0 := same_new (o := .tup [V.str (Str.ofString "only"), V.str (Str.ofString "usual")]) fu0
          have sG := sG.trans su0
          have rh := rh.same su0
          have hxG := su0 _ _ hxG
          generalize upd G u0 (.tup [V.str (Str.ofString "only"), V.str (Str.ofString "usual")]) = G at sG rh hxG ⊢
          refine ⟨_, rfl, in_no (by decide +kernel) ?_⟩
          refine ⟨_, rfl, x, _, _, _, rfl, rfl, SqT.of hxG, rfl, _, rfl, rfl, _, rfl, if_yes ?_⟩
          refine ⟨_, rfl, rfl, _, rfl, if_yes ?_⟩
          obtain ⟨tm, em, hm, hmt⟩ := rh.s_
          have ltm : tm.length ≤ i := by have := congrArg List.length em; rw [List.length_map] at this; have := rn.s; omega
          obtain ⟨ct, cn⟩ := tl_cut (Dd.sick l' a0 t0)
          refine ⟨_, rfl, r, .ref s0, rfl, dg_s rh.r_, Or.inl ⟨rfl, _, SqL.of hm⟩, _, rfl, _, rfl, x, _, rfl, SqT.of hxG, cn, fun q fq => ?_⟩
          rw [ct]
          have sq := same_new (o := .tup (Dd.sick l' a0 t0).tl) fq
          have hq4 : (upd G q (.tup (Dd.sick l' a0 t0).tl)) q = some (.tup (Dd.sick l' a0 t0).tl) := upd_same
          have hs4 := sq _ _ hm
          have rh4 := rh.same sq
          have sG4 := sG.trans sq
          have hx4 := sq _ _ hxG
          have hmt4 : ∀ y ∈ tm, (upd G q (.tup (Dd.sick l' a0 t0).tl)) y.1 = some (.tup (gS y.2)) := fun y hy => sq _ _ (hmt y hy)
          generalize upd G q (.tup (Dd.sick l' a0 t0).tl) = G4 at hq4 hs4 rh4 sG4 hx4 hmt4 ⊢
          refine ⟨s0, _, _, rfl, rfl, hs4, by rw [List.length_map]; exact line_lt (by omega), ?_⟩
          have ntD : ∀ vs, G4 s0 ≠ some (.tup vs) := fun vs z => by
            rw [hs4] at z
            cases z
          have offd : ∀ {t : Addr} {vs : List V}, G4 t = some (.tup vs) → (upd G4 s0 (.lst (tm.map (fun x => V.ref x.1) ++ [V.ref q]))) t = some (.tup vs) := fun e => by
            rw [upd_ne (fun z => ntD _ (by rw [← z]; exact e))]
            exact e
          have pD : Prs gS (upd G4 s0 (.lst (tm.map (fun x => V.ref x.1) ++ [V.ref q]))) s0 (R.sp ++ [(a0, t0)]) := by
            refine ⟨tm ++ [(q, a0, t0)], by rw [List.map_append, em]; rfl, by rw [upd_same, List.map_append]; rfl, fun y hy => ?_⟩
            rcases List.mem_append.mp hy with hy | hy
            · exact offd (hmt4 y hy)
            · cases List.mem_singleton.mp hy
              exact offd hq4
          have rh : Rh (upd G4 s0 (.lst (tm.map (fun x => V.ref x.1) ++ [V.ref q]))) r m a s0 (Dd.rl (.sick l' a0 t0) R) := ⟨by rw [upd_ne nsr.symm]; exact rh4.r_, rh4.m_.off rh4.nms ntD, rh4.a_.off rh4.nas ntD, pD, rh4.nma, rh4.nms, rh4.nas⟩
          have sG : Same H (upd G4 s0 (.lst (tm.map (fun x => V.ref x.1) ++ [V.ref q]))) := fun b u e => by
            rw [upd_ne (ne_of_none e fs)]
            exact sG4 b u e
          have hxG := offd hx4
          generalize upd G4 s0 (.lst (tm.map (fun x => V.ref x.1) ++ [V.ref q])) = G at sG rh hxG ⊢
          refine ⟨_, rfl, x, _, _, _, rfl, rfl, SqT.of hxG, rfl, _, rfl, rfl, _, rfl, if_yes ?_⟩
          refine ⟨_, rfl, rfl, _, rfl, if_no (by decide +kernel) ?_⟩
          exact ⟨_, _, _, _, m, a, s0, rfl, sG, rh, fm, fa, fs⟩
        | well l' d =>
          cases hl
          refine ⟨_, rfl, x, _, _, _, rfl, rfl, SqT.of hxG, rfl, ?_⟩
          refine ⟨_, rfl, x, _, _, _, rfl, rfl, SqT.of hxG, rfl, _, rfl, rfl, _, rfl, if_yes ?_⟩
          refine ⟨_, rfl, rfl, _, rfl, if_no (by decide +kernel) ?_⟩
          refine ⟨_, rfl, x, _, _, _, rfl, rfl, SqT.of hxG, rfl, _, rfl, rfl, _, rfl, if_yes ?_⟩
          refine ⟨_, rfl, rfl, _, rfl, if_no (by decide +kernel) ?_⟩
          refine ⟨_, rfl, x, _, _, _, rfl, rfl, SqT.of hxG, rfl, _, rfl, rfl, _, rfl, if_yes ?_⟩
          refine ⟨_, rfl, by show 2 ≤ sizeLine; decide, fun u0 fu0 => ⟨u0, _, rfl, .inr (SqT.of upd_same), rfl, rfl, ?_⟩⟩
          have su0 := same_new (o := .tup [V.str (Str.ofString "only"), V.str (Str.ofString "usual")]) fu0
          have sG := sG.trans su0
          have rh := rh.same su0
          have hxG := su0 _ _ hxG
          generalize upd G u0 (.tup [V.str (Str.ofString "only"), V.str (Str.ofString "usual")]) = G at sG rh hxG ⊢
          refine ⟨_, rfl, in_no (by decide +kernel) ?_⟩
          refine ⟨_, rfl, x, _, _, _, rfl, rfl, SqT.of hxG, rfl, _, rfl, rfl, _, rfl, if_yes ?_⟩
          refine ⟨_, rfl, rfl, _, rfl, if_no (by decide +kernel) ?_⟩
          refine ⟨_, rfl, x, _, _, _, rfl, rfl, SqT.of hxG, rfl, _, rfl, rfl, _, rfl, if_yes ?_⟩
          refine ⟨_, rfl, rfl, _, rfl, if_yes ?_⟩
          obtain ⟨tm, em, hm, hmt⟩ := rh.s_
          have ltm : tm.length ≤ i := by have := congrArg List.length em; rw [List.length_map] at this; have := rn.s; omega
          refine ⟨_, rfl, r, .ref s0, rfl, dg_s rh.r_, s0, rfl, ⟨_, SqL.of hm⟩, fun D fD => ?_⟩
          have fD0 := sG.free fD
          refine lc_list (K := K) (xs := tm.map fun x => V.ref x.1) (fun j G2 => ∃ t2 : List (Addr × Int × Int), t2.map (·.2) = cutL ((tm.take j).map (·.2)) d ∧ G2 D = some (.lst (t2.map fun x => V.ref x.1)) ∧ (∀ y ∈ t2, G2 y.1 = some (.tup (gS y.2))) ∧ t2.length ≤ j ∧ Same G G2)
            ⟨[], rfl, upd_same, (fun y hy => by cases hy), Nat.le_refl _, same_new fD⟩ (fun j G2 _ z => by obtain ⟨_, _, _, _, _, s2⟩ := z; exact SqL.of (s2 _ _ hm)) ?_ ?_
          · rintro j y G2 hj ⟨t2, e2, hD2, ht2, l2, s2⟩
            rw [List.getElem?_map] at hj
            obtain ⟨t, ht, rfl⟩ := Option.map_eq_some_iff.mp hj
            have hjl : j < tm.length := (List.getElem?_eq_some_iff.mp ht).1
            refine ⟨t.1, _, rfl, SqT.of (s2 _ _ (hmt t (List.mem_of_getElem? ht))), rfl, _, _, rfl, _, _, rfl, rfl, rfl, ?_⟩
            refine ⟨_, rfl, _, rfl, _, rfl, x, _, _, _, rfl, rfl, SqT.of (s2 _ _ hxG), rfl, _, _, rfl, rfl, _, _, rfl, by show 2 ≤ sizeLine; decide, fun u fu => ?_⟩
            have su := same_new (o := .tup [V.int t.2.1, V.int (if d - 1 < t.2.2 then d - 1 else t.2.2)]) fu
            have nDu : D ≠ u := ne_of_none hD2 fu
            refine ⟨_, su _ _ hD2, by rw [List.length_map]; exact line_lt (by omega), t2 ++ [(u, t.2.1, if d - 1 < t.2.2 then d - 1 else t.2.2)], ?_, ?_, fun z hz => ?_, ?_, fun b w e => ?_⟩
            · rw [List.map_append, e2, take_one ht, List.map_append]
              unfold cutL
              rw [List.map_append]
              rfl
            · rw [upd_same, List.map_append]
              rfl
            · rcases List.mem_append.mp hz with hz | hz
              · rw [upd_ne (ne_of (ht2 z hz) hD2 (by intro z; cases z))]
                exact su _ _ (ht2 z hz)
              · cases List.mem_singleton.mp hz
                rw [upd_ne nDu.symm]
                exact upd_same
            · rw [List.length_append]
              show _ + 1 ≤ _
              omega
            · rw [upd_ne (ne_of_none e fD)]
              exact su _ _ (s2 _ _ e)
          rintro G2 ⟨t2, e2, hD2, ht2, l2, s2⟩
          rw [List.length_map, List.take_length, em] at e2
          have rh2 := rh.same s2
          have sG2 := sG.trans s2
          have hx2 := s2 _ _ hxG
          refine ⟨_, rfl, r, _, rfl, DPut.k (k := Sum.inr (Str.ofString "spans")) rh2.r_ (by show 4 < sizeLine; decide), ?_⟩
          rw [rkv_spans]
          have ntr4 : ∀ vs, G2 r ≠ some (.tup vs) := fun vs z => by
            rw [rh2.r_] at z
            cases z
          have nDm : D ≠ m := by
            obtain ⟨_, _, h1, _⟩ := rh.m_
            exact (ne_of_none h1 fD).symm
          have nDa : D ≠ a := by
            obtain ⟨_, _, h1, _⟩ := rh.a_
            exact (ne_of_none h1 fD).symm
          have nDr : D ≠ r := ne_of hD2 rh2.r_ (by intro z; cases z)
          have hx3 := offx (o := .dK (rkv R m a D)) ntr4 hx2
          have pD : Prs gS G2 D (cutL R.sp d) := ⟨t2, e2, hD2, ht2⟩
          have rh : Rh (upd G2 r (.dK (rkv R m a D))) r m a D (Dd.rl (.well l' d) R) := ⟨upd_same, rh2.m_.off nmr ntr4, rh2.a_.off nar ntr4, pD.off nDr ntr4, rh2.nma, nDm.symm, nDa.symm⟩
          exact ⟨_, _, _, _, m, a, D, rfl, keepr sG2, rh, fm, fa, fD0⟩
    · rintro σ G ⟨v3, v4, v5, v6, m, a, s0, rfl, sG, rh, fnew⟩
      rw [List.length_map, List.take_length] at rh
      exact ⟨_, rfl, hQ r m a s0 G sG fr fnew rh⟩
end
end K14
set_option Elab.async false
set_option linter.all false
set_option maxRecDepth 100000
set_option maxHeartbeats 4000000
namespace K14
open PySem PySem.Spec PyProof.Rows L2
open C8 (Cal Mak Met pe_c pe_mk pe_mt pe_mt0)
open SX (S)
def inSpan (sp : List (Int × Int)) (d : Int) : List Int := (sp.filter fun x => decide (x.1 ≤ d ∧ d ≤ x.2)).map (·.1)
def upTo (x : Fo) (R : Rl) (d : Int) : List (Int × Nat) := ((x.b, x.m) :: R.ms).filter fun y => decide (y.1 ≤ d)
/-- who rides on a day, as the law reads it -/
def lawOn (x : Fo) (R : Rl) (d : Int) : Bool :=
  if d < x.b ∨ (∃ t, R.last = some t ∧ t < d) then false else if inSpan R.sp d ≠ [] then false else
  match getI R.al d with
  | some b => b
  | none => bitOn ((((upTo x R d).filter fun y => decide (y.1 = topI ((upTo x R d).map (·.1)))).map (·.2)).getLast?.getD 0) d
theorem dg_l {G : Hp} {r m a s : Addr} {R : Rl} (h : G r = some (.dK (rkv R m a s))) : DGet G r (.str (Str.ofString "last")) (some (lastV R.last)) := by
  have := DGet.k (k := Sum.inr (Str.ofString "last")) h
  rw [show valV (rkv R m a s) (Sum.inr (Str.ofString "last")) = some (lastV R.last) from rfl] at this
  exact this
theorem flt_step {α : Type} {ts : List α} {j : Nat} {t : α} (h : ts[j]? = some t) (p : α → Bool) : (ts.take (j + 1)).filter p = (ts.take j).filter p ++ (if p t = true then [t] else []) := by
  rw [take_one h, List.filter_append]
  congr 1
  by_cases c : p t = true
  · rw [if_pos c, List.filter_cons_of_pos c]
    rfl
  · rw [if_neg c, List.filter_cons_of_neg c]
    rfl
theorem in_snoc (sp : List (Int × Int)) (x : Int × Int) (d : Int) : inSpan (sp ++ [x]) d = inSpan sp d ++ (if x.1 ≤ d ∧ d ≤ x.2 then [x.1] else []) := by
  unfold inSpan
  rw [List.filter_append, List.map_append]
  congr 1
  by_cases c : x.1 ≤ d ∧ d ≤ x.2
  · rw [if_pos c, List.filter_cons_of_pos (by simpa using c)]
    rfl
  · rw [if_neg c, List.filter_cons_of_neg (by simpa using c)]
    rfl
theorem in_len (sp : List (Int × Int)) (d : Int) : (inSpan sp d).length ≤ sp.length := by
  unfold inSpan
  rw [List.length_map]
  exact List.length_filter_le _ _
end K14
set_option Elab.async false
set_option linter.all false
set_option maxRecDepth 100000
set_option maxHeartbeats 4000000
namespace K14
/-! ### what the law reads is what Wants keeps -/
def lastI (L : List (Int × Nat)) (k : Int) : Option Nat := ((L.filter fun y => decide (y.1 = k)).map (·.2)).getLast?
theorem lastI_app (A B : List (Int × Nat)) (k : Int) : lastI (A ++ B) k = (lastI B k).or (lastI A k) := by
  unfold lastI
  rw [List.filter_append, List.map_append, List.getLast?_append]
theorem lastI_one (d k : Int) (m : Nat) : lastI [(d, m)] k = if d = k then some m else none := by
  unfold lastI
  by_cases c : d = k
  · rw [if_pos c, List.filter_cons_of_pos (by simpa using c)]
    rfl
  · rw [if_neg c, List.filter_cons_of_neg (by simpa using c)]
    rfl
theorem lastI_drop (L : List (Int × Nat)) (d k : Int) (h : ¬ k = d) : lastI (L.filter fun y => decide (y.1 ≠ d)) k = lastI L k := by
  unfold lastI
  rw [List.filter_filter]
  congr 2
  refine List.filter_congr fun y _ => ?_
  by_cases c : y.1 = k
  · have : ¬ y.1 = d := fun z => h (c.symm.trans z)
    simp [c, h]
  · simp [c]
theorem lastI_isSome (L : List (Int × Nat)) (k : Int) : (lastI L k).isSome = true ↔ k ∈ L.map (·.1) := by
  unfold lastI
  rw [List.getLast?_isSome]
  constructor
  · intro h
    have : (L.filter fun y => decide (y.1 = k)) ≠ [] := fun z => by rw [z] at h; simp at h
    obtain ⟨y, hy⟩ := List.exists_mem_of_ne_nil _ this
    obtain ⟨h1, h2⟩ := List.mem_filter.mp hy
    exact List.mem_map.mpr ⟨y, h1, of_decide_eq_true h2⟩
  · intro h
    obtain ⟨y, hy, e⟩ := List.mem_map.mp h
    have : y.2 ∈ ((L.filter fun y => decide (y.1 = k)).map (·.2)) := List.mem_map.mpr ⟨y, List.mem_filter.mpr ⟨hy, decide_eq_true e⟩, rfl⟩
    exact List.ne_nil_of_mem this
theorem sick_snoc (A B : List (Int × Int)) (t : Int) : sickB (A ++ B) t = (sickB A t || sickB B t) := by
  unfold sickB
  rw [List.any_append]
theorem sick_cut (d t : Int) : ∀ A : List (Int × Int), sickB (cutL A d) t = (sickB A t && decide (t < d))
  | [] => rfl
  | x :: r => by
    have ih := sick_cut d t r
    have e1 : sickB (cutL (x :: r) d) t = (decide (x.1 ≤ t ∧ t ≤ (if d - 1 < x.2 then d - 1 else x.2)) || sickB (cutL r d) t) := rfl
    have e2 : sickB (x :: r) t = (decide (x.1 ≤ t ∧ t ≤ x.2) || sickB r t) := rfl
    rw [e1, e2, ih, Bool.and_or_distrib_right]
    congr 1
    rw [← Bool.decide_and]
    refine decide_eq_decide.mpr ⟨fun z => ?_, fun z => ?_⟩
    · have z1 := z.1
      have z2 := z.2
      split at z2 <;> omega
    · refine ⟨z.1.1, ?_⟩
      split <;> omega
theorem sick_well (d t : Int) : ∀ A : List (Int × Int), sickB (wellL A d) t = (sickB A t && decide (t < d))
  | [] => rfl
  | x :: r => by
    have ih := sick_well d t r
    have e2 : sickB (x :: r) t = (decide (x.1 ≤ t ∧ t ≤ x.2) || sickB r t) := rfl
    by_cases c : x.1 < d
    · have e1 : wellL (x :: r) d = (x.1, if d - 1 < x.2 then d - 1 else x.2) :: wellL r d := by
        unfold wellL
        rw [List.filter_cons_of_pos (by simpa using c)]
        rfl
      have e3 : sickB ((x.1, if d - 1 < x.2 then d - 1 else x.2) :: wellL r d) t = (decide (x.1 ≤ t ∧ t ≤ (if d - 1 < x.2 then d - 1 else x.2)) || sickB (wellL r d) t) := rfl
      rw [e1, e3, e2, ih, Bool.and_or_distrib_right]
      congr 1
      rw [← Bool.decide_and]
      refine decide_eq_decide.mpr ⟨fun z => ?_, fun z => ?_⟩
      · have z1 := z.1
        have z2 := z.2
        split at z2 <;> omega
      · refine ⟨z.1.1, ?_⟩
        split <;> omega
    · have e1 : wellL (x :: r) d = wellL r d := by
        unfold wellL
        rw [List.filter_cons_of_neg (by simpa using c)]
      rw [e1, e2, ih, Bool.and_or_distrib_right]
      have : (decide (x.1 ≤ t ∧ t ≤ x.2) && decide (t < d)) = false := by
        rw [← Bool.decide_and]
        exact decide_eq_false fun z => by omega
      rw [this, Bool.false_or]
theorem in_sick (A : List (Int × Int)) (d : Int) : inSpan A d ≠ [] ↔ sickB A d = true := by
  unfold inSpan sickB
  rw [List.any_eq_true]
  constructor
  · intro h
    obtain ⟨y, hy⟩ := List.exists_mem_of_ne_nil _ h
    obtain ⟨x, hx, _⟩ := List.mem_map.mp hy
    exact ⟨x, (List.mem_filter.mp hx).1, (List.mem_filter.mp hx).2⟩
  · rintro ⟨x, hx, e⟩ z
    have : x.1 ∈ (A.filter fun x => decide (x.1 ≤ d ∧ d ≤ x.2)).map (·.1) := List.mem_map.mpr ⟨x, List.mem_filter.mpr ⟨hx, e⟩, rfl⟩
    rw [z] at this
    cases this
structure Rel (x : Fo) (z : Ws) (R : Rl) : Prop where
  s : z.s = x.s
  f : z.f = x.b
  last : z.l = R.last.getD 1000000
  ms : ∀ k, getI z.ms k = lastI ((x.b, x.m) :: R.ms) k
  al : ∀ k, getI z.al k = getI R.al k
  sp : ∀ d, sickB z.sp d = sickB R.sp d
theorem Rel.start (x : Fo) : Rel x (newW x.s x.b x.m) ⟨none, [], [], []⟩ := by
  refine ⟨rfl, rfl, rfl, fun k => ?_, fun k => rfl, fun d => rfl⟩
  rw [lastI_one]
  show getI [(x.b, x.m)] k = _
  rw [get_cons]
  rfl
theorem lastI_cons (y : Int × Nat) (L : List (Int × Nat)) (k : Int) : lastI (y :: L) k = (lastI L k).or (lastI [y] k) := lastI_app [y] L k
theorem Rel.step {x : Fo} {z : Ws} {R : Rl} (h : Rel x z R) (dd : Dd) : Rel x (dd.act z) (dd.rl R) := by
  cases dd with
  | leave l d => exact ⟨h.s, h.f, rfl, h.ms, h.al, h.sp⟩
  | weekly l m d =>
    refine ⟨h.s, h.f, h.last, fun k => ?_, h.al, h.sp⟩
    show getI (putI z.ms d m) k = lastI ((x.b, x.m) :: (R.ms.filter (fun y => decide (y.1 ≠ d)) ++ [(d, m)])) k
    rw [get_put, lastI_cons, lastI_app, lastI_one]
    by_cases c : k = d
    · rw [if_pos c, if_pos c.symm]
      rfl
    · rw [if_neg c, if_neg (fun z => c z.symm), lastI_drop _ _ _ c, h.ms, lastI_cons]
      rfl
  | only l d b =>
    refine ⟨h.s, h.f, h.last, h.ms, fun k => ?_, h.sp⟩
    show getI (putI z.al d b) k = getI (dropI R.al d ++ [(d, b)]) k
    rw [get_put, get_app, get_drop, get_cons]
    by_cases c : k = d
    · rw [if_pos c, if_pos c, if_pos c.symm]
      rfl
    · rw [if_neg c, if_neg c, if_neg (fun z => c z.symm), h.al]
      show _ = (getI R.al k).or none
      simp
  | usual l d =>
    refine ⟨h.s, h.f, h.last, h.ms, fun k => ?_, h.sp⟩
    show getI (dropI z.al d) k = getI (dropI R.al d) k
    rw [get_drop, get_drop, h.al]
  | sick l a t =>
    refine ⟨h.s, h.f, h.last, h.ms, h.al, fun d => ?_⟩
    show sickB (z.sp ++ [(a, t)]) d = sickB (R.sp ++ [(a, t)]) d
    rw [sick_snoc, sick_snoc, h.sp]
  | well l d =>
    refine ⟨h.s, h.f, h.last, h.ms, h.al, fun t => ?_⟩
    show sickB (wellL z.sp d) t = sickB (cutL R.sp d) t
    rw [sick_well, sick_cut, h.sp]
theorem topI_ext {l m : List Int} (hl : l ≠ []) (h0 : ∀ x ∈ l, 0 ≤ x) (h : ∀ k, k ∈ l ↔ k ∈ m) : topI l = topI m := by
  have hm : m ≠ [] := fun z => by
    obtain ⟨y, hy⟩ := List.exists_mem_of_ne_nil _ hl
    rw [h, z] at hy
    cases hy
  have a := topI_ge ((h _).mp (topI_mem hl h0))
  have b := topI_ge ((h _).mpr (topI_mem hm fun x hx => h0 x ((h x).mpr hx)))
  omega
theorem Rel.holds {x : Fo} {z : Ws} {R : Rl} {n : Nat} (h : Rel x z R) (w : Wok n z) (d : Int) (hd : isDay d) : z.holds d = lawOn x R d := by
  have key : ∀ k, k ∈ z.ms.map (·.1) ↔ k ∈ ((x.b, x.m) :: R.ms).map (·.1) := fun k => by rw [← getI_isSome, ← lastI_isSome, h.ms]
  have elast : d ≤ z.l ↔ ¬ ∃ t, R.last = some t ∧ t < d := by
    rw [h.last]
    cases hl : R.last with
    | none => exact ⟨fun _ => (by rintro ⟨t, e, _⟩; cases e), fun _ => hd.2⟩
    | some t0 => exact ⟨fun c => (by rintro ⟨t, e, c2⟩; cases e; have c' : d ≤ t0 := c; omega), fun c => by
        show d ≤ t0
        by_cases q : d ≤ t0
        · exact q
        · exact absurd ⟨t0, rfl, by omega⟩ c⟩
  unfold Ws.holds lawOn
  by_cases c1 : d < x.b ∨ ∃ t, R.last = some t ∧ t < d
  · rw [if_pos c1, if_neg]
    rintro ⟨⟨c2, c3⟩, _⟩
    rcases c1 with c1 | c1
    · rw [h.f] at c2
      omega
    · exact elast.mp c3 c1
  rw [if_neg c1]
  by_cases c4 : inSpan R.sp d ≠ []
  · rw [if_pos c4, if_neg]
    rintro ⟨_, c5⟩
    rw [h.sp, (in_sick _ _).mp c4] at c5
    cases c5
  rw [if_neg c4, if_pos ⟨⟨by rw [h.f]; have : ¬ d < x.b := fun q => c1 (.inl q); omega, elast.mpr fun q => c1 (.inr q)⟩, by
    rw [h.sp]
    cases q : sickB R.sp d with
    | false => rfl
    | true => exact absurd ((in_sick _ _).mpr q) c4⟩, h.al]
  cases getI R.al d with
  | some b => rfl
  | none =>
    show bitOn (maskAt z.ms d) d = bitOn _ d
    congr 1
    have b0 : x.b ≤ d := by have : ¬ d < x.b := fun q => c1 (.inl q); omega
    have fz : z.f ∈ (z.ms.map (·.1)).filter fun k => decide (k ≤ d) := List.mem_filter.mpr ⟨w.fm, decide_eq_true (by rw [h.f]; exact b0)⟩
    have etop : startOn z.ms d = topI ((upTo x R d).map (·.1)) := by
      unfold startOn
      refine topI_ext (List.ne_nil_of_mem fz) (fun k hk => w.k0 k (List.mem_filter.mp hk).1) fun k => ?_
      rw [List.mem_filter, key, decide_eq_true_eq]
      unfold upTo
      constructor
      · rintro ⟨hk, hkd⟩
        obtain ⟨y, hy, e⟩ := List.mem_map.mp hk
        exact List.mem_map.mpr ⟨y, List.mem_filter.mpr ⟨hy, decide_eq_true (by rw [e]; exact hkd)⟩, e⟩
      · intro hk
        obtain ⟨y, hy, e⟩ := List.mem_map.mp hk
        obtain ⟨h1, h2⟩ := List.mem_filter.mp hy
        exact ⟨List.mem_map.mpr ⟨y, h1, e⟩, by rw [← e]; exact of_decide_eq_true h2⟩
    have tle : topI ((upTo x R d).map (·.1)) ≤ d := by
      rw [← etop]
      unfold startOn
      have := topI_mem (List.ne_nil_of_mem fz) (fun k hk => w.k0 k (List.mem_filter.mp hk).1)
      exact of_decide_eq_true (List.mem_filter.mp this).2
    unfold maskAt
    rw [etop, h.ms]
    generalize topI ((upTo x R d).map (·.1)) = mx at tle
    unfold lastI upTo
    rw [List.filter_filter]
    congr 4
    funext y
    by_cases c : y.1 = mx
    · rw [decide_eq_true c, decide_eq_true (by rw [c]; exact tle)]
      rfl
    · rw [decide_eq_false c]
      rfl
end K14
set_option Elab.async false
set_option linter.all false
set_option maxRecDepth 100000
set_option maxHeartbeats 4000000
/-! GL: promises of defs that are asked only where no repr is under way (A.guards = some []); what such a def may do more: repr of lists and tuples. -/
namespace GL
open PySem PySem.Spec PyProof.Rows L2
/-- a def's promise, where no repr is under way -/
structure FnG (P : Program) (w : World) (K : PySem.W.Frag) (mg : Str → Option Value) (base : Heap) (k : Nat) (f : Addr) (fd : FuncData) (ps : List Str) (sp : Sp) : Prop where
  len : ∀ vs H Q E, sp vs H Q E → vs.length = ps.length
  run : ∀ (A : Around) (outer : List Env) (s : Shared) (H : Hp) (args : Args) (us : List Value) (vs : List V) (Q : VK) (E : XK), A.guards = some [] → Room k A → Env0 P w K mg base A outer s H → BindsTo s fd args (ps.zip us) → Vals vs us → sp vs H Q E →
    codeAny (model P w) A (.call (.ref f) args) (CR CX0 outer P w H s Q E) s
section
variable {P : Program} {w : World} {K : PySem.W.Frag} {mg : Str → Option Value} {base : Heap} {k : Nat} {f : Addr} {fd : FuncData} {ps : List Str} {sp : Sp}
theorem FnG.of (F : FnOk P w K mg base CX0 k f fd ps sp) : FnG P w K mg base k f fd ps sp := ⟨F.len, fun A outer s H args us vs Q E _ => F.run A outer s H args us vs Q E⟩
/-- by its body -/
theorem okG {x qual : Str} {params : Arguments} {body : List Stmt} {scope : Scope} {dvs : List V} {kws : List (Str × V)} {N : List Str} (F : FunD K x qual params body scope dvs kws f fd) (S : FnScope N ps scope) (len : ∀ vs H Q E, sp vs H Q E → vs.length = ps.length)
    (hbody : ∀ (cdv : Value) (A : Around) (outer : List Env) (s : Shared) (H : Hp) (vs : List V) (Q : VK) (E : XK), A.guards = some [] → Room k (A.deeper (envOfC qual scope s.heap.objs.size f cdv)) → sp vs H Q E →
      ∃ t, PSs (cxOf CX0 P w K mg base N qual scope f cdv A outer s H E) body t ∧ t { nx := fun _ H' => Q .non H', rt := Q } (start N vs) H) : FnG P w K mg base (k + 1) f fd ps sp := by
  refine ⟨len, fun A outer s H args us vs Q E hg hr e0 hb r hsp => ?_⟩
  obtain ⟨oc, od, dV, kV, doc, pm, an, cdv, ct, osl, hfd, lk, hcd, _, _⟩ := F.ex
  subst hfd
  obtain ⟨t, ht, hq⟩ := hbody cdv A outer s H vs Q E hg (hr.deeper _) hsp
  have keep : ∀ b o, base.get? b = some o → s.heap.get? b = some o := fun b o e => (e0.bs b o e).1
  have KX : K.In s.heap := e0.mod.kin.keeps keep
  refine codeAny_call_function hr.depth (KX _ _ lk) rfl S.co S.gen rfl (PySem.W.codeRec_of KX hcd) (hb _ _ _ _ (wpAny_newFunctionEnv_cells S.kind (fun y hy => ?_) fun env he s1 x => ?_))
  · exact (S.par y.1 (List.of_mem_zip hy).1).imp id fun q => ⟨q, PySem.W.cellsFrom_some _ _ _ (.inl q)⟩
  · subst he
    refine ⟨(e0.mod.nolimit.keeps keep).keeps x.toInCall.keep, codeAny_func (wpAny_mono (ht.run [] s1 (start N vs) H _ (inv_start S hr.hd e0 (len _ _ _ _ hsp) r x) hq) (fun fl s' hs => ?_) fun e s' hs => hs)⟩
    match fl, hs with
    | .ret u, ⟨v, σ', H', J, rv, q⟩ => exact ⟨v, H', J.os, J.bare, J.base, J.hok, rv, q⟩
    | .next, ⟨σ', H', J, q⟩ => exact ⟨.non, H', J.os, J.bare, J.base, J.hok, rfl, q⟩
    | .brk, ⟨_, _, _, q⟩ => exact q.elim
    | .cont, ⟨_, _, _, q⟩ => exact q.elim
end
/-- the package of a def of this kind -/
structure CalG (P : Program) (w : World) (K : PySem.W.Frag) (mg : Str → Option Value) (base : Heap) (k : Nat) (x : Str) (sp : Sp) (dvs : List V) : Prop where
  ex : ∃ (f : Addr) (fd : FuncData) (ps : List Str) (ds : List Value), FnG P w K mg base k f fd ps sp ∧ mg x = some (.ref f) ∧ PySem.W.keepIn K (.ref f) = true ∧ Binds K fd ps ds ∧ Vals dvs ds
section
variable {X : Cx} {k j : Nat} {x : Str} {sp : Sp} {dvs : List V} {e : Expr} {es : List Expr} {t : TA} {p pos : Pos}
theorem pe_cG (c : CalG X.prog X.w X.K X.mg X.base k x sp dvs) (hgd : X.A.guards = some []) (hr : Room j X.A) (hk : k ≤ j) (hg : Gl X x) (ha : PA X (e :: es) t)
    (hdb : (x == ("__debug__" : Str)) = false := by decide) (he : starEach (e :: es) X.env = (false, eval e X.env) :: starEach es X.env := by rfl) (hpl : (backTo pos (starEach es X.env)).any (·.1) = false := by rfl) :
    PE X (.Call (.Name x p) (e :: es) [] pos) (tCall sp dvs E0 t) := by
  obtain ⟨f, fd, ps, ds, F, hm, kp, b, d⟩ := c.ex
  refine ⟨fun pins s σ H Q I h => wpAny_Call_Name_kw (ld_glob I hg hm (PySem.W.callWith_K (h₀ := X.base) I.ok.mod.kin kp (thn (ha.run pos pins s σ H _ I h) fun us s1 ⟨vs, H1, I1, r, q⟩ => ⟨I1.kIn, ?_⟩) he hpl) hdb)⟩
  have r2 := r.append d
  refine wpAny_call (codeAny_mono (F.run X.A X.stack s1 H1 ⟨us, []⟩ (us ++ ds) (vs ++ dvs) Q E0 hgd (hr.mono hk) I1.env0 (b s1 us I1.kIn (r2.length.symm.trans (F.len _ _ _ _ q))) r2 q) fun r s' hq => ?_)
  match r, hq with
  | .error _, hq => exact hq.elim
  | .ok (.ret u), hq => exact I1.after hq
  | .ok .next, hq => exact hq.elim
  | .ok .brk, hq => exact hq.elim
  | .ok .cont, hq => exact hq.elim
/-- repr of what is flat, of lists and tuples -/
def rRepr (K : PySem.W.Frag) : List V → Hp → VK → Prop := fun xs H Q => ∃ (y : V) (d : PyData), xs = [y] ∧ Dp K H y d ∧ d.showable = true ∧ d.hasDict = false ∧ d.depth ≤ 60 ∧ d.shown.length ≤ sizeLine ∧ Q (.str d.shown) H
theorem call_reprD (hgd : X.A.guards = some []) (hu : X.A.units + 64 < cLine) : CallR X (.builtin "repr") (rRepr X.K) := by
  intro pins s σ H xs us Q I r h
  obtain ⟨y, d, rfl, hd, hs, hn, hdp, hsz, q⟩ := h
  obtain ⟨u, rfl, ru⟩ := r.one
  obtain ⟨as, rd⟩ := Dp.reads I d y u hd ru
  have fin : ∀ h' tk t, (∀ b o, s.heap.get? b = some o → h'.get? b = some o) → EP X pins σ Q (.str d.shown t) { s with heap := h', toks := tk } := fun h' tk t hk => ⟨.str d.shown, H, I.kept hk, ⟨t, rfl⟩, q⟩
  cases hd with
  | non => cases ru; exact PySem.P.repr_of_none (fin s.heap _ _ fun _ _ e => e)
  | bl b => cases ru; exact PySem.P.repr_of_bool (fin s.heap _ _ fun _ _ e => e)
  | int i =>
    obtain ⟨t, rfl⟩ := ru
    exact PySem.P.repr_of_int (of_decide_eq_true hs) (fin s.heap _ _ fun _ _ e => e)
  | str z =>
    obtain ⟨t, rfl⟩ := ru
    exact PySem.P.repr_of_str (fin s.heap _ _ fun _ _ e => e) hsz
  | lst _ _ =>
    cases ru
    exact repr_of_reads' rd hs (fun z => absurd z (by rw [hn]; decide)) hgd (by omega) (fun _ _ e => e) (fun h' u tk hk => fin h' tk u hk) hsz
  | tup _ _ =>
    cases ru
    exact repr_of_reads' rd hs (fun z => absurd z (by rw [hn]; decide)) hgd (by omega) (fun _ _ e => e) (fun h' u tk hk => fin h' tk u hk) hsz
end
end GL
set_option linter.all false
set_option Elab.async false
/-! IO: names put in order by worths, one behind another. -/
namespace IO
open PySem
/-- x is ahead of y, as texts -/
def slt (x y : Str) : Prop := x.cps.toList < y.cps.toList
instance (x y : Str) : Decidable (slt x y) := inferInstanceAs (Decidable (x.cps.toList < y.cps.toList))
theorem slt_trans_not {x y z : Str} (h1 : ¬ slt y x) (h2 : ¬ slt z y) : ¬ slt z x := by
  have a : x.cps.toList ≤ y.cps.toList := h1
  have b : y.cps.toList ≤ z.cps.toList := h2
  exact List.le_trans a b
theorem slt_antisymm {x y : Str} (h1 : ¬ slt y x) (h2 : ¬ slt x y) : x = y := by
  have a : x.cps.toList ≤ y.cps.toList := h1
  have b : y.cps.toList ≤ x.cps.toList := h2
  exact TL.ext_tl (List.le_antisymm a b)
theorem rising : ∀ (l : List Str) (p : Str), PyProof.Rows.risingS p l = true → (p :: l).Pairwise fun a b => ¬ slt b a
  | [], p, _ => List.pairwise_singleton ..
  | x :: r, p, h => by
    have h' : (!PySem.Spec.ltCps x.cps.toList p.cps.toList && PyProof.Rows.risingS x r) = true := h
    rw [Bool.and_eq_true, PyProof.Rows.ltCps_eq] at h'
    have h1 : ¬ slt x p := by
      have := h'.1
      simpa [slt] using this
    have ih := rising r x h'.2
    refine List.pairwise_cons.mpr ⟨fun y hy => ?_, ih⟩
    rcases List.mem_cons.mp hy with e | hy
    · rw [e]; exact h1
    · exact slt_trans_not h1 ((List.pairwise_cons.mp ih).1 y hy)
theorem sorted_pw {l : List Str} (h : PyProof.Rows.sortedS l = true) : l.Pairwise fun a b => ¬ slt b a := by
  cases l with
  | nil => exact List.Pairwise.nil
  | cons x r => exact rising r x h
/-- two lists in order, of the same texts, are one -/
theorem sorted_same {l m : List Str} (h1 : l.Pairwise fun a b => ¬ slt b a) (h2 : m.Pairwise fun a b => ¬ slt b a) (p : l.Perm m) : l = m :=
  List.Perm.eq_of_pairwise (le := fun a b => ¬ slt b a) (fun a b _ _ x y => slt_antisymm x y) h1 h2 p
/-- by worths, alike ones by names -/
def le (ρ : Str → Rat) (x y : Str) : Prop := ρ x < ρ y ∨ (ρ x = ρ y ∧ ¬ slt y x)
theorem le_rat {ρ : Str → Rat} {x y : Str} (h : le ρ x y) : ρ x ≤ ρ y := by
  rcases h with h | h
  · exact Rat.le_of_lt h
  · rw [h.1]; exact Rat.le_refl
theorem put_in {ρ : Str → Rat} {zs : List Str} {x : Str} {j : Nat} (hz : zs.Pairwise (le ρ)) (hx : ∀ z ∈ zs, ¬ slt x z) (hj : j ≤ zs.length) (hi : ∀ z ∈ zs.drop j, ρ x < ρ z) (lo : ∀ z ∈ zs.take j, ρ z ≤ ρ x) :
    (zs.take j ++ [x] ++ zs.drop j).Pairwise (le ρ) := by
  have h0 := hz
  rw [← List.take_append_drop j zs] at h0
  obtain ⟨h1, h2, h3⟩ := List.pairwise_append.mp h0
  rw [List.append_assoc]
  refine List.pairwise_append.mpr ⟨h1, ?_, fun a ha b hb => ?_⟩
  · exact List.pairwise_cons.mpr ⟨fun b hb => .inl (hi b hb), h2⟩
  · rcases List.mem_cons.mp hb with e | hb
    · subst e
      rcases Rat.le_iff_lt_or_eq.mp (lo a ha) with h | h
      · exact .inl h
      · exact .inr ⟨h, hx a (List.mem_of_mem_take ha)⟩
    · exact h3 a ha b hb
theorem put_perm {zs : List Str} {x : Str} (j : Nat) : (zs.take j ++ [x] ++ zs.drop j).Perm (x :: zs) := by
  rw [List.append_assoc]
  have h : (zs.take j ++ ([x] ++ zs.drop j)).Perm (x :: (zs.take j ++ zs.drop j)) := List.perm_middle
  rw [List.take_append_drop] at h
  exact h
end IO
set_option Elab.async false
set_option linter.all false
set_option maxRecDepth 100000
set_option maxHeartbeats 4000000
namespace K14
open PySem PySem.Spec PyProof.Rows L2
open C8 (Cal Mak Met pe_c pe_mk pe_mt pe_mt0)
open SX (S)
open SRT (leS)
/-- those entered, what is kept of them, what was told -/
structure Sync (n : Nat) (fs : Fs) (ds : List Dt) (ts : List Dd) : Prop where
  len : ds.length = fs.length
  each : ∀ (i : Nat) (x : Addr × Fo) (y : Dt), fs[i]? = some x → ds[i]? = some y → y.1 = x.2.l ∧ Rel x.2 y.2 (rulesOf x.2.l ts) ∧ Wok n y.2
theorem inV_strs (x : Str) : ∀ R : List Str, inV (.str x) (R.map V.str) = decide (x ∈ R)
  | [] => rfl
  | y :: R => by
    have ih := inV_strs x R
    unfold inV at ih ⊢
    rw [List.map_cons, List.any_cons, ih]
    have e : eqV (.str y) (.str x) = decide (x = y) := by
      show decide (y = x) = decide (x = y)
      exact decide_eq_decide.mpr ⟨Eq.symm, Eq.symm⟩
    rw [e]
    simp [Bool.decide_or]
theorem flat_strs (R : List Str) : (R.map V.str).all flatV = true := by
  rw [List.all_eq_true]
  intro x hx
  obtain ⟨y, _, rfl⟩ := List.mem_map.mp hx
  rfl
theorem nm_ok {l : List Nat} (h : NM.ok l) : PyData.strOk (S l) = true := by
  unfold PyData.strOk
  rw [← Array.all_toList, List.all_eq_true]
  intro x hx
  have := h.2.2 x hx
  exact decide_eq_true (by omega)
theorem paired_map {α : Type} {R : Addr → Key × V → Prop} {g : α → Addr} {k : α → Key × V} : ∀ {l : List α}, (∀ x ∈ l, R (g x) (k x)) → Paired R (l.map g) (l.map k)
  | [], _ => .nil
  | x :: l, h => .cons (h x List.mem_cons_self) (paired_map fun y hy => h y (List.mem_cons_of_mem _ hy))
theorem Rh.off {G : Hp} {r m a s D : Addr} {R : Rl} {xs : List V} {o : HO} (h : Rh G r m a s R) (hD : G D = some (.lst xs)) (n1 : m ≠ D) (n2 : a ≠ D) (n3 : s ≠ D) : Rh (upd G D o) r m a s R := by
  have nt : ∀ vs, G D ≠ some (.tup vs) := fun vs z => by
    rw [hD] at z
    cases z
  exact ⟨by rw [upd_ne (ne_of h.r_ hD (by intro z; cases z))]; exact h.r_, h.m_.off n1 nt, h.a_.off n2 nt, h.s_.off n3 nt, h.nma, h.nms, h.nas⟩
/-- who rides, as the law reads it, in the order of entering -/
def lawDay (fs : Fs) (ts : List Dd) (d : Int) : List Str := (fs.filter fun x => lawOn x.2 (rulesOf x.2.l ts) d).map fun x => S x.2.l
theorem Sync.tl {n : Nat} {x : Addr × Fo} {y : Dt} {fs : Fs} {ds : List Dt} {ts : List Dd} (h : Sync n (x :: fs) (y :: ds) ts) : Sync n fs ds ts := ⟨by have := h.len; simpa using this, fun i a b h1 h2 => h.each (i + 1) a b h1 h2⟩
theorem Sync.names {n : Nat} {ts : List Dd} : ∀ {fs : Fs} {ds : List Dt}, Sync n fs ds ts → ds.map (·.1) = fs.map fun x => x.2.l
  | [], [], _ => rfl
  | [], _ :: _, h => by cases h.len
  | _ :: _, [], h => by cases h.len
  | x :: fs, y :: ds, h => by
    rw [List.map_cons, List.map_cons, (h.each 0 x y rfl rfl).1, Sync.names h.tl]
theorem Sync.day {n : Nat} {ts : List Dd} {d : Int} (hd : isDay d) : ∀ {fs : Fs} {ds : List Dt}, Sync n fs ds ts → onDay ds d = lawDay fs ts d
  | [], [], _ => rfl
  | [], _ :: _, h => by cases h.len
  | _ :: _, [], h => by cases h.len
  | x :: fs, y :: ds, h => by
    obtain ⟨h1, h2, h3⟩ := h.each 0 x y rfl rfl
    have e := h2.holds h3 d hd
    have ih := Sync.day hd h.tl
    unfold onDay lawDay at ih ⊢
    cases q : y.2.holds d with
    | true =>
      rw [List.filter_cons_of_pos (by exact q), List.filter_cons_of_pos (by rw [← e]; exact q), List.map_cons, List.map_cons, ih, h1]
    | false =>
      rw [List.filter_cons_of_neg (by rw [q]; simp), List.filter_cons_of_neg (by rw [← e, q]; simp), ih]
theorem Sync.oks {n : Nat} {fs : Fs} {ds : List Dt} {ts : List Dd} (h : Sync n fs ds ts) (hn : n ≤ 1000) (hl : fs.length ≤ 1000) : Oks n ds := by
  refine ⟨fun y hy => ?_, hn, by rw [h.len]; exact hl⟩
  obtain ⟨i, hi⟩ := List.mem_iff_getElem?.mp hy
  have il : i < fs.length := by rw [← h.len]; exact (List.getElem?_eq_some_iff.mp hi).1
  exact (h.each i fs[i] y (List.getElem?_eq_getElem il) hi).2.2
theorem Sync.at {n : Nat} {fs : Fs} {ds : List Dt} {ts : List Dd} (h : Sync n fs ds ts) {x : Addr × Fo} (hx : x ∈ fs) : ∃ y ∈ ds, y.1 = x.2.l ∧ Rel x.2 y.2 (rulesOf x.2.l ts) ∧ Wok n y.2 := by
  obtain ⟨i, hi⟩ := List.mem_iff_getElem?.mp hx
  have il : i < ds.length := by rw [h.len]; exact (List.getElem?_eq_some_iff.mp hi).1
  exact ⟨ds[i], List.getElem_mem il, h.each i x ds[i] hi (List.getElem?_eq_getElem il)⟩
theorem uniq : ∀ {fs : Fs}, (fs.map fun x => x.2.l).Nodup → ∀ {x y : Addr × Fo}, x ∈ fs → y ∈ fs → x.2.l = y.2.l → x = y
  | z :: fs, h, x, y, hx, hy, e => by
    obtain ⟨h1, h2⟩ := List.nodup_cons.mp h
    rcases List.mem_cons.mp hx with rfl | hx0
    · rcases List.mem_cons.mp hy with rfl | hy
      · rfl
      · exact absurd (show x.2.l ∈ fs.map (fun x => x.2.l) from List.mem_map.mpr ⟨y, hy, e.symm⟩) h1
    · rcases List.mem_cons.mp hy with rfl | hy
      · exact absurd (show y.2.l ∈ fs.map (fun x => x.2.l) from List.mem_map.mpr ⟨x, hx0, e⟩) h1
      · exact uniq h2 hx0 hy e
theorem lawDay_mem {fs : Fs} {ts : List Dd} {d : Int} (h : (fs.map fun x => x.2.l).Nodup) {x : Addr × Fo} (hx : x ∈ fs) : S x.2.l ∈ lawDay fs ts d ↔ lawOn x.2 (rulesOf x.2.l ts) d = true := by
  unfold lawDay
  rw [List.mem_map]
  constructor
  · rintro ⟨y, hy, e⟩
    obtain ⟨h1, h2⟩ := List.mem_filter.mp hy
    rw [uniq h hx h1 (SX.S_inj e).symm]
    exact h2
  · intro e
    exact ⟨x, List.mem_filter.mpr ⟨hx, e⟩, rfl⟩
theorem lawDay_len (fs : Fs) (ts : List Dd) (d : Int) : (lawDay fs ts d).length ≤ fs.length := by
  unfold lawDay
  rw [List.length_map]
  exact List.length_filter_le _ _
theorem rules_pos (l : List Nat) : ∀ (ts : List Dd), (∀ x ∈ ts, x.ok) → ∀ (R : Rl), (∀ y ∈ R.ms, 0 ≤ y.1) → ∀ y ∈ (ts.foldl (fun R x => if x.l = l then x.rl R else R) R).ms, 0 ≤ y.1
  | [], _, R, h => h
  | x :: ts, hx, R, h => by
    refine rules_pos l ts (fun z hz => hx z (List.mem_cons_of_mem _ hz)) _ ?_
    show ∀ y ∈ (if x.l = l then x.rl R else R).ms, 0 ≤ y.1
    split
    · have ok := hx x List.mem_cons_self
      cases x with
      | weekly l' m d =>
        intro y hy
        rcases List.mem_append.mp (show y ∈ R.ms.filter (fun x => decide (x.1 ≠ d)) ++ [(d, m)] from hy) with hy | hy
        · exact h y (List.mem_filter.mp hy).1
        · rw [List.mem_singleton.mp hy]
          exact ok.2.1
      | leave _ _ => exact h
      | only _ _ _ => exact h
      | usual _ _ => exact h
      | sick _ _ _ => exact h
      | well _ _ => exact h
    · exact h
theorem rules_all (l : List Nat) (ts : List Dd) : Rn ts.length (rulesOf l ts) := by
  have := rules_len l ts ts.length (Nat.le_refl _)
  rwa [List.take_length] at this
end K14
set_option Elab.async false
set_option linter.all false
set_option maxRecDepth 100000
set_option maxHeartbeats 4000000
namespace K14
open PySem PySem.Spec PyProof.Rows L2
open C8 (Cal Mak Met pe_c pe_mk pe_mt pe_mt0)
open SX (S)
theorem Kd.keepP {C CW kw : Addr} {H H' : Hp} {ds : List Dt} {cs : List Addr} (h : Kd C CW H kw ds cs) (k : ∀ b ∈ cs, ∀ o, H b = some o → H' b = some o) (kk : ∀ c dx fs, H kw = some (.ins c dx fs) → H' kw = some (.ins c dx fs)) (kt : ∀ b vs, H b = some (.tup vs) → H' b = some (.tup vs)) : Kd C CW H' kw ds cs := by
  obtain ⟨wd, zs, e1, e2, h⟩ := h
  refine ⟨wd, zs, e1, e2, h.keepP (fun b hb o e => ?_) kt⟩
  rcases List.mem_cons.mp hb with rfl | hb
  · obtain ⟨dx, hk⟩ := h.at_
    rw [hk] at e
    cases e
    exact kk _ _ _ hk
  · exact k b (by rw [← e2]; exact hb) o e
theorem Kd.some {C CW kw : Addr} {H : Hp} {ds : List Dt} {cs : List Addr} (h : Kd C CW H kw ds cs) {b : Addr} (hb : b ∈ cs) : (∃ o, H b = some o) ∧ ∀ vs, H b ≠ some (.tup vs) := by
  obtain ⟨wd, zs, e1, e2, h⟩ := h
  exact h.off (by rw [← e2] at hb; exact List.mem_cons_of_mem _ hb)
end K14
set_option Elab.async false
set_option linter.all false
set_option maxRecDepth 100000
set_option maxHeartbeats 4000000
namespace K14
open PySem PySem.Spec PyProof.Rows L2
open C8 (Cal Mak Met pe_c pe_mk pe_mt pe_mt0)
open SX (S)
section
variable {P : Program} {w : World} {K : PySem.W.Frag} {mg : Str → Option Value} {base : Heap} {f C CW CP : Addr} {fd : FuncData}
def spPeople : Sp := fun vs H Q _ => ∃ (p : Addr) (c : Nat) (b : Int), vs = [.ref p, .int b] ∧ Pen H p (c + 150) ∧ 0 ≤ b ∧ b ≤ 999970 ∧
  ∀ (o : Addr) (fs : Fs) (H' : Hp), Fk p o c H H' fs → H o = none → (fs.map fun x => x.2.l).Nodup → 1 ≤ fs.length → fs.length ≤ 5 → Q (.ref o) H'
theorem ok_people (F : Dn K d_l_people f fd) (b : Bl mg) (cD : CalD P w K mg base) (cN : Cal P w K mg base 2 "_law_names" spNames []) : FnOk P w K mg base CX0 3 f fd ["_law_pen_here", "_law_base"] spPeople := by
  refine F.ok sc_l_people (fun vs H Q E h => ?_) (fun cdv A outer s H vs Q E hr h => ?_)
  · obtain ⟨p, c, b, rfl, _⟩ := h
    rfl
  · obtain ⟨p, c, bs, rfl, pen, b0, b1, hQ⟩ := h
    refine ⟨_, PSs.nox (pss_cons (ps_set (i := 2) sc_l_people.nd rfl (.inl rfl) (pe_lst pa_nil))
      (pss_cons (ps_for PassesOwn.never rfl (pi_list (pe_c cN hr (by decide) rfl (pa_cons (pv 0) (pa_cons (pe_op op_add pe_int (pe_c cD hr (by decide) rfl (pa_cons (pv 0) (pa_cons pe_int pa_nil)))) pa_nil)))) (pg_name (i := 3) sc_l_people.nd rfl (.inl rfl))
        (pss_cons (ps_set (i := 4) sc_l_people.nd rfl (.inl rfl) (pe_ix ix_list (pe_lst (pa_cons (pv 1) (pa_cons (pe_op op_add (pv 1) (pe_c cD hr (by decide) rfl (pa_cons (pv 0) (pa_cons pe_int pa_nil)))) (pa_cons pe_int pa_nil)))) (pe_c cD hr (by decide) rfl (pa_cons (pv 0) (pa_cons pe_int pa_nil))) (fun _ _ => rfl)))
        (pss_one (ps_expr (pe_bm PySem.F.plainAttrs_list PySem.F.slot_list_append PySem.F.type_list_append mt_append (pv 2) (pa_cons (pe_tup (pa_cons (pv 3) (pa_cons (pe_c cD hr (by decide) rfl (pa_cons (pv 0) (pa_cons pe_int pa_nil)))
          (pa_cons (pe_ix ix_list (pe_lst (pa_cons pe_int (pa_cons pe_int (pa_cons (pe_c cD hr (by decide) rfl (pa_cons (pv 0) (pa_cons pe_int pa_nil))) pa_nil)))) (pe_c cD hr (by decide) rfl (pa_cons (pv 0) (pa_cons pe_int pa_nil))) (fun _ _ => rfl)) (pa_cons (pv 4) pa_nil))))) pa_nil))))))
      (pss_one (ps_ret (pv 2))))), ?_⟩
    refine ⟨by show 0 ≤ sizeLine; decide, fun o fo => ?_⟩
    have so := same_new (o := .lst []) fo
    have F0 : Fk p o (c + 150) H (upd H o (.lst [])) [] := ⟨pen.same so, Kp.same so, (Off.of pen fo).kp (Kp.same so), upd_same, (fun x hx => by cases hx), (fun x hx => by cases hx)⟩
    generalize upd H o (.lst []) = H1 at F0 ⊢
    refine ⟨_, rfl, _, rfl, p, c + 149, 5, rfl, F0.pen, by decide, by decide, fun r1 H2 a1 z1 pen1 k1 => ?_⟩
    have F3 := F0.kpp k1 pen1
    obtain ⟨n1, rfl⟩ := Int.eq_ofNat_of_zero_le a1
    obtain ⟨n, hn⟩ : ∃ n : Nat, n = 1 + n1 := ⟨_, rfl⟩
    have n1' : 1 ≤ n := by omega
    have n12 : n ≤ 5 := by omega
    refine ⟨_, _, rfl, rfl, p, c + 107, n, by rw [hn]; rfl, F3.pen.weak (by omega), by omega, fun zl zs H6 pen6 k6 fz offz hzl hzn hzok hznd => ?_⟩
    have F4 := F3.kpp k6 pen6
    have nzp := offz.ne
    have nzo : zl ≠ o := (ne_of_none F3.o_ fz).symm
    refine ⟨zl, rfl, ⟨_, SqL.of hzl⟩, ?_⟩
    refine for_list (xs := zs.map fun l => V.str (S l)) (fun i σ H' => ∃ (v4 v5 : Option V) (fs : Fs), σ = [some (.ref p), some (.int bs), some (.ref o), v4, v5] ∧ Fk p o (c + 8 * (13 - i)) H H' fs ∧ H' zl = some (.lst (zs.map fun l => V.str (S l))) ∧ (fs.map fun x => x.2.l) = zs.take i)
      ⟨_, _, _, rfl, F4.weak (by omega), hzl, rfl⟩ (fun i σ H' _ z => by obtain ⟨_, _, _, _, _, z, _⟩ := z; exact SqL.of z) ?_ ?_
    · rintro i y σ H7 hi ⟨v4, v5, fs, rfl, F5, hz5, hfs⟩
      have hil : i < zs.length := by
        have := (List.getElem?_eq_some_iff.mp hi).1
        rwa [List.length_map] at this
      rw [List.getElem?_map] at hi
      cases hz : zs[i]? with
      | none =>
        rw [hz] at hi
        cases hi
      | some z =>
        rw [hz] at hi
        cases (Option.some.inj hi : V.str (S z) = y)
        have okz := hzok z (List.mem_of_getElem? hz)
        have hin : i < n := by omega
        refine ⟨_, rfl, _, rfl, _, rfl, p, c + 8 * (13 - i) - 1, 12, rfl, F5.pen.weak (by omega), by decide, by decide, fun r4 H8 a4 z4 pen8 k8 => ?_⟩
        have F6 := F5.kpp k8 pen8
        have hz6 := k8.1 _ _ hz5 nzp
        refine ⟨_, _, rfl, rfl, by show 3 ≤ sizeLine; decide, fun v2 fv2 => ?_⟩
        have sv2 := same_new (o := .lst [V.int bs, V.int (bs + r4), V.int 0]) fv2
        have hv2 : (upd H8 v2 (.lst [V.int bs, V.int (bs + r4), V.int 0])) v2 = some (.lst ([bs, bs + r4, 0].map V.int)) := upd_same
        have nv2 := F6.pen.ne_new fv2
        have F7 := F6.same sv2
        have hz7 := sv2 _ _ hz6
        generalize upd H8 v2 (.lst [V.int bs, V.int (bs + r4), V.int 0]) = H9 at F7 hv2 hz7 ⊢
        refine ⟨_, rfl, p, c + 8 * (13 - i) - 2, 3, rfl, F7.pen.weak (by omega), by decide, by decide, fun r5 H13 a5 z5 pen10 k10 => ?_⟩
        have F8 := F7.kpp k10 pen10
        have hz8 := k10.1 _ _ hz7 nzp
        obtain ⟨bg, hbg, ebg⟩ := pick (fun v : Int => V.int v) (L := [bs, bs + r4, 0]) a5 (by simpa using z5)
        have okb : isDay bg := by
          simp only [List.mem_cons, List.not_mem_nil, or_false] at hbg
          unfold isDay
          rcases hbg with rfl | rfl | rfl <;> omega
        refine ⟨v2, _, _, _, rfl, rfl, SqL.of (k10.1 _ _ hv2 nv2), ebg, ?_⟩
        refine ⟨_, rfl, Or.inl ⟨rfl, _, SqL.of F8.o_⟩, _, rfl, _, rfl, p, c + 8 * (13 - i) - 3, 10, rfl, F8.pen.weak (by omega), by decide, by decide, fun st H11 as zst pen11 k11 => ?_⟩
        have F9 := F8.kpp k11 pen11
        have hz9 := k11.1 _ _ hz8 nzp
        refine ⟨_, rfl, p, c + 8 * (13 - i) - 4, 128, rfl, F9.pen.weak (by omega), by decide, by decide, fun r6 H12 a6 z6 pen12 k12 => ?_⟩
        have F13 := F9.kpp k12 pen12
        have hz10 := k12.1 _ _ hz9 nzp
        refine ⟨by show 3 ≤ sizeLine; decide, fun v3 fv3 => ?_⟩
        obtain ⟨m6, rfl⟩ := Int.eq_ofNat_of_zero_le a6
        have sv3 := same_new (o := .lst [V.int 31, V.int 127, V.int (m6 : Int)]) fv3
        have hv3 : (upd H12 v3 (.lst [V.int 31, V.int 127, V.int (m6 : Int)])) v3 = some (.lst ([31, 127, m6].map fun m : Nat => V.int m)) := upd_same
        have nv3 := F13.pen.ne_new fv3
        have F11 := F13.same sv3
        have hz11 := sv3 _ _ hz10
        have e3 : upd H12 v3 (.lst [V.int 31, V.int 127, V.int (Int.ofNat m6)]) = upd H12 v3 (.lst [V.int 31, V.int 127, V.int (m6 : Int)]) := rfl
        generalize upd H12 v3 (.lst [V.int 31, V.int 127, V.int (m6 : Int)]) = H13 at F11 hv3 hz11 ⊢
        refine ⟨_, rfl, p, c + 8 * (13 - i) - 5, 3, rfl, F11.pen.weak (by omega), by decide, by decide, fun r7 H14 a7 z7 pen14 k14 => ?_⟩
        have F12 := F11.kpp k14 pen14
        have hz12 := k14.1 _ _ hz11 nzp
        obtain ⟨mm, hmm, emm⟩ := pick (fun m : Nat => V.int m) (L := [31, 127, m6]) a7 (by simpa using z7)
        have okm : mm ≤ 127 := by
          simp only [List.mem_cons, List.not_mem_nil, or_false] at hmm
          rcases hmm with rfl | rfl | rfl <;> omega
        refine ⟨v3, _, _, _, rfl, rfl, SqL.of (k14.1 _ _ hv3 nv3), emm, ?_⟩
        refine ⟨_, rfl, by show 4 ≤ sizeLine; decide, fun u fu => ?_⟩
        have su := same_new (o := .tup (Fo.v ⟨z, st, mm, bg⟩)) fu
        have F13 := F12.same su
        have hz13 := su _ _ hz12
        have hu : (upd H14 u (.tup (Fo.v ⟨z, st, mm, bg⟩))) u = some (.tup (Fo.v ⟨z, st, mm, bg⟩)) := upd_same
        have okf : (Fo.mk z st mm bg).ok := ⟨okz, ⟨as, by show st ≤ 9; omega⟩, okm, okb⟩
        have F14 := F13.push fo hu okf
        refine ⟨o, _, _, rfl, rfl, F13.o_, ?_, _, _, _, rfl, F14.weak (by omega), ?_, ?_⟩
        · have h1 : fs.length = i := by
            have := congrArg List.length hfs
            rw [List.length_map, List.length_take] at this
            omega
          unfold refs
          rw [List.length_map]
          exact line_lt (by omega)
        · rw [upd_ne nzo]
          exact hz13
        · rw [List.map_append, hfs, take_one hz]
          rfl
    · rintro σ H7 ⟨v4, v5, fs, rfl, F5, hz5, hfs⟩
      rw [List.length_map, List.take_length] at hfs
      have hl : fs.length = n := by rw [← hzn, ← hfs, List.length_map]
      exact ⟨_, rfl, hQ o fs H7 (F5.weak (by omega)) fo (by rw [hfs]; exact hznd) (by omega) (by omega)⟩
end
end K14
set_option Elab.async false
set_option linter.all false
set_option maxRecDepth 100000
set_option maxHeartbeats 4000000
namespace K14
open PySem PySem.Spec PyProof.Rows L2
open C8 (Cal Mak Met pe_c pe_mk pe_mt pe_mt0)
open SX (S)
/-- the wishes of those who are entered, with nothing told -/
def startD (fs : Fs) : List Dt := fs.map fun x => (x.2.l, newW x.2.s x.2.b x.2.m)
section
variable {P : Program} {w : World} {K : PySem.W.Frag} {mg : Str → Option Value} {base : Heap} {f C CW CP fK : Addr} {fd fdK : FuncData}
def spBegun (C CW : Addr) : Sp := fun vs H Q _ => ∃ (o : Addr) (fs : Fs), vs = [.ref o] ∧ H o = some (.lst (refs fs)) ∧ FsT H fs ∧ (∀ x ∈ fs, x.2.ok) ∧ (fs.map fun x => x.2.l).Nodup ∧ fs.length ≤ 20 ∧
  ∀ (kw : Addr) (cs : List Addr) (H' : Hp), Same H H' → Kd C CW H' kw (startD fs) cs → H kw = none → (∀ b ∈ cs, H b = none) → Q (.ref kw) H'
theorem ok_begun (F : Dn K d_l_begun f fd) (T : ClP K mg CP) (TK : ClK K mg C) (MKK : Mk K C fK) (FK : FnOk P w K mg base CX0 1 fK fdK ["self"] (spKI C CW)) (bK : Binds K fdK ["self"] []) (MP : Mak P w K mg base 4 "Person" CP (spPI CP) [])
    (mE : Met P w K mg base 5 C "enter" (spEnter C CW CP) []) : FnOk P w K mg base CX0 6 f fd ["_law_people_here"] (spBegun C CW) := by
  refine F.ok sc_l_begun (fun vs H Q E h => ?_) (fun cdv A outer s H vs Q E hr h => ?_)
  · obtain ⟨o, fs, rfl, _⟩ := h
    rfl
  · obtain ⟨o, fs, rfl, ho, hfs, hok, hnd, hlen, hQ⟩ := h
    refine ⟨_, PSs.nox (pss_cons (ps_set (i := 1) sc_l_begun.nd rfl (.inl rfl) (pe_make0 MKK FK (hr.mono (by decide)) rfl TK.g bK .nil pass0))
      (pss_cons (ps_for PassesOwn.never rfl (pi_list (pv 0)) (pg_tup rfl (pgs_cons (pg_name (i := 2) sc_l_begun.nd rfl (.inl rfl)) (pgs_cons (pg_name (i := 3) sc_l_begun.nd rfl (.inl rfl)) (pgs_cons (pg_name (i := 4) sc_l_begun.nd rfl (.inl rfl)) (pgs_cons (pg_name (i := 5) sc_l_begun.nd rfl (.inl rfl)) pgs_nil)))))
        (pss_one (ps_expr (pe_mt mE hr (by decide) (pv 1) (pa_cons (pe_mk MP hr (by decide) rfl (pa_cons (pv 2) (pa_cons (pv 3) (pa_cons (pv 4) pa_nil)))) (pa_cons (pv 5) pa_nil))))))
      (pss_one (ps_ret (pv 1))))), ?_⟩
    intro kw dk nq nd ne
    have s1 : Same H (upd (upd H dk (.own kw)) kw (.ins C dk [])) := (same_new nd).trans (same_new (by rw [upd_ne ne.symm]; exact nq))
    refine ⟨kw, dk, rfl, upd_same, fun H1 cs1 K1 fr1 new1 => ⟨rfl, ?_⟩⟩
    have s2 : Same H H1 := fun b o e => fr1 b o (ne_of_none e nq) (s1 b o e)
    have n1 : ∀ b ∈ cs1, H b = none := fun b hb => s1.free (new1 b hb)
    refine ⟨_, rfl, o, rfl, ⟨_, SqL.of (s2 _ _ ho)⟩, for_list (K := K) (xs := refs fs) (fun i σ H' => ∃ (v2 v3 v4 v5 : Option V) (cs : List Addr), σ = [some (.ref o), some (.ref kw), v2, v3, v4, v5] ∧ Kd C CW H' kw (startD (fs.take i)) cs ∧ Same H H' ∧ ∀ b ∈ cs, H b = none)
      ⟨_, _, _, _, _, rfl, K1, s2, n1⟩ (fun i σ H' _ z => by obtain ⟨_, _, _, _, _, _, _, z, _⟩ := z; exact SqL.of (z _ _ ho)) ?_ ?_⟩
    · rintro i x σ H4 hi ⟨v2, v3, v4, v5, cs, rfl, K4, s4, n3⟩
      unfold refs at hi
      rw [List.getElem?_map] at hi
      obtain ⟨z, hz, rfl⟩ := Option.map_eq_some_iff.mp hi
      have hzm := List.mem_of_getElem? hz
      have hz4 := s4 _ _ (hfs z hzm)
      have okz := hok z hzm
      refine ⟨z.1, _, rfl, SqT.of hz4, rfl, _, _, rfl, _, _, rfl, _, _, rfl, _, _, rfl, rfl, ?_⟩
      obtain ⟨wd, zs, ez1, ez2, hk⟩ := id K4
      obtain ⟨dk2, hkw⟩ := hk.at_
      have notin : z.2.l ∉ (startD (fs.take i)).map (·.1) := fun hm => by
        have nd2 := hnd.sublist (List.Sublist.map (fun x : Addr × Fo => x.2.l) (List.take_sublist (i + 1) fs))
        rw [take_one hz, List.map_append, List.nodup_append] at nd2
        refine nd2.2.2 z.2.l ?_ _ (List.mem_singleton.mpr rfl) rfl
        unfold startD at hm
        rw [List.map_map] at hm
        exact hm
      have slen : (startD (fs.take i)).length ≤ 1000 := by
        unfold startD
        rw [List.length_map, List.length_take]
        omega
      have snext : startD (fs.take (i + 1)) = startD (fs.take i) ++ [(z.2.l, newW z.2.s z.2.b z.2.m)] := by
        unfold startD
        rw [take_one hz, List.map_append]
        rfl
      have fin : ∀ {Q' : VK} {E' : XK} {H5 : Hp} {pe pdx : Addr}, Same H4 H5 → H5 pe = some (.ins CP pdx (peF z.2.l z.2.s (z.2.m : Int))) →
          (∀ H6 cs6, Kd C CW H6 kw (startD (fs.take (i + 1))) cs6 → Same H H6 → (∀ b ∈ cs6, H b = none) → Q' .non H6) → spEnter C CW CP [.ref kw, .ref pe, .int z.2.b] H5 Q' E' := by
        intro Q' E' H5 pe pdx s5 hpe q
        have s05 := s4.trans s5
        refine ⟨kw, pe, pdx, _, cs, z.2.l, z.2.s, z.2.m, z.2.b, rfl, K4.keep s5, hpe, notin, slen, okz.b.1, okz.b.2, fun H6 cs6 K6 fr6 => q H6 cs6 (by rw [snext]; exact K6) (fun b o e => fr6.1 b o (fun hb => by rw [n3 b hb] at e; cases e) (s05 b o e)) (fun b hb => ?_)⟩
        rcases fr6.2 b hb with h | h
        · exact n3 b h
        · exact s05.free h
      have okp : NM.ok z.2.l ∧ 0 ≤ z.2.s ∧ z.2.s ≤ 9 ∧ 0 ≤ (z.2.m : Int) ∧ (z.2.m : Int) ≤ 127 := ⟨okz.l, okz.s.1, okz.s.2, by omega, by have := okz.m; omega⟩
      have made : ∀ {pe pdx : Addr} {H5 : Hp}, H4 pe = none → H4 pdx = none → pdx ≠ pe → (∀ a u, a ≠ pe → (upd (upd H4 pdx (.own pe)) pe (.ins CP pdx [])) a = some u → H5 a = some u) → Same H4 H5 := by
        intro pe pdx H5 e1 e2 e3 k b u e
        refine k b u (ne_of_none e e1) ?_
        rw [upd_ne (ne_of_none e e1), upd_ne (ne_of_none e e2)]
        exact e
      refine ⟨_, rfl, kw, dk2, _, rfl, hkw, kw_no wd (by decide +kernel), _, rfl, _, rfl, _, rfl, fun pe pdx npe npd nne => ⟨pe, pdx, z.2.l, z.2.s, z.2.m, rfl, okp.1, okp.2.1, okp.2.2.1, okp.2.2.2.1, okp.2.2.2.2, upd_same, fun H5 k5 h5 => ⟨rfl, ?_⟩⟩⟩
      dsimp only [tNil, tCons, tVar]
      refine ⟨_, rfl, ?_⟩
      refine fin (made npe npd nne k5) h5 (fun H6 cs6 K6 s6 n6 => ?_)
      exact ⟨_, _, _, _, cs6, rfl, K6, s6, n6⟩
    · rintro σ H2 ⟨v2, v3, v4, v5, cs, rfl, K2, s3, n3⟩
      unfold refs at K2
      rw [List.length_map, List.take_length] at K2
      exact ⟨_, rfl, hQ kw cs H2 s3 K2 nq n3⟩
end
end K14
set_option Elab.async false
set_option linter.all false
set_option maxRecDepth 100000
set_option maxHeartbeats 4000000
/-! OW: ==, !=, str and repr of instances of an own class by its own __eq__, __str__, __repr__. -/
namespace OW
open PySem PySem.Spec PyProof.Rows L2
/-- what is known of a special def of the class: where it stands, that it keeps its promise -/
structure Spc (P : Program) (w : World) (K : PySem.W.Frag) (mg : Str → Option Value) (base : Heap) (k : Nat) (C : Addr) (m : Str) (sp : Sp) : Prop where
  ex : ∃ (f : Addr) (fd : FuncData) (ps : List Str), PySem.W.findIn K (.ref C) m = some (some (.ref f)) ∧ PySem.W.isFn K (.ref f) = true ∧ FnOk P w K mg base CX0 k f fd ps sp ∧ Binds K fd ps []
section
variable {X : Cx} {pins : List (Addr × Obj)} {σ : L2.St} {H : Hp} {s : Shared} {Q : VK} {k : Nat} {C a b : Addr} {sp : Sp}
/-- a def called at any around with room -/
theorem run_at {f : Addr} {fd : FuncData} {ps : List Str} {A : Around} {us : List Value} {vs : List V} {E' : Value → Shared → Prop} (F : FnOk X.prog X.w X.K X.mg X.base CX0 k f fd ps sp) (hb : Binds X.K fd ps []) (hr : Room k A) (I : Inv X pins σ H s)
    (he : Env0 X.prog X.w X.K X.mg X.base A X.stack s H) (r : Vals vs us) (h : sp vs H Q E0) : wpAny (model X.prog X.w) A (call (.ref f) us) (EP X pins σ Q) E' s := by
  have hl : us.length = ps.length := by rw [← r.length]; exact F.len _ _ _ _ h
  have b := hb s us I.kIn (by rw [List.append_nil]; exact hl)
  rw [List.append_nil] at b
  refine wpAny_call (codeAny_mono (F.run A X.stack s H ⟨us, []⟩ us vs Q E0 hr he b r h) fun r s' hq => ?_)
  cases r with
  | error e => exact False.elim hq
  | ok fl =>
    cases fl with
    | ret u => exact I.after hq
    | next => exact False.elim hq
    | brk => exact False.elim hq
    | cont => exact False.elim hq
theorem same_first : PySem.W.notFirst X.K C (.ref C) = true := by
  unfold PySem.W.notFirst
  rw [beq_self_eq_true, Bool.true_or]
/-- x == y, both of the class -/
def rEqO (C : Addr) (sp : Sp) : R2 := fun x y H Q => ∃ a dx fs b dy gs, x = .ref a ∧ y = .ref b ∧ H a = some (.ins C dx fs) ∧ H b = some (.ins C dy gs) ∧ sp [x, y] H (fun v H' => ∃ z, v = .bl z ∧ Q (.bl z) H') E0
def rNeO (C : Addr) (sp : Sp) : R2 := fun x y H Q => ∃ a dx fs b dy gs, x = .ref a ∧ y = .ref b ∧ H a = some (.ins C dx fs) ∧ H b = some (.ins C dy gs) ∧ sp [x, y] H (fun v H' => ∃ z, v = .bl z ∧ Q (.bl (!z)) H') E0
theorem op_eqO (S : Spc X.prog X.w X.K X.mg X.base k C "__eq__" sp) (hr : Room k X.A) : OpR X (compareOp .Eq) (rEqO C sp) := by
  obtain ⟨f, fd, ps, h1, h2, F, hb⟩ := S.ex
  intro pins s σ H x y v u Q I rx ry h
  obtain ⟨a, dx, fs, b, dy, gs, rfl, rfl, ea, eb, q⟩ := h
  cases (show v = Value.ref a from rx)
  cases (show u = Value.ref b from ry)
  obtain ⟨mA, O, _⟩ := ins_get I.hok ea
  obtain ⟨od, J, _⟩ := O.look
  obtain ⟨mB, O', _⟩ := ins_get I.hok eb
  obtain ⟨od', J', _⟩ := O'.look
  obtain ⟨m, hF⟩ := I.fr
  show wpAny _ _ (richCompare .Eq (.ref a) (.ref b)) _ _ _
  refine PySem.W.cmp_K (op := .Eq) (tb := .ref C) hr.units0 hF I.ok.mod.kin J J'.type same_first h1 h2 ?_
  refine wpAny_mono (run_at (E' := X.xe) (vs := [.ref a, .ref b]) F hb hr I I.env0 (.cons rfl (.cons rfl .nil)) q) (fun w s' z => ?_) fun _ _ x => x
  obtain ⟨z', H', I', rz, z, rfl, qz⟩ := z
  cases (show w = Value.bool z from rz)
  exact ⟨.bl z, H', I', rfl, qz⟩
open Builtin in
theorem op_neO (S : Spc X.prog X.w X.K X.mg X.base (k + 1) C "__eq__" sp) (hn : PySem.W.findIn X.K (.ref C) "__ne__" = some (some (.builtin "object.__ne__"))) (hm : PySem.W.mroIn X.K C (.type "object") = some true) (hr : Room (k + 2) X.A) : OpR X (compareOp .NotEq) (rNeO C sp) := by
  obtain ⟨f, fd, ps, h1, h2, F, hb⟩ := S.ex
  intro pins s σ H x y v u Q I rx ry h
  obtain ⟨a, dx, fs, b, dy, gs, rfl, rfl, ea, eb, q⟩ := h
  cases (show v = Value.ref a from rx)
  cases (show u = Value.ref b from ry)
  obtain ⟨mA, O, _⟩ := ins_get I.hok ea
  obtain ⟨od, J, _⟩ := O.look
  obtain ⟨mB, O', _⟩ := ins_get I.hok eb
  obtain ⟨od', J', _⟩ := O'.look
  have KI := I.kIn
  have callEq : wpAny (model X.prog X.w) X.A.in1 (call (.ref f) [.ref a, .ref b]) (fun v s' => ∃ z, v = .bool z ∧ EP X pins σ Q (.bool (!z)) s') X.xe s := by
    refine wpAny_mono (run_at (E' := X.xe) (vs := [.ref a, .ref b]) F hb hr.in1 I I.env0.in1 (.cons rfl (.cons rfl .nil)) q) (fun w s' z => ?_) fun _ _ x => x
    obtain ⟨z', H', I', rz, z, rfl, qz⟩ := z
    exact ⟨z, rz, .bl (!z), H', I', rfl, qz⟩
  have slot := PySem.F.cmp_object.ne
  have sub : PySem.W.Looks (model X.prog X.w) s.heap (isInstance (.ref a) (.type "object")) true := J.type.andThen (PySem.W.looks_mroIn KI hm)
  have uu : X.A.in1.units < cLine := hr.in1.units0
  have body : wpAny (model X.prog X.w) X.A.in1 (Builtin.«object.__ne__» ⟨[.ref a, .ref b], []⟩) (fun fin s' => match fin with | .done f => (match f with | .ret v => EP X pins σ Q v s' ∧ ∃ z, v = .bool z | _ => False) | .again _ => False) X.xe s := by
    unfold Builtin.«object.__ne__»
    repeat (first
      | with_reducible refine wpAny_cRoomFor uu ?_
      | (refine wpAny_bind (m := callSpecialIfBound? (.ref a) (Str.ofString "__eq__") [.ref b]) (PySem.W.ifBound_K KI J h1 h2 (wpAny_mono callEq (fun r s' hr => by
          obtain ⟨z, rfl, hq⟩ := hr
          repeat (first | exact ⟨hq, _, rfl⟩ | exact wpAny_pure ⟨hq, _, rfl⟩ | (refine wpAny_bind (m := truthy (.bool _)) (wpAny_truthy_bool ?_)) | wp_step)) fun _ _ e => e)))
      | wp_step)
  have callNe : wpAny (model X.prog X.w) X.A (call (.builtin "object.__ne__") [.ref a, .ref b]) (fun v s' => EP X pins σ Q v s' ∧ ∃ z, v = .bool z) X.xe s := by
    refine wpAny_call (codeAny_call_builtin slot.plain PySem.F.cmpEntry_ne (PySem.W.check_slot PySem.F.cmpKind_ne PySem.F.cmpSplit_ne sub (PySem.F.cmpArgs_ne _ _) ?_))
    refine wpAny_mono body (fun fin s' z => ?_) fun _ _ x => x
    cases fin with
    | done fl =>
      cases fl with
      | ret v => exact z
      | next => exact z.elim
      | brk => exact z.elim
      | cont => exact z.elim
    | again c => exact z.elim
  show wpAny _ _ (richCompare .NotEq (.ref a) (.ref b)) _ _ _
  unfold richCompare
  simp only [oneThing_ref]
  refine wpAny_holding (wpAny_bind (wpAny_cRoomFor hr.units0 ?_))
  rw [cmpInfo_NotEq]
  dsimp only
  refine wpAny_bind (J.type.here (wpAny_bind (J'.type.here ?_)))
  rw [show (Value.ref C != Value.ref C) = false from by simp]
  simp only [Bool.false_eq_true, if_false]
  refine wpAny_bind (wpAny_pure ?_)
  simp only [Bool.false_eq_true, if_false, tryCompare]
  have fin : wpAny (model X.prog X.w) X.A (call (.builtin "object.__ne__") ([.ref a] ++ [.ref b]) >>= fun v => pure (some v)) (fun r s' => ∃ v, r = some v ∧ EP X pins σ Q v s' ∧ ∃ z, v = .bool z) X.xe s :=
    wpAny_bind (wpAny_mono callNe (fun v s' h' => wpAny_pure ⟨v, rfl, h'⟩) fun _ _ h' => h')
  have bound : wpAny (model X.prog X.w) X.A (callSpecialIfBound? (.ref a) "__ne__" [.ref b]) (fun r s' => ∃ v, r = some v ∧ EP X pins σ Q v s' ∧ ∃ z, v = .bool z) X.xe s := by
    simp only [callSpecialIfBound?, bindSpecialIfBound?]
    refine wpAny_holding (wpAny_bind (wpAny_bind (wpAny_bind (J.type.here ((PySem.W.looks_findIn KI hn).here ?_)))))
    simp only [slot.bind]
    refine wpAny_bind (wpAny_askSetting (wpAny_ite ?_))
    split
    · exact wpAny_bind (wpAny_pure (wpAny_pure fin))
    · exact wpAny_tryCatch (wpAny_bind (wpAny_pure (wpAny_pure fin)))
  refine wpAny_bind (wpAny_bind (wpAny_mono bound (fun r s' z => ?_) fun _ _ h => h))
  obtain ⟨v, rfl, hq, z, rfl⟩ := z
  first | exact wpAny_pure (wpAny_pure hq) | exact wpAny_pure hq
/-- str(x), repr(x) -/
def rStrO (C : Addr) (sp : Sp) : List V → Hp → VK → Prop := fun xs H Q => ∃ a dx fs, xs = [.ref a] ∧ H a = some (.ins C dx fs) ∧ sp [.ref a] H (fun v H' => ∃ z, v = .str z ∧ Q (.str z) H') E0
theorem call_strO (S : Spc X.prog X.w X.K X.mg X.base k C "__str__" sp) (hr : Room (k + 2) X.A) : CallR X (.type "str") (rStrO C sp) := by
  obtain ⟨f, fd, ps, h1, h2, F, hb⟩ := S.ex
  intro pins s σ H xs us Q I r h
  obtain ⟨a, dx, fs, rfl, ea, q⟩ := h
  obtain ⟨u, rfl, ru⟩ := vals1 r
  cases (show u = Value.ref a from ru)
  obtain ⟨mA, O, _⟩ := ins_get I.hok ea
  obtain ⟨od, J, _⟩ := O.look
  refine PySem.W.kso_call hr.in1.in1.units0 I.kIn J h1 h2 ?_
  refine wpAny_mono (run_at (E' := X.xe) (vs := [.ref a]) F hb hr.in1.in1 I I.env0.in1.in1 (.cons rfl .nil) q) (fun w s' z => ?_) fun _ _ x => x
  obtain ⟨z', H', I', rz, z, rfl, qz⟩ := z
  obtain ⟨t, rfl⟩ := rz
  exact ⟨.str z, H', I', ⟨t, rfl⟩, qz⟩
theorem call_reprO (S : Spc X.prog X.w X.K X.mg X.base k C "__repr__" sp) (hr : Room (k + 1) X.A) : CallR X (.builtin "repr") (rStrO C sp) := by
  obtain ⟨f, fd, ps, h1, h2, F, hb⟩ := S.ex
  intro pins s σ H xs us Q I r h
  obtain ⟨a, dx, fs, rfl, ea, q⟩ := h
  obtain ⟨u, rfl, ru⟩ := vals1 r
  cases (show u = Value.ref a from ru)
  obtain ⟨mA, O, _⟩ := ins_get I.hok ea
  obtain ⟨od, J, _⟩ := O.look
  obtain ⟨m, hF⟩ := I.fr
  refine PySem.W.repr_K hr.in1.units0 hF I.ok.mod.kin J h1 h2 ?_
  refine wpAny_mono (run_at (E' := X.xe) (vs := [.ref a]) F hb hr.in1 I I.env0.in1 (.cons rfl .nil) q) (fun w s' z => ?_) fun _ _ x => x
  obtain ⟨z', H', I', rz, z, rfl, qz⟩ := z
  obtain ⟨t, rfl⟩ := rz
  exact ⟨.str z, H', I', ⟨t, rfl⟩, qz⟩
end
end OW
set_option Elab.async false
set_option linter.all false
set_option maxRecDepth 100000
set_option maxHeartbeats 4000000
/-! RPO: repr of lists, tuples and dicts that hold own instances, of any depth. -/
namespace RPO
open PySem PySem.Spec PyProof.Rows L2
open Builtin Builtin.List
/-- the guards stand on these alone -/
def Gd (g : List Code) (outs : List Addr) : Prop := ∀ id v rest kw, Code.builtin id ⟨v :: rest, kw⟩ ∈ g → ∃ a ∈ outs, v = .ref a
theorem Gd.nil : Gd [] [] := fun _ _ _ _ h => nomatch h
theorem Gd.cons {g : List Code} {outs : List Addr} {id : String} {a : Addr} {rest : List Value} {kw : List (Str × Value)} (h : Gd g outs) : Gd (.builtin id ⟨.ref a :: rest, kw⟩ :: g) (a :: outs) := by
  intro id' v rest' kw' hm
  rcases List.mem_cons.mp hm with e | hm
  · cases e
    exact ⟨a, List.mem_cons_self, rfl⟩
  · obtain ⟨b, hb, e⟩ := h _ _ _ _ hm
    exact ⟨b, List.mem_cons_of_mem _ hb, e⟩
theorem Gd.clear {g : List Code} {outs : List Addr} {a : Addr} (h : Gd g outs) (n : a ∉ outs) : Clear g a := fun id v rest kw hm e => by
  obtain ⟨b, hb, e2⟩ := h id v rest kw hm
  rw [e] at e2
  cases e2
  exact n hb
/-- all but these are as they were -/
def Ex (outs : List Addr) (H H' : Hp) : Prop := ∀ a o, H a = some o → a ∉ outs → H' a = some o
theorem Ex.refl (outs : List Addr) (H : Hp) : Ex outs H H := fun _ _ h _ => h
theorem Ex.ext {outs : List Addr} {H H1 H2 : Hp} (x : Ex outs H H1) (e : Ext H1 H2) : Ex outs H H2 := fun a o h n => e a o (x a o h n)
theorem Ex.more {outs : List Addr} {H H1 : Hp} {a : Addr} (x : Ex outs H H1) : Ex (a :: outs) H H1 := fun b o h n => x b o h fun z => n (List.mem_cons_of_mem _ z)
section
variable {X : Cx}
/-- what a thing shows as, within containers at outs -/
def RpU (X : Cx) (n : Nat) (outs : List Addr) (H0 : Hp) (v : V) (t : Str) : Prop := ∀ (A : Around) (g : List Code) (pins : List (Addr × Obj)) (s : Shared) (σ : L2.St) (H : Hp) (u : Value) (bs : Nat),
  Ex outs H0 H → Sub X n A → A.guards = some g → Gd g outs → Inv X pins σ H s → RelV v u → bs + t.length ≤ sizeLine →
  wpAny (model X.prog X.w) A (pyReprUnder bs u) (fun r s' => r = t ∧ ∃ H', Inv X pins σ H' s' ∧ Ext H H') X.xe s
theorem RpU.mono {n m : Nat} {outs : List Addr} {H0 : Hp} {v : V} {t : Str} (h : RpU X n outs H0 v t) (nm : n ≤ m) : RpU X m outs H0 v t := fun A g pins s σ H u bs x sb => h A g pins s σ H u bs x (sb.mono nm)
theorem RpU.non {n : Nat} {outs : List Addr} {H0 : Hp} : RpU X n outs H0 .non "None" := fun A g pins s σ H u bs x sb hg gd I r hb => by
  cases r
  exact ReprIs.none bs hb _ _ _ _ fun tk => ⟨rfl, H, I.tok tk, Ext.rfl'⟩
theorem RpU.bl {n : Nat} {outs : List Addr} {H0 : Hp} {b : Bool} : RpU X n outs H0 (.bl b) (if b then "True" else "False") := fun A g pins s σ H u bs x sb hg gd I r hb => by
  cases r
  exact ReprIs.bool b bs hb _ _ _ _ fun tk => ⟨rfl, H, I.tok tk, Ext.rfl'⟩
theorem RpU.int {n : Nat} {outs : List Addr} {H0 : Hp} {i : Int} (h : i.natAbs.log2 < 1920) : RpU X n outs H0 (.int i) (toString i) := fun A g pins s σ H u bs x sb hg gd I r hb => by
  obtain ⟨t, rfl⟩ := r
  exact ReprIs.int t h bs hb _ _ _ _ fun tk => ⟨rfl, H, I.tok tk, Ext.rfl'⟩
theorem RpU.str {n : Nat} {outs : List Addr} {H0 : Hp} {z : Str} : RpU X n outs H0 (.str z) (reprText z) := fun A g pins s σ H u bs x sb hg gd I r hb => by
  obtain ⟨t, rfl⟩ := r
  exact ReprIs.str z t (by omega) bs hb _ _ _ _ fun tk => ⟨rfl, H, I.tok tk, Ext.rfl'⟩
/-- an own instance, by its own __repr__ -/
theorem RpU.own {k n : Nat} {outs : List Addr} {H0 : Hp} {a C dx : Addr} {fs : List (Str × V)} {sp : Sp} {t : Str} (S : OW.Spc X.prog X.w X.K X.mg X.base k C "__repr__" sp) (ha : H0 a = some (.ins C dx fs)) (na : a ∉ outs)
    (hsp : ∀ H, H a = some (.ins C dx fs) → sp [.ref a] H (fun v H' => v = .str t ∧ Ext H H') E0) (kn : k ≤ n) : RpU X n outs H0 (.ref a) t := fun A g pins s σ H u bs x sb hg gd I r hb => by
  obtain ⟨f, fd, ps, h1, h2, F, hbi⟩ := S.ex
  cases (show u = Value.ref a from r)
  have ea := x a _ ha na
  obtain ⟨mA, O, _⟩ := ins_get I.hok ea
  obtain ⟨od, J, _⟩ := O.look
  have KI := I.kIn
  have e0 : Env0 X.prog X.w X.K X.mg X.base A X.stack s H := by
    have z := I.env0
    exact ⟨sb.fr.trans z.frames, z.mod, z.bs, z.bsz, z.funs, z.frf, z.hok, z.bare⟩
  refine wpAny_pyReprUnder_ref (by omega) ?_
  unfold pyReprObjUnder pyReprObjBy
  refine wpAny_bind (wpAny_cRoomFor sb.room.units0 ?_)
  refine wpAny_bind (wpAny_bind (J.type.here ((PySem.W.looks_findIn KI h1).here ?_)))
  show wpAny _ _ (if (some (Value.ref f)).isNone = true then _ else _) _ _ _
  rw [if_neg (by simp)]
  have called : wpAny (model X.prog X.w) A (call (.ref f) [.ref a]) (fun v s' => ∃ tk, v = .str t tk ∧ ∃ H', Inv X pins σ H' s' ∧ Ext H H') X.xe s := by
    refine wpAny_mono (OW.run_at (E' := X.xe) (vs := [.ref a]) F hbi (sb.room.mono kn) I e0 (.cons rfl .nil) (hsp H ea)) (fun w s' z => ?_) fun _ _ x => x
    obtain ⟨z', H', I', rz, z, e⟩ := z
    rw [z] at rz
    obtain ⟨tk, rfl⟩ := rz
    exact ⟨tk, rfl, H', I', e⟩
  refine wpAny_bind (m := callSpecialIfBoundBy? _ (.ref a) (Str.ofString "__repr__")) ?_
  have fin : wpAny (model X.prog X.w) A (callSpecialIfBoundBy? (fun g first => match reprUnder? g, first with | some twin, [self] => call twin [self, rawInt bs] | _, _ => call g (first ++ [])) (.ref a) (Str.ofString "__repr__"))
      (fun r s' => ∃ tk, r = some (.str t tk) ∧ ∃ H', Inv X pins σ H' s' ∧ Ext H H') X.xe s := by
    simp only [callSpecialIfBoundBy?, bindSpecialIfBound?]
    refine wpAny_holding (wpAny_bind (wpAny_bind (wpAny_bind (J.type.here ((PySem.W.looks_findIn KI h1).here ?_)))))
    refine wpAny_bind (wpAny_askSetting (wpAny_ite ?_))
    have ends : wpAny (model X.prog X.w) A (call (.ref f) ([.ref a] ++ []) >>= fun v => pure (some v)) (fun r s' => ∃ tk, r = some (.str t tk) ∧ ∃ H', Inv X pins σ H' s' ∧ Ext H H') X.xe s :=
      wpAny_bind (wpAny_mono called (fun v s' h' => wpAny_pure (by obtain ⟨tk, rfl, h⟩ := h'; exact ⟨tk, rfl, h⟩)) fun _ _ h' => h')
    split
    · exact wpAny_bind ((PySem.W.bind_fn KI _ (beq_iff_eq.mp h2)).here (wpAny_pure (by exact ends)))
    · exact wpAny_tryCatch (wpAny_bind ((PySem.W.bind_fn KI _ (beq_iff_eq.mp h2)).here (wpAny_pure (by exact ends))))
  refine wpAny_mono fin (fun r s' h' => ?_) fun _ _ x => x
  obtain ⟨tk, rfl, h⟩ := h'
  exact wpAny_bind (wpAny_isInstance (T := "str") (b := true) rfl isSubtype_str_str (wpAny_pure ⟨_, _, rfl, rfl, h⟩))
end
end RPO
set_option Elab.async false
set_option linter.all false
set_option maxRecDepth 100000
set_option maxHeartbeats 4000000
/-! RPL: the containers of RPO: lists, tuples, dicts. -/
namespace RPO
open PySem PySem.Spec PyProof.Rows L2
open Builtin Builtin.List
theorem strs_of : ∀ {ts : List Str} {us : List Value}, Vals (ts.map V.str) us → ∃ done : List (Str × Tok), us = strValues done ∧ done.map (·.1) = ts
  | [], _, .nil => ⟨[], rfl, rfl⟩
  | t :: ts, _, .cons r h => by
    obtain ⟨tk, rfl⟩ := r
    obtain ⟨done, rfl, e⟩ := strs_of h
    exact ⟨(t, tk) :: done, rfl, by simp [e]⟩
theorem sub_loop {X : Cx} {n : Nat} {A : Around} {args : Args} (h : Sub X (n + 1) A) : Sub X n (A.under (.builtin "list.__repr__.loop" args)) := by
  have hd : (A.under (.builtin "list.__repr__.loop" args)).depth ≤ A.depth + 1 := by
    first | exact Nat.le_refl _ | simp [Around.under, Code.weight, Code.isCreation, Code.isGuard, Code.isCaller, Code.frames, Code.isFrame, guardIds]
  have hu := units_under_list_loop A args
  have hf : (A.under (.builtin "list.__repr__.loop" args)).frames = A.frames := by
    have e : (Code.builtin "list.__repr__.loop" args).envs = [] := by first | rfl | simp [Code.envs, Code.isFrame]
    have e2 : (A.under (.builtin "list.__repr__.loop" args)).frames = pushEnvs (Code.envs (.builtin "list.__repr__.loop" args)) A.frames := by first | rfl | simp [Around.under]
    rw [e2, e]
    cases A.frames <;> first | rfl | simp [pushEnvs]
  obtain ⟨⟨h1, h2, h3⟩, h4⟩ := h
  exact ⟨⟨h1, by omega, by rw [hu]; omega⟩, hf.trans h4⟩
section
variable {X : Cx} {n : Nat} {outs : List Addr} {H0 : Hp} {a : Addr} {xs : List V} {ts : List Str}
theorem list_loop {A : Around} {g : List Code} {P : Addr} {bs : Nat} {pins : List (Addr × Obj)} {σ : L2.St} {Hb : Hp} {R : Result → Shared → Prop} (sb : Sub X (n + 1) A) (hg : A.guards = some g) (gd : Gd g outs) (ha : Hb a = some (.lst xs)) (hP : Hb P = none) (xe : Ex outs H0 Hb) (hlen : ts.length = xs.length)
    (hT : ∀ (i : Nat) (x : V), xs[i]? = some x → ∃ t, ts[i]? = some t ∧ RpU X n (a :: outs) H0 x t) (hsz : bs + (listText ts).length ≤ sizeLine)
    (hE : ∀ e s', X.xe e s' → R (.error e) s')
    (fin : ∀ (s' : Shared) (H' : Hp) (u : Tok), Inv X pins σ H' s' → Ext Hb H' → R (.ok (.ret (.str (listText ts) u))) s') :
    ∀ (k i : Nat) (s : Shared) (H : Hp), xs.length - i = k → i ≤ xs.length → Inv X pins σ H s → Ext Hb H → H P = some (.lst ((ts.take i).map V.str)) →
      codeAny (model X.prog X.w) A (.builtin "list.__repr__.loop" ⟨[.ref a, rawInt i, .ref P, rawInt ((bs + piled (ts.take i) : Nat) : Int)], []⟩) R s := by
  have hX : (listText ts).length = (textFrom 0 "[" ts).length + 1 := by
    show (textFrom 0 "[" ts ++ "]").length = _
    rw [strLen_append]; rfl
  have hL := textFrom_len ts 0 "["
  have each : ∀ t ∈ ts, t.length ≤ sizeLine := fun t ht => by
    have := hL.2.1 t ht
    omega
  have many : ts.length ≤ sizeLine := by
    have h1 := hL.1
    rw [if_neg (Nat.lt_irrefl 0)] at h1
    omega
  have hp3 := piled_le_listText ts
  have uu : A.in1.units < cLine := by have := sb.room.un; show A.units + 1 < cLine; omega
  intro k
  induction k with
  | zero =>
    intro i s H hk hi I eb hPi
    have hin : i = ts.length := by omega
    obtain ⟨_, its, m, rv, _, e⟩ := I.lstM (eb _ _ ha)
    obtain ⟨_, ups, c, rp, _, ep⟩ := I.lstM hPi
    have nits : its[i]? = none := by
      have := rv.length
      exact List.getElem?_eq_none (by omega)
    refine codeAny_builtin F.entry_list_repr_loop ?_
    show wpAny _ _ («list.__repr__.loop» ⟨[.ref a, .int i 0, .ref P, .int ((bs + piled (ts.take i) : Nat) : Int) 0], []⟩) _ _ s
    rw [repr_loop_tree]
    refine wpAny_bind (wpAny_listItems e rfl ?_)
    have hnone : its.toArray[((i : Int)).toNat]? = none := by simpa using nits
    simp only [hnone]
    unfold reprEnd
    refine wpAny_bind (wpAny_listItems ep rfl ?_)
    obtain ⟨done, rfl, ed⟩ := strs_of rp
    rw [show (strValues done).toArray.toList = strValues done from by simp, repr_fold]
    refine wpAny_bind (wpAny_pure ?_)
    have hall : done.map (·.1) = ts := by rw [ed, hin, List.take_length]
    rw [hall]
    refine wpAny_bind (wpAny_mkStr (wpAny_pure ?_) (by show (listText ts).length ≤ sizeLine; omega))
    exact fin _ H _ (I.tok _) eb
  | succ k ih =>
    intro i s H hk hi I eb hPi
    have hlt : i < xs.length := by omega
    obtain ⟨t, ht, hrep⟩ := hT i xs[i] (List.getElem?_eq_getElem hlt)
    obtain ⟨_, its, m, rv, lv, e⟩ := I.lstM (eb _ _ ha)
    have hlt2 : i < its.length := by omega
    have rvi : RelV xs[i] its[i] := by
      obtain ⟨u, e1, e2⟩ := rv.get (List.getElem?_eq_getElem hlt)
      rw [List.getElem?_eq_getElem hlt2] at e1
      cases e1
      exact e2
    have hp1 := piled_take_succ ht
    have hp2 := piled_take_le ts (i + 1)
    refine codeAny_builtin F.entry_list_repr_loop ?_
    show wpAny _ _ («list.__repr__.loop» ⟨[.ref a, .int i 0, .ref P, .int ((bs + piled (ts.take i) : Nat) : Int) 0], []⟩) _ _ s
    rw [repr_loop_tree]
    refine wpAny_bind (wpAny_listItems e rfl ?_)
    have hsome : its.toArray[((i : Int)).toNat]? = some its[i] := by simp [hlt2]
    simp only [hsome]
    rw [Int.toNat_natCast]
    refine wpAny_bind (wpAny_holding (wpAny_mono (hrep _ _ pins s σ H its[i] (bs + piled (ts.take i) + 1) ((xe.ext eb).more) (sub_loop sb) (guards_under_guard (isGuard_list_loop _) hg) gd.cons I rvi (by omega)) (fun r s2 h2 => ?_) fun e' s' h' => hE e' s' h'))
    obtain ⟨rfl, H2, I2, e2⟩ := h2
    refine wpAny_bind (wpAny_mkStr ?_ (each r (List.mem_of_getElem? ht)))
    have hP2 := e2 _ _ hPi
    obtain ⟨_, ups, c, rp, _, ep⟩ := I2.lstM hP2
    refine wpAny_bind ?_
    show wpAny _ _ (updateSeq P _) _ _ _
    have lp := rp.length
    rw [List.length_map, List.length_take] at lp
    refine wpAny_updateSeq ep rfl (wpAny_pure ⟨F.quiet_list_repr_loop _, ?_⟩) (by rw [List.size_toArray]; omega) (by rw [Array.size_push, List.size_toArray]; omega)
    have e1' : ((i : Int) + 1) = ((i + 1 : Nat) : Int) := by omega
    have e2' : bs + piled (ts.take i) + (r.length + 2) = bs + piled (ts.take (i + 1)) := by omega
    rw [e1', e2']
    have I3 := I2.lset (its' := ups ++ [.str r s2.toks]) (f := fun x => x.push (.str r s2.toks)) (t' := s2.toks + 1) hP2 ep (by simp) (ys := (ts.take (i + 1)).map V.str) (by
      rw [List.take_add_one, ht, List.map_append]
      exact rp.append (.cons ⟨_, rfl⟩ .nil)) (by rw [List.length_map, List.length_take]; omega)
    exact ih (i + 1) _ _ (by omega) hlt I3 (fun b o hb => by
      rw [upd_ne (fun z => by rw [z, hP] at hb; cases hb)]
      exact e2 _ _ (eb _ _ hb)) upd_same
end
end RPO
set_option Elab.async false
set_option linter.all false
set_option maxRecDepth 100000
set_option maxHeartbeats 4000000
namespace RPO
open PySem PySem.Spec PyProof.Rows L2
open Builtin Builtin.List
/-- things one by one -/
inductive RpAll (X : Cx) (n : Nat) (outs : List Addr) (H0 : Hp) : List V → List Str → Prop
  | nil : RpAll X n outs H0 [] []
  | cons {v : V} {t : Str} {vs : List V} {ts : List Str} : RpU X n outs H0 v t → RpAll X n outs H0 vs ts → RpAll X n outs H0 (v :: vs) (t :: ts)
theorem RpAll.len {X : Cx} {n : Nat} {outs : List Addr} {H0 : Hp} : ∀ {vs : List V} {ts : List Str}, RpAll X n outs H0 vs ts → ts.length = vs.length
  | _, _, .nil => rfl
  | _, _, .cons _ h => by rw [List.length_cons, List.length_cons, h.len]
theorem RpAll.get {X : Cx} {n : Nat} {outs : List Addr} {H0 : Hp} : ∀ {vs : List V} {ts : List Str}, RpAll X n outs H0 vs ts → ∀ (i : Nat) (x : V), vs[i]? = some x → ∃ t, ts[i]? = some t ∧ RpU X n outs H0 x t
  | _, _, .nil, _, _, h => by simp at h
  | _, _, .cons r h, 0, _, e => by
    simp at e
    subst e
    exact ⟨_, rfl, r⟩
  | _, _, .cons r h, i + 1, x, e => by
    obtain ⟨t, e1, e2⟩ := h.get i x (by simpa using e)
    exact ⟨t, by simpa using e1, e2⟩
section
variable {X : Cx} {n : Nat} {outs : List Addr} {H0 : Hp} {a : Addr} {xs : List V} {ts : List Str}
/-- what is asked of the end of a text -/
def Told (X : Cx) (pins : List (Addr × Obj)) (σ : L2.St) (H : Hp) (t : Str) (v : Value) (s' : Shared) : Prop := ∃ tk, v = .str t tk ∧ ∃ H', Inv X pins σ H' s' ∧ Ext H H'
theorem list_at {A : Around} {g : List Code} {bs : Nat} {pins : List (Addr × Obj)} {σ : L2.St} {s : Shared} {H : Hp} {Q : Value → Shared → Prop} (sb : Sub X (n + 1) A) (hg : A.guards = some g) (gd : Gd g outs) (I : Inv X pins σ H s) (ha : H a = some (.lst xs)) (na : a ∉ outs) (xe : Ex outs H0 H) (hx : xs ≠ [])
    (hT : RpAll X n (a :: outs) H0 xs ts) (hsz : bs + (listText ts).length ≤ sizeLine) (fin : ∀ v s', Told X pins σ H (listText ts) v s' → Q v s') :
    wpAny (model X.prog X.w) A.in1 (Builtin.listReprAt bs ⟨[.ref a], []⟩) (fun fin s' => match fin with | .done f => callEnd Q X.xe (.ok f) s' | .again c' => c'.quiet = true ∧ codeAny (model X.prog X.w) A c' (callEnd Q X.xe) s') (fun e s' => callEnd Q X.xe (.error e) s') s := by
  obtain ⟨_, its, m, rv, lv, e⟩ := I.lstM ha
  obtain ⟨y, l, rfl⟩ : ∃ y l, its = y :: l := by
    cases its with
    | nil =>
      have : xs.length = 0 := lv
      exact absurd (List.length_eq_zero_iff.mp this) hx
    | cons y l => exact ⟨y, l, rfl⟩
  refine wpAny_list_repr_head (A := A.in1) hg (fun v rest kw hm => listSameRef_of_ne ((gd.clear na) _ _ _ _ hm)) e rfl ?_
  refine wpAny_bind (m := newList []) (wpAny_newObj_type ?_)
  refine wpAny_pure ⟨F.quiet_list_repr_loop _, ?_⟩
  have I1 := I.lnew (its := []) (ys := []) (t' := s.toks) .nil (Nat.zero_le _)
  have hn := I.fresh
  exact list_loop (n := n) (Hb := H) (R := callEnd Q X.xe) sb hg gd ha hn xe hT.len hT.get hsz (fun _ _ h => h) (fun s' H' u I' e' => fin _ _ ⟨u, rfl, H', I', e'⟩) _ 0 _ _ rfl (Nat.zero_le _) I1 (Ext.upd hn) upd_same
theorem RpU.list (ha : H0 a = some (.lst xs)) (na : a ∉ outs) (hx : xs ≠ []) (hT : RpAll X n (a :: outs) H0 xs ts) : RpU X (n + 1) outs H0 (.ref a) (listText ts) := fun A g pins s σ H u bs x sb hg gd I r hb => by
  cases (show u = Value.ref a from r)
  have ea := x a _ ha na
  obtain ⟨_, its, m, rv, lv, e⟩ := I.lstM ea
  refine wpAny_pyReprUnder_ref (by omega) (wpAny_pyReprObjUnder_twin (twin := "list.__repr__.under") ⟨_, e, rfl⟩ F.slot_list_repr.toG rfl sb.room.units0
    (call_twin_plain F.plain_list_repr_under F.entry_list_repr_under F.check_list_repr_under ⟨_, e, rfl⟩ F.slot_list_repr.toG (F.args_list_repr_1 _) (list_at sb hg gd I ea na x hx hT hb fun v s' h => ?_)))
  obtain ⟨tk, rfl, h⟩ := h
  exact ⟨⟨_, _, rfl⟩, _, _, rfl, rfl, h⟩
theorem RpU.list0 (ha : H0 a = some (.lst [])) (na : a ∉ outs) : RpU X n outs H0 (.ref a) "[]" := fun A g pins s σ H u bs x sb hg gd I r hb => by
  cases (show u = Value.ref a from r)
  have ea := x a _ ha na
  obtain ⟨_, its, m, rv, lv, e⟩ := I.lstM ea
  obtain rfl : its = [] := List.length_eq_zero_iff.mp lv.symm
  exact wpAny_pyReprUnder_ref (by omega) (wpAny_pyReprObjUnder_list_empty ⟨_, e, rfl⟩ sb.room.units0 e rfl ⟨_, _, rfl, rfl, H, I.tok _, Ext.rfl'⟩)
theorem tup_fold {A : Around} {g : List Code} {pins : List (Addr × Obj)} {σ : L2.St} {Hb : Hp} {Q : (Array Str × Nat) → Shared → Prop} (sb : Sub X n A) (hg : A.guards = some g) (gd : Gd g (a :: outs)) (xe : Ex outs H0 Hb) :
    ∀ {vs : List V} {ts : List Str}, RpAll X n (a :: outs) H0 vs ts → ∀ (us : List Value) (acc : Array Str) (m : Nat) (s : Shared) (H : Hp), Vals vs us → m + piled ts ≤ sizeLine → Inv X pins σ H s → Ext Hb H →
      (∀ s' H', Inv X pins σ H' s' → Ext Hb H' → Q ⟨acc ++ ts.toArray, m + piled ts⟩ s') → wpAny (model X.prog X.w) A (forIn us (⟨acc, m⟩ : (Array Str × Nat)) tupBody) Q X.xe s := by
  intro vs ts h
  induction h with
  | nil =>
    intro us acc m s H rv hm I eb fin
    cases rv
    have h0 := fin s H I eb
    simp only [List.forIn_nil]
    exact wpAny_pure (by simpa [piled] using h0)
  | @cons v t vs ts hr hl ih =>
    intro us acc m s H rv hm I eb fin
    cases rv with
    | @cons _ u _ us r rv =>
      rw [piled_cons] at hm
      rw [List.forIn_cons]
      refine wpAny_bind (wpAny_bind (wpAny_mono (hr A g pins s σ H u (m + 1) (xe.ext eb).more sb hg gd I r (by omega)) (fun r' s2 h2 => ?_) fun _ _ x => x))
      obtain ⟨rfl, H2, I2, e2⟩ := h2
      refine wpAny_pure ?_
      refine ih us (acc.push r') (m + (r'.length + 2)) s2 H2 rv (by omega) I2 (eb.trans e2) fun s' H' I' e' => ?_
      have h1 := fin s' H' I' e'
      have e : m + piled (r' :: ts) = m + (r'.length + 2) + piled ts := by rw [piled_cons]; omega
      rw [e] at h1
      simpa using h1
theorem tup_at {A : Around} {g : List Code} {bs : Nat} {pins : List (Addr × Obj)} {σ : L2.St} {s : Shared} {H : Hp} {Q : Value → Shared → Prop} {id : String} {rest : List Value} (hcg : (Code.builtin id ⟨.ref a :: rest, []⟩).isGuard = true) (sb : Sub X n (A.under (.builtin id ⟨.ref a :: rest, []⟩)))
    (hg : A.guards = some g) (gd : Gd g outs) (I : Inv X pins σ H s) (ha : H a = some (.tup xs)) (na : a ∉ outs) (xe : Ex outs H0 H) (hT : RpAll X n (a :: outs) H0 xs ts) (hsz : bs + (tupleText ts).length ≤ sizeLine) (fin : ∀ v s', Told X pins σ H (tupleText ts) v s' → Q v s') :
    wpOwn (model X.prog X.w) A (.builtin id ⟨.ref a :: rest, []⟩) (Builtin.tupleReprAt bs ⟨[.ref a], []⟩) (fun fin s' => match fin with | .done f => callEnd Q X.xe (.ok f) s' | .again c' => c'.quiet = true ∧ codeAny (model X.prog X.w) A c' (callEnd Q X.xe) s') (fun e s' => callEnd Q X.xe (.error e) s') s := by
  obtain ⟨its, rv, ⟨o, ho, hc, m, hd⟩, hz⟩ := I.tuple (SqT.of (K := X.K) ha)
  have hca : Clear g a := gd.clear na
  have hlen : ts.length = its.length := hT.len.trans rv.length
  have hp := piled_le_tupleText ts
  have hsz0 : (tupleText ts).length ≤ sizeLine := by omega
  rw [tuple_repr_tree, tupleReprUnderWay_eq]
  refine wpOwn_bind (wpOwn_stackTailAny hg (tupGuardF_off _) (tupGuardF_pos _) ?_)
  have hn : (g.any fun c => tupGuardF (.ref a) (c, default)) = false := by
    rw [List.any_eq_false]
    intro c hcm
    rw [tupGuardF_of_clear hca c hcm]
    exact Bool.false_ne_true
  rw [hn]
  refine wpOwn_of_wpAny ?_
  show wpAny _ _ (tupleReprRest bs (.ref a)) _ _ s
  unfold tupleReprRest Builtin.Tuple.tupleItemsOf
  refine wpAny_bind (wpAny_bind (wpAny_seqItems ho hd (wpAny_pure ?_)))
  rw [← Array.forIn_toList]
  refine wpAny_bind (tup_fold (Hb := H) sb (guards_under_guard hcg hg) gd.cons xe hT _ _ _ s H (by simpa using rv) (by omega) I Ext.rfl' fun s' H' I' e' => ?_)
  refine wpAny_bind (wpAny_mkStr (wpAny_pure ?_) (by simpa [tupleText, hlen] using hsz0))
  have h1 := fin (.str (tupleText ts) s'.toks) { s' with toks := s'.toks + 1 } ⟨_, rfl, H', I'.tok _, e'⟩
  simpa [tupleText, hlen] using h1
theorem sub_code {A : Around} {id : String} {args : Args} (h : Sub X (n + 1) A) (hw : (Code.builtin id args).weight ≤ 1) (he : (Code.builtin id args).envs = []) (hu : (A.under (.builtin id args)).units = A.units + 1) : Sub X n (A.under (.builtin id args)) := by
  have e2 : (A.under (.builtin id args)).frames = pushEnvs (Code.envs (.builtin id args)) A.frames := by first | rfl | simp [Around.under]
  have hf : (A.under (.builtin id args)).frames = A.frames := by
    rw [e2, he]
    cases A.frames <;> first | rfl | simp [pushEnvs]
  have hd : (A.under (.builtin id args)).depth = A.depth + (Code.builtin id args).weight := by first | rfl | simp [Around.under]
  obtain ⟨⟨h1, h2, h3⟩, h4⟩ := h
  exact ⟨⟨h1, by omega, by rw [hu]; omega⟩, hf.trans h4⟩
theorem w_tup {args : Args} : (Code.builtin "tuple.__repr__" args).weight ≤ 1 := by
  first | exact Nat.le_refl _ | simp [Code.weight, Code.isCreation, Code.isGuard, Code.isCaller, Code.frames, Code.isFrame, guardIds]
theorem w_tupU {args : Args} : (Code.builtin "tuple.__repr__.under" args).weight ≤ 1 := by
  first | exact Nat.le_refl _ | simp [Code.weight, Code.isCreation, Code.isGuard, Code.isCaller, Code.frames, Code.isFrame, guardIds]
theorem e_b {id : String} {args : Args} (h : (Code.builtin id args).isFrame = false := by rfl) : (Code.builtin id args).envs = [] := by simp [Code.envs, h]
theorem RpU.tup (ha : H0 a = some (.tup xs)) (na : a ∉ outs) (hT : RpAll X n (a :: outs) H0 xs ts) : RpU X (n + 1) outs H0 (.ref a) (tupleText ts) := fun A g pins s σ H u bs x sb hg gd I r hb => by
  cases (show u = Value.ref a from r)
  have ea := x a _ ha na
  obtain ⟨its, rv, ⟨o, ho, hc, m, hd⟩, hz⟩ := I.tuple (SqT.of (K := X.K) ea)
  refine wpAny_pyReprUnder_ref (by omega) (wpAny_pyReprObjUnder_twin (twin := "tuple.__repr__.under") ⟨o, ho, hc⟩ F.slot_tuple_repr rfl sb.room.units0
    (call_twin_own (F.quiet_tuple_repr_under _) F.entry_tuple_repr_under F.check_tuple_repr_under ⟨o, ho, hc⟩ F.slot_tuple_repr (F.args_tuple_repr_1 _)
      (tup_at (isGuard_tuple_repr_under _) (sub_code sb w_tupU e_b (units_under_tuple_repr_under _ _)) hg gd I ea na x hT hb fun v s' h => ?_)))
  obtain ⟨tk, rfl, h⟩ := h
  exact ⟨⟨_, _, rfl⟩, _, _, rfl, rfl, h⟩
/-- repr of a tuple, where no repr is under way -/
def rReprT (X : Cx) (n : Nat) : List V → Hp → VK → Prop := fun ys H Q => ∃ (a : Addr) (xs : List V) (ts : List Str), ys = [.ref a] ∧ H a = some (.tup xs) ∧ RpAll X n [a] H xs ts ∧ (tupleText ts).length ≤ sizeLine ∧ ∀ H', Ext H H' → Q (.str (tupleText ts)) H'
theorem call_reprT (hgd : X.A.guards = some []) (hr : Room (n + 2) X.A) : CallR X (.builtin "repr") (rReprT X n) := by
  intro pins s σ H ys us Q I r h
  obtain ⟨a, xs, ts, rfl, ea, hT, hb, q⟩ := h
  obtain ⟨u, rfl, ru⟩ := r.one
  cases (show u = Value.ref a from ru)
  obtain ⟨its, rv, ⟨o, ho, hc, m, hd⟩, hz⟩ := I.tuple (SqT.of (K := X.K) ea)
  have sb : Sub X (n + 1) X.A.in1 := ⟨hr.in1, rfl⟩
  refine call_repr_slot (by have := hr.un; omega) ⟨o, ho, hc⟩ F.slot_tuple_repr ?_
  refine wpAny_call (codeAny_call_builtin_own (Code.quiet_builtin _ (by decide +kernel)) F.entry_tuple_repr (F.slot_tuple_repr.check _ _ _ _ _ _ _ _ ⟨o, ho, hc⟩ (F.args_tuple_repr_1 _)
    (tup_at (outs := []) (H0 := H) (bs := 0) (isGuard_tuple_repr _) (sub_code sb w_tup e_b (units_under_tuple_repr _ _)) hgd Gd.nil I ea (by simp) (Ex.refl _ _) hT (by omega) fun v s' h => ?_)))
  obtain ⟨tk, rfl, H', I', e⟩ := h
  exact ⟨_, _, rfl, .str _, H', I', ⟨_, rfl⟩, q H' e⟩
end
end RPO
set_option Elab.async false
set_option linter.all false
set_option maxRecDepth 100000
set_option maxHeartbeats 4000000
namespace RPO
open PySem PySem.Spec PyProof.Rows L2
open Builtin Builtin.List
/-- what the entries of a dict show as -/
inductive RpEnt (X : Cx) (n : Nat) (outs : List Addr) (H0 : Hp) : List (Key × V) → List Str → Prop
  | nil : RpEnt X n outs H0 [] []
  | cons {k : Key} {v : V} {tk tv : Str} {kvs : List (Key × V)} {ps : List Str} : RpU X n outs H0 (kV k) tk → RpU X n outs H0 v tv → RpEnt X n outs H0 kvs ps → RpEnt X n outs H0 ((k, v) :: kvs) ((tk ++ ": " ++ tv) :: ps)
section
variable {X : Cx} {n : Nat} {outs : List Addr} {H0 : Hp} {a : Addr} {kvs : List (Key × V)} {ps : List Str}
theorem RpEnt.len : ∀ {kvs : List (Key × V)} {ps : List Str}, RpEnt X n outs H0 kvs ps → ps.length = kvs.length
  | _, _, .nil => rfl
  | _, _, .cons _ _ h => by rw [List.length_cons, List.length_cons, h.len]
theorem RpEnt.get : ∀ {kvs : List (Key × V)} {ps : List Str}, RpEnt X n outs H0 kvs ps → ∀ (i : Nat) (e : Key × V), kvs[i]? = some e → ∃ tk tv : Str, ps[i]? = some (tk ++ ": " ++ tv) ∧ RpU X n outs H0 (kV e.1) tk ∧ RpU X n outs H0 e.2 tv
  | _, _, .nil, _, _, h => by simp at h
  | _, _, .cons r1 r2 h, 0, _, e => by
    simp at e
    subst e
    exact ⟨_, _, rfl, r1, r2⟩
  | _, _, .cons _ _ h, i + 1, x, e => by
    obtain ⟨t1, t2, e1, e2⟩ := h.get i x (by simpa using e)
    exact ⟨t1, t2, by simpa using e1, e2⟩
theorem pairs_at {P : Program} {w : World} : ∀ {es : List DictEntry} {vs : List (Key × Value)}, Pairs (mixKind P w) es vs → ∀ (i : Nat) (kv : Key × Value), vs[i]? = some kv → ∃ e, es[i]? = some e ∧ (mixKind P w).is kv.1 e.key = true ∧ e.val = kv.2
  | _, _, .nil, _, _, h => by simp at h
  | _, _, .cons h1 h2 h, 0, _, e => by
    simp at e
    subst e
    exact ⟨_, rfl, h1, h2⟩
  | _, _, .cons _ _ h, i + 1, kv, e => by
    obtain ⟨en, e1, e2⟩ := pairs_at h i kv (by simpa using e)
    exact ⟨en, by simpa using e1, e2⟩
theorem key_rel {k : Key} {v : Value} (h : keyIs k v = true) : RelV (kV k) v := by
  rcases keyIs_shape h with ⟨i, t, rfl, rfl⟩ | ⟨x, t, rfl, rfl⟩
  · exact ⟨_, rfl⟩
  · exact ⟨_, rfl⟩
theorem kv_at : ∀ {ks : List (Key × V)} {va : List (Key × Value)}, KV ks va → ∀ (i : Nat) (e : Key × V), ks[i]? = some e → ∃ u : Key × Value, va[i]? = some u ∧ e.1 = u.1 ∧ RelV e.2 u.2
  | _, _, .nil, _, _, h => by simp at h
  | _, _, .cons r h, 0, _, e => by
    simp at e
    subst e
    exact ⟨_, rfl, r.1, r.2⟩
  | _, _, .cons _ h, i + 1, x, e => by
    obtain ⟨u, e1, e2⟩ := kv_at h i x (by simpa using e)
    exact ⟨u, by simpa using e1, e2⟩
/-- the entries of a locked dict -/
theorem entry_of {pins : List (Addr × Obj)} {σ : L2.St} {s : Shared} {H : Hp} {o : Obj} (I : Inv X pins σ H s) (h : H a = some (.frz o (.dK kvs))) {es : Array DictEntry} {ep : Nat} (hd : o.data = .dict es ep) (i : Nat) (hi : i < kvs.length) :
    ∃ e, es[i]? = some e ∧ RelV (kV kvs[i].1) e.key ∧ RelV kvs[i].2 e.val := by
  obtain ⟨_, hg, _, es', ep', vs, hd', hs, kv, o2, es2, g2, x2, d2, k2, p2, _⟩ := I.frzK h
  rw [hg] at g2
  cases g2
  rw [hd] at d2
  cases d2
  obtain ⟨u, e1, e2, e3⟩ := kv_at kv i kvs[i] (List.getElem?_eq_getElem hi)
  obtain ⟨e, f1, f2, f3⟩ := pairs_at p2 i u e1
  refine ⟨e, by simpa using f1, ?_, by rw [f3]; exact e3⟩
  rw [e2]
  exact key_rel f2
theorem dct_at {A : Around} {g : List Code} {bs : Nat} {pins : List (Addr × Obj)} {σ : L2.St} {s : Shared} {H : Hp} {Q : Value → Shared → Prop} {id : String} {rest : List Value} (hcg : (Code.builtin id ⟨.ref a :: rest, []⟩).isGuard = true) (sb : Sub X n (A.under (.builtin id ⟨.ref a :: rest, []⟩)))
    (hg : A.guards = some g) (gd : Gd g outs) (I : Inv X pins σ H s) (ha : H a = some (.dK kvs)) (na : a ∉ outs) (xe : Ex outs H0 H) (hT : RpEnt X n (a :: outs) H0 kvs ps) (hsz : bs + (dictText ps).length ≤ sizeLine) (fin : ∀ v s', Told X pins σ H (dictText ps) v s' → Q v s') :
    wpOwn (model X.prog X.w) A (.builtin id ⟨.ref a :: rest, []⟩) (Builtin.dictReprAt bs ⟨[.ref a], []⟩) (fun fin s' => match fin with | .done f => callEnd Q X.xe (.ok f) s' | .again c' => c'.quiet = true ∧ codeAny (model X.prog X.w) A c' (callEnd Q X.xe) s') (fun e s' => callEnd Q X.xe (.error e) s') s := by
  have mu : Mut (some (HO.dK kvs)) := trivial
  have nf := I.nofrz ha mu
  obtain ⟨o, I1⟩ := I.lock ha mu
  have e1 : (upd H a (.frz o (.dK kvs))) a = some (.frz o (.dK kvs)) := upd_same
  have x1 : Ex (a :: outs) H0 (upd H a (.frz o (.dK kvs))) := fun b u e nb => by
    rw [upd_ne fun z => nb (by rw [z]; exact List.mem_cons_self)]
    exact xe b u e fun z => nb (List.mem_cons_of_mem _ z)
  have back : ∀ {H' : Hp} {s' : Shared}, Inv X pins σ H' s' → Ext (upd H a (.frz o (.dK kvs))) H' → ∃ H2, Inv X pins σ H2 s' ∧ Ext H H2 := fun {H' s'} I' e' => by
    refine ⟨_, I'.unlock (e' _ _ e1) nf, fun b u e => ?_⟩
    by_cases hb : b = a
    · subst hb
      rw [upd_same, ← e, ha]
    · rw [upd_ne hb]
      refine e' _ _ ?_
      rw [upd_ne hb]
      exact e
  generalize upd H a (.frz o (.dK kvs)) = H1 at I1 e1 x1 back
  obtain ⟨hsys, hget, hex, es, ep, vs, hd, hsize, _, _⟩ := I1.frzK e1
  have got : ∀ {H' : Hp} {s' : Shared}, Inv X pins σ H' s' → Ext H1 H' → s'.heap.get? a = some o := fun I' e' => (I'.frzK (e' _ _ e1)).2.1
  have hTy : s.TypeIs (.ref a) "dict" := ⟨o, hget, hex.1⟩
  have hca : Clear g a := gd.clear na
  have hlen : ps.length = es.size := hT.len.trans hsize.symm
  have hp3 := piled_le_dictText ps
  have hsz0 : (dictText ps).length ≤ sizeLine := by omega
  unfold Builtin.dictReprAt
  refine wpOwn_bind (wpOwn_of_wpAny ?_)
  unfold Builtin.Dict.dictSlotNone
  refine wpAny_bind (wpAny_notOrdered_dict hTy ?_)
  show wpAny _ _ (pure (Value.ref a)) _ _ s
  refine wpAny_pure ?_
  rw [dictReprRunning_eq]
  refine wpOwn_bind (wpOwn_stackTailAny hg (dictGuardF_off _) (dictGuardF_pos _) ?_)
  have hn : (g.any fun c => dictGuardF (.ref a) (c, default)) = false := by
    rw [List.any_eq_false]
    intro c hcm
    rw [dictGuardF_of_clear hca c hcm]
    exact Bool.false_ne_true
  rw [hn]
  refine wpOwn_of_wpAny ?_
  have hg' := guards_under_guard hcg hg
  show wpAny _ _ (Builtin.Dict.addrOf (.ref a) >>= _) _ _ s
  refine wpAny_bind (wpAny_pure ?_)
  show wpAny _ _ (Builtin.Dict.showsAll a >>= _) _ _ s
  unfold Builtin.Dict.showsAll
  rw [if_neg (by rw [hsys]; exact Bool.false_ne_true)]
  refine wpAny_bind (wpAny_pure ?_)
  refine wpAny_bind (wpAny_dictEpoch hget hd ?_)
  refine wpAny_bind (wpAny_dictEntries hget hd ?_)
  refine wpAny_bind ?_
  rw [Std.Legacy.Range.forIn_eq_forIn_range']
  simp only [Std.Legacy.Range.size, Nat.sub_zero, Nat.add_sub_cancel, Nat.div_one]
  refine wpAny_forIn_list _
    (fun rest' r s' => ∃ i H', rest' = List.range' i (es.size - i) ∧ i ≤ es.size ∧ r = (⟨(ps.take i).toArray, bs + piled (ps.take i)⟩ : (Array Str × Nat)) ∧ Inv X pins σ H' s' ∧ Ext H1 H')
    _ ?_ ?_ _ _ ⟨0, H1, by simp, Nat.zero_le _, by simp [piled], I1, Ext.rfl'⟩
  · rintro x rest' _ s' ⟨i, H', hr, hi, rfl, I', e'⟩
    have hlt : i < es.size := by
      rcases Nat.lt_or_ge i es.size with h | h
      · exact h
      · rw [Nat.sub_eq_zero_of_le h] at hr; simp at hr
    obtain ⟨rfl, hrest⟩ : x = i ∧ rest' = List.range' (i + 1) (es.size - (i + 1)) := by
      have e : es.size - i = (es.size - (i + 1)) + 1 := by omega
      rw [e, List.range'_succ] at hr
      injection hr with h1 h2
      exact ⟨h1, h2⟩
    have hx2 : x < kvs.length := by omega
    obtain ⟨tk, tv, hp, rk, rv⟩ := hT.get x kvs[x] (List.getElem?_eq_getElem hx2)
    obtain ⟨en, f1, f2, f3⟩ := entry_of I' (e' _ _ e1) hd x hx2
    have hpl : (tk ++ ": " ++ tv).length = tk.length + 2 + tv.length := by
      rw [strLen_append, strLen_append]; rfl
    have hp1 := piled_take_succ hp
    have hp2 := piled_take_le ps (x + 1)
    rw [hpl] at hp1
    refine wpAny_bind (wpAny_dictEntries (got I' e') hd ?_)
    rw [f1]
    refine wpAny_bind (wpAny_holding (wpAny_bind (wpAny_mono (rk _ _ pins s' σ H' en.key (bs + piled (ps.take x) + 1) (x1.ext e') sb hg' gd.cons I' f2 (by omega)) (fun r2 s2 h2 => ?_) fun _ _ z => z)))
    obtain ⟨rfl, H2, I2, e2⟩ := h2
    refine wpAny_bind (wpAny_mono (rv _ _ pins s2 σ H2 en.val (bs + piled (ps.take x) + (r2.length + 3)) (x1.ext (e'.trans e2)) sb hg' gd.cons I2 f3 (by omega)) (fun r3 s3 h3 => ?_) fun _ _ z => z)
    obtain ⟨rfl, H3, I3, e3⟩ := h3
    have e13 := (e'.trans e2).trans e3
    refine wpAny_pure ?_
    refine wpAny_bind (wpAny_dictEpoch (got I3 e13) hd ?_)
    rw [if_neg (by simp)]
    have g1 : (ps.take x).toArray.push (r2 ++ ": " ++ r3) = (ps.take (x + 1)).toArray := by
      rw [List.take_add_one, hp]
      simp
    have g2 : bs + piled (ps.take x) + (r2.length + r3.length + 4) = bs + piled (ps.take (x + 1)) := by omega
    refine wpAny_pure ⟨x + 1, H3, hrest, hlt, ?_, I3, e13⟩
    rw [g1, g2]
  · rintro _ s' ⟨i, H', hr, hi, rfl, I', e'⟩
    have hin : i = es.size := by
      rcases Nat.lt_or_ge i es.size with h | h
      · have e : es.size - i = (es.size - (i + 1)) + 1 := by omega
        rw [e, List.range'_succ] at hr; exact nomatch hr
      · exact Nat.le_antisymm hi h
    rw [hin, ← hlen, List.take_length]
    refine wpAny_bind (wpAny_mkStr (wpAny_pure ?_) (by simpa [dictText] using hsz0))
    have h1 := fin (.str (dictText ps) s'.toks) { s' with toks := s'.toks + 1 } ⟨_, rfl, back (I'.tok _) e'⟩
    simpa [dictText] using h1
theorem w_dct {args : Args} : (Code.builtin "dict.__repr__" args).weight ≤ 1 := by
  first | exact Nat.le_refl _ | simp [Code.weight, Code.isCreation, Code.isGuard, Code.isCaller, Code.frames, Code.isFrame, guardIds]
theorem w_dctU {args : Args} : (Code.builtin "dict.__repr__.under" args).weight ≤ 1 := by
  first | exact Nat.le_refl _ | simp [Code.weight, Code.isCreation, Code.isGuard, Code.isCaller, Code.frames, Code.isFrame, guardIds]
theorem RpU.dct (ha : H0 a = some (.dK kvs)) (na : a ∉ outs) (hT : RpEnt X n (a :: outs) H0 kvs ps) : RpU X (n + 1) outs H0 (.ref a) (dictText ps) := fun A g pins s σ H u bs x sb hg gd I r hb => by
  cases (show u = Value.ref a from r)
  have ea := x a _ ha na
  have mu : Mut (some (HO.dK kvs)) := trivial
  obtain ⟨o, I1⟩ := I.lock ea mu
  obtain ⟨_, hget, hex, _⟩ := I1.frzK (upd_same : (upd H a (.frz o (.dK kvs))) a = _)
  refine wpAny_pyReprUnder_ref (by omega) (wpAny_pyReprObjUnder_twin (twin := "dict.__repr__.under") ⟨o, hget, hex.1⟩ F.slot_dict_repr rfl sb.room.units0
    (call_twin_own (F.quiet_dict_repr_under _) F.entry_dict_repr_under F.check_dict_repr_under ⟨o, hget, hex.1⟩ F.slot_dict_repr (F.args_dict_repr_1 _)
      (dct_at (isGuard_dict_repr_under _) (sub_code sb w_dctU e_b (units_under_dict_repr_under _ _)) hg gd I ea na x hT hb fun v s' h => ?_)))
  obtain ⟨tk, rfl, h⟩ := h
  exact ⟨⟨_, _, rfl⟩, _, _, rfl, rfl, h⟩
/-- repr of a list, of a dict, where no repr is under way -/
def rReprL (X : Cx) (n : Nat) : List V → Hp → VK → Prop := fun ys H Q => ∃ (a : Addr) (xs : List V) (ts : List Str), ys = [.ref a] ∧ H a = some (.lst xs) ∧ xs ≠ [] ∧ RpAll X n [a] H xs ts ∧ (listText ts).length ≤ sizeLine ∧ ∀ H', Ext H H' → Q (.str (listText ts)) H'
theorem call_reprL (hgd : X.A.guards = some []) (hr : Room (n + 2) X.A) : CallR X (.builtin "repr") (rReprL X n) := by
  intro pins s σ H ys us Q I r h
  obtain ⟨a, xs, ts, rfl, ea, hx, hT, hb, q⟩ := h
  obtain ⟨u, rfl, ru⟩ := r.one
  cases (show u = Value.ref a from ru)
  obtain ⟨_, its, m, rv, lv, e⟩ := I.lstM ea
  have sb : Sub X (n + 1) X.A.in1 := ⟨hr.in1, rfl⟩
  refine call_repr_slot (by have := hr.un; omega) ⟨_, e, rfl⟩ F.slot_list_repr.toG ?_
  refine wpAny_call (codeAny_call_builtin F.slot_list_repr.plain F.entry_list_repr (F.slot_list_repr.check _ _ _ _ _ _ _ _ ⟨_, e, rfl⟩ (F.args_list_repr_1 _)
    (list_at (outs := []) (H0 := H) (bs := 0) sb hgd Gd.nil I ea (by simp) (Ex.refl _ _) hx hT (by omega) fun v s' h => ?_)))
  obtain ⟨tk, rfl, H', I', e⟩ := h
  exact ⟨_, _, rfl, .str _, H', I', ⟨_, rfl⟩, q H' e⟩
def rReprDc (X : Cx) (n : Nat) : List V → Hp → VK → Prop := fun ys H Q => ∃ (a : Addr) (kvs : List (Key × V)) (ps : List Str), ys = [.ref a] ∧ H a = some (.dK kvs) ∧ RpEnt X n [a] H kvs ps ∧ (dictText ps).length ≤ sizeLine ∧ ∀ H', Ext H H' → Q (.str (dictText ps)) H'
theorem call_reprDc (hgd : X.A.guards = some []) (hr : Room (n + 2) X.A) : CallR X (.builtin "repr") (rReprDc X n) := by
  intro pins s σ H ys us Q I r h
  obtain ⟨a, kvs, ps, rfl, ea, hT, hb, q⟩ := h
  obtain ⟨u, rfl, ru⟩ := r.one
  cases (show u = Value.ref a from ru)
  have mu : Mut (some (HO.dK kvs)) := trivial
  obtain ⟨o, I1⟩ := I.lock ea mu
  obtain ⟨_, hget, hex, _⟩ := I1.frzK (upd_same : (upd H a (.frz o (.dK kvs))) a = _)
  have sb : Sub X (n + 1) X.A.in1 := ⟨hr.in1, rfl⟩
  refine call_repr_slot (by have := hr.un; omega) ⟨o, hget, hex.1⟩ F.slot_dict_repr ?_
  refine wpAny_call (codeAny_call_builtin_own (Code.quiet_builtin _ (by decide +kernel)) F.entry_dict_repr (F.slot_dict_repr.check _ _ _ _ _ _ _ _ ⟨o, hget, hex.1⟩ (F.args_dict_repr_1 _)
    (dct_at (outs := []) (H0 := H) (bs := 0) (isGuard_dict_repr _) (sub_code sb w_dct e_b (units_under_dict_repr _ _)) hgd Gd.nil I ea (by simp) (Ex.refl _ _) hT (by omega) fun v s' h => ?_)))
  obtain ⟨tk, rfl, H', I', e⟩ := h
  exact ⟨_, _, rfl, .str _, H', I', ⟨_, rfl⟩, q H' e⟩
end
end RPO
set_option Elab.async false
set_option linter.all false
set_option maxRecDepth 100000
set_option maxHeartbeats 4000000
/-! SRI: sorted(d.items()), d a dict of whole numbers by texts. -/
namespace SRI
open PySem PySem.Spec PyProof.Rows L2
open L2.DX (itemsO)
/-- the view of a plain dict's items -/
def rItemsK : V → List V → Hp → VK → Prop := fun x xs H Q => ∃ (a : Addr) (kvs : List (Key × V)), x = .ref a ∧ xs = [] ∧ H a = some (.dK kvs) ∧ ∀ p, H p = none → Q (.ref p) (upd H p (itemsO p a))
theorem mt_itemsK {X : Cx} : MtR X "dict.items" rItemsK := by
  intro pins s σ H x xs v us Q I rx rxs hh
  obtain ⟨a, kvs, rfl, rfl, ha, q⟩ := hh
  cases rx
  cases rxs
  obtain ⟨hlen, hsys, vs, rel, dof⟩ := dk_of I.hok ha
  obtain ⟨ep, ob, es, ho, ex, hdat, _⟩ := dof.dictAt
  refine DT.callItems (es := es) (ep := ep) hsys ⟨ob, ho, ex, hdat⟩ ?_
  have fr : H s.heap.objs.size = none := I.hok.fresh (Nat.le_refl _)
  exact ⟨.ref s.heap.objs.size, upd H s.heap.objs.size (itemsO s.heap.objs.size a), I.laid (t' := s.toks) (fun b u e => Heap.get?_push_of_some _ e) (Nat.le_refl _) (DX.itemsO_ok (Heap.get?_push_size _ rfl)), rfl, q _ fr⟩
/-- a pair as data -/
def enP (g : Str → Int) (x : Str) : PyData := .tuple [.str x, .int (g x)]
/-- the names, sorted by the pairs -/
def srtI (L : List Str) (g : Str → Int) : List Str := L.mergeSort (PySem.W.dataLe false (enP g))
theorem srtI_perm (L : List Str) (g : Str → Int) : (srtI L g).Perm L := List.mergeSort_perm _ _
def rSortItK : List V → Hp → VK → Prop := fun vs H Q => ∃ (p a : Addr) (L : List Str) (g : Str → Int), vs = [.ref p] ∧ H p = some (itemsO p a) ∧ H a = some (.dK (L.map fun x => ((Sum.inr x : Key), V.int (g x)))) ∧
  ∀ (H' : Hp) (l : Addr) (ts : List Addr), (∀ b o, H b = some o → H' b = some o) → H l = none → H' l = some (.lst (ts.map V.ref)) → Paired (fun (t : Addr) (x : Str) => H t = none ∧ H' t = some (.tup [.str x, .int (g x)])) ts (srtI L g) → Q (.ref l) H'
theorem each_of {α β : Type} {R : α → β → Prop} : ∀ {as : List α} {bs : List β}, as.length = bs.length → (∀ (j : Nat) (x : α) (y : β), as[j]? = some x → bs[j]? = some y → R x y) → PySem.W.EachIs R as bs
  | [], [], _, _ => .nil
  | [], _ :: _, h, _ => nomatch h
  | _ :: _, [], h, _ => nomatch h
  | x :: as, y :: bs, h, f => .cons (f 0 x y rfl rfl) (each_of (Nat.succ.inj h) fun j a b e1 e2 => f (j + 1) a b (by simpa using e1) (by simpa using e2))
theorem each_map_eq {β γ : Type} {f : β → γ} : ∀ {us : List γ} {bs : List β}, PySem.W.EachIs (fun v b => v = f b) us bs → us = bs.map f
  | _, _, .nil => rfl
  | _, _, .cons e h => by rw [e, each_map_eq h]; rfl
theorem paired_of {α β : Type} {F : α → β → Prop} : ∀ (zs : List (α × β)), (∀ z ∈ zs, F z.1 z.2) → Paired F (zs.map (·.1)) (zs.map (·.2))
  | [], _ => .nil
  | z :: zs, h => .cons (h z List.mem_cons_self) (paired_of zs fun y hy => h y (List.mem_cons_of_mem _ hy))
theorem vrefs {α : Type} (f : α → Addr) : ∀ zs : List α, Vals (zs.map fun z => V.ref (f z)) (zs.map fun z => Value.ref (f z))
  | [] => .nil
  | _ :: zs => .cons rfl (vrefs f zs)
theorem cr_sortedItK {X : Cx} (hc : X.calm = true) (hu : X.A.units + 64 < cLine) : CallR X (.builtin "sorted") rSortItK := by
  intro pins s σ H xs us Q I r hh
  obtain ⟨p, a, L, g, rfl, hp, ha, q⟩ := hh
  obtain rfl := Vals.ref1 r
  have view := (show ObjOk X.prog X.w H s.heap p (itemsO p a) from I.hok p _ hp).1
  obtain ⟨hz, hsys, vs, rel, dof⟩ := dk_of I.hok ha
  obtain ⟨ep, ob, es, ho, ex, hdat, hko, hpr, hnd⟩ := dof.dictAt
  rw [List.length_map] at hz
  have l1 : L.length = vs.length := by rw [← List.length_map (f := fun x => ((Sum.inr x : Key), V.int (g x))) (as := L)]; exact Paired.length rel
  have l2 : es.size = vs.length := by rw [← Array.length_toList]; exact hpr.length
  refine DT.sortedI (es := es) (ep := ep) (I.ok.hd hc) view ⟨ob, ho, ex, hdat⟩ (by omega) fun h' tk as hk hlt hl hG => ?_
  have la : as.length = L.length := by omega
  have nd : as.Nodup := List.Pairwise.imp (fun {a b} (h : a < b) => Nat.ne_of_lt h) hG.rise
  -- what was made
  have pr : ∀ (j : Nat) (b : Addr) (x : Str), as[j]? = some b → L[j]? = some x → ∃ t1 t2, h'.get? b = some { cls := .type "tuple", data := .seq #[Value.str x t1, Value.int (g x) t2] } := by
    intro j b x hj hx
    obtain ⟨en, he, hg⟩ := hG.pairs j b hj
    obtain ⟨u, e1, e2, e3⟩ := RPO.kv_at rel j _ (by rw [List.getElem?_map, hx]; rfl)
    obtain ⟨en', f1, f2, f3⟩ := RPO.pairs_at hpr j u e1
    rw [← Array.getElem?_toList, f1] at he
    cases he
    have rk := RPO.key_rel f2
    rw [← e2] at rk
    obtain ⟨t1, ek⟩ := rk
    obtain ⟨t2, ev⟩ := e3
    refine ⟨t1, t2, ?_⟩
    rw [hg, ek, f3, ev]
  have hob : (h'.push (seqObj "list" (as.map Value.ref).toArray 0)).get? h'.objs.size = some (seqObj "list" (as.map Value.ref).toArray 0) := Heap.get?_push_size _ rfl
  have ne0 : ∀ b o, h'.get? b = some o → b ≠ h'.objs.size := fun b o e => Nat.ne_of_lt (Heap.lt_size e)
  have kb : ∀ b o, h'.get? b = some o → (h'.push (seqObj "list" (as.map Value.ref).toArray 0)).get? b = some o := fun b o e => Heap.get?_push_of_some _ e
  show wpAny _ _ _ _ _ { s with heap := h'.push (seqObj "list" (as.map Value.ref).toArray 0), toks := tk }
  generalize h'.push (seqObj "list" (as.map Value.ref).toArray 0) = h2 at hob kb ⊢
  have ix : ∀ z ∈ as.zip L, ∃ j : Nat, as[j]? = some z.1 ∧ L[j]? = some z.2 := fun z hz => by
    obtain ⟨j, hj⟩ := List.mem_iff_getElem?.mp hz
    exact ⟨j, List.getElem?_zip_eq_some.mp hj⟩
  have depth : ∀ x : Str, (enP g x).depth = 1 := fun x => by simp [enP, PyData.depth, PyData.depthAll]
  refine PySem.W.list_sort_data (s := { s with heap := h2, toks := tk }) (R := fun v (b : Addr × Str) => v = Value.ref b.1) (enc := fun b : Addr × Str => enP g b.2) (bs := as.zip L) (vs := as.map Value.ref) (n := 0) hob ?_ ?_ ?_ ?_ ?_ ?_ fun out lo eo => ?_
  · refine each_of (by simp [la]) fun j v b e1 e2 => ?_
    obtain ⟨f1, _⟩ := List.getElem?_zip_eq_some.mp e2
    rw [List.getElem?_map, f1] at e1
    exact (Option.some.inj e1).symm
  · refine each_of (by simp [la]) fun j v b e1 e2 => ?_
    obtain ⟨f1, f2⟩ := List.getElem?_zip_eq_some.mp e2
    rw [List.getElem?_map, f1] at e1
    cases (Option.some.inj e1).symm
    obtain ⟨t1, t2, e⟩ := pr j b.1 b.2 f1 f2
    exact ⟨[], .tuple (kb _ _ e) rfl rfl (.cons (.str _ _) (.cons (.int _ _) .nil)), by simp⟩
  · refine PySem.W.AllAlike.of fun b b' => ?_
    simp [enP, PySem.W.alike, PySem.W.alikeAll]
  · exact PySem.W.Sortable.tuples fun b => ⟨_, _, rfl⟩
  · rw [List.length_zip]
    omega
  · intro b _
    show X.A.units + 1 + 1 + (enP g b.2).depth < cLine
    rw [depth]
    omega
  -- behind the sort
  have e1 := each_map_eq eo
  have hzs : ((as.zip L).mergeSort (PySem.W.dataLe false fun b : Addr × Str => enP g b.2)).map (·.2) = srtI L g := by
    have m := List.map_mergeSort (r := PySem.W.dataLe false fun b : Addr × Str => enP g b.2) (s := PySem.W.dataLe false (enP g)) (f := fun z : Addr × Str => z.2) (l := as.zip L) (fun a _ b _ => rfl)
    rw [List.map_snd_zip (by omega)] at m
    exact m
  have pz : ((as.zip L).mergeSort (PySem.W.dataLe false fun b : Addr × Str => enP g b.2)).Perm (as.zip L) := List.mergeSort_perm _ _
  generalize (as.zip L).mergeSort (PySem.W.dataLe false fun b : Addr × Str => enP g b.2) = zs at e1 hzs pz
  have kF : ∀ b o, b ≠ h'.objs.size → h2.get? b = some o → (sortedHeap h2 h'.objs.size (as.map Value.ref) out.toArray).get? b = some o := fun b o hb e => (PyProof.Rows.sortedHeap_old hb (Heap.lt_size e)).trans e
  have kS : ∀ b o, s.heap.get? b = some o → (sortedHeap h2 h'.objs.size (as.map Value.ref) out.toArray).get? b = some o := fun b o e => kF b o (ne0 _ _ (hk b o e)) (kb _ _ (hk b o e))
  obtain ⟨eF, heF⟩ := PyProof.Rows.sortedHeap_at (vs := as.map Value.ref) (out := out.toArray) hob
  have I1 : Inv X pins σ H { s with heap := sortedHeap h2 h'.objs.size (as.map Value.ref) out.toArray, toks := tk } := I.kept (t' := tk) kS
  have n0 : H h'.objs.size = none := I.hok.fresh (Nat.le_of_lt hlt)
  have lz : (zs.map fun z => V.ref z.1).length ≤ sizeLine := by
    have := pz.length_eq
    rw [List.length_zip] at this
    rw [List.length_map]
    omega
  have rv : Vals (zs.map fun z => V.ref z.1) out := by
    rw [e1]
    exact vrefs (·.1) zs
  have I2 : Inv X pins σ (upd H h'.objs.size (.lst (zs.map fun z => V.ref z.1))) { s with heap := sortedHeap h2 h'.objs.size (as.map Value.ref) out.toArray, toks := tk } :=
    I1.take (h' := sortedHeap h2 h'.objs.size (as.map Value.ref) out.toArray) (t' := tk) (fun b ob _ e => e) (I.fpOk (Nat.le_of_lt hlt) n0) ⟨lz, out, eF, rv, heF⟩
  obtain ⟨H2, I3, gr, qt⟩ := DX.takeT (P := fun b ws => ∃ (j : Nat) (x : Str), as[j]? = some b ∧ L[j]? = some x ∧ ws = [.str x, .int (g x)]) I as _ I2 nd fun b hb => by
    obtain ⟨j, hj⟩ := List.mem_iff_getElem?.mp hb
    obtain ⟨x, hx⟩ : ∃ x, L[j]? = some x := ⟨_, List.getElem?_eq_getElem (by rw [← la]; exact (List.getElem?_eq_some_iff.mp hj).1)⟩
    obtain ⟨t1, t2, hg⟩ := pr j b x hj hx
    have hbl : s.heap.objs.size ≤ b := Nat.le_of_lt (hG.above b hb)
    refine ⟨hbl, ?_, [.str x, .int (g x)], ⟨j, x, hj, hx, rfl⟩, fun H3 => ⟨(by rw [sizeLine_eq]; show 2 ≤ 16777216; omega), [Value.str x t1, Value.int (g x) t2], .cons ⟨_, rfl⟩ (.cons ⟨_, rfl⟩ .nil), ⟨_, kF _ _ (ne0 _ _ hg) (kb _ _ hg), rfl, 0, rfl⟩⟩⟩
    rw [upd_ne (ne0 _ _ hg)]
    exact I.hok.fresh hbl
  have grH : ∀ b o, H b = some o → H2 b = some o := fun b o e => gr b o (by rw [upd_ne (ne_of_none e n0)]; exact e)
  refine ⟨.ref h'.objs.size, H2, I3, rfl, q H2 h'.objs.size (zs.map (·.1)) grH n0 (by rw [List.map_map]; exact gr _ _ upd_same) ?_⟩
  rw [← hzs]
  refine paired_of zs fun z hz => ?_
  obtain ⟨i, i1, i2⟩ := ix z (pz.mem_iff.mp hz)
  obtain ⟨ws, ⟨j, x, j1, j2, ev⟩, hH⟩ := qt z.1 (List.mem_of_getElem? i1)
  have eij : i = j := (List.getElem?_inj (List.getElem?_eq_some_iff.mp i1).1 nd).mp (i1.trans j1.symm)
  subst eij
  have ee : x = z.2 := Option.some.inj (j2.symm.trans i2)
  rw [ev, ee] at hH
  exact ⟨I.hok.fresh (Nat.le_of_lt (hG.above z.1 (List.mem_of_getElem? i1))), hH⟩
end SRI
set_option Elab.async false
set_option linter.all false
set_option maxRecDepth 100000
set_option maxHeartbeats 4000000
/-! SDC: a dict comprehension assigned to a plain local on one line; a dict comprehension over a list. -/
namespace SDC
open PySem PySem.Spec PyProof.Rows L2
section
variable {X : Cx}
theorem ps_setDc {i : Nat} {y : Str} {py : Pos} {kx vx tg iter : Expr} {ifs : List Expr} {scope : Scope} {own : List (Str × Nat)} {pos spos : Pos} {wi : TI} {g : TG} {tt : TT} {tk tv : TE} (hc : X.calm = true) (hN : X.N.Nodup) (hy : X.N[i]? = some y) (hyl : X.env.scope.names.lookup y = some .local)
    (hsw : swapsWith (.DictComp kx vx [⟨tg, iter, ifs, 0⟩] scope pos) (some (.Name y py)) spos.line X.env = pure true) (hi : PI X tg iter wi) (ok : BlkOk X.N X.env.scope scope own)
    (hg : ∀ (s : Shared) (H : Hp) (C : Addr) (cl : List (Str × Addr)) (fp : List Addr), PG (X.blk s H scope (compEnvC scope cl C X.env) fp) tg g) (ht : ∀ (s : Shared) (H : Hp) (C : Addr) (cl : List (Str × Addr)) (fp : List Addr), PTs (X.blk s H scope (compEnvC scope cl C X.env) fp) ifs tt)
    (hk : ∀ (s : Shared) (H : Hp) (C : Addr) (cl : List (Str × Addr)) (fp : List Addr), PE (X.blk s H scope (compEnvC scope cl C X.env) fp) kx tk)
    (he : ∀ (s : Shared) (H : Hp) (C : Addr) (cl : List (Str × Addr)) (fp : List Addr), PE (X.blk s H scope (compEnvC scope cl C X.env) fp) vx tv) (hs : ∀ x, foldedSetIterable iter X.env x = pure x := by intro _; rfl) :
    PS X (.Assign [.Name y py] (.DictComp kx vx [⟨tg, iter, ifs, 0⟩] scope pos) spos) (tAsg (tDc wi g tt tk tv (own.map (·.2))) (gName i)) := by
  refine ⟨fun pins s σ H D I h => ?_⟩
  rw [exec_Assign_Name_used _ _ _ _ hsw]
  refine wpAny_bind (wpAny_standAt (wpAny_bind ?_))
  show wpAny _ X.A (do let _ ← comprehension (.DictComp kx vx [⟨tg, iter, ifs, 0⟩] scope pos) scope X.env (firstIterPos [⟨tg, iter, ifs, 0⟩] pos) newDict false (eval iter X.env) (some (assign (.Name y py) X.env))) _ _ s
  have h : tDc wi g tt tk tv (own.map (·.2)) σ H (fun x H1 => gName i x σ H1 D.nx) := h
  refine wpAny_bind (thn (dc_core (Qf := fun _ s' => SP X pins D .next s') hc hN I hi ok hg ht hk he hs h fun L C s' m H' I' q hn f => ?_) fun _ s' hq => wpAny_pure (wpAny_pure hq))
  show wpAny _ _ (assign (.Name y py) X.env (.ref L)) _ _ _
  refine wpAny_assign_Name (store_ok2 (v := V.ref L) I' hN hy (.inl hyl) rfl (fun s2 I2 ⟨a, sb, ha⟩ => ?_) (.inr hyl))
  obtain ⟨f0, f1, f2, f3, f4, f5⟩ := f
  have haC : C ≠ a := by
    rcases ha with z | z
    · rw [z]; exact f1
    · exact fun e => f4 y a z e.symm
  refine ⟨m, hn.sameBut sb haC, fun h3 sb3 => ?_⟩
  exact ⟨_, H', I2.turned (t' := s2.toks) (fun b o hb e => (sb3.2 b hb).trans e) f0 f1 f3 f4 f5, q⟩
theorem sw_true {kx vx : Expr} {gs : List Comprehension} {scope : Scope} {pos py : Pos} {y : Str} {l : Nat} {env : Env} (hk : env.scope.kind = .function) (hy : env.scope.names.lookup y = some .local) (hl : (py.line == pos.line) = true)
    (ha : (scope.names.any fun (n, k) => n == y && (k == .local || k == .cell)) = false) : swapsWith (.DictComp kx vx gs scope pos) (some (.Name y py)) l env = pure true := by
  have ky : env.kindOf y = some .local := hy
  have hb : env.blockKind = .function := by unfold Env.blockKind; rw [hk]; rfl
  unfold swapsWith
  simp only [hb, ky, ha, Expr.pos, hl]
  rfl
end
theorem dc_list {K : PySem.W.Frag} {a : Addr} {xs : List V} {g : TG} {tt : TT} {tk tv : TE} {vs : List Nat} {σ : L2.St} {H1 : Hp} {D : Addr} {Qd : Hp → Prop} (Pv : Nat → Hp → Prop) (h0 : Pv 0 (upd H1 D (.dK []))) (hl : ∀ i H, i ≤ xs.length → Pv i H → SqL K H a xs)
    (hs : ∀ i x H, xs[i]? = some x → Pv i H → g x (wipe σ vs) H fun σ2 H2 => wipe σ2 vs = wipe σ vs ∧ tt σ2 H2 fun b H3 =>
      if b = true then tk σ2 H3 fun y H4 => tv σ2 H4 fun z H5 => ∃ kvs k, y = kV k ∧ H5 D = some (.dK kvs) ∧ kvs.length < sizeLine ∧ Pv (i + 1) (upd H5 D (.dK (putK kvs k z))) else Pv (i + 1) H3) (hd : ∀ H, Pv xs.length H → Qd H) :
    ∃ W : Nat → Nat → Hp → Prop, (∃ m, W 0 m (upd H1 D (.dK []))) ∧ ∀ i m H, W i m H →
      ((Itl K a).stop i H ∧ Qd H) ∨ ((Itl K a).go i H ∧ ∃ Nx : Hp → Prop, (∀ H', Nx H' → ∃ m', m' < m ∧ W (i + 1) m' H') ∧ ∀ x H', (Itl K a).yld i H x H' → g x (wipe σ vs) H' fun σ2 H2 => wipe σ2 vs = wipe σ vs ∧ tt σ2 H2 fun b H3 =>
        if b = true then tk σ2 H3 fun y H4 => tv σ2 H4 fun z H5 => ∃ kvs k, y = kV k ∧ H5 D = some (.dK kvs) ∧ kvs.length < sizeLine ∧ Nx (upd H5 D (.dK (putK kvs k z))) else Nx H3) := by
  refine ⟨fun i m H => m = xs.length - i ∧ i ≤ xs.length ∧ Pv i H, ⟨xs.length, by simp, Nat.zero_le _, h0⟩, ?_⟩
  rintro i m H ⟨rfl, hi, p⟩
  have q := hl i H hi p
  by_cases hlt : i < xs.length
  · refine .inr ⟨⟨xs, xs[i], q, by simp [hlt]⟩, Pv (i + 1), fun H' p' => ⟨xs.length - (i + 1), by omega, rfl, hlt, p'⟩, fun x H' y => ?_⟩
    obtain ⟨e, y⟩ := y
    subst e
    exact hs i x _ (y xs q) p
  · have e : i = xs.length := by omega
    subst e
    exact .inl ⟨⟨xs, q, Nat.le_refl _⟩, hd H p⟩
/-- a row that is put anew comes from one of the row -/
theorem perm_inv {α β : Type} {f : α → β} : ∀ {l' z : List β}, l'.Perm z → ∀ {l : List α}, l.map f = z → ∃ m : List α, m.Perm l ∧ l' = m.map f := by
  intro l' z h
  induction h with
  | nil =>
    intro l e
    cases l with
    | nil => exact ⟨[], .nil, rfl⟩
    | cons _ _ => cases e
  | cons x h ih =>
    intro l e
    cases l with
    | nil => cases e
    | cons a as =>
      simp only [List.map_cons, List.cons.injEq] at e
      obtain ⟨m, p, rfl⟩ := ih e.2
      exact ⟨a :: m, p.cons a, by rw [List.map_cons, e.1]⟩
  | swap x y t =>
    intro l e
    match l, e with
    | a :: b :: t', e =>
      simp only [List.map_cons, List.cons.injEq] at e
      obtain ⟨e1, e2, e3⟩ := e
      exact ⟨b :: a :: t', List.Perm.swap _ _ _, by rw [List.map_cons, List.map_cons, e1, e2, e3]⟩
  | trans h1 h2 ih1 ih2 =>
    intro l e
    obtain ⟨m2, p2, e2⟩ := ih2 e
    obtain ⟨m1, p1, e1⟩ := ih1 e2.symm
    exact ⟨m1, p1.trans p2, e1⟩
end SDC
set_option Elab.async false
set_option linter.all false
set_option maxRecDepth 100000
set_option maxHeartbeats 4000000
/-! SPR: sorted lists of pairs of a text and a whole number; of dict.items() too: both stand by the texts. -/
namespace SPR
open PySem PySem.Spec PyProof.Rows L2
open SRT (leS)
def pD (x : Str × Int) : PyData := .tuple [.str x.1, .int x.2]
theorem leS_refl (x : Str) : leS x x := fun h => absurd h (List.lt_irrefl _)
theorem le_names {x y : Str × Int} (h : PySem.W.dataLt (pD y) (pD x) = false) : leS x.1 y.1 := by
  by_cases e : x.1 = y.1
  · rw [e]
    exact leS_refl _
  · unfold pD at h
    rw [PySem.W.dataLt_tuple] at h
    have al : PySem.W.alike (.str y.1) (.str x.1) = true := by simp [PySem.W.alike]
    have ne : PyData.eqv (.str y.1) (.str x.1) = false := by
      simp only [PyData.eqv]
      simp
      exact fun z => e z.symm
    rw [PySem.W.dataLt_all_no al ne, PySem.W.dataLt_str] at h
    simpa [leS] using h
theorem srtI_pw (L : List Str) (g : Str → Int) : (SRI.srtI L g).Pairwise leS := by
  have tot := PySem.W.sortLe_total (listOrd itemOrd) false (fun b : Str => PySem.W.keyToks (SRI.enP g b))
  have pw := PySem.W.sort_pairwise tot L
  have pw' : (SRI.srtI L g).Pairwise fun a b => PySem.W.dataLe false (SRI.enP g) a b = true := pw
  refine pw'.imp fun {a b} h => ?_
  have h' : (!PySem.W.dataLt (SRI.enP g b) (SRI.enP g a)) = true := h
  exact le_names (x := (a, g a)) (y := (b, g b)) (by simpa [pD, SRI.enP] using h')
theorem srtP {α : Type} (g : α → V) (p : α → Str × Int) (l : List α) : ∃ l' : List α, SRT.srt (l.map g) (l.map fun a => pD (p a)) = l'.map g ∧ l'.Perm l ∧ (l'.map fun a => (p a).1).Pairwise leS := by
  have tot := PySem.W.sortLe_total (listOrd itemOrd) false (fun p : V × PyData => PySem.W.keyToks p.2)
  have pw := PySem.W.sort_pairwise tot ((l.map g).zip (l.map fun a => pD (p a)))
  have pm := List.mergeSort_perm ((l.map g).zip (l.map fun a => pD (p a))) SRT.leD
  have pw' : (((l.map g).zip (l.map fun a => pD (p a))).mergeSort SRT.leD).Pairwise fun a b => SRT.leD a b = true := pw
  unfold SRT.srt
  generalize ((l.map g).zip (l.map fun a => pD (p a))).mergeSort SRT.leD = L at pm pw'
  rw [List.zip_map'] at pm
  obtain ⟨l', p1, rfl⟩ := SDC.perm_inv pm (l := l) rfl
  refine ⟨l', by rw [List.map_map]; rfl, p1, List.pairwise_map.mpr ((List.pairwise_map.mp pw').imp fun {a b} h => ?_)⟩
  have h' : (!PySem.W.dataLt (pD (p b)) (pD (p a))) = true := h
  exact le_names (by simpa using h')
section
variable {X : Cx}
theorem dp_ps {K : PySem.W.Frag} {H : Hp} : ∀ {rs : List (Addr × Str × Int)}, (∀ r ∈ rs, H r.1 = some (.tup [.str r.2.1, .int r.2.2])) → DpAll K H (rs.map fun r => V.ref r.1) (rs.map fun r => pD r.2)
  | [], _ => .nil
  | r :: rs, h => .cons (.tup (SqT.of (h r List.mem_cons_self)) (.cons (.str _) (.cons (.int _) .nil))) (dp_ps fun q hq => h q (List.mem_cons_of_mem _ hq))
def rSortedPr (K : PySem.W.Frag) : List V → Hp → VK → Prop := fun vs H Q => ∃ (a : Addr) (rs : List (Addr × Str × Int)), vs = [V.ref a] ∧ SqL K H a (rs.map fun r => V.ref r.1) ∧ (∀ r ∈ rs, H r.1 = some (.tup [.str r.2.1, .int r.2.2])) ∧
  ∀ (rs' : List (Addr × Str × Int)) (p : Addr), rs'.Perm rs → (rs'.map fun r => r.2.1).Pairwise leS → H p = none → Q (.ref p) (upd H p (.lst (rs'.map fun r => V.ref r.1)))
theorem cr_sortedPr (hu : X.A.units + 64 < cLine) : CallR X (.builtin "sorted") (rSortedPr X.K) := by
  intro pins s σ H vs us Q I r h
  obtain ⟨a, rs, rfl, hs, hp, q⟩ := h
  obtain ⟨rs', e, pm, pw⟩ := srtP (fun r : Addr × Str × Int => V.ref r.1) (fun r => r.2) rs
  refine SRT.cr_sortedD hu pins s σ H _ us Q I r ⟨a, _, rs.map fun r => pD r.2, rfl, .inl hs, dp_ps hp, fun d h1 d' h2 => ?_, .inl fun d h1 => ?_, fun d h1 => ?_, fun p fp => ?_⟩
  · obtain ⟨x, _, rfl⟩ := List.mem_map.mp h1
    obtain ⟨y, _, rfl⟩ := List.mem_map.mp h2
    show PySem.W.alike (.tuple _) (.tuple _) = true
    simp [PySem.W.alike, PySem.W.alikeAll]
  · obtain ⟨x, hx, rfl⟩ := List.mem_map.mp h1
    exact ⟨.str x.2.1, [.int x.2.2], rfl⟩
  · obtain ⟨x, _, rfl⟩ := List.mem_map.mp h1
    have : (pD x.2).depth = 1 := by simp [pD, PyData.depth, PyData.depthAll]
    omega
  · rw [e]
    exact q rs' p pm pw fp
end
end SPR
set_option Elab.async false
set_option linter.all false
set_option maxRecDepth 100000
set_option maxHeartbeats 4000000
/-! SD: small data (short texts, ints below a million and a bit, lists and tuples of such): what repr and == ask of it. -/
namespace SD
open PySem PySem.Spec PyProof.Rows L2
/-- small: its weight at most n, its depth at most k -/
structure Sm (n k : Nat) (d : PyData) : Prop where
  sh : d.showable = true
  nd : d.hasDict = false
  dp : d.depth ≤ k
  ls : d.leavesShort 13 = true
  wt : d.weight ≤ n
  cl : d.canLay0 = true
structure SmA (n k : Nat) (ds : List PyData) : Prop where
  sh : PyData.showableAll ds = true
  nd : PyData.hasDictAll ds = false
  dp : PyData.depthAll ds ≤ k
  ls : PyData.leavesShortAll 13 ds = true
  wt : PyData.weightAll ds ≤ n
  cl : PyData.canLayAll0 ds = true
theorem Sm.mono {n n' k k' : Nat} {d : PyData} (h : Sm n k d) (hn : n ≤ n') (hk : k ≤ k') : Sm n' k' d := ⟨h.sh, h.nd, Nat.le_trans h.dp hk, h.ls, Nat.le_trans h.wt hn, h.cl⟩
theorem SmA.mono {n n' k k' : Nat} {ds : List PyData} (h : SmA n k ds) (hn : n ≤ n') (hk : k ≤ k') : SmA n' k' ds := ⟨h.sh, h.nd, Nat.le_trans h.dp hk, h.ls, Nat.le_trans h.wt hn, h.cl⟩
theorem Sm.int {i : Int} (h : i.natAbs < 2 ^ 20) : Sm 20 0 (.int i) := by
  have h1 : i.natAbs.log2 < 20 := by
    by_cases z : i.natAbs = 0
    · rw [z]; decide
    · exact (Nat.log2_lt z).mpr h
  refine ⟨by simp only [PyData.showable]; exact decide_eq_true (by omega), by simp only [PyData.hasDict], by simp only [PyData.depth]; omega, ?_, ?_, by simp only [PyData.canLay0]⟩
  · simp only [PyData.leavesShort]
    exact decide_eq_true (PyData.shown_int_le (Nat.lt_of_lt_of_le h (by decide)))
  · simp only [PyData.weight]
    split <;> omega
theorem Sm.str {x : Str} {n : Nat} (h : PyData.strOk x = true) (hn : x.length ≤ n) : Sm n 0 (.str x) := by
  have hn' : x.cps.size ≤ n := hn
  have hc : x.cps.toList.all (fun c => decide (c < 16 ^ 8)) = true := by
    unfold PyData.strOk at h
    rw [← Array.all_toList, List.all_eq_true] at h
    rw [List.all_eq_true]
    intro c hc
    have := of_decide_eq_true (h c hc)
    exact decide_eq_true (by omega)
  exact ⟨by simp only [PyData.showable], by simp only [PyData.hasDict], by simp only [PyData.depth]; omega, by simp only [PyData.leavesShort]; exact hc, by simp only [PyData.weight]; exact hn', by simp only [PyData.canLay0]; exact h⟩
theorem SmA.nil {k : Nat} : SmA 0 k [] := ⟨by simp only [PyData.showableAll], by simp only [PyData.hasDictAll], by simp only [PyData.depthAll]; omega, by simp only [PyData.leavesShortAll], by simp only [PyData.weightAll]; omega, by simp only [PyData.canLayAll0]⟩
theorem SmA.cons {n m k : Nat} {d : PyData} {ds : List PyData} (a : Sm n k d) (b : SmA m k ds) : SmA (n + 1 + m) k (d :: ds) := by
  refine ⟨by simp only [PyData.showableAll, a.sh, b.sh, Bool.and_self], by simp only [PyData.hasDictAll, a.nd, b.nd, Bool.or_self], ?_, by simp only [PyData.leavesShortAll, a.ls, b.ls, Bool.and_self], ?_, by simp only [PyData.canLayAll0, a.cl, b.cl, Bool.and_self]⟩
  · simp only [PyData.depthAll]
    have := a.dp
    have := b.dp
    omega
  · simp only [PyData.weightAll]
    have := a.wt
    have := b.wt
    omega
theorem SmA.map {α : Type} {n k : Nat} {g : α → PyData} : ∀ {xs : List α}, (∀ x ∈ xs, Sm n k (g x)) → SmA ((n + 1) * xs.length) k (xs.map g)
  | [], _ => SmA.nil.mono (Nat.zero_le _) (Nat.le_refl _)
  | x :: xs, h => by
    refine (SmA.cons (h x List.mem_cons_self) (SmA.map fun y hy => h y (List.mem_cons_of_mem _ hy))).mono ?_ (Nat.le_refl _)
    rw [List.length_cons, Nat.mul_add]
    omega
theorem Sm.lst {n k : Nat} {ds : List PyData} (a : SmA n k ds) : Sm n (k + 1) (.list ds) :=
  ⟨by simp only [PyData.showable]; exact a.sh, by simp only [PyData.hasDict]; exact a.nd, by simp only [PyData.depth]; have := a.dp; omega, by simp only [PyData.leavesShort]; exact a.ls, by simp only [PyData.weight]; exact a.wt, by simp only [PyData.canLay0]; exact a.cl⟩
theorem Sm.tup {n k : Nat} {ds : List PyData} (a : SmA n k ds) : Sm n (k + 1) (.tuple ds) :=
  ⟨by simp only [PyData.showable]; exact a.sh, by simp only [PyData.hasDict]; exact a.nd, by simp only [PyData.depth]; have := a.dp; omega, by simp only [PyData.leavesShort]; exact a.ls, by simp only [PyData.weight]; exact a.wt, by simp only [PyData.canLay0]; exact a.cl⟩
theorem Sm.shown {n k : Nat} {d : PyData} (a : Sm n k d) (h : 15 * n + 13 ≤ sizeLine) : d.shown.length ≤ sizeLine := by
  have := PyData.shown_le 13 (by decide) d a.ls
  have := a.wt
  omega
theorem Sm.shaped {n k : Nat} {d : PyData} (a : Sm n k d) (h : k ≤ 64) : SeqAt.shaped d = true := by
  simp only [SeqAt.shaped, a.cl, Bool.true_and]
  exact decide_eq_true (Nat.le_trans a.dp h)
theorem Sm.same {n k : Nat} {d : PyData} (a : Sm n k d) : PyData.eqv d d = true := PySem.SeqAt.eqv_refl d a.cl
theorem Sm.four {n k : Nat} {d : PyData} (a : Sm n k d) (hn : 15 * n + 13 ≤ sizeLine) (hk : k ≤ 60) : d.showable = true ∧ d.hasDict = false ∧ d.depth ≤ 60 ∧ d.shown.length ≤ sizeLine :=
  ⟨a.sh, a.nd, Nat.le_trans a.dp hk, a.shown hn⟩
end SD
set_option Elab.async false
set_option linter.all false
set_option maxRecDepth 100000
set_option maxHeartbeats 4000000
/-! GE: a law's end by a promise that is asked only where no repr is under way. -/
namespace GL
open PySem PySem.Spec PyProof.Rows L2
theorem lawG {P : Program} {w : World} {K : PySem.W.Frag} {mg mb : Str → Option Value} {k : Nat} {fa a : Addr} {fd : FuncData} {x : Str} {sp : Sp} {s₁ : Shared} {vs : List Value} {ns : List Int}
    (KX : K.In s₁.heap) (hns : s₁.heap.Ns mainGlobals mg) (hb : s₁.heap.Ns builtinsNs mb) (hbb : ∀ x : Str, x ≠ "__name__" → mb x = bootBuiltins x) (hlim : s₁.heap.NoLimit) (hg : s₁.gens = #[])
    (ha : s₁.heap.get? a = some { cls := .type "list", data := .seq vs.toArray }) (hi : IntsAre vs ns) (hl : ns.length ≤ sizeLine) (hr : Room k callerA)
    (F : ∀ base : Heap, K.In base → base.Ns mainGlobals mg → FnG P w K mg base k fa fd [x] sp) (hbind : ∀ (s : Shared) (u : Value), BindsTo s fd ⟨[u], []⟩ [(x, u)])
    (hsp : ∀ H : Hp, SqL K H a (ns.map V.int) → sp [.ref a] H (fun v _ => v = .bl true) fun _ _ _ => False) :
    codeAny (model P w) callerA (.call (.ref fa) ⟨[.ref a], []⟩) (fun r s' => r = .ok (.ret (.bool true)) ∧ OldK s₁.heap s'.heap ∧ s'.os = s₁.os ∧ AllBare s'.gens) s₁ := by
  -- the script alone is tracked, as it is, or nothing
  have from_ : ∀ H : Hp, SqL K H a (ns.map V.int) → HOk P w H s₁.heap → (∀ b u, H b = some u → b = a ∧ K.lookup a = none ∧ ∃ o xs, u = .frz o (.lst xs)) →
      codeAny (model P w) callerA (.call (.ref fa) ⟨[.ref a], []⟩) (fun r s' => r = .ok (.ret (.bool true)) ∧ OldK s₁.heap s'.heap ∧ s'.os = s₁.os ∧ AllBare s'.gens) s₁ := by
    intro H hS hok hA
    have off : ∀ b, (b = a → K.lookup a ≠ none) → H b = none := fun b n => by
      cases q : H b with
      | none => rfl
      | some u => exact absurd (hA b u q).2.1 (n (hA b u q).1)
    have nsK : ∀ {b : Addr} {m : Str → Option Value}, s₁.heap.Ns b m → (hidT s₁.heap H).Ns b m := by
      rintro b m ⟨o, es, ep, e, d, r⟩
      refine ⟨o, es, ep, hidT_get e (off b fun z => ?_), d, r⟩
      subst z
      rw [ha] at e
      cases e
      cases d
    have inK : K.In (hidT s₁.heap H) := fun b o e => hidT_get (KX b o e) (off b fun z => by rw [← z, e]; simp)
    have hM : Mod K mg (hidT s₁.heap H) := ⟨inK, nsK hns, ⟨mb, nsK hb, hbb⟩, by obtain ⟨mc, h1, h2⟩ := hlim; exact ⟨mc, nsK h1, h2⟩⟩
    have nofr : ∀ b : Addr, b ∉ frs ([] : List Env) := fun b z => nomatch z
    have e0 : Env0 P w K mg (hidT s₁.heap H) callerA [] s₁ H := ⟨rfl, hM, fun b o e => of_hidT e, Nat.le_of_eq (hidT_size _ _), trivial, fun b z => absurd z (nofr b), hok, .of_eq hg⟩
    refine codeAny_mono ((F _ inK (nsK hns)).run callerA [] s₁ H ⟨[.ref a], []⟩ [.ref a] [.ref a] _ _ rfl hr e0 (hbind s₁ (.ref a)) (.cons rfl .nil) (hsp H hS)) fun r s' h => ?_
    match r, h with
    | .error e, h => exact False.elim h
    | .ok .next, h => exact False.elim h
    | .ok .brk, h => exact False.elim h
    | .ok .cont, h => exact False.elim h
    | .ok (.ret u), ⟨v, H', os, bare, un, hok', r', q⟩ =>
      cases (show v = .bl true from q)
      cases (show u = Value.bool true from r')
      refine ⟨rfl, OldK.of_keep fun b o e => ?_, os, bare⟩
      cases q : H b with
      | none => exact un.keep b o e q (nofr b) (by simp)
      | some u =>
        obtain ⟨_, _, ob, xs, rfl⟩ := hA b u q
        have e1 := (hok b _ q).1
        have e2 := (hok' b _ (un.frzs b ob _ q)).1
        rw [e] at e1
        cases e1
        exact e2
  have rv := vals_ints hi
  cases hk : K.lookup a with
  | some o =>
    have e := KX a o hk
    rw [ha] at e
    cases e
    exact from_ (fun _ => none) (.inr ⟨_, vs.toArray, _, hk, rfl, rfl, rfl, by rw [List.size_toArray, hi.length]; exact hl, by simpa using rv⟩) (fun b u z => nomatch z) (fun b u z => nomatch z)
  | none =>
    have at_ : ∀ (b : Addr) (u : HO), (if b = a then some (HO.frz { cls := .type "list", data := .seq vs.toArray } (.lst (ns.map V.int))) else none) = some u → b = a ∧ u = HO.frz { cls := .type "list", data := .seq vs.toArray } (.lst (ns.map V.int)) := fun b u z => by
      by_cases h : b = a
      · rw [if_pos h] at z
        exact ⟨h, (Option.some.inj z).symm⟩
      · rw [if_neg h] at z
        cases z
    refine from_ (fun b => if b = a then some (.frz { cls := .type "list", data := .seq vs.toArray } (.lst (ns.map V.int))) else none) (.inl (.inr ⟨{ cls := .type "list", data := .seq vs.toArray }, if_pos rfl⟩)) (fun b u z => ?_) (fun b u z => ?_)
    · obtain ⟨rfl, rfl⟩ := at_ b u z
      exact ⟨ha, by rw [List.length_map]; exact hl, vs, _, rv, ha⟩
    · obtain ⟨rfl, rfl⟩ := at_ b u z
      exact ⟨rfl, hk, _, _, rfl⟩
/-- a law: F gives the written part, the function object, the promise over every base -/
theorem walkG {l : PySem.W.OpenLaw} {n k : Nat} {q : Program} {loose : List Str} {XP : (Str → Option Value) → Heap → Prop} {YP : World → Heap → Prop} {d : DefRec} {x : Str} (hn : l.most = some n) (hn2 : n ≤ sizeLine) (hdf : d.params.defaults = []) (hr : Room k callerA)
    (F : ∀ (w : World) (mg : Str → Option Value) (fa : Addr) (h : Heap), YP w h → h.Ns mainGlobals mg → mg d.name = some (.ref fa) →
      ∃ (K : PySem.W.Frag) (fd : FuncData) (sp : Sp), K.In h ∧ (∀ (s : Shared) (u : Value), BindsTo s fd ⟨[u], []⟩ [(x, u)]) ∧
        (∀ (H : Hp) (a : Addr) (ns : List Int), ns.length ≤ n → SqL K H a (ns.map V.int) → sp [.ref a] H (fun v _ => v = .bl true) fun _ _ _ => False) ∧
        ∀ base : Heap, K.In base → base.Ns mainGlobals mg → FnG l.prog w K mg base k fa fd [x] sp) : PySem.W.WalkO q loose XP YP l.row.toRowW d [] (fun f vs => PySem.call f vs) := by
  refine Att.attach_call hn hdf fun w s₀ s₁ mg mb fa o pm cd doc a vs ns G Y ho hd hcd hmg hobj hints hlen hg => ?_
  obtain ⟨K, fd, sp, KX, hb, hsp, hF⟩ := F w mg fa _ Y G.T.g hmg
  exact lawG KX G.T.g G.T.b G.T.builtins G.T.nolimit hg hobj hints (Nat.le_trans hlen hn2) hr hF hb fun H hS => hsp H a ns hlen hS
end GL
set_option Elab.async false
set_option linter.all false
set_option maxRecDepth 100000
set_option maxHeartbeats 4000000
namespace K14
open PySem PySem.Spec PyProof.Rows L2
open C8 (Cal Mak Met pe_c pe_mk pe_mt pe_mt0)
open SX (S)
open SRT (leS)
/-! ### what the Wants tell on days, as data -/
def srtN (L : List Str) : List Str := SRI.srtI L fun _ => 0
theorem srtN_perm (L : List Str) : (srtN L).Perm L := SRI.srtI_perm _ _
theorem srt_eq {L ys : List Str} (pm : ys.Perm L) (pw : ys.Pairwise leS) : ys = srtN L := IO.sorted_same pw (SPR.srtI_pw _ _) (pm.trans (srtN_perm L).symm)
theorem srtI_eq {L ys : List Str} {g : Str → Int} (pm : ys.Perm L) : SRI.srtI ys g = srtN L := IO.sorted_same (SPR.srtI_pw _ _) (SPR.srtI_pw _ _) (((SRI.srtI_perm ys g).trans pm).trans (srtN_perm L).symm)
theorem srtN_eq {L M : List Str} (pm : M.Perm L) : srtN M = srtN L := srtI_eq pm
def ySeat (gs : Fs) (x : Str) : Int := ((gs.find? fun y => decide (S y.2.l = x)).map fun y => y.2.s).getD 0
theorem ySeat_at {gs : Fs} (nd : (gs.map fun x => x.2.l).Nodup) {x : Addr × Fo} (hx : x ∈ gs) : ySeat gs (S x.2.l) = x.2.s := by
  unfold ySeat
  cases e : gs.find? fun y => decide (S y.2.l = S x.2.l) with
  | none =>
    have := List.find?_eq_none.mp e x hx
    simp at this
  | some y =>
    have h1 := List.find?_some e
    have h2 := List.mem_of_find?_eq_some e
    have h3 : S y.2.l = S x.2.l := of_decide_eq_true h1
    rw [uniq nd h2 hx (SX.S_inj h3)]
    rfl
def bitsD (gs : Fs) (ts : List Dd) (d : Int) : PyData := .list (gs.map fun x => .bool (lawOn x.2 (rulesOf x.2.l ts) d))
def roomD (gs : Fs) (ts : List Dd) (d : Int) : PyData := .tuple [.list ((srtN (lawDay gs ts d)).map .str), .list ((srtN (lawDay gs ts d)).map fun x => .tuple [.str x, .int (ySeat gs x)])]
def seenD (gs : Fs) (ts : List Dd) (L : List Int) : PyData := .list (L.flatMap fun d => [bitsD gs ts d, roomD gs ts d])
theorem mem_srtN {gs : Fs} {ts : List Dd} {d : Int} {x : Str} (h : x ∈ srtN (lawDay gs ts d)) : ∃ y ∈ gs, x = S y.2.l := by
  have h := (srtN_perm _).mem_iff.mp h
  unfold lawDay at h
  obtain ⟨y, hy, rfl⟩ := List.mem_map.mp h
  exact ⟨y, (List.mem_filter.mp hy).1, rfl⟩
theorem sm_bool (b : Bool) : SD.Sm 20 0 (.bool b) :=
  ⟨by simp only [PyData.showable], by simp only [PyData.hasDict], by simp only [PyData.depth]; omega, by simp only [PyData.leavesShort], by simp only [PyData.weight]; omega, by simp only [PyData.canLay0]⟩
theorem sm_nm {x : Str} {gs : Fs} (ok : ∀ x ∈ gs, x.2.ok) (h : ∃ y ∈ gs, x = S y.2.l) : SD.Sm 8 0 (.str x) := by
  obtain ⟨y, hy, rfl⟩ := h
  exact SD.Sm.str (nm_ok (ok y hy).l) (by rw [SX.S_len]; exact (ok y hy).l.2.1)
theorem seat_sm {gs : Fs} (ok : ∀ x ∈ gs, x.2.ok) (x : Str) : (ySeat gs x).natAbs < 2 ^ 20 := by
  unfold ySeat
  cases e : gs.find? fun y => decide (S y.2.l = x) with
  | none => decide
  | some y =>
    have := (ok y (List.mem_of_find?_eq_some e)).s
    show y.2.s.natAbs < _
    have h2 : y.2.s.natAbs ≤ 9 := by omega
    exact Nat.lt_of_le_of_lt h2 (by decide)
theorem srtN_len {gs : Fs} {ts : List Dd} {d : Int} : (srtN (lawDay gs ts d)).length ≤ gs.length := by
  rw [(srtN_perm _).length_eq]
  exact lawDay_len gs ts d
theorem bits_sm {gs : Fs} {ts : List Dd} (lg : gs.length ≤ 20) (d : Int) : SD.Sm 420 1 (bitsD gs ts d) :=
  (SD.Sm.lst (SD.SmA.map (n := 20) (k := 0) fun x _ => sm_bool _)).mono (by omega) (Nat.le_refl _)
theorem room_sm {gs : Fs} {ts : List Dd} (ok : ∀ x ∈ gs, x.2.ok) (lg : gs.length ≤ 20) (d : Int) : SD.Sm 810 3 (roomD gs ts d) := by
  have l := srtN_len (gs := gs) (ts := ts) (d := d)
  have a : SD.Sm 180 2 (.list ((srtN (lawDay gs ts d)).map .str)) := (SD.Sm.lst (SD.SmA.map (n := 8) (k := 0) fun x hx => sm_nm ok (mem_srtN hx))).mono (by omega) (by decide)
  have b : SD.Sm 620 2 (.list ((srtN (lawDay gs ts d)).map fun x => .tuple [.str x, .int (ySeat gs x)])) := (SD.Sm.lst (SD.SmA.map (n := 30) (k := 1) fun x hx => (SD.Sm.tup (SD.SmA.cons (sm_nm ok (mem_srtN hx)) (SD.SmA.cons (SD.Sm.int (seat_sm ok x)) SD.SmA.nil))).mono (by decide) (Nat.le_refl _))).mono (by omega) (Nat.le_refl _)
  exact (SD.Sm.tup (SD.SmA.cons a (SD.SmA.cons b SD.SmA.nil))).mono (by decide) (Nat.le_refl _)
theorem seen_smA {gs : Fs} {ts : List Dd} (ok : ∀ x ∈ gs, x.2.ok) (lg : gs.length ≤ 20) : ∀ L : List Int, SD.SmA (1300 * L.length) 3 (L.flatMap fun d => [bitsD gs ts d, roomD gs ts d])
  | [] => SD.SmA.nil
  | d :: L => (SD.SmA.cons ((bits_sm lg d).mono (Nat.le_refl _) (by decide)) (SD.SmA.cons (room_sm ok lg d) (seen_smA ok lg L))).mono (by rw [List.length_cons]; omega) (Nat.le_refl _)
theorem seen_sm {gs : Fs} {ts : List Dd} {L : List Int} (ok : ∀ x ∈ gs, x.2.ok) (lg : gs.length ≤ 20) (ll : L.length ≤ 100) : SD.Sm 130000 4 (seenD gs ts L) :=
  (SD.Sm.lst (seen_smA ok lg L)).mono (by omega) (Nat.le_refl _)
theorem wish_of {n : Nat} {fs gs : Fs} {ds : List Dt} {ts : List Dd} (sy : Sync n gs ds ts) (nm : (fs.map fun x => x.2.l) = gs.map fun x => x.2.l) {i : Nat} {x : Addr × Fo} (hx : fs[i]? = some x) : ∃ y z, gs[i]? = some y ∧ y.2.l = x.2.l ∧ (x.2.l, z) ∈ ds ∧ Rel y.2 z (rulesOf x.2.l ts) ∧ Wok n z := by
  have il : i < fs.length := (List.getElem?_eq_some_iff.mp hx).1
  have ll : fs.length = gs.length := by simpa using congrArg List.length nm
  have e := congrArg (fun l => l[i]?) nm
  simp only [List.getElem?_map, hx] at e
  have hg : gs[i]? = some gs[i] := List.getElem?_eq_getElem (by omega)
  rw [hg] at e
  have e : x.2.l = gs[i].2.l := Option.some.inj e
  have idl : i < ds.length := by rw [sy.len]; omega
  have hd : ds[i]? = some ds[i] := List.getElem?_eq_getElem idl
  obtain ⟨q1, q2, q3⟩ := sy.each i gs[i] ds[i] hg hd
  refine ⟨gs[i], ds[i].2, hg, e.symm, ?_, by rw [e]; exact q2, q3⟩
  rw [e, ← q1]
  exact List.getElem_mem _
theorem Kd.kno {C CW : Addr} {G : Hp} {kw : Addr} {ds : List Dt} {cs : List Addr} (h : Kd C CW G kw ds cs) : ∃ wd dk, G kw = Option.some (.ins C dk (kwF wd)) := by
  obtain ⟨wd, zs, _, _, h⟩ := h
  obtain ⟨dk, e⟩ := h.at_
  exact ⟨wd, dk, e⟩
theorem dp_bls {K : PySem.W.Frag} {H : Hp} {α : Type} {g : α → Bool} : ∀ l : List α, DpAll K H (l.map fun x => V.bl (g x)) (l.map fun x => PyData.bool (g x))
  | [] => .nil
  | x :: l => .cons (.bl _) (dp_bls l)
/-- a told day -/
structure Row (H : Hp) (D : Addr) (gs : Fs) (ts : List Dd) (d : Int) (b t : Addr) : Prop where
  ex : ∃ (p l : Addr) (us : List (Addr × Str)), b ≠ D ∧ p ≠ D ∧ l ≠ D ∧ H b = some (.lst (gs.map fun x => V.bl (lawOn x.2 (rulesOf x.2.l ts) d))) ∧ H t = some (.tup [.ref p, .ref l]) ∧ H p = some (.lst ((srtN (lawDay gs ts d)).map V.str)) ∧ H l = some (.lst (us.map fun u => V.ref u.1)) ∧ (∀ u ∈ us, H u.1 = some (.tup [.str u.2, .int (ySeat gs u.2)])) ∧ us.map (·.2) = srtN (lawDay gs ts d)
theorem Row.mv {H H' : Hp} {D : Addr} {gs : Fs} {ts : List Dd} {d : Int} {b t : Addr} (r : Row H D gs ts d b t) (k : ∀ b o, H b = some o → b ≠ D → H' b = some o) {xs : List V} (hD : H D = some (.lst xs)) : Row H' D gs ts d b t := by
  obtain ⟨p, l, us, n1, n2, n3, h1, h2, h3, h4, h5, h6⟩ := r.ex
  have nt : ∀ {a : Addr} {vs : List V}, H a = some (.tup vs) → a ≠ D := fun e => ne_of e hD (by intro z; cases z)
  exact ⟨p, l, us, n1, n2, n3, k _ _ h1 n1, k _ _ h2 (nt h2), k _ _ h3 n2, k _ _ h4 n3, fun u hu => k _ _ (h5 u hu) (nt (h5 u hu)), h6⟩
theorem dp_us {K : PySem.W.Frag} {H : Hp} {g : Str → Int} : ∀ {us : List (Addr × Str)}, (∀ u ∈ us, H u.1 = some (.tup [.str u.2, .int (g u.2)])) → DpAll K H (us.map fun u => V.ref u.1) ((us.map (·.2)).map fun x => PyData.tuple [.str x, .int (g x)])
  | [], _ => .nil
  | u :: us, h => .cons (.tup (SqT.of (h u List.mem_cons_self)) (.cons (.str _) (.cons (.int _) .nil))) (dp_us fun q hq => h q (List.mem_cons_of_mem _ hq))
theorem dp_ss {K : PySem.W.Frag} {H : Hp} : ∀ xs : List Str, DpAll K H (xs.map V.str) (xs.map PyData.str)
  | [] => .nil
  | x :: xs => .cons (.str x) (dp_ss xs)
theorem dp_rows {K : PySem.W.Frag} {H : Hp} {D : Addr} {gs : Fs} {ts : List Dd} : ∀ {ps : List (Int × Addr × Addr)}, (∀ p ∈ ps, Row H D gs ts p.1 p.2.1 p.2.2) → DpAll K H (ps.flatMap fun p => [V.ref p.2.1, V.ref p.2.2]) ((ps.map (·.1)).flatMap fun d => [bitsD gs ts d, roomD gs ts d])
  | [], _ => .nil
  | p :: ps, h => by
    obtain ⟨q, l, us, n1, n2, n3, h1, h2, h3, h4, h5, h6⟩ := (h p List.mem_cons_self).ex
    have e := dp_us (K := K) h5
    rw [h6] at e
    exact .cons (.lst (SqL.of h1) (dp_bls gs)) (.cons (.tup (SqT.of h2) (.cons (.lst (SqL.of h3) (dp_ss _)) (.cons (.lst (SqL.of h4) e) .nil))) (dp_rows fun q hq => h q (List.mem_cons_of_mem _ hq)))
theorem fm_len {α β : Type} (f g : α → β) : ∀ l : List α, (l.flatMap fun x => [f x, g x]).length = 2 * l.length
  | [] => rfl
  | x :: l => by
    have := fm_len f g l
    simp only [List.flatMap_cons, List.length_append, this, List.length_cons, List.length_nil]
    omega
theorem paired_zip {α β : Type} {F : α → β → Prop} : ∀ {as : List α} {bs : List β}, Paired F as bs → (as.zip bs).map (·.1) = as ∧ (as.zip bs).map (·.2) = bs ∧ ∀ p ∈ as.zip bs, F p.1 p.2
  | [], [], _ => ⟨rfl, rfl, fun p hp => (nomatch hp)⟩
  | a :: as, b :: bs, .cons h t => by
    obtain ⟨e1, e2, e3⟩ := paired_zip t
    refine ⟨by rw [List.zip_cons_cons, List.map_cons, e1], by rw [List.zip_cons_cons, List.map_cons, e2], fun p hp => ?_⟩
    rw [List.zip_cons_cons] at hp
    rcases List.mem_cons.mp hp with rfl | hp
    · exact h
    · exact e3 p hp
section
variable {P : Program} {w : World} {K : PySem.W.Frag} {mg : Str → Option Value} {base : Heap} {f C CW CP : Addr} {fd : FuncData}
def spSeen (C CW : Addr) : Sp := fun vs H Q _ => ∃ (kw o al : Addr) (ds ds' : List Dt) (cs : List Addr) (fs gs : Fs) (ts : List Dd) (L : List Int) (n : Nat), vs = [.ref kw, .ref o, .ref al] ∧ Kd C CW H kw ds cs ∧ ds'.Perm ds ∧ H o = some (.lst (refs fs)) ∧ FsT H fs ∧ (∀ x ∈ gs, x.2.ok) ∧ (fs.map fun x => x.2.l) = (gs.map fun x => x.2.l) ∧
  (gs.map fun x => x.2.l).Nodup ∧ gs.length ≤ 20 ∧ Sync n gs ds' ts ∧ n ≤ 1000 ∧ H al = some (.lst (L.map V.int)) ∧ (∀ d ∈ L, isDay d) ∧ L.length ≤ 100 ∧ ∀ H', Same H H' → Q (.str (seenD gs ts L).shown) H'
theorem ok_seen (F : Dn K d_l_seen f fd) (b : Bl mg) (b2 : Bl2 mg) (brep : mg "repr" = none) (mW : Met P w K mg base 5 C "wants" (spWants C CW) []) (mR : Met P w K mg base 5 C "riders" (spRiders C CW) []) (mO : Met P w K mg base 6 C "room" (spRoom C CW) []) :
    GL.FnG P w K mg base 7 f fd ["_law_kept", "_law_people_here", "_law_asked"] (spSeen C CW) := by
  refine GL.okG F sc_l_seen (fun vs H Q E h => ?_) (fun cdv A outer s H vs Q E hgd hr h => ?_)
  · obtain ⟨_, _, _, _, _, _, _, _, _, _, _, rfl, _⟩ := h
    rfl
  · obtain ⟨kw, o, al, ds, ds', cs, fs, gs, ts, L, n, rfl, hk, pmd, ho, hfs, hok, hnm, hnd, hlen, sy, hn, hal, hL, hll, hQ⟩ := h
    have hgd2 : (A.deeper (envOfC d_l_seen.qual d_l_seen.scope s.heap.objs.size f cdv)).guards = some [] := hgd
    have hu64 : (A.deeper (envOfC d_l_seen.qual d_l_seen.scope s.heap.objs.size f cdv)).units + 64 < cLine := by have := hr.un; omega
    refine ⟨_, PSs.nox (pss_cons (ps_set (i := 3) sc_l_seen.nd rfl (.inl rfl) (pe_lst pa_nil))
      (pss_cons (ps_for PassesOwn.never rfl (pi_list (pv 2)) (pg_name (i := 4) sc_l_seen.nd rfl (.inr rfl))
        (pss_cons (ps_expr (pe_bm PySem.F.plainAttrs_list PySem.F.slot_list_append PySem.F.type_list_append mt_append (pv 3) (pa_cons (pe_lc (own := [("_law_one_here", 5)]) (g := gName 5) (tt := tYes) rfl sc_l_seen.nd (pi_list (pv 1)) (blkOk_by (N := N_l_seen) (sc := defScope s_l_seen) (by decide +kernel))
          (fun _ _ _ _ _ => pg_name (i := 5) sc_l_seen.nd rfl (Or.inl rfl)) (fun _ _ _ _ _ => pts_nil) (fun _ _ _ _ _ => pe_mt mW hr (by decide) (pv 0) (pa_cons (pe_ix (r := rIxT K) ix_tup (pv 5) pe_int (fun _ _ => rfl)) (pa_cons (pv 4) pa_nil)))) pa_nil)))
        (pss_one (ps_expr (pe_bm PySem.F.plainAttrs_list PySem.F.slot_list_append PySem.F.type_list_append mt_append (pv 3) (pa_cons (pe_tup (pa_cons (pe_mt mR hr (by decide) (pv 0) (pa_cons (pv 4) pa_nil)) (pa_cons (pe_callB (SRI.cr_sortedItK rfl hu64) rfl b2.srt boot_sorted (pa_cons (pe_bm0 PySem.F.plainAttrs_dict PySem.F.slot_dict_items PySem.F.type_dict_items SRI.mt_itemsK (pe_mt mO hr (by decide) (pv 0) (pa_cons (pv 4) pa_nil))) pa_nil)) pa_nil))) pa_nil))))))
      (pss_one (ps_ret (pe_callB (GL.call_reprD hgd2 hu64) rfl brep boot_repr (pa_cons (pv 3) pa_nil)))))), ?_⟩
    refine ⟨by show 0 ≤ sizeLine; decide, fun D fD => ?_⟩
    have sD := same_new (o := .lst []) fD
    have hD0 : (upd H D (.lst [])) D = some (.lst []) := upd_same
    have ll : fs.length = gs.length := by simpa using congrArg List.length hnm
    have oks' := sy.oks hn (by omega : gs.length ≤ 1000)
    have oks : Oks n ds := ⟨fun x hx => oks'.1 x (pmd.mem_iff.mpr hx), hn, by rw [← pmd.length_eq]; exact oks'.2.2⟩
    have nmd : (ds.map (·.1)).Nodup := ((pmd.map _).nodup_iff).mp (by rw [sy.names]; exact hnd)
    refine ⟨_, rfl, al, rfl, ⟨_, SqL.of (sD _ _ hal)⟩, ?_⟩
    refine for_list (K := K) (xs := L.map V.int) (fun i σ H' => ∃ (v4 : Option V) (ps : List (Int × Addr × Addr)), σ = [some (.ref kw), some (.ref o), some (.ref al), some (.ref D), v4, none] ∧ Same H H' ∧ H' D = some (.lst (ps.flatMap fun p => [V.ref p.2.1, V.ref p.2.2])) ∧ (∀ p ∈ ps, Row H' D gs ts p.1 p.2.1 p.2.2) ∧ ps.map (·.1) = L.take i)
      ⟨_, [], rfl, sD, hD0, fun p hp => (nomatch hp), rfl⟩ (fun i σ H' _ z => by obtain ⟨_, _, _, z, _⟩ := z; exact SqL.of (z _ _ hal)) ?_ ?_
    · rintro i y σ H2 hi ⟨v4, ps, rfl, s2, hD, rows, eps⟩
      rw [List.getElem?_map] at hi
      obtain ⟨d, hd, rfl⟩ := Option.map_eq_some_iff.mp hi
      have dd := hL d (List.mem_of_getElem? hd)
      have il : i < L.length := (List.getElem?_eq_some_iff.mp hd).1
      have pl : ps.length = i := by
        have := congrArg List.length eps
        rw [List.length_map, List.length_take] at this
        omega
      -- who wants
      refine ⟨_, rfl, .inl ⟨rfl, _, SqL.of hD⟩, _, rfl, o, rfl, ⟨_, SqL.of (s2 _ _ ho)⟩, fun B fB => ?_⟩
      refine lc_list (K := K) (xs := refs fs) (fun j G => G B = some (.lst ((gs.take j).map fun x => V.bl (lawOn x.2 (rulesOf x.2.l ts) d))) ∧ Same H2 G) ⟨upd_same, same_new fB⟩ (fun j G _ z => SqL.of (z.2 _ _ (s2 _ _ ho))) ?_ ?_
      · rintro j y G hj ⟨hB, sG⟩
        unfold refs at hj
        rw [List.getElem?_map] at hj
        obtain ⟨x, hx, rfl⟩ := Option.map_eq_some_iff.mp hj
        have jl : j < fs.length := (List.getElem?_eq_some_iff.mp hx).1
        obtain ⟨y, z, hy, ey, hz, rel, wok⟩ := wish_of sy hnm hx
        have s3 := s2.trans sG
        have K3 := hk.keep s3
        obtain ⟨wd, dk, hkw⟩ := K3.kno
        have hxt := s3 _ _ (hfs x (List.mem_of_getElem? hx))
        refine ⟨rfl, _, rfl, kw, dk, _, rfl, hkw, kw_no wd (by decide +kernel), _, rfl, x.1, _, _, _, rfl, rfl, SqT.of hxt, rfl, _, rfl, kw, ds, cs, x.2.l, z, d, n, rfl, K3, pmd.mem_iff.mp hz, wok, hn, dd.1, dd.2, fun G4 s4 => ?_⟩
        rw [rel.holds wok d dd]
        refine ⟨_, s4 _ _ hB, ?_, ?_, fun b w e => ?_⟩
        · rw [List.length_map, List.length_take]
          exact line_lt (by omega)
        · rw [upd_same, take_one hy, List.map_append, ← ey]
          rfl
        · rw [upd_ne (ne_of_none e fB)]
          exact s4 _ _ (sG _ _ e)
      rintro G ⟨hB, sG⟩
      unfold refs at hB
      rw [List.length_map, ll, List.take_length] at hB
      have nBD : B ≠ D := (ne_of_none hD fB).symm
      have hDG := sG _ _ hD
      refine ⟨D, _, _, rfl, rfl, hDG, by rw [fm_len]; exact line_lt (by omega), ?_⟩
      have sHG := s2.trans sG
      have rowsG : ∀ p ∈ ps, Row G D gs ts p.1 p.2.1 p.2.2 := fun p hp => (rows p hp).mv (fun b o e _ => sG _ _ e) hD
      have s3 : Same H (upd G D (.lst ((ps.flatMap fun p => [V.ref p.2.1, V.ref p.2.2]) ++ [.ref B]))) := fun b o e => by
        rw [upd_ne (ne_of_none e fD)]
        exact sHG _ _ e
      have rows3 : ∀ p ∈ ps, Row (upd G D (.lst ((ps.flatMap fun p => [V.ref p.2.1, V.ref p.2.2]) ++ [.ref B]))) D gs ts p.1 p.2.1 p.2.2 := fun p hp => (rowsG p hp).mv (fun b o e n => by rw [upd_ne n]; exact e) hDG
      have hD3 : (upd G D (.lst ((ps.flatMap fun p => [V.ref p.2.1, V.ref p.2.2]) ++ [.ref B]))) D = some (.lst ((ps.flatMap fun p => [V.ref p.2.1, V.ref p.2.2]) ++ [.ref B])) := upd_same
      have hB3 : (upd G D (.lst ((ps.flatMap fun p => [V.ref p.2.1, V.ref p.2.2]) ++ [.ref B]))) B = some (.lst (gs.map fun x => V.bl (lawOn x.2 (rulesOf x.2.l ts) d))) := by rw [upd_ne nBD]; exact hB
      generalize upd G D (.lst ((ps.flatMap fun p => [V.ref p.2.1, V.ref p.2.2]) ++ [.ref B])) = H3 at s3 rows3 hD3 hB3 ⊢
      clear rows rowsG hDG hB sG sHG fB s2 hD
      refine ⟨_, rfl, .inl ⟨rfl, _, SqL.of hD3⟩, ?_⟩
      have K3 := hk.keep s3
      obtain ⟨wd, dk, hkw⟩ := K3.kno
      refine ⟨_, rfl, kw, dk, _, rfl, hkw, kw_no wd (by decide +kernel), _, rfl, kw, ds, cs, d, n, rfl, K3, oks, dd.1, dd.2, fun G6 q zs s6 fq hq pm2 pw2 => ?_⟩
      have eday : (onDay ds d).Perm (lawDay gs ts d) := by
        rw [← sy.day dd]
        exact (pmd.symm.filter _).map _
      have pm2 := pm2.trans eday
      have ezs := srt_eq pm2 pw2
      subst ezs
      have s06 := s3.trans s6
      have K6 := hk.keep s06
      obtain ⟨wd2, dk2, hkw2⟩ := K6.kno
      refine ⟨_, rfl, kw, dk2, _, rfl, hkw2, kw_no wd2 (by decide +kernel), _, rfl, kw, ds, cs, d, n, rfl, K6, oks, nmd, dd.1, dd.2, fun G8 q3 ys3 g3 s8 fq3 hq3 pm3 nd3 hg3 => ?_⟩
      refine ⟨.inr (.inr (.inl ⟨rfl, .inl ⟨_, hq3⟩⟩)), q3, _, rfl, rfl, hq3, fun pv fpv => ?_⟩
      have s9 := same_new (o := L2.DX.itemsO pv q3) fpv
      refine ⟨pv, q3, ys3, g3, rfl, upd_same, s9 _ _ hq3, fun G9 l us s10 fl hl prd => ?_⟩
      have pm3' : ys3.Perm (lawDay gs ts d) := pm3.trans eday
      rw [srtI_eq pm3'] at prd
      obtain ⟨z1, z2, z3⟩ := paired_zip prd
      have seat : ∀ x ∈ srtN (lawDay gs ts d), g3 x = ySeat gs x := fun x hx => by
        obtain ⟨y, hy, rfl⟩ := mem_srtN hx
        obtain ⟨e, he, h1, h2, _⟩ := sy.at hy
        have := hg3 e (pmd.mem_iff.mp he)
        rw [h1, h2.s] at this
        rw [this, ySeat_at hnd hy]
      have us9 : ∀ u ∈ us.zip (srtN (lawDay gs ts d)), G9 u.1 = some (.tup [.str u.2, .int (ySeat gs u.2)]) := fun u hu => by
        rw [← seat u.2 (by rw [← z2]; exact List.mem_map.mpr ⟨u, hu, rfl⟩)]
        exact (z3 u hu).2
      have s39 : Same H3 G9 := ((s6.trans s8).trans s9).trans s10
      have nlD : l ≠ D := fun z => by
        rw [z] at fl
        rw [s9 _ _ (s8 _ _ (s6 _ _ hD3))] at fl
        cases fl
      refine ⟨by show 2 ≤ sizeLine; decide, fun t ft => ?_⟩
      have st := same_new (o := .tup [.ref q, .ref l]) ft
      have s3t := s39.trans st
      have hDt := s3t _ _ hD3
      have hq9 := st _ _ (s10 _ _ (s9 _ _ (s8 _ _ hq)))
      have hl9 := st _ _ hl
      have ht9 : (upd G9 t (.tup [.ref q, .ref l])) t = some (.tup [.ref q, .ref l]) := upd_same
      have us10 : ∀ u ∈ us.zip (srtN (lawDay gs ts d)), (upd G9 t (.tup [.ref q, .ref l])) u.1 = some (.tup [.str u.2, .int (ySeat gs u.2)]) := fun u hu => st _ _ (us9 u hu)
      have rowsT : ∀ p ∈ ps, Row (upd G9 t (.tup [.ref q, .ref l])) D gs ts p.1 p.2.1 p.2.2 := fun p hp => (rows3 p hp).mv (fun b o e _ => s3t _ _ e) hD3
      have hBt := s3t _ _ hB3
      have sHt := s3.trans s3t
      generalize upd G9 t (.tup [.ref q, .ref l]) = G10 at hDt hq9 hl9 ht9 us10 rowsT hBt sHt ⊢
      have row : Row G10 D gs ts d B t := ⟨q, l, us.zip (srtN (lawDay gs ts d)), nBD, ne_of_none hD3 fq |>.symm, nlD, hBt, ht9, hq9, by
        have e : ((us.zip (srtN (lawDay gs ts d))).map fun u => V.ref u.1) = us.map V.ref := by rw [← z1, List.map_map]; rw [z1]; rfl
        rw [e]
        exact hl9, us10, z2⟩
      have app : (ps.flatMap fun p => [V.ref p.2.1, V.ref p.2.2]) ++ [V.ref B] ++ [V.ref t] = (ps ++ [(d, B, t)]).flatMap fun p => [V.ref p.2.1, V.ref p.2.2] := by
        rw [List.flatMap_append, List.append_assoc]
        rfl
      refine ⟨D, _, _, rfl, rfl, hDt, by rw [List.length_append, fm_len]; exact line_lt (by show 2 * ps.length + 1 ≤ _; omega), ?_⟩
      refine ⟨_, ps ++ [(d, B, t)], rfl, fun b o e => ?_, ?_, fun p hp => ?_, ?_⟩
      · rw [upd_ne (ne_of_none e fD)]
        exact sHt _ _ e
      · rw [upd_same, app]
      · rcases List.mem_append.mp hp with hp | hp
        · exact (rowsT p hp).mv (fun b o e n => by rw [upd_ne n]; exact e) hDt
        · rw [List.mem_singleton.mp hp]
          exact row.mv (fun b o e n => by rw [upd_ne n]; exact e) hDt
      · rw [List.map_append, eps, take_one hd]
        rfl
    · rintro σ H2 ⟨v4, ps, rfl, s2, hD, rows, eps⟩
      rw [List.length_map, List.take_length] at eps
      have dp := dp_rows (K := K) rows
      rw [eps] at dp
      obtain ⟨a1, a2, a3, a4⟩ := (seen_sm (ts := ts) hok hlen hll).four (by decide) (by decide)
      exact ⟨_, rfl, .ref D, seenD gs ts L, rfl, .lst (SqL.of hD) dp, a1, a2, a3, a4, hQ H2 s2⟩
end
end K14
set_option Elab.async false
set_option linter.all false
set_option maxRecDepth 100000
set_option maxHeartbeats 4000000
/-! KW: calls by keywords alone: f(k = v, ..), o.m(k = v, ..). -/
namespace KW
open PySem PySem.Spec PyProof.Rows L2
section
variable {X : Cx} {k j : Nat} {C f : Addr} {fd : FuncData} {ps ks : List Str} {sp : Sp} {x m : Str} {p pos apos : Pos} {o : Expr} {kws : List Keyword} {ta : TE} {tk : TA} {g : List Value → List Value → List Value} {gV : List V → List V → List V}
theorem pe_cK (F : FnOk X.prog X.w X.K X.mg X.base CX0 k f fd ps sp) (hr : Room k X.A) (hg : Gl X x) (hm : X.mg x = some (.ref f)) (hk : PySem.W.keepIn X.K (.ref f) = true) (hb : KBn X.K fd ps 0 ks g gV) (hkw : PK X kws tk)
    (hall : (backToKw pos (keywordEach kws X.env)).all (·.1.isSome) = true := by rfl) (hks : (backToKw pos (keywordEach kws X.env)).filterMap (·.1) = ks := by rfl) (hdb : (x == ("__debug__" : Str)) = false := by decide)
    (hpl : ((backTo pos (starEach [] X.env)).any (·.1) || (backToKw pos (keywordEach kws X.env)).any (·.1.isNone)) = false := by rfl) :
    PE X (.Call (.Name x p) [] kws pos) (fun σ H Q => tk σ H fun zs H1 => zs.length = ks.length ∧ sp (gV [] zs) H1 Q E0) := by
  refine ⟨fun pins s σ H Q I h => wpAny_Call_Name_kw (ld_glob I hg hm (PySem.W.callWith_KW0 (h₀ := X.base) I.ok.mod.kin hk hall ?_ hpl) hdb)⟩
  refine thn (hkw.run pos pins s σ H _ I h) fun ws s2 ⟨zs, H2, I2, rz, l2, q2⟩ => ⟨I2.kIn, ?_⟩
  rw [hks]
  exact run_fnN (us := []) (vs := []) F hr hb (fun _ _ _ _ _ _ _ h => False.elim h) I2 .nil rz rfl l2 q2
theorem pe_mtK {pl : Sem Bool} (he : PE X o ta) (c : Cls X.K C) (hm : Meth X.K C m f) (F : FnOk X.prog X.w X.K X.mg X.base CX0 k f fd ps sp) (hr : Room k X.A) (hb : KBn X.K fd ps 1 ks g gV) (hkw : PK X kws tk)
    (hall : (backToKw pos (keywordEach kws X.env)).all (·.1.isSome) = true := by rfl) (hks : (backToKw pos (keywordEach kws X.env)).filterMap (·.1) = ks := by rfl)
    (hpl : ((backTo pos (starEach [] X.env)).any (·.1) || (backToKw pos (keywordEach kws X.env)).any (·.1.isNone)) = false := by rfl)
    (ht : eval (.Call (.Attribute o m apos) [] kws pos) X.env = (do
      let ov ← eval o X.env
      standAt apos.atName
      let (f, first) ← holding [ov] (getMethod ov m pl)
      callWith pos f first (backTo pos (starEach [] X.env)) (backToKw pos (keywordEach kws X.env))) := by rfl) :
    PE X (.Call (.Attribute o m apos) [] kws pos) (fun σ H Q => ta σ H fun x H1 => ∃ a dx fs, x = .ref a ∧ H1 a = some (.ins C dx fs) ∧ fs.lookup m = none ∧ tk σ H1 fun zs H2 => zs.length = ks.length ∧ sp (gV [.ref a] zs) H2 Q E0) := by
  refine ⟨fun pins s σ H Q I h => ?_⟩
  refine PySem.W.methodCall_KW (pl := pl) (thn (he.run pins s σ H _ I h) fun u s1 ⟨x, H1, I1, rx, a, dx, fs, ex, ea, l, q⟩ => ?_) ht
  subst ex
  obtain rfl : u = Value.ref a := rx
  refine getmeth_ok I1 ea c hm l (PySem.W.callWith_KW0 (first := [.ref a]) (h₀ := X.base) I.ok.mod.kin hm.kp hall ?_ hpl)
  refine thn (hkw.run pos pins s1 σ H1 _ I1 q) fun ws s2 ⟨zs, H2, I2, rz, l2, q2⟩ => ⟨I2.kIn, ?_⟩
  rw [hks]
  exact run_fnN (us := [.ref a]) (vs := [.ref a]) F hr hb (fun _ _ _ _ _ _ _ h => False.elim h) I2 (.cons rfl .nil) rz rfl l2 q2
end
end KW
set_option Elab.async false
set_option linter.all false
set_option maxRecDepth 100000
set_option maxHeartbeats 4000000
/-! KB: what a call by keywords binds, for a def without keyword-only parameters. -/
namespace KW
open PySem PySem.Spec PyProof.Rows L2
section
variable {K : PySem.W.Frag} {x qual : Str} {params : Arguments} {body : List Stmt} {scope : Scope} {dvs : List V} {kws : List (Str × V)} {f : Addr} {fd : FuncData} {ps : List Str}
theorem kb1 (F : FunD K x qual params body scope dvs kws f fd) (n : Nat) (ks : List Str) (g : {α : Type} → List α → List α → List α → List α) (hd : dvs ≠ [])
    (hrel : ∀ {vs ds zs : List V} {us its ws : List Value}, Vals vs us → Vals ds its → Vals zs ws → Vals (g vs ds zs) (g us its ws))
    (h : ∀ (T : Addr) (kV doc pm : Value) (an : Option Addr) (cdv ct : Value) (us its ws : List Value), us.length = n → its.length = dvs.length → ws.length = ks.length →
      ∃ k, bindArgs (PySem.W.fnOf x qual params body scope (.ref T) kV doc pm an cdv ct) ⟨us, ks.zip ws⟩ = seqItems? (.ref T) >>= k ∧ k (some its.toArray) = pure (ps.zip (g us its ws))) :
    ∃ its : List Value, KBn K fd ps n ks (fun us ws => g us its ws) (fun vs zs => g vs dvs zs) := by
  obtain ⟨oc, od, dV, kV, doc, pm, an, cdv, ct, osl, rfl, lk, hcd, hD, hK⟩ := F.ex
  rcases hD with ⟨e, _⟩ | ⟨_, T, o, its, m, rfl, lT, oT, rT⟩
  · exact absurd e hd
  · refine ⟨its, ⟨fun s us ws X l1 l2 => ?_, fun r1 r2 => hrel r1 rT r2⟩⟩
    obtain ⟨k, e1, e2⟩ := h T kV doc pm an cdv ct us its ws l1 rT.length.symm l2
    refine BindsTo.of_looks fun M => ?_
    rw [e1]
    exact looks_items X lT oT (.of_pure e2)
theorem kb0 (F : FunD K x qual params body scope [] kws f fd) (n : Nat) (ks : List Str) (g : {α : Type} → List α → List α → List α)
    (hrel : ∀ {vs zs : List V} {us ws : List Value}, Vals vs us → Vals zs ws → Vals (g vs zs) (g us ws))
    (h : ∀ (kV doc pm : Value) (an : Option Addr) (cdv ct : Value) (us ws : List Value), us.length = n → ws.length = ks.length →
      bindArgs (PySem.W.fnOf x qual params body scope .none kV doc pm an cdv ct) ⟨us, ks.zip ws⟩ = pure (ps.zip (g us ws))) :
    KBn K fd ps n ks (fun us ws => g us ws) (fun vs zs => g vs zs) := by
  obtain ⟨oc, od, dV, kV, doc, pm, an, cdv, ct, osl, rfl, lk, hcd, hD, hK⟩ := F.ex
  rcases hD with ⟨_, rfl⟩ | ⟨e, _⟩
  · exact ⟨fun s us ws X l1 l2 => .of_eq (h kV doc pm an cdv ct us ws l1 l2), fun r1 r2 => hrel r1 r2⟩
  · exact absurd rfl e
end
end KW
set_option Elab.async false
set_option linter.all false
set_option maxRecDepth 100000
set_option maxHeartbeats 4000000
namespace K14
open PySem PySem.Spec PyProof.Rows L2
open C8 (Cal Mak Met pe_c pe_mk pe_mt pe_mt0)
open SX (S)
section
variable {P : Program} {w : World} {K : PySem.W.Frag} {mg : Str → Option Value} {base : Heap} {f fW C CW : Addr} {fd fdW : FuncData}
/-- what one person is told to want on days -/
def spOne (C CW : Addr) : Sp := fun vs H Q _ => ∃ (kw al : Addr) (ds : List Dt) (cs : List Addr) (l : List Nat) (z : Ws) (L : List Int) (n : Nat), vs = [.ref kw, .str (S l), .ref al] ∧ Kd C CW H kw ds cs ∧ (l, z) ∈ ds ∧ Wok n z ∧ n ≤ 1000 ∧
  H al = some (.lst (L.map V.int)) ∧ (∀ d ∈ L, isDay d) ∧ L.length ≤ 100 ∧ ∀ r H', H r = none → H' r = some (.lst (L.map fun d => V.bl (z.holds d))) → Same H H' → Q (.ref r) H'
theorem ok_one (F : Dn K d_l_one f fd) (TK : Cls K C) (hmW : Meth K C "wants" fW) (FW : FnOk P w K mg base CX0 5 fW fdW ["self", "name", "day"] (spWants C CW)) (kW : KBn K fdW ["self", "name", "day"] 1 ["day", "name"] (fun us ws => us ++ ws.reverse) (fun vs zs => vs ++ zs.reverse)) :
    FnOk P w K mg base CX0 6 f fd ["_law_kept", "_law_called", "_law_asked"] (spOne C CW) := by
  refine F.ok sc_l_one (fun vs H Q E h => ?_) (fun cdv A outer s H vs Q E hr h => ?_)
  · obtain ⟨_, _, _, _, _, _, _, _, rfl, _⟩ := h
    rfl
  · obtain ⟨kw, al, ds, cs, l, z, L, n, rfl, hk, hz, wok, hn, hal, hL, hll, hQ⟩ := h
    refine ⟨_, PSs.nox (pss_one (ps_ret (pe_lc (own := [("_law_today", 3)]) (g := gName 3) (tt := tYes) rfl sc_l_one.nd (pi_list (pv 2)) (blkOk_by (N := N_l_one) (sc := defScope s_l_one) (by decide +kernel))
          (fun _ _ _ _ _ => pg_name (i := 3) sc_l_one.nd rfl (Or.inl rfl)) (fun _ _ _ _ _ => pts_nil) (fun _ _ _ _ _ => KW.pe_mtK (pv 0) TK hmW FW (hr.mono (by decide)) kW (pk_cons (pv 3) (pk_cons (pv 1) pk_nil)))))), ?_⟩
    refine ⟨_, rfl, al, rfl, ⟨_, SqL.of hal⟩, fun B fB => ?_⟩
    refine lc_list (K := K) (te := fun σ H Q => tVar 0 σ H fun x H1 => ∃ a dx fs, x = V.ref a ∧ H1 a = some (.ins C dx fs) ∧ List.lookup (Str.ofString "wants") fs = none ∧ tCons (tVar 3) (tCons (tVar 1) tNil) σ H1 fun zs H2 => zs.length = 2 ∧ spWants C CW ([V.ref a] ++ zs.reverse) H2 Q E0) (xs := L.map V.int) (fun j G => G B = some (.lst ((L.take j).map fun d => V.bl (z.holds d))) ∧ Same H G) ⟨upd_same, same_new fB⟩ (fun j G _ q => SqL.of (q.2 _ _ hal)) ?_ ?_
    · rintro j y G hj ⟨hB, sG⟩
      rw [List.getElem?_map] at hj
      obtain ⟨d, hd, rfl⟩ := Option.map_eq_some_iff.mp hj
      have jl : j < L.length := (List.getElem?_eq_some_iff.mp hd).1
      have dd := hL d (List.mem_of_getElem? hd)
      have K3 := hk.keep sG
      obtain ⟨wd, dk, hkw⟩ := K3.kno
      refine ⟨rfl, _, rfl, kw, dk, _, rfl, hkw, kw_no wd (by decide +kernel), _, rfl, _, rfl, rfl, kw, ds, cs, l, z, d, n, rfl, K3, hz, wok, hn, dd.1, dd.2, fun G4 s4 => ?_⟩
      refine ⟨_, s4 _ _ hB, ?_, ?_, fun b w e => ?_⟩
      · rw [List.length_map, List.length_take]
        exact line_lt (by omega)
      · rw [upd_same, take_one hd, List.map_append]
        rfl
      · rw [upd_ne (ne_of_none e fB)]
        exact s4 _ _ (sG _ _ e)
    rintro G ⟨hB, sG⟩
    rw [List.length_map, List.take_length] at hB
    exact hQ B G fB hB sG
end
end K14
set_option Elab.async false
set_option linter.all false
set_option maxRecDepth 100000
set_option maxHeartbeats 4000000
namespace K14
open PySem PySem.Spec PyProof.Rows L2
open C8 (Cal Mak Met pe_c pe_mk pe_mt pe_mt0)
open SX (S)
open SRT (leS)
/-- the people are those the Wants know -/
structure Of (n : Nat) (fs : Fs) (ds : List Dt) : Prop where
  oks : Oks n ds
  nd : (ds.map (·.1)).Nodup
  nf : (fs.map fun x => x.2.l).Nodup
  mem : ∀ l, l ∈ ds.map (·.1) ↔ l ∈ fs.map fun x => x.2.l
  seat : ∀ x ∈ fs, ∀ z, (x.2.l, z) ∈ ds → z.s = x.2.s
theorem dt_uniq : ∀ {ds : List Dt}, (ds.map (·.1)).Nodup → ∀ {l : List Nat} {y z : Ws}, (l, y) ∈ ds → (l, z) ∈ ds → y = z
  | u :: ds, h, l, y, z, hy, hz => by
    obtain ⟨h1, h2⟩ := List.nodup_cons.mp h
    rcases List.mem_cons.mp hy with e | hy
    · rcases List.mem_cons.mp hz with e2 | hz
      · exact (Prod.mk.inj (e.trans e2.symm)).2
      · exact absurd (List.mem_map.mpr ⟨_, hz, by rw [← e]⟩) h1
    · rcases List.mem_cons.mp hz with e2 | hz
      · exact absurd (List.mem_map.mpr ⟨_, hy, by rw [← e2]⟩) h1
      · exact dt_uniq h2 hy hz
def due (fs : Fs) (ds : List Dt) (d : Int) : Fs := fs.filter fun x => decide (S x.2.l ∈ onDay ds d)
theorem Of.find {n : Nat} {fs : Fs} {ds : List Dt} (h : Of n fs ds) {x : Addr × Fo} (hx : x ∈ fs) : ∃ z, (x.2.l, z) ∈ ds ∧ Wok n z ∧ z.s = x.2.s ∧ ∀ d, z.holds d = decide (S x.2.l ∈ onDay ds d) := by
  obtain ⟨⟨l, z⟩, hz, e⟩ := List.mem_map.mp ((h.mem x.2.l).mpr (List.mem_map.mpr ⟨x, hx, rfl⟩))
  have e : l = x.2.l := e
  subst e
  refine ⟨z, hz, h.oks.1 _ hz, h.seat x hx z hz, fun d => ?_⟩
  rw [Bool.eq_iff_iff, decide_eq_true_eq]
  unfold onDay
  constructor
  · intro q
    exact List.mem_map.mpr ⟨_, List.mem_filter.mpr ⟨hz, q⟩, rfl⟩
  · intro q
    obtain ⟨⟨l2, y⟩, hy, e⟩ := List.mem_map.mp q
    obtain ⟨hy1, hy2⟩ := List.mem_filter.mp hy
    have e : l2 = x.2.l := SX.S_inj e
    subst e
    rw [dt_uniq h.nd hz hy1]
    exact hy2
theorem Of.due {n : Nat} {fs : Fs} {ds : List Dt} (h : Of n fs ds) (d : Int) : (onDay ds d).Perm ((due fs ds d).map fun x => S x.2.l) ∧ ((K14.due fs ds d).map fun x => S x.2.l).Nodup := by
  have n1 := onDay_nd d h.nd
  have n2 : ((K14.due fs ds d).map fun x => S x.2.l).Nodup := by
    have q : ((K14.due fs ds d).map fun x => x.2.l).Nodup := h.nf.sublist (List.Sublist.map _ List.filter_sublist)
    have e : ((K14.due fs ds d).map fun x => S x.2.l) = ((K14.due fs ds d).map fun x => x.2.l).map S := by rw [List.map_map]; rfl
    rw [e]
    exact List.Pairwise.map S (fun a b n z => n (SX.S_inj z)) q
  refine ⟨(List.perm_ext_iff_of_nodup n1 n2).mpr fun t => ?_, n2⟩
  constructor
  · intro q
    obtain ⟨y, hy, e⟩ := List.mem_map.mp (show t ∈ (ds.filter fun x => x.2.holds d).map (fun x => S x.1) from q)
    have hy1 := (List.mem_filter.mp hy).1
    obtain ⟨x, hx, ex⟩ := List.mem_map.mp ((h.mem y.1).mp (List.mem_map.mpr ⟨y, hy1, rfl⟩))
    refine List.mem_map.mpr ⟨x, List.mem_filter.mpr ⟨hx, ?_⟩, ?_⟩
    · rw [decide_eq_true_eq, ex]
      exact e ▸ q
    · rw [← e, ← ex]
  · intro q
    obtain ⟨x, hx, rfl⟩ := List.mem_map.mp q
    exact of_decide_eq_true (List.mem_filter.mp hx).2
section
variable {P : Program} {w : World} {K : PySem.W.Frag} {mg : Str → Option Value} {base : Heap} {f fR fO C CW CP : Addr} {fd fdR fdO : FuncData}
def spStage (C CW : Addr) : Sp := fun vs H Q _ => ∃ (kw o al : Addr) (ds : List Dt) (cs : List Addr) (fs : Fs) (L : List Int) (n : Nat), vs = [.ref kw, .ref o, .ref al] ∧ Kd C CW H kw ds cs ∧ H o = some (.lst (refs fs)) ∧ FsT H fs ∧ (∀ x ∈ fs, x.2.ok) ∧ fs.length ≤ 20 ∧ Of n fs ds ∧ n ≤ 1000 ∧
  H al = some (.lst (L.map V.int)) ∧ (∀ d ∈ L, isDay d) ∧ ∀ H', Same H H' → Q (.bl true) H'
theorem ok_stage (F : Dn K d_l_stage_right f fd) (b : Bl mg) (b2 : Bl2 mg) (T : ClP K mg CP) (TK : Cls K C) (mW : Met P w K mg base 5 C "wants" (spWants C CW) []) (MP : Mak P w K mg base 4 "Person" CP (spPI CP) [.int 31])
    (hmR : Meth K C "riders" fR) (FR : FnOk P w K mg base CX0 5 fR fdR ["self", "day"] (spRiders C CW)) (kR : KBn K fdR ["self", "day"] 1 ["day"] (fun us ws => us ++ ws) (fun vs zs => vs ++ zs))
    (hmO : Meth K C "room" fO) (FO : FnOk P w K mg base CX0 6 fO fdO ["self", "day"] (spRoom C CW)) (kO : KBn K fdO ["self", "day"] 1 ["day"] (fun us ws => us ++ ws) (fun vs zs => vs ++ zs)) :
    FnOk P w K mg base CX0 7 f fd ["_law_kept", "_law_people_here", "_law_asked"] (spStage C CW) := by
  refine F.ok sc_l_stage_right (fun vs H Q E h => ?_) (fun cdv A outer s H vs Q E hr h => ?_)
  · obtain ⟨_, _, _, _, _, _, _, _, rfl, _⟩ := h
    rfl
  · obtain ⟨kw, o, al, ds, cs, fs, L, n, rfl, hk, ho, hfs, hok, hlen, hof, hn, hal, hL, hQ⟩ := h
    refine ⟨_, PSs.nox (pss_cons (ps_for PassesOwn.never rfl (pi_list (pv 2)) (pg_name (i := 3) sc_l_stage_right.nd rfl (.inr rfl))
        (pss_cons (ps_setLc (i := 4) (own := [("_law_one_here", 5)]) (g := gName 5) rfl sc_l_stage_right.nd rfl rfl (sw_true rfl rfl rfl (by decide +kernel)) (pi_list (pv 1)) (blkOk_by (N := N_l_stage_right) (sc := defScope s_l_stage_right) (by decide +kernel))
          (fun _ _ _ _ _ => pg_name (i := 5) sc_l_stage_right.nd rfl (Or.inl rfl)) (fun _ _ _ _ _ => pts_one (pt_val (pe_mt mW hr (by decide) (pv 0) (pa_cons (pe_ix (r := rIxT K) ix_tup (pv 5) pe_int (fun _ _ => rfl)) (pa_cons (pv 3) pa_nil))))) (fun _ _ _ _ _ => pv 5))
        (pss_cons (ps_if (pt_cmpR (op_neD hr.units) (KW.pe_mtK (pv 0) TK hmR FR (hr.mono (by decide)) kR (pk_cons (pv 3) pk_nil)) (pe_callB (SRT.cr_sortedTx hr.units) rfl b2.srt boot_sorted (pa_cons (pe_lc (own := [("_law_one_here", 5)]) (g := gName 5) (tt := tYes) rfl sc_l_stage_right.nd (pi_list (pv 4)) (blkOk_by (N := N_l_stage_right) (sc := defScope s_l_stage_right) (by decide +kernel))
          (fun _ _ _ _ _ => pg_name (i := 5) sc_l_stage_right.nd rfl (Or.inl rfl)) (fun _ _ _ _ _ => pts_nil) (fun _ _ _ _ _ => pe_ix (r := rIxT K) ix_tup (pv 5) pe_int (fun _ _ => rfl))) pa_nil)) (nomark _)) pss_never pss_nil)
        (pss_one (ps_if (pt_cmpR (op_ne_dictA (hu_of hr |> Nat.lt_of_succ_lt)) (KW.pe_mtK (pv 0) TK hmO FO (hr.mono (by decide)) kO (pk_cons (pv 3) pk_nil)) (pe_callTy (call_dictP rfl) rfl b2.dict boot_dict (pa_cons (pe_lc (own := [("_law_one_here", 5)]) (g := gName 5) (tt := tYes) rfl sc_l_stage_right.nd (pi_list (pv 4)) (blkOk_by (N := N_l_stage_right) (sc := defScope s_l_stage_right) (by decide +kernel))
          (fun _ _ _ _ _ => pg_name (i := 5) sc_l_stage_right.nd rfl (Or.inl rfl)) (fun _ _ _ _ _ => pts_nil) (fun _ _ _ _ _ => pe_tup (pa_cons (pe_ix (r := rIxT K) ix_tup (pv 5) pe_int (fun _ _ => rfl)) (pa_cons (pe_fldK (K := K) rfl (pe_mk MP hr (by decide) rfl (pa_cons (pe_ix (r := rIxT K) ix_tup (pv 5) pe_int (fun _ _ => rfl)) (pa_cons (pe_ix (r := rIxT K) ix_tup (pv 5) pe_int (fun _ _ => rfl)) pa_nil))) rfl) pa_nil)))) pa_nil)) (nomark _)) pss_never pss_nil)))))
      (pss_one (ps_ret pe_bl))), ?_⟩
    refine ⟨_, rfl, al, rfl, ⟨_, SqL.of hal⟩, ?_⟩
    refine for_list (K := K) (xs := L.map V.int) (fun i σ G => ∃ (v3 v4 : Option V), σ = [some (.ref kw), some (.ref o), some (.ref al), v3, v4, none] ∧ Same H G)
      ⟨_, _, rfl, fun _ _ e => e⟩ (fun i σ G _ z => by obtain ⟨_, _, _, z⟩ := z; exact SqL.of (z _ _ hal)) ?_ ?_
    · rintro i y σ G hi ⟨v3, v4, rfl, sG⟩
      rw [List.getElem?_map] at hi
      obtain ⟨d, hd, rfl⟩ := Option.map_eq_some_iff.mp hi
      have dd := hL d (List.mem_of_getElem? hd)
      -- who is due
      refine ⟨_, rfl, o, rfl, ⟨_, SqL.of (sG _ _ ho)⟩, fun D fD => ?_⟩
      refine lc_list (K := K) (xs := refs fs) (fun j G3 => G3 D = some (.lst (refs (due (fs.take j) ds d))) ∧ Same G G3) ⟨upd_same, same_new fD⟩ (fun j G3 _ z => SqL.of (z.2 _ _ (sG _ _ ho))) ?_ ?_
      · rintro j y G3 hj ⟨hD, s3⟩
        unfold refs at hj
        rw [List.getElem?_map] at hj
        obtain ⟨x, hx, rfl⟩ := Option.map_eq_some_iff.mp hj
        have hxm := List.mem_of_getElem? hx
        have s03 := sG.trans s3
        have hxt := s03 _ _ (hfs x hxm)
        have jl : j < fs.length := (List.getElem?_eq_some_iff.mp hx).1
        obtain ⟨z, hz, wok, _, hh⟩ := hof.find hxm
        have K3 := hk.keep s03
        obtain ⟨wd, dk, hkw⟩ := K3.kno
        refine ⟨rfl, _, rfl, kw, dk, _, rfl, hkw, kw_no wd (by decide +kernel), _, rfl, x.1, _, _, _, rfl, rfl, SqT.of hxt, rfl, _, rfl, kw, ds, cs, x.2.l, z, d, n, rfl, K3, hz, wok, hn, dd.1, dd.2, fun G4 s4 => ⟨_, rfl, ?_⟩⟩
        have hD4 := s4 _ _ hD
        have nxt : due (fs.take (j + 1)) ds d = due (fs.take j) ds d ++ (if z.holds d = true then [x] else []) := by
          unfold due
          rw [flt_step hx, hh d]
        refine ite2 (fun c => ?_) (fun c => ?_)
        · refine ⟨_, rfl, _, hD4, ?_, ?_, fun b w e => ?_⟩
          · unfold refs
            rw [List.length_map]
            have h1 : (due (fs.take j) ds d).length ≤ (fs.take j).length := List.length_filter_le _ _
            rw [List.length_take] at h1
            exact line_lt (by omega)
          · rw [upd_same, nxt, if_pos c]
            unfold refs
            rw [List.map_append]
            rfl
          · rw [upd_ne (ne_of_none e fD)]
            exact s4 _ _ (s3 _ _ e)
        · rw [nxt, if_neg c, List.append_nil]
          exact ⟨hD4, s3.trans s4⟩
      rintro G3 ⟨hD, s3⟩
      have hD : G3 D = some (.lst (refs (due fs ds d))) := by
        have e : (refs fs).length = fs.length := List.length_map _
        rw [e, List.take_length] at hD
        exact hD
      have s03 := sG.trans s3
      obtain ⟨pmd, nodd⟩ := hof.due d
      obtain ⟨du, edu⟩ : ∃ du, du = due fs ds d := ⟨_, rfl⟩
      rw [← edu] at hD pmd nodd
      have dum : ∀ x ∈ du, x ∈ fs := fun x hx => by
        rw [edu] at hx
        exact (List.mem_filter.mp hx).1
      have dul : du.length ≤ 20 := by
        rw [edu]
        exact Nat.le_trans (List.length_filter_le _ _) hlen
      have K3 := hk.keep s03
      obtain ⟨wd, dk, hkw⟩ := K3.kno
      -- riders
      refine ⟨_, rfl, kw, dk, _, rfl, hkw, kw_no wd (by decide +kernel), _, rfl, rfl, kw, ds, cs, d, n, rfl, K3, hof.oks, dd.1, dd.2, fun G4 q zs s4 fq hq pm2 pw2 => ?_⟩
      have hD4 := s4 _ _ hD
      have s04 := s03.trans s4
      refine ⟨_, rfl, D, rfl, ⟨_, SqL.of hD4⟩, fun D2 fD2 => ?_⟩
      refine lc_list (K := K) (xs := refs du) (fun j G => G D2 = some (.lst (((du.take j).map fun x => S x.2.l).map V.str)) ∧ Same G4 G) ⟨upd_same, same_new fD2⟩ (fun j G _ z => SqL.of (z.2 _ _ hD4)) ?_ ?_
      · rintro j y G hj ⟨hD2, s5⟩
        unfold refs at hj
        rw [List.getElem?_map] at hj
        obtain ⟨x, hx, rfl⟩ := Option.map_eq_some_iff.mp hj
        have hxt := s5 _ _ (s04 _ _ (hfs x (dum x (List.mem_of_getElem? hx))))
        have jl : j < du.length := (List.getElem?_eq_some_iff.mp hx).1
        refine ⟨rfl, _, rfl, x.1, _, _, _, rfl, rfl, SqT.of hxt, rfl, _, hD2, ?_, ?_, fun b w e => ?_⟩
        · rw [List.length_map, List.length_map, List.length_take]
          exact line_lt (by omega)
        · rw [upd_same, take_one hx, List.map_append, List.map_append]
          rfl
        · rw [upd_ne (ne_of_none e fD2)]
          exact s5 _ _ e
      rintro G5 ⟨hD2, s5⟩
      have hD2 : G5 D2 = some (.lst ((du.map fun x => S x.2.l).map V.str)) := by
        have e : (refs du).length = du.length := List.length_map _
        rw [e, List.take_length] at hD2
        exact hD2
      refine ⟨D2, _, rfl, .inl (SqL.of hD2), fun ys p pm pw fp => ?_⟩
      have sp := same_new (o := .lst (ys.map V.str)) fp
      have hp : (upd G5 p (.lst (ys.map V.str))) p = some (.lst (ys.map V.str)) := upd_same
      have s06 := (s04.trans s5).trans sp
      have s46 := s5.trans sp
      generalize upd G5 p (.lst (ys.map V.str)) = G6 at hp s06 s46 ⊢
      have ezs : zs = ys := IO.sorted_same pw2 pw ((pm2.trans pmd).trans pm.symm)
      subst ezs
      have oky : ∀ x ∈ zs, PyData.strOk x = true := fun x hx => by
        obtain ⟨y, hy, rfl⟩ := List.mem_map.mp (pm.mem_iff.mp hx)
        exact nm_ok (hok y (dum y hy)).l
      refine ⟨.list (zs.map PyData.str), .list (zs.map PyData.str), Dp.lst (SqL.of (s46 _ _ hq)) (DQ.dp_strs zs), Dp.lst (SqL.of hp) (DQ.dp_strs zs), DQ.sh_strs oky, DQ.sh_strs oky, _, rfl, ?_⟩
      rw [DQ.eq_strs]
      refine iteF ?_
      have K6 := hk.keep s06
      obtain ⟨wd2, dk2, hkw2⟩ := K6.kno
      refine ⟨_, rfl, kw, dk2, _, rfl, hkw2, kw_no wd2 (by decide +kernel), _, rfl, rfl, kw, ds, cs, d, n, rfl, K6, hof.oks, hof.nd, dd.1, dd.2, fun G8 q3 ys3 g3 s8 fq3 hq3 pm3 nd3 hg3 => ?_⟩
      have s08 := s06.trans s8
      have hD8 := s8 _ _ (s46 _ _ hD4)
      refine ⟨_, rfl, D, rfl, ⟨_, SqL.of hD8⟩, fun D3 fD3 => ?_⟩
      refine lc_list (K := K) (xs := refs du) (fun j G => ∃ as : List (Addr × Addr × Fo), as.map (·.2) = du.take j ∧ G D3 = some (.lst (as.map fun p => V.ref p.1)) ∧ Same G8 G ∧ ∀ p ∈ as, G p.1 = some (.tup [.str (S p.2.2.l), .int p.2.2.s]))
        ⟨[], rfl, upd_same, same_new fD3, fun p hp => by cases hp⟩ (fun j G _ z => by obtain ⟨_, _, _, z, _⟩ := z; exact SqL.of (z _ _ hD8)) ?_ ?_
      · rintro j y G hj ⟨as, eas, hD3, s9, hpas⟩
        unfold refs at hj
        rw [List.getElem?_map] at hj
        obtain ⟨x, hx, rfl⟩ := Option.map_eq_some_iff.mp hj
        have hxm := dum x (List.mem_of_getElem? hx)
        have okx := hok x hxm
        have hxt := s9 _ _ (s08 _ _ (hfs x hxm))
        have jl : j < du.length := (List.getElem?_eq_some_iff.mp hx).1
        have las : as.length ≤ 20 := by
          have h1 := congrArg List.length eas
          rw [List.length_map, List.length_take] at h1
          omega
        refine ⟨rfl, _, rfl, x.1, _, _, _, rfl, rfl, SqT.of hxt, rfl, ?_⟩
        refine ⟨_, rfl, x.1, _, _, _, rfl, rfl, SqT.of hxt, rfl, _, rfl, x.1, _, _, _, rfl, rfl, SqT.of hxt, rfl, fun pe pdx npe npd nne => ⟨pe, pdx, x.2.l, x.2.s, 31, rfl, okx.l, okx.s.1, okx.s.2, by decide, by decide, upd_same, fun H5 k5 h5 => ⟨rfl, ?_⟩⟩⟩
        have s95 : Same G H5 := fun b u e => by
          refine k5 b u (ne_of_none e npe) ?_
          rw [upd_ne (ne_of_none e npe), upd_ne (ne_of_none e npd)]
          exact e
        refine ⟨pe, CP, pdx, _, _, rfl, h5, T.cl, T.ns, pe_seats _ _ _, ?_⟩
        refine ⟨by show 2 ≤ sizeLine; decide, fun u fu => ?_⟩
        have su := same_new (o := .tup [V.str (S x.2.l), V.int x.2.s]) fu
        have sGu := s95.trans su
        have hDu := sGu _ _ hD3
        have nDu : D3 ≠ u := ne_of_none (s95 _ _ hD3) fu
        refine ⟨_, hDu, by rw [List.length_map]; exact line_lt (by omega), as ++ [(u, x)], ?_, ?_, fun b w e => ?_, fun z hz => ?_⟩
        · rw [List.map_append, eas, take_one hx]
          rfl
        · rw [upd_same, List.map_append]
          rfl
        · rw [upd_ne (ne_of_none e fD3)]
          exact sGu _ _ (s9 _ _ e)
        · rcases List.mem_append.mp hz with hz | hz
          · rw [upd_ne (ne_of (hpas z hz) hD3 (by intro z; cases z))]
            exact sGu _ _ (hpas z hz)
          · cases List.mem_singleton.mp hz
            rw [upd_ne nDu.symm]
            exact upd_same
      rintro G9 ⟨as, eas, hD3, s9, hpas⟩
      have eas : as.map (·.2) = du := by
        have e : (refs du).length = du.length := List.length_map _
        rw [e, List.take_length] at eas
        exact eas
      have paired : Paired (fun p kv => SqT K G9 p [kV kv.1, kv.2]) (as.map (fun p : Addr × Addr × Fo => p.1)) (as.map fun p => ((Sum.inr (S p.2.2.l) : Key), V.int p.2.2.s)) := paired_map (l := as) (g := fun p : Addr × Addr × Fo => p.1) (k := fun p => ((Sum.inr (S p.2.2.l) : Key), V.int p.2.2.s)) fun p hpm => SqT.of (hpas p hpm)
      refine ⟨D3, as.map (fun p : Addr × Addr × Fo => p.1), _, rfl, by rw [List.map_map]; exact SqL.of hD3, paired, fun e0 fe => ?_⟩
      have ekv : mergeK [] (as.map fun p => ((Sum.inr (S p.2.2.l) : Key), V.int p.2.2.s)) = (du.map fun x => S x.2.l).map fun t => ((Sum.inr t : Key), V.int (g3 t)) := by
        have e1 : (as.map fun p => ((Sum.inr (S p.2.2.l) : Key), V.int p.2.2.s)) = (du.map fun x => S x.2.l).map fun t => ((Sum.inr t : Key), V.int (g3 t)) := by
          rw [← eas, List.map_map, List.map_map]
          refine List.map_congr_left fun p hpm => ?_
          have hpf : p.2 ∈ fs := dum _ (by rw [← eas]; exact List.mem_map.mpr ⟨p, hpm, rfl⟩)
          obtain ⟨z, hz, _, hs, _⟩ := hof.find hpf
          have := hg3 _ hz
          show ((Sum.inr (S p.2.2.l) : Key), V.int p.2.2.s) = (Sum.inr (S p.2.2.l), V.int (g3 (S p.2.2.l)))
          rw [this]
          show _ = (Sum.inr (S p.2.2.l), V.int z.s)
          rw [hs]
        rw [e1]
        exact DQ.merge_map (fun t => V.int (g3 t)) (m := []) (by simpa using nodd)
      rw [ekv]
      have se := same_new (o := .dK ((du.map fun x => S x.2.l).map fun t => ((Sum.inr t : Key), V.int (g3 t)))) fe
      have pm3' : ys3.Perm (du.map fun x => S x.2.l) := pm3.trans pmd
      refine ⟨q3, e0, _, _, rfl, rfl, se _ _ (s9 _ _ hq3), upd_same, by rw [List.length_map, List.length_map]; exact pm3'.length_eq, fun kv hkv => ?_, _, rfl, ?_⟩
      · obtain ⟨t, ht, rfl⟩ := List.mem_map.mp hkv
        exact ⟨DQ.val_map (fun t => V.int (g3 t)) (pm3'.mem_iff.mp ht), rfl⟩
      · exact iteF ⟨_, _, rfl, (s08.trans s9).trans se⟩
    · rintro σ G ⟨v3, v4, rfl, sG⟩
      exact hQ G sG
end
end K14
set_option Elab.async false
set_option linter.all false
set_option maxRecDepth 100000
set_option maxHeartbeats 4000000
namespace K14
open PySem PySem.Spec PyProof.Rows L2
open SX (S)
/-! ### what a change of one person's wish leaves -/
theorem up_mem {ds : List Dt} {l : List Nat} {z : Ws} (g : Ws → Ws) (h : (l, z) ∈ ds) : (l, g z) ∈ upW ds l g := List.mem_map.mpr ⟨(l, z), h, if_pos rfl⟩
theorem up_fst (ds : List Dt) (l : List Nat) (g : Ws → Ws) : (upW ds l g).map (·.1) = ds.map (·.1) := by
  unfold upW
  rw [List.map_map]
  refine List.map_congr_left fun x _ => ?_
  show (if x.1 = l then (x.1, g x.2) else x).1 = x.1
  split <;> rfl
theorem Of.up {n : Nat} {fs : Fs} {ds : List Dt} (h : Of n fs ds) (l : List Nat) {g : Ws → Ws} (hs : ∀ z, (g z).s = z.s) (hw : ∀ z, Wok n z → Wok (n + 1) (g z)) (hn : n + 1 ≤ 1000) : Of (n + 1) fs (upW ds l g) := by
  refine ⟨⟨fun y hy => ?_, hn, by unfold upW; rw [List.length_map]; exact h.oks.2.2⟩, by rw [up_fst]; exact h.nd, h.nf, fun k => by rw [up_fst]; exact h.mem k, fun x hx z hz => ?_⟩
  · obtain ⟨y0, h0, rfl⟩ := List.mem_map.mp (show y ∈ ds.map _ from hy)
    have w0 := h.oks.1 y0 h0
    split
    · exact hw _ w0
    · exact w0.weak (by omega)
  · obtain ⟨y0, h0, e⟩ := List.mem_map.mp (show (x.2.l, z) ∈ ds.map _ from hz)
    by_cases c : y0.1 = l
    · rw [if_pos c] at e
      obtain ⟨e1, e2⟩ := Prod.mk.inj e
      rw [← e2, hs]
      exact h.seat x hx _ (by rw [← e1]; exact h0)
    · rw [if_neg c] at e
      exact h.seat x hx z (e ▸ h0)
/-! ### leaving -/
theorem leave_over {z : Ws} {d t : Int} (h : d < t) : (leaveW d z).holds t = false := by
  unfold Ws.holds
  refine if_neg fun q => ?_
  have : t ≤ d := q.1.2
  omega
theorem leave_within {z : Ws} {d D t : Int} (h : t ≤ d) (h2 : t ≤ D) : (leaveW d z).holds t = (leaveW D z).holds t := by
  unfold Ws.holds
  have e : (((leaveW d z).f ≤ t ∧ t ≤ (leaveW d z).l) ∧ sickB (leaveW d z).sp t = false) ↔ (((leaveW D z).f ≤ t ∧ t ≤ (leaveW D z).l) ∧ sickB (leaveW D z).sp t = false) := by
    show ((z.f ≤ t ∧ t ≤ d) ∧ sickB z.sp t = false) ↔ ((z.f ≤ t ∧ t ≤ D) ∧ sickB z.sp t = false)
    simp [h, h2]
  by_cases c : ((leaveW d z).f ≤ t ∧ t ≤ (leaveW d z).l) ∧ sickB (leaveW d z).sp t = false
  · rw [if_pos c, if_pos (e.mp c)]
    rfl
  · rw [if_neg c, if_neg fun q => c (e.mpr q)]
/-! ### a day alone, sick days, weekdays from a day on -/
/-- is the day one of those the person stays, and no sick one -/
def Ws.there (z : Ws) (d : Int) : Bool := decide ((z.f ≤ d ∧ d ≤ z.l) ∧ sickB z.sp d = false)
theorem holds_there (z : Ws) (d : Int) : z.holds d = (z.there d && (getI z.al d).getD (bitOn (maskAt z.ms d) d)) := by
  unfold Ws.holds Ws.there
  by_cases c : (z.f ≤ d ∧ d ≤ z.l) ∧ sickB z.sp d = false
  · rw [if_pos c, decide_eq_true c, Bool.true_and]
  · rw [if_neg c, decide_eq_false c, Bool.false_and]
theorem only_at (z : Ws) (d : Int) (b : Bool) : (onlyW d b z).holds d = (z.there d && b) := by
  rw [holds_there]
  show (z.there d && (getI (putI z.al d b) d).getD _) = _
  rw [get_put, if_pos rfl]
  rfl
theorem sick_at (z : Ws) (d : Int) : (sickW d d z).holds d = false := by
  rw [holds_there]
  have : (sickW d d z).there d = false := by
    unfold Ws.there
    refine decide_eq_false fun q => ?_
    have q : sickB (z.sp ++ [(d, d)]) d = false := q.2
    unfold sickB at q
    rw [List.any_append] at q
    simp at q
  rw [this]
  rfl
/-- a day told twice alone and then told as usual: as it was, where nothing was told alone -/
theorem usual_back {z : Ws} {d : Int} {b1 b2 : Bool} (h : getI z.al d = none) (t : Int) : (usualW d (onlyW d b2 (onlyW d b1 z))).holds t = z.holds t := by
  rw [holds_there, holds_there]
  show (z.there t && (getI (dropI (putI (putI z.al d b1) d b2) d) t).getD _) = _
  rw [get_drop, get_put, get_put]
  by_cases c : t = d
  · subst c
    rw [if_pos rfl, h]
    rfl
  · rw [if_neg c, if_neg c, if_neg c]
    rfl
theorem well_sick {sp : List (Int × Int)} {d u : Int} (h : sickB sp u = false) : sickB (wellL sp d) u = false := by
  unfold sickB wellL at *
  rw [List.any_eq_false] at *
  intro x hx q
  obtain ⟨y, hy, rfl⟩ := List.mem_map.mp hx
  have q := of_decide_eq_true q
  refine h y (List.mem_filter.mp hy).1 (decide_eq_true ⟨q.1, ?_⟩)
  have := q.2
  dsimp only at this
  split at this <;> omega
theorem well_nil {sp : List (Int × Int)} {d : Int} {new : List (Int × Int)} (hn : ∀ x ∈ new, d ≤ x.1) : wellL (sp ++ new) d = wellL sp d := by
  unfold wellL
  rw [List.filter_append]
  have : new.filter (fun x => decide (x.1 < d)) = [] := List.filter_eq_nil_iff.mpr fun x hx => by
    have := hn x hx
    simp
    omega
  rw [this, List.append_nil]
/-- told well from the first day on: never sick -/
theorem well_all {sp : List (Int × Int)} {u : Int} (h : 0 ≤ u) : sickB (wellL sp 0) u = false := by
  unfold sickB wellL
  rw [List.any_eq_false]
  intro x hx q
  obtain ⟨y, hy, rfl⟩ := List.mem_map.mp hx
  have q := of_decide_eq_true q
  have q2 := q.2
  dsimp only at q2
  split at q2 <;> omega
theorem well_there {z : Ws} {d t u : Int} (hw : sickB z.sp u = false) : (wellW d (sickW d d (sickW d t z))).there u = z.there u := by
  have e : sickB (wellW d (sickW d d (sickW d t z))).sp u = sickB z.sp u := by
    show sickB (wellL (z.sp ++ [(d, t)] ++ [(d, d)]) d) u = _
    rw [List.append_assoc, well_nil (fun x hx => by simp at hx; rcases hx with rfl | rfl <;> exact Int.le_refl _), hw]
    exact well_sick hw
  unfold Ws.there
  rw [e]
  rfl
theorem well_back {z : Ws} {d t u : Int} (hw : sickB z.sp u = false) : (wellW d (sickW d d (sickW d t z))).holds u = z.holds u := by
  rw [holds_there, holds_there, well_there hw]
  rfl
theorem weekly_at {z : Ws} {d : Int} {m : Nat} (h0 : ∀ k ∈ z.ms.map (·.1), 0 ≤ k) (d0 : 0 ≤ d) : maskAt (weeklyW m d z).ms d = m := by
  have e : startOn (putI z.ms d m) d = d := start_is (fun k hk => by
      rcases put_keys hk with q | q
      · exact h0 k q
      · omega) (List.mem_filter.mpr ⟨(getI_isSome _ _).mp (by rw [get_put, if_pos rfl]; rfl), decide_eq_true (Int.le_refl d)⟩) fun y hy => of_decide_eq_true (List.mem_filter.mp hy).2
  show (getI (putI z.ms d m) (startOn (putI z.ms d m) d)).getD 0 = m
  rw [e, get_put, if_pos rfl]
  rfl
theorem bit_all (d : Int) : bitOn 127 d = true := by
  unfold bitOn
  have h1 : (d % 7).toNat < 7 := by omega
  generalize (d % 7).toNat = k at h1
  have : ∀ k : Fin 7, decide (127 / 2 ^ k.1 % 2 = 1) = true := by decide
  exact this ⟨k, h1⟩
theorem bit_none (d : Int) : bitOn 0 d = false := by
  unfold bitOn
  rw [Nat.zero_div]
  rfl
theorem weekly_all {z : Ws} {d : Int} (h0 : ∀ k ∈ z.ms.map (·.1), 0 ≤ k) (d0 : 0 ≤ d) (h : getI z.al d = none) : (weeklyW 127 d z).holds d = z.there d := by
  rw [holds_there, weekly_at h0 d0, bit_all]
  show (z.there d && (getI z.al d).getD true) = _
  rw [h]
  exact Bool.and_true _
theorem weekly_none {z : Ws} {d : Int} (h0 : ∀ k ∈ z.ms.map (·.1), 0 ≤ k) (d0 : 0 ≤ d) (h : getI z.al d = none) : (weeklyW 0 d z).holds d = false := by
  rw [holds_there, weekly_at h0 d0, bit_none]
  show (z.there d && (getI z.al d).getD false) = _
  rw [h]
  exact Bool.and_false _
end K14
set_option Elab.async false
set_option linter.all false
set_option maxRecDepth 100000
set_option maxHeartbeats 4000000
namespace K14
open PySem PySem.Spec PyProof.Rows L2
open C8 (Cal Mak Met pe_c pe_mk pe_mt pe_mt0)
open SX (S)
open SRT (leS)
/-! ### what is told of the Wants, as they change -/
theorem rules_none (l : List Nat) : ∀ (ts : List Dd) (R : Rl), (∀ t ∈ ts, ¬ t.l = l) → ts.foldl (fun R x => if x.l = l then x.rl R else R) R = R
  | [], _, _ => rfl
  | t :: ts, R, h => by
    show ts.foldl _ (if t.l = l then t.rl R else R) = R
    rw [if_neg (h t List.mem_cons_self)]
    exact rules_none l ts R fun z hz => h z (List.mem_cons_of_mem _ hz)
theorem Wok.act {n : Nat} {z : Ws} (h : Wok n z) {x : Dd} (hx : x.ok) : Wok (n + 1) (x.act z) := by
  have h1 := h.nm
  have h2 := h.na
  have h3 := h.ns
  cases x with
  | leave l d => exact ⟨h.f0, h.fm, h.k0, by show z.ms.length ≤ _; omega, by show z.al.length ≤ _; omega, by show z.sp.length ≤ _; omega⟩
  | weekly l m d =>
    refine ⟨h.f0, ?_, fun k hk => ?_, ?_, by show z.al.length ≤ _; omega, by show z.sp.length ≤ _; omega⟩
    · show z.f ∈ (putI z.ms d m).map (·.1)
      rw [← getI_isSome, get_put]
      split
      · rfl
      · exact (getI_isSome _ _).mpr h.fm
    · rcases put_keys (show k ∈ (putI z.ms d m).map (·.1) from hk) with q | q
      · exact h.k0 k q
      · rw [q]
        exact hx.2.1
    · have := put_len z.ms d m
      show (putI z.ms d m).length ≤ _
      omega
  | only l d b =>
    refine ⟨h.f0, h.fm, h.k0, by show z.ms.length ≤ _; omega, ?_, by show z.sp.length ≤ _; omega⟩
    have := put_len z.al d b
    show (putI z.al d b).length ≤ _
    omega
  | usual l d =>
    refine ⟨h.f0, h.fm, h.k0, by show z.ms.length ≤ _; omega, ?_, by show z.sp.length ≤ _; omega⟩
    have := drop_len z.al d
    show (dropI z.al d).length ≤ _
    omega
  | sick l a t =>
    refine ⟨h.f0, h.fm, h.k0, by show z.ms.length ≤ _; omega, by show z.al.length ≤ _; omega, ?_⟩
    show (z.sp ++ [(a, t)]).length ≤ _
    rw [List.length_append]
    show _ + 1 ≤ _
    omega
  | well l d =>
    refine ⟨h.f0, h.fm, h.k0, by show z.ms.length ≤ _; omega, by show z.al.length ≤ _; omega, ?_⟩
    show (wellL z.sp d).length ≤ _
    unfold wellL
    rw [List.length_map]
    have := List.length_filter_le (fun x : Int × Int => decide (x.1 < d)) z.sp
    omega
theorem Sync.enter {n : Nat} {fs : Fs} {ds : List Dt} {ts : List Dd} {x : Addr × Fo} (h : Sync n fs ds ts) (hn : 1 ≤ n) (okx : x.2.ok) (new : ∀ t ∈ ts, ¬ t.l = x.2.l) : Sync n (fs ++ [x]) (ds ++ [(x.2.l, newW x.2.s x.2.b x.2.m)]) ts := by
  refine ⟨by rw [List.length_append, List.length_append, h.len]; rfl, fun k y z h1 h2 => ?_⟩
  by_cases q : k < fs.length
  · rw [List.getElem?_append_left q] at h1
    rw [List.getElem?_append_left (by rw [h.len]; exact q)] at h2
    exact h.each k y z h1 h2
  · have hk : k = fs.length := by
      have := (List.getElem?_eq_some_iff.mp h1).1
      rw [List.length_append] at this
      simp at this
      omega
    subst hk
    rw [List.getElem?_append_right (Nat.le_refl _), Nat.sub_self] at h1
    rw [List.getElem?_append_right (by rw [h.len]; exact Nat.le_refl _), h.len, Nat.sub_self] at h2
    cases (Option.some.inj h1 : x = y)
    cases (Option.some.inj h2 : (x.2.l, newW x.2.s x.2.b x.2.m) = z)
    have er : rulesOf x.2.l ts = ⟨none, [], [], []⟩ := rules_none _ _ _ new
    rw [er]
    exact ⟨rfl, Rel.start x.2, ⟨okx.b.1, by simp [newW], fun k hk => by simp [newW] at hk; rw [hk]; exact okx.b.1, by simp [newW]; omega, by simp [newW], by simp [newW]⟩⟩
theorem Sync.told {n : Nat} {fs : Fs} {ds : List Dt} {ts : List Dd} (h : Sync n fs ds ts) {x : Dd} (hx : x.ok) : Sync (n + 1) fs (upW ds x.l x.act) (ts ++ [x]) := by
  refine ⟨by unfold upW; rw [List.length_map]; exact h.len, fun k y z h1 h2 => ?_⟩
  unfold upW at h2
  rw [List.getElem?_map] at h2
  obtain ⟨z0, hz0, rfl⟩ := Option.map_eq_some_iff.mp h2
  obtain ⟨q1, q2, q3⟩ := h.each k y z0 h1 hz0
  rw [rules_snoc]
  by_cases c : z0.1 = x.l
  · rw [if_pos c, if_pos (by rw [← c, q1])]
    exact ⟨q1, q2.step x, q3.act hx⟩
  · rw [if_neg c, if_neg (fun z => c (by rw [q1, z]))]
    exact ⟨q1, q2, q3.weak (by omega)⟩
theorem Sync.start {gs : Fs} (hok : ∀ x ∈ gs, x.2.ok) : Sync 1 gs (startD gs) [] := by
  refine ⟨by unfold startD; rw [List.length_map], fun k x y e1 e2 => ?_⟩
  unfold startD at e2
  rw [List.getElem?_map, e1] at e2
  cases (Option.some.inj e2 : (x.2.l, newW x.2.s x.2.b x.2.m) = y)
  have okx := hok x (List.mem_of_getElem? e1)
  exact ⟨rfl, Rel.start x.2, ⟨okx.b.1, by simp [newW], fun k hk => by simp [newW] at hk; rw [hk]; exact okx.b.1, Nat.le_refl _, Nat.zero_le _, Nat.zero_le _⟩⟩
theorem Sync.weak {n n' : Nat} {fs : Fs} {ds : List Dt} {ts : List Dd} (h : Sync n fs ds ts) (le : n ≤ n') : Sync n' fs ds ts := ⟨h.len, fun k x y h1 h2 => by
  obtain ⟨q1, q2, q3⟩ := h.each k x y h1 h2
  exact ⟨q1, q2, q3.weak le⟩⟩
theorem out_fr {H H' : Hp} {c c' : List Addr} {b : Addr} {o : HO} (n : b ∉ c) (e : H b = some o) (f : Fr H H' c c') : b ∉ c' := fun h => by
  rcases f.2 b h with z | z
  · exact n z
  · rw [e] at z
    cases z
end K14
set_option Elab.async false
set_option linter.all false
set_option maxRecDepth 100000
set_option maxHeartbeats 4000000
namespace K14
open PySem PySem.Spec PyProof.Rows L2
open C8 (Cal Mak Met pe_c pe_mk pe_mt pe_mt0)
open SX (S)
open SRT (leS)
/-! ### what stands between the law's steps -/
theorem Pen.fr {H H' : Hp} {p : Addr} {c : Nat} {cs cs' : List Addr} (x : Pen H p c) (oc : ∀ b ∈ cs, Off p b H) (f : Fr H H' cs cs') : Pen H' p c := by
  obtain ⟨la, ns, n, m, e1, e2, e3⟩ := x
  have h1 : p ∉ cs := fun h => (oc _ h).ne rfl
  have h2 : la ∉ cs := fun h => by
    obtain ⟨la', n', m', e', n1, n2⟩ := oc _ h
    cases pen_inj (Option.some.inj (e1.symm.trans e'))
    exact n1 rfl
  exact ⟨la, ns, n, m, f.1 _ _ h1 e1, f.1 _ _ h2 e2, e3⟩
theorem Off.fr {H H' : Hp} {p D : Addr} {cs cs' : List Addr} (x : Off p D H) (hp : p ∉ cs) (f : Fr H H' cs cs') : Off p D H' := by
  obtain ⟨la', n', m', e', n1, n2⟩ := x
  exact ⟨la', n', m', f.1 _ _ hp e', n1, n2⟩
structure Fx (fs : Fs) (L : List Int) : Prop where
  ok : ∀ x ∈ fs, x.2.ok
  l1 : 1 ≤ fs.length
  l5 : fs.length ≤ 5
  nd : (fs.map fun x => x.2.l).Nodup
  ly : ∀ d ∈ L, isDay d
  y1 : 1 ≤ L.length
  y2 : L.length ≤ 100
structure Lv (C CW pn kw o al : Addr) (c n : Nat) (fs : Fs) (L : List Int) (H : Hp) (ds : List Dt) (cs : List Addr) (ts : List Dd) : Prop where
  pen : Pen H pn c
  kd : Kd C CW H kw ds cs
  oc : ∀ b ∈ cs, Off pn b H
  o_ : H o = some (.lst (refs fs))
  oo : Off pn o H
  no : o ∉ cs
  al_ : H al = some (.lst (L.map V.int))
  oa : Off pn al H
  na : al ∉ cs
  ft : FsT H fs
  sy : Sync n fs ds ts
section
variable {C CW pn kw o al : Addr} {c c' n n' : Nat} {fs : Fs} {L : List Int} {H H' : Hp} {ds ds' : List Dt} {cs cs' : List Addr} {ts : List Dd}
theorem Lv.kpp (h : Lv C CW pn kw o al c n fs L H ds cs ts) (k : Kp pn H H') (pen : Pen H' pn c') : Lv C CW pn kw o al c' n fs L H' ds cs ts := by
  obtain ⟨l, ns, n1, m, hp, _⟩ := id h.pen
  exact ⟨pen, h.kd.keepP (fun b hb o e => k.1 _ _ e (h.oc b hb).ne) (fun c dx fs e => k.1 _ _ e (ne_of e hp (by intro z; cases z))) (fun b vs e => k.1 _ _ e (ne_of e hp (by intro z; cases z))), fun b hb => (h.oc b hb).kp k,
    k.1 _ _ h.o_ h.oo.ne, h.oo.kp k, h.no, k.1 _ _ h.al_ h.oa.ne, h.oa.kp k, h.na, fun x hx => k.1 _ _ (h.ft x hx) (ne_of (h.ft x hx) hp (by intro z; cases z)), h.sy⟩
theorem Lv.same (h : Lv C CW pn kw o al c n fs L H ds cs ts) (s : Same H H') : Lv C CW pn kw o al c n fs L H' ds cs ts := h.kpp (Kp.same s) (h.pen.same s)
theorem Lv.weak (h : Lv C CW pn kw o al c n fs L H ds cs ts) (hc : c' ≤ c) (hn : n ≤ n') : Lv C CW pn kw o al c' n' fs L H ds cs ts := ⟨h.pen.weak hc, h.kd, h.oc, h.o_, h.oo, h.no, h.al_, h.oa, h.na, h.ft, h.sy.weak hn⟩
theorem Lv.pnc (h : Lv C CW pn kw o al c n fs L H ds cs ts) : pn ∉ cs := fun hb => (h.oc _ hb).ne rfl
theorem Lv.told (h : Lv C CW pn kw o al c n fs L H ds cs ts) {x : Dd} (hx : x.ok) (k : Kd C CW H' kw (upW ds x.l x.act) cs') (f : Fr H H' cs cs') : Lv C CW pn kw o al c (n + 1) fs L H' (upW ds x.l x.act) cs' (ts ++ [x]) := by
  refine ⟨h.pen.fr h.oc f, k, fun b hb => ?_, f.1 _ _ h.no h.o_, h.oo.fr h.pnc f, out_fr h.no h.o_ f, f.1 _ _ h.na h.al_, h.oa.fr h.pnc f, out_fr h.na h.al_ f, fun x hx => f.1 _ _ (fun hb => (h.kd.some hb).2 _ (h.ft x hx)) (h.ft x hx), h.sy.told hx⟩
  rcases f.2 b hb with z | z
  · exact (h.oc b z).fr h.pnc f
  · exact (Off.of h.pen z).fr h.pnc f
theorem Lv.wish (h : Lv C CW pn kw o al c n fs L H ds cs ts) {x : Addr × Fo} (hx : x ∈ fs) : ∃ z, (x.2.l, z) ∈ ds ∧ Rel x.2 z (rulesOf x.2.l ts) ∧ Wok n z := by
  obtain ⟨y, hy, e, r, w⟩ := h.sy.at hx
  exact ⟨y.2, by rw [← e]; exact hy, r, w⟩
theorem Sync.of (h : Sync n fs ds ts) (hn : n ≤ 1000) (nd : (fs.map fun x => x.2.l).Nodup) (hl : fs.length ≤ 1000) : Of n fs ds := by
  refine ⟨h.oks hn hl, by rw [h.names]; exact nd, nd, fun l => by rw [h.names], fun x hx z hz => ?_⟩
  obtain ⟨y, hy, e, r, w⟩ := h.at hx
  have nd2 : (ds.map (·.1)).Nodup := by rw [h.names]; exact nd
  rw [dt_uniq nd2 hz (show (x.2.l, y.2) ∈ ds by rw [← e]; exact hy)]
  exact r.s
/-- a list that is neither the pen's nor the Wants' -/
theorem Lv.new (h : Lv C CW pn kw o al c n fs L H ds cs ts) {D : Addr} (f : H D = none) : D ∉ cs := fun hb => by
  obtain ⟨⟨u, e⟩, _⟩ := h.kd.some hb
  rw [f] at e
  cases e
end
theorem seen_eq {fs : Fs} {ts us : List Dd} {L : List Int} (h : ∀ x ∈ fs, ∀ d ∈ L, lawOn x.2 (rulesOf x.2.l ts) d = lawOn x.2 (rulesOf x.2.l us) d) : seenD fs ts L = seenD fs us L := by
  have e1 : ∀ d ∈ L, lawDay fs ts d = lawDay fs us d := fun d hd => by
    unfold lawDay
    congr 1
    exact List.filter_congr fun x hx => h x hx d hd
  have e2 : ∀ d ∈ L, bitsD fs ts d = bitsD fs us d := fun d hd => by
    unfold bitsD
    congr 1
    refine List.map_congr_left fun x hx => ?_
    rw [h x hx d hd]
  have e3 : ∀ d ∈ L, roomD fs ts d = roomD fs us d := fun d hd => by
    unfold roomD
    rw [e1 d hd]
  unfold seenD
  congr 1
  have : ∀ M : List Int, (∀ d ∈ M, d ∈ L) → (M.flatMap fun d => [bitsD fs ts d, roomD fs ts d]) = M.flatMap fun d => [bitsD fs us d, roomD fs us d] := by
    intro M
    induction M with
    | nil => intro _; rfl
    | cons d M ih =>
      intro hM
      rw [List.flatMap_cons, List.flatMap_cons, e2 d (hM d List.mem_cons_self), e3 d (hM d List.mem_cons_self), ih fun z hz => hM z (List.mem_cons_of_mem _ hz)]
  exact this L fun d hd => hd
theorem rules_off {l : List Nat} {ts us : List Dd} (h : ∀ x ∈ us, ¬ x.l = l) : rulesOf l (ts ++ us) = rulesOf l ts := by
  unfold rulesOf
  rw [List.foldl_append]
  exact rules_none l us _ h
end K14
namespace K14
open PySem PySem.Spec PyProof.Rows L2
open SX (S)
theorem Lv.step {C CW pn kw o al : Addr} {c n : Nat} {fs : Fs} {L : List Int} {H H' : Hp} {ds : List Dt} {cs cs' : List Addr} {ts : List Dd} {l : List Nat} {z : Ws} (h : Lv C CW pn kw o al c n fs L H ds cs ts) (hz : (l, z) ∈ ds) {x : Dd} (hx : x.ok) (el : x.l = l) (k : Kd C CW H' kw (upW ds x.l x.act) cs') (f : Fr H H' cs cs') :
    ∃ ds', Lv C CW pn kw o al c (n + 1) fs L H' ds' cs' (ts ++ [x]) ∧ (l, x.act z) ∈ ds' := by
  subst el
  exact ⟨_, h.told hx k f, up_mem x.act hz⟩
theorem Lv.wok {C CW pn kw o al : Addr} {c n : Nat} {fs : Fs} {L : List Int} {H : Hp} {ds : List Dt} {cs : List Addr} {ts : List Dd} {l : List Nat} {z : Ws} (h : Lv C CW pn kw o al c n fs L H ds cs ts) (hz : (l, z) ∈ ds) (hn : n ≤ 1000) (hl : fs.length ≤ 1000) : Wok n z := (h.sy.oks hn hl).1 _ hz
end K14
set_option Elab.async false
set_option linter.all false
set_option maxRecDepth 100000
set_option maxHeartbeats 4000000
/-! a method's call that may raise, within a try -/
namespace MSD
open PySem PySem.Spec PyProof.Rows L2
section
variable {X : Cx} {CX : CXT} {k : Nat} {f C : Addr} {fd : FuncData} {ps : List Str} {sp : Sp} {E : L2.St → XK} {m : Str} {p pos apos : Pos} {e o : Expr} {es : List Expr} {ta : TE} {t : TA}
theorem pe_methS {pl : Sem Bool} (he : PE X o ta) (c : Cls X.K C) (hm : Meth X.K C m f) (F : FnOk X.prog X.w X.K X.mg X.base CX k f fd ps sp) (hr : Room k X.A) (hb : Binds X.K fd ps []) (hx : ∀ σ, PassesAt CX X σ (E σ)) (ha : PA X (e :: es) t)
    (hst : starEach (e :: es) X.env = (false, eval e X.env) :: starEach es X.env := by rfl) (hpl : (backTo pos (starEach es X.env)).any (·.1) = false := by rfl)
    (ht : eval (.Call (.Attribute o m apos) (e :: es) [] pos) X.env = (do
      let ov ← eval o X.env
      standAt apos.atName
      let (f, first) ← holding [ov] (getMethod ov m pl)
      callWith pos f first (backTo pos (starEach (e :: es) X.env)) (backToKw pos (keywordEach [] X.env))) := by rfl) :
    PE X (.Call (.Attribute o m apos) (e :: es) [] pos) (fun σ H Q => ta σ H fun x H1 => ∃ a dx fs, x = .ref a ∧ H1 a = some (.ins C dx fs) ∧ fs.lookup m = none ∧ t σ H1 fun vs H2 => sp (x :: vs) H2 Q (E σ)) := by
  refine ⟨fun pins s σ H Q I h => ?_⟩
  refine PySem.W.methodCall_KW (pl := pl) (thn (he.run pins s σ H _ I h) fun u s1 ⟨x, H1, I1, rx, a, dx, fs, ex, ea, l, q⟩ => ?_) ht
  subst ex
  obtain rfl : u = Value.ref a := rx
  refine getmeth_ok I1 ea c hm l ?_
  refine PySem.W.callWith_K (first := [.ref a]) (h₀ := X.base) I.ok.mod.kin hm.kp (thn (ha.run pos pins s1 σ H1 _ I1 q) fun us s2 ⟨vs, H2, I2, r, q2⟩ => ⟨I2.kIn, ?_⟩) hst hpl
  exact run_fnS (us := .ref a :: us) (vs := .ref a :: vs) F hr hb (hx σ) I2 (.cons rfl r) q2
end
end MSD
set_option Elab.async false
set_option linter.all false
set_option maxRecDepth 100000
set_option maxHeartbeats 4000000
namespace K14
open PySem PySem.Spec PyProof.Rows L2
open C8 (Cal Mak Met pe_c pe_mk pe_mt pe_mt0)
open SX (S)
abbrev leT : List Value := [.type "LookupError", .type "Exception", .type "BaseException", .type "object"]
/-- what is known of NoDay -/
structure Knd (K : PySem.W.Frag) (mg : Str → Option Value) (N fN : Addr) : Prop where
  gx : GX.Gx K N leT "LookupError.__new__"
  iC : PySem.W.findIn K (.ref N) "__init__" = some (some (.ref fN))
  tI : PySem.W.typeIn K (.ref fN) = some (.type "function")
  vV : PySem.W.findCls K (.type "LookupError") (.type "type") "__init__" = some (.val (.builtin "LookupError.__init__"))
  no : PySem.W.findIn K (.ref N) "day" = some none
  g : mg "NoDay" = some (.ref N)
  zb : mg "LookupError" = none
  te : PySem.W.exmOne K (.ref N) (.ref N) = some true
theorem typLe : typeOf (.type "LookupError") = pure (.type "type") := by kernel_rfl
section
variable {P : Program} {w : World} {K : PySem.W.Frag} {mg : Str → Option Value} {base : Heap} {f N fN fU C CW : Addr} {fd fdN fdU : FuncData}
def spNo (N : Addr) : Sp := fun vs H Q _ => ∃ (a : Addr) (v : V), vs = [.ref a, v] ∧ H a = some (exo a N none) ∧ ∀ dx, H dx = none → dx ≠ a → Q .non (upd (upd H dx (exd dx [("day", v)])) a (exo a N (some dx)))
theorem ok_No (F : Dn K d_NoDay_init f fd) (T : Knd K mg N fN) : FnOk P w K mg base CX0 1 f fd ["self", "day"] (spNo N) := by
  refine F.ok sc_NoDay_init (fun vs H Q E h => ?_) (fun cdv A outer s H vs Q E hr h => ?_)
  · obtain ⟨a, v, rfl, _⟩ := h
    rfl
  · obtain ⟨a, v, rfl, ha, hQ⟩ := h
    refine ⟨_, PSs.nox (pss_cons (ps_expr (GX.pe_bi PySem.F.excBase_LookupError rfl T.zb PyProof.Rows.Boot.«LookupError» typLe T.vV (by decide +kernel) (by decide +kernel) (pa_cons (pv 0) (pa_cons pe_str pa_nil))))
      (pss_one (GX.ps_pf PySem.F.store_LookupError (nid := "LookupError.__new__") (pv 0) (pv 1)))), ?_⟩
    refine ⟨_, rfl, a, N, _, rfl, by show 1 ≤ 1000; decide, T.gx, ha, ?_⟩
    exact ⟨_, rfl, _, rfl, a, N, rfl, T.gx, T.no, ha, hQ⟩
theorem raiseT {H : Hp} {E : XK} {v : V} (hE : ∀ d H', Same H H' → H d = none → H' d = some (.xd [("day", v)]) → E (.ref N) (some d) H') {H1 : Hp} (s1 : Same H H1) {a d : Addr} (ha : H1 a = none) (hd : (upd H1 a (exo a N none)) d = none) (ne : d ≠ a) :
    E (.ref N) (some d) (upd (del (upd (upd (upd H1 a (exo a N none)) d (exd d [("day", v)])) a (exo a N (some d))) a) d (.xd [("day", v)])) := by
  rw [upd_ne ne] at hd
  refine hE d _ (fun b o e => ?_) (s1.free hd) upd_same
  have e1 := s1 b o e
  have b1 : b ≠ d := ne_of_none e1 hd
  have b2 : b ≠ a := ne_of_none e1 ha
  rw [upd_ne b1, del_ne b2, upd_ne b2, upd_ne b1, upd_ne b2]
  exact e1
/-- a day alone taken back, where it is told or not -/
def spUsualX (C CW N : Addr) : Sp := fun vs H Q E => ∃ (kw : Addr) (ds : List Dt) (cs : List Addr) (l : List Nat) (z : Ws) (d : Int), vs = [.ref kw, .str (S l), .int d] ∧ Kd C CW H kw ds cs ∧ (l, z) ∈ ds ∧ z.al.length ≤ 1000 ∧ 0 ≤ d ∧ d ≤ 1000000 ∧
  ((getI z.al d).isSome = true → ∀ H' cs', Kd C CW H' kw (upW ds l (usualW d)) cs' → Fr H H' cs cs' → Q .non H') ∧ ((getI z.al d).isSome = false → ∀ dx H', Same H H' → H dx = none → H' dx = some (.xd [("day", .int d)]) → E (.ref N) (some dx) H')
theorem ok_usualX (F : Dn K d_Wants_usual f fd) (mW : MetW P w K mg base C CW) (cC : CalC P w K mg base) (TW : ClW K mg CW) (T : Knd K mg N fN) (FN : FnOk P w K mg base CX0 1 fN fdN ["self", "day"] (spNo N)) (bN : Binds K fdN ["self", "day"] []) : FnOk P w K mg base (L2.CX P w) 5 f fd ["self", "name", "day"] (spUsualX C CW N) := by
  refine F.ok sc_Wants_usual (fun vs H Q E h => ?_) (fun cdv A outer s H vs Q E hr h => ?_)
  · obtain ⟨kw, ds, cs, l, z, d, rfl, _⟩ := h
    rfl
  · obtain ⟨kw, ds, cs, l, z, d, rfl, hk, hm, hlen, d0, d1, hQ, hE⟩ := h
    have hk0 := hk
    obtain ⟨wd, z1, z2, a, rfl, rfl, hk, W, hnd⟩ := hk.find hm
    obtain ⟨dk, hkw⟩ := hk.at_
    have hu := hu_of hr
    refine ⟨_, pss_cons (ps_set (i := 3) sc_Wants_usual.nd rfl (.inl rfl) (pe_mt mW hr (by decide) (pv 0) (pa_cons (pv 1) pa_nil))) (pss_cons (ps_expr (pe_c cC hr (by decide) rfl (pa_cons (pv 2) pa_nil)))
      (pss_cons (ps_if (pt_cmp (pc_dnotin hu (pv 2) (pe_fld (pv 3) rfl))) (pss_one (ps_raise rfl (takes_of rfl rfl rfl rfl) (GX.pmk_gx PySem.F.excBase_LookupError T.gx T.iC T.tI FN (hr.mono (by decide)) bN .nil pass0 rfl T.g (pa_cons (pv 2) pa_nil)))) pss_nil) (pss_one (ps_ddel (pe_fld (pv 3) rfl) (pv 2))))), ?_⟩
    refine ⟨_, rfl, kw, dk, _, rfl, hkw, kw_no wd (by decide +kernel), _, rfl, kw, wd, _, l, a, z, rfl, hk, by simp, ?_⟩
    refine ⟨_, rfl, d, rfl, d0, d1, ?_⟩
    have look := (wi_look z.s z.f z.l a.mm a.ad a.sd).2.1
    refine ⟨_, rfl, _, rfl, a.q, CW, a.dx, _, _, rfl, W.at_, TW.cl, TW.n5, look, a.ad, _, rfl, DGet.k (k := Sum.inl d) W.ad_, _, rfl, ?_⟩
    rw [val_enc, Option.isSome_map]
    cases hin : (getI z.al d).isSome with
    | true =>
      refine iteF ?_
      refine ⟨_, rfl, a.q, CW, a.dx, _, _, rfl, W.at_, TW.cl, TW.n5, look, _, rfl, a.ad, _, Sum.inl d, rfl, W.ad_, rfl, ?_, ?_⟩
      · rw [val_enc, Option.isSome_map, hin]
      rw [drop_enc V.bl z.al d]
      obtain ⟨n1, n2, n3, n4, n5, n6⟩ := cel_ne hnd
      obtain ⟨sps, es, hs, hx⟩ := W.sp_
      obtain ⟨t1, t2⟩ := W.wrote (b := a.ad) (o := .dK (enc V.bl (dropI z.al d))) (by simp [cel])
      obtain ⟨cs', k1, k2⟩ := Kd.step (usualW d) hk t1 (a' := a) ⟨by rw [upd_ne n2]; exact W.at_, by rw [upd_ne n4]; exact W.mk_, upd_same, ⟨sps, es, by rw [upd_ne n6.symm]; exact hs, t2 sps hx⟩, W.nma⟩ rfl (fun b hb => .inl hb) hnd
      exact hQ hin _ cs' k1 k2
    | false =>
      refine iteT ?_
      exact ⟨_, rfl, by show 1 ≤ 1000; decide, fun b hb => ⟨b, _, rfl, upd_same, fun dx hdx ne => ⟨rfl, dx, _, upd_same, (by rw [upd_ne ne]; exact upd_same), (by rw [upd_ne ne] at hdx; exact hdx), raiseT (hE hin) (Same.refl _) hb hdx ne⟩⟩⟩
/-- nothing is told alone on that day -/
def spIsNo (C CW : Addr) : Sp := fun vs H Q _ => ∃ (kw : Addr) (ds : List Dt) (cs : List Addr) (l : List Nat) (z : Ws) (d : Int) (n : Nat), vs = [.ref kw, .str (S l), .int d] ∧ Kd C CW H kw ds cs ∧ (l, z) ∈ ds ∧ Wok n z ∧ n ≤ 1000 ∧ isDay d ∧ getI z.al d = none ∧ ∀ H', Same H H' → Q (.bl true) H'
theorem ok_isNo (F : Dn K d_l_is_no_day f fd) (TK : Cls K C) (T : Knd K mg N fN) (meU : Meth K C "usual" fU) (FU : FnOk P w K mg base (L2.CX P w) 5 fU fdU ["self", "name", "day"] (spUsualX C CW N)) (bU : Binds K fdU ["self", "name", "day"] []) :
    FnOk P w K mg base CX0 6 f fd ["_law_kept", "_law_called", "_law_today"] (spIsNo C CW) := by
  refine F.ok sc_l_is_no_day (fun vs H Q E h => ?_) (fun cdv A outer s H vs Q E hr h => ?_)
  · obtain ⟨_, _, _, _, _, _, _, rfl, _⟩ := h
    rfl
  · obtain ⟨kw, ds, cs, l, z, d, n, rfl, hk, hz, wok, hn, hd, hnone, hQ⟩ := h
    refine ⟨_, PSs.nox (pss_cons (ps_try_only rfl rfl ⟨rfl, by decide, .inl T.g⟩ takes0
        (fun W pn xe tk _ => pss_one (ps_expr (MSD.pe_methS (E := fun σ cls d H => W cls d σ H) (pv 0) TK meU FU (hr.mono (by decide)) bU (fun σ => passAt tk σ) (pa_cons (pv 1) (pa_cons (pv 2) pa_nil)))))
        (fun a oe cls d pn _ _ => pss_one (ps_ret pe_bl)))
      (pss_one (ps_ret pe_bl))), ?_⟩
    obtain ⟨wd, dk, hkw⟩ := hk.kno
    refine ⟨_, rfl, kw, dk, _, rfl, hkw, kw_no wd (by decide +kernel), _, rfl, _, rfl, kw, ds, cs, l, z, d, rfl, hk, hz, by have := wok.na; omega, hd.1, hd.2, fun e => ?_, fun _ dx H' s1 f1 e1 => ?_⟩
    · rw [hnone] at e
      cases e
    · exact ⟨true, T.te, fun _ a ha => hQ H' s1, fun z => nomatch z⟩
end
end K14
set_option Elab.async false
set_option linter.all false
set_option maxRecDepth 100000
set_option maxHeartbeats 4000000
/-! MKX: a method's call by places and keywords: o.m(x, .., k = v, ..). -/
namespace MKX
open PySem PySem.Spec PyProof.Rows L2
section
variable {X : Cx} {k n : Nat} {C f : Addr} {fd : FuncData} {ps ks : List Str} {sp : Sp} {m : Str} {pos apos : Pos} {e o : Expr} {es : List Expr} {kws : List Keyword} {ta : TE} {t tk : TA} {g : List Value → List Value → List Value} {gV : List V → List V → List V}
theorem pe_mtN {pl : Sem Bool} (he : PE X o ta) (c : Cls X.K C) (hm : Meth X.K C m f) (F : FnOk X.prog X.w X.K X.mg X.base CX0 k f fd ps sp) (hr : Room k X.A) (hb : KBn X.K fd ps (n + 1) ks g gV) (ha : PA X (e :: es) t) (hkw : PK X kws tk)
    (hall : (backToKw pos (keywordEach kws X.env)).all (·.1.isSome) = true := by rfl) (hks : (backToKw pos (keywordEach kws X.env)).filterMap (·.1) = ks := by rfl)
    (hst : starEach (e :: es) X.env = (false, eval e X.env) :: starEach es X.env := by rfl)
    (hpl : ((backTo pos (starEach (e :: es) X.env)).any (·.1) || (backToKw pos (keywordEach kws X.env)).any (·.1.isNone)) = false := by rfl)
    (ht : eval (.Call (.Attribute o m apos) (e :: es) kws pos) X.env = (do
      let ov ← eval o X.env
      standAt apos.atName
      let (f, first) ← holding [ov] (getMethod ov m pl)
      callWith pos f first (backTo pos (starEach (e :: es) X.env)) (backToKw pos (keywordEach kws X.env))) := by rfl) :
    PE X (.Call (.Attribute o m apos) (e :: es) kws pos) (fun σ H Q => ta σ H fun x H1 => ∃ a dx fs, x = .ref a ∧ H1 a = some (.ins C dx fs) ∧ fs.lookup m = none ∧ t σ H1 fun vs H2 => tk σ H2 fun zs H3 => vs.length = n ∧ zs.length = ks.length ∧ sp (gV (.ref a :: vs) zs) H3 Q E0) := by
  refine ⟨fun pins s σ H Q I h => ?_⟩
  refine PySem.W.methodCall_KW (pl := pl) (thn (he.run pins s σ H _ I h) fun u s1 ⟨x, H1, I1, rx, a, dx, fs, ex, ea, l, q⟩ => ?_) ht
  subst ex
  obtain rfl : u = Value.ref a := rx
  refine getmeth_ok I1 ea c hm l (PySem.W.callWith_KW (first := [.ref a]) (h₀ := X.base) I.ok.mod.kin hm.kp hall (thn (ha.run pos pins s1 σ H1 _ I1 q) fun us s2 ⟨vs, H2, I2, r, q2⟩ => ?_) hpl hst)
  refine thn (hkw.run pos pins s2 σ H2 _ I2 q2) fun ws s3 ⟨zs, H3, I3, rz, l1, l2, q3⟩ => ⟨I3.kIn, ?_⟩
  rw [hks]
  exact run_fnN (us := .ref a :: us) (vs := .ref a :: vs) F hr hb (fun _ _ _ _ _ _ _ h => False.elim h) I3 (.cons rfl r) rz (by rw [List.length_cons, l1]) l2 q3
end
end MKX
set_option Elab.async false
set_option linter.all false
set_option maxRecDepth 100000
set_option maxHeartbeats 4000000
namespace K14
open PySem PySem.Spec PyProof.Rows L2
open C8 (Cal Mak Met pe_c pe_mk pe_mt pe_mt0)
open SX (S)
/-- of one person's changes only that person's days are others -/
theorem seen_back {fs : Fs} {ts us : List Dd} {L : List Int} {n1 n2 : Nat} {d1 d2 : List Dt} {x : Addr × Fo} {z1 z2 : Ws} (hx : x ∈ fs) (nd : (fs.map fun x => x.2.l).Nodup) (hL : ∀ d ∈ L, isDay d) (s1 : Sync n1 fs d1 ts) (s2 : Sync n2 fs d2 (ts ++ us)) (h1 : (x.2.l, z1) ∈ d1) (h2 : (x.2.l, z2) ∈ d2) (off : ∀ y ∈ us, y.l = x.2.l)
    (e : ∀ d ∈ L, z2.holds d = z1.holds d) : seenD fs (ts ++ us) L = seenD fs ts L := by
  refine seen_eq fun y hy d hd => ?_
  by_cases c : y.2.l = x.2.l
  · obtain rfl := uniq nd hy hx c
    have nd1 : (d1.map (·.1)).Nodup := by rw [s1.names]; exact nd
    have nd2 : (d2.map (·.1)).Nodup := by rw [s2.names]; exact nd
    obtain ⟨y1, hy1, e1, r1, w1⟩ := s1.at hx
    obtain ⟨y2, hy2, e2, r2, w2⟩ := s2.at hx
    have q1 : y1.2 = z1 := dt_uniq nd1 (show (y.2.l, y1.2) ∈ d1 by rw [← e1]; exact hy1) h1
    have q2 : y2.2 = z2 := dt_uniq nd2 (show (y.2.l, y2.2) ∈ d2 by rw [← e2]; exact hy2) h2
    rw [← r1.holds w1 d (hL d hd), ← r2.holds w2 d (hL d hd), q1, q2]
    exact e d hd
  · rw [rules_off fun u hu => by rw [off u hu]; exact fun z => c z.symm]
section
variable {P : Program} {w : World} {K : PySem.W.Frag} {mg : Str → Option Value} {base : Heap} {f N fN fU fO C CW : Addr} {fd fdN fdU fdO : FuncData}
def spAlone (C CW : Addr) : Sp := fun vs H Q _ => ∃ (pn kw o al : Addr) (c : Nat) (ds : List Dt) (cs : List Addr) (ts : List Dd) (fs : Fs) (L : List Int) (n : Nat), vs = [.ref pn, .ref kw, .ref o, .ref al] ∧ Lv C CW pn kw o al (c + 3) n fs L H ds cs ts ∧ Fx fs L ∧ n + 10 ≤ 1000 ∧
  ∀ H' ds' cs' ts', Lv C CW pn kw o al c (n + 10) fs L H' ds' cs' ts' → Q (.bl true) H'
theorem ok_alone (F : Dn K d_l_alone_right f fd) (b : Bl mg) (TK : Cls K C) (T : Knd K mg N fN) (cD : CalD P w K mg base) (M : Mts P w K mg base C CW) (mW : Met P w K mg base 5 C "wants" (spWants C CW) [])
    (hmU : Meth K C "usual" fU) (FX : FnOk P w K mg base (L2.CX P w) 5 fU fdU ["self", "name", "day"] (spUsualX C CW N)) (bU : Binds K fdU ["self", "name", "day"] [])
    (FU : FnOk P w K mg base CX0 5 fU fdU ["self", "name", "day"] (spUsual C CW)) (kU : KBn K fdU ["self", "name", "day"] 1 ["day", "name"] (fun us ws => us ++ ws.reverse) (fun vs zs => vs ++ zs.reverse))
    (hmO : Meth K C "only" fO) (FO : FnOk P w K mg base CX0 5 fO fdO ["self", "name", "day", "want"] (spOnly C CW)) (kO : KBn K fdO ["self", "name", "day", "want"] 3 ["want"] (fun us ws => us ++ ws) (fun vs zs => vs ++ zs))
    (cSe : GL.CalG P w K mg base 7 "_law_seen" (spSeen C CW) []) (cI : Cal P w K mg base 6 "_law_is_no_day" (spIsNo C CW) []) :
    GL.FnG P w K mg base 8 f fd ["_law_pen_here", "_law_kept", "_law_people_here", "_law_asked"] (spAlone C CW) := by
  refine GL.okG F sc_l_alone_right (fun vs H Q E h => ?_) (fun cdv A outer s H vs Q E hgd hr h => ?_)
  · obtain ⟨_, _, _, _, _, _, _, _, _, _, _, rfl, _⟩ := h
    rfl
  · obtain ⟨pn, kw, o, al, c, ds, cs, ts, fs, L, n, rfl, lv, fx, hn, hQ⟩ := h
    have hgd2 : (A.deeper (envOfC d_l_alone_right.qual d_l_alone_right.scope s.heap.objs.size f cdv)).guards = some [] := hgd
    refine ⟨_, PSs.nox (pss_cons (ps_par (i := 4) (j := 5) rfl sc_l_alone_right.nd rfl rfl (by decide) rfl rfl (pa_cons (pe_ix ix_tup (pe_ix ix_list (pv 2) (pe_c cD hr (by decide) rfl (pa_cons (pv 0) (pa_cons (pe_callB call_len_seq rfl b.len boot_len (pa_cons (pv 2) pa_nil)) pa_nil))) (fun _ _ => rfl)) pe_int (fun _ _ => rfl))
        (pa_cons (pe_ix ix_list (pv 3) (pe_c cD hr (by decide) rfl (pa_cons (pv 0) (pa_cons (pe_callB call_len_seq rfl b.len boot_len (pa_cons (pv 3) pa_nil)) pa_nil))) (fun _ _ => rfl)) pa_nil)) rfl)
      (C8.pss_cut (ps_try_only rfl rfl ⟨rfl, by decide, .inl T.g⟩ takes0
        (fun W pn xe tk _ => pss_one (ps_expr (MSD.pe_methS (E := fun σ cls d H => W cls d σ H) (pv 1) TK hmU FX (hr.mono (by decide)) bU (fun σ => passAt tk σ) (pa_cons (pv 4) (pa_cons (pv 5) pa_nil)))))
        (fun a oe cls d pn _ _ => pss_one ps_pass))
      (pss_cons (ps_expr (pe_mt M.we hr (by decide) (pv 1) (pa_cons (pv 4) (pa_cons pe_int pa_nil))))
      (pss_cons (ps_set (i := 6) sc_l_alone_right.nd rfl (.inl rfl) (GL.pe_cG cSe hgd2 hr (by decide) rfl (pa_cons (pv 1) (pa_cons (pv 2) (pa_cons (pv 3) pa_nil)))))
      (pss_cons (ps_expr (MKX.pe_mtN (pv 1) TK hmO FO (hr.mono (by decide)) kO (pa_cons (pv 4) (pa_cons (pv 5) pa_nil)) (pk_cons pe_bl pk_nil)))
      (pss_cons (ps_if (pt_val (pe_mt mW hr (by decide) (pv 1) (pa_cons (pv 4) (pa_cons (pv 5) pa_nil)))) pss_never pss_nil)
      (pss_cons (ps_expr (pe_mt M.on0 hr (by decide) (pv 1) (pa_cons (pv 4) (pa_cons (pv 5) pa_nil))))
      (pss_cons (ps_set (i := 7) sc_l_alone_right.nd rfl (.inl rfl) (pe_mt mW hr (by decide) (pv 1) (pa_cons (pv 4) (pa_cons (pv 5) pa_nil))))
      (pss_cons (ps_expr (KW.pe_mtK (pv 1) TK hmU FU (hr.mono (by decide)) kU (pk_cons (pv 5) (pk_cons (pv 4) pk_nil))))
      (pss_cons (ps_if (PW.pt (pw_or (pt_cmpR op_ne (GL.pe_cG cSe hgd2 hr (by decide) rfl (pa_cons (pv 1) (pa_cons (pv 2) (pa_cons (pv 3) pa_nil)))) (pv 6) (nomark _)) (pw_or1 (pt_not (pt_val (pe_c cI hr (by decide) rfl (pa_cons (pv 1) (pa_cons (pv 4) (pa_cons (pv 5) pa_nil))))))))) pss_never pss_nil)
      (pss_cons (ps_expr (pe_mt M.sk hr (by decide) (pv 1) (pa_cons (pv 4) (pa_cons (pv 5) (pa_cons (pe_callB (call_min2 rfl) rfl b.min boot_min (pa_cons pe_int (pa_cons (pe_op op_add (pv 5) (pe_c cD hr (by decide) rfl (pa_cons (pv 0) (pa_cons pe_int pa_nil)))) pa_nil))) pa_nil)))))
      (pss_cons (ps_expr (pe_mt M.sk hr (by decide) (pv 1) (pa_cons (pv 4) (pa_cons (pv 5) (pa_cons (pv 5) pa_nil)))))
      (pss_cons (ps_if (pt_val (pe_mt mW hr (by decide) (pv 1) (pa_cons (pv 4) (pa_cons (pv 5) pa_nil)))) pss_never pss_nil)
      (pss_cons (ps_expr (pe_mt M.we hr (by decide) (pv 1) (pa_cons (pv 4) (pa_cons (pv 5) pa_nil))))
      (pss_cons (ps_if (pt_cmpR op_ne (GL.pe_cG cSe hgd2 hr (by decide) rfl (pa_cons (pv 1) (pa_cons (pv 2) (pa_cons (pv 3) pa_nil)))) (pv 6) (nomark _)) pss_never pss_nil)
      (pss_cons (ps_expr (pe_mt M.wk hr (by decide) (pv 1) (pa_cons (pv 4) (pa_cons pe_int (pa_cons (pv 5) pa_nil)))))
      (pss_cons (ps_if (pt_cmpR op_ne (pe_mt mW hr (by decide) (pv 1) (pa_cons (pv 4) (pa_cons (pv 5) pa_nil))) (pv 7) (nomark _)) pss_never pss_nil)
      (pss_cons (ps_expr (pe_mt M.wk hr (by decide) (pv 1) (pa_cons (pv 4) (pa_cons pe_int (pa_cons (pv 5) pa_nil)))))
      (pss_one (ps_ret (pe_not (pe_mt mW hr (by decide) (pv 1) (pa_cons (pv 4) (pa_cons (pv 5) pa_nil)))))))))))))))))))))))), ?_⟩
    have l1 := fx.l1
    have l5 := fx.l5
    have y1 := fx.y1
    have y2 := fx.y2
    refine ⟨_, rfl, _, rfl, _, rfl, o, _, rfl, .inl (SqL.of lv.o_), pn, c + 2, _, rfl, lv.pen, by unfold refs; rw [List.length_map]; omega, by unfold refs; rw [List.length_map]; omega, fun r1 H1 a1 z1 pen1 k1 => ?_⟩
    have lv1 := lv.kpp k1 pen1
    unfold refs at z1
    rw [List.length_map] at z1
    obtain ⟨x, hx, el⟩ := pick (fun x : Addr × Fo => V.ref x.1) a1 z1
    refine ⟨o, _, _, _, rfl, rfl, SqL.of lv1.o_, el, x.1, _, _, _, rfl, rfl, SqT.of (lv1.ft x hx), rfl, ?_⟩
    refine ⟨_, rfl, _, rfl, _, rfl, al, _, rfl, .inl (SqL.of lv1.al_), pn, c + 1, _, rfl, lv1.pen, by rw [List.length_map]; omega, by rw [List.length_map]; omega, fun r2 H2 a2 z2 pen2 k2 => ?_⟩
    have lv2 := lv1.kpp k2 pen2
    rw [List.length_map] at z2
    obtain ⟨d, hd, ed⟩ := pick V.int a2 z2
    have dd := fx.ly d hd
    refine ⟨al, _, _, _, rfl, rfl, SqL.of lv2.al_, ed, _, _, rfl, ?_⟩
    clear lv lv1
    refine ⟨fun σ' H' => ∃ (ds' : List Dt) (cs' : List Addr) (ts' : List Dd) (z : Ws), σ' = [some (.ref pn), some (.ref kw), some (.ref o), some (.ref al), some (.str (S x.2.l)), some (.int d), none, none] ∧ Lv C CW pn kw o al (c + 1) (n + 1) fs L H' ds' cs' ts' ∧ (x.2.l, z) ∈ ds' ∧ getI z.al d = none, ?_, ?_⟩
    · obtain ⟨z, hz, rel, wok⟩ := lv2.wish hx
      obtain ⟨wd, dk, hkw⟩ := lv2.kd.kno
      refine ⟨_, rfl, kw, dk, _, rfl, hkw, kw_no wd (by decide +kernel), _, rfl, _, rfl, kw, ds, cs, x.2.l, z, d, rfl, lv2.kd, hz, by have := wok.na; omega, dd.1, dd.2, fun e H' cs' k f => ?_, fun e dx H' s1 f1 e1 => ?_⟩
      · refine ⟨_, cs', _, _, rfl, lv2.told (x := .usual x.2.l d) dd k f, up_mem (usualW d) hz, ?_⟩
        show getI (dropI z.al d) d = none
        rw [get_drop, if_pos rfl]
      · exact ⟨true, T.te, fun _ a ha => ⟨ds, cs, ts, z, rfl, (lv2.same s1).weak (Nat.le_refl _) (by omega), hz, by simpa using e⟩, fun z => nomatch z⟩
    rintro σ' H3 ⟨ds3, cs3, ts3, z, rfl, lv3, hz, hno⟩
    clear lv2
    -- well from the first day on
    have wok := lv3.wok hz (by omega) (by omega)
    obtain ⟨wd, dk, hkw⟩ := lv3.kd.kno
    refine ⟨_, rfl, kw, dk, _, rfl, hkw, kw_no wd (by decide +kernel), _, rfl, kw, ds3, cs3, x.2.l, z, 0, rfl, lv3.kd, hz, by have := wok.ns; omega, by decide, by decide, fun H4 cs4 k4 f4 => ?_⟩
    obtain ⟨ds4, lv4, hz4⟩ := lv3.step hz (x := .well x.2.l 0) (⟨by decide, by decide⟩ : isDay 0) rfl k4 f4
    have noS : ∀ u ∈ L, sickB (wellW 0 z).sp u = false := fun u hu => well_all (fx.ly u hu).1
    have noA : getI (wellW 0 z).al d = none := hno
    have hz4 : (x.2.l, wellW 0 z) ∈ ds4 := hz4
    generalize wellW 0 z = Z at hz4 noS noA
    generalize ts3 ++ [.well x.2.l 0] = ts4 at lv4
    clear lv3 k4 f4 hz hno wok hkw
    refine ⟨_, rfl, _, rfl, _, rfl, kw, o, al, ds4, ds4, cs4, fs, fs, ts4, L, _, rfl, lv4.kd, List.Perm.refl _, lv4.o_, lv4.ft, fx.ok, rfl, fx.nd, by omega, lv4.sy, by omega, lv4.al_, fx.ly, y2, fun H5 s5 => ?_⟩
    have lv5 := lv4.same s5
    have sy4 := lv4.sy
    clear lv4
    -- alone: no
    have wok := lv5.wok hz4 (by omega) (by omega)
    obtain ⟨wd, dk, hkw⟩ := lv5.kd.kno
    refine ⟨_, rfl, kw, dk, _, rfl, hkw, kw_no wd (by decide +kernel), _, rfl, _, rfl, rfl, rfl, kw, ds4, cs4, x.2.l, Z, d, false, rfl, lv5.kd, hz4, by have := wok.na; omega, dd.1, dd.2, fun H6 cs6 k6 f6 => ?_⟩
    obtain ⟨ds6, lv6, hz6⟩ := lv5.step hz4 (x := .only x.2.l d false) dd rfl k6 f6
    have hz6 : (x.2.l, onlyW d false Z) ∈ ds6 := hz6
    clear lv5 k6 f6 wok hkw
    have wok := lv6.wok hz6 (by omega) (by omega)
    obtain ⟨wd, dk, hkw⟩ := lv6.kd.kno
    refine ⟨_, rfl, kw, dk, _, rfl, hkw, kw_no wd (by decide +kernel), _, rfl, _, rfl, kw, ds6, cs6, x.2.l, _, d, _, rfl, lv6.kd, hz6, wok, by omega, dd.1, dd.2, fun H7 s7 => ⟨_, rfl, ?_⟩⟩
    rw [only_at, Bool.and_false]
    refine iteF ?_
    have lv7 := lv6.same s7
    clear lv6 wok hkw
    -- alone: yes
    have wok := lv7.wok hz6 (by omega) (by omega)
    obtain ⟨wd, dk, hkw⟩ := lv7.kd.kno
    refine ⟨_, rfl, kw, dk, _, rfl, hkw, kw_no wd (by decide +kernel), _, rfl, _, rfl, kw, ds6, cs6, x.2.l, _, d, true, rfl, lv7.kd, hz6, by have := wok.na; omega, dd.1, dd.2, fun H8 cs8 k8 f8 => ?_⟩
    obtain ⟨ds8, lv8, hz8⟩ := lv7.step hz6 (x := .only x.2.l d true) dd rfl k8 f8
    have hz8 : (x.2.l, onlyW d true (onlyW d false Z)) ∈ ds8 := hz8
    clear lv7 k8 f8 wok hkw
    have wok := lv8.wok hz8 (by omega) (by omega)
    obtain ⟨wd, dk, hkw⟩ := lv8.kd.kno
    refine ⟨_, rfl, kw, dk, _, rfl, hkw, kw_no wd (by decide +kernel), _, rfl, _, rfl, kw, ds8, cs8, x.2.l, _, d, _, rfl, lv8.kd, hz8, wok, by omega, dd.1, dd.2, fun H9 s9 => ?_⟩
    rw [only_at, Bool.and_true]
    have lv9 := lv8.same s9
    clear lv8 wok hkw
    have th : (onlyW d false Z).there d = Z.there d := rfl
    rw [th]
    -- as usual again
    have wok := lv9.wok hz8 (by omega) (by omega)
    obtain ⟨wd, dk, hkw⟩ := lv9.kd.kno
    refine ⟨_, rfl, kw, dk, _, rfl, hkw, kw_no wd (by decide +kernel), _, rfl, _, rfl, rfl, kw, ds8, cs8, x.2.l, _, d, rfl, lv9.kd, hz8, by have := wok.na; omega, ?_, dd.1, dd.2, fun H10 cs10 k10 f10 => ?_⟩
    · show (getI (putI _ d true) d).isSome = true
      rw [get_put, if_pos rfl]
      rfl
    obtain ⟨ds10, lv10, hz10⟩ := lv9.step hz8 (x := .usual x.2.l d) dd rfl k10 f10
    have hz10 : (x.2.l, usualW d (onlyW d true (onlyW d false Z))) ∈ ds10 := hz10
    have hh10 : ∀ u, (usualW d (onlyW d true (onlyW d false Z))).holds u = Z.holds u := usual_back noA
    have noA10 : getI (usualW d (onlyW d true (onlyW d false Z))).al d = none := by
      show getI (dropI _ d) d = none
      rw [get_drop, if_pos rfl]
    have th10 : (usualW d (onlyW d true (onlyW d false Z))).there d = Z.there d := rfl
    have noS10 : ∀ u ∈ L, sickB (usualW d (onlyW d true (onlyW d false Z))).sp u = false := noS
    generalize usualW d (onlyW d true (onlyW d false Z)) = Y at hz10 hh10 noA10 noS10 th10
    clear lv9 k10 f10 wok hkw
    have e10 : ts4 ++ [.only x.2.l d false] ++ [.only x.2.l d true] ++ [.usual x.2.l d] = ts4 ++ [.only x.2.l d false, .only x.2.l d true, .usual x.2.l d] := by simp
    rw [e10] at lv10
    have sn10 := seen_back hx fx.nd fx.ly sy4 lv10.sy hz4 hz10 (fun y hy => by
      simp only [List.mem_cons, List.not_mem_nil, or_false] at hy
      rcases hy with rfl | rfl | rfl <;> rfl) (fun u _ => hh10 u)
    refine ⟨_, rfl, _, rfl, _, rfl, kw, o, al, ds10, ds10, cs10, fs, fs, _, L, _, rfl, lv10.kd, List.Perm.refl _, lv10.o_, lv10.ft, fx.ok, rfl, fx.nd, by omega, lv10.sy, by omega, lv10.al_, fx.ly, y2, fun H11 s11 => ?_⟩
    have lv11 := lv10.same s11
    clear lv10
    rw [sn10]
    refine ⟨_, rfl, rfl, _, rfl, ?_⟩
    rw [decide_eq_true rfl]
    refine iteF ?_
    have wok := lv11.wok hz10 (by omega) (by omega)
    refine ⟨_, rfl, _, rfl, _, rfl, kw, ds10, cs10, x.2.l, Y, d, _, rfl, lv11.kd, hz10, wok, by omega, dd, noA10, fun H12 s12 => ⟨_, rfl, iteF ?_⟩⟩
    have lv12 := lv11.same s12
    clear lv11 wok
    -- sick
    obtain ⟨wd, dk, hkw⟩ := lv12.kd.kno
    refine ⟨_, rfl, kw, dk, _, rfl, hkw, kw_no wd (by decide +kernel), _, rfl, _, rfl, _, rfl, _, rfl, pn, c, 9, rfl, lv12.pen, by decide, by decide, fun r3 H13 a3 z3 pen13 k13 => ?_⟩
    have lv13 := lv12.kpp k13 pen13
    clear lv12 hkw
    refine ⟨_, _, rfl, rfl, _, _, rfl, ?_⟩
    obtain ⟨fr, efr, hfr0, hfr1⟩ : ∃ fr : Int, fr = (if d + r3 < 1000000 then d + r3 else 1000000) ∧ d ≤ fr ∧ fr ≤ 1000000 := ⟨_, rfl, by obtain ⟨d0, d1⟩ := dd; split <;> omega, by split <;> omega⟩
    rw [← efr]
    have wok := lv13.wok hz10 (by omega) (by omega)
    refine ⟨kw, ds10, cs10, x.2.l, Y, d, fr, rfl, lv13.kd, hz10, by have := wok.ns; omega, dd.1, hfr0, hfr1, fun H14 cs14 k14 f14 => ?_⟩
    obtain ⟨ds14, lv14, hz14⟩ := lv13.step hz10 (x := .sick x.2.l d fr) (⟨dd, hfr0, by have := dd.1; omega, hfr1⟩ : isDay d ∧ d ≤ fr ∧ isDay fr) rfl k14 f14
    have hz14 : (x.2.l, sickW d fr Y) ∈ ds14 := hz14
    have sy10 := lv13.sy
    clear lv13 k14 f14 wok
    have wok := lv14.wok hz14 (by omega) (by omega)
    obtain ⟨wd, dk, hkw⟩ := lv14.kd.kno
    refine ⟨_, rfl, kw, dk, _, rfl, hkw, kw_no wd (by decide +kernel), _, rfl, _, rfl, _, rfl, kw, ds14, cs14, x.2.l, _, d, d, rfl, lv14.kd, hz14, by have := wok.ns; omega, dd.1, Int.le_refl _, dd.2, fun H15 cs15 k15 f15 => ?_⟩
    obtain ⟨ds15, lv15, hz15⟩ := lv14.step hz14 (x := .sick x.2.l d d) (⟨dd, Int.le_refl _, dd⟩ : isDay d ∧ d ≤ d ∧ isDay d) rfl k15 f15
    have hz15 : (x.2.l, sickW d d (sickW d fr Y)) ∈ ds15 := hz15
    clear lv14 k15 f15 wok hkw
    have wok := lv15.wok hz15 (by omega) (by omega)
    obtain ⟨wd, dk, hkw⟩ := lv15.kd.kno
    refine ⟨_, rfl, kw, dk, _, rfl, hkw, kw_no wd (by decide +kernel), _, rfl, _, rfl, kw, ds15, cs15, x.2.l, _, d, _, rfl, lv15.kd, hz15, wok, by omega, dd.1, dd.2, fun H16 s16 => ⟨_, rfl, ?_⟩⟩
    rw [sick_at]
    refine iteF ?_
    have lv16 := lv15.same s16
    clear lv15 wok hkw
    -- well again
    have wok := lv16.wok hz15 (by omega) (by omega)
    obtain ⟨wd, dk, hkw⟩ := lv16.kd.kno
    refine ⟨_, rfl, kw, dk, _, rfl, hkw, kw_no wd (by decide +kernel), _, rfl, _, rfl, kw, ds15, cs15, x.2.l, _, d, rfl, lv16.kd, hz15, by have := wok.ns; omega, dd.1, dd.2, fun H17 cs17 k17 f17 => ?_⟩
    obtain ⟨ds17, lv17, hz17⟩ := lv16.step hz15 (x := .well x.2.l d) dd rfl k17 f17
    have hz17 : (x.2.l, wellW d (sickW d d (sickW d fr Y))) ∈ ds17 := hz17
    have hh17 : ∀ u ∈ L, (wellW d (sickW d d (sickW d fr Y))).holds u = Z.holds u := fun u hu => by rw [well_back (noS10 u hu), hh10]
    have noA17 : getI (wellW d (sickW d d (sickW d fr Y))).al d = none := noA10
    have th17 : (wellW d (sickW d d (sickW d fr Y))).there d = Z.there d := by rw [well_there (noS10 d hd), th10]
    generalize wellW d (sickW d d (sickW d fr Y)) = X at hz17 hh17 noA17 th17
    clear lv16 k17 f17 wok hkw
    have e17 : ts4 ++ [.only x.2.l d false, .only x.2.l d true, .usual x.2.l d] ++ [.sick x.2.l d fr] ++ [.sick x.2.l d d] ++ [.well x.2.l d] = ts4 ++ [.only x.2.l d false, .only x.2.l d true, .usual x.2.l d, .sick x.2.l d fr, .sick x.2.l d d, .well x.2.l d] := by simp
    rw [e17] at lv17
    have sn17 := seen_back hx fx.nd fx.ly sy4 lv17.sy hz4 hz17 (fun y hy => by
      simp only [List.mem_cons, List.not_mem_nil, or_false] at hy
      rcases hy with rfl | rfl | rfl | rfl | rfl | rfl <;> rfl) hh17
    refine ⟨_, rfl, _, rfl, _, rfl, kw, o, al, ds17, ds17, cs17, fs, fs, _, L, _, rfl, lv17.kd, List.Perm.refl _, lv17.o_, lv17.ft, fx.ok, rfl, fx.nd, by omega, lv17.sy, by omega, lv17.al_, fx.ly, y2, fun H18 s18 => ?_⟩
    have lv18 := lv17.same s18
    clear lv17
    rw [sn17]
    refine ⟨_, rfl, rfl, _, rfl, ?_⟩
    rw [decide_eq_true rfl]
    refine iteF ?_
    -- every weekday
    have wok := lv18.wok hz17 (by omega) (by omega)
    obtain ⟨wd, dk, hkw⟩ := lv18.kd.kno
    refine ⟨_, rfl, kw, dk, _, rfl, hkw, kw_no wd (by decide +kernel), _, rfl, _, rfl, kw, ds17, cs17, x.2.l, X, 127, d, rfl, lv18.kd, hz17, by have := wok.nm; omega, by decide, dd.1, dd.2, fun H19 cs19 k19 f19 => ?_⟩
    obtain ⟨ds19, lv19, hz19⟩ := lv18.step hz17 (x := .weekly x.2.l 127 d) (⟨by decide, dd⟩ : 127 ≤ 127 ∧ isDay d) rfl k19 f19
    have hz19 : (x.2.l, weeklyW 127 d X) ∈ ds19 := hz19
    have ew := weekly_all (z := X) wok.k0 dd.1 noA17
    clear lv18 k19 f19 wok hkw
    have wok := lv19.wok hz19 (by omega) (by omega)
    obtain ⟨wd, dk, hkw⟩ := lv19.kd.kno
    refine ⟨_, rfl, kw, dk, _, rfl, hkw, kw_no wd (by decide +kernel), _, rfl, _, rfl, kw, ds19, cs19, x.2.l, _, d, _, rfl, lv19.kd, hz19, wok, by omega, dd.1, dd.2, fun H20 s20 => ?_⟩
    rw [ew, th17]
    refine ⟨_, rfl, rfl, _, rfl, ?_⟩
    rw [decide_eq_true rfl]
    refine iteF ?_
    have lv20 := lv19.same s20
    clear lv19 wok hkw
    -- none
    have wok := lv20.wok hz19 (by omega) (by omega)
    obtain ⟨wd, dk, hkw⟩ := lv20.kd.kno
    refine ⟨_, rfl, kw, dk, _, rfl, hkw, kw_no wd (by decide +kernel), _, rfl, _, rfl, kw, ds19, cs19, x.2.l, _, 0, d, rfl, lv20.kd, hz19, by have := wok.nm; omega, by decide, dd.1, dd.2, fun H21 cs21 k21 f21 => ?_⟩
    obtain ⟨ds21, lv21, hz21⟩ := lv20.step hz19 (x := .weekly x.2.l 0 d) (⟨by decide, dd⟩ : 0 ≤ 127 ∧ isDay d) rfl k21 f21
    have hz21 : (x.2.l, weeklyW 0 d (weeklyW 127 d X)) ∈ ds21 := hz21
    have ew := weekly_none (z := weeklyW 127 d X) wok.k0 dd.1 noA17
    clear lv20 k21 f21 wok hkw
    have wok := lv21.wok hz21 (by omega) (by omega)
    obtain ⟨wd, dk, hkw⟩ := lv21.kd.kno
    refine ⟨_, rfl, kw, dk, _, rfl, hkw, kw_no wd (by decide +kernel), _, rfl, _, rfl, kw, ds21, cs21, x.2.l, _, d, _, rfl, lv21.kd, hz21, wok, by omega, dd.1, dd.2, fun H22 s22 => ⟨_, rfl, ?_⟩⟩
    rw [ew]
    exact hQ _ _ _ _ ((lv21.same s22).weak (by omega) (by omega))
end
end K14
set_option Elab.async false
set_option linter.all false
set_option maxRecDepth 100000
set_option maxHeartbeats 4000000
/-! HX: f"{n:02x}" of small numbers. -/
namespace HX
open PySem PySem.W PySem.Calls PyProof.Rows
open Builtin Builtin.Str Builtin.Int
/-- a figure of sixteen -/
def hexd (k : Nat) : Nat := if k < 10 then 48 + k else 87 + k
def hex2 (n : Nat) : PySem.Str := ⟨#[hexd (n / 16), hexd (n % 16)]⟩
theorem hex2_len (n : Nat) : (hex2 n).length = 2 := rfl
theorem fmt_hex {n : Nat} {t : Tok} (h : n < 256) : ∀ u, Meets («int.__format__» ⟨[.int (n : Int) t, .str "02x" u], []⟩) (fun _ R s => ∀ t' k, R (.ok (.ret (.str (hex2 n) t'))) { s with toks := k }) := by
  intro _
  apply KPc.meets_of
  intro _ _ _ _ _ _ hq
  unfold Builtin.«int.__format__»
  refine wpAny_bind (wpAny_of_eq (a := (_, _)) rfl ?_)
  refine wpAny_bind (wpAny_of_eq (a := _) rfl ?_)
  kxf_if
  refine wpAny_bind (wpAny_typeNameOf (T := "str") (typeIs_str _ _ _) (by decide) fun _ => ?_)
  refine wpAny_bind (wpAny_of_eq (a := some _) rfl ?_)
  kxf_if
  kxf_if
  refine wpAny_bind (wpAny_typeNameOfCut_int ?_)
  (repeat kxf_if)
  refine (fun e => KXf.ret_text e (Nat.le_trans (Nat.le_of_eq (congrArg PySem.Str.length e)) (by show 2 ≤ sizeLine; decide)) hq) ?_
  clear hq
  revert n
  decide +kernel
section
open PySem.Spec L2
variable {X : Cx}
/-- {n:02x} -/
def tFmtX (te : TE) : TE := fun σ H Q => te σ H fun x H1 => ∃ n : Nat, x = .int (n : Int) ∧ n < 256 ∧ Q (.str (hex2 n)) H1
theorem pe_fmtX {e : Expr} {te : TE} {pos p1 p2 : Pos} {k : Nat} (he : PE X e te) : PE X (.FormattedValue e (-1) (some (.JoinedStr [.Constant (.str "02x") k p1] p2)) pos) (tFmtX te) := by
  refine ⟨fun pins s σ H Q I h => ?_⟩
  refine wpAny_FormattedValue_spec (thn (he.run pins s σ H _ I h) fun v s1 hv => ?_)
  obtain ⟨x, H1, I1, r1, n, rfl, hn, q⟩ := hv
  obtain ⟨t, rfl⟩ := r1
  refine wpAny_JoinedStr_one (thn ((pe_str (X := X) (x := "02x") (j := k) (pos := p1)).run pins s1 σ H1 (fun v H' => v = .str "02x" ∧ H' = H1) I1 ⟨rfl, rfl⟩) fun r s2 hr => ?_)
  obtain ⟨y, H2, I2, r2, rfl, rfl⟩ := hr
  obtain ⟨u, rfl⟩ := r2
  refine ⟨"02x", u, rfl, KXf.field_int rfl (by decide +kernel) (by decide +kernel) (fmt_hex hn) fun t' k' => ?_⟩
  exact ⟨.str (hex2 n), H2, I2.tok _, ⟨_, rfl⟩, q⟩
end
end HX
set_option Elab.async false
set_option linter.all false
set_option maxRecDepth 100000
set_option maxHeartbeats 4000000
namespace K14
open PySem PySem.Spec PyProof.Rows L2
open C8 (Cal Mak Met pe_c pe_mk pe_mt pe_mt0)
open SX (S)
open HX (hex2 hexd)
abbrev S16 : Str := "0123456789abcdef"
theorem find16 : ∀ k : Fin 16, Txt.find S16 ⟨#[hexd k.1]⟩ = (k.1 : Int) := by decide +kernel
/-- the weekdays of a mask, as they are counted -/
def wdN (m : Nat) : List Nat := (List.range 7).filter fun d => decide (m / 2 ^ d % 2 = 1)
theorem wd_N (m : Nat) : (wd m).map V.int = (wdN m).map fun d => V.int (d : Nat) := by
  unfold wd wdN
  rw [List.map_map]
  rfl
def orL (ns : List Nat) : Nat := ns.foldl (fun m d => m ||| 2 ^ d) 0
theorem orL_snoc (ns : List Nat) (d : Nat) : orL (ns ++ [d]) = orL ns ||| 2 ^ d := by
  unfold orL
  rw [List.foldl_append]
  rfl
theorem orL_wd : ∀ m : Fin 128, orL ((wdN m.1).reverse ++ wdN m.1) = m.1 := by decide +kernel
theorem wdN_lt {m d : Nat} (h : d ∈ wdN m) : d < 7 := List.mem_range.mp (List.mem_filter.mp h).1
section
variable {P : Program} {w : World} {K : PySem.W.Frag} {mg : Str → Option Value} {base : Heap} {f C : Addr} {fd : FuncData}
def spMt : Sp := fun vs H Q _ => ∃ n : Nat, vs = [.int (n : Int)] ∧ n < 256 ∧ Q (.str (hex2 n)) H
theorem ok_mt (F : Dn K d_mask_text f fd) : FnOk P w K mg base CX0 1 f fd ["mask"] spMt := by
  refine F.ok sc_mask_text (fun vs H Q E h => ?_) (fun cdv A outer s H vs Q E hr h => ?_)
  · obtain ⟨n, rfl, _⟩ := h
    rfl
  · obtain ⟨n, rfl, hn, hQ⟩ := h
    exact ⟨_, PSs.nox (pss_one (ps_ret (pe_joined1 (HX.pe_fmtX (pv 0))))), _, rfl, n, rfl, hn, hQ⟩
def spMo : Sp := fun vs H Q _ => ∃ n : Nat, vs = [.str (hex2 n)] ∧ n ≤ 127 ∧ Q (.int (n : Int)) H
theorem ok_mo (F : Dn K d_mask_of f fd) (b : Bl mg) (cM : Cal P w K mg base 3 "is_mask" spMask []) (g : ∃ t, mg "SIXTEEN" = some (.str S16 t)) : FnOk P w K mg base CX0 4 f fd ["text"] spMo := by
  refine F.ok sc_mask_of (fun vs H Q E h => ?_) (fun cdv A outer s H vs Q E hr h => ?_)
  · obtain ⟨n, rfl, _⟩ := h
    rfl
  · obtain ⟨n, rfl, hn, hQ⟩ := h
    obtain ⟨tk, g⟩ := g
    refine ⟨_, PSs.nox (pss_cons (ps_if (PW.pt (pw_or (pt_not (pt_val (pe_callB call_isi rfl b.isi boot_isinstance (pa_cons (pv 0) (pa_cons (pe_bltn (v := .ty "str") rfl b.str boot_str rfl) pa_nil)))))
            (pw_or1 (pt_cmpR op_ne (pe_callB call_len_str rfl b.len boot_len (pa_cons (pv 0) pa_nil)) pe_int (nomark _)))))
          pss_never pss_nil)
      (pss_cons (ps_set (i := 1) sc_mask_of.nd rfl (.inl rfl) (pe_m1 PySem.F.slot_str_find PySem.F.type_str_find mt_find (pe_glob (v := .str S16) rfl g ⟨tk, rfl⟩) (pe_ix ix_str (pv 0) pe_int (fun _ _ => rfl))))
      (pss_cons (ps_set (i := 2) sc_mask_of.nd rfl (.inl rfl) (pe_m1 PySem.F.slot_str_find PySem.F.type_str_find mt_find (pe_glob (v := .str S16) rfl g ⟨tk, rfl⟩) (pe_ix ix_str (pv 0) pe_int (fun _ _ => rfl))))
      (pss_cons (ps_if (PW.pt (pw_or (pt_cmpR op_lt (pv 1) pe_int (nomark _)) (pw_or (pt_cmpR op_lt (pv 2) pe_int (nomark _))
            (pw_or1 (pt_not (pt_val (pe_c cM hr (by decide) rfl (pa_cons (pe_op op_add (pe_op op_mul (pv 1) pe_int) (pv 2)) pa_nil))))))))
          pss_never pss_nil)
      (pss_one (ps_ret (pe_op op_add (pe_op op_mul (pv 1) pe_int) (pv 2)))))))), ?_⟩
    have hz : (hex2 n).length ≤ sizeLine := by show 2 ≤ sizeLine; decide
    have f1 : Txt.find S16 ⟨#[hexd (n / 16)]⟩ = ((n / 16 : Nat) : Int) := find16 ⟨n / 16, by omega⟩
    have f2 : Txt.find S16 ⟨#[hexd (n % 16)]⟩ = ((n % 16 : Nat) : Int) := find16 ⟨n % 16, by omega⟩
    refine ⟨_, rfl, _, _, _, _, true, rfl, ClsV.ty _, TyX.base (TyOf.str _), kit_ty (by decide +kernel), _, rfl, iteF ?_⟩
    refine ⟨_, rfl, _, rfl, hz, rfl, _, rfl, iteF ?_⟩
    refine ⟨⟨_, rfl⟩, _, rfl, hex2 n, 0, hexd (n / 16), rfl, rfl, hz, rfl, _, _, rfl, rfl, ?_⟩
    rw [f1]
    refine ⟨⟨_, rfl⟩, _, rfl, hex2 n, 1, hexd (n % 16), rfl, rfl, hz, rfl, _, _, rfl, rfl, ?_⟩
    rw [f2]
    have n1 : ¬ (((n / 16 : Nat) : Int) < 0) := by omega
    have n2 : ¬ (((n % 16 : Nat) : Int) < 0) := by omega
    refine ⟨_, rfl, _, _, rfl, rfl, _, rfl, ?_⟩
    rw [decide_eq_false n1]
    refine iteF ?_
    refine ⟨_, rfl, _, _, rfl, rfl, _, rfl, ?_⟩
    rw [decide_eq_false n2]
    refine iteF ?_
    have ee : ((n / 16 : Nat) : Int) * 16 + ((n % 16 : Nat) : Int) = (n : Int) := by omega
    refine ⟨_, rfl, _, _, rfl, rfl, cb_r (by decide) (by decide), _, rfl, _, _, rfl, rfl, _, rfl, ?_⟩
    refine ⟨_, rfl, ?_⟩
    rw [ee, decide_eq_true (show 0 ≤ (n : Int) ∧ (n : Int) ≤ 127 by omega)]
    refine iteF ?_
    refine ⟨_, rfl, _, _, rfl, rfl, cb_r (by decide) (by decide), _, rfl, _, _, rfl, rfl, ?_⟩
    show Q (V.int (((n / 16 : Nat) : Int) * 16 + ((n % 16 : Nat) : Int))) H
    rw [ee]
    exact hQ
def spMf : Sp := fun vs H Q _ => ∃ (L : Addr) (ns : List Nat), vs = [.ref L] ∧ H L = some (.lst (ns.map fun n => V.int (n : Nat))) ∧ (∀ n ∈ ns, n < 7) ∧ Q (.int (orL ns : Nat)) H
theorem ok_mf (F : Dn K d_mask_from f fd) (cB : CalB P w K mg base) (g : ∃ t, mg "WEEK" = some (.int 7 t)) : FnOk P w K mg base CX0 3 f fd ["days"] spMf := by
  refine F.ok sc_mask_from (fun vs H Q E h => ?_) (fun cdv A outer s H vs Q E hr h => ?_)
  · obtain ⟨L, ns, rfl, _⟩ := h
    rfl
  · obtain ⟨L, ns, rfl, hL, h7, hQ⟩ := h
    obtain ⟨tk, g⟩ := g
    refine ⟨_, PSs.nox (pss_cons (ps_set (i := 1) sc_mask_from.nd rfl (.inl rfl) pe_int)
      (pss_cons (ps_for PassesOwn.never rfl (pi_list (pv 0)) (pg_name (i := 2) sc_mask_from.nd rfl (Or.inl rfl))
        (pss_cons (ps_if (pt_not (pt_val (pe_c cB hr (by decide) rfl (pa_cons (pv 2) (pa_cons pe_int (pa_cons (pe_op op_sub (pe_glob (v := .int 7) rfl g ⟨tk, rfl⟩) pe_int) pa_nil))))))
            pss_never pss_nil)
          (pss_one (ps_set (i := 1) sc_mask_from.nd rfl (.inl rfl) (pe_op op_or (pv 1) (pe_op op_oneShl pe_int (pv 2)))))))
      (pss_one (ps_ret (pv 1))))), ?_⟩
    refine ⟨_, rfl, L, rfl, ⟨_, SqL.of hL⟩, for_list (K := K) (xs := ns.map fun n => V.int (n : Nat)) (fun i σ H2 => ∃ v : Option V, σ = [some (.ref L), some (.int (orL (ns.take i) : Nat)), v] ∧ H2 = H) ⟨_, rfl, rfl⟩ (fun i σ H2 _ ⟨_, _, e⟩ => SqL.of (e ▸ hL)) ?_ ?_⟩
    · rintro i x σ H2 hx ⟨v, rfl, rfl⟩
      rw [List.getElem?_map] at hx
      obtain ⟨y, hy, rfl⟩ := Option.map_eq_some_iff.mp hx
      have n7 := h7 _ (List.mem_of_getElem? hy)
      refine ⟨_, rfl, ?_⟩
      refine ⟨_, _, rfl, rfl, _, 0, 6, rfl, ?_⟩
      rw [decide_eq_true (show (0 : Int) ≤ (y : Int) ∧ (y : Int) ≤ 6 by omega)]
      refine ⟨_, rfl, iteF ?_⟩
      have eb : Builtin.bitOr ((orL (ns.take i) : Nat) : Int) ((2 : Int) ^ y) = ((orL (ns.take (i + 1)) : Nat) : Int) := by
        rw [show ((2 : Int) ^ y) = ((2 ^ y : Nat) : Int) by simp, bitOr_nn (Int.natCast_nonneg _) (Int.natCast_nonneg _), Int.toNat_natCast, Int.toNat_natCast, ← orL_snoc, take_one hy]
      refine ⟨_, rfl, _, rfl, y, rfl, rfl, by omega, _, _, rfl, rfl, ⟨some (.int (y : Nat)), ?_, rfl⟩⟩
      show [some (V.ref L), some (V.int (Builtin.bitOr ((orL (ns.take i) : Nat) : Int) ((2 : Int) ^ y))), some (V.int (y : Nat))] = _
      rw [eb]
    · rintro σ H2 ⟨v, rfl, rfl⟩
      rw [List.length_map, List.take_length]
      exact ⟨_, rfl, hQ⟩
end
end K14
set_option Elab.async false
set_option linter.all false
set_option maxRecDepth 100000
set_option maxHeartbeats 4000000
namespace K14
open PySem PySem.Spec PyProof.Rows L2
open SX (S)
theorem len_subS : ∀ {ys xs : List Str}, ys.Nodup → (∀ y ∈ ys, y ∈ xs) → ys.length ≤ xs.length
  | [], _, _, _ => Nat.zero_le _
  | y :: r, xs, h, hs => by
    obtain ⟨h1, h2⟩ := List.nodup_cons.mp h
    have hy := hs y List.mem_cons_self
    have ih := len_subS (ys := r) (xs := xs.erase y) h2 fun z hz => (List.mem_erase_of_ne (fun e => h1 (by rw [← e]; exact hz))).mpr (hs z (List.mem_cons_of_mem _ hz))
    rw [List.length_erase_of_mem hy] at ih
    have := List.length_pos_of_mem hy
    rw [List.length_cons]
    omega
theorem two_parts {α : Type} (p : α → Bool) : ∀ l : List α, (l.filter p).length + (l.filter fun x => !p x).length = l.length
  | [] => rfl
  | x :: l => by
    have ih := two_parts p l
    cases h : p x with
    | true =>
      rw [List.filter_cons_of_pos h, List.filter_cons_of_neg (by rw [h]; decide), List.length_cons, List.length_cons]
      omega
    | false =>
      rw [List.filter_cons_of_neg (by rw [h]; decide), List.filter_cons_of_pos (by rw [h]; decide), List.length_cons, List.length_cons]
      omega
theorem two_new {zs : List (List Nat)} {kn : List Str} (h9 : zs.length = 9) (l5 : kn.length ≤ 5) (pw : zs.Pairwise (· ≠ ·)) (ok : ∀ z ∈ zs, NM.ok z) : ∃ (a b : List Nat) (ws : List (List Nat)), (zs.filter fun l => decide (¬ S l ∈ kn)) = a :: b :: ws ∧ a ≠ b ∧ S a ∉ kn ∧ S b ∉ kn ∧ NM.ok a ∧ NM.ok b := by
  have h1 := two_parts (fun l => decide (¬ S l ∈ kn)) zs
  have h2 : (zs.filter fun l => !decide (¬ S l ∈ kn)).length ≤ kn.length := by
    have e : ((zs.filter fun l => !decide (¬ S l ∈ kn)).map S).length = (zs.filter fun l => !decide (¬ S l ∈ kn)).length := List.length_map _
    rw [← e]
    refine len_subS ?_ fun y hy => ?_
    · exact List.Pairwise.map S (fun a b n z => n (SX.S_inj z)) (pw.sublist List.filter_sublist)
    · obtain ⟨l, hl, rfl⟩ := List.mem_map.mp hy
      have := (List.mem_filter.mp hl).2
      simpa using this
  have pwf : (zs.filter fun l => decide (¬ S l ∈ kn)).Pairwise (· ≠ ·) := pw.sublist List.filter_sublist
  have mem : ∀ l ∈ zs.filter (fun l => decide (¬ S l ∈ kn)), S l ∉ kn ∧ NM.ok l := fun l hl => ⟨of_decide_eq_true (List.mem_filter.mp hl).2, ok l (List.mem_filter.mp hl).1⟩
  have len : 2 ≤ (zs.filter fun l => decide (¬ S l ∈ kn)).length := by omega
  generalize (zs.filter fun l => decide (¬ S l ∈ kn)) = qs at pwf mem len
  match qs, len with
  | a :: b :: ws, _ =>
    have m1 := mem a (by simp)
    have m2 := mem b (by simp)
    exact ⟨a, b, ws, rfl, (List.pairwise_cons.mp pwf).1 b (by simp), m1.1, m2.1, m1.2, m2.2⟩
theorem cut_two (a b : V) (r : List V) : cutV (a :: b :: r) none (some 2) = [a, b] := by
  unfold cutV
  have e : HT.sIx (a :: b :: r).length (a :: b :: r).length (some 2) = 2 := by
    simp [HT.sIx]
  rw [e]
  rfl
/-! ### one entered anew, told the weekdays of another -/
theorem put_two {d : Int} {m0 m : Nat} {t : Int} (d0 : 0 ≤ d) (h : d ≤ t) : maskAt (putI [((0 : Int), m0)] d m) t = m := by
  have hd : d ∈ ((putI [((0 : Int), m0)] d m).map (·.1)).filter fun k => decide (k ≤ t) := List.mem_filter.mpr ⟨(getI_isSome _ _).mp (by rw [get_put, if_pos rfl]; rfl), decide_eq_true h⟩
  have e : startOn (putI [((0 : Int), m0)] d m) t = d := start_is (fun k hk => by
      rcases put_keys hk with q | q
      · simp at q
        omega
      · omega) hd fun y hy => by
        rcases put_keys (List.mem_filter.mp hy).1 with q | q
        · simp at q
          omega
        · omega
  unfold maskAt
  rw [e, get_put, if_pos rfl]
  rfl
theorem one_on {d t : Int} {s : Int} {m0 m : Nat} (d0 : 0 ≤ d) (h : d ≤ t) (ht : t ≤ 1000000) : (weeklyW m d (newW s 0 m0)).holds t = bitOn m t := by
  rw [holds_there]
  have e1 : (weeklyW m d (newW s 0 m0)).there t = true := decide_eq_true ⟨⟨by show 0 ≤ t; omega, ht⟩, rfl⟩
  rw [e1, Bool.true_and]
  show (getI (newW s 0 m0).al t).getD (bitOn (maskAt (putI [((0 : Int), m0)] d m) t) t) = _
  rw [put_two d0 h]
  rfl
theorem other_on {d t : Int} {s : Int} {m : Nat} (d0 : 0 ≤ d) (h : d ≤ t) (ht : t ≤ 1000000) : (newW s d m).holds t = bitOn m t := by
  rw [holds_there]
  have e1 : (newW s d m).there t = true := decide_eq_true ⟨⟨h, ht⟩, rfl⟩
  rw [e1, Bool.true_and]
  have e : startOn [(d, m)] t = d := start_is (fun k hk => by simp at hk; omega) (List.mem_filter.mpr ⟨by simp, decide_eq_true h⟩) fun y hy => by
    have := (List.mem_filter.mp hy).1
    simp at this
    omega
  show (none : Option Bool).getD (bitOn (maskAt [(d, m)] t) t) = _
  unfold maskAt
  rw [e, get_cons, if_pos rfl]
  rfl
theorem other_off {d t : Int} {s : Int} {m : Nat} (h : t < d) : (newW s d m).holds t = false := by
  rw [holds_there]
  have e1 : (newW s d m).there t = false := decide_eq_false fun q => by
    have : d ≤ t := q.1.1
    omega
  rw [e1]
  rfl
theorem up_off {ds : List Dt} {l k : List Nat} {z : Ws} (g : Ws → Ws) (h : (k, z) ∈ ds) (n : ¬ k = l) : (k, z) ∈ upW ds l g := List.mem_map.mpr ⟨(k, z), h, if_neg n⟩
end K14
set_option Elab.async false
set_option linter.all false
set_option maxRecDepth 100000
set_option maxHeartbeats 4000000
/-! xs[::s] of a list, s an expression that tells 1 or -1 -/
namespace SLS
open PySem PySem.Spec PyProof.Rows L2
def stepped (s : Int) (xs : List V) : List V := if s = 1 then xs else xs.reverse
def tStepL (K : PySem.W.Frag) (te ts : TE) : TE := fun σ H Q => te σ H fun x H1 => tPart ts σ H1 fun o H2 => ∃ a xs k, x = .ref a ∧ o = some k ∧ (k = 1 ∨ k = -1) ∧ SqL K H2 a xs ∧ ∀ p, H2 p = none → Q (.ref p) (upd H2 p (.lst (stepped k xs)))
theorem pick_one (items : Array Value) : slicePick items none none (some 1) = items := by
  have e : slicePick items none none (some 1) = slicePick items none none none := by
    unfold slicePick
    rfl
  rw [e, slicePick_all]
theorem pe_stepL {X : Cx} {e st : Expr} {te ts : TE} {p3 pos : Pos} (he : PE X e te) (hs : PE X st ts) : PE X (.Subscript e (.Slice none none (some st) p3) pos) (tStepL X.K te ts) := by
  refine ⟨fun pins s σ H Q I h => ?_⟩
  refine Subscript_ (thn (he.run pins s σ H _ I h) fun v s1 ⟨x, H1, I1, r1, q1⟩ => ?_)
  refine wpAny_Slice (thn (po_none.run pins s1 σ H1 (fun o H2 => o = none ∧ H2 = H1) I1 ⟨rfl, rfl⟩) fun vl s2 ⟨l, H2, I2, pl, el, e2⟩ => ?_)
  subst el e2
  refine thn (po_none.run pins s2 σ _ (fun o H3 => o = none ∧ H3 = H2) I2 ⟨rfl, rfl⟩) fun vu s3 ⟨u, H3, I3, pu, eu, e3⟩ => ?_
  subst eu e3
  refine thn ((po_some hs).run pins s3 σ H3 _ I3 q1) fun vs s4 ⟨o, H4, I4, ps, a, xs, k, ex, eo, k1, hx, q⟩ => ?_
  subst ex eo
  cases r1
  have I5 : Inv X pins σ H4 { s4 with heap := s4.heap.push { cls := .type "slice", data := .fields #[vl, vu, vs] } } := I4.kept (t' := s4.toks) fun b ob q => Heap.get?_push_of_some _ q
  obtain ⟨its, r, ht, hz⟩ := I5.list hx
  have hlen := r.length
  show wpAny (model X.prog X.w) X.A (subscriptTail e (.Slice none none (some st) p3) (.ref a) (.ref s4.heap.objs.size)) (EP X pins σ Q) X.xe { s4 with heap := s4.heap.push { cls := .type "slice", data := .fields #[vl, vu, vs] } }
  refine tail_any (ops := [.ref a, .ref s4.heap.objs.size]) ht.isList.typeIs (PySem.slot_list_getitem.lookup) ?_ (by with_unfolding_all rfl)
  refine wpAny_getItem_list_slice ht.isList (Heap.IsSliceOf.new _ vl vu vs) pl pu ps (by rcases k1 with rfl | rfl <;> decide) ?_ (by rw [List.size_toArray]; omega)
  rcases k1 with rfl | rfl
  · rw [pick_one]
    refine ⟨.ref _, _, I5.laid (t' := s4.toks) (o := .lst (stepped 1 xs)) (fun b ob q => Heap.get?_push_of_some _ q) (Nat.le_refl _) ?_, rfl, q _ (I5.hok.fresh (Nat.le_refl _))⟩
    exact ⟨hz, _, 0, r, Heap.get?_push_size _ rfl⟩
  · rw [PySem.W.krv_pick]
    refine ⟨.ref _, _, I5.laid (t' := s4.toks) (o := .lst (stepped (-1) xs)) (fun b ob q => Heap.get?_push_of_some _ q) (Nat.le_refl _) ?_, rfl, q _ (I5.hok.fresh (Nat.le_refl _))⟩
    have e : stepped (-1) xs = xs.reverse := if_neg (by decide)
    rw [e]
    exact ⟨by rw [List.length_reverse]; exact hz, _, 0, r.reverse, Heap.get?_push_size _ rfl⟩
end SLS
set_option Elab.async false
set_option linter.all false
set_option maxRecDepth 100000
set_option maxHeartbeats 4000000
namespace K14
open PySem PySem.Spec PyProof.Rows L2
open C8 (Cal Mak Met pe_c pe_mk pe_mt pe_mt0)
open SX (S)
open HX (hex2)
theorem on_iff {ds : List Dt} {l : List Nat} {z : Ws} {d : Int} (nd : (ds.map (·.1)).Nodup) (hz : (l, z) ∈ ds) : S l ∈ onDay ds d ↔ z.holds d = true := by
  unfold onDay
  constructor
  · intro q
    obtain ⟨⟨l2, y⟩, hy, e⟩ := List.mem_map.mp q
    obtain ⟨hy1, hy2⟩ := List.mem_filter.mp hy
    have e : l2 = l := SX.S_inj e
    subst e
    rw [dt_uniq nd hz hy1]
    exact hy2
  · intro q
    exact List.mem_map.mpr ⟨_, List.mem_filter.mpr ⟨hz, q⟩, rfl⟩
/-- what all people want, as data -/
def aD (ts : List Dd) (L : List Int) (x : Addr × Fo) : PyData := .list (L.map fun d => .bool (lawOn x.2 (rulesOf x.2.l ts) d))
theorem dp_ps {K : PySem.W.Frag} {H : Hp} {ts : List Dd} {L : List Int} : ∀ {ps : List (Addr × Addr × Fo)}, (∀ p ∈ ps, H p.1 = some (.lst (L.map fun d => V.bl (lawOn p.2.2 (rulesOf p.2.2.l ts) d)))) → DpAll K H (ps.map fun p => V.ref p.1) ((ps.map (·.2)).map (aD ts L))
  | [], _ => .nil
  | p :: ps, h => .cons (.lst (SqL.of (h p List.mem_cons_self)) (dp_bls L)) (dp_ps fun q hq => h q (List.mem_cons_of_mem _ hq))
theorem aD_sm {ts : List Dd} {L : List Int} (lL : L.length ≤ 100) (fs : Fs) (lf : fs.length ≤ 20) : SD.Sm 50000 2 (.list (fs.map (aD ts L))) :=
  (SD.Sm.lst (SD.SmA.map (n := 2100) (k := 1) fun x _ => (SD.Sm.lst (SD.SmA.map (n := 20) (k := 0) fun t _ => sm_bool _)).mono (by omega) (Nat.le_refl _))).mono (by omega) (Nat.le_refl _)
theorem made_same {H4 H5 : Hp} {pe pdx CP : Addr} (e1 : H4 pe = none) (e2 : H4 pdx = none) (k : ∀ a u, a ≠ pe → (upd (upd H4 pdx (.own pe)) pe (.ins CP pdx [])) a = some u → H5 a = some u) : Same H4 H5 := by
  intro b u e
  refine k b u (ne_of_none e e1) ?_
  rw [upd_ne (ne_of_none e e1), upd_ne (ne_of_none e e2)]
  exact e
theorem Fr.refl (H : Hp) (cs : List Addr) : Fr H H cs cs := ⟨fun _ _ _ e => e, fun _ h => .inl h⟩
theorem Fr.same {H H' H'' : Hp} {cs cs' : List Addr} (f : Fr H H' cs cs') (s : Same H' H'') : Fr H H'' cs cs' := ⟨fun b o n e => s _ _ (f.1 b o n e), f.2⟩
theorem Fr.trans {H H' H'' : Hp} {cs cs' cs'' : List Addr} (f : Fr H H' cs cs') (g : Fr H' H'' cs' cs'') : Fr H H'' cs cs'' := by
  refine ⟨fun b o n e => g.1 b o (out_fr n e f) (f.1 b o n e), fun b hb => ?_⟩
  by_cases c : b ∈ cs
  · exact .inl c
  · refine .inr ?_
    rcases g.2 b hb with h | h
    · rcases f.2 b h with h | h
      · exact absurd h c
      · exact h
    · cases e : H b with
      | none => rfl
      | some o =>
        rw [f.1 b o c e] at h
        cases h
section
variable {P : Program} {w : World} {K : PySem.W.Frag} {mg : Str → Option Value} {base : Heap} {f fE fK fP C CW CP : Addr} {fd fdE fdK fdP : FuncData}
def spEntering (C CW : Addr) : Sp := fun vs H Q _ => ∃ (pn kw o al : Addr) (c : Nat) (ds : List Dt) (cs : List Addr) (ts : List Dd) (fs : Fs) (L : List Int) (n : Nat), vs = [.ref pn, .ref kw, .ref o, .ref al] ∧ Lv C CW pn kw o al (c + 50) n fs L H ds cs ts ∧ Fx fs L ∧ n + 3 ≤ 1000 ∧ ∀ H', Q (.bl true) H'
theorem ok_entering (F : Dn K d_l_entering_right f fd) (b : Bl mg) (b2 : Bl2 mg) (TK : Cls K C) (cD : CalD P w K mg base) (cN : Cal P w K mg base 2 "_law_names" spNames []) (mW : Met P w K mg base 5 C "wants" (spWants C CW) []) (mR : Met P w K mg base 6 C "room" (spRoom C CW) [])
    (cO : Cal P w K mg base 6 "_law_one" (spOne C CW) []) (cMt : Cal P w K mg base 1 "mask_text" spMt []) (cMo : Cal P w K mg base 4 "mask_of" spMo []) (cMf : Cal P w K mg base 3 "mask_from" spMf []) (cWd : Cal P w K mg base 1 "weekdays" spWd [])
    (mE0 : Met P w K mg base 5 C "enter" (spEnter C CW CP) [.int 0]) (MKP : Mk K CP fP) (gP : mg "Person" = some (.ref CP)) (FP : FnOk P w K mg base CX0 4 fP fdP ["self", "name", "seats", "mask"] (spPI CP)) {gV : List Value → List Value → List Value} (kP : KBn K fdP ["self", "name", "seats", "mask"] 2 ["mask"] gV (fun vs zs => vs ++ [.int 0] ++ zs)) (MP : Mak P w K mg base 4 "Person" CP (spPI CP) [])
    (hmE : Meth K C "enter" fE) (FE : FnOk P w K mg base CX0 5 fE fdE ["self", "person", "day"] (spEnter C CW CP)) (kE : KBn K fdE ["self", "person", "day"] 1 ["day", "person"] (fun us ws => us ++ ws.reverse) (fun vs zs => vs ++ zs.reverse))
    (hmK : Meth K C "weekly" fK) (FK : FnOk P w K mg base CX0 5 fK fdK ["self", "name", "mask", "day"] (spWeekly C CW)) (kK : KBn K fdK ["self", "name", "mask", "day"] 1 ["mask", "day", "name"] (fun us ws => us ++ (ws.drop 2 ++ ws.take 2)) (fun vs zs => vs ++ (zs.drop 2 ++ zs.take 2))) :
    FnOk P w K mg base CX0 7 f fd ["_law_pen_here", "_law_kept", "_law_people_here", "_law_asked"] (spEntering C CW) := by
  refine F.ok sc_l_entering_right (fun vs H Q E h => ?_) (fun cdv A outer s H vs Q E hr h => ?_)
  · obtain ⟨_, _, _, _, _, _, _, _, _, _, _, rfl, _⟩ := h
    rfl
  · obtain ⟨pn, kw, o, al, c, ds, cs, ts, fs, L, n, rfl, lv, fx, hn, hQ⟩ := h
    have hu := hu_of hr
    refine ⟨_, PSs.nox (pss_cons (ps_set (i := 5) sc_l_entering_right.nd rfl (.inr rfl) (pe_lc (own := [("_law_one_here", 4)]) (g := gName 4) (tt := tYes) rfl sc_l_entering_right.nd (pi_list (pv 2)) (blkOk_by (N := N_l_entering_right) (sc := defScope s_l_entering_right) (by decide +kernel))
          (fun _ _ _ _ _ => pg_name (i := 4) sc_l_entering_right.nd rfl (Or.inl rfl)) (fun _ _ _ _ _ => pts_nil) (fun _ _ _ _ _ => pe_ix (r := rIxT K) ix_tup (pv 4) pe_int (fun _ _ => rfl))))
      (pss_cons (ps_asg (pe_slice sl_list (pe_lc (own := [("_law_word", 12)]) (g := gName 12) rfl sc_l_entering_right.nd (pi_list (pe_c cN hr (by decide) rfl (pa_cons (pv 0) (pa_cons pe_int pa_nil)))) (blkOk_by (N := N_l_entering_right) (sc := defScope s_l_entering_right) (by decide +kernel))
          (fun _ _ _ _ _ => pg_name (i := 12) sc_l_entering_right.nd rfl (Or.inl rfl)) (fun _ _ _ _ _ => pts_one (pt_cmpR (r := rIn K true) op_notIn_seq (pv 12) (pv 5) (by rfl))) (fun _ _ _ _ _ => pv 12)) po_none (po_some pe_int))
          (pg_lst rfl (pgs_cons (pg_name (i := 4) sc_l_entering_right.nd rfl (.inr rfl)) (pgs_cons (pg_name (i := 6) sc_l_entering_right.nd rfl (.inr rfl)) pgs_nil))))
      (pss_cons (ps_asg (pe_tup (pa_cons (pe_lc (own := [("_law_word", 12)]) (g := gName 12) (tt := tYes) rfl sc_l_entering_right.nd (pi_list (pv 5)) (blkOk_by (N := N_l_entering_right) (sc := defScope s_l_entering_right) (by decide +kernel))
          (fun _ _ _ _ _ => pg_name (i := 12) sc_l_entering_right.nd rfl (Or.inl rfl)) (fun _ _ _ _ _ => pts_nil) (fun _ _ _ _ _ => pe_c cO hr (by decide) rfl (pa_cons (pv 1) (pa_cons (pv 12) (pa_cons (pv 3) pa_nil)))))
          (pa_cons (pe_ix ix_list (pv 3) (pe_c cD hr (by decide) rfl (pa_cons (pv 0) (pa_cons (pe_callB call_len_seq rfl b.len boot_len (pa_cons (pv 3) pa_nil)) pa_nil))) (fun _ _ => rfl)) pa_nil)))
          (pg_tup rfl (pgs_cons (pg_name (i := 7) sc_l_entering_right.nd rfl (.inl rfl)) (pgs_cons (pg_name (i := 8) sc_l_entering_right.nd rfl (.inr rfl)) pgs_nil))))
      (pss_cons (ps_set (i := 9) sc_l_entering_right.nd rfl (.inr rfl) (pe_c cD hr (by decide) rfl (pa_cons (pv 0) (pa_cons pe_int pa_nil))))
      (pss_cons (ps_expr (pe_mt mE0 hr (by decide) (pv 1) (pa_cons (pe_makeN (E := C8.E0) MKP FP (hr.mono (by decide)) rfl gP kP pass0 (pa_cons (pv 4) pa_nil) (pk_cons (pe_c cD hr (by decide) rfl (pa_cons (pv 0) (pa_cons pe_int pa_nil))) pk_nil)) pa_nil)))
      (pss_cons (ps_expr (KW.pe_mtK (pv 1) TK hmE FE (hr.mono (by decide)) kE (pk_cons (pv 8) (pk_cons (pe_mk MP hr (by decide) rfl (pa_cons (pv 6) (pa_cons pe_int (pa_cons (pe_c cMo hr (by decide) rfl (pa_cons (pe_c cMt hr (by decide) rfl (pa_cons (pv 9) pa_nil)) pa_nil)) pa_nil)))) pk_nil))))
      (pss_cons (ps_expr (KW.pe_mtK (pv 1) TK hmK FK (hr.mono (by decide)) kK (pk_cons (pe_c cMf hr (by decide) rfl (pa_cons (pe_op op_cat (SLS.pe_stepL (pe_c cWd hr (by decide) rfl (pa_cons (pv 9) pa_nil)) (pe_un un_neg pe_int)) (pe_c cWd hr (by decide) rfl (pa_cons (pv 9) pa_nil))) pa_nil)) (pk_cons (pv 8) (pk_cons (pv 4) pk_nil)))))
      (pss_cons (ps_setLc (i := 11) (own := [("_law_when", 10)]) (g := gName 10) rfl sc_l_entering_right.nd rfl rfl (sw_true rfl rfl rfl (by decide +kernel)) (pi_list (pv 3)) (blkOk_by (N := N_l_entering_right) (sc := defScope s_l_entering_right) (by decide +kernel))
          (fun _ _ _ _ _ => pg_name (i := 10) sc_l_entering_right.nd rfl (Or.inl rfl)) (fun _ _ _ _ _ => pts_one (pt_cmpR op_ge (pv 10) (pv 8) (nomark _))) (fun _ _ _ _ _ => pv 10))
      (pss_cons (ps_if (pt_cmpR (op_neD hr.units) (pe_c cO hr (by decide) rfl (pa_cons (pv 1) (pa_cons (pv 4) (pa_cons (pv 11) pa_nil)))) (pe_c cO hr (by decide) rfl (pa_cons (pv 1) (pa_cons (pv 6) (pa_cons (pv 11) pa_nil)))) (nomark _)) pss_never pss_nil)
      (pss_cons (ps_if (pt_cmpR (op_neD hr.units) (pe_lc (own := [("_law_when", 10)]) (g := gName 10) rfl sc_l_entering_right.nd (pi_list (pv 3)) (blkOk_by (N := N_l_entering_right) (sc := defScope s_l_entering_right) (by decide +kernel))
          (fun _ _ _ _ _ => pg_name (i := 10) sc_l_entering_right.nd rfl (Or.inl rfl)) (fun _ _ _ _ _ => pts_one (PW.pt (pw_and (pt_cmpR op_lt (pv 10) (pv 8) (nomark _)) (pw_and1 (pt_val (pe_mt mW hr (by decide) (pv 1) (pa_cons (pv 6) (pa_cons (pv 10) pa_nil)))))))) (fun _ _ _ _ _ => pv 10)) (pe_lst pa_nil) (nomark _)) pss_never pss_nil)
      (pss_cons (ps_if (pt_cmpR (op_neD hr.units) (pe_lc (own := [("_law_when", 10)]) (g := gName 10) rfl sc_l_entering_right.nd (pi_list (pv 11)) (blkOk_by (N := N_l_entering_right) (sc := defScope s_l_entering_right) (by decide +kernel))
          (fun _ _ _ _ _ => pg_name (i := 10) sc_l_entering_right.nd rfl (Or.inl rfl)) (fun _ _ _ _ _ => pts_one (pt_cmpR op_ne (pe_mt mW hr (by decide) (pv 1) (pa_cons (pv 4) (pa_cons (pv 10) pa_nil))) (pe_cmpR (r := rIn K false) op_in_seq (pe_op op_mod (pv 10) pe_int) (pe_c cWd hr (by decide) rfl (pa_cons (pv 9) pa_nil)) (by rfl)) (nomark _))) (fun _ _ _ _ _ => pv 10)) (pe_lst pa_nil) (nomark _)) pss_never pss_nil)
      (pss_cons (ps_for PassesOwn.never rfl (pi_list (pv 3)) (pg_name (i := 10) sc_l_entering_right.nd rfl (.inl rfl))
        (pss_one (ps_if (PW.pt (pw_or (pt_cmpR op_ne (pe_cmp (pc_din hu (pv 4) (pe_mt mR hr (by decide) (pv 1) (pa_cons (pv 10) pa_nil)))) (pe_mt mW hr (by decide) (pv 1) (pa_cons (pv 4) (pa_cons (pv 10) pa_nil))) (nomark _))
          (pw_or1 (pt_cmpR op_ne (pe_dget2 hu (pe_mt mR hr (by decide) (pv 1) (pa_cons (pv 10) pa_nil)) (pv 6) pe_int ⟨rfl, rfl, rfl, rfl⟩) pe_int (nomark _))))) pss_never pss_nil)))
      (pss_one (ps_ret (pe_cmpR (op_eqD hr.units) (pv 7) (pe_lc (own := [("_law_word", 12)]) (g := gName 12) (tt := tYes) rfl sc_l_entering_right.nd (pi_list (pv 5)) (blkOk_by (N := N_l_entering_right) (sc := defScope s_l_entering_right) (by decide +kernel))
          (fun _ _ _ _ _ => pg_name (i := 12) sc_l_entering_right.nd rfl (Or.inl rfl)) (fun _ _ _ _ _ => pts_nil) (fun _ _ _ _ _ => pe_c cO hr (by decide) rfl (pa_cons (pv 1) (pa_cons (pv 12) (pa_cons (pv 3) pa_nil))))) (nomark _)))))))))))))))), ?_⟩
    have l1 := fx.l1
    have l5 := fx.l5
    have y1 := fx.y1
    have y2 := fx.y2
    refine ⟨_, rfl, o, rfl, ⟨_, SqL.of lv.o_⟩, fun D fD => ?_⟩
    refine lc_list (K := K) (xs := refs fs) (fun j G => G D = some (.lst (((fs.take j).map fun x => S x.2.l).map V.str)) ∧ Same H G) ⟨upd_same, same_new fD⟩ (fun j G _ q => SqL.of (q.2 _ _ lv.o_)) ?_ ?_
    · rintro j y G hj ⟨hD, sG⟩
      unfold refs at hj
      rw [List.getElem?_map] at hj
      obtain ⟨x, hx, rfl⟩ := Option.map_eq_some_iff.mp hj
      have hxt := sG _ _ (lv.ft x (List.mem_of_getElem? hx))
      have jl : j < fs.length := (List.getElem?_eq_some_iff.mp hx).1
      refine ⟨rfl, _, rfl, x.1, _, _, _, rfl, rfl, SqT.of hxt, rfl, _, hD, ?_, ?_, fun b w e => ?_⟩
      · rw [List.length_map, List.length_map, List.length_take]
        exact line_lt (by omega)
      · rw [upd_same, take_one hx, List.map_append, List.map_append]
        rfl
      · rw [upd_ne (ne_of_none e fD)]
        exact sG _ _ e
    rintro H1 ⟨hD, s1⟩
    have hD : H1 D = some (.lst ((fs.map fun x => S x.2.l).map V.str)) := by
      have e : (refs fs).length = fs.length := List.length_map _
      rw [e, List.take_length] at hD
      exact hD
    have lv1 := lv.same s1
    have noD := lv.new fD
    have offD : Off pn D H1 := by
      have q := (Off.of lv.pen fD).kp (Kp.same s1)
      exact q
    clear lv
    -- two new names
    obtain ⟨kn, ekn⟩ : ∃ kn : List Str, kn = fs.map fun x => S x.2.l := ⟨_, rfl⟩
    rw [← ekn] at hD
    refine ⟨_, rfl, pn, c + 10, 9, rfl, lv1.pen.weak (by omega), by decide, fun zl zs H2 pen2 k2 fz offz hzl hzn hzok hznd => ⟨zl, rfl, ⟨_, SqL.of hzl⟩, fun D2 fD2 => ?_⟩⟩
    have lv2 := lv1.kpp k2 pen2
    have hD2' := k2.1 _ _ hD offD.ne
    clear lv1
    refine lc_list (K := K) (xs := zs.map fun l => V.str (S l)) (fun j G => G D2 = some (.lst (((zs.take j).filter fun l => decide (¬ S l ∈ kn)).map fun l => V.str (S l))) ∧ Same H2 G) ⟨upd_same, same_new fD2⟩ (fun j G _ q => SqL.of (q.2 _ _ hzl)) ?_ ?_
    · rintro j y G hj ⟨hB, sG⟩
      rw [List.getElem?_map] at hj
      obtain ⟨l, hl, rfl⟩ := Option.map_eq_some_iff.mp hj
      have jl : j < zs.length := (List.getElem?_eq_some_iff.mp hl).1
      refine ⟨rfl, _, rfl, _, rfl, D, _, rfl, .inl (SqL.of (sG _ _ hD2')), rfl, flat_strs _, _, rfl, ?_⟩
      rw [flt_step hl]
      have ln : (((zs.take j).filter fun l => decide (¬ S l ∈ kn)).map fun l => V.str (S l)).length ≤ 100 := by
        rw [List.length_map]
        have h1 := List.length_filter_le (fun l => decide (¬ S l ∈ kn)) (zs.take j)
        rw [List.length_take] at h1
        omega
      have ei : (!inV (V.str (S l)) (kn.map V.str)) = decide (¬ S l ∈ kn) := by
        rw [inV_strs]
        simp
      show (if (!inV (V.str (S l)) (kn.map V.str)) = true then _ else _)
      rw [ei]
      refine ite2 (fun c => ?_) (fun c => ?_)
      · refine ⟨_, rfl, _, hB, line_lt (by omega), ?_, fun b w e => ?_⟩
        · rw [upd_same, if_pos c, List.map_append]
          rfl
        · rw [upd_ne (ne_of_none e fD2)]
          exact sG _ _ e
      · rw [if_neg c, List.append_nil]
        exact ⟨hB, sG⟩
    rintro H3 ⟨hB, s3⟩
    rw [List.length_map, List.take_length] at hB
    have lv3 := lv2.same s3
    have hD3 := s3 _ _ hD2'
    have offD3 := (offD.kp k2).kp (Kp.same s3)
    clear lv2 hD2' offD
    obtain ⟨l1', l2', ws, ews, nl, ne1, ne2, ok1, ok2⟩ := two_new (kn := kn) hzn (by rw [ekn, List.length_map]; exact l5) hznd hzok
    rw [ews] at hB
    refine ⟨2, rfl, D2, _, rfl, SqL.of hB, fun q fq => ?_⟩
    have ec : cutV ((l1' :: l2' :: ws).map fun l => V.str (S l)) none (some 2) = [V.str (S l1'), V.str (S l2')] := cut_two _ _ _
    rw [ec]
    have sq := same_new (o := .lst [V.str (S l1'), V.str (S l2')]) fq
    have hq : (upd H3 q (.lst [V.str (S l1'), V.str (S l2')])) q = some (.lst [V.str (S l1'), V.str (S l2')]) := upd_same
    have lv4 := lv3.same sq
    have hD4 := sq _ _ hD3
    have offD4 := offD3.kp (Kp.same sq)
    clear lv3 hD3 offD3 hB ec sq
    generalize upd H3 q (.lst [V.str (S l1'), V.str (S l2')]) = H4 at lv4 hD4 offD4 hq ⊢
    refine ⟨q, _, rfl, SqL.of hq, rfl, _, _, rfl, _, _, rfl, rfl, ?_⟩
    clear hq ews hzl hzn hzok hznd
    -- what all want ahead
    refine ⟨_, rfl, D, rfl, ⟨_, SqL.of hD4⟩, fun E1 fE1 => ?_⟩
    refine lc_list (K := K) (xs := kn.map V.str) (fun j G => ∃ ps : List (Addr × Addr × Fo), ps.map (·.2) = fs.take j ∧ G E1 = some (.lst (ps.map fun p => V.ref p.1)) ∧ (∀ p ∈ ps, G p.1 = some (.lst (L.map fun d => V.bl (lawOn p.2.2 (rulesOf p.2.2.l ts) d))) ∧ p.1 ≠ E1 ∧ H4 p.1 = none) ∧ Same H4 G)
      ⟨[], rfl, upd_same, (fun p hp => nomatch hp), same_new fE1⟩ (fun j G _ z => by obtain ⟨_, _, _, _, s⟩ := z; exact SqL.of (s _ _ hD4)) ?_ ?_
    · rintro j y G hj ⟨ps, eps, hE, hps, sG⟩
      rw [ekn, List.map_map, List.getElem?_map] at hj
      obtain ⟨x, hx, rfl⟩ := Option.map_eq_some_iff.mp hj
      have hxm := List.mem_of_getElem? hx
      have jl : j < fs.length := (List.getElem?_eq_some_iff.mp hx).1
      have pl : ps.length = j := by
        have := congrArg List.length eps
        rw [List.length_map, List.length_take] at this
        omega
      have lg := lv4.same sG
      obtain ⟨z, hz, rel, wok⟩ := lg.wish hxm
      refine ⟨rfl, _, rfl, _, rfl, _, rfl, kw, al, ds, cs, x.2.l, z, L, n, rfl, lg.kd, hz, wok, by omega, lg.al_, fx.ly, y2, fun r G4 fr hr4 s4 => ?_⟩
      have nrE : r ≠ E1 := (ne_of_none hE fr).symm
      have er : (L.map fun d => V.bl (z.holds d)) = L.map fun d => V.bl (lawOn x.2 (rulesOf x.2.l ts) d) := List.map_congr_left fun d hd => by rw [rel.holds wok d (fx.ly d hd)]
      rw [er] at hr4
      refine ⟨_, s4 _ _ hE, by rw [List.length_map]; exact line_lt (by omega), ps ++ [(r, x)], ?_, ?_, fun p hp => ?_, fun b w e => ?_⟩
      · rw [List.map_append, eps, take_one hx]
        rfl
      · rw [upd_same, List.map_append]
        rfl
      · rcases List.mem_append.mp hp with hp | hp
        · obtain ⟨h1, h2, h3⟩ := hps p hp
          exact ⟨by rw [upd_ne h2]; exact s4 _ _ h1, h2, h3⟩
        · rw [List.mem_singleton.mp hp]
          exact ⟨by rw [upd_ne nrE]; exact hr4, nrE, sG.free fr⟩
      · rw [upd_ne (ne_of_none e fE1)]
        exact s4 _ _ (sG _ _ e)
    rintro H5 ⟨ps, eps, hE, hps, s5⟩
    have eps : ps.map (·.2) = fs := by
      have e : (kn.map V.str).length = fs.length := by rw [ekn, List.length_map, List.length_map]
      rw [e, List.take_length] at eps
      exact eps
    have lv5 := lv4.same s5
    have hD5 := s5 _ _ hD4
    have offD5 := offD4.kp (Kp.same s5)
    have noE := lv4.new fE1
    have offE : Off pn E1 H5 := (Off.of lv4.pen fE1).kp (Kp.same s5)
    have hps : ∀ p ∈ ps, H5 p.1 = some (.lst (L.map fun d => V.bl (lawOn p.2.2 (rulesOf p.2.2.l ts) d))) ∧ p.1 ∉ cs ∧ Off pn p.1 H5 := fun p hp => by
      obtain ⟨h1, _, h3⟩ := hps p hp
      exact ⟨h1, lv4.new h3, (Off.of lv4.pen h3).kp (Kp.same s5)⟩
    clear lv4 hD4 offD4 s5
    refine ⟨_, rfl, _, rfl, _, rfl, al, _, rfl, .inl (SqL.of lv5.al_), pn, c + 9, _, rfl, lv5.pen, by rw [List.length_map]; omega, by rw [List.length_map]; omega, fun r6 H6 a6 z6 pen6 k6 => ?_⟩
    have lv6 := lv5.kpp k6 pen6
    rw [List.length_map] at z6
    obtain ⟨d, hd, ed⟩ := pick V.int a6 z6
    have dd := fx.ly d hd
    refine ⟨al, _, _, _, rfl, rfl, SqL.of lv6.al_, ed, ?_⟩
    refine ⟨by show 2 ≤ sizeLine; decide, fun u fu => ?_⟩
    have su := same_new (o := .tup [.ref E1, .int d]) fu
    have hu3 : (upd H6 u (.tup [.ref E1, .int d])) u = some (.tup [.ref E1, .int d]) := upd_same
    have lv7 := lv6.same su
    have k7 : Kp pn H5 (upd H6 u (.tup [.ref E1, .int d])) := k6.trans (Kp.same su)
    clear lv6 k6 pen6 su
    generalize upd H6 u (.tup [.ref E1, .int d]) = H7 at lv7 hu3 k7 ⊢
    refine ⟨u, _, rfl, SqT.of hu3, rfl, _, _, rfl, _, _, rfl, rfl, ?_⟩
    refine ⟨_, rfl, pn, c + 8, 128, rfl, lv7.pen, by decide, by decide, fun r8 H8 a8 z8 pen8 k8 => ?_⟩
    have lv8 := lv7.kpp k8 pen8
    obtain ⟨nu, rfl⟩ := Int.eq_ofNat_of_zero_le a8
    have nu7 : nu ≤ 127 := by omega
    clear lv7
    -- the one is entered
    obtain ⟨wd, dk, hkw⟩ := lv8.kd.kno
    refine ⟨_, rfl, kw, dk, _, rfl, hkw, kw_no wd (by decide +kernel), _, rfl, _, rfl, pn, c + 7, 128, rfl, lv8.pen, by decide, by decide, fun r9 H9 a9 z9 pen9 k9 => ?_⟩
    have lv9 := lv8.kpp k9 pen9
    obtain ⟨m0, rfl⟩ := Int.eq_ofNat_of_zero_le a9
    have k59 : Kp pn H5 H9 := (k7.trans k8).trans k9
    have hD9 := k59.1 _ _ hD5 offD5.ne
    have hE9 := k59.1 _ _ hE offE.ne
    have hps9 : ∀ p ∈ ps, H9 p.1 = some (.lst (L.map fun d => V.bl (lawOn p.2.2 (rulesOf p.2.2.l ts) d))) ∧ p.1 ∉ cs := fun p hp => ⟨k59.1 _ _ (hps p hp).1 (hps p hp).2.2.ne, (hps p hp).2.1⟩
    have K9 := lv9.kd
    have hal9 := lv9.al_
    have nal := lv9.na
    have sy9 := lv9.sy
    have noks := sy9.oks (by omega : n ≤ 1000) (by omega)
    clear lv8 lv9 hps k7 k8 k9 k59 hD5 hE offD5 offE lv5 hkw
    have nl1 : l1' ∉ ds.map (·.1) := fun h => ne1 (by
      rw [sy9.names] at h
      obtain ⟨x, hx, e⟩ := List.mem_map.mp h
      rw [ekn]
      exact List.mem_map.mpr ⟨x, hx, by rw [e]⟩)
    have nl2 : l2' ∉ ds.map (·.1) := fun h => ne2 (by
      rw [sy9.names] at h
      obtain ⟨x, hx, e⟩ := List.mem_map.mp h
      rw [ekn]
      exact List.mem_map.mpr ⟨x, hx, by rw [e]⟩)
    have dsl : ds.length ≤ 5 := by rw [sy9.len]; exact l5
    refine ⟨rfl, rfl, fun pe pdx npe npd nne => ⟨pe, pdx, l1', 0, m0, rfl, ok1, by decide, by decide, by omega, by omega, upd_same, fun H10 k10 h10 => ⟨rfl, ?_⟩⟩⟩
    have s10 := made_same npe npd k10
    refine ⟨kw, pe, pdx, ds, cs, l1', 0, m0, 0, rfl, K9.keep s10, h10, nl1, by omega, by decide, by decide, fun H11 cs11 K11 f11 => ?_⟩
    have F11 := ((Fr.refl H9 cs).same s10).trans f11
    clear s10 f11 k10 h10 npe npd nne
    -- the other
    obtain ⟨wd, dk, hkw⟩ := K11.kno
    refine ⟨_, rfl, kw, dk, _, rfl, hkw, kw_no wd (by decide +kernel), _, rfl, _, rfl, _, rfl, nu, rfl, by omega, nu, rfl, nu7, fun pe pdx npe npd nne => ⟨pe, pdx, l2', 2, nu, rfl, ok2, by decide, by decide, by omega, by omega, upd_same, fun H12 k12 h12 => ⟨rfl, rfl, ?_⟩⟩⟩
    have s12 := made_same npe npd k12
    have nl2b : l2' ∉ (ds ++ [(l1', newW 0 0 m0)]).map (·.1) := fun h => by
      rw [List.map_append] at h
      rcases List.mem_append.mp h with h | h
      · exact nl2 h
      · exact nl (List.mem_singleton.mp h).symm
    refine ⟨kw, pe, pdx, _, cs11, l2', 2, nu, d, rfl, K11.keep s12, h12, nl2b, by rw [List.length_append]; show _ + 1 ≤ _; omega, dd.1, dd.2, fun H13 cs13 K13 f13 => ?_⟩
    have F13 := (F11.same s12).trans f13
    clear s12 f13 k12 h12 npe npd nne K11 F11 hkw
    -- the one is told the weekdays of the other
    obtain ⟨wd, dk, hkw⟩ := K13.kno
    have wds : ((K14.wd nu).map V.int).reverse ++ (K14.wd nu).map V.int = ((wdN nu).reverse ++ wdN nu).map fun n => V.int (n : Nat) := by
      rw [wd_N, List.map_append, List.map_reverse]
    have onu : orL ((wdN nu).reverse ++ wdN nu) = nu := orL_wd ⟨nu, by omega⟩
    have lwd : (wdN nu).length ≤ 7 := by
      have := List.length_filter_le (fun d => decide (nu / 2 ^ d % 2 = 1)) (List.range 7)
      rw [List.length_range] at this
      exact this
    refine ⟨_, rfl, kw, dk, _, rfl, hkw, kw_no wd (by decide +kernel), _, rfl, nu, rfl, fun p1 H14 s14 f14 hp1 => ?_⟩
    refine ⟨_, rfl, _, rfl, p1, _, _, rfl, rfl, .inr rfl, SqL.of hp1, fun p2 f15 => ?_⟩
    have er : SLS.stepped (-(1 : Int)) ((K14.wd nu).map V.int) = ((K14.wd nu).map V.int).reverse := if_neg (by decide)
    rw [er]
    have s15 := same_new (o := .lst ((K14.wd nu).map V.int).reverse) f15
    have hp2 : (upd H14 p2 (.lst ((K14.wd nu).map V.int).reverse)) p2 = some (.lst ((K14.wd nu).map V.int).reverse) := upd_same
    have S15 := s14.trans s15
    generalize upd H14 p2 (.lst ((K14.wd nu).map V.int).reverse) = H15 at hp2 S15 ⊢
    refine ⟨_, rfl, nu, rfl, fun p3 H16 s16 f16 hp3 => ?_⟩
    have lw : ((K14.wd nu).map V.int).length ≤ 7 := by rw [wd_N, List.length_map]; exact lwd
    refine ⟨p2, p3, _, _, rfl, rfl, s16 _ _ hp2, hp3, by rw [List.length_reverse]; have : 14 ≤ sizeLine := by decide
                                                         omega, fun p4 f17 => ?_⟩
    have s17 := same_new (o := .lst (((K14.wd nu).map V.int).reverse ++ (K14.wd nu).map V.int)) f17
    have hp4 : (upd H16 p4 (.lst (((K14.wd nu).map V.int).reverse ++ (K14.wd nu).map V.int))) p4 = some (.lst (((wdN nu).reverse ++ wdN nu).map fun n => V.int (n : Nat))) := by rw [upd_same, wds]
    have S17 := (S15.trans s16).trans s17
    generalize upd H16 p4 (.lst (((K14.wd nu).map V.int).reverse ++ (K14.wd nu).map V.int)) = H17 at hp4 S17 ⊢
    have K17 := K13.keep S17
    have F17 := F13.same S17
    clear K13 F13 S15 s14 s15 s16 s17 hp1 hp2 hp3 hkw
    refine ⟨p4, _, rfl, hp4, fun x hx => ?_, ?_⟩
    · rcases List.mem_append.mp hx with h | h
      · exact wdN_lt (List.mem_reverse.mp h)
      · exact wdN_lt h
    rw [onu]
    have hz1 : (l1', newW 0 0 m0) ∈ ds ++ [(l1', newW 0 0 m0)] ++ [(l2', newW 2 d nu)] := by simp
    refine ⟨_, rfl, _, rfl, rfl, kw, _, cs13, l1', newW 0 0 m0, nu, d, rfl, K17, hz1, by simp [newW], nu7, dd.1, dd.2, fun H18 cs18 K18 f18 => ?_⟩
    have F18 := F17.trans f18
    clear K17 F17 f18 hp4
    have hz1 := up_mem (weeklyW nu d) hz1
    have hz2 : (l2', newW 2 d nu) ∈ upW (ds ++ [(l1', newW 0 0 m0)] ++ [(l2', newW 2 d nu)]) l1' (weeklyW nu d) := up_off _ (by simp) (fun e => nl e.symm)
    have hzo : ∀ x ∈ fs, ∀ z, (x.2.l, z) ∈ ds → (x.2.l, z) ∈ upW (ds ++ [(l1', newW 0 0 m0)] ++ [(l2', newW 2 d nu)]) l1' (weeklyW nu d) := fun x hx z hz => up_off _ (by simp [hz]) (fun e => nl1 (by rw [← e]; exact List.mem_map.mpr ⟨_, hz, rfl⟩))
    have ndn : ((upW (ds ++ [(l1', newW 0 0 m0)] ++ [(l2', newW 2 d nu)]) l1' (weeklyW nu d)).map (·.1)).Nodup := by
      rw [up_fst, List.map_append, List.nodup_append]
      refine ⟨?_, by simp, fun a ha b hb e => ?_⟩
      · rw [List.map_append, List.nodup_append]
        refine ⟨by rw [sy9.names]; exact fx.nd, by simp, fun a ha b hb e => ?_⟩
        rw [List.mem_singleton.mp hb] at e
        exact nl1 (by have e : a = l1' := e; rw [← e]; exact ha)
      · rw [List.mem_singleton.mp hb] at e
        exact nl2b (by have e : a = l2' := e; rw [← e]; exact ha)
    have w0 : ∀ (s d : Int) (m : Nat), 0 ≤ d → Wok (n + 2) (newW s d m) := fun s d m hd => ⟨hd, by simp [newW], fun k hk => by simp [newW] at hk; rw [hk]; exact hd, by simp [newW], by simp [newW], by simp [newW]⟩
    have oks3 : Oks (n + 3) (upW (ds ++ [(l1', newW 0 0 m0)] ++ [(l2', newW 2 d nu)]) l1' (weeklyW nu d)) := by
      refine ⟨fun y hy => ?_, by omega, by unfold upW; rw [List.length_map, List.length_append, List.length_append]; show ds.length + 1 + 1 ≤ _; omega⟩
      obtain ⟨y0, h0, rfl⟩ := List.mem_map.mp (show y ∈ List.map _ _ from hy)
      have wk : Wok (n + 2) y0.2 := by
        rcases List.mem_append.mp h0 with h | h
        · rcases List.mem_append.mp h with h | h
          · exact (noks.1 _ h).weak (by omega)
          · rw [List.mem_singleton.mp h]
            exact w0 _ _ _ (by decide)
        · rw [List.mem_singleton.mp h]
          exact w0 _ _ _ dd.1
      split
      · exact wk.act (x := .weekly l1' nu d) ⟨nu7, dd⟩
      · exact wk.weak (by omega)
    generalize upW (ds ++ [(l1', newW 0 0 m0)] ++ [(l2', newW 2 d nu)]) l1' (weeklyW nu d) = ds3 at K18 hz1 hz2 hzo ndn oks3
    have Z1 : ∀ t, isDay t → d ≤ t → (weeklyW nu d (newW 0 0 m0)).holds t = bitOn nu t := fun t ht h => one_on dd.1 h ht.2
    have Z2 : ∀ t, isDay t → d ≤ t → (newW 2 d nu).holds t = bitOn nu t := fun t ht h => other_on dd.1 h ht.2
    have Z3 : ∀ t, t < d → (newW 2 d nu).holds t = false := fun t h => other_off h
    have Z4 : (newW 2 d nu).s = 2 := rfl
    have wk1 := oks3.1 _ hz1
    have wk2 := oks3.1 _ hz2
    dsimp only at wk1 wk2
    generalize weeklyW nu d (newW 0 0 m0) = z1 at hz1 Z1 wk1
    generalize newW 2 d nu = z2 at hz2 Z2 Z3 Z4 wk2
    have hal18 := F18.1 _ _ nal hal9
    have hD18 := F18.1 _ _ noD hD9
    have hE18 := F18.1 _ _ noE hE9
    have hps18 : ∀ p ∈ ps, H18 p.1 = some (.lst (L.map fun d => V.bl (lawOn p.2.2 (rulesOf p.2.2.l ts) d))) := fun p hp => F18.1 _ _ (hps9 p hp).2 (hps9 p hp).1
    clear F18 hal9 hD9 hE9 hps9 K9 noks
    -- the days from then on
    refine ⟨_, rfl, al, rfl, ⟨_, SqL.of hal18⟩, fun B fB => ?_⟩
    refine lc_list (K := K) (xs := L.map V.int) (fun j G => G B = some (.lst (((L.take j).filter fun t => decide (d ≤ t)).map V.int)) ∧ Same H18 G) ⟨upd_same, same_new fB⟩ (fun j G _ q => SqL.of (q.2 _ _ hal18)) ?_ ?_
    · rintro j y G hj ⟨hB, sG⟩
      rw [List.getElem?_map] at hj
      obtain ⟨t, ht, rfl⟩ := Option.map_eq_some_iff.mp hj
      have jl : j < L.length := (List.getElem?_eq_some_iff.mp ht).1
      refine ⟨rfl, _, rfl, _, rfl, _, _, rfl, rfl, _, rfl, ?_⟩
      rw [flt_step ht]
      have ln : (((L.take j).filter fun t => decide (d ≤ t)).map V.int).length ≤ 100 := by
        rw [List.length_map]
        have h1 := List.length_filter_le (fun t => decide (d ≤ t)) (L.take j)
        rw [List.length_take] at h1
        omega
      refine ite2 (fun c => ?_) (fun c => ?_)
      · refine ⟨_, rfl, _, hB, line_lt (by omega), ?_, fun b w e => ?_⟩
        · rw [upd_same, if_pos c, List.map_append]
          rfl
        · rw [upd_ne (ne_of_none e fB)]
          exact sG _ _ e
      · rw [if_neg c, List.append_nil]
        exact ⟨hB, sG⟩
    rintro H19 ⟨hB, s19⟩
    rw [List.length_map, List.take_length] at hB
    obtain ⟨M, eM⟩ : ∃ M, M = L.filter fun t => decide (d ≤ t) := ⟨_, rfl⟩
    rw [← eM] at hB
    have hM : ∀ t ∈ M, isDay t := fun t ht => fx.ly t (List.mem_filter.mp (show t ∈ L.filter (fun t => decide (d ≤ t)) from eM ▸ ht)).1
    have hMd : ∀ t ∈ M, d ≤ t := fun t ht => of_decide_eq_true (List.mem_filter.mp (show t ∈ L.filter (fun t => decide (d ≤ t)) from eM ▸ ht)).2
    have lM : M.length ≤ 100 := by
      rw [eM]
      exact Nat.le_trans (List.length_filter_le _ _) y2
    clear eM
    have e1 : (M.map fun t => V.bl (z1.holds t)) = M.map fun t => V.bl (bitOn nu t) := List.map_congr_left fun t ht => by rw [Z1 t (hM t ht) (hMd t ht)]
    have e2 : (M.map fun t => V.bl (z2.holds t)) = M.map fun t => V.bl (bitOn nu t) := List.map_congr_left fun t ht => by rw [Z2 t (hM t ht) (hMd t ht)]
    have sm : SD.Sm 2100 1 (.list (M.map fun t => PyData.bool (bitOn nu t))) := (SD.Sm.lst (SD.SmA.map (n := 20) (k := 0) fun t _ => sm_bool _)).mono (by omega) (Nat.le_refl _)
    refine ⟨_, rfl, _, rfl, _, rfl, kw, B, ds3, cs18, l1', z1, M, n + 3, rfl, K18.keep s19, hz1, wk1, by omega, hB, hM, lM, fun r20 H20 f20 hr20 s20 => ?_⟩
    rw [e1] at hr20
    refine ⟨_, rfl, _, rfl, _, rfl, kw, B, ds3, cs18, l2', z2, M, n + 3, rfl, K18.keep (s19.trans s20), hz2, wk2, by omega, s20 _ _ hB, hM, lM, fun r21 H21 f21 hr21 s21 => ?_⟩
    rw [e2] at hr21
    refine ⟨_, _, Dp.lst (SqL.of (s21 _ _ hr20)) (dp_bls M), Dp.lst (SqL.of hr21) (dp_bls M), sm.shaped (by decide), sm.shaped (by decide), _, rfl, ?_⟩
    rw [sm.same]
    refine iteF ?_
    have s1821 := (s19.trans s20).trans s21
    have hB21 := s21 _ _ (s20 _ _ hB)
    clear hr20 hr21 e1 e2 s19 s20 s21 hB
    -- ahead of then the other doesn't ride
    refine ⟨_, rfl, al, rfl, ⟨_, SqL.of (s1821 _ _ hal18)⟩, fun B2 fB2 => ?_⟩
    refine lc_list (K := K) (xs := L.map V.int) (fun j G => G B2 = some (.lst []) ∧ Same H21 G) ⟨upd_same, same_new fB2⟩ (fun j G _ q => SqL.of (q.2 _ _ (s1821 _ _ hal18))) ?_ ?_
    · rintro j y G hj ⟨hb, sG⟩
      rw [List.getElem?_map] at hj
      obtain ⟨t, ht, rfl⟩ := Option.map_eq_some_iff.mp hj
      have dt := fx.ly t (List.mem_of_getElem? ht)
      refine ⟨rfl, _, rfl, _, rfl, _, _, rfl, rfl, _, rfl, ?_⟩
      refine ite2 (fun c => ?_) (fun c => ⟨hb, sG⟩)
      have c' : t < d := of_decide_eq_true c
      have KG := K18.keep (s1821.trans sG)
      obtain ⟨wd, dk, hkw⟩ := KG.kno
      refine ⟨_, rfl, kw, dk, _, rfl, hkw, kw_no wd (by decide +kernel), _, rfl, _, rfl, kw, ds3, cs18, l2', z2, t, n + 3, rfl, KG, hz2, wk2, by omega, dt.1, dt.2, fun G4 s4 => ⟨_, rfl, ?_⟩⟩
      rw [Z3 t c']
      exact iteF ⟨s4 _ _ hb, sG.trans s4⟩
    rintro H22 ⟨hb, s22⟩
    refine ⟨by show 0 ≤ sizeLine; decide, fun e3 fe3 => ?_⟩
    have se3 := same_new (o := .lst []) fe3
    refine ⟨.list [], .list [], Dp.lst (SqL.of (se3 _ _ hb)) .nil, Dp.lst (SqL.of upd_same) .nil, by decide, by decide, _, rfl, iteF ?_⟩
    have s1823 := (s1821.trans s22).trans se3
    have hB23 := se3 _ _ (s22 _ _ hB21)
    clear s1821 s22 se3 hb hB21
    generalize upd H22 e3 (.lst []) = H23 at s1823 hB23 ⊢
    -- the one rides by the weekdays
    refine ⟨_, rfl, B, rfl, ⟨_, SqL.of hB23⟩, fun B3 fB3 => ?_⟩
    refine lc_list (K := K) (xs := M.map V.int) (fun j G => G B3 = some (.lst []) ∧ Same H23 G) ⟨upd_same, same_new fB3⟩ (fun j G _ q => SqL.of (q.2 _ _ hB23)) ?_ ?_
    · rintro j y G hj ⟨hb, sG⟩
      rw [List.getElem?_map] at hj
      obtain ⟨t, ht, rfl⟩ := Option.map_eq_some_iff.mp hj
      have dt := hM t (List.mem_of_getElem? ht)
      have dge := hMd t (List.mem_of_getElem? ht)
      have KG := K18.keep (s1823.trans sG)
      obtain ⟨wd, dk, hkw⟩ := KG.kno
      refine ⟨rfl, _, rfl, kw, dk, _, rfl, hkw, kw_no wd (by decide +kernel), _, rfl, _, rfl, kw, ds3, cs18, l1', z1, t, n + 3, rfl, KG, hz1, wk1, by omega, dt.1, dt.2, fun G4 s4 => ?_⟩
      refine ⟨_, rfl, _, _, rfl, rfl, (by decide : (0 : Int) < 7), _, rfl, nu, rfl, fun p G5 s5 f5 hp => ?_⟩
      refine ⟨p, _, rfl, .inl (SqL.of hp), rfl, ?_, ?_⟩
      · rw [List.all_eq_true]
        intro x hx
        obtain ⟨y, _, rfl⟩ := List.mem_map.mp hx
        rfl
      have ew : (if false = true then !inV (.int (t % 7)) ((K14.wd nu).map V.int) else inV (.int (t % 7)) ((K14.wd nu).map V.int)) = bitOn nu t := by
        rw [if_neg (by decide), in_wd _ dt.1]
      rw [ew, Z1 t dt dge]
      refine ⟨rfl, _, rfl, ?_⟩
      rw [decide_eq_true rfl]
      exact iteF ⟨s5 _ _ (s4 _ _ hb), (sG.trans s4).trans s5⟩
    rintro H24 ⟨hb, s24⟩
    refine ⟨by show 0 ≤ sizeLine; decide, fun e4 fe4 => ?_⟩
    have se4 := same_new (o := .lst []) fe4
    refine ⟨.list [], .list [], Dp.lst (SqL.of (se4 _ _ hb)) .nil, Dp.lst (SqL.of upd_same) .nil, by decide, by decide, _, rfl, iteF ?_⟩
    have s1825 := (s1823.trans s24).trans se4
    clear s1823 s24 se4 hb hB23
    generalize upd H24 e4 (.lst []) = H25 at s1825 ⊢
    refine ⟨_, rfl, al, rfl, ⟨_, SqL.of (s1825 _ _ hal18)⟩, ?_⟩
    refine for_list (K := K) (xs := L.map V.int) (fun i σ G => ∃ v10 : Option V, σ = [some (.ref pn), some (.ref kw), some (.ref o), some (.ref al), some (.str (S l1')), some (.ref D), some (.str (S l2')), some (.ref E1), some (.int d), some (.int nu), v10, some (.ref B), none] ∧ Same H25 G)
      ⟨_, rfl, fun _ _ e => e⟩ (fun i σ G _ z => by obtain ⟨_, _, z⟩ := z; exact SqL.of (z _ _ (s1825 _ _ hal18))) ?_ ?_
    · rintro i y σ G hi ⟨v10, rfl, sG⟩
      rw [List.getElem?_map] at hi
      obtain ⟨t, ht, rfl⟩ := Option.map_eq_some_iff.mp hi
      have dt := fx.ly t (List.mem_of_getElem? ht)
      have KG := K18.keep (s1825.trans sG)
      obtain ⟨wd, dk, hkw⟩ := KG.kno
      refine ⟨_, rfl, _, rfl, kw, dk, _, rfl, hkw, kw_no wd (by decide +kernel), _, rfl, kw, ds3, cs18, t, n + 3, rfl, KG, oks3, ndn, dt.1, dt.2, fun G2 p ys g s2 f2 hp pm nd2 hg => ⟨p, _, rfl, DGet.k (k := Sum.inr (S l1')) hp, ?_⟩⟩
      have ev : (valV (ys.map fun y => ((Sum.inr y : Key), V.int (g y))) (Sum.inr (S l1'))).isSome = z1.holds t := by
        by_cases hm : S l1' ∈ ys
        · rw [DQ.val_map (fun y => V.int (g y)) hm, (on_iff ndn hz1).mp (pm.mem_iff.mp hm)]
          rfl
        · rw [DQ.val_none (fun y => V.int (g y)) hm]
          cases q : z1.holds t with
          | false => rfl
          | true => exact absurd (pm.mem_iff.mpr ((on_iff ndn hz1).mpr q)) hm
      rw [ev]
      have K2 := KG.keep s2
      obtain ⟨wd2, dk2, hkw2⟩ := K2.kno
      refine ⟨_, rfl, kw, dk2, _, rfl, hkw2, kw_no wd2 (by decide +kernel), _, rfl, _, rfl, kw, ds3, cs18, l1', z1, t, n + 3, rfl, K2, hz1, wk1, by omega, dt.1, dt.2, fun G4 s4 => ?_⟩
      refine ⟨rfl, _, rfl, ?_⟩
      rw [decide_eq_true rfl]
      refine iteF ?_
      have K4 := K2.keep s4
      obtain ⟨wd4, dk4, hkw4⟩ := K4.kno
      refine ⟨_, rfl, kw, dk4, _, rfl, hkw4, kw_no wd4 (by decide +kernel), _, rfl, kw, ds3, cs18, t, n + 3, rfl, K4, oks3, ndn, dt.1, dt.2, fun G5 p2 ys2 g2 s5 f5 hp2 pm2 nd3 hg2 => ⟨p2, rfl, .inl ⟨_, .inl hp2⟩, _, rfl, _, DGet.k (k := Sum.inr (S l2')) hp2, ?_⟩⟩
      have ev2 : ((valV (ys2.map fun y => ((Sum.inr y : Key), V.int (g2 y))) (Sum.inr (S l2'))).getD (.int 2)) = .int 2 := by
        by_cases hm : S l2' ∈ ys2
        · rw [DQ.val_map (fun y => V.int (g2 y)) hm]
          show V.int (g2 (S l2')) = _
          rw [hg2 _ hz2]
          exact congrArg V.int Z4
        · rw [DQ.val_none (fun y => V.int (g2 y)) hm]
          rfl
      rw [ev2]
      refine ⟨rfl, _, rfl, ?_⟩
      rw [decide_eq_true rfl]
      exact iteF ⟨_, rfl, ((sG.trans s2).trans s4).trans s5⟩
    rintro σ' H26 ⟨v10, rfl, s26⟩
    have s1826 := s1825.trans s26
    clear s1825 s26
    have hD26 := s1826 _ _ hD18
    refine ⟨_, rfl, _, rfl, D, rfl, ⟨_, SqL.of hD26⟩, fun E2 fE2 => ?_⟩
    refine lc_list (K := K) (xs := kn.map V.str) (fun j G => ∃ qs : List (Addr × Addr × Fo), qs.map (·.2) = fs.take j ∧ G E2 = some (.lst (qs.map fun p => V.ref p.1)) ∧ (∀ p ∈ qs, G p.1 = some (.lst (L.map fun d => V.bl (lawOn p.2.2 (rulesOf p.2.2.l ts) d))) ∧ p.1 ≠ E2) ∧ Same H26 G)
      ⟨[], rfl, upd_same, (fun p hp => nomatch hp), same_new fE2⟩ (fun j G _ z => by obtain ⟨_, _, _, _, s⟩ := z; exact SqL.of (s _ _ hD26)) ?_ ?_
    · rintro j y G hj ⟨qs, eqs, hE, hqs, sG⟩
      rw [ekn, List.map_map, List.getElem?_map] at hj
      obtain ⟨x, hx, rfl⟩ := Option.map_eq_some_iff.mp hj
      have hxm := List.mem_of_getElem? hx
      have jl : j < fs.length := (List.getElem?_eq_some_iff.mp hx).1
      have pl : qs.length = j := by
        have := congrArg List.length eqs
        rw [List.length_map, List.length_take] at this
        omega
      obtain ⟨⟨l0, z⟩, hz, ez, rel, wok⟩ := sy9.at hxm
      have ez : l0 = x.2.l := ez
      subst ez
      have hz3 := hzo x hxm z hz
      refine ⟨rfl, _, rfl, _, rfl, _, rfl, kw, al, ds3, cs18, x.2.l, z, L, n + 3, rfl, K18.keep (s1826.trans sG), hz3, wok.weak (by omega), by omega, sG _ _ (s1826 _ _ hal18), fx.ly, y2, fun r G4 fr hr4 s4 => ?_⟩
      have nrE : r ≠ E2 := (ne_of_none hE fr).symm
      have er : (L.map fun d => V.bl (z.holds d)) = L.map fun d => V.bl (lawOn x.2 (rulesOf x.2.l ts) d) := List.map_congr_left fun d hd => by rw [rel.holds wok d (fx.ly d hd)]
      rw [er] at hr4
      refine ⟨_, s4 _ _ hE, by rw [List.length_map]; exact line_lt (by omega), qs ++ [(r, x)], ?_, ?_, fun p hp => ?_, fun b w e => ?_⟩
      · rw [List.map_append, eqs, take_one hx]
        rfl
      · rw [upd_same, List.map_append]
        rfl
      · rcases List.mem_append.mp hp with hp | hp
        · obtain ⟨h1, h2⟩ := hqs p hp
          exact ⟨by rw [upd_ne h2]; exact s4 _ _ h1, h2⟩
        · rw [List.mem_singleton.mp hp]
          exact ⟨by rw [upd_ne nrE]; exact hr4, nrE⟩
      · rw [upd_ne (ne_of_none e fE2)]
        exact s4 _ _ (sG _ _ e)
    rintro H27 ⟨qs, eqs, hE2, hqs, s27⟩
    have eqs : qs.map (·.2) = fs := by
      have e : (kn.map V.str).length = fs.length := by rw [ekn, List.length_map, List.length_map]
      rw [e, List.take_length] at eqs
      exact eqs
    have d1 := dp_ps (K := K) (H := H27) (ts := ts) (L := L) (ps := ps) fun p hp => s27 _ _ (s1826 _ _ (hps18 p hp))
    have d2 := dp_ps (K := K) (H := H27) (ts := ts) (L := L) (ps := qs) fun p hp => (hqs p hp).1
    rw [eps] at d1
    rw [eqs] at d2
    have sm2 := aD_sm (ts := ts) y2 fs (by omega)
    refine ⟨_, _, Dp.lst (SqL.of (s27 _ _ (s1826 _ _ hE18))) d1, Dp.lst (SqL.of hE2) d2, sm2.shaped (by decide), sm2.shaped (by decide), ?_⟩
    rw [sm2.same]
    exact hQ _
end
end K14
set_option Elab.async false
set_option linter.all false
set_option maxRecDepth 100000
set_option maxHeartbeats 4000000
namespace K14
open PySem PySem.Spec PyProof.Rows L2
open C8 (Cal Mak Met pe_c pe_mk pe_mt pe_mt0)
open SX (S)
section
variable {P : Program} {w : World} {K : PySem.W.Frag} {mg : Str → Option Value} {base : Heap} {f fL C CW : Addr} {fd fdL : FuncData}
def spLeft (C CW : Addr) : Sp := fun vs H Q _ => ∃ (pn kw o al : Addr) (c : Nat) (ds : List Dt) (cs : List Addr) (ts : List Dd) (fs : Fs) (L : List Int) (n : Nat), vs = [.ref pn, .ref kw, .ref o, .ref al] ∧ Lv C CW pn kw o al (c + 2) n fs L H ds cs ts ∧ Fx fs L ∧ n + 3 ≤ 1000 ∧
  ∀ H' ds' cs' ts', Lv C CW pn kw o al c (n + 3) fs L H' ds' cs' ts' → Q (.bl true) H'
theorem ok_left (F : Dn K d_l_left_right f fd) (b : Bl mg) (b2 : Bl2 mg) (TK : Cls K C) (cD : CalD P w K mg base) (mW : Met P w K mg base 5 C "wants" (spWants C CW) []) (mL : Met P w K mg base 5 C "leave" (spLeave C CW) []) (cO : Cal P w K mg base 6 "_law_one" (spOne C CW) [])
    (hmL : Meth K C "leave" fL) (FL : FnOk P w K mg base CX0 5 fL fdL ["self", "name", "day"] (spLeave C CW)) (kL : KBn K fdL ["self", "name", "day"] 1 ["day", "name"] (fun us ws => us ++ ws.reverse) (fun vs zs => vs ++ zs.reverse)) :
    FnOk P w K mg base CX0 7 f fd ["_law_pen_here", "_law_kept", "_law_people_here", "_law_asked"] (spLeft C CW) := by
  refine F.ok sc_l_left_right (fun vs H Q E h => ?_) (fun cdv A outer s H vs Q E hr h => ?_)
  · obtain ⟨_, _, _, _, _, _, _, _, _, _, _, rfl, _⟩ := h
    rfl
  · obtain ⟨pn, kw, o, al, c, ds, cs, ts, fs, L, n, rfl, lv, fx, hn, hQ⟩ := h
    refine ⟨_, PSs.nox (pss_cons (ps_asg (pe_tup (pa_cons (pe_ix ix_tup (pe_ix ix_list (pv 2) (pe_c cD hr (by decide) rfl (pa_cons (pv 0) (pa_cons (pe_callB call_len_seq rfl b.len boot_len (pa_cons (pv 2) pa_nil)) pa_nil))) (fun _ _ => rfl)) pe_int (fun _ _ => rfl))
        (pa_cons (pe_ix ix_list (pv 3) (pe_c cD hr (by decide) rfl (pa_cons (pv 0) (pa_cons (pe_callB call_len_seq rfl b.len boot_len (pa_cons (pv 3) pa_nil)) pa_nil))) (fun _ _ => rfl)) pa_nil))) (pg_tup rfl (pgs_cons (pg_name (i := 4) sc_l_left_right.nd rfl (.inr rfl)) (pgs_cons (pg_name (i := 5) sc_l_left_right.nd rfl (.inr rfl)) pgs_nil))))
      (pss_cons (ps_setLc (i := 6) (own := [("_law_today", 8)]) (g := gName 8) rfl sc_l_left_right.nd rfl rfl (sw_true rfl rfl rfl (by decide +kernel)) (pi_list (pv 3)) (blkOk_by (N := N_l_left_right) (sc := defScope s_l_left_right) (by decide +kernel))
          (fun _ _ _ _ _ => pg_name (i := 8) sc_l_left_right.nd rfl (Or.inl rfl)) (fun _ _ _ _ _ => pts_one (pt_cmpR op_le (pv 8) (pv 5) (nomark _))) (fun _ _ _ _ _ => pv 8))
      (pss_cons (ps_expr (pe_mt mL hr (by decide) (pv 1) (pa_cons (pv 4) (pa_cons pe_int pa_nil))))
      (pss_cons (ps_if (pt_cmpR (op_neD hr.units) (pe_lc (own := [("_law_today", 8)]) (g := gName 8) rfl sc_l_left_right.nd (pi_list (pv 3)) (blkOk_by (N := N_l_left_right) (sc := defScope s_l_left_right) (by decide +kernel))
          (fun _ _ _ _ _ => pg_name (i := 8) sc_l_left_right.nd rfl (Or.inl rfl)) (fun _ _ _ _ _ => pts_one (PW.pt (pw_and (pt_cmpR op_gt (pv 8) pe_int (nomark _)) (pw_and1 (pt_val (pe_mt mW hr (by decide) (pv 1) (pa_cons (pv 4) (pa_cons (pv 8) pa_nil)))))))) (fun _ _ _ _ _ => pv 8)) (pe_lst pa_nil) (nomark _)) pss_never pss_nil)
      (pss_cons (ps_expr (pe_mt mL hr (by decide) (pv 1) (pa_cons (pv 4) (pa_cons pe_int pa_nil))))
      (pss_cons (ps_set (i := 7) sc_l_left_right.nd rfl (.inl rfl) (pe_c cO hr (by decide) rfl (pa_cons (pv 1) (pa_cons (pv 4) (pa_cons (pv 6) pa_nil)))))
      (pss_cons (ps_expr (KW.pe_mtK (pv 1) TK hmL FL (hr.mono (by decide)) kL (pk_cons (pv 5) (pk_cons (pv 4) pk_nil))))
      (pss_cons (ps_if (pt_cmpR (op_neD hr.units) (pe_lc (own := [("_law_today", 8)]) (g := gName 8) rfl sc_l_left_right.nd (pi_list (pv 3)) (blkOk_by (N := N_l_left_right) (sc := defScope s_l_left_right) (by decide +kernel))
          (fun _ _ _ _ _ => pg_name (i := 8) sc_l_left_right.nd rfl (Or.inl rfl)) (fun _ _ _ _ _ => pts_one (PW.pt (pw_and (pt_cmpR op_gt (pv 8) (pv 5) (nomark _)) (pw_and1 (pt_val (pe_mt mW hr (by decide) (pv 1) (pa_cons (pv 4) (pa_cons (pv 8) pa_nil)))))))) (fun _ _ _ _ _ => pv 8)) (pe_lst pa_nil) (nomark _)) pss_never pss_nil)
      (pss_one (ps_ret (pe_cmpR (op_eqD hr.units) (pe_c cO hr (by decide) rfl (pa_cons (pv 1) (pa_cons (pv 4) (pa_cons (pv 6) pa_nil)))) (pv 7) (nomark _)))))))))))), ?_⟩
    have l1 := fx.l1
    have l5 := fx.l5
    have y1 := fx.y1
    have y2 := fx.y2
    refine ⟨_, rfl, _, rfl, _, rfl, o, _, rfl, .inl (SqL.of lv.o_), pn, c + 1, _, rfl, lv.pen, by unfold refs; rw [List.length_map]; omega, by unfold refs; rw [List.length_map]; omega, fun r1 H1 a1 z1 pen1 k1 => ?_⟩
    have lv1 := lv.kpp k1 pen1
    unfold refs at z1
    rw [List.length_map] at z1
    obtain ⟨x, hx, el⟩ := pick (fun x : Addr × Fo => V.ref x.1) a1 z1
    refine ⟨o, _, _, _, rfl, rfl, SqL.of lv1.o_, el, x.1, _, _, _, rfl, rfl, SqT.of (lv1.ft x hx), rfl, ?_⟩
    refine ⟨_, rfl, _, rfl, _, rfl, al, _, rfl, .inl (SqL.of lv1.al_), pn, c, _, rfl, lv1.pen, by rw [List.length_map]; omega, by rw [List.length_map]; omega, fun r2 H2 a2 z2 pen2 k2 => ?_⟩
    have lv2 := lv1.kpp k2 pen2
    rw [List.length_map] at z2
    obtain ⟨d, hd, ed⟩ := pick V.int a2 z2
    have dd := fx.ly d hd
    refine ⟨al, _, _, _, rfl, rfl, SqL.of lv2.al_, ed, ?_⟩
    clear lv lv1
    obtain ⟨wd, dk, hkw⟩ := lv2.kd.kno
    refine ⟨by show 2 ≤ sizeLine; decide, fun u fu => ?_⟩
    have lv3 := lv2.same (same_new (o := .tup [.str (S x.2.l), .int d]) fu)
    have hu3 : (upd H2 u (.tup [.str (S x.2.l), .int d])) u = some (.tup [.str (S x.2.l), .int d]) := upd_same
    generalize upd H2 u (.tup [.str (S x.2.l), .int d]) = H3 at lv3 hu3 ⊢
    clear lv2 hkw k1 k2 pen1 pen2
    refine ⟨u, _, rfl, SqT.of hu3, rfl, _, _, rfl, _, _, rfl, rfl, ?_⟩
    -- the days up to the last one
    refine ⟨_, rfl, al, rfl, ⟨_, SqL.of lv3.al_⟩, fun D fD => ?_⟩
    refine lc_list (K := K) (xs := L.map V.int) (fun j G => G D = some (.lst (((L.take j).filter fun t => decide (t ≤ d)).map V.int)) ∧ Same H3 G) ⟨upd_same, same_new fD⟩ (fun j G _ q => SqL.of (q.2 _ _ lv3.al_)) ?_ ?_
    · rintro j y G hj ⟨hD, sG⟩
      rw [List.getElem?_map] at hj
      obtain ⟨t, ht, rfl⟩ := Option.map_eq_some_iff.mp hj
      have jl : j < L.length := (List.getElem?_eq_some_iff.mp ht).1
      refine ⟨rfl, _, rfl, _, rfl, _, _, rfl, rfl, _, rfl, ?_⟩
      rw [flt_step ht]
      have ln : (((L.take j).filter fun t => decide (t ≤ d)).map V.int).length ≤ 100 := by
        rw [List.length_map]
        have h1 := List.length_filter_le (fun t => decide (t ≤ d)) (L.take j)
        rw [List.length_take] at h1
        omega
      refine ite2 (fun c => ?_) (fun c => ?_)
      · refine ⟨_, rfl, _, hD, line_lt (by omega), ?_, fun b w e => ?_⟩
        · rw [upd_same, if_pos c, List.map_append]
          rfl
        · rw [upd_ne (ne_of_none e fD)]
          exact sG _ _ e
      · rw [if_neg c, List.append_nil]
        exact ⟨hD, sG⟩
    rintro H4 ⟨hD, s4⟩
    rw [List.length_map, List.take_length] at hD
    have noD := lv3.new fD
    have lv4 := lv3.same s4
    clear lv3
    -- left on the first day
    obtain ⟨z, hz, rel, wok⟩ := lv4.wish hx
    obtain ⟨wd, dk, hkw⟩ := lv4.kd.kno
    refine ⟨_, rfl, kw, dk, _, rfl, hkw, kw_no wd (by decide +kernel), _, rfl, kw, ds, cs, x.2.l, z, 0, rfl, lv4.kd, hz, by decide, by decide, fun H5 cs5 k5 f5 => ?_⟩
    obtain ⟨ds5, lv5, hz5⟩ := lv4.step hz (x := .leave x.2.l 0) (⟨by decide, by decide⟩ : isDay 0) rfl k5 f5
    have hz5 : (x.2.l, leaveW 0 z) ∈ ds5 := hz5
    have hD5 := f5.1 _ _ noD hD
    have noD5 := out_fr noD hD f5
    clear lv4 hkw k5 f5 hD noD wok rel
    refine ⟨_, rfl, al, rfl, ⟨_, SqL.of lv5.al_⟩, fun B fB => ?_⟩
    refine lc_list (K := K) (xs := L.map V.int) (fun j G => G B = some (.lst []) ∧ Same H5 G) ⟨upd_same, same_new fB⟩ (fun j G _ q => SqL.of (q.2 _ _ lv5.al_)) ?_ ?_
    · rintro j y G hj ⟨hB, sG⟩
      rw [List.getElem?_map] at hj
      obtain ⟨t, ht, rfl⟩ := Option.map_eq_some_iff.mp hj
      have dt := fx.ly t (List.mem_of_getElem? ht)
      refine ⟨rfl, _, rfl, _, _, rfl, rfl, _, rfl, ?_⟩
      refine ite2 (fun c => ?_) (fun c => ⟨hB, sG⟩)
      have c' : 0 < t := of_decide_eq_true c
      have lg := lv5.same sG
      obtain ⟨wd, dk, hkw⟩ := lg.kd.kno
      refine ⟨_, rfl, kw, dk, _, rfl, hkw, kw_no wd (by decide +kernel), _, rfl, _, rfl, kw, ds5, cs5, x.2.l, _, t, _, rfl, lg.kd, hz5, lg.wok hz5 (by omega) (by omega), by omega, dt.1, dt.2, fun G4 s4 => ⟨_, rfl, ?_⟩⟩
      rw [leave_over c']
      exact iteF ⟨s4 _ _ hB, sG.trans s4⟩
    rintro H6 ⟨hB, s6⟩
    have lv6 := lv5.same s6
    have hD6 := s6 _ _ hD5
    clear lv5 hD5
    refine ⟨by show 0 ≤ sizeLine; decide, fun e0 fe => ?_⟩
    have se := same_new (o := .lst []) fe
    refine ⟨.list [], .list [], Dp.lst (SqL.of (se _ _ hB)) .nil, Dp.lst (SqL.of upd_same) .nil, by decide, by decide, _, rfl, iteF ?_⟩
    have lv7 := lv6.same se
    have hD7 := se _ _ hD6
    clear lv6 hD6 hB
    generalize upd H6 e0 (.lst []) = H7 at lv7 hD7 ⊢
    -- left on the last day of all
    have wok := lv7.wok hz5 (by omega) (by omega)
    obtain ⟨wd, dk, hkw⟩ := lv7.kd.kno
    refine ⟨_, rfl, kw, dk, _, rfl, hkw, kw_no wd (by decide +kernel), _, rfl, kw, ds5, cs5, x.2.l, _, 1000000, rfl, lv7.kd, hz5, by decide, by decide, fun H8 cs8 k8 f8 => ?_⟩
    obtain ⟨ds8, lv8, hz8⟩ := lv7.step hz5 (x := .leave x.2.l 1000000) (⟨by decide, by decide⟩ : isDay 1000000) rfl k8 f8
    have hz8 : (x.2.l, leaveW 1000000 (leaveW 0 z)) ∈ ds8 := hz8
    have hD8 := f8.1 _ _ noD5 hD7
    have noD8 := out_fr noD5 hD7 f8
    clear lv7 hkw k8 f8 hD7 noD5 wok
    obtain ⟨M, eM⟩ : ∃ M, M = L.filter fun t => decide (t ≤ d) := ⟨_, rfl⟩
    rw [← eM] at hD8
    have hM : ∀ t ∈ M, isDay t := fun t ht => fx.ly t (List.mem_filter.mp (show t ∈ L.filter (fun t => decide (t ≤ d)) from eM ▸ ht)).1
    have hMd : ∀ t ∈ M, t ≤ d := fun t ht => of_decide_eq_true (List.mem_filter.mp (show t ∈ L.filter (fun t => decide (t ≤ d)) from eM ▸ ht)).2
    have lM : M.length ≤ 100 := by
      rw [eM]
      exact Nat.le_trans (List.length_filter_le _ _) y2
    clear eM
    refine ⟨_, rfl, _, rfl, _, rfl, kw, D, ds8, cs8, x.2.l, _, M, _, rfl, lv8.kd, hz8, lv8.wok hz8 (by omega) (by omega), by omega, hD8, hM, lM, fun r H9 fr hr9 s9 => ?_⟩
    have lv9 := lv8.same s9
    have nor := lv8.new fr
    have hD9 := s9 _ _ hD8
    clear lv8 hD8
    -- left on the day
    obtain ⟨wd, dk, hkw⟩ := lv9.kd.kno
    refine ⟨_, rfl, kw, dk, _, rfl, hkw, kw_no wd (by decide +kernel), _, rfl, _, rfl, rfl, kw, ds8, cs8, x.2.l, _, d, rfl, lv9.kd, hz8, dd.1, dd.2, fun H10 cs10 k10 f10 => ?_⟩
    obtain ⟨ds10, lv10, hz10⟩ := lv9.step hz8 (x := .leave x.2.l d) dd rfl k10 f10
    have hz10 : (x.2.l, leaveW d (leaveW 1000000 (leaveW 0 z))) ∈ ds10 := hz10
    have hD10 := f10.1 _ _ noD8 hD9
    have hr10 := f10.1 _ _ nor hr9
    clear lv9 hkw k10 f10 hD9 noD8 nor hr9
    refine ⟨_, rfl, al, rfl, ⟨_, SqL.of lv10.al_⟩, fun B fB => ?_⟩
    refine lc_list (K := K) (xs := L.map V.int) (fun j G => G B = some (.lst []) ∧ Same H10 G) ⟨upd_same, same_new fB⟩ (fun j G _ q => SqL.of (q.2 _ _ lv10.al_)) ?_ ?_
    · rintro j y G hj ⟨hB, sG⟩
      rw [List.getElem?_map] at hj
      obtain ⟨t, ht, rfl⟩ := Option.map_eq_some_iff.mp hj
      have dt := fx.ly t (List.mem_of_getElem? ht)
      refine ⟨rfl, _, rfl, _, rfl, _, _, rfl, rfl, _, rfl, ?_⟩
      refine ite2 (fun c => ?_) (fun c => ⟨hB, sG⟩)
      have c' : d < t := of_decide_eq_true c
      have lg := lv10.same sG
      obtain ⟨wd, dk, hkw⟩ := lg.kd.kno
      refine ⟨_, rfl, kw, dk, _, rfl, hkw, kw_no wd (by decide +kernel), _, rfl, _, rfl, kw, ds10, cs10, x.2.l, _, t, _, rfl, lg.kd, hz10, lg.wok hz10 (by omega) (by omega), by omega, dt.1, dt.2, fun G4 s4 => ⟨_, rfl, ?_⟩⟩
      rw [leave_over c']
      exact iteF ⟨s4 _ _ hB, sG.trans s4⟩
    rintro H11 ⟨hB, s11⟩
    have lv11 := lv10.same s11
    have hD11 := s11 _ _ hD10
    have hr11 := s11 _ _ hr10
    clear lv10 hD10 hr10
    refine ⟨by show 0 ≤ sizeLine; decide, fun e1 fe1 => ?_⟩
    have se1 := same_new (o := .lst []) fe1
    refine ⟨.list [], .list [], Dp.lst (SqL.of (se1 _ _ hB)) .nil, Dp.lst (SqL.of upd_same) .nil, by decide, by decide, _, rfl, iteF ?_⟩
    have lv12 := lv11.same se1
    have hD12 := se1 _ _ hD11
    have hr12 := se1 _ _ hr11
    clear lv11 hD11 hr11 hB
    generalize upd H11 e1 (.lst []) = H12 at lv12 hD12 hr12 ⊢
    refine ⟨_, rfl, _, rfl, _, rfl, kw, D, ds10, cs10, x.2.l, _, M, _, rfl, lv12.kd, hz10, lv12.wok hz10 (by omega) (by omega), by omega, hD12, hM, lM, fun r2 H13 fr2 hr13 s13 => ?_⟩
    have lv13 := lv12.same s13
    have e : (M.map fun t => V.bl ((leaveW d (leaveW 1000000 (leaveW 0 z))).holds t)) = M.map fun t => V.bl ((leaveW 1000000 (leaveW 0 z)).holds t) := List.map_congr_left fun t ht => by
      have := leave_within (z := leaveW 1000000 (leaveW 0 z)) (hMd t ht) (hM t ht).2
      rw [this]
      rfl
    rw [e] at hr13
    refine ⟨_, rfl, _, _, Dp.lst (SqL.of hr13) (dp_bls M), Dp.lst (SqL.of (s13 _ _ hr12)) (dp_bls M), ?_⟩
    have sm : SD.Sm 2100 1 (.list (M.map fun t => PyData.bool ((leaveW 1000000 (leaveW 0 z)).holds t))) := (SD.Sm.lst (SD.SmA.map (n := 20) (k := 0) fun t _ => sm_bool _)).mono (by omega) (Nat.le_refl _)
    refine ⟨sm.shaped (by decide), sm.shaped (by decide), ?_⟩
    rw [sm.same]
    exact hQ _ _ _ _ (lv13.weak (Nat.le_refl _) (by omega))
end
end K14
set_option Elab.async false
set_option linter.all false
set_option maxRecDepth 100000
set_option maxHeartbeats 4000000
namespace K14
open PySem PySem.Spec PyProof.Rows L2
open C8 (Cal Mak Met pe_c pe_mk pe_mt pe_mt0)
open SX (S)
/-- may a deed be done, as the law reads it -/
def goesB (x : Dd) (R : Rl) : Bool := match x with
  | .usual _ d => (getI R.al d).isSome
  | _ => true
theorem dd_v1 (x : Dd) : atI x.v 1 = some (.str (S x.l)) := by cases x <;> rfl
theorem dd_us (x : Dd) : (∃ l d, x = .usual l d) ∨ (∃ w0, atI x.v 0 = some (.str w0) ∧ ¬ w0 = Str.ofString "usual" ∧ (∀ z, x.can z) ∧ ∀ R, goesB x R = true) := by
  cases x with
  | leave l d => exact .inr ⟨Str.ofString "leave", rfl, by decide +kernel, fun _ => trivial, fun _ => rfl⟩
  | weekly l m d => exact .inr ⟨Str.ofString "weekly", rfl, by decide +kernel, fun _ => trivial, fun _ => rfl⟩
  | only l d b => exact .inr ⟨Str.ofString "only", rfl, by decide +kernel, fun _ => trivial, fun _ => rfl⟩
  | usual l d => exact .inl ⟨l, d, rfl⟩
  | sick l a t => exact .inr ⟨Str.ofString "sick", rfl, by decide +kernel, fun _ => trivial, fun _ => rfl⟩
  | well l d => exact .inr ⟨Str.ofString "well", rfl, by decide +kernel, fun _ => trivial, fun _ => rfl⟩
theorem goes_can {x : Dd} {R : Rl} {z : Ws} (h : goesB x R = true) (e : ∀ k, getI z.al k = getI R.al k) : x.can z := by
  cases x with
  | usual l d =>
    show (getI z.al d).isSome = true
    rw [e]
    exact h
  | leave l d => trivial
  | weekly l m d => trivial
  | only l d b => trivial
  | sick l a t => trivial
  | well l d => trivial
theorem inV_ints (d : Int) : ∀ R : List Int, inV (.int d) (R.map V.int) = decide (d ∈ R)
  | [] => rfl
  | y :: R => by
    have ih := inV_ints d R
    unfold inV at ih ⊢
    rw [List.map_cons, List.any_cons, ih]
    have e : eqV (.int y) (.int d) = decide (d = y) := by
      show decide (y = d) = decide (d = y)
      exact decide_eq_decide.mpr ⟨Eq.symm, Eq.symm⟩
    rw [e]
    simp [Bool.decide_or]
theorem flat_ints (R : List Int) : (R.map V.int).all flatV = true := by
  rw [List.all_eq_true]
  intro z hz
  obtain ⟨y, _, rfl⟩ := List.mem_map.mp hz
  rfl
section
variable {P : Program} {w : World} {K : PySem.W.Frag} {mg : Str → Option Value} {base : Heap} {f C CW CP : Addr} {fd : FuncData}
def spGoes : Sp := fun vs H Q _ => ∃ (dl t : Addr) (ts : List (Addr × Dd)) (x : Dd), vs = [.ref dl, .ref t] ∧ H dl = some (.lst (ts.map fun x => V.ref x.1)) ∧ Tups H ts ∧ ts.length ≤ 100 ∧ H t = some (.tup x.v) ∧ ∀ H', Same H H' → Q (.bl (goesB x (rulesOf x.l (ts.map (·.2))))) H'
theorem ok_goes (F : Dn K d_l_goes f fd) (cR : Cal P w K mg base 1 "_law_rules" spRules []) : FnOk P w K mg base CX0 2 f fd ["_law_deeds", "_law_act"] spGoes := by
  refine F.ok sc_l_goes (fun vs H Q E h => ?_) (fun cdv A outer s H vs Q E hr h => ?_)
  · obtain ⟨_, _, _, _, rfl, _⟩ := h
    rfl
  · obtain ⟨dl, t, ts, x, rfl, hdl, hts, tlen, ht, hQ⟩ := h
    have hu := hu_of hr
    refine ⟨_, PSs.nox (pss_cons (ps_setLc (i := 2) (own := [("_law_one_here", 3), ("_law_is_so", 4)]) (g := gTup K 2 (gCons (gName 3) (gCons (gName 4) gNil))) (tt := tYes) rfl sc_l_goes.nd rfl rfl (sw_true rfl rfl rfl (by decide +kernel)) (pi_list (pe_dget hu (pe_c cR hr (by decide) rfl (pa_cons (pv 0) (pa_cons (pe_ix ix_tup (pv 1) pe_int (fun _ _ => rfl)) pa_nil))) pe_str (fun _ _ => rfl))) (blkOk_by (N := N_l_goes) (sc := defScope s_l_goes) (by decide +kernel))
          (fun _ _ _ _ _ => pg_tup rfl (pgs_cons (pg_name (i := 3) sc_l_goes.nd rfl (Or.inl rfl)) (pgs_cons (pg_name (i := 4) sc_l_goes.nd rfl (Or.inl rfl)) pgs_nil))) (fun _ _ _ _ _ => pts_nil) (fun _ _ _ _ _ => pv 3))
      (pss_one (ps_ret (pe_or (pe_cmpR op_ne (pe_ix ix_tup (pv 1) pe_int (fun _ _ => rfl)) pe_str (nomark _)) (pe_one (pe_cmpR op_in_seq (pe_ix ix_tup (pv 1) pe_int (fun _ _ => rfl)) (pv 2) (by rfl))))))), ?_⟩
    refine ⟨_, rfl, _, rfl, t, _, _, _, rfl, rfl, SqT.of ht, dd_v1 x, ?_⟩
    dsimp only [tNil]
    refine ⟨dl, x.l, ts, rfl, hdl, hts, tlen, fun r m a0 s0 G5 s5 fr fnew rh => ?_⟩
    have ra := rules_all x.l (ts.map (·.2))
    obtain ⟨ta, eta, ha, hat⟩ := rh.a_
    have lta : ta.length ≤ 100 := by
      have h1 := congrArg List.length eta
      have h2 := ra.a
      rw [List.length_map] at h1 h2
      omega
    have ht5 := s5 _ _ ht
    refine ⟨r, .ref a0, rfl, dg_a rh.r_, a0, rfl, ⟨_, SqL.of ha⟩, fun E1 fE => ?_⟩
    refine lc_list (K := K) (xs := ta.map fun x => V.ref x.1) (fun j G => G E1 = some (.lst (((ta.take j).map fun y => y.2.1).map V.int)) ∧ Same G5 G) ⟨upd_same, same_new fE⟩ (fun j G _ z => SqL.of (z.2 _ _ ha)) ?_ ?_
    · rintro j y G hj ⟨hE, s6⟩
      rw [List.getElem?_map] at hj
      obtain ⟨z, hz, rfl⟩ := Option.map_eq_some_iff.mp hj
      have jl : j < ta.length := (List.getElem?_eq_some_iff.mp hz).1
      refine ⟨z.1, _, rfl, SqT.of (s6 _ _ (hat z (List.mem_of_getElem? hz))), rfl, _, _, rfl, _, _, rfl, rfl, rfl, ?_⟩
      refine ⟨_, rfl, _, hE, ?_, ?_, fun b w e => ?_⟩
      · rw [List.length_map, List.length_map, List.length_take]
        exact line_lt (by omega)
      · rw [upd_same, take_one hz, List.map_append, List.map_append]
        rfl
      · rw [upd_ne (ne_of_none e fE)]
        exact s6 _ _ e
    rintro G6 ⟨hE, s6⟩
    rw [List.length_map, List.take_length] at hE
    have ht6 := s6 _ _ ht5
    have q := hQ G6 (s5.trans s6)
    rcases dd_us x with ⟨l0, d0, rfl⟩ | ⟨w0, hw0, hw1, _, hg⟩
    · refine ⟨_, rfl, t, _, _, _, rfl, rfl, SqT.of ht6, rfl, rfl, _, rfl, ?_⟩
      refine in_no (by rw [decide_eq_true rfl]; rfl) ?_
      refine ⟨_, rfl, t, _, _, _, rfl, rfl, SqT.of ht6, rfl, _, rfl, E1, _, rfl, .inl (SqL.of hE), rfl, flat_ints _, ?_⟩
      rw [inV_ints]
      have e : decide (d0 ∈ ta.map fun y => y.2.1) = goesB (.usual l0 d0) (rulesOf (Dd.usual l0 d0).l (ts.map (·.2))) := by
        show _ = (getI _ d0).isSome
        rw [Bool.eq_iff_iff, decide_eq_true_eq, getI_isSome, ← eta, List.map_map]
        rfl
      rw [e]
      exact q
    · refine ⟨_, rfl, t, _, _, _, rfl, rfl, SqT.of ht6, hw0, rfl, _, rfl, ?_⟩
      refine in_yes ?_ ?_
      · have : decide (V.str w0 = V.str (Str.ofString "usual")) = false := decide_eq_false fun z => hw1 (V.str.inj z)
        rw [this]
        rfl
      · rw [hg] at q
        exact q
end
end K14
set_option Elab.async false
set_option linter.all false
set_option maxRecDepth 100000
set_option maxHeartbeats 4000000
namespace K14
open PySem PySem.Spec PyProof.Rows L2
open SX (S)
/-! ### what stands while the deeds are told -/
abbrev Ts := List (Addr × Dd)
structure Lw (C CW p kw dl : Addr) (c n : Nat) (fs : Fs) (FX : List (Addr × List V)) (H : Hp) (ds : List Dt) (cs : List Addr) (ts : Ts) : Prop where
  pen : Pen H p c
  kd : Kd C CW H kw ds cs
  oc : ∀ b ∈ cs, Off p b H
  fx : ∀ x ∈ FX, H x.1 = some (.lst x.2) ∧ Off p x.1 H ∧ x.1 ∉ cs ∧ x.1 ≠ dl
  dl_ : H dl = some (.lst (ts.map fun x => V.ref x.1))
  od : Off p dl H
  nd : dl ∉ cs
  ft : FsT H fs
  tt : Tups H ts
  sy : Sync n fs ds (ts.map (·.2))
section
variable {C CW p kw dl : Addr} {c c' n n' : Nat} {fs : Fs} {FX : List (Addr × List V)} {H H' : Hp} {ds : List Dt} {cs cs' : List Addr} {ts : Ts}
theorem Lw.kpp (h : Lw C CW p kw dl c n fs FX H ds cs ts) (k : Kp p H H') (pen : Pen H' p c') : Lw C CW p kw dl c' n fs FX H' ds cs ts := by
  obtain ⟨l, ns, n1, m, hp, _⟩ := id h.pen
  exact ⟨pen, h.kd.keepP (fun b hb o e => k.1 _ _ e (h.oc b hb).ne) (fun c dx fs e => k.1 _ _ e (ne_of e hp (by intro z; cases z))) (fun b vs e => k.1 _ _ e (ne_of e hp (by intro z; cases z))), fun b hb => (h.oc b hb).kp k,
    fun x hx => ⟨k.1 _ _ (h.fx x hx).1 (h.fx x hx).2.1.ne, (h.fx x hx).2.1.kp k, (h.fx x hx).2.2⟩, k.1 _ _ h.dl_ h.od.ne, h.od.kp k, h.nd, fun x hx => k.1 _ _ (h.ft x hx) (ne_of (h.ft x hx) hp (by intro z; cases z)), fun x hx => k.1 _ _ (h.tt x hx) (ne_of (h.tt x hx) hp (by intro z; cases z)), h.sy⟩
theorem Lw.same (h : Lw C CW p kw dl c n fs FX H ds cs ts) (s : Same H H') : Lw C CW p kw dl c n fs FX H' ds cs ts := h.kpp (Kp.same s) (h.pen.same s)
theorem Lw.weak (h : Lw C CW p kw dl c n fs FX H ds cs ts) (hc : c' ≤ c) (hn : n ≤ n') : Lw C CW p kw dl c' n' fs FX H ds cs ts := ⟨h.pen.weak hc, h.kd, h.oc, h.fx, h.dl_, h.od, h.nd, h.ft, h.tt, h.sy.weak hn⟩
theorem Lw.pnc (h : Lw C CW p kw dl c n fs FX H ds cs ts) : p ∉ cs := fun hb => (h.oc _ hb).ne rfl
theorem Lw.add (h : Lw C CW p kw dl c n fs FX H ds cs ts) {a : Addr} {xs : List V} (f : H a = none) : Lw C CW p kw dl c n fs ((a, xs) :: FX) (upd H a (.lst xs)) ds cs ts := by
  have s := same_new (o := .lst xs) f
  have q := h.same s
  refine ⟨q.pen, q.kd, q.oc, fun x hx => ?_, q.dl_, q.od, q.nd, q.ft, q.tt, q.sy⟩
  rcases List.mem_cons.mp hx with rfl | hx
  · refine ⟨upd_same, (Off.of h.pen f).kp (Kp.same s), fun hb => ?_, (ne_of_none h.dl_ f).symm⟩
    obtain ⟨⟨u, e⟩, _⟩ := h.kd.some hb
    rw [f] at e
    cases e
  · exact q.fx x hx
theorem Lw.told (h : Lw C CW p kw dl c n fs FX H ds cs ts) {x : Dd} {t : Addr} (hx : x.ok) (ht : H t = some (.tup x.v)) (k : Kd C CW H' kw (upW ds x.l x.act) cs') (f : Fr H H' cs cs') :
    H' dl = some (.lst (ts.map fun x => V.ref x.1)) ∧ Lw C CW p kw dl c (n + 1) fs FX (upd H' dl (.lst ((ts.map fun x => V.ref x.1) ++ [.ref t]))) (upW ds x.l x.act) cs' (ts ++ [(t, x)]) := by
  have hd := f.1 _ _ h.nd h.dl_
  have tup : ∀ {b : Addr} {vs : List V}, H b = some (.tup vs) → (upd H' dl (.lst ((ts.map fun x => V.ref x.1) ++ [.ref t]))) b = some (.tup vs) := fun {b vs} e => by
    have e2 := f.1 _ _ (fun hb => (h.kd.some hb).2 _ e) e
    rw [upd_ne (ne_of e2 hd (by intro z; cases z))]
    exact e2
  have nd' := out_fr h.nd h.dl_ f
  have od' := h.od.fr h.pnc f
  have pd : p ≠ dl := od'.ne.symm
  refine ⟨hd, (h.pen.fr h.oc f).put od', k.keepP (fun b hb o e => by rw [upd_ne (show b ≠ dl from fun z => nd' (by rw [← z]; exact hb))]; exact e) (fun c dx fs e => by rw [upd_ne (ne_of e hd (by intro z; cases z))]; exact e) (fun b vs e => by rw [upd_ne (ne_of e hd (by intro z; cases z))]; exact e), fun b hb => ?_, fun y hy => ?_, ?_, od'.put pd, nd', fun y hy => tup (h.ft y hy), fun y hy => ?_, ?_⟩
  · refine Off.put ?_ pd
    rcases f.2 b hb with z | z
    · exact (h.oc b z).fr h.pnc f
    · exact (Off.of h.pen z).fr h.pnc f
  · obtain ⟨h1, h2, h3, h4⟩ := h.fx y hy
    exact ⟨by rw [upd_ne h4]; exact f.1 _ _ h3 h1, (h2.fr h.pnc f).put pd, out_fr h3 h1 f, h4⟩
  · rw [upd_same, List.map_append]
    rfl
  · rcases List.mem_append.mp hy with hy | hy
    · exact tup (h.tt y hy)
    · rw [List.mem_singleton.mp hy]
      exact tup ht
  · rw [List.map_append]
    exact h.sy.told hx
theorem Lw.lv (h : Lw C CW p kw dl c n fs FX H ds cs ts) {o al : Addr} {L : List Int} (ho : (o, refs fs) ∈ FX) (ha : (al, L.map V.int) ∈ FX) : Lv C CW p kw o al c n fs L H ds cs (ts.map (·.2)) :=
  ⟨h.pen, h.kd, h.oc, (h.fx _ ho).1, (h.fx _ ho).2.1, (h.fx _ ho).2.2.1, (h.fx _ ha).1, (h.fx _ ha).2.1, (h.fx _ ha).2.2.1, h.ft, h.sy⟩
end
end K14
set_option Elab.async false
set_option linter.all false
set_option maxRecDepth 100000
set_option maxHeartbeats 4000000
namespace K14
open PySem PySem.Spec PyProof.Rows L2
open C8 (Cal Mak Met pe_c pe_mk pe_mt pe_mt0)
open SX (S)
section
variable {P : Program} {w : World} {K : PySem.W.Frag} {mg : Str → Option Value} {base : Heap} {f C CW CP : Addr} {fd : FuncData}
def spLaw (K : PySem.W.Frag) : Sp := fun vs H Q _ => ∃ (a : Addr) (ns : List Int), vs = [.ref a] ∧ SqL K H a (ns.map V.int) ∧ ns.length ≤ 63 ∧ ∀ H', Q (.bl true) H'
theorem ok_law (F : Dn K d_law f fd) (b : Bl mg) (cPn : Cal P w K mg base 1 "_law_pen" (spPen K) []) (cD : CalD P w K mg base) (cPe : Cal P w K mg base 3 "_law_people" spPeople []) (cBg : Cal P w K mg base 6 "_law_begun" (spBegun C CW) []) (cDe : Cal P w K mg base 3 "_law_deed" spDeed []) (cGo : Cal P w K mg base 2 "_law_goes" spGoes []) (cDo : Cal P w K mg base 7 "_law_done" (spDone C CW) [])
    (cSt : Cal P w K mg base 7 "_law_stage_right" (spStage C CW) []) (cAl : GL.CalG P w K mg base 8 "_law_alone_right" (spAlone C CW) []) (cLe : Cal P w K mg base 7 "_law_left_right" (spLeft C CW) []) (cEn : Cal P w K mg base 7 "_law_entering_right" (spEntering C CW) []) :
    GL.FnG P w K mg base 9 f fd ["_law_script"] (spLaw K) := by
  refine GL.okG F sc_law (fun vs H Q E h => ?_) (fun cdv A outer s H vs Q E hgd hr h => ?_)
  · obtain ⟨a, ns, rfl, _⟩ := h
    rfl
  · obtain ⟨a, ns, rfl, hs, h63, hQ⟩ := h
    have hgd2 : (A.deeper (envOfC d_law.qual d_law.scope s.heap.objs.size f cdv)).guards = some [] := hgd
    refine ⟨_, PSs.nox (pss_cons (ps_set (i := 1) sc_law.nd rfl (.inr rfl) (pe_c cPn hr (by decide) rfl (pa_cons (pv 0) pa_nil)))
      (pss_cons (ps_set (i := 2) sc_law.nd rfl (.inr rfl) (pe_ix ix_list (pe_lst (pa_cons pe_int (pa_cons pe_int (pa_cons pe_int (pa_cons (pe_c cD hr (by decide) rfl (pa_cons (pv 1) (pa_cons pe_int pa_nil))) (pa_cons pe_int pa_nil)))))) (pe_c cD hr (by decide) rfl (pa_cons (pv 1) (pa_cons pe_int pa_nil))) (fun _ _ => rfl)))
      (pss_cons (ps_par (i := 3) (j := 4) rfl sc_law.nd rfl rfl (by decide) rfl rfl (pa_cons (pe_c cPe hr (by decide) rfl (pa_cons (pv 1) (pa_cons (pv 2) pa_nil))) (pa_cons (pe_lst pa_nil) pa_nil)) rfl)
      (pss_cons (ps_par (i := 5) (j := 6) rfl sc_law.nd rfl rfl (by decide) rfl rfl (pa_cons (pe_c cBg hr (by decide) rfl (pa_cons (pv 3) pa_nil)) (pa_cons (pe_lc (own := [("_law_one_here", 10)]) (g := gName 10) (tt := tYes) rfl sc_law.nd (pi_list (pv 3)) (blkOk_by (N := N_law) (sc := defScope s_law) (by decide +kernel))
            (fun _ _ _ _ _ => pg_name (i := 10) sc_law.nd rfl (Or.inl rfl)) (fun _ _ _ _ _ => pts_nil) (fun _ _ _ _ _ => pe_ix (r := rIxT K) ix_tup (pv 10) pe_int (fun _ _ => rfl))) pa_nil)) rfl)
      (C8.pss_cut (ps_set (i := 7) sc_law.nd rfl (.inl rfl) (pe_op op_cat (pe_lc (own := [("_law_k", 11)]) (g := gName 11) (tt := tYes) rfl sc_law.nd (pi_range1 rfl b.range (pa_cons pe_int pa_nil)) (blkOk_by (N := N_law) (sc := defScope s_law) (by decide +kernel))
            (fun _ _ _ _ _ => pg_name (i := 11) sc_law.nd rfl (Or.inl rfl)) (fun _ _ _ _ _ => pts_nil) (fun _ _ _ _ _ => pe_op op_add (pv 2) (pv 11)))
          (pe_lc (own := [("_law_k", 11)]) (g := gName 11) (tt := tYes) rfl sc_law.nd (pi_range1 rfl b.range (pa_cons pe_int pa_nil)) (blkOk_by (N := N_law) (sc := defScope s_law) (by decide +kernel))
            (fun _ _ _ _ _ => pg_name (i := 11) sc_law.nd rfl (Or.inl rfl)) (fun _ _ _ _ _ => pts_nil) (fun _ _ _ _ _ => pe_op op_add (pv 2) (pe_c cD hr (by decide) rfl (pa_cons (pv 1) (pa_cons pe_int pa_nil)))))))
      (C8.pss_cut (ps_for PassesOwn.never rfl (pi_range1 rfl b.range (pa_cons (pe_c cD hr (by decide) rfl (pa_cons (pv 1) (pa_cons pe_int pa_nil))) pa_nil)) (pg_name (i := 8) sc_law.nd rfl (.inl rfl))
        (pss_cons (ps_set (i := 9) sc_law.nd rfl (.inl rfl) (pe_c cDe hr (by decide) rfl (pa_cons (pv 1) (pa_cons (pv 6) (pa_cons (pv 2) pa_nil)))))
        (pss_one (ps_if (pt_val (pe_c cGo hr (by decide) rfl (pa_cons (pv 4) (pa_cons (pv 9) pa_nil))))
              (pss_cons (ps_expr (pe_c cDo hr (by decide) rfl (pa_cons (pv 5) (pa_cons (pv 9) pa_nil))))
              (pss_one (ps_expr (pe_bm PySem.F.plainAttrs_list PySem.F.slot_list_append PySem.F.type_list_append mt_append (pv 4) (pa_cons (pv 9) pa_nil))))) pss_nil))))
      (pss_cons (ps_if (PW.pt (pw_or (pt_not (pt_val (pe_c cSt hr (by decide) rfl (pa_cons (pv 5) (pa_cons (pv 3) (pa_cons (pv 7) pa_nil)))))) (pw_or1 (pt_not (pt_val (GL.pe_cG cAl hgd2 hr (by decide) rfl (pa_cons (pv 1) (pa_cons (pv 5) (pa_cons (pv 3) (pa_cons (pv 7) pa_nil)))))))))) pss_never pss_nil)
      (pss_cons (ps_if (PW.pt (pw_or (pt_not (pt_val (pe_c cLe hr (by decide) rfl (pa_cons (pv 1) (pa_cons (pv 5) (pa_cons (pv 3) (pa_cons (pv 7) pa_nil))))))) (pw_or1 (pt_not (pt_val (pe_c cSt hr (by decide) rfl (pa_cons (pv 5) (pa_cons (pv 3) (pa_cons (pv 7) pa_nil))))))))) pss_never pss_nil)
      (pss_one (ps_ret (pe_c cEn hr (by decide) rfl (pa_cons (pv 1) (pa_cons (pv 5) (pa_cons (pv 3) (pa_cons (pv 7) pa_nil))))))))))))))), ?_⟩
    refine ⟨_, rfl, a, ns, rfl, hs, h63, fun p H1 s1 fp pen1 => ?_⟩
    refine ⟨_, rfl, p, 800000000, 900000, rfl, pen1.weak (by omega), by decide, by decide, fun r1 H2 a1 z1 pen2 k2 => ?_⟩
    refine ⟨by show 5 ≤ sizeLine; decide, fun v fv => ?_⟩
    have D0 : Dr p 800000000 v (.lst ([0, 8, 98, r1, 999900].map V.int)) H1 (upd H2 v (.lst [V.int 0, V.int 8, V.int 98, V.int r1, V.int 999900])) [] := Dr.start pen2 k2 fv
    generalize upd H2 v (.lst [V.int 0, V.int 8, V.int 98, V.int r1, V.int 999900]) = H3 at D0 ⊢
    refine ⟨_, rfl, p, 799999999, 5, rfl, D0.pen, by decide, by decide, fun r2 H4 a2 z2 pen4 k4 => ?_⟩
    have D1 := D0.kpp k4 pen4
    obtain ⟨bs, hbs, ebs⟩ := pick (fun v : Int => V.int v) (L := [0, 8, 98, r1, 999900]) a2 (by simpa using z2)
    have bb : 0 ≤ bs ∧ bs ≤ 999900 := by
      simp only [List.mem_cons, List.not_mem_nil, or_false] at hbs
      rcases hbs with rfl | rfl | rfl | rfl | rfl <;> omega
    obtain ⟨b0, b1⟩ := bb
    refine ⟨v, _, _, _, rfl, rfl, SqL.of D1.cell, ebs, ?_⟩
    -- the people, the list of deeds
    refine ⟨_, rfl, _, rfl, p, 700000000, bs, rfl, D1.pen.weak (by omega), b0, by omega, fun po fs H5 fk fpo hnd h1 h5 => ?_⟩
    clear D1 D0 pen1 pen2 pen4 k2 k4
    refine ⟨by show 0 ≤ sizeLine; decide, fun dl fdl => ⟨_, _, rfl, ?_⟩⟩
    have sdl := same_new (o := .lst []) fdl
    have fk6 := fk.same sdl
    have hdl : (upd H5 dl (.lst [])) dl = some (.lst []) := upd_same
    have odl : Off p dl (upd H5 dl (.lst [])) := (Off.of fk.pen fdl).kp (Kp.same sdl)
    have npd : po ≠ dl := ne_of_none fk.o_ fdl
    clear fk sdl
    generalize upd H5 dl (.lst []) = H6 at fk6 hdl odl ⊢
    -- begun
    refine ⟨_, rfl, po, fs, rfl, fk6.o_, fk6.tp, fk6.ok, hnd, by omega, fun kw cs H7 s7 K0 nk nc => ?_⟩
    refine ⟨_, rfl, po, rfl, ⟨_, SqL.of (s7 _ _ fk6.o_)⟩, fun kl fkl => ?_⟩
    have L0 : Lw C CW p kw dl 700000000 1 fs [(po, refs fs)] H7 (startD fs) cs [] := by
      refine ⟨fk6.pen.same s7, K0, fun b hb => (Off.of fk6.pen (nc b hb)).kp (Kp.same s7), fun x hx => ?_, s7 _ _ hdl, odl.kp (Kp.same s7), fun hb => ?_, fun x hx => s7 _ _ (fk6.tp x hx), fun x hx => (nomatch hx), Sync.start fk6.ok⟩
      · rw [List.mem_singleton.mp hx]
        refine ⟨s7 _ _ fk6.o_, fk6.off.kp (Kp.same s7), fun hb => ?_, npd⟩
        have := nc po hb
        rw [fk6.o_] at this
        cases this
      · have := nc dl hb
        rw [hdl] at this
        cases this
    have hok := fk6.ok
    clear fk6 hdl odl npd s7 K0 nk nc
    have hpo := (L0.fx _ List.mem_cons_self).1
    refine lc_list (K := K) (xs := refs fs) (fun j G => G kl = some (.lst ((fs.take j).map fun x => V.str (S x.2.l))) ∧ Same H7 G) ⟨upd_same, same_new fkl⟩ (fun j G _ q => SqL.of (q.2 _ _ hpo)) ?_ ?_
    · rintro j y G hj ⟨hD, sG⟩
      unfold refs at hj
      rw [List.getElem?_map] at hj
      obtain ⟨x, hx, rfl⟩ := Option.map_eq_some_iff.mp hj
      have hxt := sG _ _ (L0.ft x (List.mem_of_getElem? hx))
      have jl : j < fs.length := (List.getElem?_eq_some_iff.mp hx).1
      refine ⟨rfl, _, rfl, x.1, _, _, _, rfl, rfl, SqT.of hxt, rfl, _, hD, ?_, ?_, fun b w e => ?_⟩
      · rw [List.length_map, List.length_take]
        exact line_lt (by omega)
      · rw [upd_same, take_one hx, List.map_append]
        rfl
      · rw [upd_ne (ne_of_none e fkl)]
        exact sG _ _ e
    rintro H8 ⟨hkl, s8⟩
    have hkl : H8 kl = some (.lst (fs.map fun x => V.str (S x.2.l))) := by
      have e : (refs fs).length = fs.length := List.length_map _
      rw [e, List.take_length] at hkl
      exact hkl
    have L1 : Lw C CW p kw dl 700000000 1 fs [(kl, fs.map fun x => V.str (S x.2.l)), (po, refs fs)] H8 (startD fs) cs [] := by
      have q := L0.same s8
      refine ⟨q.pen, q.kd, q.oc, fun x hx => ?_, q.dl_, q.od, q.nd, q.ft, q.tt, q.sy⟩
      rcases List.mem_cons.mp hx with rfl | hx
      · refine ⟨hkl, (Off.of L0.pen fkl).kp (Kp.same s8), fun hb => ?_, (ne_of_none L0.dl_ fkl).symm⟩
        obtain ⟨⟨u, e⟩, _⟩ := L0.kd.some hb
        rw [fkl] at e
        cases e
      · exact q.fx x hx
    clear L0 hpo s8 fkl
    refine ⟨_, _, rfl, ?_⟩
    -- what is asked
    refine ⟨fun σ' H' => ∃ (al : Addr) (L : List Int), σ' = [some (.ref a), some (.ref p), some (.int bs), some (.ref po), some (.ref dl), some (.ref kw), some (.ref kl), some (.ref al), none, none, none, none] ∧ L.length = 14 ∧ (∀ d ∈ L, isDay d) ∧ Lw C CW p kw dl 600000000 1 fs [(al, L.map V.int), (kl, fs.map fun x => V.str (S x.2.l)), (po, refs fs)] H' (startD fs) cs [], ?_, ?_⟩
    · refine ⟨8, rfl, by decide, by decide, fun D1 f1 => ?_⟩
      have s1' := same_new (o := .lst []) f1
      refine lc_range (n := 8) (fun i G => ∃ M : List Int, M.length = i ∧ (∀ d ∈ M, isDay d) ∧ G D1 = some (.lst (M.map V.int)) ∧ Same H8 G) ⟨[], rfl, fun d hd => (nomatch hd), upd_same, s1'⟩ ?_ ?_
      · rintro i G hi ⟨M, hM, hd, hD, sG⟩
        refine ⟨rfl, _, rfl, _, rfl, _, _, rfl, rfl, _, hD, by rw [List.length_map]; exact line_lt (by omega), M ++ [bs + (0 + (i : Int))], by rw [List.length_append, hM]; rfl, fun d hd2 => ?_, ?_, fun b w e => ?_⟩
        · rcases List.mem_append.mp hd2 with h | h
          · exact hd d h
          · rw [List.mem_singleton.mp h]
            unfold isDay
            omega
        · rw [upd_same, List.map_append]
          rfl
        · rw [upd_ne (ne_of_none e f1)]
          exact sG _ _ e
      rintro Ge ⟨M1, hM1, hd1, hD1, sG1⟩
      have Le := L1.same sG1
      refine ⟨6, rfl, by decide, by decide, fun D2 f2 => ?_⟩
      have s2' := same_new (o := .lst []) f2
      have od1 : Off p D1 Ge := (Off.of L1.pen f1).kp (Kp.same sG1)
      refine lc_range (n := 6) (fun i G => ∃ M : List Int, M.length = i ∧ (∀ d ∈ M, isDay d) ∧ G D2 = some (.lst (M.map V.int)) ∧ Pen G p (699999999 - i) ∧ Kp p Ge G ∧ Off p D2 G) ⟨[], rfl, fun d hd => (nomatch hd), upd_same, (Le.pen.same s2').weak (by omega), Kp.same s2', (Off.of Le.pen f2).kp (Kp.same s2')⟩ ?_ ?_
      · rintro i G hi ⟨M, hM, hd, hD, penG, kG, oG⟩
        refine ⟨rfl, _, rfl, _, rfl, p, 699999999 - (i + 1), 60, rfl, penG.weak (by omega), by decide, by decide, fun r G2 r0 r1 pen2 k2 => ⟨_, _, rfl, rfl, ?_⟩⟩
        have hD2 := k2.1 _ _ hD oG.ne
        have oG2 := oG.kp k2
        refine ⟨_, hD2, by rw [List.length_map]; exact line_lt (by omega), M ++ [bs + r], by rw [List.length_append, hM]; rfl, fun d hd2 => ?_, ?_, pen2.put oG2, (kG.trans k2).new f2, oG2.put oG2.ne.symm⟩
        · rcases List.mem_append.mp hd2 with h | h
          · exact hd d h
          · rw [List.mem_singleton.mp h]
            unfold isDay
            omega
        · rw [upd_same, List.map_append]
          rfl
      rintro Gf ⟨M2, hM2, hd2, hD2, penf, kf, of⟩
      have Lf := Le.kpp kf penf
      refine ⟨D1, D2, _, _, rfl, rfl, kf.1 _ _ hD1 od1.ne, hD2, by rw [List.length_map, List.length_map, hM1, hM2]; decide, fun al fal => ?_⟩
      have e : M1.map V.int ++ M2.map V.int = (M1 ++ M2).map V.int := by rw [List.map_append]
      rw [e]
      refine ⟨al, M1 ++ M2, rfl, by rw [List.length_append, hM1, hM2], fun d hd => ?_, (Lf.add fal).weak (by omega) (Nat.le_refl _)⟩
      rcases List.mem_append.mp hd with h | h
      · exact hd1 d h
      · exact hd2 d h
    clear L1 hkl
    rintro σ' H9 ⟨al, L, rfl, hL14, hLd, L9⟩
    have fx : Fx fs L := ⟨hok, h1, h5, hnd, hLd, by omega, by omega⟩
    obtain ⟨FX, eFX⟩ : ∃ FX, FX = [(al, L.map V.int), (kl, fs.map fun x => V.str (S x.2.l)), (po, refs fs)] := ⟨_, rfl⟩
    have xa : (al, L.map V.int) ∈ FX := by rw [eFX]; simp
    have xk : (kl, fs.map fun x => V.str (S x.2.l)) ∈ FX := by rw [eFX]; simp
    have xo : (po, refs fs) ∈ FX := by rw [eFX]; simp
    rw [← eFX] at L9
    clear eFX
    -- the deeds
    refine ⟨fun σ' H' => ∃ (v8 v9 : Option V) (ds : List Dt) (cs : List Addr) (ts : Ts), σ' = [some (.ref a), some (.ref p), some (.int bs), some (.ref po), some (.ref dl), some (.ref kw), some (.ref kl), some (.ref al), v8, v9, none, none] ∧ Lw C CW p kw dl 500000000 20 fs FX H' ds cs ts, ?_, ?_⟩
    · refine ⟨_, rfl, p, 599999999, 11, rfl, L9.pen.weak (by omega), by decide, by decide, fun m Ha m0 m1 pena ka => ⟨_, rfl, by omega, by omega, ?_⟩⟩
      have La := L9.kpp ka pena
      clear L9
      obtain ⟨m, rfl⟩ : ∃ k : Nat, m = k := ⟨m.toNat, by omega⟩
      rw [Int.toNat_natCast]
      refine for_range (n := m) (fun i σ G => ∃ (v8 v9 : Option V) (ds : List Dt) (cs : List Addr) (ts : Ts), σ = [some (.ref a), some (.ref p), some (.int bs), some (.ref po), some (.ref dl), some (.ref kw), some (.ref kl), some (.ref al), v8, v9, none, none] ∧ Lw C CW p kw dl (599999999 - 100 * i) (1 + i) fs FX G ds cs ts ∧ ts.length ≤ i)
        ⟨_, _, _, _, _, rfl, La.weak (by omega) (Nat.le_refl _), Nat.le_refl _⟩ ?_ ?_
      · clear La
        rintro i σ G hi ⟨v8, v9, ds, cs, ts, rfl, Lg, tl⟩
        obtain ⟨hkl, okl, _⟩ := Lg.fx _ xk
        refine ⟨_, rfl, _, rfl, _, rfl, p, kl, 599999999 - 100 * i - 30, fs.map fun y => y.2.l, bs, rfl, Lg.pen.weak (by omega), okl.ne, by rw [List.map_map]; exact hkl, (fun z => by have := congrArg List.length z; rw [List.length_map] at this; simp at this; rw [this] at h1; cases h1), by rw [List.length_map]; omega, ⟨b0, by omega⟩, fun t x G4 pen4 k4 ht hxl hxok => ?_⟩
        have L4 := Lg.kpp k4 pen4
        clear Lg hkl okl
        refine ⟨_, rfl, _, rfl, dl, t, ts, x, rfl, L4.dl_, L4.tt, by omega, ht, fun G5 s5 => ⟨_, rfl, ?_⟩⟩
        have L5 := L4.same s5
        have ht5 := s5 _ _ ht
        clear L4 ht
        refine ite2 (fun c => ?_) (fun c => ?_)
        · obtain ⟨y, hy, ey⟩ := List.mem_map.mp hxl
          obtain ⟨⟨l0, z⟩, hz, ez, rel, wok⟩ := L5.sy.at hy
          have ez : l0 = y.2.l := ez
          have ey : y.2.l = x.l := ey
          rw [ez, ey] at hz
          rw [ey] at rel
          have hcan : x.can z := goes_can c rel.al
          refine ⟨_, rfl, _, rfl, kw, t, ds, cs, x, z, 1 + i, rfl, L5.kd, ht5, hz, wok, by omega, hxok, hcan, fun G6 cs6 K6 f6 => ?_⟩
          obtain ⟨hd6, L6⟩ := L5.told hxok ht5 K6 f6
          refine ⟨_, rfl, .inl ⟨rfl, _, SqL.of hd6⟩, _, rfl, dl, _, _, rfl, rfl, hd6, by rw [List.length_map]; exact line_lt (by omega), ?_⟩
          exact ⟨_, _, _, _, _, rfl, L6.weak (by omega) (by omega), by rw [List.length_append]; show _ + 1 ≤ _; omega⟩
        · exact ⟨_, _, _, _, _, rfl, L5.weak (by omega) (by omega), by omega⟩
      · rintro σ G ⟨v8, v9, ds, cs, ts, rfl, Lg, tl⟩
        exact ⟨_, _, _, _, _, rfl, Lg.weak (by omega) (by omega)⟩
    clear L9
    rintro σ' H10 ⟨v8, v9, ds, cs', ts, rfl, L10⟩
    have lv := L10.lv xo xa
    clear L10
    refine ⟨_, rfl, _, rfl, _, rfl, kw, po, al, ds, cs', fs, L, 20, rfl, lv.kd, lv.o_, lv.ft, hok, by omega, lv.sy.of (by omega) hnd (by omega), by omega, lv.al_, hLd, fun H11 s11 => ⟨true, rfl, iteF ?_⟩⟩
    have lv11 := lv.same s11
    clear lv
    refine ⟨_, rfl, _, rfl, _, rfl, _, rfl, p, kw, po, al, 400000000, ds, cs', _, fs, L, 20, rfl, lv11.weak (by omega) (Nat.le_refl _), fx, by decide, fun H12 ds12 cs12 ts12 lv12 => ⟨true, rfl, iteF ?_⟩⟩
    clear lv11
    refine ⟨_, rfl, _, rfl, _, rfl, _, rfl, p, kw, po, al, 300000000, ds12, cs12, _, fs, L, 30, rfl, lv12.weak (by omega) (Nat.le_refl _), fx, by decide, fun H13 ds13 cs13 ts13 lv13 => ⟨true, rfl, iteF ?_⟩⟩
    clear lv12
    refine ⟨_, rfl, _, rfl, _, rfl, kw, po, al, ds13, cs13, fs, L, 33, rfl, lv13.kd, lv13.o_, lv13.ft, hok, by omega, lv13.sy.of (by omega) hnd (by omega), by omega, lv13.al_, hLd, fun H14 s14 => ⟨true, rfl, iteF ?_⟩⟩
    have lv14 := lv13.same s14
    clear lv13
    exact ⟨_, rfl, _, rfl, _, rfl, _, rfl, p, kw, po, al, 200000000, ds13, cs13, _, fs, L, 33, rfl, lv14.weak (by omega) (Nat.le_refl _), fx, by decide, fun H15 => hQ H15⟩
end
end K14
set_option Elab.async false
set_option linter.all false
/-! VR: values related, turned about. -/
namespace KW
open PySem PySem.Spec PyProof.Rows L2
theorem vals_rev {vs : List V} {us : List Value} (h : Vals vs us) : Vals vs.reverse us.reverse := by
  induction h with
  | nil => exact .nil
  | cons r t ih =>
    rw [List.reverse_cons, List.reverse_cons]
    exact ih.append (.cons r .nil)
end KW
set_option Elab.async false
set_option linter.all false
set_option maxRecDepth 100000
set_option maxHeartbeats 4000000
namespace K14
open PySem PySem.Spec PyProof.Rows L2
theorem xk_ok {K : PySem.W.Frag} (h : xk1 K = true) : GX.Gx K (He.ga K "NoDay") leT "LookupError.__new__" ∧ PySem.W.findCls K (.type "LookupError") (.type "type") "__init__" = some (.val (.builtin "LookupError.__init__")) ∧ PySem.W.exmOne K (.ref (He.ga K "NoDay")) (.ref (He.ga K "NoDay")) = some true := by
  unfold xk1 at h
  obtain ⟨h1, h⟩ := Bool.and_eq_true_iff.mp h
  obtain ⟨h2, h3⟩ := Bool.and_eq_true_iff.mp h
  exact ⟨GX.gxB_ok h1, GX.vvB_ok h2, of_decide_eq_true h3⟩
theorem vals_k {vs : List V} {us : List Value} (h : Vals vs us) : Vals (vs.drop 2 ++ vs.take 2) (us.drop 2 ++ us.take 2) := (h.drop 2).append (h.take 2)
end K14
set_option Elab.async false
set_option linter.all false
set_option maxRecDepth 100000
set_option maxHeartbeats 0
namespace K14
open PySem PySem.Spec PyProof.Rows L2
abbrev hk : PySem.W.Hook := He.hookX 6 fa fn [] [] xk
def ob (s : PySem.W.SharedT) : He.AlX := He.obsX 6 fa fn [] [] xk (HandSHeadRun.getT s)
theorem ob_eq (s : PySem.W.SharedT) : ob s = hk.obs s.abs := He.obsX_eq (HandSHeadRun.getT_eq s)
theorem glue {α β γ δ : Type} {x : Option α} {f : α → β} {g : α → γ} {h : α → δ} {b : β} {c : γ} {d : δ} (e1 : x.map f = some b) (e2 : x.map g = some c) (e3 : x.map h = some d) : x.map (fun s => (f s, g s, h s)) = some (b, c, d) := by
  cases x with
  | none => cases e1
  | some z =>
    have a1 : f z = b := Option.some.inj e1
    have a2 : g z = c := Option.some.inj e2
    have a3 : h z = d := Option.some.inj e3
    show some (f z, g z, h z) = _
    rw [a1, a2, a3]
theorem ob_z (z : PySem.W.SharedT) : ob z = ((((fa.all fun f => f.ok (Kf z)) && (fn.all fun d => d.ok (Kf z)), fn.map fun d => He.fnW (Kf z) d.at_), []), xk (Kf z) && He.tabsB (HandSHeadRun.getT z) [] (Kf z)) := by
  unfold ob He.obsX He.obsT He.obsD
  rw [List.map_nil]
theorem runO (w : World) (os : PySem.OsState) : (eN w os).map ob = some (((true, fn.map He.DefD.val), []), true) := by
  have b := runB w os
  have c := runC w os
  revert b c
  generalize eN w os = x
  intro b c
  cases x with
  | none => exact absurd b (by simp)
  | some z =>
    rw [Option.map_some] at b c ⊢
    have b := Option.some.inj b
    have c := Option.some.inj c
    rw [Prod.mk.injEq, Prod.mk.injEq] at c
    rw [ob_z, b, c.1, c.2.1, c.2.2]
    rfl
theorem run_ (w : World) : HandSHeadRun.RunEq R (PySem.W.view R.prog [49]) hk ob 8000 loose w := by
  intro os
  have q := glue (runL w os) (runS w os) (runO w os)
  unfold eN at q
  exact q
end K14
set_option Elab.async false
set_option linter.all false
set_option maxRecDepth 100000
set_option maxHeartbeats 0
namespace K14
open PySem PySem.Spec PyProof.Rows L2
open C8 (Cal Mak Met pe_c pe_mk pe_mt pe_mt0)
theorem cal_of {P : Program} {w : World} {K : PySem.W.Frag} {mg : Str → Option Value} {base : Heap} {f : Addr} {fd : FuncData} {ps : List Str} {k : Nat} {x : Str} {sp : Sp} (F : FnOk P w K mg base CX0 k f fd ps sp) (g : mg x = some (.ref f)) (kp : PySem.W.keepIn K (.ref f) = true) (b : Binds K fd ps []) : Cal P w K mg base k x sp [] :=
  ⟨f, fd, ps, [], F, g, kp, b, .nil⟩
theorem met_of {P : Program} {w : World} {K : PySem.W.Frag} {mg : Str → Option Value} {base : Heap} {f C : Addr} {fd : FuncData} {ps : List Str} {k : Nat} {m : Str} {sp : Sp} (c : Cls K C) (h : Meth K C m f) (F : FnOk P w K mg base CX0 k f fd ps sp) (b : Binds K fd ps []) : Met P w K mg base k C m sp [] :=
  ⟨f, fd, ps, [], c, h, F, b, .nil⟩
theorem facts {P : Program} {w : World} {K : PySem.W.Frag} {h h0 : Heap} {mg : Str → Option Value} {f : Addr} (X : K.In h) (G : h.Ns mainGlobals mg) (hfa : mg ("law" : Str) = some (.ref f)) (c : He.SaysX fa fn [] [] xk w h0 K) :
    ∃ fd : FuncData, (∀ (s : Shared) (v : Value), BindsTo s fd ⟨[v], []⟩ [("_law_script", v)]) ∧ ∀ base : Heap, K.In base → base.Ns mainGlobals mg → GL.FnG P w K mg base 9 f fd ["_law_script"] (spLaw K) := by
  have d := c.t.d
  have x := c.more
  have gl : ∀ (i : Nat) (x : Str), fa[i]? = some (.glo x) → mg x = some (.ref (He.ga K x)) := fun i x e => He.glo_ok X G (d.fact i e)
  have fr : ∀ (i : Nat) (x : Str), fa[i]? = some (.free x) → mg x = none := fun i x e => He.free_ok X G (d.fact i e)
  have me : ∀ (i : Nat) (C m : Str), fa[i]? = some (.meth C m) → Meth K (He.ga K C) m (He.ma K (He.ga K C) m) := fun i C m e => He.meth_ok (d.fact i e)
  have gl_is_whole := gl 0 "is_whole" rfl
  have gl_is_between := gl 1 "is_between" rfl
  have gl_is_name := gl 2 "is_name" rfl
  have gl_is_day := gl 3 "is_day" rfl
  have gl_is_mask := gl 4 "is_mask" rfl
  have gl_check_day := gl 5 "check_day" rfl
  have gl_check_span := gl 6 "check_span" rfl
  have gl_mask_text := gl 7 "mask_text" rfl
  have gl_mask_of := gl 8 "mask_of" rfl
  have gl_weekdays := gl 9 "weekdays" rfl
  have gl_mask_from := gl 10 "mask_from" rfl
  have gl__law_pen := gl 11 "_law_pen" rfl
  have gl__law_draw := gl 12 "_law_draw" rfl
  have gl__law_names := gl 13 "_law_names" rfl
  have gl__law_day := gl 14 "_law_day" rfl
  have gl__law_deed := gl 15 "_law_deed" rfl
  have gl__law_done := gl 16 "_law_done" rfl
  have gl__law_rules := gl 17 "_law_rules" rfl
  have gl__law_people := gl 18 "_law_people" rfl
  have gl__law_begun := gl 19 "_law_begun" rfl
  have gl__law_seen := gl 20 "_law_seen" rfl
  have gl__law_goes := gl 21 "_law_goes" rfl
  have gl__law_one := gl 22 "_law_one" rfl
  have gl__law_stage_right := gl 23 "_law_stage_right" rfl
  have gl__law_is_no_day := gl 24 "_law_is_no_day" rfl
  have gl__law_alone_right := gl 25 "_law_alone_right" rfl
  have gl__law_entering_right := gl 26 "_law_entering_right" rfl
  have gl__law_left_right := gl 27 "_law_left_right" rfl
  have gl_law := gl 28 "law" rfl
  have fr_isinstance := fr 29 "isinstance" rfl
  have fr_int := fr 30 "int" rfl
  have fr_bool := fr 31 "bool" rfl
  have fr_str := fr 32 "str" rfl
  have fr_list := fr 33 "list" rfl
  have fr_range := fr 34 "range" rfl
  have fr_len := fr 35 "len" rfl
  have fr_all := fr 36 "all" rfl
  have fr_any := fr 37 "any" rfl
  have fr_max := fr 38 "max" rfl
  have fr_min := fr 39 "min" rfl
  have fr_repr := fr 40 "repr" rfl
  have fr_dict := fr 41 "dict" rfl
  have fr_sorted := fr 42 "sorted" rfl
  have fr_enumerate := fr 43 "enumerate" rfl
  have fr_LookupError := fr 44 "LookupError" rfl
  have gl_Person := gl 45 "Person" rfl
  have cls_Person := He.cls_ok (d.fact 46 (f := .cls "Person") rfl)
  have mk_Person := He.mkr_ok (d.fact 47 (f := .mkr "Person") rfl)
  have gl_Wish := gl 48 "Wish" rfl
  have cls_Wish := He.cls_ok (d.fact 49 (f := .cls "Wish") rfl)
  have mk_Wish := He.mkr_ok (d.fact 50 (f := .mkr "Wish") rfl)
  have gl_Wants := gl 51 "Wants" rfl
  have cls_Wants := He.cls_ok (d.fact 52 (f := .cls "Wants") rfl)
  have mk_Wants := He.mkr_ok (d.fact 53 (f := .mkr "Wants") rfl)
  have gl_NoDay := gl 54 "NoDay" rfl
  have no_Person_name := He.noat_ok (d.fact 55 (f := .noat "Person" "name") rfl)
  have no_Person_seats := He.noat_ok (d.fact 56 (f := .noat "Person" "seats") rfl)
  have no_Person_mask := He.noat_ok (d.fact 57 (f := .noat "Person" "mask") rfl)
  have no_Wish_seats := He.noat_ok (d.fact 58 (f := .noat "Wish" "seats") rfl)
  have no_Wish_first := He.noat_ok (d.fact 59 (f := .noat "Wish" "first") rfl)
  have no_Wish_last := He.noat_ok (d.fact 60 (f := .noat "Wish" "last") rfl)
  have no_Wish_masks := He.noat_ok (d.fact 61 (f := .noat "Wish" "masks") rfl)
  have no_Wish_alone := He.noat_ok (d.fact 62 (f := .noat "Wish" "alone") rfl)
  have no_Wish_spans := He.noat_ok (d.fact 63 (f := .noat "Wish" "spans") rfl)
  have no_Wants_wishes := He.noat_ok (d.fact 64 (f := .noat "Wants" "wishes") rfl)
  have no_NoDay_day := He.noat_ok (d.fact 65 (f := .noat "NoDay" "day") rfl)
  have me_Wish_is_sick := me 66 "Wish" "is_sick" rfl
  have me_Wish_mask_on := me 67 "Wish" "mask_on" rfl
  have me_Wish_holds_on := me 68 "Wish" "holds_on" rfl
  have me_Wants_wish_of := me 69 "Wants" "wish_of" rfl
  have me_Wants_enter := me 70 "Wants" "enter" rfl
  have me_Wants_leave := me 71 "Wants" "leave" rfl
  have me_Wants_weekly := me 72 "Wants" "weekly" rfl
  have me_Wants_only := me 73 "Wants" "only" rfl
  have me_Wants_usual := me 74 "Wants" "usual" rfl
  have me_Wants_sick := me 75 "Wants" "sick" rfl
  have me_Wants_well := me 76 "Wants" "well" rfl
  have me_Wants_wants := me 77 "Wants" "wants" rfl
  have me_Wants_riders := me 78 "Wants" "riders" rfl
  have me_Wants_room := me 79 "Wants" "room" rfl
  have me_NoDay_init := me 80 "NoDay" "__init__" rfl
  have val_LAST_DAY := He.int_ok X G (d.fact 81 (f := .int "LAST_DAY" 1000000) rfl)
  have val_LAST_MASK := He.int_ok X G (d.fact 82 (f := .int "LAST_MASK" 127) rfl)
  have val_LONGEST_NAME := He.int_ok X G (d.fact 83 (f := .int "LONGEST_NAME" 8) rfl)
  have val_WEEK := He.int_ok X G (d.fact 84 (f := .int "WEEK" 7) rfl)
  have val_MOST_SEATS := He.int_ok X G (d.fact 85 (f := .int "MOST_SEATS" 9) rfl)
  have val_SIXTEEN := He.str_ok X G (d.fact 86 (f := .str "SIXTEEN" "0123456789abcdef") rfl)
  obtain ⟨fd_NoDay_init, D_NoDay_init⟩ := d.def_ 4 (d := d_NoDay_init) rfl
  obtain ⟨fd_is_whole, D_is_whole⟩ := d.def_ 6 (d := d_is_whole) rfl
  obtain ⟨fd_is_between, D_is_between⟩ := d.def_ 7 (d := d_is_between) rfl
  obtain ⟨fd_is_name, D_is_name⟩ := d.def_ 8 (d := d_is_name) rfl
  obtain ⟨fd_is_day, D_is_day⟩ := d.def_ 9 (d := d_is_day) rfl
  obtain ⟨fd_is_mask, D_is_mask⟩ := d.def_ 10 (d := d_is_mask) rfl
  obtain ⟨fd_check_day, D_check_day⟩ := d.def_ 11 (d := d_check_day) rfl
  obtain ⟨fd_check_span, D_check_span⟩ := d.def_ 12 (d := d_check_span) rfl
  obtain ⟨fd_mask_text, D_mask_text⟩ := d.def_ 13 (d := d_mask_text) rfl
  obtain ⟨fd_mask_of, D_mask_of⟩ := d.def_ 14 (d := d_mask_of) rfl
  obtain ⟨fd_weekdays, D_weekdays⟩ := d.def_ 15 (d := d_weekdays) rfl
  obtain ⟨fd_mask_from, D_mask_from⟩ := d.def_ 16 (d := d_mask_from) rfl
  obtain ⟨fd_Wish_init, D_Wish_init⟩ := d.def_ 17 (d := d_Wish_init) rfl
  obtain ⟨fd_Wish_is_sick, D_Wish_is_sick⟩ := d.def_ 18 (d := d_Wish_is_sick) rfl
  obtain ⟨fd_Wish_mask_on, D_Wish_mask_on⟩ := d.def_ 19 (d := d_Wish_mask_on) rfl
  obtain ⟨fd_Wish_holds_on, D_Wish_holds_on⟩ := d.def_ 20 (d := d_Wish_holds_on) rfl
  obtain ⟨fd_Wants_init, D_Wants_init⟩ := d.def_ 21 (d := d_Wants_init) rfl
  obtain ⟨fd_Wants_wish_of, D_Wants_wish_of⟩ := d.def_ 22 (d := d_Wants_wish_of) rfl
  obtain ⟨fd_Wants_enter, D_Wants_enter⟩ := d.def_ 23 (d := d_Wants_enter) rfl
  obtain ⟨fd_Wants_leave, D_Wants_leave⟩ := d.def_ 24 (d := d_Wants_leave) rfl
  obtain ⟨fd_Wants_weekly, D_Wants_weekly⟩ := d.def_ 25 (d := d_Wants_weekly) rfl
  obtain ⟨fd_Wants_only, D_Wants_only⟩ := d.def_ 26 (d := d_Wants_only) rfl
  obtain ⟨fd_Wants_usual, D_Wants_usual⟩ := d.def_ 27 (d := d_Wants_usual) rfl
  obtain ⟨fd_Wants_sick, D_Wants_sick⟩ := d.def_ 28 (d := d_Wants_sick) rfl
  obtain ⟨fd_Wants_well, D_Wants_well⟩ := d.def_ 29 (d := d_Wants_well) rfl
  obtain ⟨fd_Wants_wants, D_Wants_wants⟩ := d.def_ 30 (d := d_Wants_wants) rfl
  obtain ⟨fd_Wants_riders, D_Wants_riders⟩ := d.def_ 31 (d := d_Wants_riders) rfl
  obtain ⟨fd_Wants_room, D_Wants_room⟩ := d.def_ 32 (d := d_Wants_room) rfl
  obtain ⟨fd_Person_init, D_Person_init⟩ := d.def_ 33 (d := d_Person_init) rfl
  obtain ⟨fd_l_pen, D_l_pen⟩ := d.def_ 37 (d := d_l_pen) rfl
  obtain ⟨fd_l_draw, D_l_draw⟩ := d.def_ 38 (d := d_l_draw) rfl
  obtain ⟨fd_l_names, D_l_names⟩ := d.def_ 39 (d := d_l_names) rfl
  obtain ⟨fd_l_day, D_l_day⟩ := d.def_ 40 (d := d_l_day) rfl
  obtain ⟨fd_l_deed, D_l_deed⟩ := d.def_ 41 (d := d_l_deed) rfl
  obtain ⟨fd_l_done, D_l_done⟩ := d.def_ 42 (d := d_l_done) rfl
  obtain ⟨fd_l_rules, D_l_rules⟩ := d.def_ 43 (d := d_l_rules) rfl
  obtain ⟨fd_l_people, D_l_people⟩ := d.def_ 44 (d := d_l_people) rfl
  obtain ⟨fd_l_begun, D_l_begun⟩ := d.def_ 45 (d := d_l_begun) rfl
  obtain ⟨fd_l_seen, D_l_seen⟩ := d.def_ 46 (d := d_l_seen) rfl
  obtain ⟨fd_l_goes, D_l_goes⟩ := d.def_ 47 (d := d_l_goes) rfl
  obtain ⟨fd_l_one, D_l_one⟩ := d.def_ 48 (d := d_l_one) rfl
  obtain ⟨fd_l_stage_right, D_l_stage_right⟩ := d.def_ 49 (d := d_l_stage_right) rfl
  obtain ⟨fd_l_is_no_day, D_l_is_no_day⟩ := d.def_ 50 (d := d_l_is_no_day) rfl
  obtain ⟨fd_l_alone_right, D_l_alone_right⟩ := d.def_ 51 (d := d_l_alone_right) rfl
  obtain ⟨fd_l_entering_right, D_l_entering_right⟩ := d.def_ 52 (d := d_l_entering_right) rfl
  obtain ⟨fd_l_left_right, D_l_left_right⟩ := d.def_ 53 (d := d_l_left_right) rfl
  obtain ⟨fd_law, D_law⟩ := d.def_ 54 (d := d_law) rfl
  have e := hfa.symm.trans gl_law
  cases e
  have bL := FunD.bindsA (ps := ["_law_script"]) D_law fun _ _ _ _ _ _ us hl => match us, hl with | [_], _ => rfl
  refine ⟨fd_law, fun s v => bL s [v] rfl, fun base _ _ => ?_⟩
  have b_NoDay_init : Binds K fd_NoDay_init ["self", "day"] [] := D_NoDay_init.bindsN fun _ _ _ _ _ _ us hl => match us, hl with | [_, _], _ => rfl
  have b_is_whole : Binds K fd_is_whole ["thing"] [] := D_is_whole.bindsN fun _ _ _ _ _ _ us hl => match us, hl with | [_], _ => rfl
  have b_is_between : Binds K fd_is_between ["thing", "low", "high"] [] := D_is_between.bindsN fun _ _ _ _ _ _ us hl => match us, hl with | [_, _, _], _ => rfl
  have b_is_name : Binds K fd_is_name ["thing"] [] := D_is_name.bindsN fun _ _ _ _ _ _ us hl => match us, hl with | [_], _ => rfl
  have b_is_day : Binds K fd_is_day ["thing"] [] := D_is_day.bindsN fun _ _ _ _ _ _ us hl => match us, hl with | [_], _ => rfl
  have b_is_mask : Binds K fd_is_mask ["thing"] [] := D_is_mask.bindsN fun _ _ _ _ _ _ us hl => match us, hl with | [_], _ => rfl
  have b_check_day : Binds K fd_check_day ["thing"] [] := D_check_day.bindsN fun _ _ _ _ _ _ us hl => match us, hl with | [_], _ => rfl
  have b_check_span : Binds K fd_check_span ["first", "last"] [] := D_check_span.bindsN fun _ _ _ _ _ _ us hl => match us, hl with | [_, _], _ => rfl
  have b_mask_text : Binds K fd_mask_text ["mask"] [] := D_mask_text.bindsN fun _ _ _ _ _ _ us hl => match us, hl with | [_], _ => rfl
  have b_mask_of : Binds K fd_mask_of ["text"] [] := D_mask_of.bindsN fun _ _ _ _ _ _ us hl => match us, hl with | [_], _ => rfl
  have b_weekdays : Binds K fd_weekdays ["mask"] [] := D_weekdays.bindsN fun _ _ _ _ _ _ us hl => match us, hl with | [_], _ => rfl
  have b_mask_from : Binds K fd_mask_from ["days"] [] := D_mask_from.bindsN fun _ _ _ _ _ _ us hl => match us, hl with | [_], _ => rfl
  have b_Wish_init : Binds K fd_Wish_init ["self", "person", "day"] [] := D_Wish_init.bindsN fun _ _ _ _ _ _ us hl => match us, hl with | [_, _, _], _ => rfl
  have b_Wish_is_sick : Binds K fd_Wish_is_sick ["self", "day"] [] := D_Wish_is_sick.bindsN fun _ _ _ _ _ _ us hl => match us, hl with | [_, _], _ => rfl
  have b_Wish_mask_on : Binds K fd_Wish_mask_on ["self", "day"] [] := D_Wish_mask_on.bindsN fun _ _ _ _ _ _ us hl => match us, hl with | [_, _], _ => rfl
  have b_Wish_holds_on : Binds K fd_Wish_holds_on ["self", "day"] [] := D_Wish_holds_on.bindsN fun _ _ _ _ _ _ us hl => match us, hl with | [_, _], _ => rfl
  have b_Wants_init : Binds K fd_Wants_init ["self"] [] := D_Wants_init.bindsN fun _ _ _ _ _ _ us hl => match us, hl with | [_], _ => rfl
  have b_Wants_wish_of : Binds K fd_Wants_wish_of ["self", "name"] [] := D_Wants_wish_of.bindsN fun _ _ _ _ _ _ us hl => match us, hl with | [_, _], _ => rfl
  have b_Wants_enter : Binds K fd_Wants_enter ["self", "person", "day"] [] := by
    obtain ⟨ds, h1, h2⟩ := D_Wants_enter.binds1 (ps := ["self", "person", "day"]) 3 1 (List.cons_ne_nil _ _) rfl (fun T kV doc pm an cdv ct us its hl h1 => match us, hl, its, h1 with | [_, _, _], _, [_], _ => ⟨_, rfl, rfl⟩)
    cases h1
    exact h2
  obtain ⟨ds1_Wants_enter, v1_Wants_enter, b1_Wants_enter⟩ := D_Wants_enter.binds1 (ps := ["self", "person", "day"]) 2 0 (List.cons_ne_nil _ _) rfl (fun T kV doc pm an cdv ct us its hl h1 => match us, hl, its, h1 with | [_, _], _, [_], _ => ⟨_, rfl, rfl⟩)
  have b_Wants_leave : Binds K fd_Wants_leave ["self", "name", "day"] [] := D_Wants_leave.bindsN fun _ _ _ _ _ _ us hl => match us, hl with | [_, _, _], _ => rfl
  have b_Wants_weekly : Binds K fd_Wants_weekly ["self", "name", "mask", "day"] [] := by
    obtain ⟨ds, h1, h2⟩ := D_Wants_weekly.binds1 (ps := ["self", "name", "mask", "day"]) 4 1 (List.cons_ne_nil _ _) rfl (fun T kV doc pm an cdv ct us its hl h1 => match us, hl, its, h1 with | [_, _, _, _], _, [_], _ => ⟨_, rfl, rfl⟩)
    cases h1
    exact h2
  obtain ⟨ds1_Wants_weekly, v1_Wants_weekly, b1_Wants_weekly⟩ := D_Wants_weekly.binds1 (ps := ["self", "name", "mask", "day"]) 3 0 (List.cons_ne_nil _ _) rfl (fun T kV doc pm an cdv ct us its hl h1 => match us, hl, its, h1 with | [_, _, _], _, [_], _ => ⟨_, rfl, rfl⟩)
  have b_Wants_only : Binds K fd_Wants_only ["self", "name", "day", "want"] [] := by
    obtain ⟨ds, h1, h2⟩ := D_Wants_only.binds1 (ps := ["self", "name", "day", "want"]) 4 1 (List.cons_ne_nil _ _) rfl (fun T kV doc pm an cdv ct us its hl h1 => match us, hl, its, h1 with | [_, _, _, _], _, [_], _ => ⟨_, rfl, rfl⟩)
    cases h1
    exact h2
  obtain ⟨ds1_Wants_only, v1_Wants_only, b1_Wants_only⟩ := D_Wants_only.binds1 (ps := ["self", "name", "day", "want"]) 3 0 (List.cons_ne_nil _ _) rfl (fun T kV doc pm an cdv ct us its hl h1 => match us, hl, its, h1 with | [_, _, _], _, [_], _ => ⟨_, rfl, rfl⟩)
  have b_Wants_usual : Binds K fd_Wants_usual ["self", "name", "day"] [] := D_Wants_usual.bindsN fun _ _ _ _ _ _ us hl => match us, hl with | [_, _, _], _ => rfl
  have b_Wants_sick : Binds K fd_Wants_sick ["self", "name", "first", "last"] [] := D_Wants_sick.bindsN fun _ _ _ _ _ _ us hl => match us, hl with | [_, _, _, _], _ => rfl
  have b_Wants_well : Binds K fd_Wants_well ["self", "name", "day"] [] := D_Wants_well.bindsN fun _ _ _ _ _ _ us hl => match us, hl with | [_, _, _], _ => rfl
  have b_Wants_wants : Binds K fd_Wants_wants ["self", "name", "day"] [] := D_Wants_wants.bindsN fun _ _ _ _ _ _ us hl => match us, hl with | [_, _, _], _ => rfl
  have b_Wants_riders : Binds K fd_Wants_riders ["self", "day"] [] := D_Wants_riders.bindsN fun _ _ _ _ _ _ us hl => match us, hl with | [_, _], _ => rfl
  have b_Wants_room : Binds K fd_Wants_room ["self", "day"] [] := D_Wants_room.bindsN fun _ _ _ _ _ _ us hl => match us, hl with | [_, _], _ => rfl
  have b_Person_init : Binds K fd_Person_init ["self", "name", "seats", "mask"] [] := by
    obtain ⟨ds, h1, h2⟩ := D_Person_init.binds1 (ps := ["self", "name", "seats", "mask"]) 4 2 (List.cons_ne_nil _ _) rfl (fun T kV doc pm an cdv ct us its hl h1 => match us, hl, its, h1 with | [_, _, _, _], _, [_, _], _ => ⟨_, rfl, rfl⟩)
    cases h1
    exact h2
  obtain ⟨ds2_Person_init, v2_Person_init, b2_Person_init⟩ := D_Person_init.binds1 (ps := ["self", "name", "seats", "mask"]) 2 0 (List.cons_ne_nil _ _) rfl (fun T kV doc pm an cdv ct us its hl h1 => match us, hl, its, h1 with | [_, _], _, [_, _], _ => ⟨_, rfl, rfl⟩)
  obtain ⟨ds1_Person_init, v1_Person_init, b1_Person_init⟩ := D_Person_init.binds1 (ps := ["self", "name", "seats", "mask"]) 3 1 (List.cons_ne_nil _ _) rfl (fun T kV doc pm an cdv ct us its hl h1 => match us, hl, its, h1 with | [_, _, _], _, [_, _], _ => ⟨_, rfl, rfl⟩)
  have b_l_pen : Binds K fd_l_pen ["_law_script"] [] := D_l_pen.bindsN fun _ _ _ _ _ _ us hl => match us, hl with | [_], _ => rfl
  have b_l_draw : Binds K fd_l_draw ["_law_pen_here", "_law_many"] [] := D_l_draw.bindsN fun _ _ _ _ _ _ us hl => match us, hl with | [_, _], _ => rfl
  have b_l_names : Binds K fd_l_names ["_law_pen_here", "_law_many"] [] := D_l_names.bindsN fun _ _ _ _ _ _ us hl => match us, hl with | [_, _], _ => rfl
  have b_l_day : Binds K fd_l_day ["_law_pen_here", "_law_base"] [] := D_l_day.bindsN fun _ _ _ _ _ _ us hl => match us, hl with | [_, _], _ => rfl
  have b_l_deed : Binds K fd_l_deed ["_law_pen_here", "_law_some_names", "_law_base"] [] := D_l_deed.bindsN fun _ _ _ _ _ _ us hl => match us, hl with | [_, _, _], _ => rfl
  have b_l_done : Binds K fd_l_done ["_law_kept", "_law_deed_here"] [] := D_l_done.bindsN fun _ _ _ _ _ _ us hl => match us, hl with | [_, _], _ => rfl
  have b_l_rules : Binds K fd_l_rules ["_law_deeds", "_law_called"] [] := D_l_rules.bindsN fun _ _ _ _ _ _ us hl => match us, hl with | [_, _], _ => rfl
  have b_l_people : Binds K fd_l_people ["_law_pen_here", "_law_base"] [] := D_l_people.bindsN fun _ _ _ _ _ _ us hl => match us, hl with | [_, _], _ => rfl
  have b_l_begun : Binds K fd_l_begun ["_law_people_here"] [] := D_l_begun.bindsN fun _ _ _ _ _ _ us hl => match us, hl with | [_], _ => rfl
  have b_l_seen : Binds K fd_l_seen ["_law_kept", "_law_people_here", "_law_asked"] [] := D_l_seen.bindsN fun _ _ _ _ _ _ us hl => match us, hl with | [_, _, _], _ => rfl
  have b_l_goes : Binds K fd_l_goes ["_law_deeds", "_law_act"] [] := D_l_goes.bindsN fun _ _ _ _ _ _ us hl => match us, hl with | [_, _], _ => rfl
  have b_l_one : Binds K fd_l_one ["_law_kept", "_law_called", "_law_asked"] [] := D_l_one.bindsN fun _ _ _ _ _ _ us hl => match us, hl with | [_, _, _], _ => rfl
  have b_l_stage_right : Binds K fd_l_stage_right ["_law_kept", "_law_people_here", "_law_asked"] [] := D_l_stage_right.bindsN fun _ _ _ _ _ _ us hl => match us, hl with | [_, _, _], _ => rfl
  have b_l_is_no_day : Binds K fd_l_is_no_day ["_law_kept", "_law_called", "_law_today"] [] := D_l_is_no_day.bindsN fun _ _ _ _ _ _ us hl => match us, hl with | [_, _, _], _ => rfl
  have b_l_alone_right : Binds K fd_l_alone_right ["_law_pen_here", "_law_kept", "_law_people_here", "_law_asked"] [] := D_l_alone_right.bindsN fun _ _ _ _ _ _ us hl => match us, hl with | [_, _, _, _], _ => rfl
  have b_l_entering_right : Binds K fd_l_entering_right ["_law_pen_here", "_law_kept", "_law_people_here", "_law_asked"] [] := D_l_entering_right.bindsN fun _ _ _ _ _ _ us hl => match us, hl with | [_, _, _, _], _ => rfl
  have b_l_left_right : Binds K fd_l_left_right ["_law_pen_here", "_law_kept", "_law_people_here", "_law_asked"] [] := D_l_left_right.bindsN fun _ _ _ _ _ _ us hl => match us, hl with | [_, _, _, _], _ => rfl
  have b_law : Binds K fd_law ["_law_script"] [] := D_law.bindsN fun _ _ _ _ _ _ us hl => match us, hl with | [_], _ => rfl
  obtain ⟨xG, xV, xE⟩ := xk_ok x
  have B : Bl mg := ⟨fr_isinstance, fr_int, fr_bool, fr_str, fr_list, fr_range, fr_len, fr_all, fr_any, fr_max, fr_min⟩
  have B2 : Bl2 mg := ⟨fr_dict, fr_sorted, fr_enumerate⟩
  have TP : ClP K mg (He.ga K "Person") := ⟨cls_Person, no_Person_name, no_Person_seats, no_Person_mask, gl_Person⟩
  have TW : ClW K mg (He.ga K "Wish") := ⟨cls_Wish, no_Wish_seats, no_Wish_first, no_Wish_last, no_Wish_masks, no_Wish_alone, no_Wish_spans, gl_Wish⟩
  have TK : ClK K mg (He.ga K "Wants") := ⟨cls_Wants, no_Wants_wishes, gl_Wants⟩
  have cW : CalW P w K mg base := cal_of (ok_whole D_is_whole B) gl_is_whole D_is_whole.kp b_is_whole
  have cB : CalB P w K mg base := cal_of (ok_between D_is_between cW) gl_is_between D_is_between.kp b_is_between
  have cNa := cal_of (P := P) (w := w) (base := base) (ok_name D_is_name B val_LONGEST_NAME) gl_is_name D_is_name.kp b_is_name
  have cDy := cal_of (ok_day D_is_day cB val_LAST_DAY) gl_is_day D_is_day.kp b_is_day
  have cMa := cal_of (ok_mask D_is_mask cB val_LAST_MASK) gl_is_mask D_is_mask.kp b_is_mask
  have cCh : CalC P w K mg base := cal_of (ok_check D_check_day cDy) gl_check_day D_check_day.kp b_check_day
  have cWd := cal_of (P := P) (w := w) (base := base) (ok_wd D_weekdays B val_WEEK) gl_weekdays D_weekdays.kp b_weekdays
  have mS := met_of (P := P) (w := w) (base := base) TW.cl me_Wish_is_sick (ok_sickOn D_Wish_is_sick B TW) b_Wish_is_sick
  have mM := met_of (P := P) (w := w) (base := base) TW.cl me_Wish_mask_on (ok_maskOn D_Wish_mask_on B TW) b_Wish_mask_on
  have mH := met_of (P := P) (w := w) (base := base) TW.cl me_Wish_holds_on (ok_holds D_Wish_holds_on B TW mS mM cWd val_WEEK) b_Wish_holds_on
  have mWo : MetW P w K mg base (He.ga K "Wants") (He.ga K "Wish") := met_of TK.cl me_Wants_wish_of (ok_wishOf D_Wants_wish_of B TK) b_Wants_wish_of
  have cSn := cal_of (ok_spanC D_check_span cCh) gl_check_span D_check_span.kp b_check_span
  have FWk := ok_weekly (C := He.ga K "Wants") (CW := He.ga K "Wish") D_Wants_weekly mWo cCh cMa TW
  have FOn := ok_only (C := He.ga K "Wants") (CW := He.ga K "Wish") D_Wants_only B mWo cCh TW
  have MT : Mts P w K mg base (He.ga K "Wants") (He.ga K "Wish") := ⟨met_of TK.cl me_Wants_leave (ok_leave D_Wants_leave mWo cCh TW) b_Wants_leave, met_of TK.cl me_Wants_weekly FWk b_Wants_weekly, ⟨_, _, _, _, TK.cl, me_Wants_weekly, FWk, b1_Wants_weekly, v1_Wants_weekly⟩,
    met_of TK.cl me_Wants_only FOn b_Wants_only, ⟨_, _, _, _, TK.cl, me_Wants_only, FOn, b1_Wants_only, v1_Wants_only⟩, met_of TK.cl me_Wants_usual (ok_usual D_Wants_usual mWo cCh TW) b_Wants_usual, met_of TK.cl me_Wants_sick (ok_sick D_Wants_sick mWo cSn TW) b_Wants_sick, met_of TK.cl me_Wants_well (ok_well D_Wants_well B mWo cCh TW) b_Wants_well⟩
  have mWa := met_of TK.cl me_Wants_wants (ok_wants (C := He.ga K "Wants") (CW := He.ga K "Wish") D_Wants_wants mWo cCh mH) b_Wants_wants
  have mRi := met_of TK.cl me_Wants_riders (ok_riders (C := He.ga K "Wants") (CW := He.ga K "Wish") D_Wants_riders B2 TK cCh mH) b_Wants_riders
  have mRo := met_of TK.cl me_Wants_room (ok_room (C := He.ga K "Wants") (CW := He.ga K "Wish") D_Wants_room TK TW mRi) b_Wants_room
  have MW : MakW P w K mg base (He.ga K "Wish") (He.ga K "Person") := ⟨_, _, _, _, mk_Wish, ok_winit D_Wish_init TW TP val_LAST_DAY, TW.g, b_Wish_init, .nil⟩
  have FEn := ok_enter (C := He.ga K "Wants") D_Wants_enter TK TP cCh MW
  have mEn : Met P w K mg base 5 (He.ga K "Wants") "enter" (spEnter (He.ga K "Wants") (He.ga K "Wish") (He.ga K "Person")) [] := met_of TK.cl me_Wants_enter FEn b_Wants_enter
  have FP := ok_pinit D_Person_init cNa cB cMa TP val_MOST_SEATS
  have MP : Mak P w K mg base 4 "Person" (He.ga K "Person") (spPI (He.ga K "Person")) [] := ⟨_, _, _, _, mk_Person, FP, TP.g, b_Person_init, .nil⟩
  have mEn0 : Met P w K mg base 5 (He.ga K "Wants") "enter" (spEnter (He.ga K "Wants") (He.ga K "Wish") (He.ga K "Person")) [.int 0] := ⟨_, _, _, _, TK.cl, me_Wants_enter, FEn, b1_Wants_enter, v1_Wants_enter⟩
  have MP1 : Mak P w K mg base 4 "Person" (He.ga K "Person") (spPI (He.ga K "Person")) [.int 31] := ⟨_, _, _, _, mk_Person, FP, TP.g, b1_Person_init, v1_Person_init⟩
  have KD : Knd K mg (He.ga K "NoDay") (He.ma K (He.ga K "NoDay") "__init__") := ⟨xG, me_NoDay_init.1, eq_of_beq me_NoDay_init.2, xV, no_NoDay_day, gl_NoDay, fr_LookupError, xE⟩
  have FNd := ok_No (P := P) (w := w) (base := base) D_NoDay_init KD
  have FUs := ok_usual (P := P) (w := w) (base := base) (C := He.ga K "Wants") (CW := He.ga K "Wish") D_Wants_usual mWo cCh TW
  have FUx := ok_usualX (P := P) (w := w) (base := base) (C := He.ga K "Wants") (CW := He.ga K "Wish") D_Wants_usual mWo cCh TW KD FNd b_NoDay_init
  have FLe := ok_leave (P := P) (w := w) (base := base) (C := He.ga K "Wants") (CW := He.ga K "Wish") D_Wants_leave mWo cCh TW
  have FWa := ok_wants (P := P) (w := w) (base := base) (C := He.ga K "Wants") (CW := He.ga K "Wish") D_Wants_wants mWo cCh mH
  have FRi := ok_riders (P := P) (w := w) (base := base) (C := He.ga K "Wants") (CW := He.ga K "Wish") D_Wants_riders B2 TK cCh mH
  have FRo := ok_room (P := P) (w := w) (base := base) (C := He.ga K "Wants") (CW := He.ga K "Wish") D_Wants_room TK TW mRi
  have kU := KW.kb0 (ps := ["self", "name", "day"]) D_Wants_usual 1 ["day", "name"] (fun us ws => us ++ ws.reverse) (fun r s => r.append (KW.vals_rev s)) (fun kV doc pm an cdv ct us ws h1 h2 => match us, h1, ws, h2 with | [_], _, [_, _], _ => rfl)
  have kL := KW.kb0 (ps := ["self", "name", "day"]) D_Wants_leave 1 ["day", "name"] (fun us ws => us ++ ws.reverse) (fun r s => r.append (KW.vals_rev s)) (fun kV doc pm an cdv ct us ws h1 h2 => match us, h1, ws, h2 with | [_], _, [_, _], _ => rfl)
  have kW := KW.kb0 (ps := ["self", "name", "day"]) D_Wants_wants 1 ["day", "name"] (fun us ws => us ++ ws.reverse) (fun r s => r.append (KW.vals_rev s)) (fun kV doc pm an cdv ct us ws h1 h2 => match us, h1, ws, h2 with | [_], _, [_, _], _ => rfl)
  have kR := KW.kb0 (ps := ["self", "day"]) D_Wants_riders 1 ["day"] (fun us ws => us ++ ws) (fun r s => r.append s) (fun kV doc pm an cdv ct us ws h1 h2 => match us, h1, ws, h2 with | [_], _, [_], _ => rfl)
  have kO := KW.kb0 (ps := ["self", "day"]) D_Wants_room 1 ["day"] (fun us ws => us ++ ws) (fun r s => r.append s) (fun kV doc pm an cdv ct us ws h1 h2 => match us, h1, ws, h2 with | [_], _, [_], _ => rfl)
  obtain ⟨_, kOn⟩ := KW.kb1 (ps := ["self", "name", "day", "want"]) D_Wants_only 3 ["want"] (fun us its ws => us ++ ws) (List.cons_ne_nil _ _) (fun r _ s => r.append s) (fun T kV doc pm an cdv ct us its ws h1 h2 h3 => match us, h1, its, h2, ws, h3 with | [_, _, _], _, [_], _, [_], _ => ⟨_, rfl, rfl⟩)
  obtain ⟨_, kE⟩ := KW.kb1 (ps := ["self", "person", "day"]) D_Wants_enter 1 ["day", "person"] (fun us its ws => us ++ ws.reverse) (List.cons_ne_nil _ _) (fun r _ s => r.append (KW.vals_rev s)) (fun T kV doc pm an cdv ct us its ws h1 h2 h3 => match us, h1, its, h2, ws, h3 with | [_], _, [_], _, [_, _], _ => ⟨_, rfl, rfl⟩)
  obtain ⟨_, kK⟩ := KW.kb1 (ps := ["self", "name", "mask", "day"]) D_Wants_weekly 1 ["mask", "day", "name"] (fun us its ws => us ++ (ws.drop 2 ++ ws.take 2)) (List.cons_ne_nil _ _) (fun r _ s => r.append (vals_k s)) (fun T kV doc pm an cdv ct us its ws h1 h2 h3 => match us, h1, its, h2, ws, h3 with | [_], _, [_], _, [_, _, _], _ => ⟨_, rfl, rfl⟩)
  obtain ⟨_, kP⟩ := KW.kb1 (ps := ["self", "name", "seats", "mask"]) D_Person_init 2 ["mask"] (fun us its ws => us ++ its.take 1 ++ ws) (List.cons_ne_nil _ _) (fun r d s => (r.append (d.take 1)).append s) (fun T kV doc pm an cdv ct us its ws h1 h2 h3 => match us, h1, its, h2, ws, h3 with | [_, _], _, [_, _], _, [_], _ => ⟨_, rfl, rfl⟩)
  have cMt := cal_of (P := P) (w := w) (base := base) (ok_mt D_mask_text) gl_mask_text D_mask_text.kp b_mask_text
  have cMo := cal_of (P := P) (w := w) (base := base) (ok_mo D_mask_of B cMa val_SIXTEEN) gl_mask_of D_mask_of.kp b_mask_of
  have cMf := cal_of (P := P) (w := w) (base := base) (ok_mf D_mask_from cB val_WEEK) gl_mask_from D_mask_from.kp b_mask_from
  have cPn := cal_of (P := P) (w := w) (base := base) (ok_pen D_l_pen B) gl__law_pen D_l_pen.kp b_l_pen
  have cD : CalD P w K mg base := cal_of (ok_draw D_l_draw B) gl__law_draw D_l_draw.kp b_l_draw
  have cNm := cal_of (ok_names D_l_names B cD) gl__law_names D_l_names.kp b_l_names
  have cLy := cal_of (ok_lday D_l_day B cD) gl__law_day D_l_day.kp b_l_day
  have cDe := cal_of (ok_deed D_l_deed B cD cLy) gl__law_deed D_l_deed.kp b_l_deed
  have cDo := cal_of (ok_done D_l_done B fr_repr MT) gl__law_done D_l_done.kp b_l_done
  have cRu := cal_of (P := P) (w := w) (base := base) (ok_rules D_l_rules B) gl__law_rules D_l_rules.kp b_l_rules
  have cPe := cal_of (ok_people D_l_people B cD cNm) gl__law_people D_l_people.kp b_l_people
  have cBg := cal_of (ok_begun (C := He.ga K "Wants") (CW := He.ga K "Wish") D_l_begun TP TK mk_Wants (ok_kinit D_Wants_init TK) b_Wants_init MP mEn) gl__law_begun D_l_begun.kp b_l_begun
  have cGo := cal_of (ok_goes D_l_goes cRu) gl__law_goes D_l_goes.kp b_l_goes
  have cSe : GL.CalG P w K mg base 7 "_law_seen" (spSeen (He.ga K "Wants") (He.ga K "Wish")) [] := ⟨_, _, _, _, ok_seen D_l_seen B B2 fr_repr mWa mRi mRo, gl__law_seen, D_l_seen.kp, b_l_seen, .nil⟩
  have cOn := cal_of (P := P) (w := w) (base := base) (ok_one (C := He.ga K "Wants") (CW := He.ga K "Wish") D_l_one TK.cl me_Wants_wants FWa kW) gl__law_one D_l_one.kp b_l_one
  have cSt := cal_of (P := P) (w := w) (base := base) (ok_stage D_l_stage_right B B2 TP TK.cl mWa MP1 me_Wants_riders FRi kR me_Wants_room FRo kO) gl__law_stage_right D_l_stage_right.kp b_l_stage_right
  have cIs := cal_of (P := P) (w := w) (base := base) (ok_isNo (C := He.ga K "Wants") (CW := He.ga K "Wish") D_l_is_no_day TK.cl KD me_Wants_usual FUx b_Wants_usual) gl__law_is_no_day D_l_is_no_day.kp b_l_is_no_day
  have cAl : GL.CalG P w K mg base 8 "_law_alone_right" (spAlone (He.ga K "Wants") (He.ga K "Wish")) [] := ⟨_, _, _, _, ok_alone D_l_alone_right B TK.cl KD cD MT mWa me_Wants_usual FUx b_Wants_usual FUs kU me_Wants_only FOn kOn cSe cIs, gl__law_alone_right, D_l_alone_right.kp, b_l_alone_right, .nil⟩
  have cLe := cal_of (P := P) (w := w) (base := base) (ok_left D_l_left_right B B2 TK.cl cD mWa (met_of TK.cl me_Wants_leave FLe b_Wants_leave) cOn me_Wants_leave FLe kL) gl__law_left_right D_l_left_right.kp b_l_left_right
  have cEn := cal_of (P := P) (w := w) (base := base) (ok_entering D_l_entering_right B B2 TK.cl cD cNm mWa mRo cOn cMt cMo cMf cWd mEn0 mk_Person TP.g FP kP MP me_Wants_enter FEn kE me_Wants_weekly FWk kK) gl__law_entering_right D_l_entering_right.kp b_l_entering_right
  exact ok_law D_law B cPn cD cPe cBg cDe cGo cDo cSt cAl cLe cEn
end K14
open PySem PySem.W PySem.Calls PyProof.Rows
set_option maxRecDepth 100000 in
set_option maxHeartbeats 0 in
theorem PySem.Challenge.cw_rideturns_k14_whole_wants_there_and_back_holds : PySem.Challenge.rw_rideturns_k14_whole_wants_there_and_back.Holds := by
  w_on; o_law
  refine HandSHeadRun.head_any (r := OpenLaw.row PySem.Challenge.rw_rideturns_k14_whole_wants_there_and_back) (q := view (OpenLaw.row PySem.Challenge.rw_rideturns_k14_whole_wants_there_and_back).prog [49]) (H := K14.hk) (ob := K14.ob) (M := 8000) (loose := K14.loose) (d := HandSHeadRun.topDef (OpenLaw.row PySem.Challenge.rw_rideturns_k14_whole_wants_there_and_back).prog 49) (kwd := []) K14.ob_eq
    (by kernel_rfl) (fun s => by kernel_rfl) K14.run_ (by kernel_rfl) (by kernel_rfl) (by kernel_rfl) (by rfl) (by first | assumption | decide +kernel) (by decide +kernel) ⟨rfl, rfl, rfl, rfl, rfl, by decide +kernel⟩ ?hw ?hc
  case hw => w_witness2
  case hc =>
    refine GL.walkG (l := PySem.Challenge.rw_rideturns_k14_whole_wants_there_and_back) (n := 63) (k := 9) (x := "_law_script") rfl (by decide) (by kernel_rfl) ⟨rfl, by decide, by decide⟩ ?F
    intro w mg fa h Y G hmg0
    obtain ⟨K, KX, c⟩ := Y
    have hmg : mg ("law" : PySem.Str) = some (.ref fa) := by
      have e : (HandSHeadRun.topDef (OpenLaw.row PySem.Challenge.rw_rideturns_k14_whole_wants_there_and_back).prog 49).name = ("law" : PySem.Str) := by kernel_rfl
      rw [← e]
      exact hmg0
    obtain ⟨fd, hb, hF⟩ := K14.facts (P := (PySem.Challenge.rw_rideturns_k14_whole_wants_there_and_back).prog) (w := w) KX G hmg c
    exact ⟨K, fd, K14.spLaw K, KX, hb, fun H a ns hl hS => ⟨a, ns, rfl, hS, hl, fun _ => rfl⟩, hF⟩
