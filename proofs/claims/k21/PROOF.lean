import PyProof.Rows.All
import Wide.All
import OpenK.AllK
import Wide.FinOn
import HandS.ForMost
import HandS.ForExc
import HandS.Defaults
import HandS.Codes
import HandS.IsInst
import HandS.Wide
import HandS.Flow
import HandS.Evl
import HandS.Steps
import HandS.ExcField
import HandS.Head0
import HandS.Head1
import HandS.Head2
import HandS.HeadEnd
import HandS.HeadHook1
import HandS.HeadHook2
import HandS.HeadHook3
import HandS.HeadHook4
import KE.KExcInit
import HandS.ExcInit
import HandS.Style
import HandS.Comp
import HandS.Text
import HandS.More
import PyProof.StrOps2
import HandS.Walk
import HandS.StrMore
import HandS.Strs
import HandS.List
import HandS.Call
import KE.SortCalls
import KE.SortKeyed
import KE.KCallOwn
import HandS.Deep
import HandS.Dict
import KE.LtData
import HandS.DictComp
import HandS.Sort
import PyProof.ReprRoads
import PyProof.ReprLen
import HandS.Words
import HandS.MakeKw
import HandS.MakeKwOnly
import HandS.NoneIn
import PySem.Challenge.RW_rideturns_k21_rides_made_and_told
set_option Elab.async false
set_option linter.all false
set_option maxRecDepth 100000
set_option maxHeartbeats 4000000
namespace K21
open PySem PySem.Spec PyProof.Rows L2
def top (i : Nat) : Stmt := PySem.Challenge.pw_rideturns_k21_rides_made_and_told.main.body.getD i (.Pass ⟨0, 0, 0, 0⟩)
abbrev s__wall : Stmt := top 0
abbrev N__wall : List Str := ["k"]
theorem sc__wall : FnScope N__wall ["k"] (defScope s__wall) := ⟨rfl, rfl, rfl, by decide +kernel, rfl, by decide +kernel, by decide +kernel⟩
def d__wall : He.DefD := ⟨("_wall", none), "_wall", "_wall", defArgs s__wall, defBody s__wall, defScope s__wall, [], []⟩
abbrev s_NoRide_init : Stmt := inClass (top 2) 0
abbrev N_NoRide_init : List Str := ["self", "reason"]
theorem sc_NoRide_init : FnScope N_NoRide_init ["self", "reason"] (defScope s_NoRide_init) := ⟨rfl, rfl, rfl, by decide +kernel, rfl, by decide +kernel, by decide +kernel⟩
def d_NoRide_init : He.DefD := ⟨("NoRide", some "__init__"), "__init__", "NoRide.__init__", defArgs s_NoRide_init, defBody s_NoRide_init, defScope s_NoRide_init, [], []⟩
abbrev s_is_whole : Stmt := top 6
abbrev N_is_whole : List Str := ["thing"]
theorem sc_is_whole : FnScope N_is_whole ["thing"] (defScope s_is_whole) := ⟨rfl, rfl, rfl, by decide +kernel, rfl, by decide +kernel, by decide +kernel⟩
def d_is_whole : He.DefD := ⟨("is_whole", none), "is_whole", "is_whole", defArgs s_is_whole, defBody s_is_whole, defScope s_is_whole, [], []⟩
abbrev s_is_between : Stmt := top 7
abbrev N_is_between : List Str := ["thing", "low", "high"]
theorem sc_is_between : FnScope N_is_between ["thing", "low", "high"] (defScope s_is_between) := ⟨rfl, rfl, rfl, by decide +kernel, rfl, by decide +kernel, by decide +kernel⟩
def d_is_between : He.DefD := ⟨("is_between", none), "is_between", "is_between", defArgs s_is_between, defBody s_is_between, defScope s_is_between, [], []⟩
abbrev s_is_name : Stmt := top 8
abbrev N_is_name : List Str := ["thing", "sign"]
theorem sc_is_name : FnScope N_is_name ["thing"] (defScope s_is_name) := ⟨rfl, rfl, rfl, by decide +kernel, rfl, by decide +kernel, by decide +kernel⟩
def d_is_name : He.DefD := ⟨("is_name", none), "is_name", "is_name", defArgs s_is_name, defBody s_is_name, defScope s_is_name, [], []⟩
abbrev s_is_day : Stmt := top 9
abbrev N_is_day : List Str := ["thing"]
theorem sc_is_day : FnScope N_is_day ["thing"] (defScope s_is_day) := ⟨rfl, rfl, rfl, by decide +kernel, rfl, by decide +kernel, by decide +kernel⟩
def d_is_day : He.DefD := ⟨("is_day", none), "is_day", "is_day", defArgs s_is_day, defBody s_is_day, defScope s_is_day, [], []⟩
abbrev s_is_rider : Stmt := top 14
abbrev N_is_rider : List Str := ["thing", "legs"]
theorem sc_is_rider : FnScope N_is_rider ["thing", "legs"] (defScope s_is_rider) := ⟨rfl, rfl, rfl, by decide +kernel, rfl, by decide +kernel, by decide +kernel⟩
def d_is_rider : He.DefD := ⟨("is_rider", none), "is_rider", "is_rider", defArgs s_is_rider, defBody s_is_rider, defScope s_is_rider, [], []⟩
abbrev s_are_riders : Stmt := top 15
abbrev N_are_riders : List Str := ["thing", "driver", "legs", "names", "rider"]
theorem sc_are_riders : FnScope N_are_riders ["thing", "driver", "legs"] (defScope s_are_riders) := ⟨rfl, rfl, rfl, by decide +kernel, rfl, by decide +kernel, by decide +kernel⟩
def d_are_riders : He.DefD := ⟨("are_riders", none), "are_riders", "are_riders", defArgs s_are_riders, defBody s_are_riders, defScope s_are_riders, [], []⟩
abbrev s_are_late : Stmt := top 16
abbrev N_are_late : List Str := ["thing", "riders", "names", "rider", "name"]
theorem sc_are_late : FnScope N_are_late ["thing", "riders"] (defScope s_are_late) := ⟨rfl, rfl, rfl, by decide +kernel, rfl, by decide +kernel, by decide +kernel⟩
def d_are_late : He.DefD := ⟨("are_late", none), "are_late", "are_late", defArgs s_are_late, defBody s_are_late, defScope s_are_late, [], []⟩
abbrev s_first_wrong : Stmt := top 17
abbrev N_first_wrong : List Str := ["day", "driver", "riders", "legs", "worth", "late"]
theorem sc_first_wrong : FnScope N_first_wrong ["day", "driver", "riders", "legs", "worth", "late"] (defScope s_first_wrong) := ⟨rfl, rfl, rfl, by decide +kernel, rfl, by decide +kernel, by decide +kernel⟩
def d_first_wrong : He.DefD := ⟨("first_wrong", none), "first_wrong", "first_wrong", defArgs s_first_wrong, defBody s_first_wrong, defScope s_first_wrong, [], []⟩
abbrev s_Ride_init : Stmt := inClass (top 18) 0
abbrev N_Ride_init : List Str := ["self", "day", "driver", "riders", "legs", "worth", "late", "reason"]
theorem sc_Ride_init : FnScope N_Ride_init ["self", "day", "driver", "riders", "legs", "worth", "late"] (defScope s_Ride_init) := ⟨rfl, rfl, rfl, by decide +kernel, rfl, by decide +kernel, by decide +kernel⟩
def d_Ride_init : He.DefD := ⟨("Ride", some "__init__"), "__init__", "Ride.__init__", defArgs s_Ride_init, defBody s_Ride_init, defScope s_Ride_init, [.non, .int 1, .int 1, .non], []⟩
abbrev s_Ride_len : Stmt := inClass (top 18) 1
abbrev N_Ride_len : List Str := ["self"]
theorem sc_Ride_len : FnScope N_Ride_len ["self"] (defScope s_Ride_len) := ⟨rfl, rfl, rfl, by decide +kernel, rfl, by decide +kernel, by decide +kernel⟩
def d_Ride_len : He.DefD := ⟨("Ride", some "__len__"), "__len__", "Ride.__len__", defArgs s_Ride_len, defBody s_Ride_len, defScope s_Ride_len, [], []⟩
abbrev s_Ride_eq : Stmt := inClass (top 18) 2
abbrev N_Ride_eq : List Str := ["self", "other"]
theorem sc_Ride_eq : FnScope N_Ride_eq ["self", "other"] (defScope s_Ride_eq) := ⟨rfl, rfl, rfl, by decide +kernel, rfl, by decide +kernel, by decide +kernel⟩
def d_Ride_eq : He.DefD := ⟨("Ride", some "__eq__"), "__eq__", "Ride.__eq__", defArgs s_Ride_eq, defBody s_Ride_eq, defScope s_Ride_eq, [], []⟩
abbrev s_Ride_str : Stmt := inClass (top 18) 3
abbrev N_Ride_str : List Str := ["self", "pieces", "name", "on", "off"]
theorem sc_Ride_str : FnScope N_Ride_str ["self"] (defScope s_Ride_str) := ⟨rfl, rfl, rfl, by decide +kernel, rfl, by decide +kernel, by decide +kernel⟩
def d_Ride_str : He.DefD := ⟨("Ride", some "__str__"), "__str__", "Ride.__str__", defArgs s_Ride_str, defBody s_Ride_str, defScope s_Ride_str, [], []⟩
abbrev s_Ride_repr : Stmt := inClass (top 18) 4
abbrev N_Ride_repr : List Str := ["self"]
theorem sc_Ride_repr : FnScope N_Ride_repr ["self"] (defScope s_Ride_repr) := ⟨rfl, rfl, rfl, by decide +kernel, rfl, by decide +kernel, by decide +kernel⟩
def d_Ride_repr : He.DefD := ⟨("Ride", some "__repr__"), "__repr__", "Ride.__repr__", defArgs s_Ride_repr, defBody s_Ride_repr, defScope s_Ride_repr, [], []⟩
abbrev s_Ride_riders : Stmt := inClass (top 18) 5
abbrev N_Ride_riders : List Str := ["self"]
theorem sc_Ride_riders : FnScope N_Ride_riders ["self"] (defScope s_Ride_riders) := ⟨rfl, rfl, rfl, by decide +kernel, rfl, by decide +kernel, by decide +kernel⟩
def d_Ride_riders : He.DefD := ⟨("Ride", some "riders"), "riders", "Ride.riders", defArgs s_Ride_riders, defBody s_Ride_riders, defScope s_Ride_riders, [], []⟩
abbrev s_Ride_late : Stmt := inClass (top 18) 6
abbrev N_Ride_late : List Str := ["self"]
theorem sc_Ride_late : FnScope N_Ride_late ["self"] (defScope s_Ride_late) := ⟨rfl, rfl, rfl, by decide +kernel, rfl, by decide +kernel, by decide +kernel⟩
def d_Ride_late : He.DefD := ⟨("Ride", some "late"), "late", "Ride.late", defArgs s_Ride_late, defBody s_Ride_late, defScope s_Ride_late, [], []⟩
abbrev s_Ride_folk : Stmt := inClass (top 18) 7
abbrev N_Ride_folk : List Str := ["self", "name", "on", "off"]
theorem sc_Ride_folk : FnScope N_Ride_folk ["self"] (defScope s_Ride_folk) := ⟨rfl, rfl, rfl, by decide +kernel, rfl, by decide +kernel, by decide +kernel⟩
def d_Ride_folk : He.DefD := ⟨("Ride", some "folk"), "folk", "Ride.folk", defArgs s_Ride_folk, defBody s_Ride_folk, defScope s_Ride_folk, [], []⟩
abbrev s_Ride_parts : Stmt := inClass (top 18) 8
abbrev N_Ride_parts : List Str := ["self"]
theorem sc_Ride_parts : FnScope N_Ride_parts ["self"] (defScope s_Ride_parts) := ⟨rfl, rfl, rfl, by decide +kernel, rfl, by decide +kernel, by decide +kernel⟩
def d_Ride_parts : He.DefD := ⟨("Ride", some "parts"), "parts", "Ride.parts", defArgs s_Ride_parts, defBody s_Ride_parts, defScope s_Ride_parts, [], []⟩
abbrev s_Ride_gives : Stmt := inClass (top 18) 9
abbrev N_Ride_gives : List Str := ["self"]
theorem sc_Ride_gives : FnScope N_Ride_gives ["self"] (defScope s_Ride_gives) := ⟨rfl, rfl, rfl, by decide +kernel, rfl, by decide +kernel, by decide +kernel⟩
def d_Ride_gives : He.DefD := ⟨("Ride", some "gives"), "gives", "Ride.gives", defArgs s_Ride_gives, defBody s_Ride_gives, defScope s_Ride_gives, [], []⟩
abbrev s_l_pen : Stmt := top 20
abbrev N_l_pen : List Str := ["_law_script"]
theorem sc_l_pen : FnScope N_l_pen ["_law_script"] (defScope s_l_pen) := ⟨rfl, rfl, rfl, by decide +kernel, rfl, by decide +kernel, by decide +kernel⟩
def d_l_pen : He.DefD := ⟨("_law_pen", none), "_law_pen", "_law_pen", defArgs s_l_pen, defBody s_l_pen, defScope s_l_pen, [], []⟩
abbrev s_l_draw : Stmt := top 21
abbrev N_l_draw : List Str := ["_law_pen_here", "_law_many", "_law_found", "_law_at", "_law_cell", "_law_number"]
theorem sc_l_draw : FnScope N_l_draw ["_law_pen_here", "_law_many"] (defScope s_l_draw) := ⟨rfl, rfl, rfl, by decide +kernel, rfl, by decide +kernel, by decide +kernel⟩
def d_l_draw : He.DefD := ⟨("_law_draw", none), "_law_draw", "_law_draw", defArgs s_l_draw, defBody s_l_draw, defScope s_l_draw, [], []⟩
abbrev s_l_names : Stmt := top 22
abbrev N_l_names : List Str := ["_law_pen_here", "_law_many", "_law_letters", "_law_words", "_law_size", "_law_k", "_law_base", "_law_at", "_law_spot", "_law_way_here", "_law_found", "_law_word"]
theorem sc_l_names : FnScope N_l_names ["_law_pen_here", "_law_many"] (defScope s_l_names) := ⟨rfl, rfl, rfl, by decide +kernel, rfl, by decide +kernel, by decide +kernel⟩
def d_l_names : He.DefD := ⟨("_law_names", none), "_law_names", "_law_names", defArgs s_l_names, defBody s_l_names, defScope s_l_names, [], []⟩
abbrev s_l_way : Stmt := top 23
abbrev N_l_way : List Str := ["_law_pen_here", "_law_known", "_law_legs_told", "_law_today", "_law_folk", "_law_slow", "_law_called", "_law_begin", "_law_price"]
theorem sc_l_way : FnScope N_l_way ["_law_pen_here"] (defScope s_l_way) := ⟨rfl, rfl, rfl, by decide +kernel, rfl, by decide +kernel, by decide +kernel⟩
def d_l_way : He.DefD := ⟨("_law_way", none), "_law_way", "_law_way", defArgs s_l_way, defBody s_l_way, defScope s_l_way, [], []⟩
abbrev s_l_rides : Stmt := top 24
abbrev N_l_rides : List Str := ["_law_way_here", "_law_today", "_law_called", "_law_folk", "_law_many", "_law_price", "_law_slow", "_law_found"]
theorem sc_l_rides : FnScope N_l_rides ["_law_way_here"] (defScope s_l_rides) := ⟨rfl, rfl, rfl, by decide +kernel, rfl, by decide +kernel, by decide +kernel⟩
def d_l_rides : He.DefD := ⟨("_law_rides", none), "_law_rides", "_law_rides", defArgs s_l_rides, defBody s_l_rides, defScope s_l_rides, [], []⟩
abbrev s_l_right : Stmt := top 25
abbrev N_l_right : List Str := ["_law_ride", "_law_way_here", "_law_today", "_law_called", "_law_folk", "_law_many", "_law_price", "_law_slow", "_law_due", "_law_again", "_law_told", "_law_some", "_law_one"]
theorem sc_l_right : FnScope N_l_right ["_law_ride", "_law_way_here"] (defScope s_l_right) := ⟨rfl, rfl, rfl, by decide +kernel, rfl, by decide +kernel, by decide +kernel⟩
def d_l_right : He.DefD := ⟨("_law_right", none), "_law_right", "_law_right", defArgs s_l_right, defBody s_l_right, defScope s_l_right, [], []⟩
abbrev s_law : Stmt := top 26
abbrev N_law : List Str := ["_law_script", "_law_pen_here", "_law_held", "_law_dues", "_law_turn", "_law_way_here", "_law_ride", "_law_handed", "_law_one"]
theorem sc_law : FnScope N_law ["_law_script"] (defScope s_law) := ⟨rfl, rfl, rfl, by decide +kernel, rfl, by decide +kernel, by decide +kernel⟩
def d_law : He.DefD := ⟨("law", none), "law", "law", defArgs s_law, defBody s_law, defScope s_law, [], []⟩
def fn : List He.DefD := [d__wall, d_NoRide_init, d_is_whole, d_is_between, d_is_name, d_is_day, d_is_rider, d_are_riders, d_are_late, d_first_wrong, d_Ride_init, d_Ride_len, d_Ride_eq, d_Ride_str, d_Ride_repr, d_Ride_riders, d_Ride_late, d_Ride_folk, d_Ride_parts, d_Ride_gives, d_l_pen, d_l_draw, d_l_names, d_l_way, d_l_rides, d_l_right, d_law]
end K21
set_option Elab.async false
set_option linter.all false
set_option maxRecDepth 100000
set_option maxHeartbeats 4000000
/-! GX: own exceptions over any built-in base, whose own __init__ calls the base's and stores a field. -/
namespace GX
open PySem PySem.Spec PyProof.Rows L2

/-- what the written part tells of the class -/
structure Gx (K : PySem.W.Frag) (C : Addr) (bmB : List Value) (nid : String) : Prop where
  over : PySem.W.excOver K C bmB = true
  made : PySem.W.excInitIn K C bmB nid = true
  hasd : ∃ cd, PySem.W.clsIn K C = some cd ∧ cd.hasDict = true
  sets : PySem.W.findIn K (.ref C) "__setattr__" = some (some (.builtin "object.__setattr__"))
  base : PySem.W.subIn K (.ref C) (.type "BaseException") = some true
  typ : PySem.W.typeIn K (.ref C) = some (.type "type")
  keep : PySem.W.keepIn K (.ref C) = true

section
open Builtin Builtin.ObjectAttr
variable {prog : Program} {w : World} {A : Around} {R : Result → Shared → Prop} {hp : Heap} {g : Array GenState} {d : Drawn} {t : Nat} {os : OsState} {B : String} {bmB : List Value}
theorem first_store {K : PySem.W.Frag} {name : Str} {tk : Tok} {v : Value} {x C : Addr} {fv : Array Value} {cd : ClassData} (SF : StoreFacts B bmB "object.__setattr__" "object")
    (X : K.In hp) (hx : hp.get? x = some { cls := .ref C, data := .fields fv }) (ho : PySem.W.excOver K C bmB = true) (hc : PySem.W.clsIn K C = some cd) (hd : cd.hasDict = true)
    (hf : PySem.W.findIn K (.ref C) name = some none)
    (post : ∀ h' tk' dx, (∀ b o, b ≠ x → hp.get? b = some o → h'.get? b = some o) → hp.objs.size ≤ dx → dx ≠ x →
      h'.get? x = some { cls := .ref C, dict := some dx, data := .fields fv } → h'.Ns1 dx (fun y => if y = name then some v else none) → R (.ok (.ret .none)) ⟨h', g, d, tk', os⟩) :
    codeAny (model prog w) A (.call (.builtin "object.__setattr__") ⟨[.ref x, .str name tk, v], []⟩) R ⟨hp, g, d, t, os⟩ := by
  have inst : PySem.W.InstAt hp x { cls := .ref C, data := .fields fv } C none := ⟨hx, rfl, rfl, trivial⟩
  have far : x ≠ hp.objs.size := Nat.ne_of_lt (Heap.lt_size hx)
  have lc : PySem.W.Looks (model prog w) hp (classData C) cd := PySem.W.looks_clsIn X hc
  refine PySem.W.osa_openX (r := none) SF X inst ho (by unfold PySem.W.takerIn; rw [hf]; rfl) fun b => ?_
  dsimp only
  obtain ⟨n1, n2, n3, n4, n5, n6, n7, n8, n9, n10, n11⟩ := cd
  dsimp only at hd
  subst hd
  unfold storeInOwnDict ownDictForStores
  repeat (first | with_reducible refine PySem.HandSPX.store_in_new ?_ ?_ | with_reducible refine wpAny_loadPart_at hx ?_ | with_reducible refine lc.at ?_ | wp_step)
  · exact ⟨_, #[], _, (Heap.get?_update_ne _ _ _ _ far.symm).trans (Heap.get?_push_at rfl rfl), rfl, fun e he => absurd he (by simp), fun _ => rfl⟩
  · intro h' tk' hn hs
    have hx1 : (hp.push { cls := .type "dict", data := .dict #[] }).get? x = some { cls := .ref C, data := .fields fv } := Heap.get?_push_of_some _ hx
    refine post h' tk' hp.objs.size (fun b o hb hob => ?_) (Nat.le_refl _) far.symm ?_ hn
    · have e1 := hs.2 b (Nat.ne_of_lt (Heap.lt_size hob))
      rw [e1, Heap.get?_update_ne _ _ _ _ hb]
      exact Heap.get?_push_of_some _ hob
    · rw [hs.2 x far]
      exact Heap.get?_update_self _ hx1 rfl
end

section
variable {X : Cx} {pins : List (Addr × Obj)} {σ : L2.St} {H : Hp} {s : Shared} {a C dx : Addr} {f : Str} {y : V} {u : Value} {Q : Unit → Shared → Prop} {E : Value → Shared → Prop} {A : Around} {B : String} {bmB : List Value} {nid iid : String}
/-- self.f = y, the first store -/
theorem put_first (SF : StoreFacts B bmB "object.__setattr__" "object") (T : Gx X.K C bmB nid) (I : Inv X pins σ H s) (e : H a = some (exo a C none)) (hno : PySem.W.findIn X.K (.ref C) f = some none) (ry : RelV y u)
    (post : ∀ dx s', H dx = none → dx ≠ a → Inv X pins σ (upd (upd H dx (exd dx [(f, y)])) a (exo a C (some dx))) s' → Q () s') : wpAny (model X.prog X.w) A (setAttr (.ref a) f u) Q E s := by
  obtain ⟨cd, hcd, hdd⟩ := T.hasd
  obtain ⟨t1, at1⟩ := exo_at I.hok e
  obtain ⟨hp, g, d, t, os⟩ := s
  refine PySem.W.set_plain I.kIn (ox := { cls := .ref C, dict := none, data := .fields #[.ref t1, .none, .none, .none, .bool false, .none] }) (od := none) ⟨at1, rfl, rfl, trivial⟩ T.sets ?_
  refine first_store SF I.kIn at1 T.over hcd hdd hno (fun h' tk' dx kp dn dne hx hn => ?_)
  have fresh : H dx = none := I.hok.fresh dn
  have old : ∀ {b : Addr} {o : Obj}, hp.get? b = some o → b ≠ dx := fun {b o} q => Nat.ne_of_lt (Nat.lt_of_lt_of_le (Heap.lt_size q) dn)
  have other : ∀ {b : Addr}, H b = none → b ≠ a := fun {b} n z => by
    rw [z, e] at n
    cases n
  have un : Un X.fs [] H (upd (upd H dx (exd dx [(f, y)])) a (exo a C (some dx))) hp h' := {
    keep := fun b o q n _ _ => kp b o (other n) q
    slot := fun b o q n _ _ => ⟨o.slots, kp b o (other n) q⟩
    free := fun b o q n _ => by rw [upd_ne (other n), upd_ne (old q)]; exact n
    there := fun b o q _ => by
      by_cases hb : b = a
      · exact ⟨_, hb ▸ hx⟩
      · exact ⟨o, kp b o hb q⟩
    tups := fun b xs q => by rw [upd_ne (at_ne e q exo_tup), upd_ne (ne_of_none q fresh)]; exact q
    frzs := fun b o v q => by rw [upd_ne (at_ne e q exo_frz), upd_ne (ne_of_none q fresh)]; exact q
    tbls := fun b ps q => ⟨#[], by rw [upd_ne (at_ne e q exo_tbl), upd_ne (ne_of_none q fresh), q]; simp⟩ }
  refine post dx _ fresh dne (I.un (t' := tk') un fun b o q => ?_)
  by_cases hb : b = a
  · subst hb
    rw [upd_same] at q
    cases q
    exact exo_ok hx
  · rw [upd_ne hb] at q
    by_cases hd : b = dx
    · subst hd
      rw [upd_same] at q
      cases q
      exact exd_ok hn (relO_put (fs := []) ry fun g => True.intro)
    · rw [upd_ne hd] at q
      refine (I.hok b o q).stay (fun c v hc z => kp c v ?_ z) (fun c hc => ?_) (fun c xs hc => ?_)
      · rcases hc with hc | hc
        · exact hc ▸ hb
        · exact at_ne e hc exo_own
      · rw [upd_ne (at_ne e hc exo_own), upd_ne (ne_of_none hc fresh)]; exact hc
      · rw [upd_ne (at_ne e hc exo_tup), upd_ne (ne_of_none hc fresh)]; exact hc
/-- Base.__init__(self, ..) -/
theorem base_init {us : List Value} {Q : Value → Shared → Prop} (FB : ExcBaseFacts B nid iid bmB) (T : Gx X.K C bmB nid) (I : Inv X pins σ H s) (e : H a = some (exo a C none)) (hl : us.length ≤ sizeLine) (post : ∀ s', Inv X pins σ H s' → Q .none s') :
    wpAny (model X.prog X.w) A (call (.builtin iid) (.ref a :: us)) Q E s := by
  obtain ⟨nm, N, qn, bs, bm, hdct, sn, sub, ab, col, dd, k0, k1, k2, k3, k5, hC, hT⟩ := PySem.W.excInit_of I.kIn T.made
  obtain ⟨t1, at1⟩ := exo_at I.hok e
  obtain ⟨hp, g, d, t, os⟩ := s
  refine wpAny_call (PySem.HandSPX.init_base FB hT hC at1 hl fun h' t2 kp hx => ?_)
  have J := I.write (t' := t) (x := a) (e := a) (o := exo a C none) (by rw [e]; exact True.intro) (.inl rfl) kp ⟨_, hx⟩ (exo_ok hx)
  have same : upd H a (exo a C none) = H := funext fun b => by
    by_cases hb : b = a
    · rw [hb, upd_same, e]
    · rw [upd_ne hb]
  rw [same] at J
  exact post _ J
end

/-! ### readings and rules -/
/-- Base.__init__(self, ..) -/
def tBi (K : PySem.W.Frag) (bmB : List Value) (nid : String) (ta : TA) : TE := fun σ H Q => ta σ H fun vs H1 => ∃ (a C : Addr) (ws : List V), vs = .ref a :: ws ∧ ws.length ≤ 1000 ∧ Gx K C bmB nid ∧ H1 a = some (exo a C none) ∧ Q .non H1
/-- self.f = e, the first one -/
def tPf (K : PySem.W.Frag) (bmB : List Value) (nid : String) (f : Str) (to te : TE) : TS := fun D σ H => te σ H fun y H1 => to σ H1 fun x H2 => ∃ a C : Addr, x = .ref a ∧ Gx K C bmB nid ∧ PySem.W.findIn K (.ref C) f = some none ∧
  H2 a = some (exo a C none) ∧ ∀ dx, H2 dx = none → dx ≠ a → D.nx σ (upd (upd H2 dx (exd dx [(f, y)])) a (exo a C (some dx)))
section
variable {X : Cx} {o e : Expr} {es : List Expr} {to te : TE} {ta : TA} {f : Str} {p p' p1 p2 pos : Pos} {B nid iid : String} {bmB : List Value} {x : Str}
theorem pe_bi {pl : Sem Bool} (FB : ExcBaseFacts B nid iid bmB) (hg : Gl X x) (hm : X.mg x = none) (hv : bootBuiltins x = some (.type B)) (ty : typeOf (.type B) = pure (.type "type"))
    (vV : PySem.W.findCls X.K (.type B) (.type "type") "__init__" = some (.val (.builtin iid))) (hb : PySem.W.handedIn (.builtin iid) = true) (hst : Manifest.isStub B = false) (ha : PA X (e :: es) ta)
    (hc : eval (.Call (.Attribute (.Name x p1) "__init__" p2) (e :: es) [] pos) X.env = (do
      let ov ← eval (.Name x p1) X.env
      standAt p2.atName
      let (f, first) ← holding [ov] (getMethod ov "__init__" pl)
      callWith pos f first (backTo pos (starEach (e :: es) X.env)) (backToKw pos (keywordEach [] X.env))) := by rfl)
    (hn : x ≠ "__name__" := by decide) (hd : (x == ("__debug__" : Str)) = false := by decide)
    (he : starEach (e :: es) X.env = (false, eval e X.env) :: starEach es X.env := by rfl) (hpl : (backTo pos (starEach es X.env)).any (·.1) = false := by rfl) :
    PE X (.Call (.Attribute (.Name x p1) "__init__" p2) (e :: es) [] pos) (tBi X.K bmB nid ta) := by
  refine ⟨fun pins s σ H Q I h => ?_⟩
  refine PySem.W.methodCall_KW (ld_blt I hg hm hv ?_ hn hd) hc
  obtain ⟨m, fr⟩ := I.fr
  refine PySem.W.method_type fr I.ok.mod.kin ty hst vV hb ?_
  show wpAny _ _ (callWith pos (Value.builtin iid) [] (backTo pos (starEach (e :: es) X.env)) []) _ _ _
  refine PyProof.Rows.callWith_method1 (thn (ha.run pos pins _ σ H _ (I.tok _) h) fun us s1 hh => ?_) he hpl
  obtain ⟨vs, H1, I1, r1, a, C, ws, ev, hl, T, ea, q⟩ := hh
  subst ev
  cases r1 with
  | @cons _ u0 _ ur ra rw' =>
    obtain rfl : u0 = Value.ref a := ra
    have hlen : ur.length ≤ sizeLine := by
      have := Paired.length rw'
      rw [sizeLine_eq]
      omega
    exact base_init FB T I1 ea hlen fun s' J => ⟨.non, H1, J, rfl, q⟩
theorem ps_pf (SF : StoreFacts B bmB "object.__setattr__" "object") (ho : PE X o to) (he : PE X e te) (hs : swapsWith e (some (.Attribute o f p')) pos.line X.env = pure false := by rfl) : PS X (.Assign [.Attribute o f p'] e pos) (tPf X.K bmB nid f to te) := by
  refine ⟨fun pins s σ H D I h => ?_⟩
  refine plainObj_wpAny_Assign_Attribute (thn (he.run pins s σ H _ I h) fun v s1 h1 => ?_) hs
  obtain ⟨y, H1, I1, r1, q1⟩ := h1
  refine thn (ho.run pins s1 σ H1 _ I1 q1) fun u s2 h2 => ?_
  obtain ⟨z, H2, I2, r2, a, C, ex, T, hno, ea, q⟩ := h2
  subst ex
  obtain rfl : u = Value.ref a := r2
  exact put_first SF T I2 ea hno r1 fun dx s' n ne J => ⟨σ, _, J, q dx n ne⟩
/-- C(e, ..) as what is raised, C's own __init__ keeping sp -/
theorem pmk_gx {CX : CXT} {C fI : Addr} {k : Nat} {fd : FuncData} {ps : List Str} {sp : Sp} {ds : List Value} {dvs : List V} (FB : ExcBaseFacts B nid iid bmB) (T : Gx X.K C bmB nid) (iC : PySem.W.findIn X.K (.ref C) "__init__" = some (some (.ref fI)))
    (tI : PySem.W.typeIn X.K (.ref fI) = some (.type "function"))
    (F1 : FnOk X.prog X.w X.K X.mg X.base CX k fI fd ps sp) (hr : Room (k + 1) X.A) (hb : Binds X.K fd ps ds) (hd : Vals dvs ds) (hx : Passes CX X (fun _ _ _ => False)) (hg : Gl X x) (hm : X.mg x = some (.ref C)) (ha : PA X (e :: es) ta)
    (hdb : (x == ("__debug__" : Str)) = false := by decide) (he : starEach (e :: es) X.env = (false, eval e X.env) :: starEach es X.env := by rfl) (hpl : (backTo pos (starEach es X.env)).any (·.1) = false := by rfl) :
    PMk X (.Call (.Name x p) (e :: es) [] pos) (tMkO C sp dvs ta) := by
  intro pins s σ H Q I h
  refine wpAny_Call_Name_kw (ld_glob I hg hm ?_ hdb)
  refine PySem.W.callWith_K (h₀ := X.base) I.ok.mod.kin T.keep (thn (ha.run pos pins s σ H _ I h) fun us s1 hh => ?_) he hpl
  obtain ⟨vs, H1, I1, r1, hz, q1⟩ := hh
  refine ⟨I1.kIn, ?_⟩
  show wpAny _ _ (call (.ref C) us) _ _ _
  obtain ⟨nm, N, qn, bs, bm, hdct, sn, sub, ab, col, dd, k0, k1, k2, k3, k5, hC, hT⟩ := PySem.W.excInit_of I1.kIn T.made
  obtain ⟨hp, g, dr, tk, os⟩ := s1
  have big : hp.objs.size ≤ hp.objs.size + 1 := Nat.le_succ _
  have hq := q1 (hp.objs.size + 1) (I1.hok.fresh big)
  have kk : ∀ b o, hp.get? b = some o → ((hp.push (PySem.W.kdv_tup us)).push (PySem.HandSPX.excO C hp.objs.size)).get? b = some o := fun b o z =>
    Heap.get?_push_of_some _ (Heap.get?_push_of_some _ z)
  have there : ((hp.push (PySem.W.kdv_tup us)).push (PySem.HandSPX.excO C hp.objs.size)).get? (hp.objs.size + 1) = some (PySem.HandSPX.excO C hp.objs.size) := by heap_get
  have I2 := I1.laid (t' := tk) (a := hp.objs.size + 1) (o := exo (hp.objs.size + 1) C none) (h' := (hp.push (PySem.W.kdv_tup us)).push (PySem.HandSPX.excO C hp.objs.size)) kk big (exo_ok there)
  have r2 : Vals (V.ref (hp.objs.size + 1) :: (vs ++ dvs)) (Value.ref (hp.objs.size + 1) :: (us ++ ds)) := .cons rfl (r1.append hd)
  have hl : (Value.ref (hp.objs.size + 1) :: us ++ ds).length = ps.length := by
    have e1 := r2.length
    rw [F1.len _ _ _ _ hq] at e1
    exact e1.symm
  have few : us.length ≤ sizeLine := by
    have := Paired.length r1
    rw [sizeLine_eq]
    omega
  refine wpAny_call (PySem.HandSPX.call_own FB hT hC (PySem.W.looks_findIn I1.kIn iC) (fun self => PySem.W.bind_fn I1.kIn self tI) few (codeAny_mono
    (F1.run _ X.stack _ _ ⟨Value.ref (hp.objs.size + 1) :: us, []⟩ (Value.ref (hp.objs.size + 1) :: (us ++ ds)) _ _ (fun _ _ _ => False) (hr.make C us []) (I2.env0.make C us []) (hb _ (Value.ref (hp.objs.size + 1) :: us) I2.kIn hl) r2 hq) fun r s' hq' => ?_))
  cases r with
  | error er => exact hx pins σ _ _ er s' I2 hq'
  | ok fl =>
    cases fl with
    | ret u =>
      obtain ⟨v, H2, os2, bare2, un2, hok2, rv, ev, d, fs, ea, ed, hd1, q2⟩ := hq'
      subst ev
      obtain ⟨h2, g2, d2, t2, os'⟩ := s'
      exact ⟨rv, mk_end (raises_own T.base T.typ) I1 big kk un2 hok2 os2 bare2 ea ed hd1 q2⟩
    | next => exact False.elim hq'
    | brk => exact False.elim hq'
    | cont => exact False.elim hq'
end
/-! ### the head's look at such a class -/
def hasDB (K : PySem.W.Frag) (C : Addr) : Bool := match PySem.W.clsIn K C with
  | some cd => cd.hasDict
  | none => false
/-- Base.__init__, read off the class Base -/
def vvB (K : PySem.W.Frag) (B iid : String) : Bool := match PySem.W.findCls K (.type B) (.type "type") "__init__" with
  | some (.val (.builtin n)) => n == iid
  | _ => false
theorem vvB_ok {K : PySem.W.Frag} {B iid : String} (h : vvB K B iid = true) : PySem.W.findCls K (.type B) (.type "type") "__init__" = some (.val (.builtin iid)) := by
  unfold vvB at h
  split at h
  · rename_i n e
    rw [e, eq_of_beq h]
  · cases h
/-- what isinstance asks of an own class -/
def isB (K : PySem.W.Frag) (C : Addr) : Bool := He.eqO (PySem.W.findIn K (.ref C) "__class__") (some (some (.builtin "object.__class__"))) && (He.eqO (PySem.W.specialIn K (.builtin "object.__class__") "__get__") (some (some (.builtin "getset_descriptor.__get__"))) &&
  (decide (PySem.W.takesIn K (.builtin "object.__class__") = some true) && decide (PySem.W.mroIn K C (.type "object") = some true)))
def gxB (K : PySem.W.Frag) (C : Addr) (bmB : List Value) (nid : String) : Bool := PySem.W.excOver K C bmB && (PySem.W.excInitIn K C bmB nid && (hasDB K C &&
  (He.eqO (PySem.W.findIn K (.ref C) "__setattr__") (some (some (.builtin "object.__setattr__"))) && (decide (PySem.W.subIn K (.ref C) (.type "BaseException") = some true) &&
  (decide (PySem.W.typeIn K (.ref C) = some (.type "type")) && PySem.W.keepIn K (.ref C))))))
theorem gxB_ok {K : PySem.W.Frag} {C : Addr} {bmB : List Value} {nid : String} (h : gxB K C bmB nid = true) : Gx K C bmB nid := by
  unfold gxB at h
  simp only [Bool.and_eq_true, decide_eq_true_eq] at h
  obtain ⟨h1, h2, h3, h4, h5, h6, h7⟩ := h
  refine ⟨h1, h2, ?_, He.eqO_ok h4, h5, h6, h7⟩
  unfold hasDB at h3
  split at h3
  · rename_i cd e
    exact ⟨cd, e, h3⟩
  · cases h3
end GX
set_option Elab.async false
set_option linter.all false
set_option maxRecDepth 100000
set_option maxHeartbeats 4000000
namespace K21
open PySem PySem.Spec PyProof.Rows L2
open C8 (Cal Mak Met pe_c pe_mk pe_mt pe_mt0)
/-- a def of the text -/
abbrev Dn (K : PySem.W.Frag) (d : He.DefD) (f : Addr) (fd : FuncData) : Prop := FunD K d.name d.qual d.params d.body d.scope (d.dvs K) (d.kws K) f fd
/-- what the module's names are -/
structure Bl (mg : Str → Option Value) : Prop where
  isi : mg "isinstance" = none
  int : mg "int" = none
  bool : mg "bool" = none
  str : mg "str" = none
  list : mg "list" = none
  range : mg "range" = none
  len : mg "len" = none
  all : mg "all" = none
  any : mg "any" = none
  max : mg "max" = none
  min : mg "min" = none
theorem same_new {H : Hp} {p : Addr} {o : HO} (h : H p = none) : Same H (upd H p o) := fun a u e => by
  rw [upd_ne (ne_of_none e h)]
  exact e
theorem dpInts {K : PySem.W.Frag} {H : Hp} : ∀ ns : List Int, DpAll K H (ns.map V.int) (ns.map PyData.int)
  | [] => .nil
  | n :: ns => .cons (.int n) (dpInts ns)
theorem cb_l {i j : Int} (h1 : -(2 ^ 64) < i) (h2 : i < 2 ^ 64) : CMul i j := .inl ⟨h1, h2⟩
theorem cb_r {i j : Int} (h1 : -(2 ^ 64) < j) (h2 : j < 2 ^ 64) : CMul i j := .inr ⟨h1, h2⟩
/-- the pen at p, good for c draws more -/
def penL (l : Addr) (n m : Int) : List V := [.ref l, .int n, .int m]
def Pen (H : Hp) (p : Addr) (c : Nat) : Prop := ∃ (l : Addr) (ns : List Int) (n m : Int), H p = some (.lst (penL l n m)) ∧ H l = some (.lst (ns.map V.int)) ∧ l ≠ p ∧ 0 ≤ n ∧ n + c ≤ 1000000000
theorem Pen.weak {H : Hp} {p : Addr} {c c' : Nat} (hc : c' ≤ c) (x : Pen H p c) : Pen H p c' := by
  obtain ⟨l, ns, n, m, h1, h2, h3, h4, h5⟩ := x
  exact ⟨l, ns, n, m, h1, h2, h3, h4, by omega⟩
theorem Pen.same {H H' : Hp} {p : Addr} {c : Nat} (s : Same H H') (x : Pen H p c) : Pen H' p c := by
  obtain ⟨l, ns, n, m, h1, h2, h3⟩ := x
  exact ⟨l, ns, n, m, s _ _ h1, s _ _ h2, h3⟩
/-- all but the pen is kept, its cells stay where they are -/
def Kp (p : Addr) (H H' : Hp) : Prop := (∀ b o, H b = some o → b ≠ p → H' b = some o) ∧ ∀ l n m, H p = some (.lst (penL l n m)) → ∃ n' m', H' p = some (.lst (penL l n' m'))
theorem Kp.refl (p : Addr) (H : Hp) : Kp p H H := ⟨fun _ _ e _ => e, fun _ n m e => ⟨n, m, e⟩⟩
theorem Kp.trans {p : Addr} {H H1 H2 : Hp} (a : Kp p H H1) (b : Kp p H1 H2) : Kp p H H2 := ⟨fun c o e n => b.1 c o (a.1 c o e n) n, fun l n m e => let ⟨n', m', e'⟩ := a.2 l n m e; b.2 l n' m' e'⟩
theorem Kp.same {p : Addr} {H H1 : Hp} (a : Same H H1) : Kp p H H1 := ⟨fun c o e _ => a c o e, fun _ n m e => ⟨n, m, a _ _ e⟩⟩
theorem pen_inj {l l' : Addr} {n m n' m' : Int} (h : HO.lst (penL l n m) = HO.lst (penL l' n' m')) : l = l' := by
  injection h with h
  injection h with h _
  injection h
theorem Kp.put {p l : Addr} {H : Hp} {n m : Int} (n' m' : Int) (e : H p = some (.lst (penL l n m))) : Kp p H (upd H p (.lst (penL l n' m'))) := by
  refine ⟨fun c o z ne => by rw [upd_ne ne]; exact z, fun l' n1 m1 z => ⟨n', m', ?_⟩⟩
  rw [upd_same, pen_inj (Option.some.inj (z.symm.trans e))]
theorem Kp.new {p st : Addr} {H1 H2 : Hp} {o : HO} (k : Kp p H1 H2) (f : H1 st = none) : Kp p H1 (upd H2 st o) :=
  ⟨fun b u e ne => by rw [upd_ne (ne_of_none e f)]; exact k.1 b u e ne, fun l n m e => by
    obtain ⟨n', m', e'⟩ := k.2 l n m e
    exact ⟨n', m', by rw [upd_ne (ne_of_none e f)]; exact e'⟩⟩
/-- D is neither the pen nor its cells -/
def Off (p D : Addr) (H : Hp) : Prop := ∃ l n m, H p = some (.lst (penL l n m)) ∧ l ≠ D ∧ p ≠ D
theorem Off.kp {p D : Addr} {H H' : Hp} (x : Off p D H) (k : Kp p H H') : Off p D H' := by
  obtain ⟨la, n, m, e, n1, n2⟩ := x
  obtain ⟨n', m', e'⟩ := k.2 _ _ _ e
  exact ⟨la, n', m', e', n1, n2⟩
theorem Off.of {p D : Addr} {H : Hp} {c : Nat} (x : Pen H p c) (f : H D = none) : Off p D H := by
  obtain ⟨la, ns, n, m, e1, e2, _⟩ := x
  exact ⟨la, n, m, e1, ne_of_none e2 f, ne_of_none e1 f⟩
theorem Off.ne {p D : Addr} {H : Hp} (x : Off p D H) : D ≠ p := by
  obtain ⟨_, _, _, _, _, n⟩ := x
  exact n.symm
theorem Off.put {p D D' : Addr} {H : Hp} {o : HO} (x : Off p D H) (n : p ≠ D') : Off p D (upd H D' o) := by
  obtain ⟨la', n', m', e', n1, n2⟩ := x
  exact ⟨la', n', m', by rw [upd_ne n]; exact e', n1, n2⟩
theorem Pen.put {p D : Addr} {H : Hp} {o : HO} {c : Nat} (x : Pen H p c) (y : Off p D H) : Pen (upd H D o) p c := by
  obtain ⟨la, ns, n, m, e1, e2, e3⟩ := x
  obtain ⟨la', n', m', e', n1, n2⟩ := y
  cases pen_inj (Option.some.inj (e1.symm.trans e'))
  exact ⟨la, ns, n, m, by rw [upd_ne n2]; exact e1, by rw [upd_ne n1]; exact e2, e3⟩
section
variable {P : Program} {w : World} {K : PySem.W.Frag} {mg : Str → Option Value} {base : Heap} {f C : Addr} {fd : FuncData}
def spPen (K : PySem.W.Frag) : Sp := fun vs H Q _ => ∃ (a : Addr) (ns : List Int), vs = [.ref a] ∧ SqL K H a (ns.map V.int) ∧ ns.length ≤ 63 ∧ ∀ p H', Same H H' → H p = none → Pen H' p 900000000 → Q (.ref p) H'
theorem ok_pen (F : Dn K d_l_pen f fd) (b : Bl mg) : FnOk P w K mg base CX0 1 f fd ["_law_script"] (spPen K) := by
  refine F.ok sc_l_pen (fun vs H Q E h => ?_) (fun cdv A outer s H vs Q E hr h => ?_)
  · obtain ⟨a, ns, rfl, _⟩ := h
    rfl
  · obtain ⟨a, ns, rfl, hS, hlen, hQ⟩ := h
    refine ⟨_, PSs.nox (pss_one (ps_ret (pe_lst (pa_cons (pe_callTy call_list_of rfl b.list boot_list (pa_cons (pe_slice sl_list (pv 0) po_none (po_some pe_int)) pa_nil)) (pa_cons pe_int (pa_cons pe_int pa_nil)))))), ?_⟩
    refine ⟨_, rfl, 63, rfl, a, _, rfl, hS, fun q hq => ⟨q, _, rfl, Or.inl (SqL.of upd_same), fun l hl => ?_⟩⟩
    refine ⟨by show 3 ≤ sizeLine; decide, fun p hp => ?_⟩
    have e : cutV (ns.map V.int) none (some 63) = (ns.take 63).map V.int := by
      unfold cutV
      simp [HT.sIx, List.map_take]
    have s1 := same_new (o := .lst (cutV (ns.map V.int) none (some 63))) hq
    have s2 := same_new (o := .lst (cutV (ns.map V.int) none (some 63))) hl
    have s3 := same_new (o := .lst (penL l 0 0)) hp
    refine hQ p _ ((s1.trans s2).trans s3) ((s1.trans s2).free hp) ⟨l, ns.take 63, 0, 0, upd_same, ?_, ?_, by decide, by decide⟩
    · rw [← e]
      exact s3 _ _ upd_same
    · exact ne_of_none upd_same hp
def spDraw : Sp := fun vs H Q _ => ∃ (p : Addr) (c : Nat) (k : Int), vs = [.ref p, .int k] ∧ Pen H p (c + 1) ∧ 0 < k ∧ k < 1073741824 ∧
  ∀ r H', 0 ≤ r → r < k → Pen H' p c → Kp p H H' → Q (.int r) H'
theorem ok_draw (F : Dn K d_l_draw f fd) (b : Bl mg) : FnOk P w K mg base CX0 1 f fd ["_law_pen_here", "_law_many"] spDraw := by
  refine F.ok sc_l_draw (fun vs H Q E h => ?_) (fun cdv A outer s H vs Q E hr h => ?_)
  · obtain ⟨p, c, k, rfl, _⟩ := h
    rfl
  · obtain ⟨p, c, k, rfl, ⟨l, ns, n, m, hp, hl, nlp, hn, hc⟩, hk0, hk1, hQ⟩ := h
    have hu64 : (A.deeper (envOfC d_l_draw.qual d_l_draw.scope s.heap.objs.size f cdv)).units + 64 < cLine := by have := hr.un; omega
    refine ⟨_, PSs.nox (pss_cons (ps_if (pt_cmpR op_gt (pe_ix ix_list (pv 0) pe_int (fun _ _ => rfl)) pe_int (nomark _))
         (pss_cons (ps_set (i := 2) sc_l_draw.nd rfl (.inl rfl) (pe_op op_mod (pe_ix ix_list (pv 0) pe_int (fun _ _ => rfl)) (pv 1)))
         (pss_cons (ps_asg (pe_op op_fdiv (pe_ix ix_list (pv 0) pe_int (fun _ _ => rfl)) (pv 1)) (pg_sub (pv 0) pe_int set_list))
         (pss_one (ps_ret (pv 2))))) pss_nil)
      (pss_cons (ps_set (i := 3) sc_l_draw.nd rfl (.inl rfl) (pe_ix ix_list (pv 0) pe_int (fun _ _ => rfl)))
      (pss_cons (ps_asg (pe_op op_add (pv 3) pe_int) (pg_sub (pv 0) pe_int set_list))
      (pss_cons (ps_set (i := 4) sc_l_draw.nd rfl (.inl rfl) pe_int)
      (C8.pss_cut (ps_if (pt_cmpR (op_neD hu64) (pe_ix ix_list (pv 0) pe_int (fun _ _ => rfl)) (pe_lst pa_nil) (nomark _))
        (pss_one (ps_set (i := 4) sc_l_draw.nd rfl (.inl rfl) (pe_ix ix_list (pe_ix ix_list (pv 0) pe_int (fun _ _ => rfl)) (pe_op op_mod (pv 3) (pe_callB call_len_seq rfl b.len boot_len (pa_cons (pe_ix ix_list (pv 0) pe_int (fun _ _ => rfl)) pa_nil))) (fun _ _ => rfl)))) pss_nil)
      (pss_cons (ps_if (PW.pt (pw_and (pt_cmpR op_ge (pv 4) (pe_op op_pow pe_int pe_int) (nomark _)) (pw_and1 (pt_cmpR op_lt (pv 3) (pe_callB call_len_seq rfl b.len boot_len (pa_cons (pe_ix ix_list (pv 0) pe_int (fun _ _ => rfl)) pa_nil)) (nomark _)))))
         (pss_cons (ps_asg (pe_op op_fdiv (pv 4) (pv 1)) (pg_sub (pv 0) pe_int set_list))
         (pss_one (ps_ret (pe_op op_mod (pv 4) (pv 1))))) pss_nil)
      (pss_cons (ps_set (i := 5) sc_l_draw.nd rfl (.inl rfl) (pe_op op_mod (pe_op op_add (pe_op op_add (pe_op op_add (pe_op op_mul (pe_op op_mod (pv 4) pe_int) pe_int) (pe_op op_mul (pe_op op_mul pe_int (pv 3)) (pv 3))) (pe_op op_mul pe_int (pv 3))) pe_int) pe_int))
      (pss_cons (ps_set (i := 5) sc_l_draw.nd rfl (.inl rfl) (pe_op op_mod (pe_op op_mul (pv 5) (pe_op op_add (pe_op op_mod (pv 5) pe_int) pe_int)) pe_int))
      (pss_one (ps_ret (pe_op op_mod (pe_op op_fdiv (pe_op op_mod (pe_op op_add (pe_op op_mul (pv 5) pe_int) (pv 3)) pe_int) pe_int) (pv 1)))))))))))), ?_⟩
    have cM : ∀ x y : Int, 0 < y → (0 ≤ x % y ∧ x % y < y) := fun x y hy => ⟨Int.emod_nonneg _ (by omega), Int.emod_lt_of_pos _ hy⟩
    have i2 : ∀ {n m : Int}, atI (penL l n m) 2 = some (.int m) := atI_nat (j := 2) rfl
    have i1 : ∀ {n m : Int}, atI (penL l n m) 1 = some (.int n) := atI_nat (j := 1) rfl
    have i0 : ∀ {n m : Int}, atI (penL l n m) 0 = some (.ref l) := atI_nat (j := 0) rfl
    refine ⟨_, rfl, p, _, _, _, rfl, rfl, SqL.of hp, i2, _, _, rfl, rfl, _, rfl, ?_⟩
    refine ite2 (fun h1 => ?_) (fun h1 => ?_)
    · refine ⟨_, rfl, p, _, _, _, rfl, rfl, SqL.of hp, i2, _, rfl, _, _, rfl, rfl, hk0, ?_⟩
      refine ⟨_, rfl, p, _, _, _, rfl, rfl, SqL.of hp, i2, _, rfl, _, _, rfl, rfl, ⟨hk0, hk1⟩, _, rfl, p, _, _, 2, rfl, rfl, hp, rfl, ?_⟩
      refine ⟨_, rfl, hQ _ _ (cM _ _ hk0).1 (cM _ _ hk0).2 ⟨l, ns, n, m / k, upd_same, ?_, nlp, hn, by omega⟩ (Kp.put n (m / k) hp)⟩
      rw [upd_ne nlp]
      exact hl
    · refine ⟨_, rfl, p, _, _, _, rfl, rfl, SqL.of hp, i1, ?_⟩
      refine ⟨_, rfl, _, _, rfl, rfl, _, rfl, p, _, _, 1, rfl, rfl, hp, rfl, ?_⟩
      have hp1 : (upd H p (.lst (penL l (n + 1) m))) p = some (.lst (penL l (n + 1) m)) := upd_same
      have hl1 : (upd H p (.lst (penL l (n + 1) m))) l = some (.lst (ns.map V.int)) := by rw [upd_ne nlp]; exact hl
      have kp1 : Kp p H (upd H p (.lst (penL l (n + 1) m))) := Kp.put _ _ hp
      refine ⟨fun σ' H' => ∃ (cell : Int), σ' = [some (.ref p), some (.int k), none, some (.int n), some (.int cell), none] ∧ H' p = some (.lst (penL l (n + 1) m)) ∧ H' l = some (.lst (ns.map V.int)) ∧ Kp p H H', ?_, ?_⟩
      · refine ⟨_, rfl, p, _, _, _, rfl, rfl, SqL.of hp1, i0, (by show 0 ≤ sizeLine; decide), fun e he => ?_⟩
        have s2 := same_new (o := .lst []) he
        have hp2 := s2 _ _ hp1
        have hl2 := s2 _ _ hl1
        have kp2 := kp1.trans (Kp.same s2)
        refine ⟨.list (ns.map .int), .list [], Dp.lst (SqL.of hl2) (dpInts ns), Dp.lst (SqL.of upd_same) .nil, PySem.W.ke_shaped_ints ns, by decide, _, rfl, ?_⟩
        cases ns with
        | nil => exact iteF ⟨5, rfl, hp2, hl2, kp2⟩
        | cons z zs =>
          refine iteT ?_
          have hlen : (0 : Int) < (((z :: zs).map V.int).length : Int) := by simp
          refine ⟨_, rfl, p, _, _, _, rfl, rfl, SqL.of hp2, i0, _, rfl, _, rfl, p, _, _, _, rfl, rfl, SqL.of hp2, i0, l, _, rfl, Or.inl (SqL.of hl2), _, _, rfl, rfl, hlen, ?_⟩
          obtain ⟨q, hq⟩ := Int.eq_ofNat_of_zero_le (cM n _ hlen).1
          have hq2 := (cM n _ hlen).2
          rw [hq] at hq2
          have hq3 : q < (z :: zs).length := by rw [List.length_map] at hq2; omega
          refine ⟨l, _, _, .int ((z :: zs)[q]), rfl, rfl, SqL.of hl2, (by rw [hq]; exact atI_nat (by rw [List.getElem?_map, List.getElem?_eq_getElem hq3]; rfl)), ?_⟩
          exact ⟨_, rfl, hp2, hl2, kp2⟩
      · rintro σ' H' ⟨cell, rfl, hp2, hl2, kp2⟩
        have stay0 : Pen H' p c := ⟨l, ns, n + 1, m, hp2, hl2, nlp, by omega, by omega⟩
        have last : ∀ D : Ends, D.rt = Q → tSeq (tAsg (tOp (rI (fun _ j => 0 < j) fun i j => .int (i % j)) (tOp (rI0 fun i j => .int (i + j)) (tOp (rI0 fun i j => .int (i + j)) (tOp (rI0 fun i j => .int (i + j))
            (tOp (rI CMul fun i j => .int (i * j)) (tOp (rI (fun _ j => 0 < j) fun i j => .int (i % j)) (tVar 4) (tC (.int 2147483629))) (tC (.int 40503))) (tOp (rI CMul fun i j => .int (i * j)) (tOp (rI CMul fun i j => .int (i * j)) (tC (.int 7919)) (tVar 3)) (tVar 3)))
            (tOp (rI CMul fun i j => .int (i * j)) (tC (.int 104729)) (tVar 3))) (tC (.int 29))) (tC (.int 2147483647))) (gName 5))
          (tSeq (tAsg (tOp (rI (fun _ j => 0 < j) fun i j => .int (i % j)) (tOp (rI CMul fun i j => .int (i * j)) (tVar 5) (tOp (rI0 fun i j => .int (i + j)) (tOp (rI (fun _ j => 0 < j) fun i j => .int (i % j)) (tVar 5) (tC (.int 65003))) (tC (.int 3)))) (tC (.int 2147483587))) (gName 5))
          (tRet (tOp (rI (fun _ j => 0 < j) fun i j => .int (i % j)) (tOp (rI CDiv fun i j => .int (i / j)) (tOp (rI (fun _ j => 0 < j) fun i j => .int (i % j)) (tOp (rI0 fun i j => .int (i + j)) (tOp (rI CMul fun i j => .int (i * j)) (tVar 5) (tC (.int 69621))) (tVar 3)) (tC (.int 2147483563))) (tC (.int 16))) (tVar 1)))) D [some (.ref p), some (.int k), none, some (.int n), some (.int cell), none] H' := by
          intro D hD
          refine ⟨_, rfl, _, _, rfl, rfl, (by decide : (0 : Int) < 2147483629), _, _, rfl, rfl, cb_r (by decide) (by decide), _, rfl, _, _, rfl, rfl, cb_l (by decide) (by decide), _, rfl, _, _, rfl, rfl, cb_r (by omega) (by omega), _, _, rfl, rfl, ?_⟩
          refine ⟨_, rfl, _, _, rfl, rfl, cb_l (by decide) (by decide), _, _, rfl, rfl, _, _, rfl, rfl, _, _, rfl, rfl, (by decide : (0 : Int) < 2147483647), ?_⟩
          refine ⟨_, rfl, _, rfl, _, _, rfl, rfl, (by decide : (0 : Int) < 65003), _, _, rfl, rfl, _, _, rfl, rfl, ?_, _, _, rfl, rfl, (by decide : (0 : Int) < 2147483587), ?_⟩
          · refine cb_l ?_ ?_
            · exact Int.lt_of_lt_of_le (by decide) (cM _ 2147483647 (by decide)).1
            · exact Int.lt_trans (cM _ 2147483647 (by decide)).2 (by decide)
          refine ⟨_, rfl, _, _, rfl, rfl, cb_r (by decide) (by decide), _, rfl, _, _, rfl, rfl, _, _, rfl, rfl, (by decide : (0 : Int) < 2147483563), _, _, rfl, rfl, ⟨by decide, by decide⟩, _, rfl, _, _, rfl, rfl, hk0, ?_⟩
          rw [hD]
          exact hQ _ _ (cM _ _ hk0).1 (cM _ _ hk0).2 stay0 kp2
        refine ⟨_, rfl, _, _, rfl, rfl, ⟨by decide, by decide, by decide⟩, _, _, rfl, rfl, _, rfl, ?_⟩
        refine ite2 (fun g1 => ?_) (fun g1 => iteF (last _ rfl))
        refine ⟨_, rfl, _, rfl, p, _, _, _, rfl, rfl, SqL.of hp2, i0, l, _, rfl, Or.inl (SqL.of hl2), _, _, rfl, rfl, _, rfl, ?_⟩
        refine ite2 (fun g2 => ?_) (fun g2 => last _ rfl)
        refine ⟨_, rfl, _, rfl, _, _, rfl, rfl, ⟨hk0, hk1⟩, _, rfl, p, _, _, 2, rfl, rfl, hp2, rfl, ?_⟩
        refine ⟨_, rfl, _, rfl, _, _, rfl, rfl, hk0, ?_⟩
        refine hQ _ _ (cM _ _ hk0).1 (cM _ _ hk0).2 ⟨l, ns, n + 1, cell / k, upd_same, ?_, nlp, by omega, by omega⟩ (kp2.trans (Kp.put (n + 1) (cell / k) hp2))
        rw [upd_ne nlp]
        exact hl2
end
end K21
set_option Elab.async false
set_option linter.all false
set_option maxRecDepth 100000
set_option maxHeartbeats 4000000
/-! NM: the names that a law draws: words by a base, a place, a spot and a way. -/
namespace NM
open PySem PySem.Spec
def ok (l : List Nat) : Prop := 1 ≤ l.length ∧ l.length ≤ 8 ∧ ∀ c ∈ l, 97 ≤ c ∧ c ≤ 122
def words : List (List Nat) := [[108, 97, 116, 101], [105, 110], [111, 117, 116], [114, 105, 100, 101], [104, 97, 110, 100], [108, 97, 99, 107], [121, 101, 115], [110, 111], [110, 97, 109, 101, 115], [103, 111, 110, 101], [116, 101, 120, 116], [112, 108, 97, 110], [117, 110, 100, 111], [117, 115, 117, 97, 108], [98, 97, 99, 107], [108, 101, 97, 118, 101]]
def lets : List Nat := (List.range 26).map (97 + ·)
def w0 (bs : List Nat) (at_ spot k : Nat) : List Nat := bs.take at_ ++ [97 + (spot + 5 * k) % 26] ++ bs.drop (at_ + 1)
def w1 (bs : List Nat) (at_ spot k : Nat) : List Nat := (w0 bs at_ spot k).take (bs.length - k % (bs.length - at_))
def w2 (spot k : Nat) : List Nat := (List.replicate 8 (97 + (spot + k / 8) % 26)).take (k % 8 + 1)
def w3 (spot k : Nat) : List Nat := words.getD ((spot + k) % 16) []
def word (bs : List Nat) (at_ spot way k : Nat) : List Nat := if way = 1 then w1 bs at_ spot k else if way = 2 then w2 spot k else if way = 3 then w3 spot k else w0 bs at_ spot k
theorem words_ok : ∀ i, i < 16 → ok (words.getD i []) := by
  have : ∀ i : Fin 16, 1 ≤ (words.getD i.1 []).length ∧ (words.getD i.1 []).length ≤ 8 ∧ (words.getD i.1 []).all (fun c => decide (97 ≤ c ∧ c ≤ 122)) = true := by decide +kernel
  intro i hi
  obtain ⟨h1, h2, h3⟩ := this ⟨i, hi⟩
  refine ⟨h1, h2, fun c hc => ?_⟩
  have := List.all_eq_true.mp h3 c hc
  exact of_decide_eq_true this
theorem words_inj : ∀ i j, i < 16 → j < 16 → words.getD i [] = words.getD j [] → i = j := by
  have : ∀ i j : Fin 16, words.getD i.1 [] = words.getD j.1 [] → i = j := by decide +kernel
  intro i j hi hj e
  exact congrArg Fin.val (this ⟨i, hi⟩ ⟨j, hj⟩ e)
section
variable {bs : List Nat} {at_ spot k : Nat}
theorem w0_len (h : at_ < bs.length) : (w0 bs at_ spot k).length = bs.length := by
  unfold w0
  simp only [List.length_append, List.length_take, List.length_drop, List.length_cons, List.length_nil]
  omega
theorem w0_at (h : at_ < bs.length) : (w0 bs at_ spot k)[at_]? = some (97 + (spot + 5 * k) % 26) := by
  unfold w0
  rw [List.append_assoc, List.getElem?_append_right (by rw [List.length_take]; omega), List.length_take, Nat.min_eq_left (by omega), Nat.sub_self]
  rfl
theorem w0_mem (hb : ∀ c ∈ bs, 97 ≤ c ∧ c ≤ 122) : ∀ c ∈ w0 bs at_ spot k, 97 ≤ c ∧ c ≤ 122 := by
  intro c hc
  unfold w0 at hc
  rcases List.mem_append.mp hc with hc | hc
  · rcases List.mem_append.mp hc with hc | hc
    · exact hb c (List.mem_of_mem_take hc)
    · rw [List.mem_singleton] at hc
      omega
  · exact hb c (List.mem_of_mem_drop hc)
theorem w1_len (h : at_ < bs.length) : at_ + 1 ≤ (w1 bs at_ spot k).length ∧ (w1 bs at_ spot k).length ≤ bs.length := by
  unfold w1
  rw [List.length_take, w0_len h]
  have := Nat.mod_lt k (show 0 < bs.length - at_ by omega)
  omega
theorem w1_at (h : at_ < bs.length) : (w1 bs at_ spot k)[at_]? = some (97 + (spot + 5 * k) % 26) := by
  have h1 := (w1_len (spot := spot) (k := k) h).1
  unfold w1 at h1 ⊢
  rw [List.length_take, w0_len h] at h1
  rw [List.getElem?_take_of_lt (by omega)]
  exact w0_at h
theorem spot_inj {i j : Nat} (hi : i < 16) (hj : j < 16) (e : 97 + (spot + 5 * i) % 26 = 97 + (spot + 5 * j) % 26) : i = j := by omega
theorem word_ok (hb0 : 1 ≤ bs.length) (hb8 : bs.length ≤ 8) (hb : ∀ c ∈ bs, 97 ≤ c ∧ c ≤ 122) (h : at_ < bs.length) (way : Nat) : ok (word bs at_ spot way k) := by
  unfold word
  split
  · have := w1_len (spot := spot) (k := k) h
    exact ⟨by omega, by omega, fun c hc => w0_mem hb c (List.mem_of_mem_take hc)⟩
  split
  · unfold w2
    refine ⟨by rw [List.length_take, List.length_replicate]; omega, by rw [List.length_take, List.length_replicate]; omega, fun c hc => ?_⟩
    have := List.eq_of_mem_replicate (List.mem_of_mem_take hc)
    omega
  split
  · exact words_ok _ (Nat.mod_lt _ (by decide))
  · exact ⟨by rw [w0_len h]; exact hb0, by rw [w0_len h]; exact hb8, w0_mem hb⟩
theorem word_inj (h : at_ < bs.length) (way : Nat) {i j : Nat} (hi : i < 16) (hj : j < 16) (e : word bs at_ spot way i = word bs at_ spot way j) : i = j := by
  unfold word at e
  split at e
  · have h1 := w1_at (spot := spot) (k := i) h
    rw [e, w1_at h] at h1
    exact (spot_inj hj hi (Option.some.inj h1)).symm
  split at e
  · unfold w2 at e
    have hl := congrArg List.length e
    rw [List.length_take, List.length_take, List.length_replicate, List.length_replicate] at hl
    have h0 : ((List.replicate 8 (97 + (spot + i / 8) % 26)).take (i % 8 + 1))[0]? = ((List.replicate 8 (97 + (spot + j / 8) % 26)).take (j % 8 + 1))[0]? := by rw [e]
    rw [List.getElem?_take_of_lt (by omega), List.getElem?_take_of_lt (by omega), List.getElem?_replicate, List.getElem?_replicate, if_pos (by decide), if_pos (by decide)] at h0
    have := Option.some.inj h0
    omega
  split at e
  · have := words_inj _ _ (Nat.mod_lt _ (by decide)) (Nat.mod_lt _ (by decide)) e
    omega
  · have h1 := w0_at (spot := spot) (k := i) h
    rw [e, w0_at h] at h1
    exact (spot_inj hj hi (Option.some.inj h1)).symm
/-- as many as are asked: unlike ones -/
theorem all_unlike (h : at_ < bs.length) (way n : Nat) (hn : n ≤ 16) : ((List.range n).map (word bs at_ spot way)).Pairwise (· ≠ ·) := by
  rw [List.pairwise_map]
  refine (List.pairwise_lt_range (n := n)).imp_of_mem fun {a b} ha hb hlt e => ?_
  have := word_inj h way (by have := List.mem_range.mp ha; omega) (by have := List.mem_range.mp hb; omega) e
  omega
end
end NM
set_option Elab.async false
set_option linter.all false
set_option maxRecDepth 100000
set_option maxHeartbeats 4000000
namespace K21
open PySem PySem.Spec PyProof.Rows L2
open C8 (Cal Mak Met pe_c pe_mk pe_mt pe_mt0)
open SX (S)
theorem lets_S : (Str.ofString "abcdefghijklmnopqrstuvwxyz").cps.toList = NM.lets := by decide +kernel
theorem words_S : Txt.split (Str.ofString "late in out ride hand lack yes no names gone text plan undo usual back leave") (Str.ofString " ") = NM.words.map S := by decide +kernel
theorem at_lets {x : Int} {j : Nat} (e : x = (j : Int)) (hj : j < 26) : atI (Str.ofString "abcdefghijklmnopqrstuvwxyz").cps.toList x = some (97 + j) := by
  rw [e, lets_S]
  refine atI_nat ?_
  unfold NM.lets
  rw [List.getElem?_map, List.getElem?_range hj]
  rfl
theorem cut_t {l : List Nat} {x : Int} {j : Nat} (e : x = (j : Int)) (h : j ≤ l.length) : cutS (S l) none (some x) = S (l.take j) := by
  rw [e]
  unfold cutS
  rw [HT.sIx_nat, HT.sIx_none, SX.S_len, Nat.min_eq_left h]
  simp [S]
theorem cut_d {l : List Nat} {x : Int} {j : Nat} (e : x = (j : Int)) (h : j ≤ l.length) : cutS (S l) (some x) none = S (l.drop j) := by
  rw [e]
  unfold cutS
  rw [HT.sIx_nat, HT.sIx_none, SX.S_len, Nat.min_eq_left h]
  simp [S, List.take_of_length_le]
theorem ones : ∀ bs : List Nat, ((bs.map fun c => S [c]).map (·.length)).sum = bs.length
  | [] => rfl
  | b :: bs => by
    rw [List.map_cons, List.map_cons, List.sum_cons, ones bs, List.length_cons, SX.S_len]
    simp
    omega
theorem joined : ∀ bs : List Nat, TL.joinL [] (bs.map fun c => [c]) = bs
  | [] => rfl
  | [b] => rfl
  | b :: d :: bs => by
    have := joined (d :: bs)
    simp only [List.map_cons, TL.joinL] at this ⊢
    simp [this]
/-- a sign eight times -/
theorem op_eight {X : Cx} : OpR X (binaryOp .Mult) (fun x y H Q => ∃ c : Nat, x = .str ⟨#[c]⟩ ∧ y = .int 8 ∧ Q (.str (S (List.replicate 8 c))) H) := by
  intro pins s σ H x y v u Q I rx ry h
  obtain ⟨c, rfl, rfl, q⟩ := h
  obtain ⟨t, rfl⟩ := rx
  obtain ⟨t', rfl⟩ := ry
  refine PySem.P.mul_str (by decide) (fun _ _ => by show ¬ ((1 : Int) > (2 ^ 63 - 1) / 8); decide) (fun _ _ => by show Builtin.Str.tooLong 8 = false; decide) ?_
  rw [if_neg (by decide), if_neg (by show ¬ ((8 : Int) == 1 || (1 : Nat) == 0) = true; decide)]
  exact ⟨by show 8 ≤ _; decide, ⟨.str (S (List.replicate 8 c)), H, I.tok _, ⟨_, rfl⟩, q⟩⟩
section
variable {P : Program} {w : World} {K : PySem.W.Frag} {mg : Str → Option Value} {base : Heap} {f C : Addr} {fd : FuncData}
abbrev CalD (P : Program) (w : World) (K : PySem.W.Frag) (mg : Str → Option Value) (base : Heap) : Prop := Cal P w K mg base 1 "_law_draw" spDraw []
def spNames : Sp := fun vs H Q _ => ∃ (p : Addr) (c n : Nat), vs = [.ref p, .int n] ∧ Pen H p (c + 40) ∧ n ≤ 16 ∧
  ∀ (o : Addr) (zs : List (List Nat)) (H' : Hp), Pen H' p c → Kp p H H' → H o = none → Off p o H' → H' o = some (.lst (zs.map fun l => V.str (S l))) → zs.length = n → (∀ z ∈ zs, NM.ok z) → zs.Pairwise (· ≠ ·) → Q (.ref o) H'
theorem ok_names (F : Dn K d_l_names f fd) (bl : Bl mg) (cD : CalD P w K mg base) : FnOk P w K mg base CX0 2 f fd ["_law_pen_here", "_law_many"] spNames := by
  refine F.ok sc_l_names (fun vs H Q E h => ?_) (fun cdv A outer s H vs Q E hr h => ?_)
  · obtain ⟨p, c, n, rfl, _⟩ := h
    rfl
  · obtain ⟨p, c, n, rfl, pen, hn, hQ⟩ := h
    refine ⟨_, PSs.nox (pss_cons (ps_set (i := 2) sc_l_names.nd rfl (.inr rfl) pe_str)
      (pss_cons (ps_set (i := 3) sc_l_names.nd rfl (.inl rfl) (pe_split pe_str pe_str))
      (pss_cons (ps_set (i := 4) sc_l_names.nd rfl (.inl rfl) (pe_op op_add pe_int (pe_c cD hr (by decide) rfl (pa_cons (pv 0) (pa_cons pe_int pa_nil)))))
      (C8.pss_cut (ps_set (i := 6) sc_l_names.nd rfl (.inl rfl) (pe_join pe_str (pe_lc (own := [("_law_k", 5)]) (g := gName 5) (tt := tYes) rfl sc_l_names.nd (pi_range1 rfl bl.range (pa_cons (pv 4) pa_nil)) (blkOk_by (N := N_l_names) (sc := defScope s_l_names) (by decide +kernel))
          (fun _ _ _ _ _ => pg_name (i := 5) sc_l_names.nd rfl (Or.inl rfl)) (fun _ _ _ _ _ => pts_nil) (fun _ _ _ _ _ => pe_ix ix_str (pv 2) (pe_c cD hr (by decide) rfl (pa_cons (pv 0) (pa_cons pe_int pa_nil))) (fun _ _ => rfl)))))
      (pss_cons (ps_par3 (i := 7) (j := 8) (l := 9) rfl sc_l_names.nd rfl rfl rfl (by decide) (by decide) (by decide) rfl rfl rfl (pa_cons (pe_c cD hr (by decide) rfl (pa_cons (pv 0) (pa_cons (pv 4) pa_nil))) (pa_cons (pe_c cD hr (by decide) rfl (pa_cons (pv 0) (pa_cons pe_int pa_nil)))
          (pa_cons (pe_op op_mod (pe_c cD hr (by decide) rfl (pa_cons (pv 0) (pa_cons pe_int pa_nil))) pe_int) pa_nil))) rfl)
      (pss_cons (ps_set (i := 10) sc_l_names.nd rfl (.inl rfl) (pe_lst pa_nil))
      (pss_cons (ps_for PassesOwn.never rfl (pi_range1 rfl bl.range (pa_cons (pv 1) pa_nil)) (pg_name (i := 5) sc_l_names.nd rfl (.inl rfl))
        (pss_cons (ps_set (i := 11) sc_l_names.nd rfl (.inl rfl) (pe_op op_add_str (pe_op op_add_str (pe_slice sl_str (pv 6) po_none (po_some (pv 7))) (pe_ix ix_str (pv 2) (pe_op op_mod (pe_op op_add (pv 8) (pe_op op_mul pe_int (pv 5))) pe_int) (fun _ _ => rfl)))
            (pe_slice sl_str (pv 6) (po_some (pe_op op_add (pv 7) pe_int)) po_none)))
        (C8.pss_cut (ps_if (pt_cmpR op_eq (pv 9) pe_int (nomark _)) (pss_one (ps_set (i := 11) sc_l_names.nd rfl (.inl rfl) (pe_slice sl_str (pv 11) po_none (po_some (pe_op op_sub (pv 4) (pe_op op_mod (pv 5) (pe_op op_sub (pv 4) (pv 7)))))))) pss_nil)
        (C8.pss_cut (ps_if (pt_cmpR op_eq (pv 9) pe_int (nomark _)) (pss_one (ps_set (i := 11) sc_l_names.nd rfl (.inl rfl) (pe_slice sl_str (pe_op op_eight (pe_ix ix_str (pv 2) (pe_op op_mod (pe_op op_add (pv 8) (pe_op op_fdiv (pv 5) pe_int)) pe_int) (fun _ _ => rfl)) pe_int) po_none
            (po_some (pe_op op_add (pe_op op_mod (pv 5) pe_int) pe_int))))) pss_nil)
        (C8.pss_cut (ps_if (pt_cmpR op_eq (pv 9) pe_int (nomark _)) (pss_one (ps_set (i := 11) sc_l_names.nd rfl (.inl rfl) (pe_ix ix_list (pv 3) (pe_op op_mod (pe_op op_add (pv 8) (pv 5)) pe_int) (fun _ _ => rfl)))) pss_nil)
        (pss_one (ps_expr (pe_bm PySem.F.plainAttrs_list PySem.F.slot_list_insert PySem.F.type_list_insert mt_insert (pv 10) (pa_cons (pe_c cD hr (by decide) rfl (pa_cons (pv 0) (pa_cons (pe_op op_add (pe_callB call_len_seq rfl bl.len boot_len (pa_cons (pv 10) pa_nil)) pe_int) pa_nil))) (pa_cons (pv 11) pa_nil))))))))))
      (pss_one (ps_ret (pv 10)))))))))), ?_⟩
    -- the words
    refine ⟨⟨_, rfl⟩, _, _, rfl, rfl, by decide +kernel, by decide +kernel, fun wl fwl => ?_⟩
    rw [words_S]
    have s1 := same_new (o := .lst ((NM.words.map S).map V.str)) fwl
    have hwl := upd_same (H := H) (a := wl) (o := .lst ((NM.words.map S).map V.str))
    have pen1 := pen.same s1
    have off1 : Off p wl (upd H wl (.lst ((NM.words.map S).map V.str))) := (Off.of pen fwl).kp (Kp.same s1)
    generalize upd H wl (.lst ((NM.words.map S).map V.str)) = H1 at s1 hwl pen1 off1 ⊢
    -- the size
    refine ⟨_, rfl, p, c + 39, _, rfl, pen1, by decide, by decide, fun z0 H2 a2 b2 pen2 k2 => ?_⟩
    refine ⟨_, _, rfl, rfl, ?_⟩
    obtain ⟨sz, hsz⟩ := Int.eq_ofNat_of_zero_le (show 0 ≤ 1 + z0 by omega)
    have sz1 : 1 ≤ sz := by omega
    have sz8 : sz ≤ 8 := by omega
    have hwl2 := k2.1 _ _ hwl off1.ne
    have off2 := off1.kp k2
    -- the base
    refine ⟨fun σ' H' => ∃ bs : List Nat, σ' = [some (.ref p), some (.int n), some (.str (Str.ofString "abcdefghijklmnopqrstuvwxyz")), some (.ref wl), some (.int (sz : Int)), none, some (.str (S bs)), none, none, none, none, none] ∧ bs.length = sz ∧ (∀ c ∈ bs, 97 ≤ c ∧ c ≤ 122) ∧
      Pen H' p (c + 30) ∧ Kp p H H' ∧ H' wl = some (.lst ((NM.words.map S).map V.str)) ∧ Off p wl H', ?_, ?_⟩
    · refine ⟨⟨_, rfl⟩, _, rfl, _, rfl, by omega, by omega, ?_⟩
      rw [hsz, Int.toNat_natCast]
      intro D hD
      have offD := Off.of pen2 hD
      have sD := same_new (o := .lst []) hD
      refine lc_range (n := sz) (fun i H3 => ∃ bs : List Nat, bs.length = i ∧ (∀ c ∈ bs, 97 ≤ c ∧ c ≤ 122) ∧ H3 D = some (.lst (bs.map fun c => V.str (S [c]))) ∧ Pen H3 p (c + 39 - i) ∧ Kp p H2 H3 ∧ Off p D H3) ?_ ?_ ?_
      · exact ⟨[], rfl, by simp, upd_same, pen2.same sD, Kp.same sD, offD.kp (Kp.same sD)⟩
      · rintro i H3 hi ⟨bs, hbl, hbc, hd, pen3, k3, off3⟩
        refine ⟨rfl, ?_⟩
        refine ⟨_, rfl, _, rfl, p, c + 39 - (i + 1), _, rfl, pen3.weak (by omega), by decide, by decide, fun r H4 r0 r1 pen4 k4 => ?_⟩
        obtain ⟨rn, rfl⟩ := Int.eq_ofNat_of_zero_le r0
        have hd4 := k4.1 _ _ hd off3.ne
        have off4 := off3.kp k4
        refine ⟨_, _, 97 + rn, rfl, rfl, by decide +kernel, at_lets rfl (by omega), _, hd4, ?_, bs ++ [97 + rn], by simp [hbl], ?_, ?_, pen4.put off4, (k3.trans k4).new hD, ?_⟩
        · rw [List.length_map, hbl]
          exact Nat.lt_of_lt_of_le (by omega : i < 64) (by decide)
        · intro c' hc'
          rcases List.mem_append.mp hc' with hc' | hc'
          · exact hbc c' hc'
          · rw [List.mem_singleton] at hc'
            omega
        · rw [upd_same]
          simp [S]
        · exact off4.put (by obtain ⟨_, _, _, _, _, z⟩ := off4; exact z)
      · rintro H3 ⟨bs, hbl, hbc, hd, pen3, k3, off3⟩
        have ey : (bs.map fun c => V.str (S [c])) = (bs.map fun c => S [c]).map V.str := by rw [List.map_map]; rfl
        refine ⟨_, D, bs.map fun c => S [c], rfl, rfl, .inl (by rw [← ey]; exact SqL.of hd), ?_, bs, ?_, hbl, hbc, pen3.weak (by omega), ((Kp.same s1).trans k2).trans k3, k3.1 _ _ hwl2 off2.ne, off2.kp k3⟩
        · have e1 : ((bs.map fun c => S [c]).map (·.length)).sum = bs.length := by
            exact ones bs
          rw [e1, List.length_map]
          have e2 : (Str.ofString "").length = 0 := by decide +kernel
          rw [e2, hbl]
          omega
        · have e3 : Txt.join (Str.ofString "") (bs.map fun c => S [c]) = S bs := by
            have e4 : Str.ofString "" = S [] := by decide +kernel
            have e5 : (bs.map fun c => S [c]) = (bs.map fun c => [c]).map S := by rw [List.map_map]; rfl
            rw [e4, e5, SX.join_S]
            rw [joined]
          rw [e3]
          rw [← hsz]
          rfl
    clear pen pen1 pen2 k2 hwl hwl2 off1 off2 s1
    rintro σ' H3 ⟨bs, rfl, hbl, hbc, pen3, k3, hwl3, offw3⟩
    refine ⟨_, rfl, _, rfl, p, c + 29, _, rfl, pen3, by omega, by omega, fun at_ H4 a4 b4 pen4 k4 => ?_⟩
    refine ⟨_, rfl, p, c + 28, _, rfl, pen4, by decide, by decide, fun spot H5 a5 b5 pen5 k5 => ?_⟩
    refine ⟨_, rfl, p, c + 27, _, rfl, pen5, by decide, by decide, fun way0 H6 a6 b6 pen6 k6 => ?_⟩
    refine ⟨_, _, rfl, rfl, (by decide : (0 : Int) < 4), _, _, _, rfl, ?_⟩
    obtain ⟨at_, rfl⟩ := Int.eq_ofNat_of_zero_le a4
    obtain ⟨spot, rfl⟩ := Int.eq_ofNat_of_zero_le a5
    obtain ⟨way, hway⟩ := Int.eq_ofNat_of_zero_le (show 0 ≤ way0 % 4 by omega)
    have hat : at_ < bs.length := by omega
    have k36 := (k4.trans k5).trans k6
    have k06 := k3.trans k36
    have hwl6 := k36.1 _ _ hwl3 offw3.ne
    have offw6 := offw3.kp k36
    clear k4 k5 k6 pen4 pen5
    refine ⟨by show 0 ≤ sizeLine; decide, fun o fo => ?_⟩
    have so := same_new (o := .lst []) fo
    refine ⟨_, rfl, _, rfl, by omega, by omega, ?_⟩
    rw [Int.toNat_natCast]
    refine for_range (n := n) (fun i σ H7 => ∃ (zs : List (List Nat)) (v5 v11 : Option V), σ = [some (.ref p), some (.int n), some (.str (Str.ofString "abcdefghijklmnopqrstuvwxyz")), some (.ref wl), some (.int (sz : Int)), v5, some (.str (S bs)), some (.int (at_ : Int)), some (.int (spot : Int)), some (.int (way0 % 4)), some (.ref o), v11] ∧
        H7 o = some (.lst (zs.map fun l => V.str (S l))) ∧ zs.Perm ((List.range i).map (NM.word bs at_ spot way)) ∧ Pen H7 p (c + 27 - i) ∧ Kp p H6 H7 ∧ Off p o H7)
      ⟨[], none, none, rfl, upd_same, List.Perm.refl _, pen6.same so, Kp.same so, (Off.of pen6 fo).kp (Kp.same so)⟩ ?_ ?_
    · rintro i σ H7 hi ⟨zs, v5, v11, rfl, ho7, perm7, pen7, k7, off7⟩
      have hwl7 := k7.1 _ _ hwl6 offw6.ne
      have zl : zs.length = i := by rw [perm7.length_eq, List.length_map, List.length_range]
      have len0 : (S bs).length ≤ sizeLine := by rw [SX.S_len]; exact Nat.le_trans (by omega : bs.length ≤ 8) (by decide)
      have lets_len : (Str.ofString "abcdefghijklmnopqrstuvwxyz").length ≤ sizeLine := by decide +kernel
      have e5 : ((spot : Int) + 5 * (0 + (i : Int))) % 26 = (((spot + 5 * i) % 26 : Nat) : Int) := by omega
      -- the word
      refine ⟨_, rfl, _, rfl, _, rfl, _, rfl, len0, ?_⟩
      rw [cut_t rfl (by omega)]
      refine ⟨_, rfl, _, rfl, _, rfl, _, _, rfl, rfl, cb_l (by decide) (by decide), _, _, rfl, rfl, _, _, rfl, rfl, (by decide : (0 : Int) < 26), _, _, _, rfl, rfl, lets_len, at_lets e5 (Nat.mod_lt _ (by decide)), _, _, rfl, rfl, ?_, ?_⟩
      · rw [SX.S_len, List.length_take]
        exact Nat.le_trans (by show min at_ bs.length + 1 ≤ 64; omega) (by decide)
      refine ⟨_, rfl, _, rfl, _, _, rfl, rfl, _, rfl, _, rfl, len0, ?_⟩
      rw [cut_d (j := at_ + 1) (by omega) (by omega)]
      have ec : S (bs.take at_) ++ (⟨#[97 + (spot + 5 * i) % 26]⟩ : Str) = S (bs.take at_ ++ [97 + (spot + 5 * i) % 26]) := SX.S_cat _ _
      rw [ec]
      refine ⟨_, _, rfl, rfl, ?_, ?_⟩
      · rw [SX.S_len, SX.S_len, List.length_append, List.length_take, List.length_drop]
        exact Nat.le_trans (by show min at_ bs.length + 1 + (bs.length - (at_ + 1)) ≤ 64; omega) (by decide)
      rw [SX.S_cat]
      have ew0 : bs.take at_ ++ [97 + (spot + 5 * i) % 26] ++ bs.drop (at_ + 1) = NM.w0 bs at_ spot i := rfl
      rw [ew0]
      -- cut short
      refine ⟨fun σ' H' => H' = H7 ∧ σ' = [some (.ref p), some (.int n), some (.str (Str.ofString "abcdefghijklmnopqrstuvwxyz")), some (.ref wl), some (.int (sz : Int)), some (.int (0 + i)), some (.str (S bs)), some (.int (at_ : Int)), some (.int (spot : Int)), some (.int (way0 % 4)), some (.ref o), some (.str (S (if way = 1 then NM.w1 bs at_ spot i else NM.w0 bs at_ spot i)))], ?_, ?_⟩
      · refine ⟨_, rfl, rfl, _, rfl, ?_⟩
        refine ite2 (fun c1 => ?_) (fun c1 => ?_)
        · have e1 : way = 1 := by have := V.int.inj (of_decide_eq_true c1); omega
          refine ⟨_, rfl, _, rfl, _, rfl, _, rfl, _, rfl, _, _, rfl, rfl, _, _, rfl, rfl, (by omega : (0 : Int) < (sz : Int) - (at_ : Int)), _, _, rfl, rfl, _, rfl, _, rfl, by rw [SX.S_len, NM.w0_len hat]; exact Nat.le_trans (by omega : bs.length ≤ 8) (by decide), ?_⟩
          have em : (sz : Int) - (0 + (i : Int)) % ((sz : Int) - (at_ : Int)) = ((bs.length - i % (bs.length - at_) : Nat) : Int) := by
            have h1 : ((sz : Int) - (at_ : Int)) = ((bs.length - at_ : Nat) : Int) := by omega
            rw [h1, Int.zero_add, ← Int.natCast_emod]
            have := Nat.mod_lt i (show 0 < bs.length - at_ by omega)
            omega
          rw [cut_t em (by rw [NM.w0_len hat]; omega)]
          rw [if_pos e1]
          exact ⟨rfl, rfl⟩
        · have e1 : ¬ way = 1 := fun z => c1 (decide_eq_true (by rw [hway, z]; rfl))
          rw [if_neg e1]
          exact ⟨rfl, rfl⟩
      rintro σ' H' ⟨rfl, rfl⟩
      -- one sign again and again
      refine ⟨fun σ' H'' => H'' = H' ∧ σ' = [some (.ref p), some (.int n), some (.str (Str.ofString "abcdefghijklmnopqrstuvwxyz")), some (.ref wl), some (.int (sz : Int)), some (.int (0 + i)), some (.str (S bs)), some (.int (at_ : Int)), some (.int (spot : Int)), some (.int (way0 % 4)), some (.ref o), some (.str (S (if way = 1 then NM.w1 bs at_ spot i else if way = 2 then NM.w2 spot i else NM.w0 bs at_ spot i)))], ?_, ?_⟩
      · refine ⟨_, rfl, rfl, _, rfl, ?_⟩
        refine ite2 (fun c1 => ?_) (fun c1 => ?_)
        · have e1 : way = 2 := by have := V.int.inj (of_decide_eq_true c1); omega
          have e6 : ((spot : Int) + (0 + (i : Int)) / 8) % 26 = (((spot + i / 8) % 26 : Nat) : Int) := by omega
          refine ⟨_, rfl, _, rfl, _, rfl, _, _, rfl, rfl, ⟨by decide, by decide⟩, _, _, rfl, rfl, _, _, rfl, rfl, (by decide : (0 : Int) < 26), _, _, _, rfl, rfl, lets_len, at_lets e6 (Nat.mod_lt _ (by decide)), _, rfl, rfl, ?_⟩
          refine ⟨_, rfl, _, _, rfl, rfl, (by decide : (0 : Int) < 8), _, _, rfl, rfl, _, rfl, _, rfl, by rw [SX.S_len, List.length_replicate]; decide, ?_⟩
          rw [cut_t (j := i % 8 + 1) (by omega) (by rw [List.length_replicate]; omega)]
          subst e1
          exact ⟨rfl, rfl⟩
        · have e1 : ¬ way = 2 := fun z => c1 (decide_eq_true (by rw [hway, z]; rfl))
          rw [if_neg e1]
          exact ⟨rfl, rfl⟩
      rintro σ' H'' ⟨rfl, rfl⟩
      -- a word of the list
      refine ⟨fun σ' H' => H' = H'' ∧ σ' = [some (.ref p), some (.int n), some (.str (Str.ofString "abcdefghijklmnopqrstuvwxyz")), some (.ref wl), some (.int (sz : Int)), some (.int (0 + i)), some (.str (S bs)), some (.int (at_ : Int)), some (.int (spot : Int)), some (.int (way0 % 4)), some (.ref o), some (.str (S (NM.word bs at_ spot way i)))], ?_, ?_⟩
      · refine ⟨_, rfl, rfl, _, rfl, ?_⟩
        refine ite2 (fun c1 => ?_) (fun c1 => ?_)
        · have e1 : way = 3 := by have := V.int.inj (of_decide_eq_true c1); omega
          have e7 : ((spot : Int) + (0 + (i : Int))) % 16 = (((spot + i) % 16 : Nat) : Int) := by omega
          have hw16 : (spot + i) % 16 < NM.words.length := Nat.mod_lt _ (by decide)
          refine ⟨_, rfl, _, rfl, _, rfl, _, _, rfl, rfl, _, _, rfl, rfl, (by decide : (0 : Int) < 16), wl, _, _, .str (S (NM.w3 spot i)), rfl, rfl, SqL.of hwl7, ?_, ?_⟩
          · rw [e7]
            refine atI_nat ?_
            rw [List.getElem?_map, List.getElem?_map, List.getElem?_eq_getElem hw16]
            unfold NM.w3
            rw [List.getD_eq_getElem?_getD, List.getElem?_eq_getElem hw16]
            rfl
          · subst e1
            exact ⟨rfl, rfl⟩
        · have e1 : ¬ way = 3 := fun z => c1 (decide_eq_true (by rw [hway, z]; rfl))
          refine ⟨rfl, ?_⟩
          unfold NM.word
          rw [if_neg e1]
      rintro σ' H' ⟨rfl, rfl⟩
      -- put in
      refine ⟨_, rfl, Or.inl ⟨rfl, _, SqL.of ho7⟩, _, rfl, _, rfl, o, _, rfl, .inl (SqL.of ho7), _, _, rfl, rfl, p, c + 27 - (i + 1), _, rfl, pen7.weak (by omega), by omega, by rw [List.length_map]; omega, fun r H8 r0 r1 pen8 k8 => ?_⟩
      have off8 := off7.kp k8
      have ho8 := k8.1 _ _ ho7 off7.ne
      refine ⟨_, rfl, o, _, _, _, rfl, rfl, ho8, ?_, r0, by rw [List.length_map] at r1; omega, ?_⟩
      · rw [List.length_map, zl]
        exact Nat.lt_of_lt_of_le (by omega : i < 64) (by decide)
      · refine ⟨zs.take r.toNat ++ [NM.word bs at_ spot way i] ++ zs.drop r.toNat, _, _, rfl, ?_, ?_, pen8.put off8, (k7.trans k8).new fo, ?_⟩
        · rw [upd_same]
          simp [List.map_append, List.map_take, List.map_drop]
        · have hp1 : (zs.take r.toNat ++ [NM.word bs at_ spot way i] ++ zs.drop r.toNat).Perm (NM.word bs at_ spot way i :: zs) := by
            rw [List.append_assoc]
            have := List.perm_middle (a := NM.word bs at_ spot way i) (l₁ := zs.take r.toNat) (l₂ := zs.drop r.toNat)
            rw [List.take_append_drop] at this
            exact this
          refine hp1.trans ?_
          rw [List.range_succ, List.map_append]
          exact (List.Perm.cons _ perm7).trans (List.perm_append_singleton _ _).symm
        · exact off8.put (by obtain ⟨_, _, _, _, _, z⟩ := off8; exact z)
    · rintro σ H7 ⟨zs, v5, v11, rfl, ho7, perm7, pen7, k7, off7⟩
      refine ⟨_, rfl, hQ o zs H7 (pen7.weak (by omega)) (k06.trans k7) ?_ off7 ho7 (by rw [perm7.length_eq, List.length_map, List.length_range]) (fun z hz => ?_) ?_⟩
      · cases q : H o with
        | none => rfl
        | some u =>
          have z := k06.1 _ _ q (Off.of pen6 fo).ne
          rw [fo] at z
          cases z
      · obtain ⟨k, _, rfl⟩ := List.mem_map.mp (perm7.subset hz)
        exact NM.word_ok (by omega) (by omega) hbc hat way
      · exact (perm7.symm.pairwise_iff (fun h => Ne.symm h)).mp (NM.all_unlike hat way n hn)
end
end K21
set_option Elab.async false
set_option linter.all false
set_option maxRecDepth 100000
set_option maxHeartbeats 4000000
namespace K21
open PySem PySem.Spec PyProof.Rows L2
open C8 (Cal Mak Met pe_c pe_mk pe_mt pe_mt0)
open SX (S)
section
variable {P : Program} {w : World} {K : PySem.W.Frag} {mg : Str → Option Value} {base : Heap} {f C : Addr} {fd : FuncData}
def spWhole : Sp := fun vs H Q _ => ∃ n : Int, vs = [.int n] ∧ Q (.bl true) H
theorem ok_whole (F : Dn K d_is_whole f fd) (b : Bl mg) : FnOk P w K mg base CX0 1 f fd ["thing"] spWhole := by
  refine F.ok sc_is_whole (fun vs H Q E h => ?_) (fun cdv A outer s H vs Q E hr h => ?_)
  · obtain ⟨n, rfl, _⟩ := h
    rfl
  · obtain ⟨n, rfl, hQ⟩ := h
    refine ⟨_, PSs.nox (pss_one (ps_ret (pe_and
      (pe_callB call_isi rfl b.isi boot_isinstance (pa_cons (pv 0) (pa_cons (pe_bltn (v := .ty "int") rfl b.int boot_int rfl) pa_nil)))
      (pe_one (pe_not (pe_callB call_isi rfl b.isi boot_isinstance (pa_cons (pv 0) (pa_cons (pe_bltn (v := .ty "bool") rfl b.bool boot_bool rfl) pa_nil)))))))), ?_⟩
    refine ⟨_, rfl, _, _, _, _, true, rfl, ClsV.ty _, TyX.base (TyOf.int n), kit_ty (by decide +kernel), true, rfl, ?_⟩
    refine iteT ?_
    exact ⟨_, rfl, _, _, _, _, false, rfl, ClsV.ty _, TyX.base (TyOf.int n), kit_ty (by decide +kernel), false, rfl, hQ⟩
abbrev CalW (P : Program) (w : World) (K : PySem.W.Frag) (mg : Str → Option Value) (base : Heap) : Prop := Cal P w K mg base 1 "is_whole" spWhole []
def spBetween : Sp := fun vs H Q _ => ∃ n lo hi : Int, vs = [.int n, .int lo, .int hi] ∧ Q (.bl (decide (lo ≤ n ∧ n ≤ hi))) H
theorem ok_between (F : Dn K d_is_between f fd) (cW : CalW P w K mg base) : FnOk P w K mg base CX0 2 f fd ["thing", "low", "high"] spBetween := by
  refine F.ok sc_is_between (fun vs H Q E h => ?_) (fun cdv A outer s H vs Q E hr h => ?_)
  · obtain ⟨n, lo, hi, rfl, _⟩ := h
    rfl
  · obtain ⟨n, lo, hi, rfl, hQ⟩ := h
    refine ⟨_, PSs.nox (pss_one (ps_ret (pe_and (pe_c cW hr (by decide) rfl (pa_cons (pv 0) pa_nil)) (pe_one (pe_chain op_le op_le (pv 1) (pv 0) (pv 2)))))), ?_⟩
    refine ⟨_, rfl, n, rfl, true, rfl, iteT ?_⟩
    refine ⟨_, rfl, _, rfl, _, _, rfl, rfl, _, rfl, ?_⟩
    refine ite2 (fun h1 => ?_) (fun h1 => ?_)
    · have h1' : lo ≤ n := of_decide_eq_true h1
      refine ⟨_, rfl, _, _, rfl, rfl, ?_⟩
      have e : decide (n ≤ hi) = decide (lo ≤ n ∧ n ≤ hi) := decide_eq_decide.mpr ⟨fun z => ⟨h1', z⟩, fun z => z.2⟩
      show Q (.bl (decide (n ≤ hi))) H
      rw [e]
      exact hQ
    · have h1' : ¬ lo ≤ n := fun z => h1 (decide_eq_true z)
      have e : decide (lo ≤ n ∧ n ≤ hi) = false := decide_eq_false fun z => h1' z.1
      rw [e] at hQ
      exact hQ
abbrev CalB (P : Program) (w : World) (K : PySem.W.Frag) (mg : Str → Option Value) (base : Heap) : Prop := Cal P w K mg base 2 "is_between" spBetween []
def spDay : Sp := fun vs H Q _ => ∃ n : Int, vs = [.int n] ∧ Q (.bl (decide (0 ≤ n ∧ n ≤ 1000000))) H
theorem ok_day (F : Dn K d_is_day f fd) (cB : CalB P w K mg base) (g : ∃ t, mg "LAST_DAY" = some (.int 1000000 t)) : FnOk P w K mg base CX0 3 f fd ["thing"] spDay := by
  refine F.ok sc_is_day (fun vs H Q E h => ?_) (fun cdv A outer s H vs Q E hr h => ?_)
  · obtain ⟨n, rfl, _⟩ := h
    rfl
  · obtain ⟨n, rfl, hQ⟩ := h
    obtain ⟨t, g⟩ := g
    refine ⟨_, PSs.nox (pss_one (ps_ret (pe_c cB hr (by decide) rfl (pa_cons (pv 0) (pa_cons pe_int (pa_cons (pe_glob (v := .int 1000000) rfl g ⟨t, rfl⟩) pa_nil)))))), ?_⟩
    exact ⟨_, rfl, n, 0, 1000000, rfl, hQ⟩
/-- what is a name -/
def spName : Sp := fun vs H Q _ => ∃ l : List Nat, vs = [.str (S l)] ∧ NM.ok l ∧ ∀ H', Same H H' → Q (.bl true) H'
theorem ok_name (F : Dn K d_is_name f fd) (b : Bl mg) (g : ∃ t, mg "LONGEST_NAME" = some (.int 8 t)) : FnOk P w K mg base CX0 1 f fd ["thing"] spName := by
  refine F.ok sc_is_name (fun vs H Q E h => ?_) (fun cdv A outer s H vs Q E hr h => ?_)
  · obtain ⟨l, rfl, _⟩ := h
    rfl
  · obtain ⟨l, rfl, ⟨l1, l8, lc⟩, hQ⟩ := h
    obtain ⟨t, g⟩ := g
    have hz : (S l).length ≤ sizeLine := by rw [SX.S_len]; exact Nat.le_trans l8 (by decide)
    refine ⟨_, PSs.nox (pss_cons (ps_if (PW.pt (pw_or (pt_not (pt_val (pe_callB call_isi rfl b.isi boot_isinstance (pa_cons (pv 0) (pa_cons (pe_bltn (v := .ty "str") rfl b.str boot_str rfl) pa_nil)))))
        (pw_or1 (pt_not (pt_chain op_le op_le pe_int (pe_callB call_len_str rfl b.len boot_len (pa_cons (pv 0) pa_nil)) (pe_glob (v := .int 8) rfl g ⟨t, rfl⟩)))))) pss_never pss_nil)
      (pss_one (ps_ret (pe_callB (cr_all rfl) rfl b.all boot_all (pa_cons (pe_lc (own := [("sign", 1)]) (g := gName 1) (tt := tYes) rfl sc_is_name.nd (pi_str (pv 0)) (blkOk_by (N := N_is_name) (sc := defScope s_is_name) (by decide +kernel))
          (fun _ _ _ _ _ => pg_name (i := 1) sc_is_name.nd rfl (Or.inl rfl)) (fun _ _ _ _ _ => pts_nil) (fun _ _ _ _ _ => pe_chain op_le_str op_le_str pe_str (pv 1) pe_str)) pa_nil))))), ?_⟩
    refine ⟨_, rfl, _, _, _, _, true, rfl, ClsV.ty _, TyX.base (TyOf.str _), kit_ty (by decide +kernel), true, rfl, iteF ?_⟩
    refine ⟨_, rfl, _, rfl, hz, _, _, rfl, rfl, _, rfl, ?_⟩
    rw [SX.S_len]
    refine ite2 (fun _ => ?_) (fun z => absurd (decide_eq_true (by omega)) z)
    refine ⟨_, _, rfl, rfl, _, rfl, ?_⟩
    have e8 : decide ((l.length : Int) ≤ 8) = true := decide_eq_true (by omega)
    rw [e8]
    refine iteF ?_
    refine ⟨_, rfl, _, rfl, fun D hD => lc_it walk_str (fun i H2 => H2 D = some (.lst ((List.replicate i true).map V.bl)) ∧ Same H H2) ⟨upd_same, same_new hD⟩ (fun _ _ _ _ => trivial) ?_ ?_⟩
    · rintro i x H2 H3 hi ⟨hd, sm⟩ ⟨rfl, c', hc', rfl⟩
      have hi' : i < l.length := by simpa [S] using hi
      have hmem : c' ∈ l := by
        have : l[i]? = some c' := by simpa [S] using hc'
        exact List.mem_of_getElem? this
      have hcc := lc c' hmem
      refine ⟨rfl, ?_⟩
      refine ⟨_, rfl, _, _, rfl, rfl, _, rfl, ?_⟩
      have ea : (!decide ((⟨#[c']⟩ : Str).cps.toList < (Str.ofString "a").cps.toList)) = true := by
        have e1 : (Str.ofString "a").cps.toList = [97] := by decide +kernel
        rw [e1]
        have : ¬ (([c'] : List Nat) < [97]) := by
          rw [List.cons_lt_cons_iff]
          rintro (z | ⟨z, z'⟩)
          · omega
          · exact absurd z' (by simp)
        simp [this]
      have ez : (!decide ((Str.ofString "z").cps.toList < (⟨#[c']⟩ : Str).cps.toList)) = true := by
        have e1 : (Str.ofString "z").cps.toList = [122] := by decide +kernel
        rw [e1]
        have : ¬ (([122] : List Nat) < [c']) := by
          rw [List.cons_lt_cons_iff]
          rintro (z | ⟨z, z'⟩)
          · omega
          · exact absurd z' (by simp)
        simp [this]
      rw [ea]
      refine iteT ⟨_, _, rfl, rfl, ?_⟩
      rw [ez]
      refine ⟨_, hd, ?_, ?_, ?_⟩
      · rw [List.length_map, List.length_replicate]
        exact Nat.lt_of_lt_of_le (by omega : i < 64) (by decide)
      · rw [upd_same]
        simp [List.replicate_succ']
      · intro a o e
        rw [upd_ne (ne_of_none e hD)]
        exact sm a o e
    · rintro H2 ⟨hd, sm⟩
      refine ⟨D, _, rfl, SqL.of hd, ?_⟩
      have e3 : (List.replicate (S l).cps.size true).all id = true := by simp
      rw [e3]
      exact hQ H2 sm
end
end K21
set_option linter.all false
namespace KM
/-- the signed common part -/
def sg (t b : Int) : Int := if b < 0 then -(Int.gcd t b : Int) else (Int.gcd t b : Int)
/-- a fraction in lowest terms -/
def low (t b : Int) : Int × Int := (t.fdiv (sg t b), b.fdiv (sg t b))
theorem gcd_pos {t b : Int} (h : b ≠ 0) : 0 < Int.gcd t b := Int.gcd_pos_of_ne_zero_right t h
theorem sg_ne {t b : Int} (h : b ≠ 0) : sg t b ≠ 0 := by
  have := gcd_pos (t := t) h
  unfold sg
  split <;> omega
theorem sg_dvd_left (t b : Int) : sg t b ∣ t := by
  unfold sg
  split
  · exact Int.neg_dvd.mpr (Int.gcd_dvd_left ..)
  · exact Int.gcd_dvd_left ..
theorem sg_dvd_right (t b : Int) : sg t b ∣ b := by
  unfold sg
  split
  · exact Int.neg_dvd.mpr (Int.gcd_dvd_right ..)
  · exact Int.gcd_dvd_right ..
theorem low_top {t b : Int} : sg t b * (low t b).1 = t := by
  show sg t b * t.fdiv (sg t b) = t
  rw [Int.fdiv_eq_ediv_of_dvd (sg_dvd_left t b)]
  exact Int.mul_ediv_cancel' (sg_dvd_left t b)
theorem low_bot {t b : Int} : sg t b * (low t b).2 = b := by
  show sg t b * b.fdiv (sg t b) = b
  rw [Int.fdiv_eq_ediv_of_dvd (sg_dvd_right t b)]
  exact Int.mul_ediv_cancel' (sg_dvd_right t b)
theorem sg_abs (t b : Int) : (sg t b).natAbs = Int.gcd t b := by
  unfold sg
  split <;> simp
theorem low_pos {t b : Int} (h : b ≠ 0) : 0 < (low t b).2 := by
  have e := low_bot (t := t) (b := b)
  have g := gcd_pos (t := t) h
  by_cases hb : b < 0
  · have hs : sg t b < 0 := by unfold sg; rw [if_pos hb]; omega
    refine Int.lt_of_not_ge fun hc => ?_
    have := Int.mul_nonneg_of_nonpos_of_nonpos (Int.le_of_lt hs) hc
    omega
  · have hs : 0 < sg t b := by unfold sg; rw [if_neg hb]; omega
    refine Int.lt_of_not_ge fun hc => ?_
    have := Int.mul_nonpos_of_nonneg_of_nonpos (Int.le_of_lt hs) hc
    omega
theorem low_cop {t b : Int} (h : b ≠ 0) : Int.gcd (low t b).1 (low t b).2 = 1 := by
  have e : Int.gcd (sg t b * (low t b).1) (sg t b * (low t b).2) = (sg t b).natAbs * Int.gcd (low t b).1 (low t b).2 := Int.gcd_mul_left ..
  rw [low_top, low_bot, sg_abs] at e
  have g := gcd_pos (t := t) h
  have : Int.gcd t b * Int.gcd (low t b).1 (low t b).2 = Int.gcd t b * 1 := by omega
  exact Nat.eq_of_mul_eq_mul_left g this
theorem low_id {t b : Int} (hb : 0 < b) (h : Int.gcd t b = 1) : low t b = (t, b) := by
  have e : sg t b = 1 := by unfold sg; rw [if_neg (by omega), h]; rfl
  unfold low
  rw [e]
  simp
theorem low_low {t b : Int} (h : b ≠ 0) : low (low t b).1 (low t b).2 = low t b := low_id (low_pos h) (low_cop h)
/-- the bottom stays: nothing is taken out -/
theorem low_same {t b : Int} (hb : 0 < b) (h : (low t b).2 = b) : low t b = (t, b) := by
  have e := low_bot (t := t) (b := b)
  rw [h] at e
  have e1 : sg t b * b = 1 * b := by omega
  have e2 := Int.eq_of_mul_eq_mul_right (Int.ne_of_gt hb) e1
  have e3 := low_top (t := t) (b := b)
  rw [e2] at e3
  refine Prod.ext ?_ h
  show (low t b).1 = t
  omega
theorem dvd_le {x y : Int} (h : x * y ≠ 0) : y.natAbs ≤ (x * y).natAbs := by
  rw [Int.natAbs_mul]
  have : x ≠ 0 := fun z => h (by rw [z, Int.zero_mul])
  exact Nat.le_mul_of_pos_left _ (by omega)
theorem low_top_le {t b : Int} (h : b ≠ 0) : (low t b).1.natAbs ≤ t.natAbs := by
  by_cases ht : t = 0
  · subst ht
    have e := low_top (t := 0) (b := b)
    rcases Int.mul_eq_zero.mp e with z | z
    · exact absurd z (sg_ne h)
    · rw [z]; exact Nat.le_refl _
  · have e := low_top (t := t) (b := b)
    have := dvd_le (x := sg t b) (y := (low t b).1) (by omega)
    rw [e] at this
    exact this
theorem low_bot_le {t b : Int} (h : b ≠ 0) : (low t b).2.natAbs ≤ b.natAbs := by
  have e := low_bot (t := t) (b := b)
  have := dvd_le (x := sg t b) (y := (low t b).2) (by omega)
  rw [e] at this
  exact this
theorem sg_le {t b : Int} (h : b ≠ 0) : (sg t b).natAbs ≤ b.natAbs := by
  have e := low_bot (t := t) (b := b)
  have := dvd_le (x := (low t b).2) (y := sg t b) (by rw [Int.mul_comm]; omega)
  rw [Int.mul_comm, e] at this
  exact this
/-- Euclid's turn over whole numbers from 0 on -/
theorem gcd_turn {a b : Int} (ha : 0 ≤ a) (hb : 0 < b) : Int.gcd b (a % b) = Int.gcd a b := by
  obtain ⟨m, rfl⟩ := Int.eq_ofNat_of_zero_le ha
  obtain ⟨n, rfl⟩ := Int.eq_ofNat_of_zero_le (Int.le_of_lt hb)
  show Nat.gcd (Int.natAbs (n : Int)) (Int.natAbs ((m : Int) % (n : Int))) = Nat.gcd (Int.natAbs (m : Int)) (Int.natAbs (n : Int))
  rw [← Int.natCast_emod, Int.natAbs_natCast, Int.natAbs_natCast, Int.natAbs_natCast, Nat.gcd_comm n, Nat.gcd_comm m n]
  exact (Nat.gcd_rec n m).symm
theorem gcd_succ (a : Int) : Int.gcd a (a + 1) = 1 := by
  have : Int.gcd (a + 1) a = Int.gcd 1 a := by
    rw [Int.add_comm, Int.gcd_add_self_left]
  rw [Int.gcd_comm, this, Int.gcd_comm]
  simp
end KM
set_option linter.all false
namespace KM
/-- top and bottom of a rational number -/
def pr (r : Rat) : Int × Int := (r.num, (r.den : Int))
theorem pr_inj {r s : Rat} (h : pr r = pr s) : r = s := by
  have h1 : r.num = s.num := congrArg Prod.fst h
  have h2 : (r.den : Int) = (s.den : Int) := congrArg Prod.snd h
  rw [← Rat.num_divInt_den r, ← Rat.num_divInt_den s, h1, h2]
theorem den_ne (r : Rat) : (r.den : Int) ≠ 0 := by
  have := r.den_nz
  omega
theorem den_pos (r : Rat) : 0 < (r.den : Int) := by
  have := r.den_nz
  omega
theorem low_eq {t b : Int} (h : b ≠ 0) : low t b = pr (Rat.divInt t b) := by
  have hp := low_pos (t := t) h
  have hc := low_cop (t := t) h
  obtain ⟨d, hd⟩ := Int.eq_ofNat_of_zero_le (Int.le_of_lt hp)
  have hd0 : d ≠ 0 := by
    intro z
    rw [z] at hd
    omega
  have hcop : (low t b).1.natAbs.Coprime d := by
    have : Int.gcd (low t b).1 (low t b).2 = 1 := hc
    rw [hd] at this
    exact this
  have e1 : Rat.divInt (low t b).1 (d : Int) = Rat.divInt t b := by
    rw [Rat.divInt_eq_divInt_iff (by omega) h, ← hd]
    have h1 := low_top (t := t) (b := b)
    have h2 := low_bot (t := t) (b := b)
    calc (low t b).1 * b = (low t b).1 * (sg t b * (low t b).2) := by rw [h2]
      _ = sg t b * (low t b).1 * (low t b).2 := by rw [← Int.mul_assoc, Int.mul_comm (low t b).1]
      _ = t * (low t b).2 := by rw [h1]
  have e2 : ({ num := (low t b).1, den := d, den_nz := hd0, reduced := hcop } : Rat) = Rat.divInt t b := by rw [Rat.mk_eq_divInt, e1]
  rw [← e2]
  exact Prod.ext rfl hd
theorem pr_plus (r s : Rat) : low ((pr r).1 * (pr s).2 + (pr s).1 * (pr r).2) ((pr r).2 * (pr s).2) = pr (r + s) := by
  show low (r.num * s.den + s.num * r.den) (r.den * s.den) = _
  rw [low_eq (Int.mul_ne_zero (den_ne r) (den_ne s)), ← Rat.divInt_add_divInt _ _ (den_ne r) (den_ne s), Rat.num_divInt_den, Rat.num_divInt_den]
theorem pr_less (r s : Rat) : low ((pr r).1 * (pr s).2 - (pr s).1 * (pr r).2) ((pr r).2 * (pr s).2) = pr (r - s) := by
  show low (r.num * s.den - s.num * r.den) (r.den * s.den) = _
  rw [low_eq (Int.mul_ne_zero (den_ne r) (den_ne s)), ← Rat.divInt_sub_divInt _ _ (den_ne r) (den_ne s), Rat.num_divInt_den, Rat.num_divInt_den]
theorem pr_times (r : Rat) (k : Int) : low ((pr r).1 * k) (pr r).2 = pr (r * (Rat.divInt k 1)) := by
  show low (r.num * k) r.den = _
  have e : Rat.divInt (r.num * k) (r.den : Int) = Rat.divInt r.num r.den * Rat.divInt k 1 := by rw [Rat.divInt_mul_divInt, Int.mul_one]
  rw [low_eq (den_ne r), e, Rat.num_divInt_den]
theorem pr_over (r : Rat) {k : Int} (h : k ≠ 0) : low (pr r).1 ((pr r).2 * k) = pr (r * (Rat.divInt 1 k)) := by
  show low r.num (r.den * k) = _
  have e : Rat.divInt r.num (r.den * k : Int) = Rat.divInt r.num r.den * Rat.divInt 1 k := by rw [Rat.divInt_mul_divInt, Int.mul_one]
  rw [low_eq (Int.mul_ne_zero (den_ne r) h), e, Rat.num_divInt_den]
theorem inv_k {k : Int} (h : k ≠ 0) : Rat.divInt k 1 * Rat.divInt 1 k = 1 := by
  rw [Rat.divInt_mul_divInt, Int.mul_one, Int.one_mul]
  exact Rat.divInt_self' h
theorem pr_lt (r s : Rat) : ((pr r).1 * (pr s).2 < (pr s).1 * (pr r).2) ↔ r < s := (Rat.lt_iff r s).symm
theorem pr_bot (r : Rat) : 0 < (pr r).2 := den_pos r
theorem add_back (r s : Rat) : r + s - s = r := by
  rw [Rat.sub_eq_add_neg, Rat.add_assoc, Rat.add_neg_cancel, Rat.add_zero]
theorem sub_back (r s : Rat) : r - s + s = r := by
  rw [Rat.sub_eq_add_neg, Rat.add_assoc, Rat.neg_add_cancel, Rat.add_zero]
theorem mul_back (r : Rat) {k : Int} (h : k ≠ 0) : r * Rat.divInt k 1 * Rat.divInt 1 k = r := by
  rw [Rat.mul_assoc, inv_k h, Rat.mul_one]
theorem div_back (r : Rat) {k : Int} (h : k ≠ 0) : r * Rat.divInt 1 k * Rat.divInt k 1 = r := by
  rw [Rat.mul_assoc, Rat.mul_comm (Rat.divInt 1 k), inv_k h, Rat.mul_one]
/-- small -/
def Sz (n : Nat) (r : Rat) : Prop := r.num.natAbs < 2 ^ n ∧ r.den < 2 ^ n
theorem Sz.mono {n m : Nat} {r : Rat} (h : Sz n r) (hm : n ≤ m) : Sz m r := ⟨Nat.lt_of_lt_of_le h.1 (Nat.pow_le_pow_right (by decide) hm), Nat.lt_of_lt_of_le h.2 (Nat.pow_le_pow_right (by decide) hm)⟩
theorem sz_of_low {t b : Int} {n : Nat} (hb : b ≠ 0) (h1 : t.natAbs < 2 ^ n) (h2 : b.natAbs < 2 ^ n) : Sz n (Rat.divInt t b) := by
  have e := low_eq (t := t) hb
  have e1 : (low t b).1 = (Rat.divInt t b).num := congrArg Prod.fst e
  have e2 : (low t b).2 = ((Rat.divInt t b).den : Int) := congrArg Prod.snd e
  have l1 := low_top_le (t := t) hb
  have l2 := low_bot_le (t := t) hb
  constructor
  · rw [← e1]; omega
  · have : ((low t b).2).natAbs < 2 ^ n := by omega
    rw [e2] at this
    simpa using this
theorem two_lt {x y n m : Nat} (h1 : x < 2 ^ n) (h2 : y < 2 ^ m) : x * y < 2 ^ (n + m) := by
  rw [Nat.pow_add]
  exact Nat.mul_lt_mul'' h1 h2
theorem sz_sum {a b c d : Int} {n m : Nat} (h1 : a.natAbs < 2 ^ n) (h2 : d.natAbs < 2 ^ m) (h3 : c.natAbs < 2 ^ m) (h4 : b.natAbs < 2 ^ n) : (a * d + c * b).natAbs < 2 ^ (n + m + 1) ∧ (a * d - c * b).natAbs < 2 ^ (n + m + 1) := by
  have e1 : (a * d).natAbs < 2 ^ (n + m) := by rw [Int.natAbs_mul]; exact two_lt h1 h2
  have e2 : (c * b).natAbs < 2 ^ (n + m) := by rw [Int.natAbs_mul, Nat.add_comm]; exact two_lt h3 h4
  have e3 : 2 ^ (n + m + 1) = 2 * 2 ^ (n + m) := by rw [Nat.pow_succ, Nat.mul_comm]
  omega
theorem sz_plus {n m : Nat} {r s : Rat} (hr : Sz n r) (hs : Sz m s) : Sz (n + m + 1) (r + s) ∧ Sz (n + m + 1) (r - s) := by
  have d1 : ((r.den : Int)).natAbs < 2 ^ n := by simpa using hr.2
  have d2 : ((s.den : Int)).natAbs < 2 ^ m := by simpa using hs.2
  have hd : ((r.den : Int) * s.den).natAbs < 2 ^ (n + m + 1) := by
    have : ((r.den : Int) * s.den).natAbs < 2 ^ (n + m) := by rw [Int.natAbs_mul]; exact two_lt d1 d2
    exact Nat.lt_of_lt_of_le this (Nat.pow_le_pow_right (by decide) (by omega))
  have hn := sz_sum hr.1 d2 hs.1 d1
  have ne := Int.mul_ne_zero (den_ne r) (den_ne s)
  constructor
  · have := sz_of_low ne hn.1 hd
    rw [← Rat.divInt_add_divInt _ _ (den_ne r) (den_ne s), Rat.num_divInt_den, Rat.num_divInt_den] at this
    exact this
  · have := sz_of_low ne hn.2 hd
    rw [← Rat.divInt_sub_divInt _ _ (den_ne r) (den_ne s), Rat.num_divInt_den, Rat.num_divInt_den] at this
    exact this
theorem sz_times {n m : Nat} {r : Rat} {k : Int} (hr : Sz n r) (hk : k.natAbs < 2 ^ m) : Sz (n + m) (r * Rat.divInt k 1) := by
  have e : r * Rat.divInt k 1 = Rat.divInt (r.num * k) r.den := by
    have : Rat.divInt (r.num * k) (r.den : Int) = Rat.divInt r.num r.den * Rat.divInt k 1 := by rw [Rat.divInt_mul_divInt, Int.mul_one]
    rw [this, Rat.num_divInt_den]
  rw [e]
  refine sz_of_low (den_ne r) (by rw [Int.natAbs_mul]; exact two_lt hr.1 hk) ?_
  have d1 : ((r.den : Int)).natAbs < 2 ^ n := by simpa using hr.2
  exact Nat.lt_of_lt_of_le d1 (Nat.pow_le_pow_right (by decide) (by omega))
theorem sz_over {n m : Nat} {r : Rat} {k : Int} (hr : Sz n r) (h : k ≠ 0) (hk : k.natAbs < 2 ^ m) : Sz (n + m) (r * Rat.divInt 1 k) := by
  have e : r * Rat.divInt 1 k = Rat.divInt r.num (r.den * k) := by
    have : Rat.divInt r.num (r.den * k : Int) = Rat.divInt r.num r.den * Rat.divInt 1 k := by rw [Rat.divInt_mul_divInt, Int.mul_one]
    rw [this, Rat.num_divInt_den]
  rw [e]
  have d1 : ((r.den : Int)).natAbs < 2 ^ n := by simpa using hr.2
  refine sz_of_low (Int.mul_ne_zero (den_ne r) h) (Nat.lt_of_lt_of_le hr.1 (Nat.pow_le_pow_right (by decide) (by omega))) ?_
  rw [Int.natAbs_mul]
  exact two_lt d1 hk
end KM
set_option Elab.async false
set_option linter.all false
set_option maxRecDepth 100000
set_option maxHeartbeats 4000000
namespace K21
open PySem PySem.Spec PyProof.Rows L2
/-- more of the module's names -/
structure Bl2 (mg : Str → Option Value) : Prop where
  abs : mg "abs" = none
  set : mg "set" = none
  dict : mg "dict" = none
  srt : mg "sorted" = none
  tup : mg "tuple" = none
end K21
set_option Elab.async false
set_option linter.all false
set_option maxRecDepth 100000
set_option maxHeartbeats 4000000
/-! ST: len(set(xs)) of unlike texts, xs a list or a tuple. -/
namespace ST
open PySem PySem.Spec PyProof.Rows
theorem not_yet {xs : List Str} (hn : xs.Nodup) {i : Nat} (h : i < xs.length) : ((xs.take i).any (· == xs.getD i Str.empty)) = false := by
  have e : xs.getD i Str.empty = xs[i] := by rw [List.getD_eq_getElem?_getD, List.getElem?_eq_getElem h]; rfl
  rw [e, List.any_eq_false]
  intro x hx z
  obtain ⟨j, hj, ej⟩ := List.getElem_of_mem hx
  have hji : j < i := by rw [List.length_take] at hj; omega
  rw [List.getElem_take] at ej
  exact List.pairwise_iff_getElem.mp hn j i (by omega) h hji (ej.trans (beq_iff_eq.mp z))
theorem one_more (xs : List Str) {i : Nat} (h : i < xs.length) (k : Str) : ((xs.take i).any (· == k) || decide (k = xs.getD i Str.empty)) = (xs.take (i + 1)).any (· == k) := by
  have e : xs.getD i Str.empty = xs[i] := by rw [List.getD_eq_getElem?_getD, List.getElem?_eq_getElem h]; rfl
  rw [e, List.take_add_one, List.getElem?_eq_getElem h, List.any_append]
  congr 1
  show decide (k = xs[i]) = [xs[i]].any (· == k)
  rw [List.any_cons, List.any_nil, Bool.or_false, Bool.eq_iff_iff, decide_eq_true_eq, beq_iff_eq]
  exact ⟨Eq.symm, Eq.symm⟩
section
variable {prog : Program} {w : World} {A : Around} {R : Result → Shared → Prop} {I S : Addr} {fp wr : List Addr} {G : Array GenState → Array GenState → Prop} {n : Nat} {P : Nat → Value → Prop} {St : Nat → Shared → Prop}
/-- the set of the first i of them stands at S -/
abbrev Has (prog : Program) (w : World) (S : Addr) (xs : List Str) (i : Nat) (h : Heap) : Prop := h.SetOf (PySem.strKind prog w) S (fun k => (xs.take i).any (· == k)) i
theorem Has.to {xs : List Str} {i : Nat} {h h' : Heap} (x : Has prog w S xs i h) (k : ∀ o, h.get? S = some o → h'.get? S = some o) : Has prog w S xs i h' := by
  obtain ⟨o, es, ep, t, ho, r⟩ := x
  exact ⟨o, es, ep, t, k o ho, r⟩
theorem walk (W : WalksS prog w A.in1 I fp wr G n P St) (hf : S ∉ fp) {xs : List Str} (hn : xs.Nodup) (hl : xs.length = n) (hb : n + 1 < scanBound) (hv : ∀ i v, P i v → ∃ t, v = .str (xs.getD i Str.empty) t) :
    ∀ (r i : Nat) (s : Shared), i + r = n → St i s → Has prog w S xs i s.heap → (∀ s', Moved (S :: wr) G s s' → Has prog w S xs n s'.heap → R (.ok (.ret .none)) s') →
      codeAny (model prog w) A (.builtin "set.update.loop" ⟨[.ref S, .ref I], []⟩) R s := by
  have nw : S ∉ wr := fun z => hf (W.sub _ z)
  have up : ∀ b ∈ wr, b ∈ S :: wr := fun b z => List.mem_cons_of_mem _ z
  intro r
  induction r with
  | zero =>
    intro i s e st hs fin
    cases (show i = n from e)
    refine codeAny_builtin PyProof.Rows.F.entry_set_update_loop ?_; rw [Around.under_plainId PyProof.Rows.F.plain_set_update_loop _]
    show wpAny _ A.in1 (pyNext (.ref I) >>= _) _ _ s; refine wpAny_bind (W.done s _ _ st fun s' m => ?_)
    exact wpAny_pure (fin s' (m.mono up) (hs.to fun o => m.heap S o nw))
  | succ r ih =>
    intro i s e st hs fin
    have li : i < n := by omega
    refine codeAny_builtin PyProof.Rows.F.entry_set_update_loop ?_; rw [Around.under_plainId PyProof.Rows.F.plain_set_update_loop _]
    show wpAny _ A.in1 (pyNext (.ref I) >>= _) _ _ s; refine wpAny_bind (W.item i s _ _ li st fun v s' pv st' m => ?_)
    obtain ⟨t, rfl⟩ := hv i v pv
    have hs' := hs.to fun o => m.heap S o nw
    show wpAny _ A.in1 (holding [Value.str (xs.getD i Str.empty) t] (setAdd S (.str (xs.getD i Str.empty) t)) >>= _) _ _ s'; refine wpAny_bind (wpAny_holding ?_)
    unfold setAdd
    refine wpAny_holding (wpAny_bind ((PySem.strKind prog w).pyHash (k := xs.getD i Str.empty) (strKind_is _ _ _ _) ?_))
    refine wpAny_setAddHashed_of (knd := PySem.strKind prog w) (s := { s' with toks := s'.toks + 1 }) (strKind_is _ _ _ _) rfl hs' (by omega) fun h' but h2 => ?_
    have hs2 : Has prog w S xs (i + 1) h' := SetOf_congr h2 (fun k => one_more xs (by omega) k) (by
      have z : (xs.take i).any (· == xs.getD i Str.empty) = false := not_yet hn (by omega)
      show (if (xs.take i).any (· == xs.getD i Str.empty) = true then i else i + 1) = i + 1
      rw [z]; rfl)
    refine wpAny_pure ⟨plainId_quiet PyProof.Rows.F.plain_set_update_loop _, ih (i + 1) _ (by omega) (W.frame _ s' _ _ st' (Nat.le_succ _) fun b hb o eo => ?_) hs2 fun s2 m2 h3 => ?_⟩
    · rw [but.2 b (fun z : b = S => hf (z ▸ hb))]
      exact eo
    · refine fin s2 (Moved.trans W.gtrans ((m.mono up).then_heap (Nat.le_succ _) fun b o hb eo => ?_) m2) h3
      rw [but.2 b (fun z : b = S => hb (z ▸ List.mem_cons_self))]
      exact eo
end
/-- a new set -/
abbrev fresh (led : Bool) : Obj := { cls := .type "set", dict := none, data := .set #[] 0 (.fresh 0 0 led) }
section
variable {prog : Program} {w : World} {A : Around} {E : Value → Shared → Prop} {s : Shared}
/-- how the call of set ends -/
abbrev EndOf (prog : Program) (w : World) (xs : List Str) (s : Shared) (s2 : Shared) : Prop := ∃ h' tk, s2 = { s with heap := h', toks := tk } ∧ Has prog w s.heap.objs.size xs xs.length h' ∧ ∀ b o, s.heap.get? b = some o → h'.get? b = some o
set_option maxHeartbeats 8000000 in
/-- set(xs), given what __init__ does with the new set -/
theorem call_by {l : Addr} {xs : List Str} {Q : Value → Shared → Prop}
    (hi : ∀ led : Bool, wpAny (model prog w) A.in1.in1 (Builtin.«set.__init__» ⟨[.ref s.heap.objs.size, .ref l], []⟩)
      (fun fin s' => match fin with | .done f => wants (fun r s₂ => r = .none ∧ EndOf prog w xs s s₂) E (.ok f) s' | .again c' => c'.quiet = true ∧ codeAny (model prog w) A.in1 c' (wants (fun r s₂ => r = .none ∧ EndOf prog w xs s s₂) E) s')
      (fun e s' => wants (fun r s₂ => r = .none ∧ EndOf prog w xs s s₂) E (.error e) s') { s with heap := s.heap.push (fresh led) })
    (h : ∀ s2, EndOf prog w xs s s2 → Q (.ref s.heap.objs.size) s2) : wpAny (model prog w) A (call (.type "set") [.ref l]) Q E s := by
  obtain ⟨c0, t0, mro0⟩ := PySem.F.called_set.mro
  have made0 := PySem.F.called_set.made; have sub0 := PySem.F.called_set.sub
  refine wpAny_call (codeAny_of_tree ?_); show wpAny _ _ (callAny (.type "set") _) _ _ _
  refine wpAny_pure ⟨Code.quiet_builtin _ (by decide +kernel), codeAny_builtin PySem.F.entry_type_call ?_⟩; rw [Around.under_plain (weight_type_call_type "set" [.ref l] []) rfl]
  have nt0 := PySem.F.called_set.notType; have cc0 := PySem.F.called_set.canCreate; have ct0 := PySem.F.typeCall_set_1 (.ref l)
  (repeat (any_goals (first | assumption | wp_step)))
  refine codeAny_mono (code_set_new_1 (.ref l) (E := E) (Q₁ := fun ob s1 => ∃ led : Bool, ob = .ref s.heap.objs.size ∧ s1 = { s with heap := s.heap.push (fresh led) }) fun led => ⟨led, rfl, rfl⟩) fun r s1 hr => ?_
  match r, hr with
  | .error e, hr => exact hr
  | .ok .next, hr => exact hr.elim
  | .ok .brk, hr => exact hr.elim
  | .ok .cont, hr => exact hr.elim
  | .ok (.ret ob), hr =>
    obtain ⟨led, rfl, rfl⟩ := hr
    have at0 : (s.heap.push (fresh led)).get? s.heap.objs.size = some (fresh led) := Heap.get?_push_size _ rfl
    have ty0 : Shared.TypeIs { s with heap := s.heap.push (fresh led) } (.ref s.heap.objs.size) "set" := ⟨_, at0, rfl⟩
    have lo0 := PySem.F.called_set.init.lookup; have bi0 := PySem.F.called_set.init.bind (.ref s.heap.objs.size)
    (repeat (any_goals (first | assumption | wp_step)))
    refine codeAny_mono (codeAny_call_builtin (R := wants (fun r s₂ => r = .none ∧ EndOf prog w xs s s₂) E) PySem.F.called_set.init.plain PySem.F.entry_set_init (check_set_init_1 ty0 (hi led))) fun r2 s2 hr2 => ?_
    match r2, hr2 with
    | .error e, hr2 => exact hr2
    | .ok .next, hr2 => exact hr2.elim
    | .ok .brk, hr2 => exact hr2.elim
    | .ok .cont, hr2 => exact hr2.elim
    | .ok (.ret v), hr2 =>
      obtain ⟨rfl, en⟩ := hr2
      have q := h s2 en
      obtain ⟨h', tk, rfl, h1, h2⟩ := en
      (repeat (any_goals (first | assumption | wp_step)))
set_option maxHeartbeats 8000000 in
theorem call_tup {l : Addr} {items : Array Value} {xs : List Str} {Q : Value → Shared → Prop} (hh : A.handled = none) (hl : s.heap.IsTuple l items) (hi : PyProof.Rows.StrsAre items.toList xs) (hn : xs.Nodup) (hb : xs.length + 1 < scanBound)
    (h : ∀ s2, EndOf prog w xs s s2 → Q (.ref s.heap.objs.size) s2) : wpAny (model prog w) A (call (.type "set") [.ref l]) Q E s := by
  refine call_by (xs := xs) (fun led => ?_) h
  obtain ⟨ol, ho, hc, nl, hd⟩ := hl
  obtain ⟨cl, dc, dt, sl⟩ := ol
  simp only at hc hd
  subst hc; subst hd
  have o1 : (s.heap.push (fresh led)).get? l = some { cls := .type "tuple", dict := dc, data := .seq items nl, slots := sl } := Heap.get?_push_of_some _ ho
  have l1 : (s.heap.push (fresh led)).IsTuple l items := ⟨_, o1, rfl, nl, rfl⟩
  have at0 : (s.heap.push (fresh led)).get? s.heap.objs.size = some (fresh led) := Heap.get?_push_size _ rfl
  have u1 := PySem.F.sub_tuple_set; have u2 := PySem.F.sub_tuple_frozenset; have u3 : (Value.type "tuple" == Value.type "dict") = false := by decide
  unfold Builtin.«set.__init__» noKeywords Builtin.Frozenset.updateFrom; generalize hp : pyIter = pit
  wp_walk
  subst hp
  refine wpAny_pyIter_tuple l1 (wpAny_bind (wpAny_runValue ?_))
  have ls : l < s.heap.objs.size := Heap.lt_size ho
  have h3 : A.in1.in1.in1.handled = none := by simp [hh]
  have ne1 : l ≠ (s.heap.push (fresh led)).objs.size := by rw [Heap.size_push]; exact Nat.ne_of_lt (Nat.lt_succ_of_lt ls)
  have nf : s.heap.objs.size ∉ [(s.heap.push (fresh led)).objs.size, l] := by
    rw [Heap.size_push]
    intro z
    simp only [List.mem_cons, List.not_mem_nil, or_false] at z
    rcases z with z | z
    · exact Nat.ne_of_lt (Nat.lt_succ_self _) z
    · exact Nat.ne_of_gt ls z
  have sz : xs.length = items.size := by rw [← StrsAre.len_eq hi, Array.length_toList]
  refine walk ((Walks.tuple h3 _ l ne1 items).toS) nf hn sz (by omega) (fun i v hv => SS.strs_at hi i v (by rw [Array.getElem?_toList]; exact hv)) items.size 0 _ (by omega) ⟨⟨_, Heap.get?_push_size _ rfl, rfl, rfl⟩, l1.push _⟩ ?_ ?_
  · exact PyProof.Rows.SetOf_congr ((PyProof.Rows.setObjOf_fresh (knd := PySem.strKind prog w) led).setOf (Heap.get?_push_of_some _ at0) (by unfold scanBound; omega)) (fun _ => rfl) rfl
  · intro s' hm hs'
    obtain ⟨h', g', d', tk', os'⟩ := s'
    cases (show g' = s.gens from hm.gens); cases (show d' = s.drawn from hm.drawn); cases (show os' = s.os from hm.os)
    show wpAny _ _ _ _ _ _
    refine wpAny_pure ?_
    show wpAny _ _ (ret Value.none) _ _ _
    refine wpAny_pure ⟨rfl, h', tk', rfl, by rw [sz]; exact hs', fun b o e => ?_⟩
    have lb : b < s.heap.objs.size := Heap.lt_size e
    refine hm.heap b o (fun z => ?_) (Heap.get?_push_of_some _ (Heap.get?_push_of_some _ e))
    rw [Heap.size_push] at z
    simp only [List.mem_cons, List.not_mem_nil, or_false] at z
    rcases z with z | z
    · exact Nat.ne_of_lt lb z
    · exact Nat.ne_of_lt (Nat.lt_succ_of_lt lb) z
set_option maxHeartbeats 8000000 in
theorem call_lst {l : Addr} {items : Array Value} {xs : List Str} {Q : Value → Shared → Prop} (hh : A.handled = none) (hl : s.heap.IsList l items) (hi : PyProof.Rows.StrsAre items.toList xs) (hn : xs.Nodup) (hb : xs.length + 1 < scanBound)
    (h : ∀ s2, EndOf prog w xs s s2 → Q (.ref s.heap.objs.size) s2) : wpAny (model prog w) A (call (.type "set") [.ref l]) Q E s := by
  refine call_by (xs := xs) (fun led => ?_) h
  obtain ⟨ol, ho, hc, nl, hd⟩ := hl
  obtain ⟨cl, dc, dt, sl⟩ := ol
  simp only at hc hd
  subst hc; subst hd
  have o1 : (s.heap.push (fresh led)).get? l = some { cls := .type "list", dict := dc, data := .seq items nl, slots := sl } := Heap.get?_push_of_some _ ho
  have l1 : (s.heap.push (fresh led)).IsList l items := ⟨_, o1, rfl, nl, rfl⟩
  have at0 : (s.heap.push (fresh led)).get? s.heap.objs.size = some (fresh led) := Heap.get?_push_size _ rfl
  have u1 := PySem.F.sub_list_set; have u2 := PySem.F.sub_list_frozenset; have u3 : (Value.type "list" == Value.type "dict") = false := by decide
  unfold Builtin.«set.__init__» noKeywords Builtin.Frozenset.updateFrom; generalize hp : pyIter = pit
  wp_walk
  subst hp
  refine wpAny_pyIter_list l1 (wpAny_bind (wpAny_runValue ?_))
  have ls : l < s.heap.objs.size := Heap.lt_size ho
  have h3 : A.in1.in1.in1.handled = none := by simp [hh]
  have ne1 : l ≠ (s.heap.push (fresh led)).objs.size := by rw [Heap.size_push]; exact Nat.ne_of_lt (Nat.lt_succ_of_lt ls)
  have nf : s.heap.objs.size ∉ [(s.heap.push (fresh led)).objs.size, l] := by
    rw [Heap.size_push]
    intro z
    simp only [List.mem_cons, List.not_mem_nil, or_false] at z
    rcases z with z | z
    · exact Nat.ne_of_lt (Nat.lt_succ_self _) z
    · exact Nat.ne_of_gt ls z
  have sz : xs.length = items.size := by rw [← StrsAre.len_eq hi, Array.length_toList]
  refine walk ((Walks.list h3 _ l ne1 items).toS) nf hn sz (by omega) (fun i v hv => SS.strs_at hi i v (by rw [Array.getElem?_toList]; exact hv)) items.size 0 _ (by omega) ⟨⟨_, Heap.get?_push_size _ rfl, rfl, rfl⟩, l1.push _⟩ ?_ ?_
  · exact PyProof.Rows.SetOf_congr ((PyProof.Rows.setObjOf_fresh (knd := PySem.strKind prog w) led).setOf (Heap.get?_push_of_some _ at0) (by unfold scanBound; omega)) (fun _ => rfl) rfl
  · intro s' hm hs'
    obtain ⟨h', g', d', tk', os'⟩ := s'
    cases (show g' = s.gens from hm.gens); cases (show d' = s.drawn from hm.drawn); cases (show os' = s.os from hm.os)
    show wpAny _ _ _ _ _ _
    refine wpAny_pure ?_
    show wpAny _ _ (ret Value.none) _ _ _
    refine wpAny_pure ⟨rfl, h', tk', rfl, by rw [sz]; exact hs', fun b o e => ?_⟩
    have lb : b < s.heap.objs.size := Heap.lt_size e
    refine hm.heap b o (fun z => ?_) (Heap.get?_push_of_some _ (Heap.get?_push_of_some _ e))
    rw [Heap.size_push] at z
    simp only [List.mem_cons, List.not_mem_nil, or_false] at z
    rcases z with z | z
    · exact Nat.ne_of_lt lb z
    · exact Nat.ne_of_lt (Nat.lt_succ_of_lt lb) z
end
end ST
namespace ST
open PySem PySem.Spec PyProof.Rows L2
section
variable {X : Cx}
/-- len(set(xs)): unlike texts -/
def tLenSet (K : PySem.W.Frag) (ta : TE) : TE := fun σ H Q => ta σ H fun x H1 => ∃ (l : Addr) (xs : List Str), x = .ref l ∧ (SqL K H1 l (xs.map V.str) ∨ SqT K H1 l (xs.map V.str)) ∧ xs.Nodup ∧ xs.length < 64 ∧ Q (.int xs.length) H1
theorem pe_lenSet {a : Expr} {ta : TE} {p p2 q pos : Pos} (hc : X.calm = true) (hg : Gl X "len") (hm : X.mg "len" = none) (hg2 : Gl X "set") (hm2 : X.mg "set" = none) (ha : PE X a ta)
    (na : starEach [a] X.env = (false, eval a X.env) :: starEach [] X.env := by rfl) : PE X (.Call (.Name "len" p) [.Call (.Name "set" p2) [a] [] q] [] pos) (tLenSet X.K ta) := by
  refine ⟨fun pins s σ H Q I h => Call_ (ld_blt I hg hm boot_len (PyProof.Rows.callWith_builtin1 (PyProof.Rows.args_cons (Call_ (ld_blt I hg2 hm2 boot_set ?_)) rfl) rfl rfl))⟩
  refine PyProof.Rows.callWith_type1 (PyProof.Rows.args_cons (thn (ha.run pins s σ H _ I h) fun v s1 ⟨x, H1, I1, r1, z1⟩ => PyProof.Rows.args_nil ?_) na) na rfl
  obtain ⟨l, xs, rfl, hs, hn, h6, q1⟩ := z1
  cases r1
  have sb : xs.length + 1 < scanBound := by unfold scanBound; omega
  have fin : ∀ s2, EndOf X.prog X.w xs s1 s2 → wpAny (model X.prog X.w) X.A (spliced (backTo pos (starEach [] X.env))) (fun vs s₂ => wpAny (model X.prog X.w) X.A (call (.builtin "len") (Value.ref s1.heap.objs.size :: vs)) (EP X pins σ Q) X.xe s₂) X.xe s2 := by
    rintro _ ⟨h', tk, rfl, hS, hk⟩
    refine PyProof.Rows.args_nil ?_
    obtain ⟨o, es, ep, t, ho, ex, hd, _, _, _, hf, hn⟩ := hS
    have I2 : Inv X pins σ H1 { s1 with heap := h', toks := tk } := I1.kept hk
    exact call_len_set ho ex hd hf (by rw [hn]; omega) ⟨.int xs.length, H1, I2.tok _, ⟨_, by rw [hn]⟩, q1⟩
  rcases hs with hs | hs
  · obtain ⟨its, r, pl, hz⟩ := I1.list hs
    exact call_lst (I1.ok.hd hc) pl.isList (by simpa using strsAre_of r) hn sb fin
  · obtain ⟨its, r, pl, hz⟩ := I1.tuple hs
    exact call_tup (I1.ok.hd hc) pl (by simpa using strsAre_of r) hn sb fin
end
end ST
set_option Elab.async false
set_option linter.all false
set_option maxRecDepth 100000
set_option maxHeartbeats 4000000
/-! sorted(xs), xs a list of data at any depth -/
namespace SRT
open PySem PySem.Spec PyProof.Rows L2
/-- p stands not behind q -/
def leD (p q : V × PyData) : Bool := !PySem.W.dataLt q.2 p.2
/-- the sorted list -/
def srt (xs : List V) (ds : List PyData) : List V := ((xs.zip ds).mergeSort leD).map Prod.fst
theorem len_of {K : PySem.W.Frag} {H : Hp} : ∀ {xs : List V} {ds : List PyData}, DpAll K H xs ds → xs.length = ds.length
  | _, _, .nil => rfl
  | _, _, .cons _ t => congrArg (· + 1) (len_of t)
theorem srt_perm {xs : List V} {ds : List PyData} (h : xs.length = ds.length) : (srt xs ds).Perm xs := by
  unfold srt
  refine ((List.mergeSort_perm _ _).map Prod.fst).trans ?_
  rw [List.map_fst_zip (by omega)]
theorem vals_each : ∀ {xs : List V} {us : List Value} {ds : List PyData}, Vals xs us → xs.length = ds.length → PySem.W.EachIs (fun v (b : V × PyData) => RelV b.1 v) us (xs.zip ds)
  | [], _, [], .nil, _ => .nil
  | x :: xs, _, d :: ds, .cons r rs, h => .cons r (vals_each rs (by simpa using h))
theorem each_vals : ∀ {us : List Value} {bs : List (V × PyData)}, PySem.W.EachIs (fun v (b : V × PyData) => RelV b.1 v) us bs → Vals (bs.map Prod.fst) us
  | _, _, .nil => .nil
  | _, _, .cons r rs => .cons r (each_vals rs)
def rSortedD (K : PySem.W.Frag) : List V → Hp → VK → Prop := fun vs H Q => ∃ (a : Addr) (xs : List V) (ds : List PyData), vs = [V.ref a] ∧ (SqL K H a xs ∨ SqT K H a xs) ∧ DpAll K H xs ds ∧ PySem.W.AllAlike ds ∧ PySem.W.Sortable ds ∧ (∀ d ∈ ds, d.depth ≤ 60) ∧
  ∀ p : Addr, H p = none → Q (.ref p) (upd H p (.lst (srt xs ds)))
/-! sorted of a tuple -/
section
variable {prog : Program} {w : World} {A : Around} {E : Value → Shared → Prop} {s : Shared} {κ : KeyKind}
theorem gather_tup {b : Addr} {us : List Value} {R : List Value → Shared → Prop} (ht : s.heap.IsTuple b us.toArray) (hz : us.length ≤ sizeLine)
    (h : R us { s with heap := (s.heap.push (seqObj "list" #[] 0)).update s.heap.objs.size (Obj.mapSeq (· ++ us.toArray)) }) : wpAny (model prog w) A (collect (.ref b)) R E s := by
  obtain ⟨ob, e1, e2, k, e3⟩ := id ht
  have e4 : (s.heap.push (seqObj "list" #[] 0)).get? b = some ob := Heap.get?_push_of_some _ e1
  have em : (s.heap.push (seqObj "list" #[] 0)).get? s.heap.objs.size = some (seqObj "list" #[] 0) := Heap.get?_push_size _ rfl
  unfold collect
  refine wpAny_bind (wpAny_runValue (codeAny_builtin entry_proto_collect' ?_))
  show wpAny _ _ (do again (.builtin "list.__iadd__" ⟨[← newList [], .ref b], []⟩)) _ _ s
  refine wpAny_bind (wpAny_newList (wpAny_pure ⟨Code.quiet_builtin _ (by decide +kernel), codeAny_builtin entry_list_iadd' ?_⟩))
  show wpAny _ _ (Builtin.List.listExtendWith (.ref s.heap.objs.size) (.ref b) (.ref s.heap.objs.size)) _ _ { s with heap := s.heap.push (seqObj "list" #[] 0) }
  unfold Builtin.List.listExtendWith
  refine wpAny_bind (wpAny_typeOf (T := "tuple") ⟨ob, e4, e2⟩ ?_)
  have et : (Value.type "tuple" == Value.type "tuple") = true := by rfl
  rw [if_pos (by rw [et]; simp)]
  refine wpAny_bind (listItems_at e4 e3 (wpAny_bind (listItems_at em rfl ?_)))
  rw [if_neg (by simp)]
  refine wpAny_bind (listUpdate_at em rfl ?_ (Nat.zero_le _) (by simp only [Array.size_append, List.size_toArray, List.length_nil]; omega))
  refine wpAny_pure ?_
  show wpAny (model prog w) A (load s.heap.objs.size >>= fun o => match o.data with | .seq xs _ => pure xs.toList | _ => unsupported "internal:collect") R E _
  refine wpAny_bind (wpAny_load (get?_update_seq em _) ?_)
  show wpAny _ _ (pure ((#[] : Array Value) ++ us.toArray).toList) R E _
  have e5 : ((#[] : Array Value) ++ us.toArray).toList = us := by simp
  rw [e5]
  exact wpAny_pure h
theorem sorted_tupV {b : Addr} {us : List Value} {R : Value → Shared → Prop} (ht : s.heap.IsTuple b us.toArray) (hz : us.length ≤ sizeLine)
    (S : PySem.W.SortsAt prog w A.in1.in1 { s with heap := PySem.W.sortingHeap (PySem.W.copyHeap s.heap us) (s.heap.objs.size + 1) us } κ us)
    (h : R (.ref (s.heap.objs.size + 1)) { s with heap := sortedAll s.heap us (PySem.W.sortVals κ false us us).toArray }) : wpAny (model prog w) A (call (.builtin "sorted") [.ref b]) R E s := by
  refine Calls.call_function_entry kind_sorted plain_sorted entry_sorted (args_sorted1 _) ?_
  unfold Builtin.«sorted»
  refine wpAny_bind (m := checkCount "sorted" 1 1 _) (wpAny_pure (wpAny_bind (gather_tup ht hz (wpAny_bind (wpAny_newList ?_ hz)))))
  have e : ((s.heap.push (seqObj "list" #[] 0)).update s.heap.objs.size (Obj.mapSeq (· ++ us.toArray))).objs.size = s.heap.objs.size + 1 := (Heap.size_update ..).trans (size_push' ..)
  show wpAny _ _ _ _ _ { s with heap := PySem.W.copyHeap s.heap us }
  rw [e]
  refine wpAny_bind (wpAny_holding (wpAny_call_entry slot_list_sort ⟨_, PySem.W.copyHeap_at s.heap us, rfl⟩ entry_list_sort ?_ (args_list_sort _)))
  exact PySem.W.list_sort_vals (s := { s with heap := PySem.W.copyHeap s.heap us }) (PySem.W.copyHeap_at s.heap us) S hz ⟨_, rfl, wpAny_pure ⟨_, rfl, h⟩⟩
end
section
variable {X : Cx} {pins : List (Addr × Obj)} {σ : L2.St} {H : Hp} {s : Shared}
theorem reads_each (I : Inv X pins σ H s) : ∀ {ds : List PyData} {vs : List V} {us : List Value}, DpAll X.K H vs ds → Vals vs us → PySem.W.EachIs (fun v d => ∃ as, Reads s.heap v d as) us ds
  | [], _, _, h, r => by
    cases h
    cases r
    exact .nil
  | d :: ds, _, _, h, r => by
    cases h with
    | cons h1 h2 =>
      cases r with
      | cons r1 r2 => exact .cons (Dp.reads I d _ _ h1 r1) (reads_each I h2 r2)
theorem cr_sortedD (hu : X.A.units + 64 < cLine) : CallR X (.builtin "sorted") (rSortedD X.K) := by
  intro pins s σ H vs us Q I r h
  obtain ⟨a, xs, ds, rfl, hs, hd, al, so, dp, q⟩ := h
  rw [Vals.ref1 r]
  have ln := len_of hd
  have main : ∀ its : List Value, Vals xs its → xs.length ≤ sizeLine → ∃ κ : KeyKind, PySem.W.SortsAt X.prog X.w X.A.in1.in1 { s with heap := PySem.W.sortingHeap (PySem.W.copyHeap s.heap its) (s.heap.objs.size + 1) its } κ its ∧
      EP X pins σ Q (.ref (s.heap.objs.size + 1)) { s with heap := sortedAll s.heap its (PySem.W.sortVals κ false its its).toArray } := fun its rv hz => by
    have e := reads_each I hd rv
    have e2 : PySem.W.EachIs (fun v d => ∃ as, Reads (PySem.W.sortingHeap (PySem.W.copyHeap s.heap its) (s.heap.objs.size + 1) its) v d as) its ds := e.mono fun v d ⟨as, h⟩ => ⟨as, Reads.keeps (fun b o z => PySem.W.sorting_copy_old z) h⟩
    have S := PySem.W.SortsAt.data (prog := X.prog) (w := X.w) (A := X.A.in1.in1) (s := { s with heap := PySem.W.sortingHeap (PySem.W.copyHeap s.heap its) (s.heap.objs.size + 1) its }) e2 al so (fun d hd => by have := dp d hd; show X.A.units + 1 + 1 + d.depth < cLine; omega)
    refine ⟨_, S, ?_⟩
    have ek : PySem.W.EachIs (fun v (b : V × PyData) => (PySem.W.dataKind (PySem.W.sortingHeap (PySem.W.copyHeap s.heap its) (s.heap.objs.size + 1) its) ds).keyOf v = some (PySem.W.keyToks b.2)) its (xs.zip ds) := by
      have f := PySem.W.each_keys al e2
      have mz : (xs.zip ds).map Prod.snd = ds := List.map_snd_zip (by omega)
      rw [← mz] at f
      have f' := PySem.W.each_of_map (fun b : V × PyData => b.2) f
      rw [mz] at f'
      exact f'
    have eo := PySem.W.sortVals_each (κ := PySem.W.dataKind (PySem.W.sortingHeap (PySem.W.copyHeap s.heap its) (s.heap.objs.size + 1) its) ds) (rev := false) (fun b : V × PyData => PySem.W.keyToks b.2) (vals_each rv ln) ek
    have vo := each_vals eo
    generalize PySem.W.sortVals _ false its its = out at vo ⊢
    obtain ⟨ep, he'⟩ := PyProof.Rows.sortedAll_at s.heap its out.toArray
    have hlen : (srt xs ds).length ≤ sizeLine := by rw [(srt_perm ln).length_eq]; exact hz
    exact ⟨.ref _, upd H (s.heap.objs.size + 1) (.lst (srt xs ds)), I.laid (t' := s.toks) (fun _ _ => PyProof.Rows.sortedAll_old) (Nat.le_succ _) ⟨hlen, out, ep, vo, he'⟩, rfl, q _ (I.hok.fresh (Nat.le_succ _))⟩
  rcases hs with hs | hs
  · obtain ⟨its, rv, hl, hz⟩ := I.list hs
    obtain ⟨κ, S, k⟩ := main its rv hz
    exact PySem.W.sorted_vals hl.isList S (by rw [← rv.length]; exact hz) k
  · obtain ⟨its, rv, hl, hz⟩ := I.tuple hs
    obtain ⟨κ, S, k⟩ := main its rv hz
    exact sorted_tupV hl (by rw [← rv.length]; exact hz) S k
/-- texts -/
def leS (x y : Str) : Prop := ¬ y.cps.toList < x.cps.toList
theorem dpS {H : Hp} : ∀ xs : List Str, DpAll X.K H (xs.map V.str) (xs.map PyData.str)
  | [] => .nil
  | x :: xs => .cons (.str x) (dpS xs)
theorem srtS (xs : List Str) : ∃ ys : List Str, srt (xs.map V.str) (xs.map PyData.str) = ys.map V.str ∧ ys.Perm xs ∧ ys.Pairwise leS := by
  have tot := PySem.W.sortLe_total (listOrd itemOrd) false (fun p : V × PyData => PySem.W.keyToks p.2)
  have pw := PySem.W.sort_pairwise tot ((xs.map V.str).zip (xs.map PyData.str))
  have pm := List.mergeSort_perm ((xs.map V.str).zip (xs.map PyData.str)) leD
  have mem : ∀ p ∈ ((xs.map V.str).zip (xs.map PyData.str)).mergeSort leD, ∃ x, p = (V.str x, PyData.str x) := fun p hp => by
    have := pm.mem_iff.mp hp
    rw [List.zip_map'] at this
    obtain ⟨x, _, e⟩ := List.mem_map.mp this
    exact ⟨x, e.symm⟩
  have pw' : (((xs.map V.str).zip (xs.map PyData.str)).mergeSort leD).Pairwise fun a b => leD a b = true := pw
  unfold srt
  generalize ((xs.map V.str).zip (xs.map PyData.str)).mergeSort leD = L at pm mem pw'
  have : ∃ ys : List Str, L = ys.map fun x => (V.str x, PyData.str x) := by
    clear pm pw'
    induction L with
    | nil => exact ⟨[], rfl⟩
    | cons p L ih =>
      obtain ⟨x, e⟩ := mem p List.mem_cons_self
      obtain ⟨ys, e2⟩ := ih fun q hq => mem q (List.mem_cons_of_mem _ hq)
      exact ⟨x :: ys, by rw [e, e2]; rfl⟩
  obtain ⟨ys, rfl⟩ := this
  refine ⟨ys, ?_, ?_, ?_⟩
  · rw [List.map_map]
    rfl
  · have p2 := pm.map fun p : V × PyData => match p.1 with | .str x => x | _ => ""
    rw [List.map_map, List.zip_map', List.map_map] at p2
    simpa [Function.comp_def] using p2
  · refine (List.pairwise_map.mp pw').imp fun {a b} h => ?_
    have h' : (!PySem.W.dataLt (.str b) (.str a)) = true := h
    rw [PySem.W.dataLt_str] at h'
    simpa [leS] using h'
/-- sorted of texts, a list or a tuple -/
def rSortedTx (K : PySem.W.Frag) : List V → Hp → VK → Prop := fun vs H Q => ∃ (a : Addr) (xs : List Str), vs = [V.ref a] ∧ (SqL K H a (xs.map V.str) ∨ SqT K H a (xs.map V.str)) ∧
  ∀ (ys : List Str) (p : Addr), ys.Perm xs → ys.Pairwise leS → H p = none → Q (.ref p) (upd H p (.lst (ys.map V.str)))
theorem cr_sortedTx (hu : X.A.units + 64 < cLine) : CallR X (.builtin "sorted") (rSortedTx X.K) := by
  intro pins s σ H vs us Q I r h
  obtain ⟨a, xs, rfl, hs, q⟩ := h
  obtain ⟨ys, e, pm, pw⟩ := srtS xs
  refine cr_sortedD hu pins s σ H _ us Q I r ⟨a, _, xs.map PyData.str, rfl, hs, dpS xs, fun d h1 d' h2 => ?_, .inr fun d h1 => ?_, fun d h1 => ?_, fun p fp => ?_⟩
  · obtain ⟨x, _, rfl⟩ := List.mem_map.mp h1
    obtain ⟨y, _, rfl⟩ := List.mem_map.mp h2
    rfl
  · obtain ⟨x, _, rfl⟩ := List.mem_map.mp h1
    refine ⟨fun z => ?_, fun l z => ?_⟩ <;> cases z
  · obtain ⟨x, _, rfl⟩ := List.mem_map.mp h1
    show 0 ≤ 60
    decide
  · rw [e]
    exact q ys p pm pw fp
end
end SRT
set_option linter.all false
set_option Elab.async false
/-! IO: names put in order by worths, one behind another. -/
namespace IO
open PySem
/-- x is ahead of y, as texts -/
def slt (x y : Str) : Prop := x.cps.toList < y.cps.toList
instance (x y : Str) : Decidable (slt x y) := inferInstanceAs (Decidable (x.cps.toList < y.cps.toList))
theorem slt_trans_not {x y z : Str} (h1 : ¬ slt y x) (h2 : ¬ slt z y) : ¬ slt z x := by
  have a : x.cps.toList ≤ y.cps.toList := h1
  have b : y.cps.toList ≤ z.cps.toList := h2
  exact List.le_trans a b
theorem slt_antisymm {x y : Str} (h1 : ¬ slt y x) (h2 : ¬ slt x y) : x = y := by
  have a : x.cps.toList ≤ y.cps.toList := h1
  have b : y.cps.toList ≤ x.cps.toList := h2
  exact TL.ext_tl (List.le_antisymm a b)
theorem rising : ∀ (l : List Str) (p : Str), PyProof.Rows.risingS p l = true → (p :: l).Pairwise fun a b => ¬ slt b a
  | [], p, _ => List.pairwise_singleton ..
  | x :: r, p, h => by
    have h' : (!PySem.Spec.ltCps x.cps.toList p.cps.toList && PyProof.Rows.risingS x r) = true := h
    rw [Bool.and_eq_true, PyProof.Rows.ltCps_eq] at h'
    have h1 : ¬ slt x p := by
      have := h'.1
      simpa [slt] using this
    have ih := rising r x h'.2
    refine List.pairwise_cons.mpr ⟨fun y hy => ?_, ih⟩
    rcases List.mem_cons.mp hy with e | hy
    · rw [e]; exact h1
    · exact slt_trans_not h1 ((List.pairwise_cons.mp ih).1 y hy)
theorem sorted_pw {l : List Str} (h : PyProof.Rows.sortedS l = true) : l.Pairwise fun a b => ¬ slt b a := by
  cases l with
  | nil => exact List.Pairwise.nil
  | cons x r => exact rising r x h
/-- two lists in order, of the same texts, are one -/
theorem sorted_same {l m : List Str} (h1 : l.Pairwise fun a b => ¬ slt b a) (h2 : m.Pairwise fun a b => ¬ slt b a) (p : l.Perm m) : l = m :=
  List.Perm.eq_of_pairwise (le := fun a b => ¬ slt b a) (fun a b _ _ x y => slt_antisymm x y) h1 h2 p
/-- by worths, alike ones by names -/
def le (ρ : Str → Rat) (x y : Str) : Prop := ρ x < ρ y ∨ (ρ x = ρ y ∧ ¬ slt y x)
theorem le_rat {ρ : Str → Rat} {x y : Str} (h : le ρ x y) : ρ x ≤ ρ y := by
  rcases h with h | h
  · exact Rat.le_of_lt h
  · rw [h.1]; exact Rat.le_refl
theorem put_in {ρ : Str → Rat} {zs : List Str} {x : Str} {j : Nat} (hz : zs.Pairwise (le ρ)) (hx : ∀ z ∈ zs, ¬ slt x z) (hj : j ≤ zs.length) (hi : ∀ z ∈ zs.drop j, ρ x < ρ z) (lo : ∀ z ∈ zs.take j, ρ z ≤ ρ x) :
    (zs.take j ++ [x] ++ zs.drop j).Pairwise (le ρ) := by
  have h0 := hz
  rw [← List.take_append_drop j zs] at h0
  obtain ⟨h1, h2, h3⟩ := List.pairwise_append.mp h0
  rw [List.append_assoc]
  refine List.pairwise_append.mpr ⟨h1, ?_, fun a ha b hb => ?_⟩
  · exact List.pairwise_cons.mpr ⟨fun b hb => .inl (hi b hb), h2⟩
  · rcases List.mem_cons.mp hb with e | hb
    · subst e
      rcases Rat.le_iff_lt_or_eq.mp (lo a ha) with h | h
      · exact .inl h
      · exact .inr ⟨h, hx a (List.mem_of_mem_take ha)⟩
    · exact h3 a ha b hb
theorem put_perm {zs : List Str} {x : Str} (j : Nat) : (zs.take j ++ [x] ++ zs.drop j).Perm (x :: zs) := by
  rw [List.append_assoc]
  have h : (zs.take j ++ ([x] ++ zs.drop j)).Perm (x :: (zs.take j ++ zs.drop j)) := List.perm_middle
  rw [List.take_append_drop] at h
  exact h
end IO
set_option Elab.async false
set_option linter.all false
set_option maxRecDepth 100000
set_option maxHeartbeats 4000000
/-! OW: ==, !=, str and repr of instances of an own class by its own __eq__, __str__, __repr__. -/
namespace OW
open PySem PySem.Spec PyProof.Rows L2
/-- what is known of a special def of the class: where it stands, that it keeps its promise -/
structure Spc (P : Program) (w : World) (K : PySem.W.Frag) (mg : Str → Option Value) (base : Heap) (k : Nat) (C : Addr) (m : Str) (sp : Sp) : Prop where
  ex : ∃ (f : Addr) (fd : FuncData) (ps : List Str), PySem.W.findIn K (.ref C) m = some (some (.ref f)) ∧ PySem.W.isFn K (.ref f) = true ∧ FnOk P w K mg base CX0 k f fd ps sp ∧ Binds K fd ps []
section
variable {X : Cx} {pins : List (Addr × Obj)} {σ : L2.St} {H : Hp} {s : Shared} {Q : VK} {k : Nat} {C a b : Addr} {sp : Sp}
/-- a def called at any around with room -/
theorem run_at {f : Addr} {fd : FuncData} {ps : List Str} {A : Around} {us : List Value} {vs : List V} {E' : Value → Shared → Prop} (F : FnOk X.prog X.w X.K X.mg X.base CX0 k f fd ps sp) (hb : Binds X.K fd ps []) (hr : Room k A) (I : Inv X pins σ H s)
    (he : Env0 X.prog X.w X.K X.mg X.base A X.stack s H) (r : Vals vs us) (h : sp vs H Q E0) : wpAny (model X.prog X.w) A (call (.ref f) us) (EP X pins σ Q) E' s := by
  have hl : us.length = ps.length := by rw [← r.length]; exact F.len _ _ _ _ h
  have b := hb s us I.kIn (by rw [List.append_nil]; exact hl)
  rw [List.append_nil] at b
  refine wpAny_call (codeAny_mono (F.run A X.stack s H ⟨us, []⟩ us vs Q E0 hr he b r h) fun r s' hq => ?_)
  cases r with
  | error e => exact False.elim hq
  | ok fl =>
    cases fl with
    | ret u => exact I.after hq
    | next => exact False.elim hq
    | brk => exact False.elim hq
    | cont => exact False.elim hq
theorem same_first : PySem.W.notFirst X.K C (.ref C) = true := by
  unfold PySem.W.notFirst
  rw [beq_self_eq_true, Bool.true_or]
/-- x == y, both of the class -/
def rEqO (C : Addr) (sp : Sp) : R2 := fun x y H Q => ∃ a dx fs b dy gs, x = .ref a ∧ y = .ref b ∧ H a = some (.ins C dx fs) ∧ H b = some (.ins C dy gs) ∧ sp [x, y] H (fun v H' => ∃ z, v = .bl z ∧ Q (.bl z) H') E0
def rNeO (C : Addr) (sp : Sp) : R2 := fun x y H Q => ∃ a dx fs b dy gs, x = .ref a ∧ y = .ref b ∧ H a = some (.ins C dx fs) ∧ H b = some (.ins C dy gs) ∧ sp [x, y] H (fun v H' => ∃ z, v = .bl z ∧ Q (.bl (!z)) H') E0
theorem op_eqO (S : Spc X.prog X.w X.K X.mg X.base k C "__eq__" sp) (hr : Room k X.A) : OpR X (compareOp .Eq) (rEqO C sp) := by
  obtain ⟨f, fd, ps, h1, h2, F, hb⟩ := S.ex
  intro pins s σ H x y v u Q I rx ry h
  obtain ⟨a, dx, fs, b, dy, gs, rfl, rfl, ea, eb, q⟩ := h
  cases (show v = Value.ref a from rx)
  cases (show u = Value.ref b from ry)
  obtain ⟨mA, O, _⟩ := ins_get I.hok ea
  obtain ⟨od, J, _⟩ := O.look
  obtain ⟨mB, O', _⟩ := ins_get I.hok eb
  obtain ⟨od', J', _⟩ := O'.look
  obtain ⟨m, hF⟩ := I.fr
  show wpAny _ _ (richCompare .Eq (.ref a) (.ref b)) _ _ _
  refine PySem.W.cmp_K (op := .Eq) (tb := .ref C) hr.units0 hF I.ok.mod.kin J J'.type same_first h1 h2 ?_
  refine wpAny_mono (run_at (E' := X.xe) (vs := [.ref a, .ref b]) F hb hr I I.env0 (.cons rfl (.cons rfl .nil)) q) (fun w s' z => ?_) fun _ _ x => x
  obtain ⟨z', H', I', rz, z, rfl, qz⟩ := z
  cases (show w = Value.bool z from rz)
  exact ⟨.bl z, H', I', rfl, qz⟩
open Builtin in
theorem op_neO (S : Spc X.prog X.w X.K X.mg X.base (k + 1) C "__eq__" sp) (hn : PySem.W.findIn X.K (.ref C) "__ne__" = some (some (.builtin "object.__ne__"))) (hm : PySem.W.mroIn X.K C (.type "object") = some true) (hr : Room (k + 2) X.A) : OpR X (compareOp .NotEq) (rNeO C sp) := by
  obtain ⟨f, fd, ps, h1, h2, F, hb⟩ := S.ex
  intro pins s σ H x y v u Q I rx ry h
  obtain ⟨a, dx, fs, b, dy, gs, rfl, rfl, ea, eb, q⟩ := h
  cases (show v = Value.ref a from rx)
  cases (show u = Value.ref b from ry)
  obtain ⟨mA, O, _⟩ := ins_get I.hok ea
  obtain ⟨od, J, _⟩ := O.look
  obtain ⟨mB, O', _⟩ := ins_get I.hok eb
  obtain ⟨od', J', _⟩ := O'.look
  have KI := I.kIn
  have callEq : wpAny (model X.prog X.w) X.A.in1 (call (.ref f) [.ref a, .ref b]) (fun v s' => ∃ z, v = .bool z ∧ EP X pins σ Q (.bool (!z)) s') X.xe s := by
    refine wpAny_mono (run_at (E' := X.xe) (vs := [.ref a, .ref b]) F hb hr.in1 I I.env0.in1 (.cons rfl (.cons rfl .nil)) q) (fun w s' z => ?_) fun _ _ x => x
    obtain ⟨z', H', I', rz, z, rfl, qz⟩ := z
    exact ⟨z, rz, .bl (!z), H', I', rfl, qz⟩
  have slot := PySem.F.cmp_object.ne
  have sub : PySem.W.Looks (model X.prog X.w) s.heap (isInstance (.ref a) (.type "object")) true := J.type.andThen (PySem.W.looks_mroIn KI hm)
  have uu : X.A.in1.units < cLine := hr.in1.units0
  have body : wpAny (model X.prog X.w) X.A.in1 (Builtin.«object.__ne__» ⟨[.ref a, .ref b], []⟩) (fun fin s' => match fin with | .done f => (match f with | .ret v => EP X pins σ Q v s' ∧ ∃ z, v = .bool z | _ => False) | .again _ => False) X.xe s := by
    unfold Builtin.«object.__ne__»
    repeat (first
      | with_reducible refine wpAny_cRoomFor uu ?_
      | (refine wpAny_bind (m := callSpecialIfBound? (.ref a) (Str.ofString "__eq__") [.ref b]) (PySem.W.ifBound_K KI J h1 h2 (wpAny_mono callEq (fun r s' hr => by
          obtain ⟨z, rfl, hq⟩ := hr
          repeat (first | exact ⟨hq, _, rfl⟩ | exact wpAny_pure ⟨hq, _, rfl⟩ | (refine wpAny_bind (m := truthy (.bool _)) (wpAny_truthy_bool ?_)) | wp_step)) fun _ _ e => e)))
      | wp_step)
  have callNe : wpAny (model X.prog X.w) X.A (call (.builtin "object.__ne__") [.ref a, .ref b]) (fun v s' => EP X pins σ Q v s' ∧ ∃ z, v = .bool z) X.xe s := by
    refine wpAny_call (codeAny_call_builtin slot.plain PySem.F.cmpEntry_ne (PySem.W.check_slot PySem.F.cmpKind_ne PySem.F.cmpSplit_ne sub (PySem.F.cmpArgs_ne _ _) ?_))
    refine wpAny_mono body (fun fin s' z => ?_) fun _ _ x => x
    cases fin with
    | done fl =>
      cases fl with
      | ret v => exact z
      | next => exact z.elim
      | brk => exact z.elim
      | cont => exact z.elim
    | again c => exact z.elim
  show wpAny _ _ (richCompare .NotEq (.ref a) (.ref b)) _ _ _
  unfold richCompare
  simp only [oneThing_ref]
  refine wpAny_holding (wpAny_bind (wpAny_cRoomFor hr.units0 ?_))
  rw [cmpInfo_NotEq]
  dsimp only
  refine wpAny_bind (J.type.here (wpAny_bind (J'.type.here ?_)))
  rw [show (Value.ref C != Value.ref C) = false from by simp]
  simp only [Bool.false_eq_true, if_false]
  refine wpAny_bind (wpAny_pure ?_)
  simp only [Bool.false_eq_true, if_false, tryCompare]
  have fin : wpAny (model X.prog X.w) X.A (call (.builtin "object.__ne__") ([.ref a] ++ [.ref b]) >>= fun v => pure (some v)) (fun r s' => ∃ v, r = some v ∧ EP X pins σ Q v s' ∧ ∃ z, v = .bool z) X.xe s :=
    wpAny_bind (wpAny_mono callNe (fun v s' h' => wpAny_pure ⟨v, rfl, h'⟩) fun _ _ h' => h')
  have bound : wpAny (model X.prog X.w) X.A (callSpecialIfBound? (.ref a) "__ne__" [.ref b]) (fun r s' => ∃ v, r = some v ∧ EP X pins σ Q v s' ∧ ∃ z, v = .bool z) X.xe s := by
    simp only [callSpecialIfBound?, bindSpecialIfBound?]
    refine wpAny_holding (wpAny_bind (wpAny_bind (wpAny_bind (J.type.here ((PySem.W.looks_findIn KI hn).here ?_)))))
    simp only [slot.bind]
    refine wpAny_bind (wpAny_askSetting (wpAny_ite ?_))
    split
    · exact wpAny_bind (wpAny_pure (wpAny_pure fin))
    · exact wpAny_tryCatch (wpAny_bind (wpAny_pure (wpAny_pure fin)))
  refine wpAny_bind (wpAny_bind (wpAny_mono bound (fun r s' z => ?_) fun _ _ h => h))
  obtain ⟨v, rfl, hq, z, rfl⟩ := z
  first | exact wpAny_pure (wpAny_pure hq) | exact wpAny_pure hq
/-- str(x), repr(x) -/
def rStrO (C : Addr) (sp : Sp) : List V → Hp → VK → Prop := fun xs H Q => ∃ a dx fs, xs = [.ref a] ∧ H a = some (.ins C dx fs) ∧ sp [.ref a] H (fun v H' => ∃ z, v = .str z ∧ Q (.str z) H') E0
theorem call_strO (S : Spc X.prog X.w X.K X.mg X.base k C "__str__" sp) (hr : Room (k + 2) X.A) : CallR X (.type "str") (rStrO C sp) := by
  obtain ⟨f, fd, ps, h1, h2, F, hb⟩ := S.ex
  intro pins s σ H xs us Q I r h
  obtain ⟨a, dx, fs, rfl, ea, q⟩ := h
  obtain ⟨u, rfl, ru⟩ := vals1 r
  cases (show u = Value.ref a from ru)
  obtain ⟨mA, O, _⟩ := ins_get I.hok ea
  obtain ⟨od, J, _⟩ := O.look
  refine PySem.W.kso_call hr.in1.in1.units0 I.kIn J h1 h2 ?_
  refine wpAny_mono (run_at (E' := X.xe) (vs := [.ref a]) F hb hr.in1.in1 I I.env0.in1.in1 (.cons rfl .nil) q) (fun w s' z => ?_) fun _ _ x => x
  obtain ⟨z', H', I', rz, z, rfl, qz⟩ := z
  obtain ⟨t, rfl⟩ := rz
  exact ⟨.str z, H', I', ⟨t, rfl⟩, qz⟩
theorem call_reprO (S : Spc X.prog X.w X.K X.mg X.base k C "__repr__" sp) (hr : Room (k + 1) X.A) : CallR X (.builtin "repr") (rStrO C sp) := by
  obtain ⟨f, fd, ps, h1, h2, F, hb⟩ := S.ex
  intro pins s σ H xs us Q I r h
  obtain ⟨a, dx, fs, rfl, ea, q⟩ := h
  obtain ⟨u, rfl, ru⟩ := vals1 r
  cases (show u = Value.ref a from ru)
  obtain ⟨mA, O, _⟩ := ins_get I.hok ea
  obtain ⟨od, J, _⟩ := O.look
  obtain ⟨m, hF⟩ := I.fr
  refine PySem.W.repr_K hr.in1.units0 hF I.ok.mod.kin J h1 h2 ?_
  refine wpAny_mono (run_at (E' := X.xe) (vs := [.ref a]) F hb hr.in1 I I.env0.in1 (.cons rfl .nil) q) (fun w s' z => ?_) fun _ _ x => x
  obtain ⟨z', H', I', rz, z, rfl, qz⟩ := z
  obtain ⟨t, rfl⟩ := rz
  exact ⟨.str z, H', I', ⟨t, rfl⟩, qz⟩
end
end OW
set_option Elab.async false
set_option linter.all false
set_option maxRecDepth 100000
set_option maxHeartbeats 4000000
/-! data: texts, pairs -/
namespace DQ
open PySem PySem.Spec PyProof.Rows L2
def pD (q : Int × Int) : PyData := .tuple [.int q.1, .int q.2]
theorem all_strs : ∀ xs : List Str, (∀ x ∈ xs, PyData.strOk x = true) → PyData.canLayAll0 (xs.map PyData.str) = true ∧ PyData.depthAll (xs.map PyData.str) = 0
  | [], _ => ⟨rfl, rfl⟩
  | x :: r, h => by
    obtain ⟨h1, h2⟩ := all_strs r fun y hy => h y (List.mem_cons_of_mem _ hy)
    have h3 := h x List.mem_cons_self
    exact ⟨by simp [PyData.canLayAll0, PyData.canLay0, h1, h3], by simp [PyData.depthAll, PyData.depth, h2]⟩
theorem sh_strs {xs : List Str} (h : ∀ x ∈ xs, PyData.strOk x = true) : SeqAt.shaped (.list (xs.map PyData.str)) = true := by
  obtain ⟨h1, h2⟩ := all_strs xs h
  simp [SeqAt.shaped, PyData.canLay0, PyData.depth, h1, h2]
theorem all_pairs : ∀ qs : List (Int × Int), PyData.canLayAll0 (qs.map pD) = true ∧ PyData.depthAll (qs.map pD) ≤ 2
  | [] => ⟨rfl, by decide⟩
  | _ :: r => by
    obtain ⟨h1, h2⟩ := all_pairs r
    refine ⟨by simp [PyData.canLayAll0, PyData.canLay0, pD, h1], ?_⟩
    show max (PyData.depth (pD _)) (PyData.depthAll (r.map pD)) ≤ 2
    have h3 : ∀ q, PyData.depth (pD q) ≤ 2 := fun q => by show 1 ≤ 2; decide
    exact Nat.max_le.mpr ⟨h3 _, h2⟩
theorem sh_pair (q : Int × Int) : SeqAt.shaped (pD q) = true := rfl
theorem sh_pairs (qs : List (Int × Int)) : SeqAt.shaped (.list (qs.map pD)) = true := by
  obtain ⟨h1, h2⟩ := all_pairs qs
  have h3 : PyData.depthAll (qs.map pD) + 1 ≤ 64 := by omega
  simp [SeqAt.shaped, PyData.canLay0, PyData.depth, h1]
  omega
theorem eq_strs (xs : List Str) : PyData.eqv (.list (xs.map PyData.str)) (.list (xs.map PyData.str)) = true := by
  refine PySem.W.eqv_refl_alike _ ?_
  induction xs with
  | nil => rfl
  | cons x xs ih => simpa [PySem.W.alike, PySem.W.alikeAll] using ih
theorem eq_pair (q : Int × Int) : PyData.eqv (pD q) (pD q) = true := PySem.W.eqv_refl_alike _ rfl
theorem eq_pairs (qs : List (Int × Int)) : PyData.eqv (.list (qs.map pD)) (.list (qs.map pD)) = true := by
  refine PySem.W.eqv_refl_alike _ ?_
  induction qs with
  | nil => rfl
  | cons x xs ih => simpa [PySem.W.alike, PySem.W.alikeAll, pD] using ih
theorem dp_strs {K : PySem.W.Frag} {H : Hp} : ∀ xs : List Str, DpAll K H (xs.map V.str) (xs.map PyData.str)
  | [] => .nil
  | x :: xs => .cons (.str x) (dp_strs xs)
theorem dp_pair {K : PySem.W.Frag} {H : Hp} {t : Addr} {q : Int × Int} (h : H t = some (.tup [.int q.1, .int q.2])) : Dp K H (.ref t) (pD q) := .tup (SqT.of h) (.cons (.int _) (.cons (.int _) .nil))
theorem dp_pairs {K : PySem.W.Frag} {H : Hp} : ∀ L : List (Addr × (Int × Int)), (∀ p ∈ L, H p.1 = some (.tup [.int p.2.1, .int p.2.2])) → DpAll K H (L.map fun p => V.ref p.1) ((L.map (·.2)).map pD)
  | [], _ => .nil
  | p :: L, h => .cons (dp_pair (h p List.mem_cons_self)) (dp_pairs L fun q hq => h q (List.mem_cons_of_mem _ hq))
/-- a dict by names -/
theorem val_map (f : Str → V) {y : Str} : ∀ {l : List Str}, y ∈ l → valV (l.map fun x => ((Sum.inr x : Key), f x)) (Sum.inr y) = some (f y)
  | x :: l, h => by
    rw [List.map_cons]
    by_cases e : x = y
    · rw [valV_pos (by rw [e])]
      rw [e]
    · rw [valV_neg (fun z => e (Sum.inr.inj z))]
      exact val_map f ((List.mem_cons.mp h).resolve_left fun z => e z.symm)
theorem val_none (f : Str → V) {y : Str} : ∀ {l : List Str}, y ∉ l → valV (l.map fun x => ((Sum.inr x : Key), f x)) (Sum.inr y) = none
  | [], _ => rfl
  | x :: l, h => by
    rw [List.map_cons, valV_neg (fun z => h (by rw [Sum.inr.inj z]; exact List.mem_cons_self))]
    exact val_none f fun z => h (List.mem_cons_of_mem _ z)
theorem put_new (f : Str → V) {y : Str} {l : List Str} (h : y ∉ l) : putK (l.map fun x => ((Sum.inr x : Key), f x)) (Sum.inr y) (f y) = (l ++ [y]).map fun x => ((Sum.inr x : Key), f x) := by
  rw [putK_new _ (val_none f h), List.map_append]
  rfl
theorem put_old (f : Str → V) {y : Str} {v : V} {l : List Str} (h : y ∈ l) : putK (l.map fun x => ((Sum.inr x : Key), f x)) (Sum.inr y) v = l.map fun x => ((Sum.inr x : Key), if x = y then v else f x) := by
  have a : ((l.map fun x => ((Sum.inr x : Key), f x)).any fun kv => decide (kv.1 = Sum.inr y)) = true := by
    rw [List.any_eq_true]
    exact ⟨(Sum.inr y, f y), List.mem_map.mpr ⟨y, h, rfl⟩, by simp⟩
  unfold putK
  rw [if_pos a, List.map_map]
  refine List.map_congr_left fun x _ => ?_
  show (if (Sum.inr x : Key) = Sum.inr y then ((Sum.inr x : Key), v) else (Sum.inr x, f x)) = _
  by_cases e : x = y
  · rw [if_pos (by rw [e]), if_pos e]
  · rw [if_neg (fun z => e (Sum.inr.inj z)), if_neg e]
theorem merge_map (f : Str → V) : ∀ {l m : List Str}, (m ++ l).Nodup → mergeK (m.map fun x => ((Sum.inr x : Key), f x)) (l.map fun x => ((Sum.inr x : Key), f x)) = (m ++ l).map fun x => ((Sum.inr x : Key), f x)
  | [], m, _ => by rw [List.append_nil]; rfl
  | y :: l, m, h => by
    have h' : (m ++ [y] ++ l).Nodup := by rw [List.append_assoc]; exact h
    have ny : y ∉ m := fun z => by
      have := (List.nodup_append.mp h).2.2 y z y List.mem_cons_self
      exact this rfl
    show mergeK (putK _ (Sum.inr y) (f y)) (l.map fun x => ((Sum.inr x : Key), f x)) = _
    rw [put_new f ny, merge_map f h', List.append_assoc]
    rfl
end DQ
set_option Elab.async false
set_option linter.all false
set_option maxRecDepth 100000
set_option maxHeartbeats 4000000
/-! C3: a op b op c op d, asked from the left. -/
namespace C3
open PySem PySem.Spec PyProof.Rows L2
section
variable {X : Cx} {a b c d : Expr} {ta tb tc td : TE} {pos : Pos}
def tChain3 (r r' r'' : R2) (ta tb tc td : TE) : TE := fun σ H Q => ta σ H fun x H1 => tb σ H1 fun y H2 => r x y H2 fun z H3 => ∃ k, z = .bl k ∧
  (if k = true then tc σ H3 fun w' H4 => r' y w' H4 fun z2 H5 => ∃ k2, z2 = .bl k2 ∧ (if k2 = true then td σ H5 fun w2 H6 => r'' w' w2 H6 Q else Q (.bl false) H5) else Q (.bl false) H3)
theorem pe_chain3 {op op' op'' : CmpOp} {r r' r'' : R2} (ho : OpR X (compareOp op) r) (ho' : OpR X (compareOp op') r') (ho'' : OpR X (compareOp op'') r'') (ha : PE X a ta) (hb : PE X b tb) (hc : PE X c tc) (hd : PE X d td)
    (hm : lastMarks [op, op', op''] [b, c, d] = false := by with_unfolding_all rfl) : PE X (.Compare a [op, op', op''] [b, c, d] pos) (tChain3 r r' r'' ta tb tc td) := by
  refine ⟨fun pins s σ H Q I h => ?_⟩
  refine Compare_chain (thn (ha.run pins s σ H _ I h) fun v s1 ⟨x, H1, I1, r1, q1⟩ => chain_link (thn (hb.run pins s1 σ H1 _ I1 q1) fun u s2 ⟨y, H2, I2, r2, q2⟩ =>
    thn (ho pins s2 σ H2 x y v u _ I2 r1 r2 q2) fun e s3 ⟨z, H3, I3, r3, k, ez, q3⟩ => ?_)) hm
  subst ez
  cases r3
  refine wpAny_truthy_bool ?_
  cases k with
  | false => exact ite_ff ⟨.bl false, H3, I3, rfl, q3⟩
  | true =>
    refine ite_tt (chain_link (thn (hc.run pins s3 σ H3 _ I3 q3) fun w' s4 ⟨z', H4, I4, r4, q4⟩ => thn (ho' pins s4 σ H4 y z' u w' _ I4 r2 r4 q4) fun e s5 ⟨z2, H5, I5, r5, k2, ez, q5⟩ => ?_))
    subst ez
    cases r5
    refine wpAny_truthy_bool ?_
    cases k2 with
    | false => exact ite_ff ⟨.bl false, H5, I5, rfl, q5⟩
    | true => exact ite_tt (chain_last (thn (hd.run pins s5 σ H5 _ I5 q5) fun w2 s6 ⟨z3, H6, I6, r6, q6⟩ => ho'' pins s6 σ H6 z' z3 w' w2 Q I6 r4 r6 q6))
end
end C3
set_option Elab.async false
set_option linter.all false
set_option maxRecDepth 100000
set_option maxHeartbeats 4000000
/-! SDC: a dict comprehension assigned to a plain local on one line; a dict comprehension over a list. -/
namespace SDC
open PySem PySem.Spec PyProof.Rows L2
section
variable {X : Cx}
theorem ps_setDc {i : Nat} {y : Str} {py : Pos} {kx vx tg iter : Expr} {ifs : List Expr} {scope : Scope} {own : List (Str × Nat)} {pos spos : Pos} {wi : TI} {g : TG} {tt : TT} {tk tv : TE} (hc : X.calm = true) (hN : X.N.Nodup) (hy : X.N[i]? = some y) (hyl : X.env.scope.names.lookup y = some .local)
    (hsw : swapsWith (.DictComp kx vx [⟨tg, iter, ifs, 0⟩] scope pos) (some (.Name y py)) spos.line X.env = pure true) (hi : PI X tg iter wi) (ok : BlkOk X.N X.env.scope scope own)
    (hg : ∀ (s : Shared) (H : Hp) (C : Addr) (cl : List (Str × Addr)) (fp : List Addr), PG (X.blk s H scope (compEnvC scope cl C X.env) fp) tg g) (ht : ∀ (s : Shared) (H : Hp) (C : Addr) (cl : List (Str × Addr)) (fp : List Addr), PTs (X.blk s H scope (compEnvC scope cl C X.env) fp) ifs tt)
    (hk : ∀ (s : Shared) (H : Hp) (C : Addr) (cl : List (Str × Addr)) (fp : List Addr), PE (X.blk s H scope (compEnvC scope cl C X.env) fp) kx tk)
    (he : ∀ (s : Shared) (H : Hp) (C : Addr) (cl : List (Str × Addr)) (fp : List Addr), PE (X.blk s H scope (compEnvC scope cl C X.env) fp) vx tv) (hs : ∀ x, foldedSetIterable iter X.env x = pure x := by intro _; rfl) :
    PS X (.Assign [.Name y py] (.DictComp kx vx [⟨tg, iter, ifs, 0⟩] scope pos) spos) (tAsg (tDc wi g tt tk tv (own.map (·.2))) (gName i)) := by
  refine ⟨fun pins s σ H D I h => ?_⟩
  rw [exec_Assign_Name_used _ _ _ _ hsw]
  refine wpAny_bind (wpAny_standAt (wpAny_bind ?_))
  show wpAny _ X.A (do let _ ← comprehension (.DictComp kx vx [⟨tg, iter, ifs, 0⟩] scope pos) scope X.env (firstIterPos [⟨tg, iter, ifs, 0⟩] pos) newDict false (eval iter X.env) (some (assign (.Name y py) X.env))) _ _ s
  have h : tDc wi g tt tk tv (own.map (·.2)) σ H (fun x H1 => gName i x σ H1 D.nx) := h
  refine wpAny_bind (thn (dc_core (Qf := fun _ s' => SP X pins D .next s') hc hN I hi ok hg ht hk he hs h fun L C s' m H' I' q hn f => ?_) fun _ s' hq => wpAny_pure (wpAny_pure hq))
  show wpAny _ _ (assign (.Name y py) X.env (.ref L)) _ _ _
  refine wpAny_assign_Name (store_ok2 (v := V.ref L) I' hN hy (.inl hyl) rfl (fun s2 I2 ⟨a, sb, ha⟩ => ?_) (.inr hyl))
  obtain ⟨f0, f1, f2, f3, f4, f5⟩ := f
  have haC : C ≠ a := by
    rcases ha with z | z
    · rw [z]; exact f1
    · exact fun e => f4 y a z e.symm
  refine ⟨m, hn.sameBut sb haC, fun h3 sb3 => ?_⟩
  exact ⟨_, H', I2.turned (t' := s2.toks) (fun b o hb e => (sb3.2 b hb).trans e) f0 f1 f3 f4 f5, q⟩
theorem sw_true {kx vx : Expr} {gs : List Comprehension} {scope : Scope} {pos py : Pos} {y : Str} {l : Nat} {env : Env} (hk : env.scope.kind = .function) (hy : env.scope.names.lookup y = some .local) (hl : (py.line == pos.line) = true)
    (ha : (scope.names.any fun (n, k) => n == y && (k == .local || k == .cell)) = false) : swapsWith (.DictComp kx vx gs scope pos) (some (.Name y py)) l env = pure true := by
  have ky : env.kindOf y = some .local := hy
  have hb : env.blockKind = .function := by unfold Env.blockKind; rw [hk]; rfl
  unfold swapsWith
  simp only [hb, ky, ha, Expr.pos, hl]
  rfl
end
theorem dc_list {K : PySem.W.Frag} {a : Addr} {xs : List V} {g : TG} {tt : TT} {tk tv : TE} {vs : List Nat} {σ : L2.St} {H1 : Hp} {D : Addr} {Qd : Hp → Prop} (Pv : Nat → Hp → Prop) (h0 : Pv 0 (upd H1 D (.dK []))) (hl : ∀ i H, i ≤ xs.length → Pv i H → SqL K H a xs)
    (hs : ∀ i x H, xs[i]? = some x → Pv i H → g x (wipe σ vs) H fun σ2 H2 => wipe σ2 vs = wipe σ vs ∧ tt σ2 H2 fun b H3 =>
      if b = true then tk σ2 H3 fun y H4 => tv σ2 H4 fun z H5 => ∃ kvs k, y = kV k ∧ H5 D = some (.dK kvs) ∧ kvs.length < sizeLine ∧ Pv (i + 1) (upd H5 D (.dK (putK kvs k z))) else Pv (i + 1) H3) (hd : ∀ H, Pv xs.length H → Qd H) :
    ∃ W : Nat → Nat → Hp → Prop, (∃ m, W 0 m (upd H1 D (.dK []))) ∧ ∀ i m H, W i m H →
      ((Itl K a).stop i H ∧ Qd H) ∨ ((Itl K a).go i H ∧ ∃ Nx : Hp → Prop, (∀ H', Nx H' → ∃ m', m' < m ∧ W (i + 1) m' H') ∧ ∀ x H', (Itl K a).yld i H x H' → g x (wipe σ vs) H' fun σ2 H2 => wipe σ2 vs = wipe σ vs ∧ tt σ2 H2 fun b H3 =>
        if b = true then tk σ2 H3 fun y H4 => tv σ2 H4 fun z H5 => ∃ kvs k, y = kV k ∧ H5 D = some (.dK kvs) ∧ kvs.length < sizeLine ∧ Nx (upd H5 D (.dK (putK kvs k z))) else Nx H3) := by
  refine ⟨fun i m H => m = xs.length - i ∧ i ≤ xs.length ∧ Pv i H, ⟨xs.length, by simp, Nat.zero_le _, h0⟩, ?_⟩
  rintro i m H ⟨rfl, hi, p⟩
  have q := hl i H hi p
  by_cases hlt : i < xs.length
  · refine .inr ⟨⟨xs, xs[i], q, by simp [hlt]⟩, Pv (i + 1), fun H' p' => ⟨xs.length - (i + 1), by omega, rfl, hlt, p'⟩, fun x H' y => ?_⟩
    obtain ⟨e, y⟩ := y
    subst e
    exact hs i x _ (y xs q) p
  · have e : i = xs.length := by omega
    subst e
    exact .inl ⟨⟨xs, q, Nat.le_refl _⟩, hd H p⟩
/-- a row that is put anew comes from one of the row -/
theorem perm_inv {α β : Type} {f : α → β} : ∀ {l' z : List β}, l'.Perm z → ∀ {l : List α}, l.map f = z → ∃ m : List α, m.Perm l ∧ l' = m.map f := by
  intro l' z h
  induction h with
  | nil =>
    intro l e
    cases l with
    | nil => exact ⟨[], .nil, rfl⟩
    | cons _ _ => cases e
  | cons x h ih =>
    intro l e
    cases l with
    | nil => cases e
    | cons a as =>
      simp only [List.map_cons, List.cons.injEq] at e
      obtain ⟨m, p, rfl⟩ := ih e.2
      exact ⟨a :: m, p.cons a, by rw [List.map_cons, e.1]⟩
  | swap x y t =>
    intro l e
    match l, e with
    | a :: b :: t', e =>
      simp only [List.map_cons, List.cons.injEq] at e
      obtain ⟨e1, e2, e3⟩ := e
      exact ⟨b :: a :: t', List.Perm.swap _ _ _, by rw [List.map_cons, List.map_cons, e1, e2, e3]⟩
  | trans h1 h2 ih1 ih2 =>
    intro l e
    obtain ⟨m2, p2, e2⟩ := ih2 e
    obtain ⟨m1, p1, e1⟩ := ih1 e2.symm
    exact ⟨m1, p1.trans p2, e1⟩
end SDC
set_option Elab.async false
set_option linter.all false
set_option maxRecDepth 100000
set_option maxHeartbeats 4000000
namespace K21
open PySem PySem.Spec PyProof.Rows L2
open C8 (Cal Mak Met pe_c pe_mk pe_mt pe_mt0)
open SX (S)
/-- a rider: name, on, off -/
abbrev Rd := Str × Int × Int
def rdV (r : Rd) : List V := [.str r.1, .int r.2.1, .int r.2.2]
def rdD (r : Rd) : PyData := .tuple [.str r.1, .int r.2.1, .int r.2.2]
/-- riders stand in a list -/
def Fk (H : Hp) (fl : Addr) (fs : List (Addr × Rd)) : Prop := H fl = some (.lst (fs.map fun z => V.ref z.1)) ∧ ∀ z ∈ fs, H z.1 = some (.tup (rdV z.2))
theorem Fk.same {H H' : Hp} {fl : Addr} {fs : List (Addr × Rd)} (h : Fk H fl fs) (s : Same H H') : Fk H' fl fs := ⟨s _ _ h.1, fun z hz => s _ _ (h.2 z hz)⟩
def nms (fs : List (Addr × Rd)) : List Str := fs.map (·.2.1)
/-- right riders -/
structure RdOk (drv : Str) (legs : Int) (fs : List (Addr × Rd)) : Prop where
  len : fs.length ≤ 11
  nm : ∀ z ∈ fs, ∃ l, z.2.1 = S l ∧ NM.ok l
  ok : ∀ z ∈ fs, 0 ≤ z.2.2.1 ∧ z.2.2.1 < z.2.2.2 ∧ z.2.2.2 ≤ legs
  nd : (drv :: nms fs).Nodup
theorem RdOk.perm {drv : Str} {legs : Int} {fs gs : List (Addr × Rd)} (h : RdOk drv legs fs) (p : gs.Perm fs) : RdOk drv legs gs :=
  ⟨by rw [p.length_eq]; exact h.len, fun z hz => h.nm z (p.mem_iff.mp hz), fun z hz => h.ok z (p.mem_iff.mp hz), (List.Perm.cons _ (p.map _)).nodup_iff.mpr h.nd⟩
/-- a right ride -/
structure WayOk (day : Int) (drv : Str) (fs : List (Addr × Rd)) (legs worth : Int) (lt : List Str) : Prop where
  d0 : 0 ≤ day
  d1 : day ≤ 1000000
  dn : ∃ l, drv = S l ∧ NM.ok l
  l1 : 1 ≤ legs
  l12 : legs ≤ 12
  w1 : 1 ≤ worth
  w9 : worth ≤ 1000
  rd : RdOk drv legs fs
  ltn : lt.Nodup
  lts : ∀ x ∈ lt, x ∈ nms fs
theorem inV_strs (x : Str) : ∀ R : List Str, inV (.str x) (R.map V.str) = decide (x ∈ R)
  | [] => rfl
  | y :: R => by
    have ih := inV_strs x R
    unfold inV at ih ⊢
    rw [List.map_cons, List.any_cons, ih]
    have e : eqV (.str y) (.str x) = decide (x = y) := by
      show decide (y = x) = decide (x = y)
      exact decide_eq_decide.mpr ⟨Eq.symm, Eq.symm⟩
    rw [e]
    simp [Bool.decide_or]
theorem flat_strs (R : List Str) : (R.map V.str).all flatV = true := by
  rw [List.all_eq_true]
  intro v hv
  obtain ⟨y, _, rfl⟩ := List.mem_map.mp hv
  rfl
theorem reps_all (n : Nat) : (List.replicate n true).all id = true := by simp
theorem reps_snoc (i : Nat) : (List.replicate i true).map V.bl ++ [V.bl true] = (List.replicate (i + 1) true).map V.bl := by simp [List.replicate_succ']
section
variable {P : Program} {w : World} {K : PySem.W.Frag} {mg : Str → Option Value} {base : Heap} {f C CR : Addr} {fd : FuncData}
def spRider : Sp := fun vs H Q _ => ∃ (t : Addr) (r : Rd) (legs : Int), vs = [.ref t, .int legs] ∧ H t = some (.tup (rdV r)) ∧ (∃ l, r.1 = S l ∧ NM.ok l) ∧ 0 ≤ r.2.1 ∧ r.2.1 < r.2.2 ∧ r.2.2 ≤ legs ∧ ∀ H', Same H H' → Q (.bl true) H'
theorem ok_rider (F : Dn K d_is_rider f fd) (b : Bl mg) (b2 : Bl2 mg) (cW : CalW P w K mg base) (cN : Cal P w K mg base 1 "is_name" spName []) : FnOk P w K mg base CX0 2 f fd ["thing", "legs"] spRider := by
  refine F.ok sc_is_rider (fun vs H Q E h => ?_) (fun cdv A outer s H vs Q E hr h => ?_)
  · obtain ⟨t, r, legs, rfl, _⟩ := h
    rfl
  · obtain ⟨t, ⟨nm, on, off⟩, legs, rfl, ht, ⟨l, e, okl⟩, h0, h1, h2, hQ⟩ := h
    obtain rfl : nm = S l := e
    have h0 : 0 ≤ on := h0
    have h1 : on < off := h1
    have h2 : off ≤ legs := h2
    have ht : H t = some (.tup [.str (S l), .int on, .int off]) := ht
    refine ⟨_, PSs.nox (pss_cons (ps_if (PW.pt (pw_or (pt_not (pt_val (pe_callB call_isi rfl b.isi boot_isinstance (pa_cons (pv 0) (pa_cons (pe_bltn (v := .ty "tuple") rfl b2.tup boot_tuple rfl) pa_nil)))))
        (pw_or (pt_cmpR op_ne (pe_callB call_len_seq rfl b.len boot_len (pa_cons (pv 0) pa_nil)) pe_int (nomark _))
        (pw_or1 (pt_not (pt_val (pe_c cN hr (by decide) rfl (pa_cons (pe_ix ix_tup (pv 0) pe_int (fun _ _ => rfl)) pa_nil)))))))) pss_never pss_nil)
      (pss_one (ps_ret (pe_and (pe_c cW hr (by decide) rfl (pa_cons (pe_ix ix_tup (pv 0) pe_int (fun _ _ => rfl)) pa_nil)) (pe_and (pe_c cW hr (by decide) rfl (pa_cons (pe_ix ix_tup (pv 0) pe_int (fun _ _ => rfl)) pa_nil))
        (pe_one (C3.pe_chain3 op_le op_lt op_le pe_int (pe_ix ix_tup (pv 0) pe_int (fun _ _ => rfl)) (pe_ix ix_tup (pv 0) pe_int (fun _ _ => rfl)) (pv 1)))))))), ?_⟩
    refine ⟨_, rfl, _, _, _, _, true, rfl, ClsV.ty _, TyX.base (TyOf.tup ht), kit_ty (by decide +kernel), true, rfl, iteF ?_⟩
    refine ⟨_, rfl, t, _, rfl, .inr (SqT.of ht), rfl, _, rfl, iteF ?_⟩
    refine ⟨_, rfl, t, _, _, _, rfl, rfl, SqT.of ht, rfl, l, rfl, okl, fun H2 s2 => ⟨true, rfl, iteF ?_⟩⟩
    have ht2 := s2 _ _ ht
    refine ⟨_, rfl, t, _, _, _, rfl, rfl, SqT.of ht2, rfl, on, rfl, true, rfl, iteT ?_⟩
    refine ⟨_, rfl, t, _, _, _, rfl, rfl, SqT.of ht2, rfl, off, rfl, true, rfl, iteT ?_⟩
    refine ⟨_, rfl, t, _, _, _, rfl, rfl, SqT.of ht2, rfl, _, _, rfl, rfl, _, rfl, ?_⟩
    refine ite2 (fun _ => ?_) (fun z => absurd (decide_eq_true h0) z)
    refine ⟨_, rfl, t, _, _, _, rfl, rfl, SqT.of ht2, rfl, _, _, rfl, rfl, _, rfl, ?_⟩
    refine ite2 (fun _ => ?_) (fun z => absurd (decide_eq_true h1) z)
    refine ⟨_, rfl, _, _, rfl, rfl, ?_⟩
    show Q (.bl (decide (off ≤ legs))) H2
    rw [decide_eq_true h2]
    exact hQ H2 s2
/-- [rider[0] for rider in riders] -/
def spRiders : Sp := fun vs H Q _ => ∃ (fl : Addr) (fs : List (Addr × Rd)) (drv : Str) (legs : Int), vs = [.ref fl, .str drv, .int legs] ∧ Fk H fl fs ∧ RdOk drv legs fs ∧ ∀ H', Same H H' → Q (.bl true) H'
theorem ok_riders (F : Dn K d_are_riders f fd) (b : Bl mg) (b2 : Bl2 mg) (g : ∃ t, mg "MOST_RIDERS" = some (.int 11 t)) (cR : Cal P w K mg base 2 "is_rider" spRider []) : FnOk P w K mg base CX0 3 f fd ["thing", "driver", "legs"] spRiders := by
  refine F.ok sc_are_riders (fun vs H Q E h => ?_) (fun cdv A outer s H vs Q E hr h => ?_)
  · obtain ⟨fl, fs, drv, legs, rfl, _⟩ := h
    rfl
  · obtain ⟨fl, fs, drv, legs, rfl, fk, ok, hQ⟩ := h
    obtain ⟨t, g⟩ := g
    have len := ok.len
    refine ⟨_, PSs.nox (pss_cons (ps_if (PW.pt (pw_or (pt_not (pt_val (pe_callB call_isi rfl b.isi boot_isinstance (pa_cons (pv 0) (pa_cons (pe_bltn (v := .ty "list") rfl b.list boot_list rfl) pa_nil)))))
        (pw_or1 (pt_cmpR op_gt (pe_callB call_len_seq rfl b.len boot_len (pa_cons (pv 0) pa_nil)) (pe_glob (v := .int 11) rfl g ⟨t, rfl⟩) (nomark _))))) pss_never pss_nil)
      (pss_cons (ps_if (pt_not (pt_val (pe_callB (cr_all rfl) rfl b.all boot_all (pa_cons (pe_lc (own := [("rider", 4)]) (g := gName 4) (tt := tYes) rfl sc_are_riders.nd (pi_list (pv 0)) (blkOk_by (N := N_are_riders) (sc := defScope s_are_riders) (by decide +kernel))
          (fun _ _ _ _ _ => pg_name (i := 4) sc_are_riders.nd rfl (Or.inl rfl)) (fun _ _ _ _ _ => pts_nil) (fun _ _ _ _ _ => pe_c cR hr (by decide) rfl (pa_cons (pv 4) (pa_cons (pv 2) pa_nil)))) pa_nil)))) pss_never pss_nil)
      (pss_cons (ps_set (i := 3) sc_are_riders.nd rfl (.inl rfl) (pe_op op_cat (pe_lst (pa_cons (pv 1) pa_nil)) (pe_lc (own := [("rider", 4)]) (g := gName 4) (tt := tYes) rfl sc_are_riders.nd (pi_list (pv 0)) (blkOk_by (N := N_are_riders) (sc := defScope s_are_riders) (by decide +kernel))
          (fun _ _ _ _ _ => pg_name (i := 4) sc_are_riders.nd rfl (Or.inl rfl)) (fun _ _ _ _ _ => pts_nil) (fun _ _ _ _ _ => pe_ix (r := rIxT K) ix_tup (pv 4) pe_int (fun _ _ => rfl)))))
      (pss_one (ps_ret (pe_cmpR op_eq (ST.pe_lenSet rfl rfl b.len rfl b2.set (pv 3)) (pe_callB call_len_seq rfl b.len boot_len (pa_cons (pv 3) pa_nil)) (nomark _))))))), ?_⟩
    refine ⟨_, rfl, _, _, _, _, true, rfl, ClsV.ty _, TyX.base (TyOf.lst fk.1), kit_ty (by decide +kernel), true, rfl, iteF ?_⟩
    refine ⟨_, rfl, fl, _, rfl, .inl (SqL.of fk.1), _, _, rfl, rfl, _, rfl, ?_⟩
    rw [List.length_map]
    refine ite2 (fun z => absurd (of_decide_eq_true z) (by omega)) (fun _ => ?_)
    refine ⟨_, rfl, fl, rfl, ⟨_, SqL.of fk.1⟩, fun D hD => lc_list (K := K) (xs := fs.map fun z => V.ref z.1) (fun i H2 => H2 D = some (.lst ((List.replicate i true).map V.bl)) ∧ Same H H2) ⟨upd_same, same_new hD⟩ (fun _ H2 _ z => SqL.of (z.2 _ _ fk.1)) ?_ ?_⟩
    · rintro i x H2 hx ⟨hd, sm⟩
      have hi' : i < fs.length := by
        have := (List.getElem?_eq_some_iff.mp hx).1
        simpa using this
      rw [List.getElem?_map] at hx
      obtain ⟨y, hy, rfl⟩ := Option.map_eq_some_iff.mp hx
      have hm := List.mem_of_getElem? hy
      refine ⟨rfl, ?_⟩
      refine ⟨_, rfl, _, rfl, y.1, y.2, legs, rfl, sm _ _ (fk.2 y hm), ok.nm y hm, (ok.ok y hm).1, (ok.ok y hm).2.1, (ok.ok y hm).2.2, fun H3 s3 => ⟨_, s3 _ _ hd, ?_, ?_, ?_⟩⟩
      · rw [List.length_map, List.length_replicate]
        exact Nat.lt_of_lt_of_le (by omega : i < 64) (by decide)
      · rw [upd_same, reps_snoc]
      · intro a o e
        rw [upd_ne (ne_of_none e hD)]
        exact s3 a o (sm a o e)
    rintro H2 ⟨hd, sm⟩
    refine ⟨D, _, rfl, SqL.of hd, true, ?_, iteF ?_⟩
    · rw [reps_all]
    have fk2 := fk.same sm
    refine ⟨_, rfl, by show 1 ≤ sizeLine; decide, fun d1 fd1 => ?_⟩
    have s1 := same_new (o := .lst [.str drv]) fd1
    have fk3 := fk2.same s1
    have hd1 : (upd H2 d1 (.lst [.str drv])) d1 = some (.lst [.str drv]) := upd_same
    have s13 := sm.trans s1
    generalize upd H2 d1 (.lst [.str drv]) = H3 at fk3 hd1 s13
    refine ⟨_, rfl, fl, rfl, ⟨_, SqL.of fk3.1⟩, fun D2 hD2 => lc_list (K := K) (xs := fs.map fun z => V.ref z.1) (fun i H4 => H4 D2 = some (.lst ((nms (fs.take i)).map V.str)) ∧ Same H3 H4) ⟨upd_same, same_new hD2⟩ (fun _ H4 _ z => SqL.of (z.2 _ _ fk3.1)) ?_ ?_⟩
    · rintro i x H4 hx ⟨hd, sm⟩
      have hi' : i < fs.length := by
        have := (List.getElem?_eq_some_iff.mp hx).1
        simpa using this
      rw [List.getElem?_map] at hx
      obtain ⟨y, hy, rfl⟩ := Option.map_eq_some_iff.mp hx
      have hm := List.mem_of_getElem? hy
      have et : fs.take (i + 1) = fs.take i ++ [y] := by rw [List.take_succ, hy]; rfl
      refine ⟨rfl, ?_⟩
      refine ⟨_, rfl, y.1, _, _, .str y.2.1, rfl, rfl, SqT.of (sm _ _ (fk3.2 y hm)), rfl, _, hd, ?_, ?_, ?_⟩
      · unfold nms
        rw [List.length_map, List.length_map, List.length_take]
        exact Nat.lt_of_lt_of_le (by omega : min i fs.length < 64) (by decide)
      · rw [upd_same, et]
        unfold nms
        rw [List.map_append, List.map_append]
        rfl
      · intro a o e
        rw [upd_ne (ne_of_none e hD2)]
        exact sm a o e
    rintro H4 ⟨hd2, sm2⟩
    rw [List.length_map, List.take_length] at hd2
    have nl : (nms fs).length = fs.length := by unfold nms; rw [List.length_map]
    refine ⟨d1, D2, _, _, rfl, rfl, sm2 _ _ hd1, hd2, ?_, fun p fp => ?_⟩
    · rw [List.length_map, nl]
      exact Nat.le_trans (by show 1 + fs.length ≤ 64; omega) (by decide)
    have e : [V.str drv] ++ (nms fs).map V.str = (drv :: nms fs).map V.str := rfl
    rw [e]
    refine ⟨_, rfl, p, drv :: nms fs, rfl, .inl (SqL.of upd_same), ok.nd, by rw [List.length_cons, nl]; omega, _, rfl, p, _, rfl, .inl (SqL.of upd_same), ?_⟩
    rw [List.length_map]
    exact ⟨rfl, by simpa using hQ _ ((s13.trans sm2).trans (same_new fp))⟩
def spLate : Sp := fun vs H Q _ => ∃ (ll fl : Addr) (fs : List (Addr × Rd)) (lt : List Str), vs = [.ref ll, .ref fl] ∧ Fk H fl fs ∧ fs.length ≤ 11 ∧ H ll = some (.lst (lt.map V.str)) ∧ lt.Nodup ∧ (∀ x ∈ lt, x ∈ nms fs) ∧ ∀ H', Same H H' → Q (.bl true) H'
theorem nd_len : ∀ {l m : List Str}, l.Nodup → (∀ x ∈ l, x ∈ m) → l.length ≤ m.length
  | [], _, _, _ => Nat.zero_le _
  | x :: l, m, nd, sub => by
    have n2 := List.nodup_cons.mp nd
    have hx := sub x List.mem_cons_self
    have ih := nd_len (m := m.erase x) n2.2 fun y hy => (List.mem_erase_of_ne (show y ≠ x from fun e => n2.1 (e ▸ hy))).mpr (sub y (List.mem_cons_of_mem _ hy))
    rw [List.length_erase_of_mem hx] at ih
    have := List.length_pos_of_mem hx
    rw [List.length_cons]
    omega
theorem lt_len {lt : List Str} {fs : List (Addr × Rd)} (nd : lt.Nodup) (sub : ∀ x ∈ lt, x ∈ nms fs) : lt.length ≤ fs.length := by
  have h := nd_len nd sub
  unfold nms at h
  rwa [List.length_map] at h
theorem ok_late (F : Dn K d_are_late f fd) (b : Bl mg) (b2 : Bl2 mg) : FnOk P w K mg base CX0 1 f fd ["thing", "riders"] spLate := by
  refine F.ok sc_are_late (fun vs H Q E h => ?_) (fun cdv A outer s H vs Q E hr h => ?_)
  · obtain ⟨ll, fl, fs, lt, rfl, _⟩ := h
    rfl
  · obtain ⟨ll, fl, fs, lt, rfl, fk, len, hll, nd, sub, hQ⟩ := h
    have ltl := lt_len nd sub
    refine ⟨_, PSs.nox (pss_cons (ps_set (i := 2) sc_are_late.nd rfl (.inr rfl) (pe_lc (own := [("rider", 3)]) (g := gName 3) (tt := tYes) rfl sc_are_late.nd (pi_list (pv 1)) (blkOk_by (N := N_are_late) (sc := defScope s_are_late) (by decide +kernel))
          (fun _ _ _ _ _ => pg_name (i := 3) sc_are_late.nd rfl (Or.inl rfl)) (fun _ _ _ _ _ => pts_nil) (fun _ _ _ _ _ => pe_ix (r := rIxT K) ix_tup (pv 3) pe_int (fun _ _ => rfl))))
      (pss_cons (ps_if (PW.pt (pw_or (pt_not (pt_val (pe_callB call_isi rfl b.isi boot_isinstance (pa_cons (pv 0) (pa_cons (pe_bltn (v := .ty "list") rfl b.list boot_list rfl) pa_nil)))))
        (pw_or1 (pt_not (pt_val (pe_callB (cr_all rfl) rfl b.all boot_all (pa_cons (pe_lc (own := [("name", 4)]) (g := gName 4) (tt := tYes) rfl sc_are_late.nd (pi_list (pv 0)) (blkOk_by (N := N_are_late) (sc := defScope s_are_late) (by decide +kernel))
          (fun _ _ _ _ _ => pg_name (i := 4) sc_are_late.nd rfl (Or.inl rfl)) (fun _ _ _ _ _ => pts_nil) (fun _ _ _ _ _ => pe_cmpR (r := rIn K false) op_in_seq (pv 4) (pv 2) (by rfl))) pa_nil))))))) pss_never pss_nil)
      (pss_one (ps_ret (pe_cmpR op_eq (ST.pe_lenSet rfl rfl b.len rfl b2.set (pv 0)) (pe_callB call_len_seq rfl b.len boot_len (pa_cons (pv 0) pa_nil)) (nomark _)))))), ?_⟩
    refine ⟨_, rfl, fl, rfl, ⟨_, SqL.of fk.1⟩, fun D2 hD2 => lc_list (K := K) (xs := fs.map fun z => V.ref z.1) (fun i H4 => H4 D2 = some (.lst ((nms (fs.take i)).map V.str)) ∧ Same H H4) ⟨upd_same, same_new hD2⟩ (fun _ H4 _ z => SqL.of (z.2 _ _ fk.1)) ?_ ?_⟩
    · rintro i x H4 hx ⟨hd, sm⟩
      have hi' : i < fs.length := by
        have := (List.getElem?_eq_some_iff.mp hx).1
        simpa using this
      rw [List.getElem?_map] at hx
      obtain ⟨y, hy, rfl⟩ := Option.map_eq_some_iff.mp hx
      have hm := List.mem_of_getElem? hy
      have et : fs.take (i + 1) = fs.take i ++ [y] := by rw [List.take_succ, hy]; rfl
      refine ⟨rfl, ?_⟩
      refine ⟨_, rfl, y.1, _, _, .str y.2.1, rfl, rfl, SqT.of (sm _ _ (fk.2 y hm)), rfl, _, hd, ?_, ?_, ?_⟩
      · unfold nms
        rw [List.length_map, List.length_map, List.length_take]
        exact Nat.lt_of_lt_of_le (by omega : min i fs.length < 64) (by decide)
      · rw [upd_same, et]
        unfold nms
        rw [List.map_append, List.map_append]
        rfl
      · intro a o e
        rw [upd_ne (ne_of_none e hD2)]
        exact sm a o e
    rintro H2 ⟨hn, sm⟩
    rw [List.length_map, List.take_length] at hn
    have hll2 := sm _ _ hll
    refine ⟨_, rfl, _, _, _, _, true, rfl, ClsV.ty _, TyX.base (TyOf.lst hll2), kit_ty (by decide +kernel), true, rfl, iteF ?_⟩
    refine ⟨_, rfl, ll, rfl, ⟨_, SqL.of hll2⟩, fun D hD => lc_list (K := K) (xs := lt.map V.str) (fun i H3 => H3 D = some (.lst ((List.replicate i true).map V.bl)) ∧ Same H2 H3) ⟨upd_same, same_new hD⟩ (fun _ H3 _ z => SqL.of (z.2 _ _ hll2)) ?_ ?_⟩
    · rintro i x H3 hx ⟨hd, sm3⟩
      have hi' : i < lt.length := by
        have := (List.getElem?_eq_some_iff.mp hx).1
        simpa using this
      rw [List.getElem?_map] at hx
      obtain ⟨y, hy, rfl⟩ := Option.map_eq_some_iff.mp hx
      have hm := List.mem_of_getElem? hy
      refine ⟨rfl, ?_⟩
      refine ⟨_, rfl, _, rfl, D2, _, rfl, .inl (SqL.of (sm3 _ _ hn)), rfl, flat_strs _, ?_⟩
      simp only [Bool.false_eq_true, if_false]
      rw [inV_strs, decide_eq_true (sub y hm)]
      refine ⟨_, hd, ?_, ?_, ?_⟩
      · rw [List.length_map, List.length_replicate]
        exact Nat.lt_of_lt_of_le (by omega : i < 64) (by decide)
      · rw [upd_same, reps_snoc]
      · intro a o e
        rw [upd_ne (ne_of_none e hD)]
        exact sm3 a o e
    rintro H3 ⟨hd, sm3⟩
    refine ⟨D, _, rfl, SqL.of hd, true, ?_, iteF ?_⟩
    · rw [reps_all]
    have hll3 := sm3 _ _ hll2
    refine ⟨_, rfl, ll, lt, rfl, .inl (SqL.of hll3), nd, by omega, _, rfl, ll, _, rfl, .inl (SqL.of hll3), ?_⟩
    rw [List.length_map]
    exact ⟨rfl, by simpa using hQ _ (sm.trans sm3)⟩
end
end K21
set_option Elab.async false
set_option linter.all false
set_option maxRecDepth 100000
set_option maxHeartbeats 4000000
namespace K21
open PySem PySem.Spec PyProof.Rows L2
open C8 (Cal Mak Met pe_c pe_mk pe_mt pe_mt0)
open SX (S)
/-- the fields of a Ride -/
def rF (d dv l wo st lc : V) : List (Str × V) := putF "latecomers" lc (putF "stretches" st (putF "worth" wo (putF "legs" l (putF "driver" dv (putF "day" d [])))))
section
variable {d dv l wo st lc : V}
theorem r_driver : (rF d dv l wo st lc).lookup ("driver" : Str) = some dv := by kernel_rfl
theorem r_legs : (rF d dv l wo st lc).lookup ("legs" : Str) = some l := by kernel_rfl
theorem r_worth : (rF d dv l wo st lc).lookup ("worth" : Str) = some wo := by kernel_rfl
theorem r_st : (rF d dv l wo st lc).lookup ("stretches" : Str) = some st := by kernel_rfl
theorem r_folk : (rF d dv l wo st lc).lookup ("folk" : Str) = none := by kernel_rfl
theorem r_parts : (rF d dv l wo st lc).lookup ("parts" : Str) = none := by kernel_rfl
end
theorem lp (k : Str) (v : V) : ∀ l : List (Str × V), (putF k v l).length ≤ l.length + 1
  | [] => Nat.le_refl _
  | (x, u) :: l => by
    have := lp k v l
    unfold putF
    split
    · simp
    · simp only [List.length_cons]
      omega
theorem ll {k : Str} {v : V} {l : List (Str × V)} {n : Nat} (h : l.length ≤ n) : (putF k v l).length ≤ n + 1 := Nat.le_trans (lp k v l) (by omega)
/-- what is known of the class -/
structure ClR (K : PySem.W.Frag) (mg : Str → Option Value) (CR : Addr) : Prop where
  cl : Cls K CR
  nd : NoAttr K CR "day"
  nv : NoAttr K CR "driver"
  nl : NoAttr K CR "legs"
  nw : NoAttr K CR "worth"
  ns : NoAttr K CR "stretches"
  nt : NoAttr K CR "latecomers"
  g : mg "Ride" = some (.ref CR)
/-- a Ride stands at rp -/
def Rid (CR : Addr) (H : Hp) (rp : Addr) (day : Int) (drv : Str) (gs : List (Addr × Rd)) (legs worth : Int) (ls : List Str) : Prop := ∃ dx sl lc, H rp = some (.ins CR dx (rF (.int day) (.str drv) (.int legs) (.int worth) (.ref sl) (.ref lc))) ∧ Fk H sl gs ∧ H lc = some (.lst (ls.map V.str))
/-- .. its own list of riders is new -/
def RidF (CR : Addr) (H0 H : Hp) (rp : Addr) (day : Int) (drv : Str) (gs : List (Addr × Rd)) (legs worth : Int) (ls : List Str) : Prop := ∃ dx sl lc, H rp = some (.ins CR dx (rF (.int day) (.str drv) (.int legs) (.int worth) (.ref sl) (.ref lc))) ∧ Fk H sl gs ∧ H lc = some (.lst (ls.map V.str)) ∧ H0 sl = none ∧ H0 lc = none
theorem Rid.same {CR : Addr} {H H' : Hp} {rp : Addr} {day : Int} {drv : Str} {gs : List (Addr × Rd)} {legs worth : Int} {ls : List Str} (h : Rid CR H rp day drv gs legs worth ls) (s : Same H H') : Rid CR H' rp day drv gs legs worth ls := by
  obtain ⟨dx, sl, lc, e, fk, e2⟩ := h
  exact ⟨dx, sl, lc, s _ _ e, fk.same s, s _ _ e2⟩
theorem Fk.off {H : Hp} {fl p C dx : Addr} {fs : List (Addr × Rd)} {as : List (Str × V)} {o : HO} (h : Fk H fl fs) (hp : H p = some (.ins C dx as)) : Fk (upd H p o) fl fs :=
  ⟨by rw [upd_ne (fun z => by have := h.1; rw [z, hp] at this; cases this)]; exact h.1, fun z hz => by rw [upd_ne (fun q => by have := h.2 z hz; rw [q, hp] at this; cases this)]; exact h.2 z hz⟩
def leR (a b : Addr × Rd) : Bool := !PySem.W.dataLt (rdD b.2) (rdD a.2)
/-- riders as sorted tells them -/
def srtR (fs : List (Addr × Rd)) : List (Addr × Rd) := fs.mergeSort leR
theorem srtR_eq (fs : List (Addr × Rd)) : SRT.srt (fs.map fun z => V.ref z.1) (fs.map fun z => rdD z.2) = (srtR fs).map fun z => V.ref z.1 := by
  have e : (fs.map fun z => V.ref z.1).zip (fs.map fun z => rdD z.2) = fs.map fun z => (V.ref z.1, rdD z.2) := by
    induction fs with
    | nil => rfl
    | cons z fs ih => rw [List.map_cons, List.map_cons, List.zip_cons_cons, ih]; rfl
  unfold SRT.srt srtR
  rw [e, ← List.map_mergeSort (f := fun z : Addr × Rd => (V.ref z.1, rdD z.2)) (r := leR) (fun a _ b _ => rfl), List.map_map]
  rfl
theorem srtR_perm (fs : List (Addr × Rd)) : (srtR fs).Perm fs := List.mergeSort_perm ..
def Gs (gs fs : List (Addr × Rd)) : Prop := gs = srtR fs
def Ls (ls lt : List Str) : Prop := ls.Perm lt ∧ ls.Pairwise SRT.leS
theorem Gs.perm {gs fs : List (Addr × Rd)} (h : Gs gs fs) : gs.Perm fs := by rw [h]; exact srtR_perm fs
theorem dp_riders {K : PySem.W.Frag} {H : Hp} : ∀ {fs : List (Addr × Rd)}, (∀ z ∈ fs, H z.1 = some (.tup (rdV z.2))) → DpAll K H (fs.map fun z => V.ref z.1) (fs.map fun z => rdD z.2)
  | [], _ => .nil
  | z :: fs, h => .cons (Dp.tup (SqT.of (h z List.mem_cons_self)) (.cons (.str _) (.cons (.int _) (.cons (.int _) .nil)))) (dp_riders fun y hy => h y (List.mem_cons_of_mem _ hy))
section
variable {P : Program} {w : World} {K : PySem.W.Frag} {mg : Str → Option Value} {base : Heap} {f C CR : Addr} {fd : FuncData}
def spFW : Sp := fun vs H Q _ => ∃ (fl lo : Addr) (day : Int) (drv : Str) (fs : List (Addr × Rd)) (legs worth : Int) (lt : List Str), vs = [.int day, .str drv, .ref fl, .int legs, .int worth, .ref lo] ∧ Fk H fl fs ∧ H lo = some (.lst (lt.map V.str)) ∧ WayOk day drv fs legs worth lt ∧ ∀ H', Same H H' → Q .non H'
theorem ok_fw (F : Dn K d_first_wrong f fd) (gl : ∃ t, mg "MOST_LEGS" = some (.int 12 t)) (gw : ∃ t, mg "MOST_WORTH" = some (.int 1000 t)) (cDy : Cal P w K mg base 3 "is_day" spDay []) (cN : Cal P w K mg base 1 "is_name" spName []) (cB : CalB P w K mg base) (cR : Cal P w K mg base 3 "are_riders" spRiders []) (cL : Cal P w K mg base 1 "are_late" spLate []) :
    FnOk P w K mg base CX0 4 f fd ["day", "driver", "riders", "legs", "worth", "late"] spFW := by
  refine F.ok sc_first_wrong (fun vs H Q E h => ?_) (fun cdv A outer s H vs Q E hr h => ?_)
  · obtain ⟨fl, lo, day, drv, fs, legs, worth, lt, rfl, _⟩ := h
    rfl
  · obtain ⟨fl, lo, day, drv, fs, legs, worth, lt, rfl, fk, hlo, ok, hQ⟩ := h
    obtain ⟨t1, gl⟩ := gl
    obtain ⟨t2, gw⟩ := gw
    obtain ⟨l, rfl, okl⟩ := ok.dn
    refine ⟨_, PSs.nox (pss_cons (ps_if (pt_not (pt_val (pe_c cDy hr (by decide) rfl (pa_cons (pv 0) pa_nil)))) pss_never pss_nil)
      (pss_cons (ps_if (pt_not (pt_val (pe_c cN hr (by decide) rfl (pa_cons (pv 1) pa_nil)))) pss_never pss_nil)
      (pss_cons (ps_if (pt_not (pt_val (pe_c cB hr (by decide) rfl (pa_cons (pv 3) (pa_cons pe_int (pa_cons (pe_glob (v := .int 12) rfl gl ⟨t1, rfl⟩) pa_nil)))))) pss_never pss_nil)
      (pss_cons (ps_if (pt_not (pt_val (pe_c cB hr (by decide) rfl (pa_cons (pv 4) (pa_cons pe_int (pa_cons (pe_glob (v := .int 1000) rfl gw ⟨t2, rfl⟩) pa_nil)))))) pss_never pss_nil)
      (pss_cons (ps_if (pt_not (pt_val (pe_c cR hr (by decide) rfl (pa_cons (pv 2) (pa_cons (pv 1) (pa_cons (pv 3) pa_nil)))))) pss_never pss_nil)
      (pss_cons (ps_if (pt_not (pt_val (pe_c cL hr (by decide) rfl (pa_cons (pv 5) (pa_cons (pv 2) pa_nil))))) pss_never pss_nil)
      (pss_one (ps_ret pe_non)))))))), ?_⟩
    refine ⟨_, rfl, day, rfl, _, rfl, ?_⟩
    rw [decide_eq_true (show 0 ≤ day ∧ day ≤ 1000000 from ⟨ok.d0, ok.d1⟩)]
    refine iteF ?_
    refine ⟨_, rfl, l, rfl, okl, fun H1 s1 => ⟨true, rfl, iteF ?_⟩⟩
    refine ⟨_, rfl, legs, 1, 12, rfl, _, rfl, ?_⟩
    rw [decide_eq_true (show 1 ≤ legs ∧ legs ≤ 12 from ⟨ok.l1, ok.l12⟩)]
    refine iteF ?_
    refine ⟨_, rfl, worth, 1, 1000, rfl, _, rfl, ?_⟩
    rw [decide_eq_true (show 1 ≤ worth ∧ worth ≤ 1000 from ⟨ok.w1, ok.w9⟩)]
    refine iteF ?_
    refine ⟨_, rfl, _, rfl, _, rfl, fl, fs, _, legs, rfl, fk.same s1, ok.rd, fun H2 s2 => ⟨true, rfl, iteF ?_⟩⟩
    have s12 := s1.trans s2
    refine ⟨_, rfl, _, rfl, lo, fl, fs, lt, rfl, fk.same s12, ok.rd.len, s12 _ _ hlo, ok.ltn, ok.lts, fun H3 s3 => ⟨true, rfl, iteF ?_⟩⟩
    exact hQ H3 (s12.trans s3)
def spRI (CR : Addr) : Sp := fun vs H Q _ => ∃ (p dx : Addr) (xr xl : V) (day : Int) (drv : Str) (fs : List (Addr × Rd)) (legs worth : Int) (lt : List Str), vs = [.ref p, .int day, .str drv, xr, .int legs, .int worth, xl] ∧ H p = some (.ins CR dx []) ∧ (xr = .non ∧ fs = [] ∨ ∃ fl, xr = .ref fl ∧ Fk H fl fs) ∧ (xl = .non ∧ lt = [] ∨ ∃ lo, xl = .ref lo ∧ H lo = some (.lst (lt.map V.str))) ∧ WayOk day drv fs legs worth lt ∧
  ∀ (H' : Hp) (gs : List (Addr × Rd)) (ls : List Str), (∀ a o, a ≠ p → H a = some o → H' a = some o) → Gs gs fs → Ls ls lt → RidF CR H H' p day drv gs legs worth ls → Q .non H'
theorem ok_ri (F : Dn K d_Ride_init f fd) (b2 : Bl2 mg) (T : ClR K mg CR) (cF : Cal P w K mg base 4 "first_wrong" spFW []) : FnOk P w K mg base CX0 5 f fd ["self", "day", "driver", "riders", "legs", "worth", "late"] (spRI CR) := by
  refine F.ok sc_Ride_init (fun vs H Q E h => ?_) (fun cdv A outer s H vs Q E hr h => ?_)
  · obtain ⟨p, dx, xr, xl, day, drv, fs, legs, worth, lt, rfl, _⟩ := h
    rfl
  · obtain ⟨p, dx, xr, xl, day, drv, fs, legs, worth, lt, rfl, hp00, hr00, hl00, ok, hQ0⟩ := h
    have hu64 : (A.deeper (envOfC d_Ride_init.qual d_Ride_init.scope s.heap.objs.size f cdv)).units + 64 < cLine := by have := hr.un; omega
    refine ⟨_, PSs.nox (C8.pss_cut (ps_set (i := 3) sc_Ride_init.nd rfl (.inl rfl) (pe_ifExp (pt_cmpR op_isN (pv 3) pe_non (nomark _)) (pe_lst pa_nil) (pv 3)))
      (C8.pss_cut (ps_set (i := 6) sc_Ride_init.nd rfl (.inl rfl) (pe_ifExp (pt_cmpR op_isN (pv 6) pe_non (nomark _)) (pe_lst pa_nil) (pv 6)))
      (pss_cons (ps_set (i := 7) sc_Ride_init.nd rfl (.inl rfl) (pe_c cF hr (by decide) rfl (pa_cons (pv 1) (pa_cons (pv 2) (pa_cons (pv 3) (pa_cons (pv 4) (pa_cons (pv 5) (pa_cons (pv 6) pa_nil))))))))
      (pss_cons (ps_if (pt_cmpR op_notN (pv 7) pe_non (nomark _)) pss_never pss_nil)
      (pss_cons (ps_fld (pv 0) (pv 1) rfl) (pss_cons (ps_fld (pv 0) (pv 2) rfl) (pss_cons (ps_fld (pv 0) (pv 4) rfl) (pss_cons (ps_fld (pv 0) (pv 5) rfl)
      (pss_cons (ps_fld (pv 0) (pe_callB (SRT.cr_sortedD hu64) rfl b2.srt boot_sorted (pa_cons (pv 3) pa_nil)) rfl)
      (pss_one (ps_fld (pv 0) (pe_callB (SRT.cr_sortedTx hu64) rfl b2.srt boot_sorted (pa_cons (pv 6) pa_nil)) rfl))))))))))), ?_⟩
    refine ⟨fun σ H1 => ∃ fl, σ = [some (.ref p), some (.int day), some (.str drv), some (.ref fl), some (.int legs), some (.int worth), some xl, none] ∧ Same H H1 ∧ Fk H1 fl fs, ?_, ?_⟩
    · rcases hr00 with ⟨rfl, rfl⟩ | ⟨fl, rfl, fk⟩
      · refine ⟨_, rfl, rfl, _, rfl, ?_⟩
        refine iteT ⟨by show 0 ≤ sizeLine; decide, fun q fq => ⟨q, rfl, same_new fq, upd_same, fun z hz => nomatch hz⟩⟩
      · refine ⟨_, rfl, rfl, _, rfl, ?_⟩
        rw [show decide (V.ref fl = V.non) = false by simp]
        exact iteF ⟨_, rfl, fl, rfl, Same.refl _, fk⟩
    rintro σ H0a ⟨fl, rfl, s0a, fk⟩
    refine ⟨fun σ H1 => ∃ lo, σ = [some (.ref p), some (.int day), some (.str drv), some (.ref fl), some (.int legs), some (.int worth), some (.ref lo), none] ∧ Same H H1 ∧ Fk H1 fl fs ∧ H1 lo = some (.lst (lt.map V.str)), ?_, ?_⟩
    · rcases hl00 with ⟨rfl, rfl⟩ | ⟨lo, rfl, hlo⟩
      · refine ⟨_, rfl, rfl, _, rfl, ?_⟩
        refine iteT ⟨by show 0 ≤ sizeLine; decide, fun q fq => ⟨q, rfl, s0a.trans (same_new fq), fk.same (same_new fq), upd_same⟩⟩
      · refine ⟨_, rfl, rfl, _, rfl, ?_⟩
        rw [show decide (V.ref lo = V.non) = false by simp]
        exact iteF ⟨_, rfl, lo, rfl, s0a, fk, s0a _ _ hlo⟩
    rintro σ H0b ⟨lo, rfl, s0, fk, hlo⟩
    have hp := s0 _ _ hp00
    have hQ : ∀ (H' : Hp) (gs : List (Addr × Rd)) (ls : List Str), (∀ a o, a ≠ p → H0b a = some o → H' a = some o) → Gs gs fs → Ls ls lt → RidF CR H0b H' p day drv gs legs worth ls → Q .non H' := fun H' gs ls k p1 p2 rf => by
      obtain ⟨dx', sl, lc, e, fk', e2, f1, f2⟩ := rf
      exact hQ0 H' gs ls (fun a o na e => k a o na (s0 _ _ e)) p1 p2 ⟨dx', sl, lc, e, fk', e2, s0.free f1, s0.free f2⟩
    clear hQ0 hr00 hl00 hp00 s0 s0a
    generalize H0b = H at fk hlo hp hQ
    refine ⟨_, rfl, _, rfl, _, rfl, _, rfl, _, rfl, _, rfl, fl, lo, day, drv, fs, legs, worth, lt, rfl, fk, hlo, ok, fun H1 s1 => ?_⟩
    refine ⟨_, rfl, rfl, _, rfl, iteF ?_⟩
    have hp1 := s1 _ _ hp
    have fk1 := fk.same s1
    have hlo1 := s1 _ _ hlo
    have np : ∀ {a : Addr} {ys : List V}, H1 a = some (.lst ys) → a ≠ p := fun e z => by rw [z, hp1] at e; cases e
    -- the plain fields
    refine ⟨_, rfl, _, rfl, p, CR, dx, _, rfl, hp1, T.cl, T.nd, by show 0 < 1000; decide, ?_⟩
    refine ⟨_, rfl, _, rfl, p, CR, dx, _, rfl, upd_same, T.cl, T.nv, Nat.lt_of_le_of_lt (ll (Nat.le_refl 0)) (by decide), ?_⟩
    refine ⟨_, rfl, _, rfl, p, CR, dx, _, rfl, upd_same, T.cl, T.nl, Nat.lt_of_le_of_lt (ll (ll (Nat.le_refl 0))) (by decide), ?_⟩
    refine ⟨_, rfl, _, rfl, p, CR, dx, _, rfl, upd_same, T.cl, T.nw, Nat.lt_of_le_of_lt (ll (ll (ll (Nat.le_refl 0)))) (by decide), ?_⟩
    have fk2 : Fk (upd (upd (upd (upd H1 p (.ins CR dx (putF "day" (.int day) []))) p (.ins CR dx (putF "driver" (.str drv) (putF "day" (.int day) [])))) p (.ins CR dx (putF "legs" (.int legs) (putF "driver" (.str drv) (putF "day" (.int day) []))))) p (.ins CR dx (putF "worth" (.int worth) (putF "legs" (.int legs) (putF "driver" (.str drv) (putF "day" (.int day) [])))))) fl fs := (((fk1.off hp1).off upd_same).off upd_same).off upd_same
    have hp2 : (upd (upd (upd (upd H1 p (.ins CR dx (putF "day" (.int day) []))) p (.ins CR dx (putF "driver" (.str drv) (putF "day" (.int day) [])))) p (.ins CR dx (putF "legs" (.int legs) (putF "driver" (.str drv) (putF "day" (.int day) []))))) p (.ins CR dx (putF "worth" (.int worth) (putF "legs" (.int legs) (putF "driver" (.str drv) (putF "day" (.int day) [])))))) p = some (.ins CR dx (putF "worth" (.int worth) (putF "legs" (.int legs) (putF "driver" (.str drv) (putF "day" (.int day) []))))) := upd_same
    have keep2 : ∀ a o, a ≠ p → H1 a = some o → (upd (upd (upd (upd H1 p (.ins CR dx (putF "day" (.int day) []))) p (.ins CR dx (putF "driver" (.str drv) (putF "day" (.int day) [])))) p (.ins CR dx (putF "legs" (.int legs) (putF "driver" (.str drv) (putF "day" (.int day) []))))) p (.ins CR dx (putF "worth" (.int worth) (putF "legs" (.int legs) (putF "driver" (.str drv) (putF "day" (.int day) [])))))) a = some o := fun a o na e => by
      rw [upd_ne na, upd_ne na, upd_ne na, upd_ne na]
      exact e
    generalize upd (upd (upd (upd H1 p (.ins CR dx (putF "day" (.int day) []))) p (.ins CR dx (putF "driver" (.str drv) (putF "day" (.int day) [])))) p (.ins CR dx (putF "legs" (.int legs) (putF "driver" (.str drv) (putF "day" (.int day) []))))) p (.ins CR dx (putF "worth" (.int worth) (putF "legs" (.int legs) (putF "driver" (.str drv) (putF "day" (.int day) []))))) = H2 at fk2 hp2 keep2
    refine ⟨_, rfl, fl, _, _, rfl, .inl (SqL.of fk2.1), dp_riders fk2.2, ?_, ?_, ?_, fun sl fsl => ?_⟩
    · intro x hx y hy
      obtain ⟨z, _, rfl⟩ := List.mem_map.mp hx
      obtain ⟨z', _, rfl⟩ := List.mem_map.mp hy
      unfold rdD
      simp [PySem.W.alike, PySem.W.alikeAll]
    · refine .inl fun x hx => ?_
      obtain ⟨z, _, rfl⟩ := List.mem_map.mp hx
      exact ⟨_, _, rfl⟩
    · intro x hx
      obtain ⟨z, _, rfl⟩ := List.mem_map.mp hx
      unfold rdD
      simp [PyData.depth, PyData.depthAll]
    obtain ⟨gs, pm, eg, es⟩ : ∃ gs : List (Addr × Rd), gs.Perm fs ∧ SRT.srt (fs.map fun z => V.ref z.1) (fs.map fun z => rdD z.2) = gs.map (fun z => V.ref z.1) ∧ gs = srtR fs := ⟨srtR fs, srtR_perm fs, srtR_eq fs, rfl⟩
    rw [eg]
    have fslH : H sl = none := by
      cases e : H sl with
      | none => rfl
      | some o =>
        by_cases q : sl = p
        · rw [q, hp2] at fsl
          cases fsl
        · rw [keep2 sl o q (s1 _ _ e)] at fsl
          cases fsl
    have ss := same_new (o := .lst (gs.map fun z => V.ref z.1)) fsl
    have fk3 : Fk (upd H2 sl (.lst (gs.map fun z => V.ref z.1))) sl gs := ⟨upd_same, fun z hz => ss _ _ (fk2.2 z (pm.mem_iff.mp hz))⟩
    have hp3 := ss _ _ hp2
    have keep3 : ∀ a o, a ≠ p → H1 a = some o → (upd H2 sl (.lst (gs.map fun z => V.ref z.1))) a = some o := fun a o na e => ss _ _ (keep2 a o na e)
    generalize upd H2 sl (.lst (gs.map fun z => V.ref z.1)) = H3 at fk3 hp3 keep3
    refine ⟨_, rfl, p, CR, dx, _, rfl, hp3, T.cl, T.ns, Nat.lt_of_le_of_lt (ll (ll (ll (ll (Nat.le_refl 0))))) (by decide), ?_⟩
    have fk4 := fk3.off (o := .ins CR dx (putF "stretches" (.ref sl) (putF "worth" (.int worth) (putF "legs" (.int legs) (putF "driver" (.str drv) (putF "day" (.int day) [])))))) hp3
    have hlo4 : (upd H3 p (.ins CR dx (putF "stretches" (.ref sl) (putF "worth" (.int worth) (putF "legs" (.int legs) (putF "driver" (.str drv) (putF "day" (.int day) [])))))))  lo = some (.lst (lt.map V.str)) := by
      rw [upd_ne (np hlo1)]
      exact keep3 _ _ (np hlo1) hlo1
    refine ⟨_, rfl, lo, lt, rfl, .inl (SqL.of hlo4), fun ys lc pmy pwy flc => ?_⟩
    have sc := same_new (o := .lst (ys.map V.str)) flc
    have fk5 := fk4.same sc
    have hp5 := sc _ _ (upd_same : (upd H3 p (.ins CR dx (putF "stretches" (.ref sl) (putF "worth" (.int worth) (putF "legs" (.int legs) (putF "driver" (.str drv) (putF "day" (.int day) []))))))) p = _)
    refine ⟨_, rfl, p, CR, dx, _, rfl, hp5, T.cl, T.nt, Nat.lt_of_le_of_lt (ll (ll (ll (ll (ll (Nat.le_refl 0)))))) (by decide), ?_⟩
    have nlp : lc ≠ p := fun q => by rw [q, upd_same] at flc; cases flc
    have flcH : H lc = none := by
      cases e : H lc with
      | none => rfl
      | some o =>
        rw [upd_ne nlp, keep3 lc o nlp (s1 _ _ e)] at flc
        cases flc
    refine hQ _ gs ys (fun a o na e => ?_) es ⟨pmy, pwy⟩ ⟨dx, sl, lc, upd_same, fk5.off hp5, by rw [upd_ne nlp, upd_same], fslH, flcH⟩
    rw [upd_ne na]
    refine sc _ _ ?_
    rw [upd_ne na]
    exact keep3 a o na (s1 _ _ e)
theorem mk_ride {H : Hp} {day : Int} {drv : Str} {fs : List (Addr × Rd)} {legs worth : Int} {lt : List Str} {xr xl : V} {Q : VK} (h1 : xr = .non ∧ fs = [] ∨ ∃ fl, xr = .ref fl ∧ Fk H fl fs) (h2 : xl = .non ∧ lt = [] ∨ ∃ lo, xl = .ref lo ∧ H lo = some (.lst (lt.map V.str))) (ok : WayOk day drv fs legs worth lt)
    (hQ : ∀ (rp : Addr) (gs : List (Addr × Rd)) (ls : List Str) (H' : Hp), Same H H' → H rp = none → Gs gs fs → Ls ls lt → RidF CR H H' rp day drv gs legs worth ls → Q (.ref rp) H') :
    ∀ x dx, H x = none → H dx = none → dx ≠ x → spRI CR (.ref x :: [.int day, .str drv, xr, .int legs, .int worth, xl]) (upd (upd H dx (.own x)) x (.ins CR dx [])) (fun v H2 => v = .non ∧ Q (.ref x) H2) E0 := by
  intro rp dx nrp ndx ne
  have lift : ∀ b o, H b = some o → (upd (upd H dx (.own rp)) rp (.ins CR dx [])) b = some o := fun b o e => by
    rw [upd_ne (ne_of_none e nrp), upd_ne (ne_of_none e ndx)]
    exact e
  refine ⟨rp, dx, xr, xl, day, drv, fs, legs, worth, lt, rfl, upd_same, h1.imp id (fun ⟨fl, e, fk⟩ => ⟨fl, e, fk.same lift⟩), h2.imp id (fun ⟨lo, e, q⟩ => ⟨lo, e, lift _ _ q⟩), ok, fun H' gs ls k pm pl rid => ⟨rfl, ?_⟩⟩
  obtain ⟨dx', st, lc, e1, e2, e3, e4, e5⟩ := rid
  have fr : ∀ a, (upd (upd H dx (.own rp)) rp (.ins CR dx [])) a = none → H a = none := fun a e => by
    cases q : H a with
    | none => rfl
    | some o => rw [lift a o q] at e; cases e
  exact hQ rp gs ls H' (fun a o e => k a o (ne_of_none e nrp) (lift a o e)) nrp pm pl ⟨dx', st, lc, e1, e2, e3, fr _ e4, fr _ e5⟩
def spFo (CR : Addr) : Sp := fun vs H Q _ => ∃ (rp : Addr) (day : Int) (drv : Str) (gs : List (Addr × Rd)) (legs worth : Int) (ls : List Str), vs = [.ref rp] ∧ Rid CR H rp day drv gs legs worth ls ∧ gs.length ≤ 11 ∧
  ∀ (o : Addr) (ys : List Str) (H' : Hp), Same H H' → H o = none → H' o = some (.lst (ys.map V.str)) → ys.Perm (drv :: nms gs) → ys.Pairwise SRT.leS → Q (.ref o) H'
theorem ok_fo (F : Dn K d_Ride_folk f fd) (b2 : Bl2 mg) (T : ClR K mg CR) : FnOk P w K mg base CX0 1 f fd ["self"] (spFo CR) := by
  refine F.ok sc_Ride_folk (fun vs H Q E h => ?_) (fun cdv A outer s H vs Q E hr h => ?_)
  · obtain ⟨rp, day, drv, gs, legs, worth, ls, rfl, _⟩ := h
    rfl
  · obtain ⟨rp, day, drv, gs, legs, worth, ls, rfl, ⟨dx, sl, lc, hrp, fk, hlc⟩, len, hQ⟩ := h
    have hu64 : (A.deeper (envOfC d_Ride_folk.qual d_Ride_folk.scope s.heap.objs.size f cdv)).units + 64 < cLine := by have := hr.un; omega
    refine ⟨_, PSs.nox (pss_one (ps_ret (pe_callB (SRT.cr_sortedTx hu64) rfl b2.srt boot_sorted (pa_cons (pe_op op_cat (pe_lst (pa_cons (pe_fld (pv 0) rfl) pa_nil))
      (pe_lc (own := [("name", 1), ("on", 2), ("off", 3)]) (g := gTup K 3 (gCons (gName 1) (gCons (gName 2) (gCons (gName 3) gNil)))) (tt := tYes) rfl sc_Ride_folk.nd (pi_list (pe_fld (pv 0) rfl)) (blkOk_by (N := N_Ride_folk) (sc := defScope s_Ride_folk) (by decide +kernel))
        (fun _ _ _ _ _ => pg_tup rfl (pgs_cons (pg_name (i := 1) sc_Ride_folk.nd rfl (.inl rfl)) (pgs_cons (pg_name (i := 2) sc_Ride_folk.nd rfl (.inl rfl)) (pgs_cons (pg_name (i := 3) sc_Ride_folk.nd rfl (.inl rfl)) pgs_nil)))) (fun _ _ _ _ _ => pts_nil) (fun _ _ _ _ _ => pv 1))) pa_nil)))), ?_⟩
    refine ⟨_, rfl, rp, CR, dx, _, _, rfl, hrp, T.cl, T.nv, r_driver, by show 1 ≤ sizeLine; decide, fun d1 fd1 => ?_⟩
    have s1 := same_new (o := .lst [.str drv]) fd1
    have fk1 := fk.same s1
    have hrp1 := s1 _ _ hrp
    have hd1 : (upd H d1 (.lst [.str drv])) d1 = some (.lst [.str drv]) := upd_same
    generalize upd H d1 (.lst [.str drv]) = H1 at s1 fk1 hrp1 hd1
    refine ⟨_, rfl, rp, CR, dx, _, _, rfl, hrp1, T.cl, T.ns, r_st, sl, rfl, ⟨_, SqL.of fk1.1⟩, fun D2 hD2 => lc_list (K := K) (xs := gs.map fun z => V.ref z.1) (fun i H4 => H4 D2 = some (.lst ((nms (gs.take i)).map V.str)) ∧ Same H1 H4) ⟨upd_same, same_new hD2⟩ (fun _ H4 _ z => SqL.of (z.2 _ _ fk1.1)) ?_ ?_⟩
    · rintro i x H4 hx ⟨hd, sm⟩
      have hi' : i < gs.length := by
        have := (List.getElem?_eq_some_iff.mp hx).1
        simpa using this
      rw [List.getElem?_map] at hx
      obtain ⟨y, hy, rfl⟩ := Option.map_eq_some_iff.mp hx
      have hm := List.mem_of_getElem? hy
      have et : gs.take (i + 1) = gs.take i ++ [y] := by rw [List.take_succ, hy]; rfl
      refine ⟨y.1, _, rfl, SqT.of (sm _ _ (fk1.2 y hm)), rfl, _, _, rfl, _, _, rfl, _, _, rfl, rfl, rfl, ?_⟩
      refine ⟨_, rfl, _, hd, ?_, ?_, ?_⟩
      · unfold nms
        rw [List.length_map, List.length_map, List.length_take]
        exact Nat.lt_of_lt_of_le (by omega : min i gs.length < 64) (by decide)
      · rw [upd_same, et]
        unfold nms
        rw [List.map_append, List.map_append]
        rfl
      · intro a o e
        rw [upd_ne (ne_of_none e hD2)]
        exact sm a o e
    rintro H4 ⟨hd2, sm2⟩
    rw [List.length_map, List.take_length] at hd2
    have nl : (nms gs).length = gs.length := by unfold nms; rw [List.length_map]
    refine ⟨d1, D2, _, _, rfl, rfl, sm2 _ _ hd1, hd2, ?_, fun p fp => ?_⟩
    · rw [List.length_map, nl]
      exact Nat.le_trans (by show 1 + gs.length ≤ 64; omega) (by decide)
    have e : [V.str drv] ++ (nms gs).map V.str = (drv :: nms gs).map V.str := rfl
    rw [e]
    have sp := same_new (o := .lst ((drv :: nms gs).map V.str)) fp
    refine ⟨p, drv :: nms gs, rfl, .inl (SqL.of upd_same), fun ys o pm pw fo => ?_⟩
    have sa := (s1.trans sm2).trans sp
    exact hQ o ys _ (sa.trans (same_new fo)) (sa.free fo) upd_same pm pw
end
end K21
set_option Elab.async false
set_option linter.all false
set_option maxRecDepth 100000
set_option maxHeartbeats 4000000
namespace K21
open PySem PySem.Spec PyProof.Rows L2
open C8 (Cal Mak Met pe_c pe_mk pe_mt pe_mt0)
open SX (S)
/-- a way as a list -/
def Wy (H : Hp) (wp : Addr) (day : Int) (drv : Str) (fs : List (Addr × Rd)) (legs worth : Int) (lt : List Str) : Prop := ∃ fl sl, H wp = some (.lst [.int day, .str drv, .ref fl, .int legs, .int worth, .ref sl]) ∧ Fk H fl fs ∧ H sl = some (.lst (lt.map V.str))
theorem Wy.same {H H' : Hp} {wp : Addr} {day : Int} {drv : Str} {fs : List (Addr × Rd)} {legs worth : Int} {lt : List Str} (h : Wy H wp day drv fs legs worth lt) (s : Same H H') : Wy H' wp day drv fs legs worth lt := by
  obtain ⟨fl, sl, e, fk, e2⟩ := h
  exact ⟨fl, sl, s _ _ e, fk.same s, s _ _ e2⟩
theorem nin_take {xs : List Str} (nd : xs.Nodup) {i : Nat} {z : Str} (h : xs[i]? = some z) : z ∉ xs.take i := fun hm => by
  obtain ⟨j, hj, e⟩ := List.mem_iff_getElem.mp hm
  rw [List.getElem_take] at e
  rw [List.length_take] at hj
  have e3 : xs[j]? = xs[i]? := by rw [h, List.getElem?_eq_getElem (by omega), e]
  have := (List.getElem?_inj (by omega) nd).mp e3
  omega
theorem strOk_S {l : List Nat} (h : NM.ok l) : PyData.strOk (S l) = true := by
  unfold PyData.strOk
  rw [← Array.all_toList, List.all_eq_true]
  intro x hx
  have := h.2.2 x hx
  exact decide_eq_true (by omega)
theorem all_rds : ∀ fs : List (Addr × Rd), (∀ z ∈ fs, PyData.strOk z.2.1 = true) → PyData.canLayAll0 (fs.map fun z => rdD z.2) = true ∧ PyData.depthAll (fs.map fun z => rdD z.2) ≤ 1
  | [], _ => ⟨rfl, by decide⟩
  | x :: r, h => by
    obtain ⟨h1, h2⟩ := all_rds r fun y hy => h y (List.mem_cons_of_mem _ hy)
    have h3 := h x List.mem_cons_self
    refine ⟨?_, ?_⟩
    · show (PyData.canLay0 (rdD x.2) && PyData.canLayAll0 (r.map fun z => rdD z.2)) = true
      rw [h1]
      simp [rdD, PyData.canLay0, PyData.canLayAll0, h3]
    · show max (PyData.depth (rdD x.2)) (PyData.depthAll (r.map fun z => rdD z.2)) ≤ 1
      have : PyData.depth (rdD x.2) = 1 := by simp [rdD, PyData.depth, PyData.depthAll]
      omega
theorem sh_rds {fs : List (Addr × Rd)} (h : ∀ z ∈ fs, PyData.strOk z.2.1 = true) : SeqAt.shaped (.list (fs.map fun z => rdD z.2)) = true := by
  obtain ⟨h1, h2⟩ := all_rds fs h
  simp only [SeqAt.shaped, PyData.canLay0, PyData.depth, h1, Bool.true_and]
  exact decide_eq_true (by omega)
end K21
set_option Elab.async false
set_option linter.all false
set_option maxRecDepth 100000
set_option maxHeartbeats 4000000
namespace K21
open PySem PySem.Spec PyProof.Rows L2
open C8 (Cal Mak Met pe_c pe_mk pe_mt pe_mt0)
open SX (S)
theorem S_inj {a b : List Nat} (h : S a = S b) : a = b := by
  have := congrArg (fun s : Str => s.cps.toList) h
  simpa [S] using this
theorem at3 {a b c : V} {r : Int} (h0 : 0 ≤ r) (h1 : r < 3) : ∃ v, atI [a, b, c] r = some v ∧ (v = a ∨ v = b ∨ v = c) := by
  rcases (show r = 0 ∨ r = 1 ∨ r = 2 by omega) with rfl | rfl | rfl
  · exact ⟨a, rfl, .inl rfl⟩
  · exact ⟨b, rfl, .inr (.inl rfl)⟩
  · exact ⟨c, rfl, .inr (.inr rfl)⟩
theorem at4 {a b c d : V} {r : Int} (h0 : 0 ≤ r) (h1 : r < 4) : ∃ v, atI [a, b, c, d] r = some v ∧ (v = a ∨ v = b ∨ v = c ∨ v = d) := by
  rcases (show r = 0 ∨ r = 1 ∨ r = 2 ∨ r = 3 by omega) with rfl | rfl | rfl | rfl
  · exact ⟨a, rfl, .inl rfl⟩
  · exact ⟨b, rfl, .inr (.inl rfl)⟩
  · exact ⟨c, rfl, .inr (.inr (.inl rfl))⟩
  · exact ⟨d, rfl, .inr (.inr (.inr rfl))⟩
theorem cut_nat (xs : List V) (a b : Nat) (ha : a ≤ xs.length) (hb : b ≤ xs.length) : cutV xs (some (a : Int)) (some (b : Int)) = (xs.drop a).take (b - a) := by
  unfold cutV
  rw [HT.sIx_nat, HT.sIx_nat, Nat.min_eq_left ha, Nat.min_eq_left hb]
theorem cut_to (xs : List V) (b : Nat) (hb : b ≤ xs.length) : cutV xs none (some (b : Int)) = xs.take b := by
  unfold cutV
  rw [HT.sIx_none, HT.sIx_nat, Nat.min_eq_left hb]
  simp
theorem cut_from (xs : List V) (a : Nat) (ha : a ≤ xs.length) : cutV xs (some (a : Int)) none = xs.drop a := by
  unfold cutV
  rw [HT.sIx_none, HT.sIx_nat, Nat.min_eq_left ha, List.take_of_length_le]
  rw [List.length_drop]
  omega
/-- what is no pen -/
theorem Pen.ne {H : Hp} {p a : Addr} {c : Nat} {o : HO} (x : Pen H p c) (e : H a = some o) (no : ∀ l n m, o ≠ .lst (penL l n m)) : a ≠ p := fun z => by
  obtain ⟨l, ns, n, m, h1, _⟩ := x
  rw [z, h1] at e
  exact no _ _ _ (Option.some.inj e).symm
theorem no_strs (xs : List Str) (l : Addr) (n m : Int) : HO.lst (xs.map V.str) ≠ .lst (penL l n m) := fun e => by
  injection e with e
  cases xs with
  | nil => cases e
  | cons x xs =>
    injection e with e _
    cases e
theorem no_refs (xs : List Addr) (l : Addr) (n m : Int) : HO.lst (xs.map V.ref) ≠ .lst (penL l n m) := fun e => by
  injection e with e
  match xs, e with
  | [], e => cases e
  | [_], e => injection e with _ e; cases e
  | _ :: _ :: _, e =>
    injection e with _ e
    injection e with e _
    cases e
theorem no_fs (fs : List (Addr × Rd)) (l : Addr) (n m : Int) : HO.lst (fs.map fun z => V.ref z.1) ≠ .lst (penL l n m) := by
  have := no_refs (fs.map (·.1)) l n m
  rw [List.map_map] at this
  exact this
theorem no_wy {a b c d e f : V} (l : Addr) (n m : Int) : HO.lst [a, b, c, d, e, f] ≠ .lst (penL l n m) := fun q => by
  injection q with q
  injection q with _ q
  injection q with _ q
  injection q with _ q
  cases q
theorem Fk.kp {H H' : Hp} {p fl : Addr} {fs : List (Addr × Rd)} {c : Nat} (h : Fk H fl fs) (x : Pen H p c) (k : Kp p H H') : Fk H' fl fs :=
  ⟨k.1 _ _ h.1 (x.ne h.1 (no_fs fs)), fun z hz => k.1 _ _ (h.2 z hz) (x.ne (h.2 z hz) fun _ _ _ q => by cases q)⟩
theorem Wy.kp {H H' : Hp} {p wp : Addr} {day : Int} {drv : Str} {fs : List (Addr × Rd)} {legs worth : Int} {lt : List Str} {c : Nat} (h : Wy H wp day drv fs legs worth lt) (x : Pen H p c) (k : Kp p H H') : Wy H' wp day drv fs legs worth lt := by
  obtain ⟨fl, sl, e, fk, e2⟩ := h
  exact ⟨fl, sl, k.1 _ _ e (x.ne e no_wy), fk.kp x k, k.1 _ _ e2 (x.ne e2 (no_strs lt))⟩
theorem Kp.free {p t : Addr} {H H' : Hp} {c : Nat} (k : Kp p H H') (pn : Pen H' p c) (f : H' t = none) : H t = none := by
  cases e : H t with
  | none => rfl
  | some o =>
    by_cases z : t = p
    · rw [z] at f
      obtain ⟨l, ns, n, m, h1, _⟩ := pn
      rw [h1] at f
      cases f
    · rw [k.1 t o e z] at f
      cases f
section
variable {P : Program} {w : World} {K : PySem.W.Frag} {mg : Str → Option Value} {base : Heap} {f C CR : Addr} {fd : FuncData}
/-- a way that is new, its lists too -/
def WyF (H0 H : Hp) (wp : Addr) (day : Int) (drv : Str) (fs : List (Addr × Rd)) (legs worth : Int) (lt : List Str) : Prop := ∃ fl sl, H wp = some (.lst [.int day, .str drv, .ref fl, .int legs, .int worth, .ref sl]) ∧ Fk H fl fs ∧ H sl = some (.lst (lt.map V.str)) ∧ H0 fl = none ∧ H0 sl = none
def spWay : Sp := fun vs H Q _ => ∃ (p : Addr) (c : Nat), vs = [.ref p] ∧ Pen H p (c + 200) ∧
  ∀ (wp : Addr) (day : Int) (drv : Str) (fs : List (Addr × Rd)) (legs worth : Int) (lt : List Str) (H' : Hp), Pen H' p c → Kp p H H' → H wp = none → WyF H H' wp day drv fs legs worth lt → WayOk day drv fs legs worth lt → Q (.ref wp) H'
theorem ok_way (F : Dn K d_l_way f fd) (b : Bl mg) (cD : CalD P w K mg base) (cNm : Cal P w K mg base 2 "_law_names" spNames []) : FnOk P w K mg base CX0 3 f fd ["_law_pen_here"] spWay := by
  refine F.ok sc_l_way (fun vs H Q E h => ?_) (fun cdv A outer s H vs Q E hr h => ?_)
  · obtain ⟨p, c, rfl, _⟩ := h
    rfl
  · obtain ⟨p, c, rfl, pen0, hQ⟩ := h
    refine ⟨_, PSs.nox (C8.pss_cut (ps_par (i := 1) (j := 2) rfl sc_l_way.nd rfl rfl (by decide) rfl rfl (pa_cons (pe_c cNm hr (by decide) rfl (pa_cons (pv 0) (pa_cons pe_int pa_nil))) (pa_cons (pe_ix ix_list (pe_lst (pa_cons pe_int (pa_cons (pe_op op_add pe_int (pe_c cD hr (by decide) rfl (pa_cons (pv 0) (pa_cons pe_int pa_nil)))) (pa_cons pe_int pa_nil)))) (pe_c cD hr (by decide) rfl (pa_cons (pv 0) (pa_cons pe_int pa_nil))) (fun _ _ => rfl)) pa_nil)) rfl)
      (C8.pss_cut (ps_set (i := 3) sc_l_way.nd rfl (.inl rfl) (pe_ix ix_list (pe_lst (pa_cons pe_int (pa_cons pe_int (pa_cons (pe_c cD hr (by decide) rfl (pa_cons (pv 0) (pa_cons pe_int pa_nil))) (pa_cons (pe_c cD hr (by decide) rfl (pa_cons (pv 0) (pa_cons pe_int pa_nil))) pa_nil))))) (pe_c cD hr (by decide) rfl (pa_cons (pv 0) (pa_cons pe_int pa_nil))) (fun _ _ => rfl)))
      (pss_cons (ps_par (i := 4) (j := 5) rfl sc_l_way.nd rfl rfl (by decide) rfl rfl (pa_cons (pe_lst pa_nil) (pa_cons (pe_lst pa_nil) pa_nil)) rfl)
      (C8.pss_cut (ps_for PassesOwn.never rfl (pi_list (pe_slice sl_list (pv 1) (po_some pe_int) (po_some (pe_op op_add pe_int (pe_ix ix_list (pe_lst (pa_cons (pe_c cD hr (by decide) rfl (pa_cons (pv 0) (pa_cons pe_int pa_nil))) (pa_cons (pe_c cD hr (by decide) rfl (pa_cons (pv 0) (pa_cons pe_int pa_nil))) (pa_cons pe_int pa_nil)))) (pe_c cD hr (by decide) rfl (pa_cons (pv 0) (pa_cons pe_int pa_nil))) (fun _ _ => rfl)))))) (pg_name (i := 6) sc_l_way.nd rfl (.inl rfl))
        (pss_cons (ps_set (i := 7) sc_l_way.nd rfl (.inl rfl) (pe_c cD hr (by decide) rfl (pa_cons (pv 0) (pa_cons (pv 2) pa_nil))))
        (pss_cons (ps_expr (pe_bm PySem.F.plainAttrs_list PySem.F.slot_list_insert PySem.F.type_list_insert mt_insert (pv 4) (pa_cons (pe_c cD hr (by decide) rfl (pa_cons (pv 0) (pa_cons (pe_op op_add (pe_callB call_len_seq rfl b.len boot_len (pa_cons (pv 4) pa_nil)) pe_int) pa_nil)))
            (pa_cons (pe_tup (pa_cons (pv 6) (pa_cons (pv 7) (pa_cons (pe_op op_add (pe_op op_add (pv 7) pe_int) (pe_c cD hr (by decide) rfl (pa_cons (pv 0) (pa_cons (pe_op op_sub (pv 2) (pv 7)) pa_nil)))) pa_nil)))) pa_nil))))
        (pss_one (ps_if (pt_cmpR op_eq (pe_c cD hr (by decide) rfl (pa_cons (pv 0) (pa_cons pe_int pa_nil))) pe_int (nomark _))
          (pss_one (ps_expr (pe_bm PySem.F.plainAttrs_list PySem.F.slot_list_insert PySem.F.type_list_insert mt_insert (pv 5) (pa_cons (pe_c cD hr (by decide) rfl (pa_cons (pv 0) (pa_cons (pe_op op_add (pe_callB call_len_seq rfl b.len boot_len (pa_cons (pv 5) pa_nil)) pe_int) pa_nil))) (pa_cons (pv 6) pa_nil))))) pss_nil)))))
      (C8.pss_cut (ps_set (i := 8) sc_l_way.nd rfl (.inl rfl) (pe_ix ix_list (pe_lst (pa_cons pe_int (pa_cons (pe_op op_add pe_int (pe_c cD hr (by decide) rfl (pa_cons (pv 0) (pa_cons pe_int pa_nil)))) (pa_cons pe_int (pa_cons (pe_op op_add pe_int (pe_c cD hr (by decide) rfl (pa_cons (pv 0) (pa_cons pe_int pa_nil)))) pa_nil))))) (pe_c cD hr (by decide) rfl (pa_cons (pv 0) (pa_cons pe_int pa_nil))) (fun _ _ => rfl)))
      (pss_one (ps_ret (pe_lst (pa_cons (pv 3) (pa_cons (pe_ix ix_list (pv 1) pe_int (fun _ _ => rfl)) (pa_cons (pv 4) (pa_cons (pv 2) (pa_cons (pv 8) (pa_cons (pv 5) pa_nil)))))))))))))), ?_⟩
    -- names and legs
    refine ⟨fun σ' H' => ∃ (ko : Addr) (xs : List Str) (legs : Int), σ' = [some (.ref p), some (.ref ko), some (.int legs), none, none, none, none, none, none] ∧ H' ko = some (.lst (xs.map V.str)) ∧ xs.length = 12 ∧ (∀ x ∈ xs, ∃ l, x = S l ∧ NM.ok l) ∧ xs.Nodup ∧ 1 ≤ legs ∧ legs ≤ 12 ∧ Pen H' p (c + 150) ∧ Kp p H H', ?_, ?_⟩
    · refine ⟨_, rfl, p, c + 160, 12, rfl, pen0, by decide, fun ko zs H1 pen1 k1 fko offk hko zl zok zpw => ?_⟩
      refine ⟨_, rfl, p, c + 159, 12, rfl, pen1, by decide, by decide, fun r2 H2 a2 b2 pen2 k2 => ⟨_, _, rfl, rfl, by show 3 ≤ sizeLine; decide, fun u fu => ?_⟩⟩
      have su := same_new (o := .lst [.int 1, .int (1 + r2), .int 12]) fu
      refine ⟨_, rfl, p, c + 158, 3, rfl, pen2.same su, by decide, by decide, fun r3 H3 a3 b3 pen3 k3 => ?_⟩
      have hu3 : H3 u = some (.lst [.int 1, .int (1 + r2), .int 12]) := k3.1 u _ upd_same (Off.of pen2 fu).ne
      obtain ⟨v, hv, hv3⟩ := at3 (a := .int 1) (b := .int (1 + r2)) (c := .int 12) a3 b3
      obtain ⟨lg, rfl, g1, g2⟩ : ∃ x : Int, v = .int x ∧ 1 ≤ x ∧ x ≤ 12 := by
        rcases hv3 with rfl | rfl | rfl
        · exact ⟨_, rfl, by decide, by decide⟩
        · exact ⟨_, rfl, by omega, by omega⟩
        · exact ⟨_, rfl, by decide, by decide⟩
      refine ⟨u, _, _, _, rfl, rfl, SqL.of hu3, hv, _, _, rfl, ko, zs.map S, lg, rfl, ?_, by rw [List.length_map]; exact zl, ?_, ?_, g1, g2, pen3.weak (by omega), ((k1.trans k2).trans (Kp.same su)).trans k3⟩
      · rw [List.map_map]
        have n1 := offk.ne
        exact k3.1 _ _ (su _ _ (k2.1 _ _ hko n1)) n1
      · intro x hx
        obtain ⟨z, hz, rfl⟩ := List.mem_map.mp hx
        exact ⟨z, rfl, zok z hz⟩
      · exact List.pairwise_map.mpr (zpw.imp fun h e => h (S_inj e))
    rintro σ' H1 ⟨ko, xs, legs, rfl, hko, xl, xok, xnd, g1, g2, pen1, k01⟩
    -- the day
    refine ⟨fun σ' H' => ∃ (day : Int), σ' = [some (.ref p), some (.ref ko), some (.int legs), some (.int day), none, none, none, none, none] ∧ H' ko = some (.lst (xs.map V.str)) ∧ 0 ≤ day ∧ day ≤ 1000000 ∧ Pen H' p (c + 145) ∧ Kp p H H', ?_, ?_⟩
    · refine ⟨_, rfl, p, c + 149, 1000001, rfl, pen1, by decide, by decide, fun r2 H2 a2 b2 pen2 k2 => ?_⟩
      refine ⟨_, rfl, p, c + 148, 40, rfl, pen2, by decide, by decide, fun r3 H3 a3 b3 pen3 k3 => ⟨by show 4 ≤ sizeLine; decide, fun u fu => ?_⟩⟩
      have su := same_new (o := .lst [.int 0, .int 1000000, .int r2, .int r3]) fu
      refine ⟨_, rfl, p, c + 147, 4, rfl, pen3.same su, by decide, by decide, fun r4 H4 a4 b4 pen4 k4 => ?_⟩
      have hu4 : H4 u = some (.lst [.int 0, .int 1000000, .int r2, .int r3]) := k4.1 u _ upd_same (Off.of pen3 fu).ne
      obtain ⟨v, hv, hv4⟩ := at4 (a := .int 0) (b := .int 1000000) (c := .int r2) (d := .int r3) a4 b4
      obtain ⟨dy, rfl, d1, d2⟩ : ∃ x : Int, v = .int x ∧ 0 ≤ x ∧ x ≤ 1000000 := by
        rcases hv4 with rfl | rfl | rfl | rfl
        · exact ⟨_, rfl, by decide, by decide⟩
        · exact ⟨_, rfl, by decide, by decide⟩
        · exact ⟨_, rfl, by omega, by omega⟩
        · exact ⟨_, rfl, by omega, by omega⟩
      refine ⟨u, _, _, _, rfl, rfl, SqL.of hu4, hv, dy, rfl, ?_, d1, d2, pen4.weak (by omega), k01.trans (((k2.trans k3).trans (Kp.same su)).trans k4)⟩
      have n1 := pen1.ne hko (no_strs xs)
      exact k4.1 _ _ (su _ _ (k3.1 _ _ (k2.1 _ _ hko n1) n1)) n1
    clear pen1 hko k01
    rintro σ' H2 ⟨day, rfl, hko, d1, d2, pen2, k02⟩
    -- the lists
    refine ⟨by show 0 ≤ sizeLine; decide, fun fl ffl => ⟨by show 0 ≤ sizeLine; decide, fun sl fsl => ?_⟩⟩
    have s1 := same_new (o := .lst []) ffl
    have s2 := same_new (o := .lst []) fsl
    have hfl : (upd (upd H2 fl (.lst [])) sl (.lst [])) fl = some (.lst []) := s2 _ _ upd_same
    have hsl : (upd (upd H2 fl (.lst [])) sl (.lst [])) sl = some (.lst []) := upd_same
    have nfs : fl ≠ sl := ne_of_none upd_same fsl
    have s12 := s1.trans s2
    have off1 : Off p fl (upd (upd H2 fl (.lst [])) sl (.lst [])) := (Off.of pen2 ffl).kp (Kp.same s12)
    have off2 : Off p sl (upd (upd H2 fl (.lst [])) sl (.lst [])) := (Off.of (pen2.same s1) fsl).kp (Kp.same s2)
    have pen3 := pen2.same s12
    have hko3 := s12 _ _ hko
    have k03 := k02.trans (Kp.same (p := p) s12)
    have ffl0 : H fl = none := k02.free pen2 ffl
    have fsl0 : H sl = none := (k02.trans (Kp.same s1)).free (pen2.same s1) fsl
    generalize upd (upd H2 fl (.lst [])) sl (.lst []) = H3 at hfl hsl off1 off2 pen3 hko3 k03
    refine ⟨_, _, rfl, ?_⟩
    -- the riders
    refine ⟨fun σ' H' => ∃ (v6 v7 : Option V) (fs : List (Addr × Rd)) (lt : List Str), σ' = [some (.ref p), some (.ref ko), some (.int legs), some (.int day), some (.ref fl), some (.ref sl), v6, v7, none] ∧ H' ko = some (.lst (xs.map V.str)) ∧ Fk H' fl fs ∧ H' sl = some (.lst (lt.map V.str)) ∧ (∃ k, k ≤ 11 ∧ (nms fs).Perm ((xs.drop 1).take k)) ∧ (∀ z ∈ fs, 0 ≤ z.2.2.1 ∧ z.2.2.1 < z.2.2.2 ∧ z.2.2.2 ≤ legs) ∧ lt.Nodup ∧ (∀ x ∈ lt, x ∈ nms fs) ∧ Pen H' p (c + 50) ∧ Kp p H H', ?_, ?_⟩
    · refine ⟨_, rfl, 1, rfl, ?_⟩
      refine ⟨_, rfl, p, c + 144, 4, rfl, pen3, by decide, by decide, fun r4 H4 a4 b4 pen4 k4 => ?_⟩
      refine ⟨_, rfl, p, c + 143, 12, rfl, pen4, by decide, by decide, fun r5 H5 a5 b5 pen5 k5 => ⟨by show 3 ≤ sizeLine; decide, fun u fu => ?_⟩⟩
      have su := same_new (o := .lst [.int r4, .int r5, .int 11]) fu
      refine ⟨_, rfl, p, c + 142, 3, rfl, pen5.same su, by decide, by decide, fun r6 H6 a6 b6 pen6 k6 => ?_⟩
      have hu6 : H6 u = some (.lst [.int r4, .int r5, .int 11]) := k6.1 u _ upd_same (Off.of pen5 fu).ne
      obtain ⟨v, hv, hv3⟩ := at3 (a := .int r4) (b := .int r5) (c := .int 11) a6 b6
      obtain ⟨k, rfl, k11⟩ : ∃ k : Nat, v = .int (k : Int) ∧ k ≤ 11 := by
        rcases hv3 with rfl | rfl | rfl
        · exact ⟨r4.toNat, by rw [Int.toNat_of_nonneg a4], by omega⟩
        · exact ⟨r5.toNat, by rw [Int.toNat_of_nonneg a5], by omega⟩
        · exact ⟨11, rfl, by decide⟩
      have k36 := ((k4.trans k5).trans (Kp.same su)).trans k6
      have nko := pen3.ne hko3 (no_strs xs)
      have hko6 := k36.1 _ _ hko3 nko
      refine ⟨u, _, _, _, rfl, rfl, SqL.of hu6, hv, _, _, rfl, rfl, _, rfl, ko, _, rfl, SqL.of hko6, fun q fq => ?_⟩
      have ecut : cutV (xs.map V.str) (some 1) (some (1 + (k : Int))) = ((xs.drop 1).take k).map V.str := by
        have := cut_nat (xs.map V.str) 1 (1 + k) (by rw [List.length_map]; omega) (by rw [List.length_map]; omega)
        have e1 : ((1 + k : Nat) : Int) = 1 + (k : Int) := by omega
        rw [e1] at this
        rw [show (1 + k - 1) = k by omega, ← List.map_drop, ← List.map_take] at this
        exact this
      rw [ecut]
      generalize hws : (xs.drop 1).take k = ws
      have wnd : ws.Nodup := by
        rw [← hws]
        exact (xnd.sublist (List.drop_sublist 1 xs)).sublist (List.take_sublist k _)
      have wl : ws.length ≤ 11 := by rw [← hws, List.length_take]; omega
      have sq := same_new (o := .lst (ws.map V.str)) fq
      have hq : (upd H6 q (.lst (ws.map V.str))) q = some (.lst (ws.map V.str)) := upd_same
      have nqf : fl ≠ q := ne_of_none (k36.1 _ _ hfl off1.ne) fq
      have nqs : sl ≠ q := ne_of_none (k36.1 _ _ hsl off2.ne) fq
      have pen7 := pen6.same sq
      have nqp : q ≠ p := pen7.ne hq (no_strs ws)
      have k37 := k36.trans (Kp.same (p := p) sq)
      have off17 := off1.kp k37
      have off27 := off2.kp k37
      have hfl7 := k37.1 _ _ hfl off1.ne
      have hsl7 := k37.1 _ _ hsl off2.ne
      have hko7 := k37.1 _ _ hko3 nko
      have nkf : ko ≠ fl := ne_of_none hko ffl
      have nks : ko ≠ sl := ne_of_none (s1 _ _ hko) fsl
      generalize upd H6 q (.lst (ws.map V.str)) = H7 at hq pen7 k37 off17 off27 hfl7 hsl7 hko7
      refine ⟨q, rfl, ⟨_, SqL.of hq⟩, for_list (K := K) (xs := ws.map V.str) (fun i σ H' => ∃ (v6 v7 : Option V) (fs : List (Addr × Rd)) (lt : List Str), σ = [some (.ref p), some (.ref ko), some (.int legs), some (.int day), some (.ref fl), some (.ref sl), v6, v7, none] ∧ H' ko = some (.lst (xs.map V.str)) ∧ Fk H' fl fs ∧ H' sl = some (.lst (lt.map V.str)) ∧ (nms fs).Perm (ws.take i) ∧ (∀ z ∈ fs, 0 ≤ z.2.2.1 ∧ z.2.2.1 < z.2.2.2 ∧ z.2.2.2 ≤ legs) ∧ lt.Nodup ∧ (∀ x ∈ lt, x ∈ nms fs) ∧ Pen H' p (c + 140 - 5 * i) ∧ Kp p H H' ∧ Off p fl H' ∧ Off p sl H' ∧ H' q = some (.lst (ws.map V.str)))
        ⟨_, _, [], [], rfl, hko7, ⟨hfl7, (fun z hz => by cases hz)⟩, hsl7, List.Perm.refl _, (fun z hz => by cases hz), List.Pairwise.nil, (fun x hx => by cases hx), pen7.weak (by omega), k03.trans k37, off17, off27, hq⟩ (fun i σ H' _ z => by
          obtain ⟨_, _, _, _, _, _, _, _, _, _, _, _, _, _, _, _, e⟩ := z
          exact SqL.of e) ?_ ?_⟩
      · rintro i v σ H8 hi ⟨v6, v7, fs, lt, rfl, hko8, fk8, hsl8, pm8, rok8, ltn8, lts8, pen8, k08, off18, off28, hq8⟩
        rw [List.getElem?_map] at hi
        obtain ⟨z, hz, rfl⟩ := Option.map_eq_some_iff.mp hi
        have hi' : i < ws.length := (List.getElem?_eq_some_iff.mp hz).1
        have nz := nin_take wnd hz
        have et : ws.take (i + 1) = ws.take i ++ [z] := by rw [List.take_succ, hz]; rfl
        have fl8 : fs.length = i := by
          have := pm8.length_eq
          unfold nms at this
          rw [List.length_map, List.length_take] at this
          omega
        have ltl8 := lt_len ltn8 lts8
        refine ⟨_, rfl, _, rfl, p, c + 139 - 5 * i, legs, rfl, pen8.weak (by omega), by omega, by omega, fun bg H9 b0 b1 pen9 k9 => ?_⟩
        have fk9 := fk8.kp pen8 k9
        have off19 := off18.kp k9
        refine ⟨_, rfl, Or.inl ⟨rfl, _, SqL.of fk9.1⟩, _, rfl, _, rfl, fl, _, rfl, .inl (SqL.of fk9.1), _, _, rfl, rfl, p, c + 138 - 5 * i, _, rfl, pen9.weak (by omega), by omega, by rw [List.length_map]; omega, fun r H10 r0 r1 pen10 k10 => ?_⟩
        rw [List.length_map] at r1
        refine ⟨_, rfl, _, rfl, _, rfl, _, _, rfl, rfl, _, rfl, _, rfl, _, rfl, _, _, rfl, rfl, p, c + 137 - 5 * i, _, rfl, pen10.weak (by omega), by omega, by omega, fun r' H11 r0' r1' pen11 k11' => ⟨_, _, rfl, rfl, by show 3 ≤ sizeLine; decide, fun t ft => ?_⟩⟩
        have st := same_new (o := .tup [.str z, .int bg, .int (bg + 1 + r')]) ft
        have fk12 := (((fk9.kp pen9 k10).kp pen10 k11')).same st
        have ht12 : (upd H11 t (.tup [.str z, .int bg, .int (bg + 1 + r')])) t = some (.tup (rdV (z, bg, bg + 1 + r'))) := upd_same
        have k812 := ((k9.trans k10).trans k11').trans (Kp.same (p := p) st)
        have off112 := off18.kp k812
        have off212 := off28.kp k812
        have pen12 := pen11.same st
        have hsl12 := k812.1 _ _ hsl8 off28.ne
        have hko12 := k812.1 _ _ hko8 (pen8.ne hko8 (no_strs xs))
        have hq12 := k812.1 _ _ hq8 nqp
        generalize upd H11 t (.tup [.str z, .int bg, .int (bg + 1 + r')]) = H12 at fk12 ht12 k812 off112 off212 pen12 hsl12 hko12 hq12
        refine ⟨fl, _, r, .ref t, rfl, rfl, fk12.1, by rw [List.length_map]; exact Nat.lt_of_lt_of_le (by omega : fs.length < 64) (by decide), r0, by omega, ?_⟩
        have ntf : ∀ {a : Addr} {ys : List V}, H12 a = some (.tup ys) → a ≠ fl := fun e q => by rw [q, fk12.1] at e; cases e
        have ef : (fs.map fun z => V.ref z.1).take r.toNat ++ [.ref t] ++ (fs.map fun z => V.ref z.1).drop r.toNat = (fs.take r.toNat ++ [(t, (z, bg, bg + 1 + r'))] ++ fs.drop r.toNat).map fun z => V.ref z.1 := by
          simp [List.map_append, List.map_take, List.map_drop]
        rw [ef]
        generalize hgs : fs.take r.toNat ++ [(t, (z, bg, bg + 1 + r'))] ++ fs.drop r.toNat = gs
        have pg : gs.Perm ((t, (z, bg, bg + 1 + r')) :: fs) := by
          rw [← hgs, List.append_assoc]
          have := List.perm_middle (a := ((t, (z, bg, bg + 1 + r')) : Addr × Rd)) (l₁ := fs.take r.toNat) (l₂ := fs.drop r.toNat)
          rw [List.take_append_drop] at this
          exact this
        have fk13 : Fk (upd H12 fl (.lst (gs.map fun z => V.ref z.1))) fl gs := ⟨upd_same, fun y hy => by
          rcases List.mem_cons.mp (pg.mem_iff.mp hy) with e | e
          · rw [e, upd_ne (ntf ht12)]
            exact ht12
          · have := fk12.2 y e
            rw [upd_ne (ntf this)]
            exact this⟩
        have pm13 : (nms gs).Perm (ws.take (i + 1)) := by
          have h1 : (nms gs).Perm (z :: nms fs) := pg.map _
          rw [et]
          exact h1.trans ((List.Perm.cons z pm8).trans (List.perm_append_singleton z _).symm)
        have rok13 : ∀ y ∈ gs, 0 ≤ y.2.2.1 ∧ y.2.2.1 < y.2.2.2 ∧ y.2.2.2 ≤ legs := fun y hy => by
          rcases List.mem_cons.mp (pg.mem_iff.mp hy) with e | e
          · rw [e]
            exact ⟨b0, by show bg < bg + 1 + r'; omega, by show bg + 1 + r' ≤ legs; omega⟩
          · exact rok8 y e
        have lts13 : ∀ x ∈ lt, x ∈ nms gs := fun x hx => (pg.map (·.2.1)).mem_iff.mpr (List.mem_cons_of_mem _ (lts8 x hx))
        have hzg : z ∈ nms gs := (pg.map (·.2.1)).mem_iff.mpr List.mem_cons_self
        have nzl : z ∉ lt := fun hm => nz (pm8.mem_iff.mp (lts8 z hm))
        have pen13 := pen12.put (o := .lst (gs.map fun z => V.ref z.1)) off112
        have k013 : Kp p H (upd H12 fl (.lst (gs.map fun z => V.ref z.1))) := (k08.trans k812).new ffl0
        have npf : p ≠ fl := off112.ne.symm
        have off113 := off112.put (o := .lst (gs.map fun z => V.ref z.1)) npf
        have off213 := off212.put (o := .lst (gs.map fun z => V.ref z.1)) npf
        have hsl13 : (upd H12 fl (.lst (gs.map fun z => V.ref z.1))) sl = some (.lst (lt.map V.str)) := by rw [upd_ne nfs.symm]; exact hsl12
        have hko13 : (upd H12 fl (.lst (gs.map fun z => V.ref z.1))) ko = some (.lst (xs.map V.str)) := by rw [upd_ne nkf]; exact hko12
        have hq13 : (upd H12 fl (.lst (gs.map fun z => V.ref z.1))) q = some (.lst (ws.map V.str)) := by rw [upd_ne nqf.symm]; exact hq12
        generalize upd H12 fl (.lst (gs.map fun z => V.ref z.1)) = H13 at fk13 pen13 k013 off113 off213 hsl13 hko13 hq13
        refine ⟨_, rfl, p, c + 136 - 5 * i, 4, rfl, pen13.weak (by omega), by decide, by decide, fun r4 H14 r40 r41 pen14 k14 => ⟨rfl, _, rfl, ?_⟩⟩
        have fk14 := fk13.kp pen13 k14
        have off114 := off113.kp k14
        have off214 := off213.kp k14
        have hsl14 := k14.1 _ _ hsl13 off213.ne
        have hko14 := k14.1 _ _ hko13 (pen13.ne hko13 (no_strs xs))
        have hq14 := k14.1 _ _ hq13 nqp
        refine ite2 (fun _ => ?_) (fun _ => ?_)
        · refine ⟨_, rfl, Or.inl ⟨rfl, _, SqL.of hsl14⟩, _, rfl, _, rfl, sl, _, rfl, .inl (SqL.of hsl14), _, _, rfl, rfl, p, c + 135 - 5 * i, _, rfl, pen14.weak (by omega), by omega, by rw [List.length_map]; omega, fun r5 H15 r50 r51 pen15 k15 => ?_⟩
          rw [List.length_map] at r51
          have fk15 := fk14.kp pen14 k15
          have off115 := off114.kp k15
          have off215 := off214.kp k15
          have hsl15 := k15.1 _ _ hsl14 off214.ne
          have hko15 := k15.1 _ _ hko14 (pen14.ne hko14 (no_strs xs))
          have hq15 := k15.1 _ _ hq14 nqp
          refine ⟨_, rfl, sl, _, r5, .str z, rfl, rfl, hsl15, by rw [List.length_map]; exact Nat.lt_of_lt_of_le (by omega : lt.length < 64) (by decide), r50, by omega, ?_⟩
          have el : (lt.map V.str).take r5.toNat ++ [.str z] ++ (lt.map V.str).drop r5.toNat = (lt.take r5.toNat ++ [z] ++ lt.drop r5.toNat).map V.str := by
            simp [List.map_append, List.map_take, List.map_drop]
          rw [el]
          have pl : (lt.take r5.toNat ++ [z] ++ lt.drop r5.toNat).Perm (z :: lt) := by
            rw [List.append_assoc]
            have := List.perm_middle (a := z) (l₁ := lt.take r5.toNat) (l₂ := lt.drop r5.toNat)
            rw [List.take_append_drop] at this
            exact this
          generalize lt.take r5.toNat ++ [z] ++ lt.drop r5.toNat = lt2 at pl
          have nps : p ≠ sl := off215.ne.symm
          have fk16 : Fk (upd H15 sl (.lst (lt2.map V.str))) fl gs := ⟨by rw [upd_ne nfs]; exact fk15.1, fun y hy => by
            have := fk15.2 y hy
            rw [upd_ne (fun e => by rw [e, hsl15] at this; cases this)]
            exact this⟩
          refine ⟨_, _, gs, lt2, rfl, ?_, fk16, upd_same, pm13, rok13, pl.nodup_iff.mpr (List.nodup_cons.mpr ⟨nzl, ltn8⟩), fun x hx => ?_, (pen15.put off215).weak (by omega), ((k013.trans k14).trans k15).new fsl0, off115.put nps, off215.put nps, ?_⟩
          · rw [upd_ne nks]
            exact hko15
          · rcases List.mem_cons.mp (pl.mem_iff.mp hx) with e | e
            · rw [e]; exact hzg
            · exact lts13 x e
          · rw [upd_ne nqs.symm]
            exact hq15
        · exact ⟨_, _, gs, lt, rfl, hko14, fk14, hsl14, pm13, rok13, ltn8, lts13, pen14.weak (by omega), k013.trans k14, off114, off214, hq14⟩
      · rintro σ H8 ⟨v6, v7, fs, lt, rfl, hko8, fk8, hsl8, pm8, rok8, ltn8, lts8, pen8, k08, off18, off28, hq8⟩
        rw [List.length_map, List.take_length] at pm8
        rw [List.length_map] at pen8
        exact ⟨_, _, fs, lt, rfl, hko8, fk8, hsl8, ⟨k, k11, by rw [hws]; exact pm8⟩, rok8, ltn8, lts8, pen8.weak (by omega), k08⟩
    clear hfl hsl off1 off2 pen3 hko3 k03
    rintro σ' H4 ⟨v6, v7, fs, lt, rfl, hko4, fk4, hsl4, ⟨k, k11, pm4⟩, rok4, ltn4, lts4, pen4, k04⟩
    -- the worth
    refine ⟨fun σ' H' => ∃ (worth : Int), σ' = [some (.ref p), some (.ref ko), some (.int legs), some (.int day), some (.ref fl), some (.ref sl), v6, v7, some (.int worth)] ∧ 1 ≤ worth ∧ worth ≤ 1000 ∧ H' ko = some (.lst (xs.map V.str)) ∧ Fk H' fl fs ∧ H' sl = some (.lst (lt.map V.str)) ∧ Pen H' p c ∧ Kp p H H', ?_, ?_⟩
    · refine ⟨_, rfl, p, c + 49, 1000, rfl, pen4, by decide, by decide, fun r2 H5 a2 b2 pen5 k5 => ⟨_, _, rfl, rfl, ?_⟩⟩
      refine ⟨_, rfl, p, c + 48, 30, rfl, pen5, by decide, by decide, fun r3 H6 a3 b3 pen6 k6 => ⟨_, _, rfl, rfl, by show 4 ≤ sizeLine; decide, fun u fu => ?_⟩⟩
      have su := same_new (o := .lst [.int 1, .int (1 + r2), .int 1000, .int (1 + r3)]) fu
      refine ⟨_, rfl, p, c + 47, 4, rfl, pen6.same su, by decide, by decide, fun r4 H7 a4 b4 pen7 k7 => ?_⟩
      have hu7 : H7 u = some (.lst [.int 1, .int (1 + r2), .int 1000, .int (1 + r3)]) := k7.1 u _ upd_same (Off.of pen6 fu).ne
      obtain ⟨v, hv, hv4⟩ := at4 (a := .int 1) (b := .int (1 + r2)) (c := .int 1000) (d := .int (1 + r3)) a4 b4
      obtain ⟨wo, rfl, w1, w2⟩ : ∃ x : Int, v = .int x ∧ 1 ≤ x ∧ x ≤ 1000 := by
        rcases hv4 with rfl | rfl | rfl | rfl
        · exact ⟨_, rfl, by decide, by decide⟩
        · exact ⟨_, rfl, by omega, by omega⟩
        · exact ⟨_, rfl, by decide, by decide⟩
        · exact ⟨_, rfl, by omega, by omega⟩
      have k47 := ((k5.trans k6).trans (Kp.same (p := p) su)).trans k7
      exact ⟨u, _, _, _, rfl, rfl, SqL.of hu7, hv, wo, rfl, w1, w2, k47.1 _ _ hko4 (pen4.ne hko4 (no_strs xs)), fk4.kp pen4 k47, k47.1 _ _ hsl4 (pen4.ne hsl4 (no_strs lt)), pen7.weak (by omega), k04.trans k47⟩
    rintro σ' H5 ⟨worth, rfl, w1, w2, hko5, fk5, hsl5, pen5, k05⟩
    obtain ⟨drv, hdrv⟩ : ∃ d, xs[0]? = some d := ⟨xs[0], List.getElem?_eq_getElem (by omega)⟩
    have exs : xs = drv :: xs.drop 1 := by
      cases xs with
      | nil => cases hdrv
      | cons x xs => cases hdrv; rfl
    refine ⟨_, rfl, _, rfl, ko, _, _, .str drv, rfl, rfl, SqL.of hko5, atI_nat (j := 0) (by rw [List.getElem?_map, hdrv]; rfl), _, rfl, _, rfl, _, rfl, _, rfl, by show 6 ≤ sizeLine; decide, fun wp fwp => ?_⟩
    have sw := same_new (o := .lst [.int day, .str drv, .ref fl, .int legs, .int worth, .ref sl]) fwp
    have nsub : ∀ x ∈ nms fs, x ∈ xs := fun x hx => List.mem_of_mem_drop (List.mem_of_mem_take (pm4.mem_iff.mp hx))
    refine hQ wp day drv fs legs worth lt _ (pen5.same sw) (k05.trans (Kp.same sw)) (k05.free pen5 fwp) ⟨fl, sl, upd_same, fk5.same sw, sw _ _ hsl5, ffl0, fsl0⟩ ⟨d1, d2, xok drv (List.mem_of_getElem? hdrv), g1, g2, w1, w2, ⟨?_, fun z hz => ?_, rok4, ?_⟩, ltn4, lts4⟩
    · have := pm4.length_eq
      unfold nms at this
      rw [List.length_map, List.length_take] at this
      omega
    · exact xok _ (nsub _ (List.mem_map.mpr ⟨z, hz, rfl⟩))
    · refine (List.Perm.cons drv pm4).nodup_iff.mpr ?_
      rw [exs] at xnd
      exact List.Sublist.nodup (List.Sublist.cons_cons _ (List.take_sublist k _)) xnd
end
end K21
set_option Elab.async false
set_option linter.all false
set_option maxRecDepth 100000
set_option maxHeartbeats 4000000
/-! SLC: xs[i:j] = ys, a list of its own put over a part of a list. -/
namespace SLC
open PySem PySem.Spec PyProof.Rows L2
section
variable {X : Cx} {o : Expr} {lo hi : Option Expr} {p2 pos : Pos} {to : TE} {tl th : TO}
def gSl (to : TE) (tl th : TO) : TG := fun v σ H Q => to σ H fun x H1 => tl σ H1 fun l H2 => th σ H2 fun u H3 => ∃ (p b : Addr) (xs ys : List V) (a c : Int), x = .ref p ∧ v = .ref b ∧ l = some a ∧ u = some c ∧ H3 p = some (.lst xs) ∧ H3 b = some (.lst ys) ∧ p ≠ b ∧ 0 ≤ a ∧ a ≤ c ∧ c ≤ xs.length ∧ xs.length + ys.length ≤ sizeLine ∧ Q σ (upd H3 p (.lst (xs.take a.toNat ++ ys ++ xs.drop c.toNat)))
theorem pg_slice (ho : PE X o to) (hl : PO X lo tl) (hu : PO X hi th)
    (ha : ∀ v, assign (.Subscript o (.Slice lo hi none p2) pos) X.env v = (do
      let w ← holding [v] (eval o X.env)
      let k ← holding [v, w] (eval (.Slice lo hi none p2) X.env)
      standAt pos
      holding [v, w, k] (setItem w k v)
      release [k, v, w] []) := by intro _; rfl) : PG X (.Subscript o (.Slice lo hi none p2) pos) (gSl to tl th) := by
  refine ⟨fun pins s σ H v u Q I r h => ?_⟩
  rw [ha]
  refine wpAny_bind (wpAny_holding (thn (ho.run pins s σ H _ I h) fun ov s1 ⟨x, H1, I1, r1, q1⟩ => ?_))
  refine wpAny_bind (wpAny_holding ?_)
  refine wpAny_Slice (thn (hl.run pins s1 σ H1 _ I1 q1) fun vl s2 ⟨l, H2, I2, pl, q2⟩ => thn (hu.run pins s2 σ H2 _ I2 q2) fun vu s3 ⟨w, H3, I3, pu, q3⟩ => ?_)
  rw [evalPart_none]
  refine wpAny_pure ?_
  obtain ⟨p, b, xs, ys, a, c, rfl, rfl, rfl, rfl, hp, hb, ne, a0, ac, cl, z, q⟩ := q3
  have I4 : Inv X pins σ H3 { s3 with heap := s3.heap.push { cls := .type "slice", data := .fields #[vl, vu, .none] } } := I3.kept (t' := s3.toks) fun b ob q => Heap.get?_push_of_some _ q
  cases r1
  cases r
  have ra : RelV (.int a) vl := by cases pl; exact ⟨_, rfl⟩
  have rc : RelV (.int c) vu := by cases pu; exact ⟨_, rfl⟩
  refine wpAny_bind (wpAny_standAt (wpAny_bind (wpAny_holding ?_)))
  refine set_slice I4 hp hb ne (Heap.IsSliceOf.new ..) ra rc a0 ac cl z fun s' I' => ?_
  exact wpAny_release ⟨σ, _, I', q⟩
end
end SLC
set_option Elab.async false
set_option linter.all false
set_option maxRecDepth 100000
set_option maxHeartbeats 4000000
/-! GL: promises of defs that are asked only where no repr is under way (A.guards = some []); what such a def may do more: repr of lists and tuples. -/
namespace GL
open PySem PySem.Spec PyProof.Rows L2
/-- a def's promise, where no repr is under way -/
structure FnG (P : Program) (w : World) (K : PySem.W.Frag) (mg : Str → Option Value) (base : Heap) (k : Nat) (f : Addr) (fd : FuncData) (ps : List Str) (sp : Sp) : Prop where
  len : ∀ vs H Q E, sp vs H Q E → vs.length = ps.length
  run : ∀ (A : Around) (outer : List Env) (s : Shared) (H : Hp) (args : Args) (us : List Value) (vs : List V) (Q : VK) (E : XK), A.guards = some [] → Room k A → Env0 P w K mg base A outer s H → BindsTo s fd args (ps.zip us) → Vals vs us → sp vs H Q E →
    codeAny (model P w) A (.call (.ref f) args) (CR CX0 outer P w H s Q E) s
section
variable {P : Program} {w : World} {K : PySem.W.Frag} {mg : Str → Option Value} {base : Heap} {k : Nat} {f : Addr} {fd : FuncData} {ps : List Str} {sp : Sp}
theorem FnG.of (F : FnOk P w K mg base CX0 k f fd ps sp) : FnG P w K mg base k f fd ps sp := ⟨F.len, fun A outer s H args us vs Q E _ => F.run A outer s H args us vs Q E⟩
/-- by its body -/
theorem okG {x qual : Str} {params : Arguments} {body : List Stmt} {scope : Scope} {dvs : List V} {kws : List (Str × V)} {N : List Str} (F : FunD K x qual params body scope dvs kws f fd) (S : FnScope N ps scope) (len : ∀ vs H Q E, sp vs H Q E → vs.length = ps.length)
    (hbody : ∀ (cdv : Value) (A : Around) (outer : List Env) (s : Shared) (H : Hp) (vs : List V) (Q : VK) (E : XK), A.guards = some [] → Room k (A.deeper (envOfC qual scope s.heap.objs.size f cdv)) → sp vs H Q E →
      ∃ t, PSs (cxOf CX0 P w K mg base N qual scope f cdv A outer s H E) body t ∧ t { nx := fun _ H' => Q .non H', rt := Q } (start N vs) H) : FnG P w K mg base (k + 1) f fd ps sp := by
  refine ⟨len, fun A outer s H args us vs Q E hg hr e0 hb r hsp => ?_⟩
  obtain ⟨oc, od, dV, kV, doc, pm, an, cdv, ct, osl, hfd, lk, hcd, _, _⟩ := F.ex
  subst hfd
  obtain ⟨t, ht, hq⟩ := hbody cdv A outer s H vs Q E hg (hr.deeper _) hsp
  have keep : ∀ b o, base.get? b = some o → s.heap.get? b = some o := fun b o e => (e0.bs b o e).1
  have KX : K.In s.heap := e0.mod.kin.keeps keep
  refine codeAny_call_function hr.depth (KX _ _ lk) rfl S.co S.gen rfl (PySem.W.codeRec_of KX hcd) (hb _ _ _ _ (wpAny_newFunctionEnv_cells S.kind (fun y hy => ?_) fun env he s1 x => ?_))
  · exact (S.par y.1 (List.of_mem_zip hy).1).imp id fun q => ⟨q, PySem.W.cellsFrom_some _ _ _ (.inl q)⟩
  · subst he
    refine ⟨(e0.mod.nolimit.keeps keep).keeps x.toInCall.keep, codeAny_func (wpAny_mono (ht.run [] s1 (start N vs) H _ (inv_start S hr.hd e0 (len _ _ _ _ hsp) r x) hq) (fun fl s' hs => ?_) fun e s' hs => hs)⟩
    match fl, hs with
    | .ret u, ⟨v, σ', H', J, rv, q⟩ => exact ⟨v, H', J.os, J.bare, J.base, J.hok, rv, q⟩
    | .next, ⟨σ', H', J, q⟩ => exact ⟨.non, H', J.os, J.bare, J.base, J.hok, rfl, q⟩
    | .brk, ⟨_, _, _, q⟩ => exact q.elim
    | .cont, ⟨_, _, _, q⟩ => exact q.elim
end
/-- the package of a def of this kind -/
structure CalG (P : Program) (w : World) (K : PySem.W.Frag) (mg : Str → Option Value) (base : Heap) (k : Nat) (x : Str) (sp : Sp) (dvs : List V) : Prop where
  ex : ∃ (f : Addr) (fd : FuncData) (ps : List Str) (ds : List Value), FnG P w K mg base k f fd ps sp ∧ mg x = some (.ref f) ∧ PySem.W.keepIn K (.ref f) = true ∧ Binds K fd ps ds ∧ Vals dvs ds
section
variable {X : Cx} {k j : Nat} {x : Str} {sp : Sp} {dvs : List V} {e : Expr} {es : List Expr} {t : TA} {p pos : Pos}
theorem pe_cG (c : CalG X.prog X.w X.K X.mg X.base k x sp dvs) (hgd : X.A.guards = some []) (hr : Room j X.A) (hk : k ≤ j) (hg : Gl X x) (ha : PA X (e :: es) t)
    (hdb : (x == ("__debug__" : Str)) = false := by decide) (he : starEach (e :: es) X.env = (false, eval e X.env) :: starEach es X.env := by rfl) (hpl : (backTo pos (starEach es X.env)).any (·.1) = false := by rfl) :
    PE X (.Call (.Name x p) (e :: es) [] pos) (tCall sp dvs E0 t) := by
  obtain ⟨f, fd, ps, ds, F, hm, kp, b, d⟩ := c.ex
  refine ⟨fun pins s σ H Q I h => wpAny_Call_Name_kw (ld_glob I hg hm (PySem.W.callWith_K (h₀ := X.base) I.ok.mod.kin kp (thn (ha.run pos pins s σ H _ I h) fun us s1 ⟨vs, H1, I1, r, q⟩ => ⟨I1.kIn, ?_⟩) he hpl) hdb)⟩
  have r2 := r.append d
  refine wpAny_call (codeAny_mono (F.run X.A X.stack s1 H1 ⟨us, []⟩ (us ++ ds) (vs ++ dvs) Q E0 hgd (hr.mono hk) I1.env0 (b s1 us I1.kIn (r2.length.symm.trans (F.len _ _ _ _ q))) r2 q) fun r s' hq => ?_)
  match r, hq with
  | .error _, hq => exact hq.elim
  | .ok (.ret u), hq => exact I1.after hq
  | .ok .next, hq => exact hq.elim
  | .ok .brk, hq => exact hq.elim
  | .ok .cont, hq => exact hq.elim
/-- repr of what is flat, of lists and tuples -/
def rRepr (K : PySem.W.Frag) : List V → Hp → VK → Prop := fun xs H Q => ∃ (y : V) (d : PyData), xs = [y] ∧ Dp K H y d ∧ d.showable = true ∧ d.hasDict = false ∧ d.depth ≤ 60 ∧ d.shown.length ≤ sizeLine ∧ Q (.str d.shown) H
theorem call_reprD (hgd : X.A.guards = some []) (hu : X.A.units + 64 < cLine) : CallR X (.builtin "repr") (rRepr X.K) := by
  intro pins s σ H xs us Q I r h
  obtain ⟨y, d, rfl, hd, hs, hn, hdp, hsz, q⟩ := h
  obtain ⟨u, rfl, ru⟩ := r.one
  obtain ⟨as, rd⟩ := Dp.reads I d y u hd ru
  have fin : ∀ h' tk t, (∀ b o, s.heap.get? b = some o → h'.get? b = some o) → EP X pins σ Q (.str d.shown t) { s with heap := h', toks := tk } := fun h' tk t hk => ⟨.str d.shown, H, I.kept hk, ⟨t, rfl⟩, q⟩
  cases hd with
  | non => cases ru; exact PySem.P.repr_of_none (fin s.heap _ _ fun _ _ e => e)
  | bl b => cases ru; exact PySem.P.repr_of_bool (fin s.heap _ _ fun _ _ e => e)
  | int i =>
    obtain ⟨t, rfl⟩ := ru
    exact PySem.P.repr_of_int (of_decide_eq_true hs) (fin s.heap _ _ fun _ _ e => e)
  | str z =>
    obtain ⟨t, rfl⟩ := ru
    exact PySem.P.repr_of_str (fin s.heap _ _ fun _ _ e => e) hsz
  | lst _ _ =>
    cases ru
    exact repr_of_reads' rd hs (fun z => absurd z (by rw [hn]; decide)) hgd (by omega) (fun _ _ e => e) (fun h' u tk hk => fin h' tk u hk) hsz
  | tup _ _ =>
    cases ru
    exact repr_of_reads' rd hs (fun z => absurd z (by rw [hn]; decide)) hgd (by omega) (fun _ _ e => e) (fun h' u tk hk => fin h' tk u hk) hsz
end
end GL
set_option Elab.async false
set_option linter.all false
set_option maxRecDepth 100000
set_option maxHeartbeats 4000000
/-! GE: a law's end by a promise that is asked only where no repr is under way. -/
namespace GL
open PySem PySem.Spec PyProof.Rows L2
theorem lawG {P : Program} {w : World} {K : PySem.W.Frag} {mg mb : Str → Option Value} {k : Nat} {fa a : Addr} {fd : FuncData} {x : Str} {sp : Sp} {s₁ : Shared} {vs : List Value} {ns : List Int}
    (KX : K.In s₁.heap) (hns : s₁.heap.Ns mainGlobals mg) (hb : s₁.heap.Ns builtinsNs mb) (hbb : ∀ x : Str, x ≠ "__name__" → mb x = bootBuiltins x) (hlim : s₁.heap.NoLimit) (hg : s₁.gens = #[])
    (ha : s₁.heap.get? a = some { cls := .type "list", data := .seq vs.toArray }) (hi : IntsAre vs ns) (hl : ns.length ≤ sizeLine) (hr : Room k callerA)
    (F : ∀ base : Heap, K.In base → base.Ns mainGlobals mg → FnG P w K mg base k fa fd [x] sp) (hbind : ∀ (s : Shared) (u : Value), BindsTo s fd ⟨[u], []⟩ [(x, u)])
    (hsp : ∀ H : Hp, SqL K H a (ns.map V.int) → sp [.ref a] H (fun v _ => v = .bl true) fun _ _ _ => False) :
    codeAny (model P w) callerA (.call (.ref fa) ⟨[.ref a], []⟩) (fun r s' => r = .ok (.ret (.bool true)) ∧ OldK s₁.heap s'.heap ∧ s'.os = s₁.os ∧ AllBare s'.gens) s₁ := by
  -- the script alone is tracked, as it is, or nothing
  have from_ : ∀ H : Hp, SqL K H a (ns.map V.int) → HOk P w H s₁.heap → (∀ b u, H b = some u → b = a ∧ K.lookup a = none ∧ ∃ o xs, u = .frz o (.lst xs)) →
      codeAny (model P w) callerA (.call (.ref fa) ⟨[.ref a], []⟩) (fun r s' => r = .ok (.ret (.bool true)) ∧ OldK s₁.heap s'.heap ∧ s'.os = s₁.os ∧ AllBare s'.gens) s₁ := by
    intro H hS hok hA
    have off : ∀ b, (b = a → K.lookup a ≠ none) → H b = none := fun b n => by
      cases q : H b with
      | none => rfl
      | some u => exact absurd (hA b u q).2.1 (n (hA b u q).1)
    have nsK : ∀ {b : Addr} {m : Str → Option Value}, s₁.heap.Ns b m → (hidT s₁.heap H).Ns b m := by
      rintro b m ⟨o, es, ep, e, d, r⟩
      refine ⟨o, es, ep, hidT_get e (off b fun z => ?_), d, r⟩
      subst z
      rw [ha] at e
      cases e
      cases d
    have inK : K.In (hidT s₁.heap H) := fun b o e => hidT_get (KX b o e) (off b fun z => by rw [← z, e]; simp)
    have hM : Mod K mg (hidT s₁.heap H) := ⟨inK, nsK hns, ⟨mb, nsK hb, hbb⟩, by obtain ⟨mc, h1, h2⟩ := hlim; exact ⟨mc, nsK h1, h2⟩⟩
    have nofr : ∀ b : Addr, b ∉ frs ([] : List Env) := fun b z => nomatch z
    have e0 : Env0 P w K mg (hidT s₁.heap H) callerA [] s₁ H := ⟨rfl, hM, fun b o e => of_hidT e, Nat.le_of_eq (hidT_size _ _), trivial, fun b z => absurd z (nofr b), hok, .of_eq hg⟩
    refine codeAny_mono ((F _ inK (nsK hns)).run callerA [] s₁ H ⟨[.ref a], []⟩ [.ref a] [.ref a] _ _ rfl hr e0 (hbind s₁ (.ref a)) (.cons rfl .nil) (hsp H hS)) fun r s' h => ?_
    match r, h with
    | .error e, h => exact False.elim h
    | .ok .next, h => exact False.elim h
    | .ok .brk, h => exact False.elim h
    | .ok .cont, h => exact False.elim h
    | .ok (.ret u), ⟨v, H', os, bare, un, hok', r', q⟩ =>
      cases (show v = .bl true from q)
      cases (show u = Value.bool true from r')
      refine ⟨rfl, OldK.of_keep fun b o e => ?_, os, bare⟩
      cases q : H b with
      | none => exact un.keep b o e q (nofr b) (by simp)
      | some u =>
        obtain ⟨_, _, ob, xs, rfl⟩ := hA b u q
        have e1 := (hok b _ q).1
        have e2 := (hok' b _ (un.frzs b ob _ q)).1
        rw [e] at e1
        cases e1
        exact e2
  have rv := vals_ints hi
  cases hk : K.lookup a with
  | some o =>
    have e := KX a o hk
    rw [ha] at e
    cases e
    exact from_ (fun _ => none) (.inr ⟨_, vs.toArray, _, hk, rfl, rfl, rfl, by rw [List.size_toArray, hi.length]; exact hl, by simpa using rv⟩) (fun b u z => nomatch z) (fun b u z => nomatch z)
  | none =>
    have at_ : ∀ (b : Addr) (u : HO), (if b = a then some (HO.frz { cls := .type "list", data := .seq vs.toArray } (.lst (ns.map V.int))) else none) = some u → b = a ∧ u = HO.frz { cls := .type "list", data := .seq vs.toArray } (.lst (ns.map V.int)) := fun b u z => by
      by_cases h : b = a
      · rw [if_pos h] at z
        exact ⟨h, (Option.some.inj z).symm⟩
      · rw [if_neg h] at z
        cases z
    refine from_ (fun b => if b = a then some (.frz { cls := .type "list", data := .seq vs.toArray } (.lst (ns.map V.int))) else none) (.inl (.inr ⟨{ cls := .type "list", data := .seq vs.toArray }, if_pos rfl⟩)) (fun b u z => ?_) (fun b u z => ?_)
    · obtain ⟨rfl, rfl⟩ := at_ b u z
      exact ⟨ha, by rw [List.length_map]; exact hl, vs, _, rv, ha⟩
    · obtain ⟨rfl, rfl⟩ := at_ b u z
      exact ⟨rfl, hk, _, _, rfl⟩
/-- a law: F gives the written part, the function object, the promise over every base -/
theorem walkG {l : PySem.W.OpenLaw} {n k : Nat} {q : Program} {loose : List Str} {XP : (Str → Option Value) → Heap → Prop} {YP : World → Heap → Prop} {d : DefRec} {x : Str} (hn : l.most = some n) (hn2 : n ≤ sizeLine) (hdf : d.params.defaults = []) (hr : Room k callerA)
    (F : ∀ (w : World) (mg : Str → Option Value) (fa : Addr) (h : Heap), YP w h → h.Ns mainGlobals mg → mg d.name = some (.ref fa) →
      ∃ (K : PySem.W.Frag) (fd : FuncData) (sp : Sp), K.In h ∧ (∀ (s : Shared) (u : Value), BindsTo s fd ⟨[u], []⟩ [(x, u)]) ∧
        (∀ (H : Hp) (a : Addr) (ns : List Int), ns.length ≤ n → SqL K H a (ns.map V.int) → sp [.ref a] H (fun v _ => v = .bl true) fun _ _ _ => False) ∧
        ∀ base : Heap, K.In base → base.Ns mainGlobals mg → FnG l.prog w K mg base k fa fd [x] sp) : PySem.W.WalkO q loose XP YP l.row.toRowW d [] (fun f vs => PySem.call f vs) := by
  refine Att.attach_call hn hdf fun w s₀ s₁ mg mb fa o pm cd doc a vs ns G Y ho hd hcd hmg hobj hints hlen hg => ?_
  obtain ⟨K, fd, sp, KX, hb, hsp, hF⟩ := F w mg fa _ Y G.T.g hmg
  exact lawG KX G.T.g G.T.b G.T.builtins G.T.nolimit hg hobj hints (Nat.le_trans hlen hn2) hr hF hb fun H hS => hsp H a ns hlen hS
end GL
set_option Elab.async false
set_option linter.all false
set_option maxRecDepth 100000
set_option maxHeartbeats 4000000
/-! SD: small data (short texts, ints below a million and a bit, lists and tuples of such): what repr and == ask of it. -/
namespace SD
open PySem PySem.Spec PyProof.Rows L2
/-- small: its weight at most n, its depth at most k -/
structure Sm (n k : Nat) (d : PyData) : Prop where
  sh : d.showable = true
  nd : d.hasDict = false
  dp : d.depth ≤ k
  ls : d.leavesShort 13 = true
  wt : d.weight ≤ n
  cl : d.canLay0 = true
structure SmA (n k : Nat) (ds : List PyData) : Prop where
  sh : PyData.showableAll ds = true
  nd : PyData.hasDictAll ds = false
  dp : PyData.depthAll ds ≤ k
  ls : PyData.leavesShortAll 13 ds = true
  wt : PyData.weightAll ds ≤ n
  cl : PyData.canLayAll0 ds = true
theorem Sm.mono {n n' k k' : Nat} {d : PyData} (h : Sm n k d) (hn : n ≤ n') (hk : k ≤ k') : Sm n' k' d := ⟨h.sh, h.nd, Nat.le_trans h.dp hk, h.ls, Nat.le_trans h.wt hn, h.cl⟩
theorem SmA.mono {n n' k k' : Nat} {ds : List PyData} (h : SmA n k ds) (hn : n ≤ n') (hk : k ≤ k') : SmA n' k' ds := ⟨h.sh, h.nd, Nat.le_trans h.dp hk, h.ls, Nat.le_trans h.wt hn, h.cl⟩
theorem Sm.int {i : Int} (h : i.natAbs < 2 ^ 20) : Sm 20 0 (.int i) := by
  have h1 : i.natAbs.log2 < 20 := by
    by_cases z : i.natAbs = 0
    · rw [z]; decide
    · exact (Nat.log2_lt z).mpr h
  refine ⟨by simp only [PyData.showable]; exact decide_eq_true (by omega), by simp only [PyData.hasDict], by simp only [PyData.depth]; omega, ?_, ?_, by simp only [PyData.canLay0]⟩
  · simp only [PyData.leavesShort]
    exact decide_eq_true (PyData.shown_int_le (Nat.lt_of_lt_of_le h (by decide)))
  · simp only [PyData.weight]
    split <;> omega
theorem Sm.str {x : Str} {n : Nat} (h : PyData.strOk x = true) (hn : x.length ≤ n) : Sm n 0 (.str x) := by
  have hn' : x.cps.size ≤ n := hn
  have hc : x.cps.toList.all (fun c => decide (c < 16 ^ 8)) = true := by
    unfold PyData.strOk at h
    rw [← Array.all_toList, List.all_eq_true] at h
    rw [List.all_eq_true]
    intro c hc
    have := of_decide_eq_true (h c hc)
    exact decide_eq_true (by omega)
  exact ⟨by simp only [PyData.showable], by simp only [PyData.hasDict], by simp only [PyData.depth]; omega, by simp only [PyData.leavesShort]; exact hc, by simp only [PyData.weight]; exact hn', by simp only [PyData.canLay0]; exact h⟩
theorem SmA.nil {k : Nat} : SmA 0 k [] := ⟨by simp only [PyData.showableAll], by simp only [PyData.hasDictAll], by simp only [PyData.depthAll]; omega, by simp only [PyData.leavesShortAll], by simp only [PyData.weightAll]; omega, by simp only [PyData.canLayAll0]⟩
theorem SmA.cons {n m k : Nat} {d : PyData} {ds : List PyData} (a : Sm n k d) (b : SmA m k ds) : SmA (n + 1 + m) k (d :: ds) := by
  refine ⟨by simp only [PyData.showableAll, a.sh, b.sh, Bool.and_self], by simp only [PyData.hasDictAll, a.nd, b.nd, Bool.or_self], ?_, by simp only [PyData.leavesShortAll, a.ls, b.ls, Bool.and_self], ?_, by simp only [PyData.canLayAll0, a.cl, b.cl, Bool.and_self]⟩
  · simp only [PyData.depthAll]
    have := a.dp
    have := b.dp
    omega
  · simp only [PyData.weightAll]
    have := a.wt
    have := b.wt
    omega
theorem SmA.map {α : Type} {n k : Nat} {g : α → PyData} : ∀ {xs : List α}, (∀ x ∈ xs, Sm n k (g x)) → SmA ((n + 1) * xs.length) k (xs.map g)
  | [], _ => SmA.nil.mono (Nat.zero_le _) (Nat.le_refl _)
  | x :: xs, h => by
    refine (SmA.cons (h x List.mem_cons_self) (SmA.map fun y hy => h y (List.mem_cons_of_mem _ hy))).mono ?_ (Nat.le_refl _)
    rw [List.length_cons, Nat.mul_add]
    omega
theorem Sm.lst {n k : Nat} {ds : List PyData} (a : SmA n k ds) : Sm n (k + 1) (.list ds) :=
  ⟨by simp only [PyData.showable]; exact a.sh, by simp only [PyData.hasDict]; exact a.nd, by simp only [PyData.depth]; have := a.dp; omega, by simp only [PyData.leavesShort]; exact a.ls, by simp only [PyData.weight]; exact a.wt, by simp only [PyData.canLay0]; exact a.cl⟩
theorem Sm.tup {n k : Nat} {ds : List PyData} (a : SmA n k ds) : Sm n (k + 1) (.tuple ds) :=
  ⟨by simp only [PyData.showable]; exact a.sh, by simp only [PyData.hasDict]; exact a.nd, by simp only [PyData.depth]; have := a.dp; omega, by simp only [PyData.leavesShort]; exact a.ls, by simp only [PyData.weight]; exact a.wt, by simp only [PyData.canLay0]; exact a.cl⟩
theorem Sm.shown {n k : Nat} {d : PyData} (a : Sm n k d) (h : 15 * n + 13 ≤ sizeLine) : d.shown.length ≤ sizeLine := by
  have := PyData.shown_le 13 (by decide) d a.ls
  have := a.wt
  omega
theorem Sm.shaped {n k : Nat} {d : PyData} (a : Sm n k d) (h : k ≤ 64) : SeqAt.shaped d = true := by
  simp only [SeqAt.shaped, a.cl, Bool.true_and]
  exact decide_eq_true (Nat.le_trans a.dp h)
theorem Sm.same {n k : Nat} {d : PyData} (a : Sm n k d) : PyData.eqv d d = true := PySem.SeqAt.eqv_refl d a.cl
theorem Sm.four {n k : Nat} {d : PyData} (a : Sm n k d) (hn : 15 * n + 13 ≤ sizeLine) (hk : k ≤ 60) : d.showable = true ∧ d.hasDict = false ∧ d.depth ≤ 60 ∧ d.shown.length ≤ sizeLine :=
  ⟨a.sh, a.nd, Nat.le_trans a.dp hk, a.shown hn⟩
end SD
set_option Elab.async false
set_option linter.all false
set_option maxRecDepth 100000
set_option maxHeartbeats 4000000
/-! KW: calls by keywords alone: f(k = v, ..), o.m(k = v, ..). -/
namespace KW
open PySem PySem.Spec PyProof.Rows L2
section
variable {X : Cx} {k j : Nat} {C f : Addr} {fd : FuncData} {ps ks : List Str} {sp : Sp} {x m : Str} {p pos apos : Pos} {o : Expr} {kws : List Keyword} {ta : TE} {tk : TA} {g : List Value → List Value → List Value} {gV : List V → List V → List V}
theorem pe_cK (F : FnOk X.prog X.w X.K X.mg X.base CX0 k f fd ps sp) (hr : Room k X.A) (hg : Gl X x) (hm : X.mg x = some (.ref f)) (hk : PySem.W.keepIn X.K (.ref f) = true) (hb : KBn X.K fd ps 0 ks g gV) (hkw : PK X kws tk)
    (hall : (backToKw pos (keywordEach kws X.env)).all (·.1.isSome) = true := by rfl) (hks : (backToKw pos (keywordEach kws X.env)).filterMap (·.1) = ks := by rfl) (hdb : (x == ("__debug__" : Str)) = false := by decide)
    (hpl : ((backTo pos (starEach [] X.env)).any (·.1) || (backToKw pos (keywordEach kws X.env)).any (·.1.isNone)) = false := by rfl) :
    PE X (.Call (.Name x p) [] kws pos) (fun σ H Q => tk σ H fun zs H1 => zs.length = ks.length ∧ sp (gV [] zs) H1 Q E0) := by
  refine ⟨fun pins s σ H Q I h => wpAny_Call_Name_kw (ld_glob I hg hm (PySem.W.callWith_KW0 (h₀ := X.base) I.ok.mod.kin hk hall ?_ hpl) hdb)⟩
  refine thn (hkw.run pos pins s σ H _ I h) fun ws s2 ⟨zs, H2, I2, rz, l2, q2⟩ => ⟨I2.kIn, ?_⟩
  rw [hks]
  exact run_fnN (us := []) (vs := []) F hr hb (fun _ _ _ _ _ _ _ h => False.elim h) I2 .nil rz rfl l2 q2
theorem pe_mtK {pl : Sem Bool} (he : PE X o ta) (c : Cls X.K C) (hm : Meth X.K C m f) (F : FnOk X.prog X.w X.K X.mg X.base CX0 k f fd ps sp) (hr : Room k X.A) (hb : KBn X.K fd ps 1 ks g gV) (hkw : PK X kws tk)
    (hall : (backToKw pos (keywordEach kws X.env)).all (·.1.isSome) = true := by rfl) (hks : (backToKw pos (keywordEach kws X.env)).filterMap (·.1) = ks := by rfl)
    (hpl : ((backTo pos (starEach [] X.env)).any (·.1) || (backToKw pos (keywordEach kws X.env)).any (·.1.isNone)) = false := by rfl)
    (ht : eval (.Call (.Attribute o m apos) [] kws pos) X.env = (do
      let ov ← eval o X.env
      standAt apos.atName
      let (f, first) ← holding [ov] (getMethod ov m pl)
      callWith pos f first (backTo pos (starEach [] X.env)) (backToKw pos (keywordEach kws X.env))) := by rfl) :
    PE X (.Call (.Attribute o m apos) [] kws pos) (fun σ H Q => ta σ H fun x H1 => ∃ a dx fs, x = .ref a ∧ H1 a = some (.ins C dx fs) ∧ fs.lookup m = none ∧ tk σ H1 fun zs H2 => zs.length = ks.length ∧ sp (gV [.ref a] zs) H2 Q E0) := by
  refine ⟨fun pins s σ H Q I h => ?_⟩
  refine PySem.W.methodCall_KW (pl := pl) (thn (he.run pins s σ H _ I h) fun u s1 ⟨x, H1, I1, rx, a, dx, fs, ex, ea, l, q⟩ => ?_) ht
  subst ex
  obtain rfl : u = Value.ref a := rx
  refine getmeth_ok I1 ea c hm l (PySem.W.callWith_KW0 (first := [.ref a]) (h₀ := X.base) I.ok.mod.kin hm.kp hall ?_ hpl)
  refine thn (hkw.run pos pins s1 σ H1 _ I1 q) fun ws s2 ⟨zs, H2, I2, rz, l2, q2⟩ => ⟨I2.kIn, ?_⟩
  rw [hks]
  exact run_fnN (us := [.ref a]) (vs := [.ref a]) F hr hb (fun _ _ _ _ _ _ _ h => False.elim h) I2 (.cons rfl .nil) rz rfl l2 q2
end
end KW
set_option Elab.async false
set_option linter.all false
set_option maxRecDepth 100000
set_option maxHeartbeats 4000000
/-! KB: what a call by keywords binds, for a def without keyword-only parameters. -/
namespace KW
open PySem PySem.Spec PyProof.Rows L2
section
variable {K : PySem.W.Frag} {x qual : Str} {params : Arguments} {body : List Stmt} {scope : Scope} {dvs : List V} {kws : List (Str × V)} {f : Addr} {fd : FuncData} {ps : List Str}
theorem kb1 (F : FunD K x qual params body scope dvs kws f fd) (n : Nat) (ks : List Str) (g : {α : Type} → List α → List α → List α → List α) (hd : dvs ≠ [])
    (hrel : ∀ {vs ds zs : List V} {us its ws : List Value}, Vals vs us → Vals ds its → Vals zs ws → Vals (g vs ds zs) (g us its ws))
    (h : ∀ (T : Addr) (kV doc pm : Value) (an : Option Addr) (cdv ct : Value) (us its ws : List Value), us.length = n → its.length = dvs.length → ws.length = ks.length →
      ∃ k, bindArgs (PySem.W.fnOf x qual params body scope (.ref T) kV doc pm an cdv ct) ⟨us, ks.zip ws⟩ = seqItems? (.ref T) >>= k ∧ k (some its.toArray) = pure (ps.zip (g us its ws))) :
    ∃ its : List Value, KBn K fd ps n ks (fun us ws => g us its ws) (fun vs zs => g vs dvs zs) := by
  obtain ⟨oc, od, dV, kV, doc, pm, an, cdv, ct, osl, rfl, lk, hcd, hD, hK⟩ := F.ex
  rcases hD with ⟨e, _⟩ | ⟨_, T, o, its, m, rfl, lT, oT, rT⟩
  · exact absurd e hd
  · refine ⟨its, ⟨fun s us ws X l1 l2 => ?_, fun r1 r2 => hrel r1 rT r2⟩⟩
    obtain ⟨k, e1, e2⟩ := h T kV doc pm an cdv ct us its ws l1 rT.length.symm l2
    refine BindsTo.of_looks fun M => ?_
    rw [e1]
    exact looks_items X lT oT (.of_pure e2)
theorem kb0 (F : FunD K x qual params body scope [] kws f fd) (n : Nat) (ks : List Str) (g : {α : Type} → List α → List α → List α)
    (hrel : ∀ {vs zs : List V} {us ws : List Value}, Vals vs us → Vals zs ws → Vals (g vs zs) (g us ws))
    (h : ∀ (kV doc pm : Value) (an : Option Addr) (cdv ct : Value) (us ws : List Value), us.length = n → ws.length = ks.length →
      bindArgs (PySem.W.fnOf x qual params body scope .none kV doc pm an cdv ct) ⟨us, ks.zip ws⟩ = pure (ps.zip (g us ws))) :
    KBn K fd ps n ks (fun us ws => g us ws) (fun vs zs => g vs zs) := by
  obtain ⟨oc, od, dV, kV, doc, pm, an, cdv, ct, osl, rfl, lk, hcd, hD, hK⟩ := F.ex
  rcases hD with ⟨_, rfl⟩ | ⟨e, _⟩
  · exact ⟨fun s us ws X l1 l2 => .of_eq (h kV doc pm an cdv ct us ws l1 l2), fun r1 r2 => hrel r1 r2⟩
  · exact absurd rfl e
end
end KW
set_option Elab.async false
set_option linter.all false
/-! VR: values related, turned about. -/
namespace KW
open PySem PySem.Spec PyProof.Rows L2
theorem vals_rev {vs : List V} {us : List Value} (h : Vals vs us) : Vals vs.reverse us.reverse := by
  induction h with
  | nil => exact .nil
  | cons r t ih =>
    rw [List.reverse_cons, List.reverse_cons]
    exact ih.append (.cons r .nil)
end KW
set_option Elab.async false
set_option linter.all false
set_option maxRecDepth 100000
set_option maxHeartbeats 4000000
/-! len of an instance by its own __len__ -/
namespace OW
open PySem PySem.Spec PyProof.Rows L2
section
variable {X : Cx} {k : Nat} {C : Addr} {sp : Sp}
def rLenO (C : Addr) (sp : Sp) : List V → Hp → VK → Prop := fun xs H Q => ∃ a dx fs, xs = [.ref a] ∧ H a = some (.ins C dx fs) ∧ sp [.ref a] H (fun v H' => ∃ n : Nat, v = .int n ∧ n < 1000000 ∧ Q (.int n) H') E0
theorem call_lenO (S : Spc X.prog X.w X.K X.mg X.base k C "__len__" sp) (hr : Room (k + 1) X.A) : CallR X (.builtin "len") (rLenO C sp) := by
  obtain ⟨f, fd, ps, h1, h2, F, hb⟩ := S.ex
  intro pins s σ H xs us Q I r h
  obtain ⟨a, dx, fs, rfl, ea, q⟩ := h
  obtain ⟨u, rfl, ru⟩ := vals1 r
  cases (show u = Value.ref a from ru)
  obtain ⟨mA, O, _⟩ := ins_get I.hok ea
  obtain ⟨od, J, _⟩ := O.look
  obtain ⟨m, hF⟩ := I.fr
  refine PySem.W.len_K hF I.ok.mod.kin J h1 h2 ?_
  refine wpAny_mono (run_at (E' := X.xe) (vs := [.ref a]) F hb hr.in1 I I.env0.in1 (.cons rfl .nil) q) (fun w s' z => ?_) fun _ _ x => x
  obtain ⟨z', H', I', rz, n, rfl, hn, qz⟩ := z
  obtain ⟨t, rfl⟩ := rz
  exact ⟨⟨by omega, by omega⟩, .int n, H', I'.tok _, ⟨_, rfl⟩, qz⟩
end
end OW
set_option Elab.async false
set_option linter.all false
set_option maxRecDepth 100000
set_option maxHeartbeats 4000000
namespace K21
open PySem PySem.Spec PyProof.Rows L2
open C8 (Cal Mak Met pe_c pe_mk pe_mt pe_mt0)
open SX (S)
section
variable {d dv l wo st lc : V}
theorem r_lc : (rF d dv l wo st lc).lookup ("latecomers" : Str) = some lc := by kernel_rfl
theorem r_day : (rF d dv l wo st lc).lookup ("day" : Str) = some d := by kernel_rfl
theorem r_riders : (rF d dv l wo st lc).lookup ("riders" : Str) = none := by kernel_rfl
theorem r_late : (rF d dv l wo st lc).lookup ("late" : Str) = none := by kernel_rfl
end
section
variable {P : Program} {w : World} {K : PySem.W.Frag} {mg : Str → Option Value} {base : Heap} {f C CR : Addr} {fd : FuncData}
def spRs (CR : Addr) : Sp := fun vs H Q _ => ∃ (rp : Addr) (day : Int) (drv : Str) (gs : List (Addr × Rd)) (legs worth : Int) (ls : List Str), vs = [.ref rp] ∧ Rid CR H rp day drv gs legs worth ls ∧
  ∀ (o : Addr) (H' : Hp), Same H H' → H o = none → H' o = some (.lst (gs.map fun z => V.ref z.1)) → Q (.ref o) H'
theorem ok_rs (F : Dn K d_Ride_riders f fd) (b : Bl mg) (T : ClR K mg CR) : FnOk P w K mg base CX0 1 f fd ["self"] (spRs CR) := by
  refine F.ok sc_Ride_riders (fun vs H Q E h => ?_) (fun cdv A outer s H vs Q E hr h => ?_)
  · obtain ⟨rp, day, drv, gs, legs, worth, ls, rfl, _⟩ := h
    rfl
  · obtain ⟨rp, day, drv, gs, legs, worth, ls, rfl, ⟨dx, sl, lc, hrp, fk, hlc⟩, hQ⟩ := h
    refine ⟨_, PSs.nox (pss_one (ps_ret (pe_callTy call_list_of rfl b.list boot_list (pa_cons (pe_fld (pv 0) rfl) pa_nil)))), ?_⟩
    exact ⟨_, rfl, rp, CR, dx, _, _, rfl, hrp, T.cl, T.ns, r_st, sl, _, rfl, .inl (SqL.of fk.1), fun o fo => hQ o _ (same_new fo) fo upd_same⟩
def spLt' (CR : Addr) : Sp := fun vs H Q _ => ∃ (rp : Addr) (day : Int) (drv : Str) (gs : List (Addr × Rd)) (legs worth : Int) (ls : List Str), vs = [.ref rp] ∧ Rid CR H rp day drv gs legs worth ls ∧
  ∀ (o : Addr) (H' : Hp), Same H H' → H o = none → H' o = some (.lst (ls.map V.str)) → Q (.ref o) H'
theorem ok_lt (F : Dn K d_Ride_late f fd) (b : Bl mg) (T : ClR K mg CR) : FnOk P w K mg base CX0 1 f fd ["self"] (spLt' CR) := by
  refine F.ok sc_Ride_late (fun vs H Q E h => ?_) (fun cdv A outer s H vs Q E hr h => ?_)
  · obtain ⟨rp, day, drv, gs, legs, worth, ls, rfl, _⟩ := h
    rfl
  · obtain ⟨rp, day, drv, gs, legs, worth, ls, rfl, ⟨dx, sl, lc, hrp, fk, hlc⟩, hQ⟩ := h
    refine ⟨_, PSs.nox (pss_one (ps_ret (pe_callTy call_list_of rfl b.list boot_list (pa_cons (pe_fld (pv 0) rfl) pa_nil)))), ?_⟩
    exact ⟨_, rfl, rp, CR, dx, _, _, rfl, hrp, T.cl, T.nt, r_lc, lc, _, rfl, .inl (SqL.of hlc), fun o fo => hQ o _ (same_new fo) fo upd_same⟩
def spLn (CR : Addr) : Sp := fun vs H Q _ => ∃ (rp : Addr) (day : Int) (drv : Str) (gs : List (Addr × Rd)) (legs worth : Int) (ls : List Str), vs = [.ref rp] ∧ Rid CR H rp day drv gs legs worth ls ∧ gs.length ≤ 11 ∧ ∀ H', Same H H' → Q (.int ((gs.length + 1 : Nat) : Int)) H'
theorem ok_ln (F : Dn K d_Ride_len f fd) (b : Bl mg) (mF : Met P w K mg base 1 CR "folk" (spFo CR) []) : FnOk P w K mg base CX0 2 f fd ["self"] (spLn CR) := by
  refine F.ok sc_Ride_len (fun vs H Q E h => ?_) (fun cdv A outer s H vs Q E hr h => ?_)
  · obtain ⟨rp, day, drv, gs, legs, worth, ls, rfl, _⟩ := h
    rfl
  · obtain ⟨rp, day, drv, gs, legs, worth, ls, rfl, rid, len, hQ⟩ := h
    refine ⟨_, PSs.nox (pss_one (ps_ret (pe_callB call_len_seq rfl b.len boot_len (pa_cons (pe_mt0 mF hr (by decide) (pv 0)) pa_nil)))), ?_⟩
    obtain ⟨dx, sl, lc, hrp, fk, hlc⟩ := id rid
    refine ⟨_, rfl, rp, dx, _, rfl, hrp, r_folk, rp, day, drv, gs, legs, worth, ls, rfl, rid, len, fun o ys H1 s1 fo ho pm pw => ?_⟩
    refine ⟨o, _, rfl, .inl (SqL.of ho), ?_⟩
    have : ((ys.map V.str).length) = gs.length + 1 := by rw [List.length_map, pm.length_eq, List.length_cons]; unfold nms; rw [List.length_map]
    rw [this]
    exact hQ H1 s1
/-- making a Ride: what is left to show -/
theorem mk_rideI {rp dx : Addr} {H : Hp} {day : Int} {drv : Str} {fs : List (Addr × Rd)} {legs worth : Int} {lt : List Str} {xr xl : V} {Qv : VK} {E : XK} (nrp : H rp = none) (ndx : H dx = none) (h1 : xr = .non ∧ fs = [] ∨ ∃ fl, xr = .ref fl ∧ Fk H fl fs) (h2 : xl = .non ∧ lt = [] ∨ ∃ lo, xl = .ref lo ∧ H lo = some (.lst (lt.map V.str))) (ok : WayOk day drv fs legs worth lt)
    (hQ : ∀ (gs : List (Addr × Rd)) (ls : List Str) (H' : Hp), Same H H' → Gs gs fs → Ls ls lt → RidF CR H H' rp day drv gs legs worth ls → Qv .non H') :
    spRI CR [.ref rp, .int day, .str drv, xr, .int legs, .int worth, xl] (upd (upd H dx (.own rp)) rp (.ins CR dx [])) Qv E := by
  have lift : ∀ b o, H b = some o → (upd (upd H dx (.own rp)) rp (.ins CR dx [])) b = some o := fun b o e => by
    rw [upd_ne (ne_of_none e nrp), upd_ne (ne_of_none e ndx)]
    exact e
  refine ⟨rp, dx, xr, xl, day, drv, fs, legs, worth, lt, rfl, upd_same, h1.imp id (fun ⟨fl, e, fk⟩ => ⟨fl, e, fk.same lift⟩), h2.imp id (fun ⟨lo, e, q⟩ => ⟨lo, e, lift _ _ q⟩), ok, fun H' gs ls k pm pl rid => ?_⟩
  obtain ⟨dx', st, lc, e1, e2, e3, e4, e5⟩ := rid
  have fr : ∀ a, (upd (upd H dx (.own rp)) rp (.ins CR dx [])) a = none → H a = none := fun a e => by
    cases q : H a with
    | none => rfl
    | some o => rw [lift a o q] at e; cases e
  exact hQ gs ls H' (fun a o e => k a o (ne_of_none e nrp) (lift a o e)) pm pl ⟨dx', st, lc, e1, e2, e3, fr _ e4, fr _ e5⟩
/-- a ride among others in the list at o, its own lists new since H0 -/
def RE (CR : Addr) (H0 H : Hp) (o r : Addr) (day : Int) (drv : Str) (fs : List (Addr × Rd)) (legs worth : Int) (lt : List Str) : Prop := ∃ dx sl lc gs ls, H r = some (.ins CR dx (rF (.int day) (.str drv) (.int legs) (.int worth) (.ref sl) (.ref lc))) ∧ Fk H sl gs ∧ H lc = some (.lst (ls.map V.str)) ∧ sl ≠ o ∧ lc ≠ o ∧ Gs gs fs ∧ Ls ls lt ∧ H0 sl = none ∧ H0 lc = none
section
variable {H0 H H' : Hp} {o r : Addr} {day : Int} {drv : Str} {fs : List (Addr × Rd)} {legs worth : Int} {lt : List Str}
theorem RE.same (h : RE CR H0 H o r day drv fs legs worth lt) (s : Same H H') : RE CR H0 H' o r day drv fs legs worth lt := by
  obtain ⟨dx, sl, lc, gs, ls, e1, e2, e3, r⟩ := h
  exact ⟨dx, sl, lc, gs, ls, s _ _ e1, e2.same s, s _ _ e3, r⟩
theorem RE.put {xs : List V} {u : HO} (h : RE CR H0 H o r day drv fs legs worth lt) (e : H o = some (.lst xs)) : RE CR H0 (upd H o u) o r day drv fs legs worth lt := by
  obtain ⟨dx, sl, lc, gs, ls, e1, e2, e3, n1, n2, r⟩ := h
  refine ⟨dx, sl, lc, gs, ls, by rw [upd_ne (fun q => by rw [q, e] at e1; cases e1)]; exact e1, ⟨by rw [upd_ne n1]; exact e2.1, fun z hz => ?_⟩, by rw [upd_ne n2]; exact e3, n1, n2, r⟩
  have := e2.2 z hz
  rw [upd_ne (fun q => by rw [q, e] at this; cases this)]
  exact this
theorem RE.move {o' : Addr} (h : RE CR H0 H o r day drv fs legs worth lt) (f : H o' = none) : RE CR H0 H o' r day drv fs legs worth lt := by
  obtain ⟨dx, sl, lc, gs, ls, e1, e2, e3, n1, n2, r⟩ := h
  exact ⟨dx, sl, lc, gs, ls, e1, e2, e3, ne_of_none e2.1 f, ne_of_none e3 f, r⟩
theorem RE.of {H1 : Hp} {gs : List (Addr × Rd)} {ls : List Str} {u : HO} (h : RidF CR H1 H r day drv gs legs worth ls) (pm : Gs gs fs) (pl : Ls ls lt) (e : H1 o = some u) (s : Same H0 H1) : RE CR H0 H o r day drv fs legs worth lt := by
  obtain ⟨dx, sl, lc, e1, e2, e3, f1, f2⟩ := h
  exact ⟨dx, sl, lc, gs, ls, e1, e2, e3, (ne_of_none e f1).symm, (ne_of_none e f2).symm, pm, pl, s.free f1, s.free f2⟩
end
/-- rides made so far -/
def RA (CR : Addr) (H H' : Hp) (o : Addr) (rs : List Addr) (day : Int) (drv : Str) (fs : List (Addr × Rd)) (legs worth : Int) (lt : List Str) : Prop := Same H H' ∧ H o = none ∧ H' o = some (.lst (rs.map V.ref)) ∧ ∀ r ∈ rs, RE CR H H' o r day drv fs legs worth lt
end
theorem eqv_nilS : ∀ xs : List Str, PyData.eqv (.list (xs.map .str)) (.list []) = decide (xs = [])
  | [] => by simp [PyData.eqv, PyData.eqvAll]
  | _ :: _ => by simp [PyData.eqv, PyData.eqvAll]
theorem eqv_nilR : ∀ fs : List (Addr × Rd), PyData.eqv (.list (fs.map fun z => rdD z.2)) (.list []) = decide (fs = [])
  | [] => by simp [PyData.eqv, PyData.eqvAll]
  | _ :: _ => by simp [PyData.eqv, PyData.eqvAll]
end K21
set_option Elab.async false
set_option linter.all false
set_option maxRecDepth 100000
set_option maxHeartbeats 4000000
namespace K21
open PySem PySem.Spec PyProof.Rows L2
open C8 (Cal Mak Met pe_c pe_mk pe_mt pe_mt0)
open SX (S)
section
variable {CR : Addr} {H H1 H2 : Hp} {o p r : Addr} {rs qs : List Addr} {day : Int} {drv : Str} {fs : List (Addr × Rd)} {legs worth : Int} {lt : List Str}
theorem RA.same (h : RA CR H H1 o rs day drv fs legs worth lt) (s : Same H1 H2) : RA CR H H2 o rs day drv fs legs worth lt := ⟨h.1.trans s, h.2.1, s _ _ h.2.2.1, fun r hr => (h.2.2.2 r hr).same s⟩
theorem RA.push {gs : List (Addr × Rd)} {ls : List Str} (h : RA CR H H1 o rs day drv fs legs worth lt) (s : Same H1 H2) (rf : RidF CR H1 H2 r day drv gs legs worth ls) (pm : Gs gs fs) (pl : Ls ls lt) : RA CR H (upd H2 o (.lst (rs.map V.ref ++ [V.ref r]))) o (rs ++ [r]) day drv fs legs worth lt := by
  obtain ⟨s0, n, e, a⟩ := h
  refine ⟨fun b u eb => ?_, n, ?_, fun q hq => ?_⟩
  · rw [upd_ne (ne_of_none eb n)]
    exact s _ _ (s0 _ _ eb)
  · rw [upd_same, List.map_append]
    rfl
  · rcases List.mem_append.mp hq with hq | hq
    · exact ((a q hq).same s).put (s _ _ e)
    · rw [List.mem_singleton] at hq
      rw [hq]
      exact (RE.of rf pm pl e s0).put (s _ _ e)
theorem RA.cat (h : RA CR H H1 o rs day drv fs legs worth lt) (s : Same H1 H2) (hq : ∀ r ∈ qs, RE CR H H2 o r day drv fs legs worth lt) (fp : H2 p = none) : RA CR H (upd H2 p (.lst (rs.map V.ref ++ qs.map V.ref))) p (rs ++ qs) day drv fs legs worth lt := by
  obtain ⟨s0, n, e, a⟩ := h
  have sp := same_new (o := .lst (rs.map V.ref ++ qs.map V.ref)) fp
  refine ⟨(s0.trans s).trans sp, (s0.trans s).free fp, by rw [upd_same, List.map_append], fun q hq' => ?_⟩
  rcases List.mem_append.mp hq' with hq' | hq'
  · exact (((a q hq').same s).move fp).same sp
  · exact ((hq q hq').move fp).same sp
end
section
variable {P : Program} {w : World} {K : PySem.W.Frag} {mg : Str → Option Value} {base : Heap} {f C CR fR : Addr} {fd fdR : FuncData}
abbrev psR : List Str := ["self", "day", "driver", "riders", "legs", "worth", "late"]
abbrev dR : List V := [.non, .int 1, .int 1, .non]
def spRds (CR : Addr) : Sp := fun vs H Q _ => ∃ (wp : Addr) (day : Int) (drv : Str) (fs : List (Addr × Rd)) (legs worth : Int) (lt : List Str), vs = [.ref wp] ∧ Wy H wp day drv fs legs worth lt ∧ WayOk day drv fs legs worth lt ∧
  ∀ (o : Addr) (rs : List Addr) (H' : Hp), RA CR H H' o rs day drv fs legs worth lt → rs.length ≤ 8 → Q (.ref o) H'
theorem ok_rds (F : Dn K d_l_rides f fd) (b : Bl mg) (T : ClR K mg CR) (MR : Mak P w K mg base 5 "Ride" CR (spRI CR) []) (MR1 : Mak P w K mg base 5 "Ride" CR (spRI CR) [.non])
    (MRk : Mk K CR fR) (FR : FnOk P w K mg base CX0 5 fR fdR psR (spRI CR)) {iC iE : List Value}
    (kA : KBn K fdR psR 1 ["late", "worth", "legs", "riders", "driver", "day"] (fun us ws => us ++ ws.reverse) (fun vs zs => vs ++ zs.reverse))
    (kB : KBn K fdR psR 3 ["riders", "late", "legs", "worth"] (fun us ws => us ++ (ws.take 1 ++ (ws.drop 2 ++ (ws.drop 1).take 1))) (fun vs zs => vs ++ (zs.take 1 ++ (zs.drop 2 ++ (zs.drop 1).take 1))))
    (kC : KBn K fdR psR 3 ["legs", "worth"] (fun us ws => us ++ (iC.take 1 ++ (ws ++ iC.drop 3))) (fun vs zs => vs ++ (dR.take 1 ++ (zs ++ dR.drop 3))))
    (kD : KBn K fdR psR 6 ["late"] (fun us ws => us ++ ws) (fun vs zs => vs ++ zs))
    (kE : KBn K fdR psR 4 ["late"] (fun us ws => us ++ ((iE.drop 1).take 2 ++ ws)) (fun vs zs => vs ++ ((dR.drop 1).take 2 ++ zs))) :
    FnOk P w K mg base CX0 7 f fd ["_law_way_here"] (spRds CR) := by
  refine F.ok sc_l_rides (fun vs H Q E h => ?_) (fun cdv A outer s H vs Q E hr h => ?_)
  · obtain ⟨wp, day, drv, fs, legs, worth, lt, rfl, _⟩ := h
    rfl
  · obtain ⟨wp, day, drv, fs, legs, worth, lt, rfl, ⟨fl, sl, hw, fk, hsl⟩, ok, hQ⟩ := h
    have hu64 : (A.deeper (envOfC d_l_rides.qual d_l_rides.scope s.heap.objs.size f cdv)).units + 64 < cLine := by have := hr.un; omega
    refine ⟨_, PSs.nox (pss_cons (ps_asg (pv 0) (pg_unl rfl (pgs_cons (pg_name (i := 1) sc_l_rides.nd rfl (.inl rfl)) (pgs_cons (pg_name (i := 2) sc_l_rides.nd rfl (.inl rfl)) (pgs_cons (pg_name (i := 3) sc_l_rides.nd rfl (.inl rfl)) (pgs_cons (pg_name (i := 4) sc_l_rides.nd rfl (.inl rfl)) (pgs_cons (pg_name (i := 5) sc_l_rides.nd rfl (.inl rfl)) (pgs_cons (pg_name (i := 6) sc_l_rides.nd rfl (.inl rfl)) pgs_nil))))))))
      (C8.pss_cut (ps_set (i := 7) sc_l_rides.nd rfl (.inl rfl) (pe_lst (pa_cons (pe_mk MR hr (by decide) rfl (pa_cons (pv 1) (pa_cons (pv 2) (pa_cons (pv 3) (pa_cons (pv 4) (pa_cons (pv 5) (pa_cons (pv 6) pa_nil))))))) pa_nil)))
      (C8.pss_cut (ps_expr (pe_bm PySem.F.plainAttrs_list PySem.F.slot_list_append PySem.F.type_list_append mt_append (pv 7) (pa_cons (pe_makeK0 (E := E0) MRk FR (hr.mono (by decide)) rfl T.g kA (fun _ _ _ _ _ _ _ h => False.elim h)
          (pk_cons (pe_callTy call_list_of rfl b.list boot_list (pa_cons (pv 6) pa_nil)) (pk_cons (pv 5) (pk_cons (pv 4) (pk_cons (pe_callTy call_list_of rfl b.list boot_list (pa_cons (pv 3) pa_nil)) (pk_cons (pv 2) (pk_cons (pv 1) pk_nil))))))) pa_nil)))
      (C8.pss_cut (ps_expr (pe_bm PySem.F.plainAttrs_list PySem.F.slot_list_append PySem.F.type_list_append mt_append (pv 7) (pa_cons (pe_makeN (E := E0) (n := 2) MRk FR (hr.mono (by decide)) rfl T.g kB (fun _ _ _ _ _ _ _ h => False.elim h) (pa_cons (pv 1) (pa_cons (pv 2) pa_nil))
          (pk_cons (pv 3) (pk_cons (pv 6) (pk_cons (pv 4) (pk_cons (pv 5) pk_nil))))) pa_nil)))
      (C8.pss_cut (ps_if (pt_cmpR (op_eqD hu64) (pv 6) (pe_lst pa_nil) (nomark _)) (pss_one (ps_set (i := 7) sc_l_rides.nd rfl (.inl rfl) (pe_op op_cat (pv 7) (pe_lst (pa_cons (pe_mk MR1 hr (by decide) rfl (pa_cons (pv 1) (pa_cons (pv 2) (pa_cons (pv 3) (pa_cons (pv 4) (pa_cons (pv 5) pa_nil))))))
          (pa_cons (pe_mk MR hr (by decide) rfl (pa_cons (pv 1) (pa_cons (pv 2) (pa_cons (pv 3) (pa_cons (pv 4) (pa_cons (pv 5) (pa_cons pe_non pa_nil))))))) pa_nil)))))) pss_nil)
      (C8.pss_cut (ps_if (pt_cmpR (op_eqD hu64) (pv 3) (pe_lst pa_nil) (nomark _)) (pss_one (ps_set (i := 7) sc_l_rides.nd rfl (.inl rfl) (pe_op op_cat (pv 7) (pe_lst (pa_cons (pe_makeN (E := E0) (n := 2) MRk FR (hr.mono (by decide)) rfl T.g kC (fun _ _ _ _ _ _ _ h => False.elim h) (pa_cons (pv 1) (pa_cons (pv 2) pa_nil)) (pk_cons (pv 4) (pk_cons (pv 5) pk_nil)))
          (pa_cons (pe_makeN (E := E0) (n := 5) MRk FR (hr.mono (by decide)) rfl T.g kD (fun _ _ _ _ _ _ _ h => False.elim h) (pa_cons (pv 1) (pa_cons (pv 2) (pa_cons pe_non (pa_cons (pv 4) (pa_cons (pv 5) pa_nil))))) (pk_cons pe_non pk_nil)) pa_nil)))))) pss_nil)
      (C8.pss_cut (ps_if (PW.pt (pw_and (pt_cmpR op_eq (pv 4) pe_int (nomark _)) (pw_and1 (pt_cmpR op_eq (pv 5) pe_int (nomark _))))) (pss_one (ps_expr (pe_bm PySem.F.plainAttrs_list PySem.F.slot_list_append PySem.F.type_list_append mt_append (pv 7) (pa_cons (pe_makeN (E := E0) (n := 3) MRk FR (hr.mono (by decide)) rfl T.g kE (fun _ _ _ _ _ _ _ h => False.elim h) (pa_cons (pv 1) (pa_cons (pv 2) (pa_cons (pv 3) pa_nil))) (pk_cons (pv 6) pk_nil)) pa_nil)))) pss_nil)
      (pss_one (ps_ret (pv 7)))))))))), ?_⟩
    refine ⟨_, rfl, wp, _, rfl, SqL.of hw, rfl, _, _, rfl, _, _, rfl, _, _, rfl, _, _, rfl, _, _, rfl, _, _, rfl, rfl, ?_⟩
    have cl : ∀ n : Nat, n ≤ 8 → n < sizeLine := fun n h => Nat.lt_of_le_of_lt h (by decide)
    -- by places
    refine ⟨fun σ' H' => ∃ (o : Addr) (rs : List Addr), σ' = [some (.ref wp), some (.int day), some (.str drv), some (.ref fl), some (.int legs), some (.int worth), some (.ref sl), some (.ref o)] ∧ RA CR H H' o rs day drv fs legs worth lt ∧ rs.length ≤ 1, ?_, ?_⟩
    · refine ⟨_, rfl, _, rfl, _, rfl, _, rfl, _, rfl, _, rfl, ?_⟩
      intro r dr nr ndr ner
      refine mk_rideI nr ndr (.inr ⟨fl, rfl, fk⟩) (.inr ⟨sl, rfl, hsl⟩) ok fun gs ls H1 s1 p1 p2 rf => ⟨rfl, by show 1 ≤ sizeLine; decide, fun o fo => ?_⟩
      have so := same_new (o := .lst [.ref r]) fo
      obtain ⟨dx, st, lc, e1, e2, e3, f1, f2⟩ := rf
      refine ⟨o, [r], rfl, ⟨s1.trans so, s1.free fo, upd_same, fun q hq => ?_⟩, by simp⟩
      rw [List.mem_singleton] at hq
      subst hq
      exact ⟨dx, st, lc, gs, ls, so _ _ e1, e2.same so, so _ _ e3, ne_of_none e2.1 fo, ne_of_none e3 fo, p1, p2, f1, f2⟩
    rintro σ' H1 ⟨o, rs, rfl, ra, len⟩
    -- by names alone
    refine ⟨fun σ' H' => ∃ (o : Addr) (rs : List Addr), σ' = [some (.ref wp), some (.int day), some (.str drv), some (.ref fl), some (.int legs), some (.int worth), some (.ref sl), some (.ref o)] ∧ RA CR H H' o rs day drv fs legs worth lt ∧ rs.length ≤ 2, ?_, ?_⟩
    · refine ⟨_, rfl, .inl ⟨rfl, _, SqL.of ra.2.2.1⟩, ?_⟩
      refine ⟨_, rfl, sl, _, rfl, .inl (SqL.of (ra.1 _ _ hsl)), fun q1 f1 => ?_⟩
      have s1 := same_new (o := .lst (lt.map V.str)) f1
      refine ⟨_, rfl, _, rfl, _, rfl, fl, _, rfl, .inl (SqL.of (s1 _ _ (ra.1 _ _ fk.1))), fun q2 f2 => ?_⟩
      have s2 := same_new (o := .lst (fs.map fun z => V.ref z.1)) f2
      refine ⟨_, rfl, _, rfl, rfl, rfl, ?_⟩
      intro r dr nr ndr ner
      have ra2 := ra.same (s1.trans s2)
      refine mk_rideI nr ndr (.inr ⟨q2, rfl, ⟨upd_same, fun z hz => ra2.1 _ _ (fk.2 z hz)⟩⟩) (.inr ⟨q1, rfl, s2 _ _ upd_same⟩) ok fun gs ls H2 s3 p1 p2 rf => ⟨rfl, ?_⟩
      exact ⟨o, _, _, rfl, rfl, s3 _ _ ra2.2.2.1, by rw [List.length_map]; exact cl _ (by omega), o, rs ++ [r], rfl, ra2.push s3 rf p1 p2, by rw [List.length_append]; show rs.length + 1 ≤ 2; omega⟩
    clear ra len
    rintro σ' H1 ⟨o, rs, rfl, ra, len⟩
    -- by places and names
    refine ⟨fun σ' H' => ∃ (o : Addr) (rs : List Addr), σ' = [some (.ref wp), some (.int day), some (.str drv), some (.ref fl), some (.int legs), some (.int worth), some (.ref sl), some (.ref o)] ∧ RA CR H H' o rs day drv fs legs worth lt ∧ rs.length ≤ 3, ?_, ?_⟩
    · refine ⟨_, rfl, .inl ⟨rfl, _, SqL.of ra.2.2.1⟩, ?_⟩
      refine ⟨_, rfl, _, rfl, _, rfl, _, rfl, _, rfl, _, rfl, rfl, rfl, ?_⟩
      intro r dr nr ndr ner
      refine mk_rideI nr ndr (.inr ⟨fl, rfl, fk.same ra.1⟩) (.inr ⟨sl, rfl, ra.1 _ _ hsl⟩) ok fun gs ls H2 s3 p1 p2 rf => ⟨rfl, ?_⟩
      exact ⟨o, _, _, rfl, rfl, s3 _ _ ra.2.2.1, by rw [List.length_map]; exact cl _ (by omega), o, rs ++ [r], rfl, ra.push s3 rf p1 p2, by rw [List.length_append]; show rs.length + 1 ≤ 3; omega⟩
    clear ra len
    rintro σ' H1 ⟨o, rs, rfl, ra, len⟩
    -- nobody late
    refine ⟨fun σ' H' => ∃ (o : Addr) (rs : List Addr), σ' = [some (.ref wp), some (.int day), some (.str drv), some (.ref fl), some (.int legs), some (.int worth), some (.ref sl), some (.ref o)] ∧ RA CR H H' o rs day drv fs legs worth lt ∧ rs.length ≤ 5, ?_, ?_⟩
    · refine ⟨_, rfl, by show 0 ≤ sizeLine; decide, fun en fen => ?_⟩
      have se := same_new (o := .lst []) fen
      have ra1 := ra.same se
      have lok : ∀ x ∈ lt, PyData.strOk x = true := fun x hx => by
        obtain ⟨z, hz, ez⟩ := List.mem_map.mp (ok.lts x hx)
        obtain ⟨l, e2, okl⟩ := ok.rd.nm z hz
        rw [← ez, e2]
        exact strOk_S okl
      refine ⟨.list (lt.map .str), .list [], Dp.lst (SqL.of (ra1.1 _ _ hsl)) (DQ.dp_strs lt), Dp.lst (SqL.of upd_same) .nil, DQ.sh_strs lok, by decide, _, rfl, ?_⟩
      rw [eqv_nilS]
      generalize upd H1 en (.lst []) = H2 at se ra1
      refine ite2 (fun q => ?_) (fun q => ⟨o, rs, rfl, ra1, by omega⟩)
      have e0 : lt = [] := of_decide_eq_true q
      refine ⟨_, rfl, _, rfl, _, rfl, _, rfl, _, rfl, _, rfl, ?_⟩
      intro r1 dr1 nr1 ndr1 ner1
      refine mk_rideI nr1 ndr1 (.inr ⟨fl, rfl, fk.same ra1.1⟩) (.inl ⟨rfl, e0⟩) ok fun gs ls H3 s3 p1 p2 rf1 => ⟨rfl, ?_⟩
      have ra3 := ra1.same s3
      refine ⟨_, rfl, _, rfl, _, rfl, _, rfl, _, rfl, ?_⟩
      intro r2 dr2 nr2 ndr2 ner2
      refine mk_rideI nr2 ndr2 (.inr ⟨fl, rfl, fk.same ra3.1⟩) (.inl ⟨rfl, e0⟩) ok fun gs2 ls2 H4 s4 p3 p4 rf2 => ⟨rfl, by show 2 ≤ sizeLine; decide, fun q fq => ?_⟩
      have sq := same_new (o := .lst [.ref r1, .ref r2]) fq
      have s14 := (s3.trans s4).trans sq
      refine ⟨o, q, _, _, rfl, rfl, s14 _ _ ra1.2.2.1, upd_same, ?_, fun p fp => ?_⟩
      · rw [List.length_map]
        exact Nat.le_of_lt (cl _ (by show rs.length + 2 ≤ 8; omega))
      refine ⟨p, rs ++ [r1, r2], rfl, ra1.cat (qs := [r1, r2]) s14 (fun r hr => ?_) fp, by rw [List.length_append]; show rs.length + 2 ≤ 5; omega⟩
      rcases List.mem_cons.mp hr with e | hr
      · rw [e]
        exact ((RE.of rf1 p1 p2 ra1.2.2.1 ra1.1).same s4).same sq
      · rw [List.mem_singleton] at hr
        rw [hr]
        exact (RE.of rf2 p3 p4 ra3.2.2.1 ra3.1).same sq
    clear ra len
    rintro σ' H1 ⟨o, rs, rfl, ra, len⟩
    -- nobody else rides
    refine ⟨fun σ' H' => ∃ (o : Addr) (rs : List Addr), σ' = [some (.ref wp), some (.int day), some (.str drv), some (.ref fl), some (.int legs), some (.int worth), some (.ref sl), some (.ref o)] ∧ RA CR H H' o rs day drv fs legs worth lt ∧ rs.length ≤ 7, ?_, ?_⟩
    · refine ⟨_, rfl, by show 0 ≤ sizeLine; decide, fun en fen => ?_⟩
      have se := same_new (o := .lst []) fen
      have ra1 := ra.same se
      have fok : ∀ z ∈ fs, PyData.strOk z.2.1 = true := fun z hz => by
        obtain ⟨l, e2, okl⟩ := ok.rd.nm z hz
        rw [e2]
        exact strOk_S okl
      refine ⟨.list (fs.map fun z => rdD z.2), .list [], Dp.lst (SqL.of (ra1.1 _ _ fk.1)) (dp_riders (fk.same ra1.1).2), Dp.lst (SqL.of upd_same) .nil, sh_rds fok, by decide, _, rfl, ?_⟩
      rw [eqv_nilR]
      generalize upd H1 en (.lst []) = H2 at se ra1
      refine ite2 (fun q => ?_) (fun q => ⟨o, rs, rfl, ra1, by omega⟩)
      have e0 : fs = [] := of_decide_eq_true q
      have el : lt = [] := by
        cases lt with
        | nil => rfl
        | cons x lt => have := ok.lts x List.mem_cons_self; rw [e0] at this; cases this
      refine ⟨_, rfl, _, rfl, _, rfl, _, rfl, _, rfl, rfl, rfl, ?_⟩
      intro r1 dr1 nr1 ndr1 ner1
      refine mk_rideI nr1 ndr1 (.inl ⟨rfl, e0⟩) (.inl ⟨rfl, el⟩) ok fun gs ls H3 s3 p1 p2 rf1 => ⟨rfl, ?_⟩
      have ra3 := ra1.same s3
      refine ⟨_, rfl, _, rfl, _, rfl, _, rfl, rfl, rfl, ?_⟩
      intro r2 dr2 nr2 ndr2 ner2
      refine mk_rideI nr2 ndr2 (.inl ⟨rfl, e0⟩) (.inl ⟨rfl, el⟩) ok fun gs2 ls2 H4 s4 p3 p4 rf2 => ⟨rfl, by show 2 ≤ sizeLine; decide, fun q fq => ?_⟩
      have sq := same_new (o := .lst [.ref r1, .ref r2]) fq
      have s14 := (s3.trans s4).trans sq
      refine ⟨o, q, _, _, rfl, rfl, s14 _ _ ra1.2.2.1, upd_same, ?_, fun p fp => ?_⟩
      · rw [List.length_map]
        exact Nat.le_of_lt (cl _ (by show rs.length + 2 ≤ 8; omega))
      refine ⟨p, rs ++ [r1, r2], rfl, ra1.cat (qs := [r1, r2]) s14 (fun r hr => ?_) fp, by rw [List.length_append]; show rs.length + 2 ≤ 7; omega⟩
      rcases List.mem_cons.mp hr with e | hr
      · rw [e]
        exact ((RE.of rf1 p1 p2 ra1.2.2.1 ra1.1).same s4).same sq
      · rw [List.mem_singleton] at hr
        rw [hr]
        exact (RE.of rf2 p3 p4 ra3.2.2.1 ra3.1).same sq
    clear ra len
    rintro σ' H1 ⟨o, rs, rfl, ra, len⟩
    -- one leg, worth one
    refine ⟨fun σ' H' => ∃ (o : Addr) (rs : List Addr), σ' = [some (.ref wp), some (.int day), some (.str drv), some (.ref fl), some (.int legs), some (.int worth), some (.ref sl), some (.ref o)] ∧ RA CR H H' o rs day drv fs legs worth lt ∧ rs.length ≤ 8, ?_, ?_⟩
    · have out : ∃ (o' : Addr) (rs' : List Addr), [some (V.ref wp), some (V.int day), some (V.str drv), some (V.ref fl), some (V.int legs), some (V.int worth), some (V.ref sl), some (V.ref o)] = [some (.ref wp), some (.int day), some (.str drv), some (.ref fl), some (.int legs), some (.int worth), some (.ref sl), some (.ref o')] ∧ RA CR H H1 o' rs' day drv fs legs worth lt ∧ rs'.length ≤ 8 := ⟨o, rs, rfl, ra, by omega⟩
      refine ⟨_, rfl, rfl, _, rfl, ?_⟩
      refine ite2 (fun q1 => ?_) (fun q1 => iteF out)
      refine ⟨_, rfl, rfl, _, rfl, ?_⟩
      refine ite2 (fun q2 => ?_) (fun q2 => out)
      have e1 : legs = 1 := by have := of_decide_eq_true q1; simpa using this
      have e2 : worth = 1 := by have := of_decide_eq_true q2; simpa using this
      refine ⟨_, rfl, .inl ⟨rfl, _, SqL.of ra.2.2.1⟩, ?_⟩
      refine ⟨_, rfl, _, rfl, _, rfl, _, rfl, rfl, rfl, ?_⟩
      intro r dr nr ndr ner
      have ok1 := ok
      rw [e1, e2] at ok1
      refine mk_rideI nr ndr (.inr ⟨fl, rfl, fk.same ra.1⟩) (.inr ⟨sl, rfl, ra.1 _ _ hsl⟩) ok1 fun gs ls H2 s3 p1 p2 rf => ⟨rfl, ?_⟩
      have rf' : RidF CR H1 H2 r day drv gs legs worth ls := by rw [e1, e2]; exact rf
      exact ⟨o, _, _, rfl, rfl, s3 _ _ ra.2.2.1, by rw [List.length_map]; exact cl _ (by omega), o, rs ++ [r], rfl, ra.push s3 rf' p1 p2, by rw [List.length_append]; show rs.length + 1 ≤ 8; omega⟩
    clear ra len
    rintro σ' H1 ⟨o, rs, rfl, ra, len⟩
    exact ⟨_, rfl, hQ o rs H1 ra len⟩
end
end K21
set_option Elab.async false
set_option linter.all false
set_option maxRecDepth 100000
set_option maxHeartbeats 4000000
namespace K21
open PySem PySem.Spec PyProof.Rows L2
open C8 (Cal Mak Met pe_c pe_mk pe_mt pe_mt0)
open SX (S)
open SD (Sm SmA)
theorem nm_len {l : List Nat} (h : NM.ok l) : (S l).length ≤ 8 := by
  rw [SX.S_len]
  exact h.2.1
/-- what is told of a ride, as data -/
def tD (gs : List (Addr × Rd)) (ls ys : List Str) : PyData := .list [.list (gs.map fun z => rdD z.2), .list (ls.map .str), .list (ys.map .str)]
theorem nat20 {i b : Int} (h0 : 0 ≤ i) (h1 : i ≤ b) (hb : b ≤ 1000000) : i.natAbs < 2 ^ 20 := by
  have : (2 : Nat) ^ 20 = 1048576 := by decide
  omega
theorem sm_rd {drv : Str} {legs : Int} {fs : List (Addr × Rd)} (ok : RdOk drv legs fs) (l12 : legs ≤ 12) : ∀ z ∈ fs, Sm 60 1 (rdD z.2) := fun z hz => by
  obtain ⟨l, e, okl⟩ := ok.nm z hz
  obtain ⟨b0, be, el⟩ := ok.ok z hz
  unfold rdD
  refine Sm.mono (Sm.tup (SmA.cons (Sm.str (n := 8) (by rw [e]; exact strOk_S okl) (by rw [e]; exact nm_len okl)) (SmA.cons (Sm.int (nat20 b0 (by omega) (by decide : (1000000 : Int) ≤ 1000000))) (SmA.cons (Sm.int (nat20 (by omega) (by omega) (by decide : (1000000 : Int) ≤ 1000000))) SmA.nil)))) (by decide) (by decide)
theorem sm_strs {xs : List Str} (h : ∀ x ∈ xs, ∃ l, x = S l ∧ NM.ok l) : SmA (9 * xs.length) 0 (xs.map .str) := SmA.map fun x hx => by
  obtain ⟨l, e, okl⟩ := h x hx
  rw [e]
  exact Sm.str (strOk_S okl) (nm_len okl)
theorem sm_tD {drv : Str} {legs : Int} {gs : List (Addr × Rd)} {ls ys : List Str} (ok : RdOk drv legs gs) (l12 : legs ≤ 12) (hl : ∀ x ∈ ls, ∃ l, x = S l ∧ NM.ok l) (hy : ∀ x ∈ ys, ∃ l, x = S l ∧ NM.ok l) (ll : ls.length ≤ 11) (yl : ys.length ≤ 12) : Sm 1000 3 (tD gs ls ys) := by
  have h1 := SmA.map (sm_rd ok l12)
  have h2 := sm_strs hl
  have h3 := sm_strs hy
  have := ok.len
  exact Sm.mono (Sm.lst (SmA.cons ((Sm.lst h1).mono (Nat.le_refl _) (Nat.le_refl 2)) (SmA.cons ((Sm.lst h2).mono (Nat.le_refl _) (by decide)) (SmA.cons ((Sm.lst h3).mono (Nat.le_refl _) (by decide)) SmA.nil)))) (by omega) (Nat.le_refl _)
theorem dp_tD {K : PySem.W.Frag} {H : Hp} {t a b c : Addr} {gs : List (Addr × Rd)} {ls ys : List Str} (ht : H t = some (.lst [.ref a, .ref b, .ref c])) (ha : H a = some (.lst (gs.map fun z => V.ref z.1))) (hz : ∀ z ∈ gs, H z.1 = some (.tup (rdV z.2))) (hb : H b = some (.lst (ls.map V.str))) (hc : H c = some (.lst (ys.map V.str))) : Dp K H (.ref t) (tD gs ls ys) :=
  Dp.lst (SqL.of ht) (.cons (Dp.lst (SqL.of ha) (dp_riders hz)) (.cons (Dp.lst (SqL.of hb) (DQ.dp_strs ls)) (.cons (Dp.lst (SqL.of hc) (DQ.dp_strs ys)) .nil)))
/-- the four plain things -/
def fD (day : Int) (drv : Str) (legs worth : Int) : PyData := .tuple [.int day, .str drv, .int legs, .int worth]
theorem sm_fD {day : Int} {drv : Str} {fs : List (Addr × Rd)} {legs worth : Int} {lt : List Str} (ok : WayOk day drv fs legs worth lt) : Sm 80 1 (fD day drv legs worth) := by
  obtain ⟨l, e, okl⟩ := ok.dn
  have := ok.d0
  have := ok.d1
  have := ok.l1
  have := ok.l12
  have := ok.w1
  have := ok.w9
  unfold fD
  exact Sm.mono (Sm.tup (SmA.cons (Sm.int (nat20 ok.d0 ok.d1 (by decide))) (SmA.cons (Sm.str (n := 8) (by rw [e]; exact strOk_S okl) (by rw [e]; exact nm_len okl)) (SmA.cons (Sm.int (nat20 (by omega) ok.l12 (by decide))) (SmA.cons (Sm.int (nat20 (by omega) ok.w9 (by decide))) SmA.nil))))) (by decide) (by decide)
section
variable {P : Program} {w : World} {K : PySem.W.Frag} {mg : Str → Option Value} {base : Heap} {f C CR : Addr} {fd : FuncData}
def spRt (CR : Addr) : Sp := fun vs H Q _ => ∃ (rp wp : Addr) (day : Int) (drv : Str) (gs fs : List (Addr × Rd)) (legs worth : Int) (lt ls : List Str), vs = [.ref rp, .ref wp] ∧ Rid CR H rp day drv gs legs worth ls ∧ Wy H wp day drv fs legs worth lt ∧ WayOk day drv fs legs worth lt ∧ Gs gs fs ∧ Ls ls lt ∧ ∀ H', Same H H' → Q (.bl true) H'
theorem sorted_eq {xs ys zs : List Str} (h1 : xs.Perm zs ∧ xs.Pairwise SRT.leS) (h2 : ys.Perm zs ∧ ys.Pairwise SRT.leS) : xs = ys := IO.sorted_same h1.2 h2.2 (h1.1.trans h2.1.symm)
/-- a list of texts or riders that is being changed -/
theorem ok_rt (F : Dn K d_l_right f fd) (b : Bl mg) (b2 : Bl2 mg) (T : ClR K mg CR) (brep : mg "repr" = none) (mRs : Met P w K mg base 1 CR "riders" (spRs CR) []) (mLt : Met P w K mg base 1 CR "late" (spLt' CR) []) (mF : Met P w K mg base 1 CR "folk" (spFo CR) []) (sLn : OW.Spc P w K mg base 2 CR "__len__" (spLn CR)) :
    GL.FnG P w K mg base 4 f fd ["_law_ride", "_law_way_here"] (spRt CR) := by
  refine GL.okG F sc_l_right (fun vs H Q E h => ?_) (fun cdv A outer s H vs Q E hgd hr h => ?_)
  · obtain ⟨rp, wp, day, drv, gs, fs, legs, worth, lt, ls, rfl, _⟩ := h
    rfl
  · obtain ⟨rp, wp, day, drv, gs, fs, legs, worth, lt, ls, rfl, rid, ⟨fl, sl, hw, fk, hsl⟩, ok, pm, pl, hQ⟩ := h
    have hu64 : (A.deeper (envOfC d_l_right.qual d_l_right.scope s.heap.objs.size f cdv)).units + 64 < cLine := by have := hr.un; omega
    refine ⟨_, PSs.nox (pss_cons (ps_asg (pv 1) (pg_unl rfl (pgs_cons (pg_name (i := 2) sc_l_right.nd rfl (.inl rfl)) (pgs_cons (pg_name (i := 3) sc_l_right.nd rfl (.inl rfl)) (pgs_cons (pg_name (i := 4) sc_l_right.nd rfl (.inl rfl)) (pgs_cons (pg_name (i := 5) sc_l_right.nd rfl (.inl rfl)) (pgs_cons (pg_name (i := 6) sc_l_right.nd rfl (.inl rfl)) (pgs_cons (pg_name (i := 7) sc_l_right.nd rfl (.inl rfl)) pgs_nil))))))))
      (pss_cons (ps_if (pt_cmpR op_ne (pe_callB (GL.call_reprD hgd hu64) rfl brep boot_repr (pa_cons (pe_tup (pa_cons (pe_fld (pv 0) rfl) (pa_cons (pe_fld (pv 0) rfl) (pa_cons (pe_fld (pv 0) rfl) (pa_cons (pe_fld (pv 0) rfl) pa_nil))))) pa_nil))
        (pe_callB (GL.call_reprD hgd hu64) rfl brep boot_repr (pa_cons (pe_tup (pa_cons (pv 2) (pa_cons (pv 3) (pa_cons (pv 5) (pa_cons (pv 6) pa_nil))))) pa_nil)) (nomark _)) pss_never pss_nil)
      (pss_cons (ps_set (i := 8) sc_l_right.nd rfl (.inl rfl) (pe_lst (pa_cons (pe_callB (SRT.cr_sortedD hu64) rfl b2.srt boot_sorted (pa_cons (pv 4) pa_nil)) (pa_cons (pe_callB (SRT.cr_sortedTx hu64) rfl b2.srt boot_sorted (pa_cons (pv 7) pa_nil))
        (pa_cons (pe_callB (SRT.cr_sortedTx hu64) rfl b2.srt boot_sorted (pa_cons (pe_op op_cat (pe_lst (pa_cons (pv 3) pa_nil)) (pe_lc (own := [("_law_one", 12)]) (g := gName 12) (tt := tYes) rfl sc_l_right.nd (pi_list (pv 4)) (blkOk_by (N := N_l_right) (sc := defScope s_l_right) (by decide +kernel))
          (fun _ _ _ _ _ => pg_name (i := 12) sc_l_right.nd rfl (Or.inl rfl)) (fun _ _ _ _ _ => pts_nil) (fun _ _ _ _ _ => pe_ix (r := rIxT K) ix_tup (pv 12) pe_int (fun _ _ => rfl)))) pa_nil)) pa_nil)))))
      (pss_cons (ps_for PassesOwn.never rfl (pi_range1 rfl b.range (pa_cons pe_int pa_nil)) (pg_name (i := 9) sc_l_right.nd rfl (.inl rfl))
        (pss_cons (ps_set (i := 10) sc_l_right.nd rfl (.inl rfl) (pe_lst (pa_cons (pe_mt0 mRs hr (by decide) (pv 0)) (pa_cons (pe_mt0 mLt hr (by decide) (pv 0)) (pa_cons (pe_mt0 mF hr (by decide) (pv 0)) pa_nil)))))
        (pss_cons (ps_if (PW.pt (pw_or (pt_cmpR op_ne (pe_callB (GL.call_reprD hgd hu64) rfl brep boot_repr (pa_cons (pv 10) pa_nil)) (pe_callB (GL.call_reprD hgd hu64) rfl brep boot_repr (pa_cons (pv 8) pa_nil)) (nomark _))
          (pw_or1 (pt_cmpR op_ne (pe_callB (OW.call_lenO sLn (hr.mono (by decide))) rfl b.len boot_len (pa_cons (pv 0) pa_nil)) (pe_op op_add (pe_callB call_len_seq rfl b.len boot_len (pa_cons (pv 4) pa_nil)) pe_int) (nomark _))))) pss_never pss_nil)
        (pss_one (ps_for PassesOwn.never rfl (pi_list (pv 10)) (pg_name (i := 11) sc_l_right.nd rfl (.inl rfl))
          (pss_cons (ps_expr (pe_bm PySem.F.plainAttrs_list PySem.F.slot_list_append PySem.F.type_list_append mt_append (pv 11) (pa_cons pe_non pa_nil)))
          (pss_one (ps_expr (pe_bm0 PySem.F.plainAttrs_list PySem.F.slot_list_reverse PySem.F.type_list_reverse mt_reverse (pv 11))))))))))
      (pss_one (ps_ret pe_bl)))))), ?_⟩
    refine ⟨_, rfl, wp, _, rfl, SqL.of hw, rfl, _, _, rfl, _, _, rfl, _, _, rfl, _, _, rfl, _, _, rfl, _, _, rfl, rfl, ?_⟩
    obtain ⟨dx, st, lc, hrp, fkg, hlc⟩ := id rid
    have okg : RdOk drv legs gs := ok.rd.perm pm.perm
    have l12 := ok.l12
    have nl : (nms fs).length = fs.length := by unfold nms; rw [List.length_map]
    have flen := ok.rd.len
    obtain ⟨f1, f2, f3, f4⟩ := (sm_fD ok).four (by decide) (by decide)
    -- the plain things
    refine ⟨_, rfl, rp, CR, dx, _, _, rfl, hrp, T.cl, T.nd, r_day, _, rfl, rp, CR, dx, _, _, rfl, hrp, T.cl, T.nv, r_driver, _, rfl, rp, CR, dx, _, _, rfl, hrp, T.cl, T.nl, r_legs, _, rfl, rp, CR, dx, _, _, rfl, hrp, T.cl, T.nw, r_worth, by show 4 ≤ sizeLine; decide, fun t1 ft1 => ?_⟩
    have s1 := same_new (o := .tup [.int day, .str drv, .int legs, .int worth]) ft1
    have dpf : ∀ {Hx : Hp} {t : Addr}, Hx t = some (.tup [.int day, .str drv, .int legs, .int worth]) → Dp K Hx (.ref t) (fD day drv legs worth) := fun e => Dp.tup (SqT.of e) (.cons (.int _) (.cons (.str _) (.cons (.int _) (.cons (.int _) .nil))))
    refine ⟨_, _, rfl, dpf upd_same, f1, f2, f3, f4, ?_⟩
    refine ⟨_, rfl, _, rfl, _, rfl, _, rfl, by show 4 ≤ sizeLine; decide, fun t2 ft2 => ?_⟩
    have s2 := same_new (o := .tup [.int day, .str drv, .int legs, .int worth]) ft2
    refine ⟨_, _, rfl, dpf upd_same, f1, f2, f3, f4, ?_⟩
    refine ⟨rfl, _, rfl, ?_⟩
    rw [show (!decide (V.str (fD day drv legs worth).shown = V.str (fD day drv legs worth).shown)) = false by simp]
    refine iteF ?_
    have s12 := s1.trans s2
    generalize upd (upd H t1 (.tup [.int day, .str drv, .int legs, .int worth])) t2 (.tup [.int day, .str drv, .int legs, .int worth]) = H2 at s12
    clear s1 s2 ft1 ft2
    -- what is due
    refine ⟨_, rfl, fl, _, _, rfl, .inl (SqL.of (s12 _ _ fk.1)), dp_riders (fk.same s12).2, ?_, ?_, ?_, fun q1 fq1 => ?_⟩
    · intro x hx y hy
      obtain ⟨z, _, rfl⟩ := List.mem_map.mp hx
      obtain ⟨z', _, rfl⟩ := List.mem_map.mp hy
      unfold rdD
      simp [PySem.W.alike, PySem.W.alikeAll]
    · refine .inl fun x hx => ?_
      obtain ⟨z, _, rfl⟩ := List.mem_map.mp hx
      exact ⟨_, _, rfl⟩
    · intro x hx
      obtain ⟨z, _, rfl⟩ := List.mem_map.mp hx
      unfold rdD
      simp [PyData.depth, PyData.depthAll]
    rw [srtR_eq, ← pm]
    have sq1 := same_new (o := .lst (gs.map fun z => V.ref z.1)) fq1
    have h1 : (upd H2 q1 (.lst (gs.map fun z => V.ref z.1))) q1 = some (.lst (gs.map fun z => V.ref z.1)) := upd_same
    have s13 := s12.trans sq1
    generalize upd H2 q1 (.lst (gs.map fun z => V.ref z.1)) = H3 at h1 s13
    refine ⟨_, rfl, sl, lt, rfl, .inl (SqL.of (s13 _ _ hsl)), fun ls2 q2 pl1 pl2 fq2 => ?_⟩
    have els : ls2 = ls := sorted_eq ⟨pl1, pl2⟩ pl
    subst els
    have sq2 := same_new (o := .lst (ls2.map V.str)) fq2
    have h2 : (upd H3 q2 (.lst (ls2.map V.str))) q2 = some (.lst (ls2.map V.str)) := upd_same
    have h1' := sq2 _ _ h1
    have s14 := s13.trans sq2
    generalize upd H3 q2 (.lst (ls2.map V.str)) = H4 at h2 h1' s14
    refine ⟨_, rfl, by show 1 ≤ sizeLine; decide, fun d1 fd1 => ?_⟩
    have sd1 := same_new (o := .lst [.str drv]) fd1
    have hd1 : (upd H4 d1 (.lst [.str drv])) d1 = some (.lst [.str drv]) := upd_same
    have s15 := s14.trans sd1
    have h1'' := sd1 _ _ h1'
    have h2' := sd1 _ _ h2
    generalize upd H4 d1 (.lst [.str drv]) = H5 at hd1 s15 h1'' h2'
    have fk5 := fk.same s15
    refine ⟨_, rfl, fl, rfl, ⟨_, SqL.of fk5.1⟩, fun D2 hD2 => lc_list (K := K) (xs := fs.map fun z => V.ref z.1) (fun i H6 => H6 D2 = some (.lst ((nms (fs.take i)).map V.str)) ∧ Same H5 H6) ⟨upd_same, same_new hD2⟩ (fun _ H6 _ z => SqL.of (z.2 _ _ fk5.1)) ?_ ?_⟩
    · rintro i x H6 hx ⟨hd, sm⟩
      have hi' : i < fs.length := by
        have := (List.getElem?_eq_some_iff.mp hx).1
        simpa using this
      rw [List.getElem?_map] at hx
      obtain ⟨y, hy, rfl⟩ := Option.map_eq_some_iff.mp hx
      have hm := List.mem_of_getElem? hy
      have et : fs.take (i + 1) = fs.take i ++ [y] := by rw [List.take_succ, hy]; rfl
      refine ⟨rfl, ?_⟩
      refine ⟨_, rfl, y.1, _, _, _, rfl, rfl, SqT.of (sm _ _ (fk5.2 y hm)), rfl, ?_⟩
      refine ⟨_, hd, ?_, ?_, ?_⟩
      · unfold nms
        rw [List.length_map, List.length_map, List.length_take]
        exact Nat.lt_of_lt_of_le (by omega : min i fs.length < 64) (by decide)
      · rw [upd_same, et]
        unfold nms
        rw [List.map_append, List.map_append]
        rfl
      · intro a o e
        rw [upd_ne (ne_of_none e hD2)]
        exact sm a o e
    rintro H6 ⟨hd2, sm2⟩
    rw [List.length_map, List.take_length] at hd2
    refine ⟨d1, D2, _, _, rfl, rfl, sm2 _ _ hd1, hd2, ?_, fun p fp => ?_⟩
    · rw [List.length_map, nl]
      exact Nat.le_trans (by show 1 + fs.length ≤ 64; omega) (by decide)
    have e : [V.str drv] ++ (nms fs).map V.str = (drv :: nms fs).map V.str := rfl
    rw [e]
    have sp := same_new (o := .lst ((drv :: nms fs).map V.str)) fp
    refine ⟨p, drv :: nms fs, rfl, .inl (SqL.of upd_same), fun ys q3 py1 py2 fq3 => ⟨by show 3 ≤ sizeLine; decide, fun ud fud => ?_⟩⟩
    have sq3 := same_new (o := .lst (ys.map V.str)) fq3
    have su := same_new (o := .lst [.ref q1, .ref q2, .ref q3]) fud
    have s6u := (sp.trans sq3).trans su
    have hu1 := s6u _ _ (sm2 _ _ h1'')
    have hu2 := s6u _ _ (sm2 _ _ h2')
    have hu3 := su _ _ (upd_same : (upd (upd H6 p (.lst ((drv :: nms fs).map V.str))) q3 (.lst (ys.map V.str))) q3 = _)
    have hud : (upd (upd (upd H6 p (.lst ((drv :: nms fs).map V.str))) q3 (.lst (ys.map V.str))) ud (.lst [.ref q1, .ref q2, .ref q3])) ud = some (.lst [.ref q1, .ref q2, .ref q3]) := upd_same
    have s17 := (s15.trans sm2).trans s6u
    generalize upd (upd (upd H6 p (.lst ((drv :: nms fs).map V.str))) q3 (.lst (ys.map V.str))) ud (.lst [.ref q1, .ref q2, .ref q3]) = H7 at hu1 hu2 hu3 hud s17
    clear sq1 sq2 sd1 hd1 s12 s13 s14 s15 h1 h1' h1'' h2 h2' sm2 hd2 sp sq3 su s6u fk5
    have ynm : ∀ x ∈ ys, ∃ l, x = S l ∧ NM.ok l := fun x hx => by
      rcases List.mem_cons.mp (py1.mem_iff.mp hx) with e | e
      · rw [e]; exact ok.dn
      · obtain ⟨z, hz, ez⟩ := List.mem_map.mp e
        rw [← ez]; exact ok.rd.nm z hz
    have lnm : ∀ x ∈ ls2, ∃ l, x = S l ∧ NM.ok l := fun x hx => by
      obtain ⟨z, hz, ez⟩ := List.mem_map.mp (ok.lts x (pl.1.mem_iff.mp hx))
      rw [← ez]; exact ok.rd.nm z hz
    have sm := sm_tD (gs := gs) (ls := ls2) (ys := ys) okg l12 lnm ynm (by rw [pl.1.length_eq]; exact Nat.le_trans (lt_len ok.ltn ok.lts) flen) (by rw [py1.length_eq, List.length_cons, nl]; omega)
    obtain ⟨m1, m2, m3, m4⟩ := sm.four (by decide) (by decide)
    have fkg7 := fkg.same s17
    have rid7 := rid.same s17
    have hrp7 := s17 _ _ hrp
    have fk7 := fk.same s17
    have due : ∀ {Hx : Hp}, Same H7 Hx → Dp K Hx (.ref ud) (tD gs ls2 ys) := fun sx => dp_tD (sx _ _ hud) (sx _ _ hu1) (fkg7.same sx).2 (sx _ _ hu2) (sx _ _ hu3)
    -- twice
    refine ⟨2, rfl, by decide, by decide, ?_⟩
    refine for_range (n := 2) (fun i σ H' => ∃ (v9 v10 v11 v12 : Option V), σ = [some (.ref rp), some (.ref wp), some (.int day), some (.str drv), some (.ref fl), some (.int legs), some (.int worth), some (.ref sl), some (.ref ud), v9, v10, v11, v12] ∧ Same H7 H') ⟨_, _, _, _, rfl, Same.refl _⟩ ?_ ?_
    · rintro i σ H8 hi ⟨v9, v10, v11, v12, rfl, s8⟩
      have hrp8 := s8 _ _ hrp7
      refine ⟨_, rfl, rp, dx, _, rfl, hrp8, r_riders, rp, day, drv, gs, legs, worth, ls2, rfl, rid7.same s8, fun a H9 s9 fa ha => ?_⟩
      refine ⟨_, rfl, rp, dx, _, rfl, s9 _ _ hrp8, r_late, rp, day, drv, gs, legs, worth, ls2, rfl, (rid7.same s8).same s9, fun c Ha sa fc hc => ?_⟩
      refine ⟨_, rfl, rp, dx, _, rfl, sa _ _ (s9 _ _ hrp8), r_folk, rp, day, drv, gs, legs, worth, ls2, rfl, ((rid7.same s8).same s9).same sa, okg.len, fun e ye Hb sb fe he pe1 pe2 => ⟨by show 3 ≤ sizeLine; decide, fun t ft => ?_⟩⟩
      have eye : ye = ys := sorted_eq ⟨pe1.trans (List.Perm.cons _ (pm.perm.map _)), pe2⟩ ⟨py1, py2⟩
      subst eye
      have st := same_new (o := .lst [.ref a, .ref c, .ref e]) ft
      have ht : (upd Hb t (.lst [.ref a, .ref c, .ref e])) t = some (.lst [.ref a, .ref c, .ref e]) := upd_same
      have ha' := st _ _ (sb _ _ (sa _ _ ha))
      have hc' := st _ _ (sb _ _ hc)
      have he' := st _ _ he
      have s9t := ((s9.trans sa).trans sb).trans st
      have s7t := s8.trans s9t
      have na : H8 a = none := fa
      have nc : H8 c = none := s9.free fc
      have ne : H8 e = none := s9.free (sa.free fe)
      generalize upd Hb t (.lst [.ref a, .ref c, .ref e]) = Hc at ht ha' hc' he' s9t s7t
      refine ⟨_, rfl, ?_⟩
      refine ⟨_, _, rfl, dp_tD ht ha' (fkg7.same s7t).2 hc' he', m1, m2, m3, m4, ?_⟩
      refine ⟨_, rfl, ?_⟩
      refine ⟨_, _, rfl, due s7t, m1, m2, m3, m4, ?_⟩
      refine ⟨rfl, _, rfl, ?_⟩
      rw [show (!decide (V.str (tD gs ls2 ye).shown = V.str (tD gs ls2 ye).shown)) = false by simp]
      refine iteF ?_
      refine ⟨_, rfl, rp, dx, _, rfl, s7t _ _ hrp7, rp, day, drv, gs, legs, worth, ls2, rfl, rid7.same s7t, okg.len, fun Hd sd => ⟨gs.length + 1, rfl, by have := okg.len; omega, ?_⟩⟩
      have s7d := s7t.trans sd
      refine ⟨_, rfl, fl, _, rfl, .inl (SqL.of (s7d _ _ fk7.1)), _, _, rfl, rfl, rfl, _, rfl, ?_⟩
      rw [List.length_map, show (!decide (V.int ((gs.length + 1 : Nat) : Int) = V.int ((fs.length : Nat) + 1 : Int))) = false by rw [pm.perm.length_eq]; simp]
      refine iteF ?_
      -- the told lists are spoilt
      have htd := sd _ _ ht
      have nta : t ≠ a := fun q => by rw [← q] at ha; have := (sb _ _ (sa _ _ ha)); rw [this] at ft; cases ft
      have ntc : t ≠ c := fun q => by rw [← q] at hc; have := (sb _ _ hc); rw [this] at ft; cases ft
      have nte : t ≠ e := fun q => by rw [← q] at he; rw [he] at ft; cases ft
      refine ⟨_, rfl, t, rfl, ⟨_, SqL.of htd⟩, for_list (K := K) (xs := [V.ref a, V.ref c, V.ref e]) (fun j σ H' => ∃ (v11 : Option V), σ = [some (.ref rp), some (.ref wp), some (.int day), some (.str drv), some (.ref fl), some (.int legs), some (.int worth), some (.ref sl), some (.ref ud), some (.int (0 + i)), some (.ref t), v11, v12] ∧ Same H8 H' ∧ H' t = some (.lst [.ref a, .ref c, .ref e]) ∧ (∃ xs, H' a = some (.lst xs) ∧ xs.length ≤ 100 + j) ∧ (∃ xs, H' c = some (.lst xs) ∧ xs.length ≤ 100 + j) ∧ ∃ xs, H' e = some (.lst xs) ∧ xs.length ≤ 100 + j)
        ⟨_, rfl, s9t.trans sd, htd, ⟨_, sd _ _ ha', by rw [List.length_map]; have := okg.len; omega⟩, ⟨_, sd _ _ hc', by rw [List.length_map, pl.1.length_eq]; have := lt_len ok.ltn ok.lts; omega⟩, ⟨_, sd _ _ he', by rw [List.length_map, py1.length_eq, List.length_cons, nl]; omega⟩⟩ (fun j σ H' _ z => by
          obtain ⟨_, _, _, k, _⟩ := z
          exact SqL.of k) ?_ ?_⟩
      · rintro j v σ He hj ⟨v11, rfl, s8e, hte, ⟨xa, ea, la⟩, ⟨xc, ec, lc2⟩, ⟨xe, ee, le⟩⟩
        have jl : j < 3 := by have := (List.getElem?_eq_some_iff.mp hj).1; exact this
        have key : ∀ (y : Addr) (xs : List V), He y = some (.lst xs) → xs.length ≤ 100 + j → H8 y = none → t ≠ y → ∀ {Qx : L2.St → Hp → Prop}, (∀ zs : List V, zs.length ≤ 100 + (j + 1) → Qx [some (.ref rp), some (.ref wp), some (.int day), some (.str drv), some (.ref fl), some (.int legs), some (.int worth), some (.ref sl), some (.ref ud), some (.int (0 + i)), some (.ref t), some (.ref y), v12] (upd (upd He y (.lst (xs ++ [.non]))) y (.lst zs))) → True := fun _ _ _ _ _ _ _ _ => trivial
        clear key
        have fin : ∀ (y : Addr) (xs zs : List V), He y = some (.lst xs) → zs.length ≤ 100 + (j + 1) → H8 y = none → t ≠ y → (Same H8 (upd (upd He y (.lst (xs ++ [.non]))) y (.lst zs)) ∧ (upd (upd He y (.lst (xs ++ [.non]))) y (.lst zs)) t = some (.lst [.ref a, .ref c, .ref e]) ∧ ∀ (u : Addr) (us : List V), He u = some (.lst us) → us.length ≤ 100 + j → ∃ us', (upd (upd He y (.lst (xs ++ [.non]))) y (.lst zs)) u = some (.lst us') ∧ us'.length ≤ 100 + (j + 1)) := fun y xs zs hy hz ny nty => by
          refine ⟨fun b o e => ?_, ?_, fun u us hu hul => ?_⟩
          · have n := ne_of_none e ny
            rw [upd_ne n, upd_ne n]
            exact s8e b o e
          · rw [upd_ne nty, upd_ne nty]
            exact hte
          · by_cases q : u = y
            · rw [q]
              exact ⟨zs, upd_same, hz⟩
            · exact ⟨us, by rw [upd_ne q, upd_ne q]; exact hu, by omega⟩
        obtain ⟨y, xs, rfl, hy, ly, ny, nty⟩ : ∃ (y : Addr) (xs : List V), v = .ref y ∧ He y = some (.lst xs) ∧ xs.length ≤ 100 + j ∧ H8 y = none ∧ t ≠ y := by
          match j, jl, hj with
          | 0, _, hj => exact ⟨a, xa, (Option.some.inj hj).symm, ea, la, na, nta⟩
          | 1, _, hj => exact ⟨c, xc, (Option.some.inj hj).symm, ec, lc2, nc, ntc⟩
          | 2, _, hj => exact ⟨e, xe, (Option.some.inj hj).symm, ee, le, ne, nte⟩
        refine ⟨_, rfl, .inl ⟨rfl, _, SqL.of hy⟩, y, _, _, rfl, rfl, hy, Nat.lt_of_le_of_lt (by omega : xs.length ≤ 200) (by decide), ?_⟩
        refine ⟨_, rfl, .inl ⟨rfl, _, SqL.of upd_same⟩, y, _, rfl, rfl, upd_same, ?_⟩
        obtain ⟨r1, r2, r3⟩ := fin y xs (xs ++ [V.non]).reverse hy (by rw [List.length_reverse, List.length_append]; show xs.length + 1 ≤ _; omega) ny nty
        exact ⟨_, rfl, r1, r2, r3 a xa ea la, r3 c xc ec lc2, r3 e xe ee le⟩
      · rintro σ He ⟨v11, rfl, s8e, _⟩
        exact ⟨_, _, _, _, rfl, s8.trans s8e⟩
    · rintro σ H8 ⟨v9, v10, v11, v12, rfl, s8⟩
      exact hQ H8 (s17.trans s8)
end
end K21
set_option Elab.async false
set_option linter.all false
set_option maxRecDepth 100000
set_option maxHeartbeats 4000000
namespace K21
open PySem PySem.Spec PyProof.Rows L2
open C8 (Cal Mak Met pe_c pe_mk pe_mt pe_mt0)
open SX (S)
open SD (Sm SmA)
/-- what was told of a ride, and what was due -/
def Ent (hl ul : Addr) (H : Hp) (t u : Addr) (gs : List (Addr × Rd)) (ls ys : List Str) : Prop := ∃ a b c a' b' c', H t = some (.lst [.ref a, .ref b, .ref c]) ∧ H u = some (.lst [.ref a', .ref b', .ref c']) ∧ H a = some (.lst (gs.map fun z => V.ref z.1)) ∧ H a' = some (.lst (gs.map fun z => V.ref z.1)) ∧ (∀ z ∈ gs, H z.1 = some (.tup (rdV z.2))) ∧ H b = some (.lst (ls.map V.str)) ∧ H b' = some (.lst (ls.map V.str)) ∧ H c = some (.lst (ys.map V.str)) ∧ H c' = some (.lst (ys.map V.str)) ∧ ∀ x ∈ [t, u, a, b, c, a', b', c'], x ≠ hl ∧ x ≠ ul
theorem no_three {a b c : Addr} (l : Addr) (n m : Int) : HO.lst [.ref a, .ref b, .ref c] ≠ .lst (penL l n m) := no_refs [a, b, c] l n m
theorem Ent.mv {hl ul : Addr} {H H' : Hp} {t u : Addr} {gs : List (Addr × Rd)} {ls ys : List Str} (h : Ent hl ul H t u gs ls ys) (kt : ∀ a vs, H a = some (.tup vs) → H' a = some (.tup vs)) (k : ∀ a o, H a = some o → a ≠ hl → a ≠ ul → (∀ l n m, o ≠ .lst (penL l n m)) → H' a = some o) : Ent hl ul H' t u gs ls ys := by
  obtain ⟨a, b, c, a', b', c', h1, h2, h3, h4, h5, h6, h7, h8, h9, n⟩ := h
  have g : ∀ x ∈ [t, u, a, b, c, a', b', c'], ∀ o, H x = some o → (∀ l n m, o ≠ .lst (penL l n m)) → H' x = some o := fun x hx o e q => k x o e (n x hx).1 (n x hx).2 q
  exact ⟨a, b, c, a', b', c', g _ (by simp) _ h1 no_three, g _ (by simp) _ h2 no_three, g _ (by simp) _ h3 (no_fs gs), g _ (by simp) _ h4 (no_fs gs), fun z hz => kt _ _ (h5 z hz), g _ (by simp) _ h6 (no_strs ls), g _ (by simp) _ h7 (no_strs ls), g _ (by simp) _ h8 (no_strs ys), g _ (by simp) _ h9 (no_strs ys), n⟩
/-- all of them -/
def EnA (hl ul : Addr) (H : Hp) (L : List (Addr × Addr)) : Prop := H hl = some (.lst (L.map fun e => V.ref e.1)) ∧ H ul = some (.lst (L.map fun e => V.ref e.2)) ∧ ∀ e ∈ L, ∃ gs ls ys, Ent hl ul H e.1 e.2 gs ls ys ∧ Sm 1000 3 (tD gs ls ys)
theorem EnA.mv {hl ul : Addr} {H H' : Hp} {L : List (Addr × Addr)} (h : EnA hl ul H L) (k : ∀ a o, H a = some o → (∀ l n m, o ≠ .lst (penL l n m)) → H' a = some o) : EnA hl ul H' L := by
  obtain ⟨h1, h2, h3⟩ := h
  refine ⟨k _ _ h1 ?_, k _ _ h2 ?_, fun e he => ?_⟩
  · have := no_refs (L.map (·.1))
    rw [List.map_map] at this
    exact this
  · have := no_refs (L.map (·.2))
    rw [List.map_map] at this
    exact this
  · obtain ⟨gs, ls, ys, en, sm⟩ := h3 e he
    exact ⟨gs, ls, ys, en.mv (fun a vs q => k _ _ q fun l n m z => by cases z) (fun a o q _ _ r => k a o q r), sm⟩
theorem EnA.same {hl ul : Addr} {H H' : Hp} {L : List (Addr × Addr)} (h : EnA hl ul H L) (s : Same H H') : EnA hl ul H' L := h.mv fun a o e _ => s a o e
/-- the two lists as data -/
theorem EnA.data {K : PySem.W.Frag} {hl ul : Addr} {H : Hp} {L : List (Addr × Addr)} (h : EnA hl ul H L) : ∃ ds : List PyData, DpAll K H (L.map fun e => V.ref e.1) ds ∧ DpAll K H (L.map fun e => V.ref e.2) ds ∧ SmA (1001 * L.length) 3 ds := by
  have h3 := h.2.2
  clear h
  induction L with
  | nil => exact ⟨[], .nil, .nil, SmA.nil⟩
  | cons e L ih =>
    obtain ⟨ds, d1, d2, sm⟩ := ih fun x hx => h3 x (List.mem_cons_of_mem _ hx)
    obtain ⟨gs, ls, ys, ⟨a, b, c, a', b', c', e1, e2, e3, e4, e5, e6, e7, e8, e9, _⟩, s0⟩ := h3 e List.mem_cons_self
    refine ⟨tD gs ls ys :: ds, .cons (dp_tD e1 e3 e5 e6 e8) d1, .cons (dp_tD e2 e4 e5 e7 e9) d2, (SmA.cons s0 sm).mono ?_ (Nat.le_refl _)⟩
    rw [List.length_cons]
    omega
theorem rd_one {drv : Str} {legs : Int} {fs hs : List (Addr × Rd)} (ok : RdOk drv legs fs) (e : hs.map (·.2) = fs.map fun z => (z.2.1, (0 : Int), (1 : Int))) : RdOk drv 1 hs ∧ nms hs = nms fs := by
  have en : nms hs = nms fs := by
    have := congrArg (List.map Prod.fst) e
    rw [List.map_map, List.map_map] at this
    exact this
  have ex : ∀ z ∈ hs, ∃ y ∈ fs, z.2 = (y.2.1, (0 : Int), (1 : Int)) := fun z hz => by
    have : z.2 ∈ hs.map (·.2) := List.mem_map.mpr ⟨z, hz, rfl⟩
    rw [e] at this
    obtain ⟨y, hy, q⟩ := List.mem_map.mp this
    exact ⟨y, hy, q.symm⟩
  refine ⟨⟨?_, fun z hz => ?_, fun z hz => ?_, by rw [en]; exact ok.nd⟩, en⟩
  · have := congrArg List.length e
    rw [List.length_map, List.length_map] at this
    rw [this]
    exact ok.len
  · obtain ⟨y, hy, q⟩ := ex z hz
    rw [q]
    exact ok.nm y hy
  · obtain ⟨y, hy, q⟩ := ex z hz
    rw [q]
    exact ⟨Int.le_refl 0, by show (0 : Int) < 1; decide, Int.le_refl 1⟩
theorem wy_fl {H : Hp} {wp fl : Addr} {d : Int} {xs : List V} {fs : List (Addr × Rd)} (hw : H wp = some (.lst (.int d :: xs))) (h : H fl = some (.lst (fs.map fun z => V.ref z.1))) : fl ≠ wp := fun q => by
  rw [q, hw] at h
  injection h with h
  injection h with h
  cases fs <;> cases h
theorem wy_sl {H : Hp} {wp sl : Addr} {d : Int} {xs : List V} {lt : List Str} (hw : H wp = some (.lst (.int d :: xs))) (h : H sl = some (.lst (lt.map V.str))) : sl ≠ wp := fun q => by
  rw [q, hw] at h
  injection h with h
  injection h with h
  cases lt <;> cases h
theorem WayOk.none {day : Int} {drv : Str} {fs : List (Addr × Rd)} {legs worth : Int} {lt : List Str} (ok : WayOk day drv fs legs worth lt) : WayOk day drv fs legs worth [] :=
  ⟨ok.d0, ok.d1, ok.dn, ok.l1, ok.l12, ok.w1, ok.w9, ok.rd, List.nodup_nil, fun _ h => nomatch h⟩
section
variable {P : Program} {w : World} {K : PySem.W.Frag} {mg : Str → Option Value} {base : Heap} {f C CR : Addr} {fd : FuncData}
abbrev CalRt (P : Program) (w : World) (K : PySem.W.Frag) (mg : Str → Option Value) (base : Heap) (CR : Addr) : Prop := GL.CalG P w K mg base 4 "_law_right" (spRt CR) []
def spLaw (K : PySem.W.Frag) : Sp := fun vs H Q _ => ∃ (a : Addr) (ns : List Int), vs = [.ref a] ∧ SqL K H a (ns.map V.int) ∧ ns.length ≤ 63 ∧ ∀ H', Q (.bl true) H'
theorem ok_law (F : Dn K d_law f fd) (b : Bl mg) (b2 : Bl2 mg) (T : ClR K mg CR) (cPn : Cal P w K mg base 1 "_law_pen" (spPen K) []) (cD : CalD P w K mg base) (cWy : Cal P w K mg base 3 "_law_way" spWay []) (cRd : Cal P w K mg base 7 "_law_rides" (spRds CR) []) (cRt : CalRt P w K mg base CR)
    (mRs : Met P w K mg base 1 CR "riders" (spRs CR) []) (mLt : Met P w K mg base 1 CR "late" (spLt' CR) []) (mF : Met P w K mg base 1 CR "folk" (spFo CR) []) (MR : Mak P w K mg base 5 "Ride" CR (spRI CR) []) :
    GL.FnG P w K mg base 8 f fd ["_law_script"] (spLaw K) := by
  refine GL.okG F sc_law (fun vs H Q E h => ?_) (fun cdv A outer s H vs Q E hgd hr h => ?_)
  · obtain ⟨a, ns, rfl, _⟩ := h
    rfl
  · obtain ⟨a, ns, rfl, hS, hlen, hQ⟩ := h
    have hu64 : (A.deeper (envOfC d_law.qual d_law.scope s.heap.objs.size f cdv)).units + 64 < cLine := by have := hr.un; omega
    refine ⟨_, PSs.nox (pss_cons (ps_par3 (i := 1) (j := 2) (l := 3) rfl sc_law.nd rfl rfl rfl (by decide) (by decide) (by decide) rfl rfl rfl (pa_cons (pe_c cPn hr (by decide) rfl (pa_cons (pv 0) pa_nil)) (pa_cons (pe_lst pa_nil) (pa_cons (pe_lst pa_nil) pa_nil))) rfl)
      (pss_cons (ps_for PassesOwn.never rfl (pi_range1 rfl b.range (pa_cons pe_int pa_nil)) (pg_name (i := 4) sc_law.nd rfl (.inl rfl))
        (pss_cons (ps_set (i := 5) sc_law.nd rfl (.inl rfl) (pe_c cWy hr (by decide) rfl (pa_cons (pv 1) pa_nil)))
        (C8.pss_cut (ps_if (pt_cmpR op_eq (pe_c cD hr (by decide) rfl (pa_cons (pv 1) (pa_cons pe_int pa_nil))) pe_int (nomark _))
          (pss_cons (ps_asg (pe_lst (pa_cons pe_int (pa_cons pe_int pa_nil))) (SLC.pg_slice (pv 5) (po_some pe_int) (po_some pe_int)))
          (pss_one (ps_asg (pe_lc (own := [("_law_one", 8)]) (g := gName 8) (tt := tYes) rfl sc_law.nd (pi_list (pe_ix ix_list (pv 5) pe_int (fun _ _ => rfl))) (blkOk_by (N := N_law) (sc := defScope s_law) (by decide +kernel))
            (fun _ _ _ _ _ => pg_name (i := 8) sc_law.nd rfl (Or.inl rfl)) (fun _ _ _ _ _ => pts_nil) (fun _ _ _ _ _ => pe_tup (pa_cons (pe_ix (r := rIxT K) ix_tup (pv 8) pe_int (fun _ _ => rfl)) (pa_cons pe_int (pa_cons pe_int pa_nil))))) (pg_sub (pv 5) pe_int set_list)))) pss_nil)
        (C8.pss_cut (ps_if (pt_cmpR op_eq (pe_c cD hr (by decide) rfl (pa_cons (pv 1) (pa_cons pe_int pa_nil))) pe_int (nomark _)) (pss_one (ps_asg (pe_lst pa_nil) (pg_sub (pv 5) pe_int set_list))) pss_nil)
        (pss_cons (ps_for PassesOwn.never rfl (pi_list (pe_c cRd hr (by decide) rfl (pa_cons (pv 5) pa_nil))) (pg_name (i := 6) sc_law.nd rfl (.inl rfl))
          (pss_cons (ps_expr (pe_bm PySem.F.plainAttrs_list PySem.F.slot_list_append PySem.F.type_list_append mt_append (pv 2) (pa_cons (pe_lst (pa_cons (pe_mt0 mRs hr (by decide) (pv 6)) (pa_cons (pe_mt0 mLt hr (by decide) (pv 6)) (pa_cons (pe_mt0 mF hr (by decide) (pv 6)) pa_nil)))) pa_nil)))
          (pss_cons (ps_expr (pe_bm PySem.F.plainAttrs_list PySem.F.slot_list_append PySem.F.type_list_append mt_append (pv 3) (pa_cons (pe_lst (pa_cons (pe_callB (SRT.cr_sortedD hu64) rfl b2.srt boot_sorted (pa_cons (pe_ix ix_list (pv 5) pe_int (fun _ _ => rfl)) pa_nil)) (pa_cons (pe_callB (SRT.cr_sortedTx hu64) rfl b2.srt boot_sorted (pa_cons (pe_ix ix_list (pv 5) pe_int (fun _ _ => rfl)) pa_nil))
            (pa_cons (pe_callB (SRT.cr_sortedTx hu64) rfl b2.srt boot_sorted (pa_cons (pe_op op_cat (pe_lst (pa_cons (pe_ix ix_list (pv 5) pe_int (fun _ _ => rfl)) pa_nil)) (pe_lc (own := [("_law_one", 8)]) (g := gName 8) (tt := tYes) rfl sc_law.nd (pi_list (pe_ix ix_list (pv 5) pe_int (fun _ _ => rfl))) (blkOk_by (N := N_law) (sc := defScope s_law) (by decide +kernel))
              (fun _ _ _ _ _ => pg_name (i := 8) sc_law.nd rfl (Or.inl rfl)) (fun _ _ _ _ _ => pts_nil) (fun _ _ _ _ _ => pe_ix (r := rIxT K) ix_tup (pv 8) pe_int (fun _ _ => rfl)))) pa_nil)) pa_nil)))) pa_nil)))
          (pss_one (ps_if (pt_not (pt_val (GL.pe_cG cRt hgd hr (by decide) rfl (pa_cons (pv 6) (pa_cons (pv 5) pa_nil))))) pss_never pss_nil)))))
        (pss_cons (ps_set (i := 7) sc_law.nd rfl (.inl rfl) (pe_lst (pa_cons (pe_callTy call_list_of rfl b.list boot_list (pa_cons (pe_ix ix_list (pv 5) pe_int (fun _ _ => rfl)) pa_nil)) (pa_cons (pe_callTy call_list_of rfl b.list boot_list (pa_cons (pe_ix ix_list (pv 5) pe_int (fun _ _ => rfl)) pa_nil)) pa_nil))))
        (pss_cons (ps_set (i := 6) sc_law.nd rfl (.inl rfl) (pe_mk MR hr (by decide) rfl (pa_cons (pe_ix ix_list (pv 5) pe_int (fun _ _ => rfl)) (pa_cons (pe_ix ix_list (pv 5) pe_int (fun _ _ => rfl)) (pa_cons (pe_ix ix_list (pv 7) pe_int (fun _ _ => rfl)) (pa_cons (pe_ix ix_list (pv 5) pe_int (fun _ _ => rfl)) (pa_cons (pe_ix ix_list (pv 5) pe_int (fun _ _ => rfl)) (pa_cons (pe_ix ix_list (pv 7) pe_int (fun _ _ => rfl)) pa_nil))))))))
        (pss_cons (ps_if (pt_cmpR (op_neD hu64) (pv 7) (pe_lst (pa_cons (pe_ix ix_list (pv 5) pe_int (fun _ _ => rfl)) (pa_cons (pe_ix ix_list (pv 5) pe_int (fun _ _ => rfl)) pa_nil))) (nomark _)) pss_never pss_nil)
        (pss_cons (ps_expr (pe_bm PySem.F.plainAttrs_list PySem.F.slot_list_append PySem.F.type_list_append mt_append (pe_ix ix_list (pv 7) pe_int (fun _ _ => rfl)) (pa_cons (pe_tup (pa_cons pe_str (pa_cons pe_int (pa_cons pe_int pa_nil)))) pa_nil)))
        (pss_cons (ps_expr (pe_bm PySem.F.plainAttrs_list PySem.F.slot_list_insert PySem.F.type_list_insert mt_insert (pe_ix ix_list (pv 7) pe_int (fun _ _ => rfl)) (pa_cons pe_int (pa_cons pe_str pa_nil))))
        (pss_one (ps_if (pt_not (pt_val (GL.pe_cG cRt hgd hr (by decide) rfl (pa_cons (pv 6) (pa_cons (pv 5) pa_nil))))) pss_never pss_nil))))))))))))
      (pss_one (ps_ret (pe_cmpR (op_eqD hu64) (pv 2) (pv 3) (nomark _)))))), ?_⟩
    refine ⟨_, rfl, a, ns, rfl, hS, hlen, fun p H1 s1 f1 pen1 => ⟨by show 0 ≤ sizeLine; decide, fun hl fhl => ⟨by show 0 ≤ sizeLine; decide, fun ul ful => ?_⟩⟩⟩
    have sl1 := same_new (o := .lst []) fhl
    have su1 := same_new (o := .lst []) ful
    have hhl1 := su1 _ _ (upd_same : (upd H1 hl (.lst [])) hl = _)
    have hul1 : (upd (upd H1 hl (.lst [])) ul (.lst [])) ul = some (.lst []) := upd_same
    have nhu : hl ≠ ul := ne_of_none upd_same ful
    have offh : Off p hl (upd (upd H1 hl (.lst [])) ul (.lst [])) := ((Off.of pen1 fhl).kp (Kp.same sl1)).kp (Kp.same su1)
    have offu : Off p ul (upd (upd H1 hl (.lst [])) ul (.lst [])) := (Off.of (pen1.same sl1) ful).kp (Kp.same su1)
    have pen2 := (pen1.same sl1).same su1
    generalize upd (upd H1 hl (.lst [])) ul (.lst []) = H2 at hhl1 hul1 offh offu pen2
    refine ⟨_, _, _, rfl, ?_⟩
    refine ⟨6, rfl, by decide, by decide, ?_⟩
    refine for_range (n := 6) (fun i σ H' => ∃ (v4 v5 v6 v7 v8 : Option V) (L : List (Addr × Addr)), σ = [some (.ref a), some (.ref p), some (.ref hl), some (.ref ul), v4, v5, v6, v7, v8] ∧ EnA hl ul H' L ∧ L.length ≤ 8 * i ∧ Off p hl H' ∧ Off p ul H' ∧ Pen H' p (800000000 - 300 * i))
      ⟨_, _, _, _, _, [], rfl, ⟨hhl1, hul1, fun e he => nomatch he⟩, by decide, offh, offu, pen2.weak (by decide)⟩ ?_ ?_
    · rintro i σ H3 hi ⟨v4, v5, v6, v7, v8, L, rfl, en3, ll3, offh3, offu3, pen3⟩
      refine ⟨_, rfl, p, 800000000 - 300 * i - 200, rfl, pen3.weak (by omega), fun wp day drv fs legs worth lt H4 pen4 k4 fwp wyf ok => ?_⟩
      obtain ⟨fl, sl, hw4, fk4, hsl4, nf3, ns3⟩ := wyf
      have offw4 : Off p wp H4 := (Off.of pen3 fwp).kp k4
      -- one leg, worth one
      refine ⟨fun σ' H' => ∃ (fs : List (Addr × Rd)) (legs worth : Int), σ' = [some (.ref a), some (.ref p), some (.ref hl), some (.ref ul), some (.int (0 + i)), some (.ref wp), v6, v7, v8] ∧ WyF H3 H' wp day drv fs legs worth lt ∧ WayOk day drv fs legs worth lt ∧ Off p wp H' ∧ Pen H' p (800000000 - 300 * i - 210) ∧ Kp p H3 H', ?_, ?_⟩
      · refine ⟨_, rfl, p, 800000000 - 300 * i - 201, 4, rfl, pen4.weak (by omega), by decide, by decide, fun r1 H5 a1 b1 pen5 k5 => ?_⟩
        have hw5 := k5.1 _ _ hw4 (Off.ne offw4)
        have wy5 : WyF H3 H5 wp day drv fs legs worth lt := ⟨fl, sl, hw5, fk4.kp pen4 k5, k5.1 _ _ hsl4 (pen4.ne hsl4 (no_strs lt)), nf3, ns3⟩
        have offw5 := offw4.kp k5
        refine ⟨rfl, _, rfl, ?_⟩
        refine ite2 (fun q => ?_) (fun q => ⟨fs, legs, worth, rfl, wy5, ok, offw5, pen5.weak (by omega), k4.trans k5⟩)
        clear q hw5
        obtain ⟨fl5, sl5, hw5, fk5, hsl5, nf5, ns5⟩ := wy5
        refine ⟨by show 2 ≤ sizeLine; decide, fun q1 fq1 => ?_⟩
        have sq1 := same_new (o := .lst [.int 1, .int 1]) fq1
        have hw6 := sq1 _ _ hw5
        refine ⟨_, rfl, _, rfl, _, rfl, wp, q1, _, _, 3, 5, rfl, rfl, rfl, rfl, hw6, upd_same, ne_of_none hw5 fq1, by decide, by decide, by show (5 : Int) ≤ 6; decide, by show 6 + 2 ≤ sizeLine; decide, ?_⟩
        have offw6 := offw5.kp (Kp.same sq1)
        have pen7 := (pen5.same sq1).put (o := .lst [.int day, .str drv, .ref fl5, .int 1, .int 1, .ref sl5]) offw6
        have offw7 := offw6
        have k57 : ∀ b o, b ≠ wp → H5 b = some o → (upd (upd H5 q1 (.lst [.int 1, .int 1])) wp (.lst [.int day, .str drv, .ref fl5, .int 1, .int 1, .ref sl5])) b = some o := fun b o nb e => by
          rw [upd_ne nb]
          exact sq1 _ _ e
        have fl_w := wy_fl hw5 fk5.1
        have sl_w := wy_sl hw5 hsl5
        have hz_w : ∀ z ∈ fs, z.1 ≠ wp := fun z hz q => by have := fk5.2 z hz; rw [q, hw5] at this; cases this
        have hw7 : (upd (upd H5 q1 (.lst [.int 1, .int 1])) wp (.lst [.int day, .str drv, .ref fl5, .int 1, .int 1, .ref sl5])) wp = some (.lst [.int day, .str drv, .ref fl5, .int 1, .int 1, .ref sl5]) := upd_same
        have fk7 : Fk (upd (upd H5 q1 (.lst [.int 1, .int 1])) wp (.lst [.int day, .str drv, .ref fl5, .int 1, .int 1, .ref sl5])) fl5 fs := ⟨k57 _ _ fl_w fk5.1, fun z hz => k57 _ _ (hz_w z hz) (fk5.2 z hz)⟩
        have hsl7 := k57 _ _ sl_w hsl5
        have k37 : Kp p H3 (upd (upd H5 q1 (.lst [.int 1, .int 1])) wp (.lst [.int day, .str drv, .ref fl5, .int 1, .int 1, .ref sl5])) := Kp.new (((k4.trans k5)).trans (Kp.same sq1)) fwp
        have offw7' := offw6.put (o := .lst [.int day, .str drv, .ref fl5, .int 1, .int 1, .ref sl5]) (Off.ne offw6).symm
        refine ⟨_, rfl, wp, _, _, _, rfl, rfl, SqL.of hw7, rfl, fl5, rfl, ⟨_, SqL.of fk7.1⟩, fun Dn hDn => lc_list (K := K) (xs := fs.map fun z => V.ref z.1) (fun i H' => ∃ hs : List (Addr × Rd), H' Dn = some (.lst (hs.map fun z => V.ref z.1)) ∧ (∀ z ∈ hs, H' z.1 = some (.tup (rdV z.2))) ∧ hs.map (·.2) = (fs.take i).map (fun z => (z.2.1, (0 : Int), (1 : Int))) ∧ Same (upd (upd H5 q1 (.lst [.int 1, .int 1])) wp (.lst [.int day, .str drv, .ref fl5, .int 1, .int 1, .ref sl5])) H') ⟨[], upd_same, (fun z hz => nomatch hz), rfl, same_new hDn⟩ (fun _ H' _ z => by
            obtain ⟨_, _, _, _, k⟩ := z
            exact SqL.of (k _ _ fk7.1)) ?_ ?_⟩
        · rintro i x H8 hx ⟨hs, hd, hh, ehs, sm⟩
          have hi' : i < fs.length := by
            have := (List.getElem?_eq_some_iff.mp hx).1
            simpa using this
          rw [List.getElem?_map] at hx
          obtain ⟨y, hy, rfl⟩ := Option.map_eq_some_iff.mp hx
          have hm := List.mem_of_getElem? hy
          have et : fs.take (i + 1) = fs.take i ++ [y] := by rw [List.take_succ, hy]; rfl
          have hl' : hs.length = i := by
            have := congrArg List.length ehs
            rw [List.length_map, List.length_map, List.length_take] at this
            omega
          have flen := ok.rd.len
          refine ⟨rfl, ?_⟩
          refine ⟨_, rfl, y.1, _, _, _, rfl, rfl, SqT.of (sm _ _ (fk7.2 y hm)), rfl, by show 3 ≤ sizeLine; decide, fun t ft => ?_⟩
          have st := same_new (o := .tup [.str y.2.1, .int 0, .int 1]) ft
          have hdt := st _ _ hd
          have nt : t ≠ Dn := fun q => by rw [q, hd] at ft; cases ft
          refine ⟨_, hdt, ?_, hs ++ [(t, y.2.1, 0, 1)], ?_, ?_, ?_, ?_⟩
          · rw [List.length_map, hl']
            exact Nat.lt_of_lt_of_le (by omega : i < 64) (by decide)
          · rw [upd_same, List.map_append]
            rfl
          · intro z hz
            rcases List.mem_append.mp hz with hz | hz
            · have q := st _ _ (hh z hz)
              rw [upd_ne (fun e => by rw [e, hdt] at q; cases q)]
              exact q
            · rw [List.mem_singleton] at hz
              subst hz
              rw [upd_ne nt, upd_same]
              rfl
          · rw [et, List.map_append, List.map_append, ehs]
            rfl
          · intro a o e
            rw [upd_ne (ne_of_none e hDn)]
            exact st _ _ (sm a o e)
        rintro H8 ⟨hs, hd, hh, ehs, sm⟩
        rw [List.length_map, List.take_length] at ehs
        have hw8 := sm _ _ hw7
        obtain ⟨okr, ens⟩ := rd_one ok.rd ehs
        have D_w := wy_fl hw8 hd
        have sl_w8 := wy_sl hw8 (sm _ _ hsl7)
        have offw8 := offw7'.kp (Kp.same sm)
        refine ⟨_, rfl, wp, _, _, _, rfl, rfl, hw8, rfl, ?_⟩
        refine ⟨hs, 1, 1, rfl, ⟨Dn, sl5, upd_same, ⟨by rw [upd_ne D_w]; exact hd, fun z hz => ?_⟩, by rw [upd_ne sl_w8]; exact sm _ _ hsl7, k37.free pen7 hDn, ns5⟩, ⟨ok.d0, ok.d1, ok.dn, by decide, by decide, by decide, by decide, okr, ok.ltn, fun y hy => by rw [ens]; exact ok.lts y hy⟩, offw8.put (Off.ne offw8).symm, ((pen7.same sm).put offw8).weak (by omega), Kp.new (k37.trans (Kp.same sm)) fwp⟩
        rw [upd_ne (fun q => by have := hh z hz; rw [q, hw8] at this; cases this)]
        exact hh z hz
      clear ok hw4 fk4 hsl4 offw4 pen4 k4 nf3 ns3
      rintro σ' H4 ⟨fs, legs, worth, rfl, wy4, ok, offw4, pen4, k4⟩
      -- nobody late
      refine ⟨fun σ' H' => ∃ (lt : List Str), σ' = [some (.ref a), some (.ref p), some (.ref hl), some (.ref ul), some (.int (0 + i)), some (.ref wp), v6, v7, v8] ∧ WyF H3 H' wp day drv fs legs worth lt ∧ WayOk day drv fs legs worth lt ∧ Pen H' p (800000000 - 300 * i - 220) ∧ Kp p H3 H', ?_, ?_⟩
      · refine ⟨_, rfl, p, 800000000 - 300 * i - 211, 4, rfl, pen4.weak (by omega), by decide, by decide, fun r1 H5 a1 b1 pen5 k5 => ?_⟩
        obtain ⟨fl5, sl5, hw4, fk4, hsl4, nf5, ns5⟩ := wy4
        have offw5 := offw4.kp k5
        have hw5 := k5.1 _ _ hw4 (Off.ne offw4)
        have fk5 := fk4.kp pen4 k5
        have hsl5 := k5.1 _ _ hsl4 (pen4.ne hsl4 (no_strs lt))
        refine ⟨rfl, _, rfl, ?_⟩
        refine ite2 (fun q => ?_) (fun q => ⟨lt, rfl, ⟨fl5, sl5, hw5, fk5, hsl5, nf5, ns5⟩, ok, pen5.weak (by omega), k4.trans k5⟩)
        refine ⟨by show 0 ≤ sizeLine; decide, fun q1 fq1 => ?_⟩
        have sq1 := same_new (o := .lst []) fq1
        have hw6 := sq1 _ _ hw5
        have offw6 := offw5.kp (Kp.same sq1)
        have fl_w := wy_fl hw5 fk5.1
        refine ⟨_, rfl, wp, _, _, _, rfl, rfl, hw6, rfl, ?_⟩
        refine ⟨[], rfl, ⟨fl5, q1, upd_same, ⟨by rw [upd_ne fl_w]; exact sq1 _ _ fk5.1, fun z hz => ?_⟩, by rw [upd_ne (ne_of_none hw5 fq1).symm]; exact upd_same, nf5, (k4.trans k5).free pen5 fq1⟩, ok.none, ((pen5.same sq1).put offw6).weak (by omega), Kp.new ((k4.trans k5).trans (Kp.same sq1)) fwp⟩
        have hz5 := fk5.2 z hz
        rw [upd_ne (fun q => by rw [q, hw5] at hz5; cases hz5)]
        exact sq1 _ _ hz5
      clear ok wy4 offw4 pen4 k4
      rintro σ' H5 ⟨lt, rfl, wy5, ok, pen5, k5⟩
      have en5 : EnA hl ul H5 L := en3.mv fun b o e n => k5.1 _ _ e (pen3.ne e n)
      have offh5 := offh3.kp k5
      have offu5 := offu3.kp k5
      have nhw : hl ≠ wp := ne_of_none en3.1 fwp
      have nuw : ul ≠ wp := ne_of_none en3.2.1 fwp
      -- each ride
      obtain ⟨fl, sl, hw5, fk5, hsl5, nf3, ns3⟩ := wy5
      refine ⟨_, rfl, wp, day, drv, fs, legs, worth, lt, rfl, ⟨fl, sl, hw5, fk5, hsl5⟩, ok, fun o rs H6 ra rlen => ?_⟩
      obtain ⟨s56, fo, ho, res⟩ := ra
      have hw6 := s56 _ _ hw5
      have fk6 := fk5.same s56
      have hsl6 := s56 _ _ hsl5
      have en6 := en5.same s56
      have nho : hl ≠ o := ne_of_none en5.1 fo
      have nuo : ul ≠ o := ne_of_none en5.2.1 fo
      have nhf : hl ≠ fl := ne_of_none en3.1 nf3
      have nuf : ul ≠ fl := ne_of_none en3.2.1 nf3
      have nhs : hl ≠ sl := ne_of_none en3.1 ns3
      have nus : ul ≠ sl := ne_of_none en3.2.1 ns3
      have flen := ok.rd.len
      have l12 := ok.l12
      have nl : (nms fs).length = fs.length := by unfold nms; rw [List.length_map]
      refine ⟨o, rfl, ⟨_, SqL.of ho⟩, for_list (K := K) (xs := rs.map V.ref) (fun j σ H' => ∃ (v6 v7 v8 : Option V) (L : List (Addr × Addr)), σ = [some (.ref a), some (.ref p), some (.ref hl), some (.ref ul), some (.int (0 + i)), some (.ref wp), v6, v7, v8] ∧ EnA hl ul H' L ∧ L.length ≤ 8 * i + j ∧ Off p hl H' ∧ Off p ul H' ∧ Pen H' p (800000000 - 300 * i - 220) ∧ (∀ b u, b ≠ hl → b ≠ ul → H6 b = some u → H' b = some u))
        ⟨_, _, _, L, rfl, en6, by omega, offh5.kp (Kp.same s56), offu5.kp (Kp.same s56), pen5.same s56, fun _ _ _ _ e => e⟩ (fun j σ H' _ z => by
          obtain ⟨_, _, _, _, _, _, _, _, _, _, k⟩ := z
          exact SqL.of (k _ _ nho.symm nuo.symm ho)) ?_ ?_⟩
      · rintro j v σ H7 hj ⟨v6, v7, v8, L, rfl, en7, ll7, offh7, offu7, pen7, k7⟩
        have jl : j < rs.length := by
          have := (List.getElem?_eq_some_iff.mp hj).1
          simpa using this
        rw [List.getElem?_map] at hj
        obtain ⟨r, hr', rfl⟩ := Option.map_eq_some_iff.mp hj
        obtain ⟨dx, st, lc, gs, ls, hrp6, fkg6, hlc6, _, _, pm, pl, fst, flc⟩ := res r (List.mem_of_getElem? hr')
        have ntl : ∀ {b : Addr} {vs : List V}, H6 b = some (.tup vs) → H7 b = some (.tup vs) := fun e => k7 _ _ (fun q => by rw [q, en6.1] at e; cases e) (fun q => by rw [q, en6.2.1] at e; cases e) e
        have hrp7 := k7 _ _ (fun q => by rw [q, en6.1] at hrp6; cases hrp6) (fun q => by rw [q, en6.2.1] at hrp6; cases hrp6) hrp6
        have fkg7 : Fk H7 st gs := ⟨k7 _ _ (ne_of_none en5.1 fst).symm (ne_of_none en5.2.1 fst).symm fkg6.1, fun z hz => ntl (fkg6.2 z hz)⟩
        have hlc7 := k7 _ _ (ne_of_none en5.1 flc).symm (ne_of_none en5.2.1 flc).symm hlc6
        have rid7 : Rid CR H7 r day drv gs legs worth ls := ⟨dx, st, lc, hrp7, fkg7, hlc7⟩
        have hw7 := k7 _ _ nhw.symm nuw.symm hw6
        have fk7 : Fk H7 fl fs := ⟨k7 _ _ nhf.symm nuf.symm fk6.1, fun z hz => ntl (fk6.2 z hz)⟩
        have hsl7 := k7 _ _ nhs.symm nus.symm hsl6
        have okg : RdOk drv legs gs := ok.rd.perm pm.perm
        have lt20 : L.length < sizeLine := Nat.lt_of_lt_of_le (by omega : L.length < 64) (by decide)
        -- told
        refine ⟨_, rfl, .inl ⟨rfl, _, SqL.of en7.1⟩, ?_⟩
        refine ⟨_, rfl, r, dx, _, rfl, hrp7, r_riders, r, day, drv, gs, legs, worth, ls, rfl, rid7, fun qa H8 s8 fa ha => ?_⟩
        refine ⟨_, rfl, r, dx, _, rfl, s8 _ _ hrp7, r_late, r, day, drv, gs, legs, worth, ls, rfl, rid7.same s8, fun qb H9 s9 fb hb => ?_⟩
        refine ⟨_, rfl, r, dx, _, rfl, s9 _ _ (s8 _ _ hrp7), r_folk, r, day, drv, gs, legs, worth, ls, rfl, (rid7.same s8).same s9, okg.len, fun qc yc Ha sa fc hc pe1 pe2 => ⟨by show 3 ≤ sizeLine; decide, fun t ft => ?_⟩⟩
        have st' := same_new (o := .lst [.ref qa, .ref qb, .ref qc]) ft
        have s7b := ((s8.trans s9).trans sa).trans st'
        have f7a : H7 qa = none := fa
        have f7b : H7 qb = none := s8.free fb
        have f7c : H7 qc = none := s8.free (s9.free fc)
        have f7t : H7 t = none := s8.free (s9.free (sa.free ft))
        have hta := st' _ _ (sa _ _ (s9 _ _ ha))
        have htb := st' _ _ (sa _ _ hb)
        have htc := st' _ _ hc
        have htt : (upd Ha t (.lst [.ref qa, .ref qb, .ref qc])) t = some (.lst [.ref qa, .ref qb, .ref qc]) := upd_same
        generalize upd Ha t (.lst [.ref qa, .ref qb, .ref qc]) = Hb at s7b hta htb htc htt
        clear s8 s9 sa st' ha hb hc
        refine ⟨hl, _, _, rfl, rfl, s7b _ _ en7.1, by rw [List.length_map]; exact lt20, ?_⟩
        have nh : ∀ {b : Addr}, H7 b = none → b ≠ hl := fun e => (ne_of_none en7.1 e).symm
        have nu : ∀ {b : Addr}, H7 b = none → b ≠ ul := fun e => (ne_of_none en7.2.1 e).symm
        have k7c : ∀ b u, b ≠ hl → H7 b = some u → (upd Hb hl (.lst (L.map (fun e => V.ref e.1) ++ [.ref t]))) b = some u := fun b u nb e => by
          rw [upd_ne nb]
          exact s7b _ _ e
        have hta1 : (upd Hb hl (.lst (L.map (fun e => V.ref e.1) ++ [.ref t]))) qa = some (.lst (gs.map fun z => V.ref z.1)) := by rw [upd_ne (nh f7a)]; exact hta
        have htb1 : (upd Hb hl (.lst (L.map (fun e => V.ref e.1) ++ [.ref t]))) qb = some (.lst (ls.map V.str)) := by rw [upd_ne (nh f7b)]; exact htb
        have htc1 : (upd Hb hl (.lst (L.map (fun e => V.ref e.1) ++ [.ref t]))) qc = some (.lst (yc.map V.str)) := by rw [upd_ne (nh f7c)]; exact htc
        have htt1 : (upd Hb hl (.lst (L.map (fun e => V.ref e.1) ++ [.ref t]))) t = some (.lst [.ref qa, .ref qb, .ref qc]) := by rw [upd_ne (nh f7t)]; exact htt
        have hhl1 : (upd Hb hl (.lst (L.map (fun e => V.ref e.1) ++ [.ref t]))) hl = some (.lst (L.map (fun e => V.ref e.1) ++ [.ref t])) := upd_same
        have hul1 := k7c _ _ nhu.symm en7.2.1
        have penc := (pen7.same s7b).put (o := .lst (L.map (fun e => V.ref e.1) ++ [.ref t])) (offh7.kp (Kp.same s7b))
        have offhc := (offh7.kp (Kp.same s7b)).put (o := .lst (L.map (fun e => V.ref e.1) ++ [.ref t])) (Off.ne offh7).symm
        have offuc := (offu7.kp (Kp.same s7b)).put (o := .lst (L.map (fun e => V.ref e.1) ++ [.ref t])) (Off.ne offh7).symm
        generalize upd Hb hl (.lst (L.map (fun e => V.ref e.1) ++ [.ref t])) = Hc at k7c hta1 htb1 htc1 htt1 hhl1 hul1 penc offhc offuc
        have tupc : ∀ {b : Addr} {vs : List V}, H7 b = some (.tup vs) → Hc b = some (.tup vs) := fun e => k7c _ _ (fun q => by rw [q, en7.1] at e; cases e) e
        have hwc := k7c _ _ nhw.symm hw7
        have fkc : Fk Hc fl fs := ⟨k7c _ _ nhf.symm fk7.1, fun z hz => tupc (fk7.2 z hz)⟩
        have hslc := k7c _ _ nhs.symm hsl7
        -- due
        refine ⟨_, rfl, .inl ⟨rfl, _, SqL.of hul1⟩, ?_⟩
        refine ⟨_, rfl, wp, _, _, _, rfl, rfl, SqL.of hwc, rfl, fl, _, _, rfl, .inl (SqL.of fkc.1), dp_riders fkc.2, ?_, ?_, ?_, fun q1 fq1 => ?_⟩
        · intro x hx y hy
          obtain ⟨z, _, rfl⟩ := List.mem_map.mp hx
          obtain ⟨z', _, rfl⟩ := List.mem_map.mp hy
          unfold rdD
          simp [PySem.W.alike, PySem.W.alikeAll]
        · refine .inl fun x hx => ?_
          obtain ⟨z, _, rfl⟩ := List.mem_map.mp hx
          exact ⟨_, _, rfl⟩
        · intro x hx
          obtain ⟨z, _, rfl⟩ := List.mem_map.mp hx
          unfold rdD
          simp [PyData.depth, PyData.depthAll]
        rw [srtR_eq, ← pm]
        have sq1 := same_new (o := .lst (gs.map fun z => V.ref z.1)) fq1
        have h1 : (upd Hc q1 (.lst (gs.map fun z => V.ref z.1))) q1 = some (.lst (gs.map fun z => V.ref z.1)) := upd_same
        have c1 : Hc q1 = none := fq1
        generalize upd Hc q1 (.lst (gs.map fun z => V.ref z.1)) = Hd at h1 sq1
        refine ⟨_, rfl, wp, _, _, _, rfl, rfl, SqL.of (sq1 _ _ hwc), rfl, sl, lt, rfl, .inl (SqL.of (sq1 _ _ hslc)), fun ls2 q2 pl1 pl2 fq2 => ?_⟩
        have els : ls2 = ls := sorted_eq ⟨pl1, pl2⟩ pl
        subst els
        have sq2 := same_new (o := .lst (ls2.map V.str)) fq2
        have h2 : (upd Hd q2 (.lst (ls2.map V.str))) q2 = some (.lst (ls2.map V.str)) := upd_same
        have c2 : Hc q2 = none := sq1.free fq2
        have h1' := sq2 _ _ h1
        have scd := sq1.trans sq2
        generalize upd Hd q2 (.lst (ls2.map V.str)) = He at h2 h1' scd
        refine ⟨_, rfl, wp, _, _, _, rfl, rfl, SqL.of (scd _ _ hwc), rfl, by show 1 ≤ sizeLine; decide, fun d1 fd1 => ?_⟩
        have sd1 := same_new (o := .lst [.str drv]) fd1
        have hd1 : (upd He d1 (.lst [.str drv])) d1 = some (.lst [.str drv]) := upd_same
        have sce := scd.trans sd1
        have h1'' := sd1 _ _ h1'
        have h2' := sd1 _ _ h2
        generalize upd He d1 (.lst [.str drv]) = Hf at hd1 sce h1'' h2'
        have fkf := fkc.same sce
        refine ⟨_, rfl, wp, _, _, _, rfl, rfl, SqL.of (sce _ _ hwc), rfl, fl, rfl, ⟨_, SqL.of fkf.1⟩, fun D2 hD2 => lc_list (K := K) (xs := fs.map fun z => V.ref z.1) (fun i H6 => H6 D2 = some (.lst ((nms (fs.take i)).map V.str)) ∧ Same Hf H6) ⟨upd_same, same_new hD2⟩ (fun _ H6 _ z => SqL.of (z.2 _ _ fkf.1)) ?_ ?_⟩
        · rintro i x Hg hx ⟨hd, sm⟩
          have hi' : i < fs.length := by
            have := (List.getElem?_eq_some_iff.mp hx).1
            simpa using this
          rw [List.getElem?_map] at hx
          obtain ⟨y, hy, rfl⟩ := Option.map_eq_some_iff.mp hx
          have hm := List.mem_of_getElem? hy
          have et : fs.take (i + 1) = fs.take i ++ [y] := by rw [List.take_succ, hy]; rfl
          refine ⟨rfl, ?_⟩
          refine ⟨_, rfl, y.1, _, _, _, rfl, rfl, SqT.of (sm _ _ (fkf.2 y hm)), rfl, ?_⟩
          refine ⟨_, hd, ?_, ?_, ?_⟩
          · unfold nms
            rw [List.length_map, List.length_map, List.length_take]
            exact Nat.lt_of_lt_of_le (by omega : min i fs.length < 64) (by decide)
          · rw [upd_same, et]
            unfold nms
            rw [List.map_append, List.map_append]
            rfl
          · intro a o e
            rw [upd_ne (ne_of_none e hD2)]
            exact sm a o e
        rintro Hg ⟨hd2, sm2⟩
        rw [List.length_map, List.take_length] at hd2
        refine ⟨d1, D2, _, _, rfl, rfl, sm2 _ _ hd1, hd2, ?_, fun pp fp => ?_⟩
        · rw [List.length_map, nl]
          exact Nat.le_trans (by show 1 + fs.length ≤ 64; omega) (by decide)
        have e : [V.str drv] ++ (nms fs).map V.str = (drv :: nms fs).map V.str := rfl
        rw [e]
        have sp := same_new (o := .lst ((drv :: nms fs).map V.str)) fp
        refine ⟨pp, drv :: nms fs, rfl, .inl (SqL.of upd_same), fun ys q3 py1 py2 fq3 => ⟨by show 3 ≤ sizeLine; decide, fun ud fud => ?_⟩⟩
        have eye : yc = ys := sorted_eq ⟨pe1.trans (List.Perm.cons _ (pm.perm.map _)), pe2⟩ ⟨py1, py2⟩
        subst eye
        have sq3 := same_new (o := .lst (yc.map V.str)) fq3
        have su := same_new (o := .lst [.ref q1, .ref q2, .ref q3]) fud
        have sgu := (sp.trans sq3).trans su
        have hu1 := sgu _ _ (sm2 _ _ h1'')
        have hu2 := sgu _ _ (sm2 _ _ h2')
        have hu3 := su _ _ (upd_same : (upd (upd Hg pp (.lst ((drv :: nms fs).map V.str))) q3 (.lst (yc.map V.str))) q3 = _)
        have huu : (upd (upd (upd Hg pp (.lst ((drv :: nms fs).map V.str))) q3 (.lst (yc.map V.str))) ud (.lst [.ref q1, .ref q2, .ref q3])) ud = some (.lst [.ref q1, .ref q2, .ref q3]) := upd_same
        have c3 : Hc q3 = none := sce.free (sm2.free (sp.free fq3))
        have c4 : Hc ud = none := sce.free (sm2.free (sp.free (sq3.free fud)))
        have sch := (sce.trans sm2).trans sgu
        generalize upd (upd (upd Hg pp (.lst ((drv :: nms fs).map V.str))) q3 (.lst (yc.map V.str))) ud (.lst [.ref q1, .ref q2, .ref q3]) = Hh at hu1 hu2 hu3 huu sch
        clear sq1 sq2 sd1 hd1 scd sce h1 h1' h1'' h2 h2' sm2 hd2 sp sq3 su sgu fkf
        refine ⟨ul, _, _, rfl, rfl, sch _ _ hul1, by rw [List.length_map]; exact lt20, ?_⟩
        -- both
        have nh' : ∀ {b : Addr}, Hc b = none → b ≠ hl := fun e => (ne_of_none hhl1 e).symm
        have nu' : ∀ {b : Addr}, Hc b = none → b ≠ ul := fun e => (ne_of_none hul1 e).symm
        have kch : ∀ b u, b ≠ ul → Hc b = some u → (upd Hh ul (.lst (L.map (fun e => V.ref e.2) ++ [.ref ud]))) b = some u := fun b u nb e => by
          rw [upd_ne nb]
          exact sch _ _ e
        have tuph : ∀ {b : Addr} {vs : List V}, Hc b = some (.tup vs) → (upd Hh ul (.lst (L.map (fun e => V.ref e.2) ++ [.ref ud]))) b = some (.tup vs) := fun e => kch _ _ (fun q => by rw [q, hul1] at e; cases e) e
        have ynm : ∀ x ∈ yc, ∃ l, x = S l ∧ NM.ok l := fun x hx => by
          rcases List.mem_cons.mp (py1.mem_iff.mp hx) with e | e
          · rw [e]; exact ok.dn
          · obtain ⟨z, hz, ez⟩ := List.mem_map.mp e
            rw [← ez]; exact ok.rd.nm z hz
        have lnm : ∀ x ∈ ls2, ∃ l, x = S l ∧ NM.ok l := fun x hx => by
          obtain ⟨z, hz, ez⟩ := List.mem_map.mp (ok.lts x (pl.1.mem_iff.mp hx))
          rw [← ez]; exact ok.rd.nm z hz
        have sm := sm_tD (gs := gs) (ls := ls2) (ys := yc) okg l12 lnm ynm (by rw [pl.1.length_eq]; exact Nat.le_trans (lt_len ok.ltn ok.lts) flen) (by rw [py1.length_eq, List.length_cons, nl]; omega)
        have ent : Ent hl ul (upd Hh ul (.lst (L.map (fun e => V.ref e.2) ++ [.ref ud]))) t ud gs ls2 yc := by
          refine ⟨qa, qb, qc, q1, q2, q3, kch _ _ (nu f7t) htt1, ?_, kch _ _ (nu f7a) hta1, ?_, fun z hz => tuph (tupc (fkg7.2 z hz)), kch _ _ (nu f7b) htb1, ?_, kch _ _ (nu f7c) htc1, ?_, ?_⟩
          · rw [upd_ne (nu' c4)]; exact huu
          · rw [upd_ne (nu' c1)]; exact hu1
          · rw [upd_ne (nu' c2)]; exact hu2
          · rw [upd_ne (nu' c3)]; exact hu3
          · intro x hx
            simp only [List.mem_cons, List.not_mem_nil, or_false] at hx
            rcases hx with rfl | rfl | rfl | rfl | rfl | rfl | rfl | rfl
            · exact ⟨nh f7t, nu f7t⟩
            · exact ⟨nh' c4, nu' c4⟩
            · exact ⟨nh f7a, nu f7a⟩
            · exact ⟨nh f7b, nu f7b⟩
            · exact ⟨nh f7c, nu f7c⟩
            · exact ⟨nh' c1, nu' c1⟩
            · exact ⟨nh' c2, nu' c2⟩
            · exact ⟨nh' c3, nu' c3⟩
        have enI : EnA hl ul (upd Hh ul (.lst (L.map (fun e => V.ref e.2) ++ [.ref ud]))) (L ++ [(t, ud)]) := by
          refine ⟨?_, ?_, fun x hx => ?_⟩
          · rw [List.map_append]
            exact kch _ _ nhu hhl1
          · rw [upd_same, List.map_append]
            rfl
          · rcases List.mem_append.mp hx with hx | hx
            · obtain ⟨gs', ls', ys', en', sm'⟩ := en7.2.2 x hx
              refine ⟨gs', ls', ys', en'.mv (fun b vs q => tuph (tupc q)) (fun b u q n1 n2 _ => kch _ _ n2 (k7c _ _ n1 q)), sm'⟩
            · rw [List.mem_singleton] at hx
              rw [hx]
              exact ⟨gs, ls2, yc, ent, sm⟩
        have penI := (penc.same sch).put (o := .lst (L.map (fun e => V.ref e.2) ++ [.ref ud])) (offuc.kp (Kp.same sch))
        have offhI := (offhc.kp (Kp.same sch)).put (o := .lst (L.map (fun e => V.ref e.2) ++ [.ref ud])) (Off.ne offu7).symm
        have offuI := (offuc.kp (Kp.same sch)).put (o := .lst (L.map (fun e => V.ref e.2) ++ [.ref ud])) (Off.ne offu7).symm
        have k7I : ∀ b u, b ≠ hl → b ≠ ul → H7 b = some u → (upd Hh ul (.lst (L.map (fun e => V.ref e.2) ++ [.ref ud]))) b = some u := fun b u n1 n2 e => kch _ _ n2 (k7c _ _ n1 e)
        generalize upd Hh ul (.lst (L.map (fun e => V.ref e.2) ++ [.ref ud])) = HI at enI penI offhI offuI k7I kch tuph ent
        have ridI : Rid CR HI r day drv gs legs worth ls2 := by
          refine ⟨dx, st, lc, ?_, ⟨?_, fun z hz => tuph (tupc (fkg7.2 z hz))⟩, ?_⟩
          · exact k7I _ _ (fun q => by rw [q, en7.1] at hrp7; cases hrp7) (fun q => by rw [q, en7.2.1] at hrp7; cases hrp7) hrp7
          · exact k7I _ _ (ne_of_none en5.1 fst).symm (ne_of_none en5.2.1 fst).symm fkg7.1
          · exact k7I _ _ (ne_of_none en5.1 flc).symm (ne_of_none en5.2.1 flc).symm hlc7
        have wyI : Wy HI wp day drv fs legs worth lt := ⟨fl, sl, k7I _ _ nhw.symm nuw.symm hw7, ⟨k7I _ _ nhf.symm nuf.symm fk7.1, fun z hz => tuph (tupc (fk7.2 z hz))⟩, k7I _ _ nhs.symm nus.symm hsl7⟩
        refine ⟨_, rfl, _, rfl, r, wp, day, drv, gs, fs, legs, worth, lt, ls2, rfl, ridI, wyI, ok, pm, pl, fun HJ sJ => ⟨true, rfl, iteF ?_⟩⟩
        exact ⟨_, _, _, L ++ [(t, ud)], rfl, enI.same sJ, by rw [List.length_append]; show L.length + 1 ≤ 8 * i + (j + 1); omega, offhI.kp (Kp.same sJ), offuI.kp (Kp.same sJ), penI.same sJ, fun b u n1 n2 e => sJ _ _ (k7I _ _ n1 n2 (k7 b u n1 n2 e))⟩
      rintro σ H7 ⟨v6, v7, v8, L, rfl, en7, ll7, offh7, offu7, pen7, k7⟩
      rw [List.length_map] at ll7
      have ntl : ∀ {b : Addr} {vs : List V}, H6 b = some (.tup vs) → H7 b = some (.tup vs) := fun e => k7 _ _ (fun q => by rw [q, en6.1] at e; cases e) (fun q => by rw [q, en6.2.1] at e; cases e) e
      have hw7 := k7 _ _ nhw.symm nuw.symm hw6
      have fk7 : Fk H7 fl fs := ⟨k7 _ _ nhf.symm nuf.symm fk6.1, fun z hz => ntl (fk6.2 z hz)⟩
      have hsl7 := k7 _ _ nhs.symm nus.symm hsl6
      -- lists handed in
      refine ⟨_, rfl, wp, _, _, _, rfl, rfl, SqL.of hw7, rfl, fl, _, rfl, .inl (SqL.of fk7.1), fun q1 fq1 => ?_⟩
      have sq1 := same_new (o := .lst (fs.map fun z => V.ref z.1)) fq1
      have h1 : (upd H7 q1 (.lst (fs.map fun z => V.ref z.1))) q1 = some (.lst (fs.map fun z => V.ref z.1)) := upd_same
      have n1 : H7 q1 = none := fq1
      generalize upd H7 q1 (.lst (fs.map fun z => V.ref z.1)) = H8 at sq1 h1
      refine ⟨_, rfl, wp, _, _, _, rfl, rfl, SqL.of (sq1 _ _ hw7), rfl, sl, _, rfl, .inl (SqL.of (sq1 _ _ hsl7)), fun q2 fq2 => ⟨by show 2 ≤ sizeLine; decide, fun hd fhd => ?_⟩⟩
      have sq2 := same_new (o := .lst (lt.map V.str)) fq2
      have sq3 := same_new (o := .lst [.ref q1, .ref q2]) fhd
      have h2 := sq3 _ _ (upd_same : (upd H8 q2 (.lst (lt.map V.str))) q2 = some (.lst (lt.map V.str)))
      have h1' := sq3 _ _ (sq2 _ _ h1)
      have h3 : (upd (upd H8 q2 (.lst (lt.map V.str))) hd (.lst [.ref q1, .ref q2])) hd = some (.lst [.ref q1, .ref q2]) := upd_same
      have n2 : H7 q2 = none := sq1.free fq2
      have n12 : q1 ≠ q2 := ne_of_none h1 fq2
      have n13 : q1 ≠ hd := ne_of_none (sq2 _ _ h1) fhd
      have n23 : q2 ≠ hd := ne_of_none (upd_same : (upd H8 q2 (.lst (lt.map V.str))) q2 = some (.lst (lt.map V.str))) fhd
      have s79 := (sq1.trans sq2).trans sq3
      generalize upd (upd H8 q2 (.lst (lt.map V.str))) hd (.lst [.ref q1, .ref q2]) = H9 at h1' h2 h3 s79
      clear h1 sq1 sq2 sq3
      have hw9 := s79 _ _ hw7
      have fk9 := fk7.same s79
      refine ⟨_, rfl, wp, _, _, _, rfl, rfl, SqL.of hw9, rfl, _, rfl, wp, _, _, _, rfl, rfl, SqL.of hw9, rfl, _, rfl, hd, _, _, _, rfl, rfl, SqL.of h3, rfl, _, rfl, wp, _, _, _, rfl, rfl, SqL.of hw9, rfl, _, rfl, wp, _, _, _, rfl, rfl, SqL.of hw9, rfl, _, rfl, hd, _, _, _, rfl, rfl, SqL.of h3, rfl, ?_⟩
      intro r dr nr ndr ner
      refine mk_rideI nr ndr (.inr ⟨q1, rfl, h1', fk9.2⟩) (.inr ⟨q2, rfl, h2⟩) ok fun gs ls Ha sa pm pl rf => ⟨rfl, ?_⟩
      obtain ⟨dx, st, lc, hra, fkga, hlca, fst, flc⟩ := rf
      have s7a := s79.trans sa
      have hwa := s7a _ _ hw7
      have fka := fk7.same s7a
      have hsla := s7a _ _ hsl7
      -- as they were
      have lok : ∀ x ∈ lt, ∃ l, x = S l ∧ NM.ok l := fun x hx => by
        obtain ⟨z, hz, ez⟩ := List.mem_map.mp (ok.lts x hx)
        rw [← ez]; exact ok.rd.nm z hz
      have smh : Sm 1000 3 (.list [.list (fs.map fun z => rdD z.2), .list (lt.map .str)]) := by
        have b1 := SmA.map (sm_rd ok.rd l12)
        have b2 := sm_strs lok
        have := lt_len ok.ltn ok.lts
        exact Sm.mono (Sm.lst (SmA.cons ((Sm.lst b1).mono (Nat.le_refl _) (Nat.le_refl 2)) (SmA.cons ((Sm.lst b2).mono (Nat.le_refl _) (by decide)) SmA.nil))) (by omega) (Nat.le_refl _)
      refine ⟨_, rfl, _, rfl, wp, _, _, _, rfl, rfl, SqL.of hwa, rfl, _, rfl, wp, _, _, _, rfl, rfl, SqL.of hwa, rfl, by show 2 ≤ sizeLine; decide, fun q4 fq4 => ?_⟩
      have sq4 := same_new (o := .lst [.ref fl, .ref sl]) fq4
      have sa4 := sa.trans sq4
      refine ⟨.list [.list (fs.map fun z => rdD z.2), .list (lt.map .str)], .list [.list (fs.map fun z => rdD z.2), .list (lt.map .str)], Dp.lst (SqL.of (sa4 _ _ h3)) (.cons (Dp.lst (SqL.of (sa4 _ _ h1')) (dp_riders (fka.same sq4).2)) (.cons (Dp.lst (SqL.of (sa4 _ _ h2)) (DQ.dp_strs lt)) .nil)),
        Dp.lst (SqL.of upd_same) (.cons (Dp.lst (SqL.of (sq4 _ _ fka.1)) (dp_riders (fka.same sq4).2)) (.cons (Dp.lst (SqL.of (sq4 _ _ hsla)) (DQ.dp_strs lt)) .nil)), smh.shaped (by decide), smh.shaped (by decide), _, rfl, ?_⟩
      rw [smh.same]
      refine iteF ?_
      have hra4 := sq4 _ _ hra
      have fkg4 := fkga.same sq4
      have hlc4 := sq4 _ _ hlca
      have s74 := s7a.trans sq4
      have h14 := sa4 _ _ h1'
      have h24 := sa4 _ _ h2
      have h34 := sa4 _ _ h3
      have nst : st ≠ q1 ∧ st ≠ q2 := ⟨(ne_of_none h1' fst).symm, (ne_of_none h2 fst).symm⟩
      have nlc : lc ≠ q1 ∧ lc ≠ q2 := ⟨(ne_of_none h1' flc).symm, (ne_of_none h2 flc).symm⟩
      generalize upd Ha q4 (.lst [.ref fl, .ref sl]) = Hb at hra4 fkg4 hlc4 s74 h14 h24 h34
      clear sa4 sq4 sa hra fkga hlca hwa fka hsla s7a hw9 fk9 h1' h2 h3 s79
      -- changed by the asker
      refine ⟨_, rfl, hd, _, _, _, rfl, rfl, SqL.of h34, rfl, .inl ⟨rfl, _, SqL.of h14⟩, by show 3 ≤ sizeLine; decide, fun q5 fq5 => ?_⟩
      have sq5 := same_new (o := .tup [.str "zz", .int 0, .int 1]) fq5
      refine ⟨q1, _, _, rfl, rfl, sq5 _ _ h14, by rw [List.length_map]; exact Nat.lt_of_le_of_lt flen (by decide), ?_⟩
      have h35 : (upd (upd Hb q5 (.tup [.str "zz", .int 0, .int 1])) q1 (.lst (fs.map (fun z => V.ref z.1) ++ [.ref q5]))) hd = some (.lst [.ref q1, .ref q2]) := by
        rw [upd_ne n13.symm]
        exact sq5 _ _ h34
      have h25 : (upd (upd Hb q5 (.tup [.str "zz", .int 0, .int 1])) q1 (.lst (fs.map (fun z => V.ref z.1) ++ [.ref q5]))) q2 = some (.lst (lt.map V.str)) := by
        rw [upd_ne n12.symm]
        exact sq5 _ _ h24
      refine ⟨_, rfl, hd, _, _, _, rfl, rfl, SqL.of h35, rfl, .inl ⟨rfl, _, SqL.of h25⟩, ?_⟩
      refine ⟨q2, _, _, _, rfl, rfl, h25, by rw [List.length_map]; exact Nat.lt_of_le_of_lt (Nat.le_trans (lt_len ok.ltn ok.lts) flen) (by decide), by decide, by decide, ?_⟩
      have kbI : ∀ b u, b ≠ q1 → b ≠ q2 → Hb b = some u → (upd (upd (upd Hb q5 (.tup [.str "zz", .int 0, .int 1])) q1 (.lst (fs.map (fun z => V.ref z.1) ++ [.ref q5]))) q2 (.lst ((lt.map V.str).take (0 : Int).toNat ++ [.str "zz"] ++ (lt.map V.str).drop (0 : Int).toNat))) b = some u := fun b u m1 m2 e => by
        rw [upd_ne m2, upd_ne m1]
        exact sq5 _ _ e
      have sI : Same H7 (upd (upd (upd Hb q5 (.tup [.str "zz", .int 0, .int 1])) q1 (.lst (fs.map (fun z => V.ref z.1) ++ [.ref q5]))) q2 (.lst ((lt.map V.str).take (0 : Int).toNat ++ [.str "zz"] ++ (lt.map V.str).drop (0 : Int).toNat))) := fun b u e => kbI _ _ (ne_of_none e n1) (ne_of_none e n2) (s74 _ _ e)
      have ridI : Rid CR (upd (upd (upd Hb q5 (.tup [.str "zz", .int 0, .int 1])) q1 (.lst (fs.map (fun z => V.ref z.1) ++ [.ref q5]))) q2 (.lst ((lt.map V.str).take (0 : Int).toNat ++ [.str "zz"] ++ (lt.map V.str).drop (0 : Int).toNat))) r day drv gs legs worth ls := by
        refine ⟨dx, st, lc, kbI _ _ (fun q => ?_) (fun q => ?_) hra4, ⟨kbI _ _ nst.1 nst.2 fkg4.1, fun z hz => kbI _ _ (fun q => ?_) (fun q => ?_) (fkg4.2 z hz)⟩, kbI _ _ nlc.1 nlc.2 hlc4⟩
        · rw [q, h14] at hra4; cases hra4
        · rw [q, h24] at hra4; cases hra4
        · have := fkg4.2 z hz; rw [q, h14] at this; cases this
        · have := fkg4.2 z hz; rw [q, h24] at this; cases this
      refine ⟨_, rfl, _, rfl, r, wp, day, drv, gs, fs, legs, worth, lt, ls, rfl, ridI, ⟨fl, sl, sI _ _ hw7, fk7.same sI, sI _ _ hsl7⟩, ok, pm, pl, fun HJ sJ => ⟨true, rfl, iteF ?_⟩⟩
      have s7J := sI.trans sJ
      exact ⟨_, _, _, _, _, L, rfl, en7.same s7J, by omega, offh7.kp (Kp.same s7J), offu7.kp (Kp.same s7J), (pen7.same s7J).weak (by omega)⟩
    · rintro σ H' ⟨v4, v5, v6, v7, v8, L, rfl, en, ll, _, _, _⟩
      obtain ⟨ds, d1, d2, sm⟩ := en.data (K := K)
      have sm1 := Sm.lst sm
      refine ⟨_, rfl, _, rfl, .list ds, .list ds, Dp.lst (SqL.of en.1) d1, Dp.lst (SqL.of en.2.1) d2, sm1.shaped (by decide), sm1.shaped (by decide), ?_⟩
      rw [sm1.same]
      exact hQ H'
end
end K21
set_option Elab.async false
set_option linter.all false
set_option maxRecDepth 100000
set_option maxHeartbeats 0
namespace K21
open PySem PySem.Spec PyProof.Rows L2
open C8 (Cal Mak Met pe_c pe_mk pe_mt pe_mt0)
def fa : List He.Fa := [.glo "is_whole", .glo "is_between", .glo "is_name", .glo "is_day", .glo "is_rider", .glo "are_riders", .glo "are_late", .glo "first_wrong", .glo "_law_pen", .glo "_law_draw", .glo "_law_names", .glo "_law_way", .glo "_law_rides", .glo "_law_right", .glo "law", .free "isinstance", .free "int", .free "bool", .free "str", .free "list", .free "range", .free "len", .free "all", .free "any", .free "max", .free "min", .free "abs", .free "set", .free "dict", .free "sorted", .free "tuple", .free "repr", .glo "Ride", .cls "Ride", .mkr "Ride", .noat "Ride" "day", .noat "Ride" "driver", .noat "Ride" "legs", .noat "Ride" "worth", .noat "Ride" "stretches", .noat "Ride" "latecomers", .meth "Ride" "folk", .meth "Ride" "riders", .meth "Ride" "late", .meth "Ride" "__len__", .int "LAST_DAY" 1000000, .int "LONGEST_NAME" 8, .int "MOST_LEGS" 12, .int "MOST_RIDERS" 11, .int "MOST_WORTH" 1000]
def xk (K : PySem.W.Frag) : Bool := (fun _ => true) K
abbrev R : PySem.W.OpenRow := PySem.W.OpenLaw.row PySem.Challenge.rw_rideturns_k21_rides_made_and_told
abbrev hk : PySem.W.Hook := He.hookX 6 fa fn [] [] xk
def ob (s : PySem.W.SharedT) : He.AlX := He.obsX 6 fa fn [] [] xk (HandSHeadRun.getT s)
theorem ob_eq (s : PySem.W.SharedT) : ob s = hk.obs s.abs := He.obsX_eq (HandSHeadRun.getT_eq s)
abbrev loose : List Str := [("_wall" : Str), ("NoRide" : Str), ("LAST_DAY" : Str), ("LONGEST_NAME" : Str), ("is_whole" : Str), ("is_between" : Str), ("is_name" : Str), ("is_day" : Str), ("MOST_LEGS" : Str), ("MOST_RIDERS" : Str), ("MOST_WORTH" : Str), ("is_rider" : Str), ("are_riders" : Str), ("are_late" : Str), ("first_wrong" : Str), ("Ride" : Str), ("_law_pen" : Str), ("_law_draw" : Str), ("_law_names" : Str), ("_law_way" : Str), ("_law_rides" : Str), ("_law_right" : Str)]
theorem run_ (w : World) : HandSHeadRun.RunEq R (PySem.W.view R.prog [26]) hk ob 3000 loose w := by
  intro os
  kernel_rfl
theorem cal_of {P : Program} {w : World} {K : PySem.W.Frag} {mg : Str → Option Value} {base : Heap} {f : Addr} {fd : FuncData} {ps : List Str} {k : Nat} {x : Str} {sp : Sp} (F : FnOk P w K mg base CX0 k f fd ps sp) (g : mg x = some (.ref f)) (kp : PySem.W.keepIn K (.ref f) = true) (b : Binds K fd ps []) : Cal P w K mg base k x sp [] :=
  ⟨f, fd, ps, [], F, g, kp, b, .nil⟩
theorem met_of {P : Program} {w : World} {K : PySem.W.Frag} {mg : Str → Option Value} {base : Heap} {f C : Addr} {fd : FuncData} {ps : List Str} {k : Nat} {m : Str} {sp : Sp} (c : Cls K C) (h : Meth K C m f) (F : FnOk P w K mg base CX0 k f fd ps sp) (b : Binds K fd ps []) : Met P w K mg base k C m sp [] :=
  ⟨f, fd, ps, [], c, h, F, b, .nil⟩
theorem facts {P : Program} {w : World} {K : PySem.W.Frag} {h h0 : Heap} {mg : Str → Option Value} {f : Addr} (X : K.In h) (G : h.Ns mainGlobals mg) (hfa : mg ("law" : Str) = some (.ref f)) (c : He.SaysX fa fn [] [] xk w h0 K) :
    ∃ fd : FuncData, (∀ (s : Shared) (v : Value), BindsTo s fd ⟨[v], []⟩ [("_law_script", v)]) ∧ ∀ base : Heap, K.In base → base.Ns mainGlobals mg → GL.FnG P w K mg base 8 f fd ["_law_script"] (spLaw K) := by
  have d := c.t.d
  have x := c.more
  have gl : ∀ (i : Nat) (x : Str), fa[i]? = some (.glo x) → mg x = some (.ref (He.ga K x)) := fun i x e => He.glo_ok X G (d.fact i e)
  have fr : ∀ (i : Nat) (x : Str), fa[i]? = some (.free x) → mg x = none := fun i x e => He.free_ok X G (d.fact i e)
  have me : ∀ (i : Nat) (C m : Str), fa[i]? = some (.meth C m) → Meth K (He.ga K C) m (He.ma K (He.ga K C) m) := fun i C m e => He.meth_ok (d.fact i e)
  have gl_is_whole := gl 0 "is_whole" rfl
  have gl_is_between := gl 1 "is_between" rfl
  have gl_is_name := gl 2 "is_name" rfl
  have gl_is_day := gl 3 "is_day" rfl
  have gl_is_rider := gl 4 "is_rider" rfl
  have gl_are_riders := gl 5 "are_riders" rfl
  have gl_are_late := gl 6 "are_late" rfl
  have gl_first_wrong := gl 7 "first_wrong" rfl
  have gl__law_pen := gl 8 "_law_pen" rfl
  have gl__law_draw := gl 9 "_law_draw" rfl
  have gl__law_names := gl 10 "_law_names" rfl
  have gl__law_way := gl 11 "_law_way" rfl
  have gl__law_rides := gl 12 "_law_rides" rfl
  have gl__law_right := gl 13 "_law_right" rfl
  have gl_law := gl 14 "law" rfl
  have fr_isinstance := fr 15 "isinstance" rfl
  have fr_int := fr 16 "int" rfl
  have fr_bool := fr 17 "bool" rfl
  have fr_str := fr 18 "str" rfl
  have fr_list := fr 19 "list" rfl
  have fr_range := fr 20 "range" rfl
  have fr_len := fr 21 "len" rfl
  have fr_all := fr 22 "all" rfl
  have fr_any := fr 23 "any" rfl
  have fr_max := fr 24 "max" rfl
  have fr_min := fr 25 "min" rfl
  have fr_abs := fr 26 "abs" rfl
  have fr_set := fr 27 "set" rfl
  have fr_dict := fr 28 "dict" rfl
  have fr_sorted := fr 29 "sorted" rfl
  have fr_tuple := fr 30 "tuple" rfl
  have fr_repr := fr 31 "repr" rfl
  have gl_Ride := gl 32 "Ride" rfl
  have cls_Ride := He.cls_ok (d.fact 33 (f := .cls "Ride") rfl)
  have mk_Ride := He.mkr_ok (d.fact 34 (f := .mkr "Ride") rfl)
  have no_Ride_day := He.noat_ok (d.fact 35 (f := .noat "Ride" "day") rfl)
  have no_Ride_driver := He.noat_ok (d.fact 36 (f := .noat "Ride" "driver") rfl)
  have no_Ride_legs := He.noat_ok (d.fact 37 (f := .noat "Ride" "legs") rfl)
  have no_Ride_worth := He.noat_ok (d.fact 38 (f := .noat "Ride" "worth") rfl)
  have no_Ride_stretches := He.noat_ok (d.fact 39 (f := .noat "Ride" "stretches") rfl)
  have no_Ride_latecomers := He.noat_ok (d.fact 40 (f := .noat "Ride" "latecomers") rfl)
  have me_Ride_folk := me 41 "Ride" "folk" rfl
  have me_Ride_riders := me 42 "Ride" "riders" rfl
  have me_Ride_late := me 43 "Ride" "late" rfl
  have me_Ride_len := me 44 "Ride" "__len__" rfl
  have val_LAST_DAY := He.int_ok X G (d.fact 45 (f := .int "LAST_DAY" 1000000) rfl)
  have val_LONGEST_NAME := He.int_ok X G (d.fact 46 (f := .int "LONGEST_NAME" 8) rfl)
  have val_MOST_LEGS := He.int_ok X G (d.fact 47 (f := .int "MOST_LEGS" 12) rfl)
  have val_MOST_RIDERS := He.int_ok X G (d.fact 48 (f := .int "MOST_RIDERS" 11) rfl)
  have val_MOST_WORTH := He.int_ok X G (d.fact 49 (f := .int "MOST_WORTH" 1000) rfl)
  obtain ⟨fd_is_whole, D_is_whole⟩ := d.def_ 2 (d := d_is_whole) rfl
  obtain ⟨fd_is_between, D_is_between⟩ := d.def_ 3 (d := d_is_between) rfl
  obtain ⟨fd_is_name, D_is_name⟩ := d.def_ 4 (d := d_is_name) rfl
  obtain ⟨fd_is_day, D_is_day⟩ := d.def_ 5 (d := d_is_day) rfl
  obtain ⟨fd_is_rider, D_is_rider⟩ := d.def_ 6 (d := d_is_rider) rfl
  obtain ⟨fd_are_riders, D_are_riders⟩ := d.def_ 7 (d := d_are_riders) rfl
  obtain ⟨fd_are_late, D_are_late⟩ := d.def_ 8 (d := d_are_late) rfl
  obtain ⟨fd_first_wrong, D_first_wrong⟩ := d.def_ 9 (d := d_first_wrong) rfl
  obtain ⟨fd_Ride_init, D_Ride_init⟩ := d.def_ 10 (d := d_Ride_init) rfl
  obtain ⟨fd_Ride_len, D_Ride_len⟩ := d.def_ 11 (d := d_Ride_len) rfl
  obtain ⟨fd_Ride_riders, D_Ride_riders⟩ := d.def_ 15 (d := d_Ride_riders) rfl
  obtain ⟨fd_Ride_late, D_Ride_late⟩ := d.def_ 16 (d := d_Ride_late) rfl
  obtain ⟨fd_Ride_folk, D_Ride_folk⟩ := d.def_ 17 (d := d_Ride_folk) rfl
  obtain ⟨fd_l_pen, D_l_pen⟩ := d.def_ 20 (d := d_l_pen) rfl
  obtain ⟨fd_l_draw, D_l_draw⟩ := d.def_ 21 (d := d_l_draw) rfl
  obtain ⟨fd_l_names, D_l_names⟩ := d.def_ 22 (d := d_l_names) rfl
  obtain ⟨fd_l_way, D_l_way⟩ := d.def_ 23 (d := d_l_way) rfl
  obtain ⟨fd_l_rides, D_l_rides⟩ := d.def_ 24 (d := d_l_rides) rfl
  obtain ⟨fd_l_right, D_l_right⟩ := d.def_ 25 (d := d_l_right) rfl
  obtain ⟨fd_law, D_law⟩ := d.def_ 26 (d := d_law) rfl
  have e := hfa.symm.trans gl_law
  cases e
  have bL := FunD.bindsA (ps := ["_law_script"]) D_law fun _ _ _ _ _ _ us hl => match us, hl with | [_], _ => rfl
  refine ⟨fd_law, fun s v => bL s [v] rfl, fun base _ _ => ?_⟩
  have b_is_whole : Binds K fd_is_whole ["thing"] [] := D_is_whole.bindsN fun _ _ _ _ _ _ us hl => match us, hl with | [_], _ => rfl
  have b_is_between : Binds K fd_is_between ["thing", "low", "high"] [] := D_is_between.bindsN fun _ _ _ _ _ _ us hl => match us, hl with | [_, _, _], _ => rfl
  have b_is_name : Binds K fd_is_name ["thing"] [] := D_is_name.bindsN fun _ _ _ _ _ _ us hl => match us, hl with | [_], _ => rfl
  have b_is_day : Binds K fd_is_day ["thing"] [] := D_is_day.bindsN fun _ _ _ _ _ _ us hl => match us, hl with | [_], _ => rfl
  have b_is_rider : Binds K fd_is_rider ["thing", "legs"] [] := D_is_rider.bindsN fun _ _ _ _ _ _ us hl => match us, hl with | [_, _], _ => rfl
  have b_are_riders : Binds K fd_are_riders ["thing", "driver", "legs"] [] := D_are_riders.bindsN fun _ _ _ _ _ _ us hl => match us, hl with | [_, _, _], _ => rfl
  have b_are_late : Binds K fd_are_late ["thing", "riders"] [] := D_are_late.bindsN fun _ _ _ _ _ _ us hl => match us, hl with | [_, _], _ => rfl
  have b_first_wrong : Binds K fd_first_wrong ["day", "driver", "riders", "legs", "worth", "late"] [] := D_first_wrong.bindsN fun _ _ _ _ _ _ us hl => match us, hl with | [_, _, _, _, _, _], _ => rfl
  have b_Ride_init : Binds K fd_Ride_init ["self", "day", "driver", "riders", "legs", "worth", "late"] [] := by
    obtain ⟨ds, h1, h2⟩ := D_Ride_init.binds1 (ps := ["self", "day", "driver", "riders", "legs", "worth", "late"]) 7 4 (List.cons_ne_nil _ _) rfl (fun T kV doc pm an cdv ct us its hl h1 => match us, hl, its, h1 with | [_, _, _, _, _, _, _], _, [_, _, _, _], _ => ⟨_, rfl, rfl⟩)
    cases h1
    exact h2
  obtain ⟨ds4_Ride_init, v4_Ride_init, b4_Ride_init⟩ := D_Ride_init.binds1 (ps := ["self", "day", "driver", "riders", "legs", "worth", "late"]) 3 0 (List.cons_ne_nil _ _) rfl (fun T kV doc pm an cdv ct us its hl h1 => match us, hl, its, h1 with | [_, _, _], _, [_, _, _, _], _ => ⟨_, rfl, rfl⟩)
  obtain ⟨ds3_Ride_init, v3_Ride_init, b3_Ride_init⟩ := D_Ride_init.binds1 (ps := ["self", "day", "driver", "riders", "legs", "worth", "late"]) 4 1 (List.cons_ne_nil _ _) rfl (fun T kV doc pm an cdv ct us its hl h1 => match us, hl, its, h1 with | [_, _, _, _], _, [_, _, _, _], _ => ⟨_, rfl, rfl⟩)
  obtain ⟨ds2_Ride_init, v2_Ride_init, b2_Ride_init⟩ := D_Ride_init.binds1 (ps := ["self", "day", "driver", "riders", "legs", "worth", "late"]) 5 2 (List.cons_ne_nil _ _) rfl (fun T kV doc pm an cdv ct us its hl h1 => match us, hl, its, h1 with | [_, _, _, _, _], _, [_, _, _, _], _ => ⟨_, rfl, rfl⟩)
  obtain ⟨ds1_Ride_init, v1_Ride_init, b1_Ride_init⟩ := D_Ride_init.binds1 (ps := ["self", "day", "driver", "riders", "legs", "worth", "late"]) 6 3 (List.cons_ne_nil _ _) rfl (fun T kV doc pm an cdv ct us its hl h1 => match us, hl, its, h1 with | [_, _, _, _, _, _], _, [_, _, _, _], _ => ⟨_, rfl, rfl⟩)
  have b_Ride_len : Binds K fd_Ride_len ["self"] [] := D_Ride_len.bindsN fun _ _ _ _ _ _ us hl => match us, hl with | [_], _ => rfl
  have b_Ride_riders : Binds K fd_Ride_riders ["self"] [] := D_Ride_riders.bindsN fun _ _ _ _ _ _ us hl => match us, hl with | [_], _ => rfl
  have b_Ride_late : Binds K fd_Ride_late ["self"] [] := D_Ride_late.bindsN fun _ _ _ _ _ _ us hl => match us, hl with | [_], _ => rfl
  have b_Ride_folk : Binds K fd_Ride_folk ["self"] [] := D_Ride_folk.bindsN fun _ _ _ _ _ _ us hl => match us, hl with | [_], _ => rfl
  have b_l_pen : Binds K fd_l_pen ["_law_script"] [] := D_l_pen.bindsN fun _ _ _ _ _ _ us hl => match us, hl with | [_], _ => rfl
  have b_l_draw : Binds K fd_l_draw ["_law_pen_here", "_law_many"] [] := D_l_draw.bindsN fun _ _ _ _ _ _ us hl => match us, hl with | [_, _], _ => rfl
  have b_l_names : Binds K fd_l_names ["_law_pen_here", "_law_many"] [] := D_l_names.bindsN fun _ _ _ _ _ _ us hl => match us, hl with | [_, _], _ => rfl
  have b_l_way : Binds K fd_l_way ["_law_pen_here"] [] := D_l_way.bindsN fun _ _ _ _ _ _ us hl => match us, hl with | [_], _ => rfl
  have b_l_rides : Binds K fd_l_rides ["_law_way_here"] [] := D_l_rides.bindsN fun _ _ _ _ _ _ us hl => match us, hl with | [_], _ => rfl
  have b_l_right : Binds K fd_l_right ["_law_ride", "_law_way_here"] [] := D_l_right.bindsN fun _ _ _ _ _ _ us hl => match us, hl with | [_, _], _ => rfl
  have b_law : Binds K fd_law ["_law_script"] [] := D_law.bindsN fun _ _ _ _ _ _ us hl => match us, hl with | [_], _ => rfl
  have B : Bl mg := ⟨fr_isinstance, fr_int, fr_bool, fr_str, fr_list, fr_range, fr_len, fr_all, fr_any, fr_max, fr_min⟩
  have B2 : Bl2 mg := ⟨fr_abs, fr_set, fr_dict, fr_sorted, fr_tuple⟩
  have TR : ClR K mg (He.ga K "Ride") := ⟨cls_Ride, no_Ride_day, no_Ride_driver, no_Ride_legs, no_Ride_worth, no_Ride_stretches, no_Ride_latecomers, gl_Ride⟩
  have cW : CalW P w K mg base := cal_of (ok_whole D_is_whole B) gl_is_whole D_is_whole.kp b_is_whole
  have cB : CalB P w K mg base := cal_of (ok_between D_is_between cW) gl_is_between D_is_between.kp b_is_between
  have cNa := cal_of (P := P) (w := w) (base := base) (ok_name D_is_name B val_LONGEST_NAME) gl_is_name D_is_name.kp b_is_name
  have cDy := cal_of (ok_day D_is_day cB val_LAST_DAY) gl_is_day D_is_day.kp b_is_day
  have cRi := cal_of (ok_rider D_is_rider B B2 cW cNa) gl_is_rider D_is_rider.kp b_is_rider
  have cRs := cal_of (ok_riders D_are_riders B B2 val_MOST_RIDERS cRi) gl_are_riders D_are_riders.kp b_are_riders
  have cLt := cal_of (P := P) (w := w) (base := base) (ok_late D_are_late B B2) gl_are_late D_are_late.kp b_are_late
  have cFW := cal_of (ok_fw D_first_wrong val_MOST_LEGS val_MOST_WORTH cDy cNa cB cRs cLt) gl_first_wrong D_first_wrong.kp b_first_wrong
  have FR := ok_ri D_Ride_init B2 TR cFW
  have MR : Mak P w K mg base 5 "Ride" (He.ga K "Ride") (spRI (He.ga K "Ride")) [] := ⟨_, _, _, _, mk_Ride, FR, TR.g, b_Ride_init, .nil⟩
  have MR1 : Mak P w K mg base 5 "Ride" (He.ga K "Ride") (spRI (He.ga K "Ride")) [.non] := ⟨_, _, _, _, mk_Ride, FR, TR.g, b1_Ride_init, v1_Ride_init⟩
  obtain ⟨iA, kA⟩ := KW.kb1 (ps := psR) D_Ride_init 1 ["late", "worth", "legs", "riders", "driver", "day"] (fun us its ws => us ++ ws.reverse) (List.cons_ne_nil _ _) (fun r _ s => r.append (KW.vals_rev s)) (fun T kV doc pm an cdv ct us its ws h1 h2 h3 => match us, h1, its, h2, ws, h3 with | [_], _, [_, _, _, _], _, [_, _, _, _, _, _], _ => ⟨_, rfl, rfl⟩)
  obtain ⟨iB, kB⟩ := KW.kb1 (ps := psR) D_Ride_init 3 ["riders", "late", "legs", "worth"] (fun us its ws => us ++ (ws.take 1 ++ (ws.drop 2 ++ (ws.drop 1).take 1))) (List.cons_ne_nil _ _) (fun r _ s => r.append ((s.take 1).append ((s.drop 2).append ((s.drop 1).take 1)))) (fun T kV doc pm an cdv ct us its ws h1 h2 h3 => match us, h1, its, h2, ws, h3 with | [_, _, _], _, [_, _, _, _], _, [_, _, _, _], _ => ⟨_, rfl, rfl⟩)
  obtain ⟨iC, kC⟩ := KW.kb1 (ps := psR) D_Ride_init 3 ["legs", "worth"] (fun us its ws => us ++ (its.take 1 ++ (ws ++ its.drop 3))) (List.cons_ne_nil _ _) (fun r d s => r.append ((d.take 1).append (s.append (d.drop 3)))) (fun T kV doc pm an cdv ct us its ws h1 h2 h3 => match us, h1, its, h2, ws, h3 with | [_, _, _], _, [_, _, _, _], _, [_, _], _ => ⟨_, rfl, rfl⟩)
  obtain ⟨iD, kD⟩ := KW.kb1 (ps := psR) D_Ride_init 6 ["late"] (fun us its ws => us ++ ws) (List.cons_ne_nil _ _) (fun r _ s => r.append s) (fun T kV doc pm an cdv ct us its ws h1 h2 h3 => match us, h1, its, h2, ws, h3 with | [_, _, _, _, _, _], _, [_, _, _, _], _, [_], _ => ⟨_, rfl, rfl⟩)
  obtain ⟨iE, kE⟩ := KW.kb1 (ps := psR) D_Ride_init 4 ["late"] (fun us its ws => us ++ ((its.drop 1).take 2 ++ ws)) (List.cons_ne_nil _ _) (fun r d s => r.append (((d.drop 1).take 2).append s)) (fun T kV doc pm an cdv ct us its ws h1 h2 h3 => match us, h1, its, h2, ws, h3 with | [_, _, _, _], _, [_, _, _, _], _, [_], _ => ⟨_, rfl, rfl⟩)
  have mFo := met_of (P := P) (w := w) (base := base) TR.cl me_Ride_folk (ok_fo D_Ride_folk B2 TR) b_Ride_folk
  have mRs := met_of (P := P) (w := w) (base := base) TR.cl me_Ride_riders (ok_rs D_Ride_riders B TR) b_Ride_riders
  have mLt := met_of (P := P) (w := w) (base := base) TR.cl me_Ride_late (ok_lt D_Ride_late B TR) b_Ride_late
  have sLn : OW.Spc P w K mg base 2 (He.ga K "Ride") "__len__" (spLn (He.ga K "Ride")) := ⟨_, _, _, me_Ride_len.at_, me_Ride_len.fn, ok_ln D_Ride_len B mFo, b_Ride_len⟩
  have cPn := cal_of (P := P) (w := w) (base := base) (ok_pen D_l_pen B) gl__law_pen D_l_pen.kp b_l_pen
  have cD : CalD P w K mg base := cal_of (ok_draw D_l_draw B) gl__law_draw D_l_draw.kp b_l_draw
  have cNm := cal_of (ok_names D_l_names B cD) gl__law_names D_l_names.kp b_l_names
  have cWy := cal_of (ok_way D_l_way B cD cNm) gl__law_way D_l_way.kp b_l_way
  have cRd := cal_of (ok_rds D_l_rides B TR MR MR1 mk_Ride FR kA kB kC kD kE) gl__law_rides D_l_rides.kp b_l_rides
  have cRt : CalRt P w K mg base (He.ga K "Ride") := ⟨_, _, _, _, ok_rt D_l_right B B2 TR fr_repr mRs mLt mFo sLn, gl__law_right, D_l_right.kp, b_l_right, .nil⟩
  exact ok_law D_law B B2 TR cPn cD cWy cRd cRt mRs mLt mFo MR
end K21
open PySem PySem.W PySem.Calls PyProof.Rows
set_option maxRecDepth 100000 in
set_option maxHeartbeats 0 in
theorem PySem.Challenge.cw_rideturns_k21_rides_made_and_told_holds : PySem.Challenge.rw_rideturns_k21_rides_made_and_told.Holds := by
  w_on; o_law
  refine HandSHeadRun.head_any (r := OpenLaw.row PySem.Challenge.rw_rideturns_k21_rides_made_and_told) (q := view (OpenLaw.row PySem.Challenge.rw_rideturns_k21_rides_made_and_told).prog [26]) (H := K21.hk) (ob := K21.ob) (M := 3000) (loose := K21.loose) (d := HandSHeadRun.topDef (OpenLaw.row PySem.Challenge.rw_rideturns_k21_rides_made_and_told).prog 26) (kwd := []) K21.ob_eq
    (by kernel_rfl) (fun s => by kernel_rfl) K21.run_ (by kernel_rfl) (by kernel_rfl) (by kernel_rfl) (by rfl) (by first | assumption | decide +kernel) (by decide +kernel) ⟨rfl, rfl, rfl, rfl, rfl, by decide +kernel⟩ ?hw ?hc
  case hw => w_witness2
  case hc =>
    refine GL.walkG (l := PySem.Challenge.rw_rideturns_k21_rides_made_and_told) (n := 63) (k := 8) (x := "_law_script") rfl (by decide) (by kernel_rfl) ⟨rfl, by decide, by decide⟩ ?F
    intro w mg fa h Y G hmg0
    obtain ⟨K, KX, c⟩ := Y
    have hmg : mg ("law" : PySem.Str) = some (.ref fa) := by
      have e : (HandSHeadRun.topDef (OpenLaw.row PySem.Challenge.rw_rideturns_k21_rides_made_and_told).prog 26).name = ("law" : PySem.Str) := by kernel_rfl
      rw [← e]
      exact hmg0
    obtain ⟨fd, hb, hF⟩ := K21.facts (P := (PySem.Challenge.rw_rideturns_k21_rides_made_and_told).prog) (w := w) KX G hmg c
    exact ⟨K, fd, K21.spLaw K, KX, hb, fun H a ns hl hS => ⟨a, ns, rfl, hS, hl, fun _ => rfl⟩, hF⟩
