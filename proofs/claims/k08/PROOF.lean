import PyProof.Rows.All
import Wide.All
import OpenK.AllK
import Wide.FinOn
import HandS.ForMost
import HandS.ForExc
import HandS.Defaults
import HandS.Codes
import HandS.IsInst
import HandS.Wide
import HandS.Flow
import HandS.Evl
import HandS.Steps
import HandS.ExcField
import HandS.Head0
import HandS.Head1
import HandS.Head2
import HandS.HeadEnd
import HandS.HeadHook1
import HandS.HeadHook2
import HandS.HeadHook3
import HandS.HeadHook4
import KE.KExcInit
import HandS.ExcInit
import HandS.Style
import HandS.Comp
import HandS.Text
import HandS.More
import PyProof.StrOps2
import KE.KxField
import HandS.Base
import HandS.Call
import HandS.FStr
import HandS.Walk
import HandS.StrMore
import KE.KCallOwn
import PyProof.EqKinds
import PyProof.NeKinds
import PyProof.FactsAll.dict_1
import HandS.ListEq
import HandS.Deep
import KE.KEqNest
import HandS.OwnEq
import PyProof.ReprRoads
import PyProof.ReprDict
import HandS.Iter
import PyProof.ReprLen
import HandS.MakeKw
import HandS.MakeKwOnly
import HandS.Words
import PySem.Challenge.RW_rideturns_k08_persons_made_and_shown
set_option Elab.async false
set_option linter.all false
set_option maxRecDepth 100000
set_option maxHeartbeats 4000000
namespace K08
open PySem PySem.Spec PyProof.Rows L2
def top (i : Nat) : Stmt := PySem.Challenge.pw_rideturns_k08_persons_made_and_shown.main.body.getD i (.Pass ⟨0, 0, 0, 0⟩)
abbrev s_BadName_init : Stmt := inClass (top 1) 0
abbrev N_BadName_init : List Str := ["self", "name"]
theorem sc_BadName_init : FnScope N_BadName_init ["self", "name"] (defScope s_BadName_init) := ⟨rfl, rfl, rfl, by decide +kernel, rfl, by decide +kernel, by decide +kernel⟩
def d_BadName_init : He.DefD := ⟨("BadName", some "__init__"), "__init__", "BadName.__init__", defArgs s_BadName_init, defBody s_BadName_init, defScope s_BadName_init, [], []⟩
abbrev s_NoNumber_init : Stmt := inClass (top 2) 0
abbrev N_NoNumber_init : List Str := ["self", "thing"]
theorem sc_NoNumber_init : FnScope N_NoNumber_init ["self", "thing"] (defScope s_NoNumber_init) := ⟨rfl, rfl, rfl, by decide +kernel, rfl, by decide +kernel, by decide +kernel⟩
def d_NoNumber_init : He.DefD := ⟨("NoNumber", some "__init__"), "__init__", "NoNumber.__init__", defArgs s_NoNumber_init, defBody s_NoNumber_init, defScope s_NoNumber_init, [], []⟩
abbrev s_is_whole : Stmt := top 6
abbrev N_is_whole : List Str := ["thing"]
theorem sc_is_whole : FnScope N_is_whole ["thing"] (defScope s_is_whole) := ⟨rfl, rfl, rfl, by decide +kernel, rfl, by decide +kernel, by decide +kernel⟩
def d_is_whole : He.DefD := ⟨("is_whole", none), "is_whole", "is_whole", defArgs s_is_whole, defBody s_is_whole, defScope s_is_whole, [], []⟩
abbrev s_is_between : Stmt := top 7
abbrev N_is_between : List Str := ["thing", "low", "high"]
theorem sc_is_between : FnScope N_is_between ["thing", "low", "high"] (defScope s_is_between) := ⟨rfl, rfl, rfl, by decide +kernel, rfl, by decide +kernel, by decide +kernel⟩
def d_is_between : He.DefD := ⟨("is_between", none), "is_between", "is_between", defArgs s_is_between, defBody s_is_between, defScope s_is_between, [], []⟩
abbrev s_is_name : Stmt := top 8
abbrev N_is_name : List Str := ["thing", "sign"]
theorem sc_is_name : FnScope N_is_name ["thing"] (defScope s_is_name) := ⟨rfl, rfl, rfl, by decide +kernel, rfl, by decide +kernel, by decide +kernel⟩
def d_is_name : He.DefD := ⟨("is_name", none), "is_name", "is_name", defArgs s_is_name, defBody s_is_name, defScope s_is_name, [], []⟩
abbrev s_is_mask : Stmt := top 9
abbrev N_is_mask : List Str := ["thing"]
theorem sc_is_mask : FnScope N_is_mask ["thing"] (defScope s_is_mask) := ⟨rfl, rfl, rfl, by decide +kernel, rfl, by decide +kernel, by decide +kernel⟩
def d_is_mask : He.DefD := ⟨("is_mask", none), "is_mask", "is_mask", defArgs s_is_mask, defBody s_is_mask, defScope s_is_mask, [], []⟩
abbrev s_mask_text : Stmt := top 11
abbrev N_mask_text : List Str := ["mask"]
theorem sc_mask_text : FnScope N_mask_text ["mask"] (defScope s_mask_text) := ⟨rfl, rfl, rfl, by decide +kernel, rfl, by decide +kernel, by decide +kernel⟩
def d_mask_text : He.DefD := ⟨("mask_text", none), "mask_text", "mask_text", defArgs s_mask_text, defBody s_mask_text, defScope s_mask_text, [], []⟩
abbrev s_Person_init : Stmt := inClass (top 14) 0
abbrev N_Person_init : List Str := ["self", "name", "seats", "mask"]
theorem sc_Person_init : FnScope N_Person_init ["self", "name", "seats", "mask"] (defScope s_Person_init) := ⟨rfl, rfl, rfl, by decide +kernel, rfl, by decide +kernel, by decide +kernel⟩
def d_Person_init : He.DefD := ⟨("Person", some "__init__"), "__init__", "Person.__init__", defArgs s_Person_init, defBody s_Person_init, defScope s_Person_init, [.int 0, .int 31], []⟩
abbrev s_Person_eq : Stmt := inClass (top 14) 1
abbrev N_Person_eq : List Str := ["self", "other"]
theorem sc_Person_eq : FnScope N_Person_eq ["self", "other"] (defScope s_Person_eq) := ⟨rfl, rfl, rfl, by decide +kernel, rfl, by decide +kernel, by decide +kernel⟩
def d_Person_eq : He.DefD := ⟨("Person", some "__eq__"), "__eq__", "Person.__eq__", defArgs s_Person_eq, defBody s_Person_eq, defScope s_Person_eq, [], []⟩
abbrev s_Person_str : Stmt := inClass (top 14) 2
abbrev N_Person_str : List Str := ["self"]
theorem sc_Person_str : FnScope N_Person_str ["self"] (defScope s_Person_str) := ⟨rfl, rfl, rfl, by decide +kernel, rfl, by decide +kernel, by decide +kernel⟩
def d_Person_str : He.DefD := ⟨("Person", some "__str__"), "__str__", "Person.__str__", defArgs s_Person_str, defBody s_Person_str, defScope s_Person_str, [], []⟩
abbrev s_Person_repr : Stmt := inClass (top 14) 3
abbrev N_Person_repr : List Str := ["self"]
theorem sc_Person_repr : FnScope N_Person_repr ["self"] (defScope s_Person_repr) := ⟨rfl, rfl, rfl, by decide +kernel, rfl, by decide +kernel, by decide +kernel⟩
def d_Person_repr : He.DefD := ⟨("Person", some "__repr__"), "__repr__", "Person.__repr__", defArgs s_Person_repr, defBody s_Person_repr, defScope s_Person_repr, [], []⟩
abbrev s_l_pen : Stmt := top 16
abbrev N_l_pen : List Str := ["_law_script"]
theorem sc_l_pen : FnScope N_l_pen ["_law_script"] (defScope s_l_pen) := ⟨rfl, rfl, rfl, by decide +kernel, rfl, by decide +kernel, by decide +kernel⟩
def d_l_pen : He.DefD := ⟨("_law_pen", none), "_law_pen", "_law_pen", defArgs s_l_pen, defBody s_l_pen, defScope s_l_pen, [], []⟩
abbrev s_l_draw : Stmt := top 17
abbrev N_l_draw : List Str := ["_law_pen_here", "_law_many", "_law_found", "_law_at", "_law_cell", "_law_number"]
theorem sc_l_draw : FnScope N_l_draw ["_law_pen_here", "_law_many"] (defScope s_l_draw) := ⟨rfl, rfl, rfl, by decide +kernel, rfl, by decide +kernel, by decide +kernel⟩
def d_l_draw : He.DefD := ⟨("_law_draw", none), "_law_draw", "_law_draw", defArgs s_l_draw, defBody s_l_draw, defScope s_l_draw, [], []⟩
abbrev s_l_names : Stmt := top 18
abbrev N_l_names : List Str := ["_law_pen_here", "_law_many", "_law_letters", "_law_words", "_law_size", "_law_k", "_law_base", "_law_at", "_law_spot", "_law_way", "_law_found", "_law_word"]
theorem sc_l_names : FnScope N_l_names ["_law_pen_here", "_law_many"] (defScope s_l_names) := ⟨rfl, rfl, rfl, by decide +kernel, rfl, by decide +kernel, by decide +kernel⟩
def d_l_names : He.DefD := ⟨("_law_names", none), "_law_names", "_law_names", defArgs s_l_names, defBody s_l_names, defScope s_l_names, [], []⟩
abbrev s_l_things : Stmt := top 19
abbrev N_l_things : List Str := ["_law_some"]
theorem sc_l_things : FnScope N_l_things [] (defScope s_l_things) := ⟨rfl, rfl, rfl, by decide +kernel, rfl, by decide +kernel, by decide +kernel⟩
def d_l_things : He.DefD := ⟨("_law_things", none), "_law_things", "_law_things", defArgs s_l_things, defBody s_l_things, defScope s_l_things, [], []⟩
abbrev s_l_three : Stmt := top 20
abbrev N_l_three : List Str := ["_law_thing"]
theorem sc_l_three : FnScope N_l_three ["_law_thing"] (defScope s_l_three) := ⟨rfl, rfl, rfl, by decide +kernel, rfl, by decide +kernel, by decide +kernel⟩
def d_l_three : He.DefD := ⟨("_law_three", none), "_law_three", "_law_three", defArgs s_l_three, defBody s_l_three, defScope s_l_three, [], []⟩
abbrev s_l_made : Stmt := top 21
abbrev N_l_made : List Str := ["_law_called", "_law_places", "_law_days", "_law_found"]
theorem sc_l_made : FnScope N_l_made ["_law_called", "_law_places", "_law_days"] (defScope s_l_made) := ⟨rfl, rfl, rfl, by decide +kernel, rfl, by decide +kernel, by decide +kernel⟩
def d_l_made : He.DefD := ⟨("_law_made", none), "_law_made", "_law_made", defArgs s_l_made, defBody s_l_made, defScope s_l_made, [], []⟩
abbrev s_l_other : Stmt := top 22
abbrev N_l_other : List Str := ["_law_pen_here", "_law_called", "_law_places", "_law_days", "_law_one", "_law_names_here", "_law_found"]
theorem sc_l_other : FnScope N_l_other ["_law_pen_here", "_law_called", "_law_places", "_law_days"] (defScope s_l_other) := ⟨rfl, rfl, rfl, by decide +kernel, rfl, by decide +kernel, by decide +kernel⟩
def d_l_other : He.DefD := ⟨("_law_other", none), "_law_other", "_law_other", defArgs s_l_other, defBody s_l_other, defScope s_l_other, [], []⟩
abbrev s_l_is_one : Stmt := top 23
abbrev N_l_is_one : List Str := ["_law_one", "_law_other_here", "_law_is_due", "_law_found"]
theorem sc_l_is_one : FnScope N_l_is_one ["_law_one", "_law_other_here", "_law_is_due"] (defScope s_l_is_one) := ⟨rfl, rfl, rfl, by decide +kernel, rfl, by decide +kernel, by decide +kernel⟩
def d_l_is_one : He.DefD := ⟨("_law_is_one", none), "_law_is_one", "_law_is_one", defArgs s_l_is_one, defBody s_l_is_one, defScope s_l_is_one, [], []⟩
abbrev s_law : Stmt := top 24
abbrev N_law : List Str := ["_law_script", "_law_pen_here", "_law_figures", "_law_turn", "_law_called", "_law_places", "_law_days", "_law_one", "_law_words", "_law_said", "_law_other_here", "_law_some"]
theorem sc_law : FnScope N_law ["_law_script"] (defScope s_law) := ⟨rfl, rfl, rfl, by decide +kernel, rfl, by decide +kernel, by decide +kernel⟩
def d_law : He.DefD := ⟨("law", none), "law", "law", defArgs s_law, defBody s_law, defScope s_law, [], []⟩
def fn : List He.DefD := [d_BadName_init, d_NoNumber_init, d_is_whole, d_is_between, d_is_name, d_is_mask, d_mask_text, d_Person_init, d_Person_eq, d_Person_str, d_Person_repr, d_l_pen, d_l_draw, d_l_names, d_l_things, d_l_three, d_l_made, d_l_other, d_l_is_one, d_law]
end K08
set_option Elab.async false
set_option linter.all false
set_option maxRecDepth 100000
set_option maxHeartbeats 4000000
/-! GX: own exceptions over any built-in base, whose own __init__ calls the base's and stores a field. -/
namespace GX
open PySem PySem.Spec PyProof.Rows L2

/-- what the written part tells of the class -/
structure Gx (K : PySem.W.Frag) (C : Addr) (bmB : List Value) (nid : String) : Prop where
  over : PySem.W.excOver K C bmB = true
  made : PySem.W.excInitIn K C bmB nid = true
  hasd : ∃ cd, PySem.W.clsIn K C = some cd ∧ cd.hasDict = true
  sets : PySem.W.findIn K (.ref C) "__setattr__" = some (some (.builtin "object.__setattr__"))
  base : PySem.W.subIn K (.ref C) (.type "BaseException") = some true
  typ : PySem.W.typeIn K (.ref C) = some (.type "type")
  keep : PySem.W.keepIn K (.ref C) = true

section
open Builtin Builtin.ObjectAttr
variable {prog : Program} {w : World} {A : Around} {R : Result → Shared → Prop} {hp : Heap} {g : Array GenState} {d : Drawn} {t : Nat} {os : OsState} {B : String} {bmB : List Value}
theorem first_store {K : PySem.W.Frag} {name : Str} {tk : Tok} {v : Value} {x C : Addr} {fv : Array Value} {cd : ClassData} (SF : StoreFacts B bmB "object.__setattr__" "object")
    (X : K.In hp) (hx : hp.get? x = some { cls := .ref C, data := .fields fv }) (ho : PySem.W.excOver K C bmB = true) (hc : PySem.W.clsIn K C = some cd) (hd : cd.hasDict = true)
    (hf : PySem.W.findIn K (.ref C) name = some none)
    (post : ∀ h' tk' dx, (∀ b o, b ≠ x → hp.get? b = some o → h'.get? b = some o) → hp.objs.size ≤ dx → dx ≠ x →
      h'.get? x = some { cls := .ref C, dict := some dx, data := .fields fv } → h'.Ns1 dx (fun y => if y = name then some v else none) → R (.ok (.ret .none)) ⟨h', g, d, tk', os⟩) :
    codeAny (model prog w) A (.call (.builtin "object.__setattr__") ⟨[.ref x, .str name tk, v], []⟩) R ⟨hp, g, d, t, os⟩ := by
  have inst : PySem.W.InstAt hp x { cls := .ref C, data := .fields fv } C none := ⟨hx, rfl, rfl, trivial⟩
  have far : x ≠ hp.objs.size := Nat.ne_of_lt (Heap.lt_size hx)
  have lc : PySem.W.Looks (model prog w) hp (classData C) cd := PySem.W.looks_clsIn X hc
  refine PySem.W.osa_openX (r := none) SF X inst ho (by unfold PySem.W.takerIn; rw [hf]; rfl) fun b => ?_
  dsimp only
  obtain ⟨n1, n2, n3, n4, n5, n6, n7, n8, n9, n10, n11⟩ := cd
  dsimp only at hd
  subst hd
  unfold storeInOwnDict ownDictForStores
  repeat (first | with_reducible refine PySem.HandSPX.store_in_new ?_ ?_ | with_reducible refine wpAny_loadPart_at hx ?_ | with_reducible refine lc.at ?_ | wp_step)
  · exact ⟨_, #[], _, (Heap.get?_update_ne _ _ _ _ far.symm).trans (Heap.get?_push_at rfl rfl), rfl, fun e he => absurd he (by simp), fun _ => rfl⟩
  · intro h' tk' hn hs
    have hx1 : (hp.push { cls := .type "dict", data := .dict #[] }).get? x = some { cls := .ref C, data := .fields fv } := Heap.get?_push_of_some _ hx
    refine post h' tk' hp.objs.size (fun b o hb hob => ?_) (Nat.le_refl _) far.symm ?_ hn
    · have e1 := hs.2 b (Nat.ne_of_lt (Heap.lt_size hob))
      rw [e1, Heap.get?_update_ne _ _ _ _ hb]
      exact Heap.get?_push_of_some _ hob
    · rw [hs.2 x far]
      exact Heap.get?_update_self _ hx1 rfl
end

section
variable {X : Cx} {pins : List (Addr × Obj)} {σ : L2.St} {H : Hp} {s : Shared} {a C dx : Addr} {f : Str} {y : V} {u : Value} {Q : Unit → Shared → Prop} {E : Value → Shared → Prop} {A : Around} {B : String} {bmB : List Value} {nid iid : String}
/-- self.f = y, the first store -/
theorem put_first (SF : StoreFacts B bmB "object.__setattr__" "object") (T : Gx X.K C bmB nid) (I : Inv X pins σ H s) (e : H a = some (exo a C none)) (hno : PySem.W.findIn X.K (.ref C) f = some none) (ry : RelV y u)
    (post : ∀ dx s', H dx = none → dx ≠ a → Inv X pins σ (upd (upd H dx (exd dx [(f, y)])) a (exo a C (some dx))) s' → Q () s') : wpAny (model X.prog X.w) A (setAttr (.ref a) f u) Q E s := by
  obtain ⟨cd, hcd, hdd⟩ := T.hasd
  obtain ⟨t1, at1⟩ := exo_at I.hok e
  obtain ⟨hp, g, d, t, os⟩ := s
  refine PySem.W.set_plain I.kIn (ox := { cls := .ref C, dict := none, data := .fields #[.ref t1, .none, .none, .none, .bool false, .none] }) (od := none) ⟨at1, rfl, rfl, trivial⟩ T.sets ?_
  refine first_store SF I.kIn at1 T.over hcd hdd hno (fun h' tk' dx kp dn dne hx hn => ?_)
  have fresh : H dx = none := I.hok.fresh dn
  have old : ∀ {b : Addr} {o : Obj}, hp.get? b = some o → b ≠ dx := fun {b o} q => Nat.ne_of_lt (Nat.lt_of_lt_of_le (Heap.lt_size q) dn)
  have other : ∀ {b : Addr}, H b = none → b ≠ a := fun {b} n z => by
    rw [z, e] at n
    cases n
  have un : Un X.fs [] H (upd (upd H dx (exd dx [(f, y)])) a (exo a C (some dx))) hp h' := {
    keep := fun b o q n _ _ => kp b o (other n) q
    slot := fun b o q n _ _ => ⟨o.slots, kp b o (other n) q⟩
    free := fun b o q n _ => by rw [upd_ne (other n), upd_ne (old q)]; exact n
    there := fun b o q _ => by
      by_cases hb : b = a
      · exact ⟨_, hb ▸ hx⟩
      · exact ⟨o, kp b o hb q⟩
    tups := fun b xs q => by rw [upd_ne (at_ne e q exo_tup), upd_ne (ne_of_none q fresh)]; exact q
    frzs := fun b o v q => by rw [upd_ne (at_ne e q exo_frz), upd_ne (ne_of_none q fresh)]; exact q
    tbls := fun b ps q => ⟨#[], by rw [upd_ne (at_ne e q exo_tbl), upd_ne (ne_of_none q fresh), q]; simp⟩ }
  refine post dx _ fresh dne (I.un (t' := tk') un fun b o q => ?_)
  by_cases hb : b = a
  · subst hb
    rw [upd_same] at q
    cases q
    exact exo_ok hx
  · rw [upd_ne hb] at q
    by_cases hd : b = dx
    · subst hd
      rw [upd_same] at q
      cases q
      exact exd_ok hn (relO_put (fs := []) ry fun g => True.intro)
    · rw [upd_ne hd] at q
      refine (I.hok b o q).stay (fun c v hc z => kp c v ?_ z) (fun c hc => ?_) (fun c xs hc => ?_)
      · rcases hc with hc | hc
        · exact hc ▸ hb
        · exact at_ne e hc exo_own
      · rw [upd_ne (at_ne e hc exo_own), upd_ne (ne_of_none hc fresh)]; exact hc
      · rw [upd_ne (at_ne e hc exo_tup), upd_ne (ne_of_none hc fresh)]; exact hc
/-- Base.__init__(self, ..) -/
theorem base_init {us : List Value} {Q : Value → Shared → Prop} (FB : ExcBaseFacts B nid iid bmB) (T : Gx X.K C bmB nid) (I : Inv X pins σ H s) (e : H a = some (exo a C none)) (hl : us.length ≤ sizeLine) (post : ∀ s', Inv X pins σ H s' → Q .none s') :
    wpAny (model X.prog X.w) A (call (.builtin iid) (.ref a :: us)) Q E s := by
  obtain ⟨nm, N, qn, bs, bm, hdct, sn, sub, ab, col, dd, k0, k1, k2, k3, k5, hC, hT⟩ := PySem.W.excInit_of I.kIn T.made
  obtain ⟨t1, at1⟩ := exo_at I.hok e
  obtain ⟨hp, g, d, t, os⟩ := s
  refine wpAny_call (PySem.HandSPX.init_base FB hT hC at1 hl fun h' t2 kp hx => ?_)
  have J := I.write (t' := t) (x := a) (e := a) (o := exo a C none) (by rw [e]; exact True.intro) (.inl rfl) kp ⟨_, hx⟩ (exo_ok hx)
  have same : upd H a (exo a C none) = H := funext fun b => by
    by_cases hb : b = a
    · rw [hb, upd_same, e]
    · rw [upd_ne hb]
  rw [same] at J
  exact post _ J
end

/-! ### readings and rules -/
/-- Base.__init__(self, ..) -/
def tBi (K : PySem.W.Frag) (bmB : List Value) (nid : String) (ta : TA) : TE := fun σ H Q => ta σ H fun vs H1 => ∃ (a C : Addr) (ws : List V), vs = .ref a :: ws ∧ ws.length ≤ 1000 ∧ Gx K C bmB nid ∧ H1 a = some (exo a C none) ∧ Q .non H1
/-- self.f = e, the first one -/
def tPf (K : PySem.W.Frag) (bmB : List Value) (nid : String) (f : Str) (to te : TE) : TS := fun D σ H => te σ H fun y H1 => to σ H1 fun x H2 => ∃ a C : Addr, x = .ref a ∧ Gx K C bmB nid ∧ PySem.W.findIn K (.ref C) f = some none ∧
  H2 a = some (exo a C none) ∧ ∀ dx, H2 dx = none → dx ≠ a → D.nx σ (upd (upd H2 dx (exd dx [(f, y)])) a (exo a C (some dx)))
section
variable {X : Cx} {o e : Expr} {es : List Expr} {to te : TE} {ta : TA} {f : Str} {p p' p1 p2 pos : Pos} {B nid iid : String} {bmB : List Value} {x : Str}
theorem pe_bi {pl : Sem Bool} (FB : ExcBaseFacts B nid iid bmB) (hg : Gl X x) (hm : X.mg x = none) (hv : bootBuiltins x = some (.type B)) (ty : typeOf (.type B) = pure (.type "type"))
    (vV : PySem.W.findCls X.K (.type B) (.type "type") "__init__" = some (.val (.builtin iid))) (hb : PySem.W.handedIn (.builtin iid) = true) (hst : Manifest.isStub B = false) (ha : PA X (e :: es) ta)
    (hc : eval (.Call (.Attribute (.Name x p1) "__init__" p2) (e :: es) [] pos) X.env = (do
      let ov ← eval (.Name x p1) X.env
      standAt p2.atName
      let (f, first) ← holding [ov] (getMethod ov "__init__" pl)
      callWith pos f first (backTo pos (starEach (e :: es) X.env)) (backToKw pos (keywordEach [] X.env))) := by rfl)
    (hn : x ≠ "__name__" := by decide) (hd : (x == ("__debug__" : Str)) = false := by decide)
    (he : starEach (e :: es) X.env = (false, eval e X.env) :: starEach es X.env := by rfl) (hpl : (backTo pos (starEach es X.env)).any (·.1) = false := by rfl) :
    PE X (.Call (.Attribute (.Name x p1) "__init__" p2) (e :: es) [] pos) (tBi X.K bmB nid ta) := by
  refine ⟨fun pins s σ H Q I h => ?_⟩
  refine PySem.W.methodCall_KW (ld_blt I hg hm hv ?_ hn hd) hc
  obtain ⟨m, fr⟩ := I.fr
  refine PySem.W.method_type fr I.ok.mod.kin ty hst vV hb ?_
  show wpAny _ _ (callWith pos (Value.builtin iid) [] (backTo pos (starEach (e :: es) X.env)) []) _ _ _
  refine PyProof.Rows.callWith_method1 (thn (ha.run pos pins _ σ H _ (I.tok _) h) fun us s1 hh => ?_) he hpl
  obtain ⟨vs, H1, I1, r1, a, C, ws, ev, hl, T, ea, q⟩ := hh
  subst ev
  cases r1 with
  | @cons _ u0 _ ur ra rw' =>
    obtain rfl : u0 = Value.ref a := ra
    have hlen : ur.length ≤ sizeLine := by
      have := Paired.length rw'
      rw [sizeLine_eq]
      omega
    exact base_init FB T I1 ea hlen fun s' J => ⟨.non, H1, J, rfl, q⟩
theorem ps_pf (SF : StoreFacts B bmB "object.__setattr__" "object") (ho : PE X o to) (he : PE X e te) (hs : swapsWith e (some (.Attribute o f p')) pos.line X.env = pure false := by rfl) : PS X (.Assign [.Attribute o f p'] e pos) (tPf X.K bmB nid f to te) := by
  refine ⟨fun pins s σ H D I h => ?_⟩
  refine plainObj_wpAny_Assign_Attribute (thn (he.run pins s σ H _ I h) fun v s1 h1 => ?_) hs
  obtain ⟨y, H1, I1, r1, q1⟩ := h1
  refine thn (ho.run pins s1 σ H1 _ I1 q1) fun u s2 h2 => ?_
  obtain ⟨z, H2, I2, r2, a, C, ex, T, hno, ea, q⟩ := h2
  subst ex
  obtain rfl : u = Value.ref a := r2
  exact put_first SF T I2 ea hno r1 fun dx s' n ne J => ⟨σ, _, J, q dx n ne⟩
/-- C(e, ..) as what is raised, C's own __init__ keeping sp -/
theorem pmk_gx {CX : CXT} {C fI : Addr} {k : Nat} {fd : FuncData} {ps : List Str} {sp : Sp} {ds : List Value} {dvs : List V} (FB : ExcBaseFacts B nid iid bmB) (T : Gx X.K C bmB nid) (iC : PySem.W.findIn X.K (.ref C) "__init__" = some (some (.ref fI)))
    (tI : PySem.W.typeIn X.K (.ref fI) = some (.type "function"))
    (F1 : FnOk X.prog X.w X.K X.mg X.base CX k fI fd ps sp) (hr : Room (k + 1) X.A) (hb : Binds X.K fd ps ds) (hd : Vals dvs ds) (hx : Passes CX X (fun _ _ _ => False)) (hg : Gl X x) (hm : X.mg x = some (.ref C)) (ha : PA X (e :: es) ta)
    (hdb : (x == ("__debug__" : Str)) = false := by decide) (he : starEach (e :: es) X.env = (false, eval e X.env) :: starEach es X.env := by rfl) (hpl : (backTo pos (starEach es X.env)).any (·.1) = false := by rfl) :
    PMk X (.Call (.Name x p) (e :: es) [] pos) (tMkO C sp dvs ta) := by
  intro pins s σ H Q I h
  refine wpAny_Call_Name_kw (ld_glob I hg hm ?_ hdb)
  refine PySem.W.callWith_K (h₀ := X.base) I.ok.mod.kin T.keep (thn (ha.run pos pins s σ H _ I h) fun us s1 hh => ?_) he hpl
  obtain ⟨vs, H1, I1, r1, hz, q1⟩ := hh
  refine ⟨I1.kIn, ?_⟩
  show wpAny _ _ (call (.ref C) us) _ _ _
  obtain ⟨nm, N, qn, bs, bm, hdct, sn, sub, ab, col, dd, k0, k1, k2, k3, k5, hC, hT⟩ := PySem.W.excInit_of I1.kIn T.made
  obtain ⟨hp, g, dr, tk, os⟩ := s1
  have big : hp.objs.size ≤ hp.objs.size + 1 := Nat.le_succ _
  have hq := q1 (hp.objs.size + 1) (I1.hok.fresh big)
  have kk : ∀ b o, hp.get? b = some o → ((hp.push (PySem.W.kdv_tup us)).push (PySem.HandSPX.excO C hp.objs.size)).get? b = some o := fun b o z =>
    Heap.get?_push_of_some _ (Heap.get?_push_of_some _ z)
  have there : ((hp.push (PySem.W.kdv_tup us)).push (PySem.HandSPX.excO C hp.objs.size)).get? (hp.objs.size + 1) = some (PySem.HandSPX.excO C hp.objs.size) := by heap_get
  have I2 := I1.laid (t' := tk) (a := hp.objs.size + 1) (o := exo (hp.objs.size + 1) C none) (h' := (hp.push (PySem.W.kdv_tup us)).push (PySem.HandSPX.excO C hp.objs.size)) kk big (exo_ok there)
  have r2 : Vals (V.ref (hp.objs.size + 1) :: (vs ++ dvs)) (Value.ref (hp.objs.size + 1) :: (us ++ ds)) := .cons rfl (r1.append hd)
  have hl : (Value.ref (hp.objs.size + 1) :: us ++ ds).length = ps.length := by
    have e1 := r2.length
    rw [F1.len _ _ _ _ hq] at e1
    exact e1.symm
  have few : us.length ≤ sizeLine := by
    have := Paired.length r1
    rw [sizeLine_eq]
    omega
  refine wpAny_call (PySem.HandSPX.call_own FB hT hC (PySem.W.looks_findIn I1.kIn iC) (fun self => PySem.W.bind_fn I1.kIn self tI) few (codeAny_mono
    (F1.run _ X.stack _ _ ⟨Value.ref (hp.objs.size + 1) :: us, []⟩ (Value.ref (hp.objs.size + 1) :: (us ++ ds)) _ _ (fun _ _ _ => False) (hr.make C us []) (I2.env0.make C us []) (hb _ (Value.ref (hp.objs.size + 1) :: us) I2.kIn hl) r2 hq) fun r s' hq' => ?_))
  cases r with
  | error er => exact hx pins σ _ _ er s' I2 hq'
  | ok fl =>
    cases fl with
    | ret u =>
      obtain ⟨v, H2, os2, bare2, un2, hok2, rv, ev, d, fs, ea, ed, hd1, q2⟩ := hq'
      subst ev
      obtain ⟨h2, g2, d2, t2, os'⟩ := s'
      exact ⟨rv, mk_end (raises_own T.base T.typ) I1 big kk un2 hok2 os2 bare2 ea ed hd1 q2⟩
    | next => exact False.elim hq'
    | brk => exact False.elim hq'
    | cont => exact False.elim hq'
end
/-! ### the head's look at such a class -/
def hasDB (K : PySem.W.Frag) (C : Addr) : Bool := match PySem.W.clsIn K C with
  | some cd => cd.hasDict
  | none => false
/-- Base.__init__, read off the class Base -/
def vvB (K : PySem.W.Frag) (B iid : String) : Bool := match PySem.W.findCls K (.type B) (.type "type") "__init__" with
  | some (.val (.builtin n)) => n == iid
  | _ => false
theorem vvB_ok {K : PySem.W.Frag} {B iid : String} (h : vvB K B iid = true) : PySem.W.findCls K (.type B) (.type "type") "__init__" = some (.val (.builtin iid)) := by
  unfold vvB at h
  split at h
  · rename_i n e
    rw [e, eq_of_beq h]
  · cases h
/-- what isinstance asks of an own class -/
def isB (K : PySem.W.Frag) (C : Addr) : Bool := He.eqO (PySem.W.findIn K (.ref C) "__class__") (some (some (.builtin "object.__class__"))) && (He.eqO (PySem.W.specialIn K (.builtin "object.__class__") "__get__") (some (some (.builtin "getset_descriptor.__get__"))) &&
  (decide (PySem.W.takesIn K (.builtin "object.__class__") = some true) && decide (PySem.W.mroIn K C (.type "object") = some true)))
def gxB (K : PySem.W.Frag) (C : Addr) (bmB : List Value) (nid : String) : Bool := PySem.W.excOver K C bmB && (PySem.W.excInitIn K C bmB nid && (hasDB K C &&
  (He.eqO (PySem.W.findIn K (.ref C) "__setattr__") (some (some (.builtin "object.__setattr__"))) && (decide (PySem.W.subIn K (.ref C) (.type "BaseException") = some true) &&
  (decide (PySem.W.typeIn K (.ref C) = some (.type "type")) && PySem.W.keepIn K (.ref C))))))
theorem gxB_ok {K : PySem.W.Frag} {C : Addr} {bmB : List Value} {nid : String} (h : gxB K C bmB nid = true) : Gx K C bmB nid := by
  unfold gxB at h
  simp only [Bool.and_eq_true, decide_eq_true_eq] at h
  obtain ⟨h1, h2, h3, h4, h5, h6, h7⟩ := h
  refine ⟨h1, h2, ?_, He.eqO_ok h4, h5, h6, h7⟩
  unfold hasDB at h3
  split at h3
  · rename_i cd e
    exact ⟨cd, e, h3⟩
  · cases h3
end GX
set_option Elab.async false
set_option linter.all false
set_option maxRecDepth 100000
set_option maxHeartbeats 4000000
namespace K08
open PySem PySem.Spec PyProof.Rows L2
open C8 (Cal Mak Met pe_c pe_mk pe_mt pe_mt0)
/-- a def of the text -/
abbrev Dn (K : PySem.W.Frag) (d : He.DefD) (f : Addr) (fd : FuncData) : Prop := FunD K d.name d.qual d.params d.body d.scope (d.dvs K) (d.kws K) f fd
/-- what the module's names are -/
structure Bl (mg : Str → Option Value) : Prop where
  isi : mg "isinstance" = none
  int : mg "int" = none
  bool : mg "bool" = none
  str : mg "str" = none
  list : mg "list" = none
  range : mg "range" = none
  len : mg "len" = none
  all : mg "all" = none
  any : mg "any" = none
  max : mg "max" = none
  min : mg "min" = none
theorem same_new {H : Hp} {p : Addr} {o : HO} (h : H p = none) : Same H (upd H p o) := fun a u e => by
  rw [upd_ne (ne_of_none e h)]
  exact e
theorem dpInts {K : PySem.W.Frag} {H : Hp} : ∀ ns : List Int, DpAll K H (ns.map V.int) (ns.map PyData.int)
  | [] => .nil
  | n :: ns => .cons (.int n) (dpInts ns)
theorem cb_l {i j : Int} (h1 : -(2 ^ 64) < i) (h2 : i < 2 ^ 64) : CMul i j := .inl ⟨h1, h2⟩
theorem cb_r {i j : Int} (h1 : -(2 ^ 64) < j) (h2 : j < 2 ^ 64) : CMul i j := .inr ⟨h1, h2⟩
/-- the pen at p, good for c draws more -/
def penL (l : Addr) (n m : Int) : List V := [.ref l, .int n, .int m]
def Pen (H : Hp) (p : Addr) (c : Nat) : Prop := ∃ (l : Addr) (ns : List Int) (n m : Int), H p = some (.lst (penL l n m)) ∧ H l = some (.lst (ns.map V.int)) ∧ l ≠ p ∧ 0 ≤ n ∧ n + c ≤ 1000000000
theorem Pen.weak {H : Hp} {p : Addr} {c c' : Nat} (hc : c' ≤ c) (x : Pen H p c) : Pen H p c' := by
  obtain ⟨l, ns, n, m, h1, h2, h3, h4, h5⟩ := x
  exact ⟨l, ns, n, m, h1, h2, h3, h4, by omega⟩
theorem Pen.same {H H' : Hp} {p : Addr} {c : Nat} (s : Same H H') (x : Pen H p c) : Pen H' p c := by
  obtain ⟨l, ns, n, m, h1, h2, h3⟩ := x
  exact ⟨l, ns, n, m, s _ _ h1, s _ _ h2, h3⟩
/-- all but the pen is kept, its cells stay where they are -/
def Kp (p : Addr) (H H' : Hp) : Prop := (∀ b o, H b = some o → b ≠ p → H' b = some o) ∧ ∀ l n m, H p = some (.lst (penL l n m)) → ∃ n' m', H' p = some (.lst (penL l n' m'))
theorem Kp.refl (p : Addr) (H : Hp) : Kp p H H := ⟨fun _ _ e _ => e, fun _ n m e => ⟨n, m, e⟩⟩
theorem Kp.trans {p : Addr} {H H1 H2 : Hp} (a : Kp p H H1) (b : Kp p H1 H2) : Kp p H H2 := ⟨fun c o e n => b.1 c o (a.1 c o e n) n, fun l n m e => let ⟨n', m', e'⟩ := a.2 l n m e; b.2 l n' m' e'⟩
theorem Kp.same {p : Addr} {H H1 : Hp} (a : Same H H1) : Kp p H H1 := ⟨fun c o e _ => a c o e, fun _ n m e => ⟨n, m, a _ _ e⟩⟩
theorem pen_inj {l l' : Addr} {n m n' m' : Int} (h : HO.lst (penL l n m) = HO.lst (penL l' n' m')) : l = l' := by
  injection h with h
  injection h with h _
  injection h
theorem Kp.put {p l : Addr} {H : Hp} {n m : Int} (n' m' : Int) (e : H p = some (.lst (penL l n m))) : Kp p H (upd H p (.lst (penL l n' m'))) := by
  refine ⟨fun c o z ne => by rw [upd_ne ne]; exact z, fun l' n1 m1 z => ⟨n', m', ?_⟩⟩
  rw [upd_same, pen_inj (Option.some.inj (z.symm.trans e))]
theorem Kp.new {p st : Addr} {H1 H2 : Hp} {o : HO} (k : Kp p H1 H2) (f : H1 st = none) : Kp p H1 (upd H2 st o) :=
  ⟨fun b u e ne => by rw [upd_ne (ne_of_none e f)]; exact k.1 b u e ne, fun l n m e => by
    obtain ⟨n', m', e'⟩ := k.2 l n m e
    exact ⟨n', m', by rw [upd_ne (ne_of_none e f)]; exact e'⟩⟩
/-- D is neither the pen nor its cells -/
def Off (p D : Addr) (H : Hp) : Prop := ∃ l n m, H p = some (.lst (penL l n m)) ∧ l ≠ D ∧ p ≠ D
theorem Off.kp {p D : Addr} {H H' : Hp} (x : Off p D H) (k : Kp p H H') : Off p D H' := by
  obtain ⟨la, n, m, e, n1, n2⟩ := x
  obtain ⟨n', m', e'⟩ := k.2 _ _ _ e
  exact ⟨la, n', m', e', n1, n2⟩
theorem Off.of {p D : Addr} {H : Hp} {c : Nat} (x : Pen H p c) (f : H D = none) : Off p D H := by
  obtain ⟨la, ns, n, m, e1, e2, _⟩ := x
  exact ⟨la, n, m, e1, ne_of_none e2 f, ne_of_none e1 f⟩
theorem Off.ne {p D : Addr} {H : Hp} (x : Off p D H) : D ≠ p := by
  obtain ⟨_, _, _, _, _, n⟩ := x
  exact n.symm
theorem Off.put {p D D' : Addr} {H : Hp} {o : HO} (x : Off p D H) (n : p ≠ D') : Off p D (upd H D' o) := by
  obtain ⟨la', n', m', e', n1, n2⟩ := x
  exact ⟨la', n', m', by rw [upd_ne n]; exact e', n1, n2⟩
theorem Pen.put {p D : Addr} {H : Hp} {o : HO} {c : Nat} (x : Pen H p c) (y : Off p D H) : Pen (upd H D o) p c := by
  obtain ⟨la, ns, n, m, e1, e2, e3⟩ := x
  obtain ⟨la', n', m', e', n1, n2⟩ := y
  cases pen_inj (Option.some.inj (e1.symm.trans e'))
  exact ⟨la, ns, n, m, by rw [upd_ne n2]; exact e1, by rw [upd_ne n1]; exact e2, e3⟩
section
variable {P : Program} {w : World} {K : PySem.W.Frag} {mg : Str → Option Value} {base : Heap} {f C : Addr} {fd : FuncData}
def spPen (K : PySem.W.Frag) : Sp := fun vs H Q _ => ∃ (a : Addr) (ns : List Int), vs = [.ref a] ∧ SqL K H a (ns.map V.int) ∧ ns.length ≤ 63 ∧ ∀ p H', Same H H' → H p = none → Pen H' p 900000000 → Q (.ref p) H'
theorem ok_pen (F : Dn K d_l_pen f fd) (b : Bl mg) : FnOk P w K mg base CX0 1 f fd ["_law_script"] (spPen K) := by
  refine F.ok sc_l_pen (fun vs H Q E h => ?_) (fun cdv A outer s H vs Q E hr h => ?_)
  · obtain ⟨a, ns, rfl, _⟩ := h
    rfl
  · obtain ⟨a, ns, rfl, hS, hlen, hQ⟩ := h
    refine ⟨_, PSs.nox (pss_one (ps_ret (pe_lst (pa_cons (pe_callTy call_list_of rfl b.list boot_list (pa_cons (pe_slice sl_list (pv 0) po_none (po_some pe_int)) pa_nil)) (pa_cons pe_int (pa_cons pe_int pa_nil)))))), ?_⟩
    refine ⟨_, rfl, 63, rfl, a, _, rfl, hS, fun q hq => ⟨q, _, rfl, Or.inl (SqL.of upd_same), fun l hl => ?_⟩⟩
    refine ⟨by show 3 ≤ sizeLine; decide, fun p hp => ?_⟩
    have e : cutV (ns.map V.int) none (some 63) = (ns.take 63).map V.int := by
      unfold cutV
      simp [HT.sIx, List.map_take]
    have s1 := same_new (o := .lst (cutV (ns.map V.int) none (some 63))) hq
    have s2 := same_new (o := .lst (cutV (ns.map V.int) none (some 63))) hl
    have s3 := same_new (o := .lst (penL l 0 0)) hp
    refine hQ p _ ((s1.trans s2).trans s3) ((s1.trans s2).free hp) ⟨l, ns.take 63, 0, 0, upd_same, ?_, ?_, by decide, by decide⟩
    · rw [← e]
      exact s3 _ _ upd_same
    · exact ne_of_none upd_same hp
def spDraw : Sp := fun vs H Q _ => ∃ (p : Addr) (c : Nat) (k : Int), vs = [.ref p, .int k] ∧ Pen H p (c + 1) ∧ 0 < k ∧ k < 1073741824 ∧
  ∀ r H', 0 ≤ r → r < k → Pen H' p c → Kp p H H' → Q (.int r) H'
theorem ok_draw (F : Dn K d_l_draw f fd) (b : Bl mg) : FnOk P w K mg base CX0 1 f fd ["_law_pen_here", "_law_many"] spDraw := by
  refine F.ok sc_l_draw (fun vs H Q E h => ?_) (fun cdv A outer s H vs Q E hr h => ?_)
  · obtain ⟨p, c, k, rfl, _⟩ := h
    rfl
  · obtain ⟨p, c, k, rfl, ⟨l, ns, n, m, hp, hl, nlp, hn, hc⟩, hk0, hk1, hQ⟩ := h
    have hu64 : (A.deeper (envOfC d_l_draw.qual d_l_draw.scope s.heap.objs.size f cdv)).units + 64 < cLine := by have := hr.un; omega
    refine ⟨_, PSs.nox (pss_cons (ps_if (pt_cmpR op_gt (pe_ix ix_list (pv 0) pe_int (fun _ _ => rfl)) pe_int (nomark _))
         (pss_cons (ps_set (i := 2) sc_l_draw.nd rfl (.inl rfl) (pe_op op_mod (pe_ix ix_list (pv 0) pe_int (fun _ _ => rfl)) (pv 1)))
         (pss_cons (ps_asg (pe_op op_fdiv (pe_ix ix_list (pv 0) pe_int (fun _ _ => rfl)) (pv 1)) (pg_sub (pv 0) pe_int set_list))
         (pss_one (ps_ret (pv 2))))) pss_nil)
      (pss_cons (ps_set (i := 3) sc_l_draw.nd rfl (.inl rfl) (pe_ix ix_list (pv 0) pe_int (fun _ _ => rfl)))
      (pss_cons (ps_asg (pe_op op_add (pv 3) pe_int) (pg_sub (pv 0) pe_int set_list))
      (pss_cons (ps_set (i := 4) sc_l_draw.nd rfl (.inl rfl) pe_int)
      (C8.pss_cut (ps_if (pt_cmpR (op_neD hu64) (pe_ix ix_list (pv 0) pe_int (fun _ _ => rfl)) (pe_lst pa_nil) (nomark _))
        (pss_one (ps_set (i := 4) sc_l_draw.nd rfl (.inl rfl) (pe_ix ix_list (pe_ix ix_list (pv 0) pe_int (fun _ _ => rfl)) (pe_op op_mod (pv 3) (pe_callB call_len_seq rfl b.len boot_len (pa_cons (pe_ix ix_list (pv 0) pe_int (fun _ _ => rfl)) pa_nil))) (fun _ _ => rfl)))) pss_nil)
      (pss_cons (ps_if (PW.pt (pw_and (pt_cmpR op_ge (pv 4) (pe_op op_pow pe_int pe_int) (nomark _)) (pw_and1 (pt_cmpR op_lt (pv 3) (pe_callB call_len_seq rfl b.len boot_len (pa_cons (pe_ix ix_list (pv 0) pe_int (fun _ _ => rfl)) pa_nil)) (nomark _)))))
         (pss_cons (ps_asg (pe_op op_fdiv (pv 4) (pv 1)) (pg_sub (pv 0) pe_int set_list))
         (pss_one (ps_ret (pe_op op_mod (pv 4) (pv 1))))) pss_nil)
      (pss_cons (ps_set (i := 5) sc_l_draw.nd rfl (.inl rfl) (pe_op op_mod (pe_op op_add (pe_op op_add (pe_op op_add (pe_op op_mul (pe_op op_mod (pv 4) pe_int) pe_int) (pe_op op_mul (pe_op op_mul pe_int (pv 3)) (pv 3))) (pe_op op_mul pe_int (pv 3))) pe_int) pe_int))
      (pss_cons (ps_set (i := 5) sc_l_draw.nd rfl (.inl rfl) (pe_op op_mod (pe_op op_mul (pv 5) (pe_op op_add (pe_op op_mod (pv 5) pe_int) pe_int)) pe_int))
      (pss_one (ps_ret (pe_op op_mod (pe_op op_fdiv (pe_op op_mod (pe_op op_add (pe_op op_mul (pv 5) pe_int) (pv 3)) pe_int) pe_int) (pv 1)))))))))))), ?_⟩
    have cM : ∀ x y : Int, 0 < y → (0 ≤ x % y ∧ x % y < y) := fun x y hy => ⟨Int.emod_nonneg _ (by omega), Int.emod_lt_of_pos _ hy⟩
    have i2 : ∀ {n m : Int}, atI (penL l n m) 2 = some (.int m) := atI_nat (j := 2) rfl
    have i1 : ∀ {n m : Int}, atI (penL l n m) 1 = some (.int n) := atI_nat (j := 1) rfl
    have i0 : ∀ {n m : Int}, atI (penL l n m) 0 = some (.ref l) := atI_nat (j := 0) rfl
    refine ⟨_, rfl, p, _, _, _, rfl, rfl, SqL.of hp, i2, _, _, rfl, rfl, _, rfl, ?_⟩
    refine ite2 (fun h1 => ?_) (fun h1 => ?_)
    · refine ⟨_, rfl, p, _, _, _, rfl, rfl, SqL.of hp, i2, _, rfl, _, _, rfl, rfl, hk0, ?_⟩
      refine ⟨_, rfl, p, _, _, _, rfl, rfl, SqL.of hp, i2, _, rfl, _, _, rfl, rfl, ⟨hk0, hk1⟩, _, rfl, p, _, _, 2, rfl, rfl, hp, rfl, ?_⟩
      refine ⟨_, rfl, hQ _ _ (cM _ _ hk0).1 (cM _ _ hk0).2 ⟨l, ns, n, m / k, upd_same, ?_, nlp, hn, by omega⟩ (Kp.put n (m / k) hp)⟩
      rw [upd_ne nlp]
      exact hl
    · refine ⟨_, rfl, p, _, _, _, rfl, rfl, SqL.of hp, i1, ?_⟩
      refine ⟨_, rfl, _, _, rfl, rfl, _, rfl, p, _, _, 1, rfl, rfl, hp, rfl, ?_⟩
      have hp1 : (upd H p (.lst (penL l (n + 1) m))) p = some (.lst (penL l (n + 1) m)) := upd_same
      have hl1 : (upd H p (.lst (penL l (n + 1) m))) l = some (.lst (ns.map V.int)) := by rw [upd_ne nlp]; exact hl
      have kp1 : Kp p H (upd H p (.lst (penL l (n + 1) m))) := Kp.put _ _ hp
      refine ⟨fun σ' H' => ∃ (cell : Int), σ' = [some (.ref p), some (.int k), none, some (.int n), some (.int cell), none] ∧ H' p = some (.lst (penL l (n + 1) m)) ∧ H' l = some (.lst (ns.map V.int)) ∧ Kp p H H', ?_, ?_⟩
      · refine ⟨_, rfl, p, _, _, _, rfl, rfl, SqL.of hp1, i0, (by show 0 ≤ sizeLine; decide), fun e he => ?_⟩
        have s2 := same_new (o := .lst []) he
        have hp2 := s2 _ _ hp1
        have hl2 := s2 _ _ hl1
        have kp2 := kp1.trans (Kp.same s2)
        refine ⟨.list (ns.map .int), .list [], Dp.lst (SqL.of hl2) (dpInts ns), Dp.lst (SqL.of upd_same) .nil, PySem.W.ke_shaped_ints ns, by decide, _, rfl, ?_⟩
        cases ns with
        | nil => exact iteF ⟨5, rfl, hp2, hl2, kp2⟩
        | cons z zs =>
          refine iteT ?_
          have hlen : (0 : Int) < (((z :: zs).map V.int).length : Int) := by simp
          refine ⟨_, rfl, p, _, _, _, rfl, rfl, SqL.of hp2, i0, _, rfl, _, rfl, p, _, _, _, rfl, rfl, SqL.of hp2, i0, l, _, rfl, Or.inl (SqL.of hl2), _, _, rfl, rfl, hlen, ?_⟩
          obtain ⟨q, hq⟩ := Int.eq_ofNat_of_zero_le (cM n _ hlen).1
          have hq2 := (cM n _ hlen).2
          rw [hq] at hq2
          have hq3 : q < (z :: zs).length := by rw [List.length_map] at hq2; omega
          refine ⟨l, _, _, .int ((z :: zs)[q]), rfl, rfl, SqL.of hl2, (by rw [hq]; exact atI_nat (by rw [List.getElem?_map, List.getElem?_eq_getElem hq3]; rfl)), ?_⟩
          exact ⟨_, rfl, hp2, hl2, kp2⟩
      · rintro σ' H' ⟨cell, rfl, hp2, hl2, kp2⟩
        have stay0 : Pen H' p c := ⟨l, ns, n + 1, m, hp2, hl2, nlp, by omega, by omega⟩
        have last : ∀ D : Ends, D.rt = Q → tSeq (tAsg (tOp (rI (fun _ j => 0 < j) fun i j => .int (i % j)) (tOp (rI0 fun i j => .int (i + j)) (tOp (rI0 fun i j => .int (i + j)) (tOp (rI0 fun i j => .int (i + j))
            (tOp (rI CMul fun i j => .int (i * j)) (tOp (rI (fun _ j => 0 < j) fun i j => .int (i % j)) (tVar 4) (tC (.int 2147483629))) (tC (.int 40503))) (tOp (rI CMul fun i j => .int (i * j)) (tOp (rI CMul fun i j => .int (i * j)) (tC (.int 7919)) (tVar 3)) (tVar 3)))
            (tOp (rI CMul fun i j => .int (i * j)) (tC (.int 104729)) (tVar 3))) (tC (.int 29))) (tC (.int 2147483647))) (gName 5))
          (tSeq (tAsg (tOp (rI (fun _ j => 0 < j) fun i j => .int (i % j)) (tOp (rI CMul fun i j => .int (i * j)) (tVar 5) (tOp (rI0 fun i j => .int (i + j)) (tOp (rI (fun _ j => 0 < j) fun i j => .int (i % j)) (tVar 5) (tC (.int 65003))) (tC (.int 3)))) (tC (.int 2147483587))) (gName 5))
          (tRet (tOp (rI (fun _ j => 0 < j) fun i j => .int (i % j)) (tOp (rI CDiv fun i j => .int (i / j)) (tOp (rI (fun _ j => 0 < j) fun i j => .int (i % j)) (tOp (rI0 fun i j => .int (i + j)) (tOp (rI CMul fun i j => .int (i * j)) (tVar 5) (tC (.int 69621))) (tVar 3)) (tC (.int 2147483563))) (tC (.int 16))) (tVar 1)))) D [some (.ref p), some (.int k), none, some (.int n), some (.int cell), none] H' := by
          intro D hD
          refine ⟨_, rfl, _, _, rfl, rfl, (by decide : (0 : Int) < 2147483629), _, _, rfl, rfl, cb_r (by decide) (by decide), _, rfl, _, _, rfl, rfl, cb_l (by decide) (by decide), _, rfl, _, _, rfl, rfl, cb_r (by omega) (by omega), _, _, rfl, rfl, ?_⟩
          refine ⟨_, rfl, _, _, rfl, rfl, cb_l (by decide) (by decide), _, _, rfl, rfl, _, _, rfl, rfl, _, _, rfl, rfl, (by decide : (0 : Int) < 2147483647), ?_⟩
          refine ⟨_, rfl, _, rfl, _, _, rfl, rfl, (by decide : (0 : Int) < 65003), _, _, rfl, rfl, _, _, rfl, rfl, ?_, _, _, rfl, rfl, (by decide : (0 : Int) < 2147483587), ?_⟩
          · refine cb_l ?_ ?_
            · exact Int.lt_of_lt_of_le (by decide) (cM _ 2147483647 (by decide)).1
            · exact Int.lt_trans (cM _ 2147483647 (by decide)).2 (by decide)
          refine ⟨_, rfl, _, _, rfl, rfl, cb_r (by decide) (by decide), _, rfl, _, _, rfl, rfl, _, _, rfl, rfl, (by decide : (0 : Int) < 2147483563), _, _, rfl, rfl, ⟨by decide, by decide⟩, _, rfl, _, _, rfl, rfl, hk0, ?_⟩
          rw [hD]
          exact hQ _ _ (cM _ _ hk0).1 (cM _ _ hk0).2 stay0 kp2
        refine ⟨_, rfl, _, _, rfl, rfl, ⟨by decide, by decide, by decide⟩, _, _, rfl, rfl, _, rfl, ?_⟩
        refine ite2 (fun g1 => ?_) (fun g1 => iteF (last _ rfl))
        refine ⟨_, rfl, _, rfl, p, _, _, _, rfl, rfl, SqL.of hp2, i0, l, _, rfl, Or.inl (SqL.of hl2), _, _, rfl, rfl, _, rfl, ?_⟩
        refine ite2 (fun g2 => ?_) (fun g2 => last _ rfl)
        refine ⟨_, rfl, _, rfl, _, _, rfl, rfl, ⟨hk0, hk1⟩, _, rfl, p, _, _, 2, rfl, rfl, hp2, rfl, ?_⟩
        refine ⟨_, rfl, _, rfl, _, _, rfl, rfl, hk0, ?_⟩
        refine hQ _ _ (cM _ _ hk0).1 (cM _ _ hk0).2 ⟨l, ns, n + 1, cell / k, upd_same, ?_, nlp, by omega, by omega⟩ (kp2.trans (Kp.put (n + 1) (cell / k) hp2))
        rw [upd_ne nlp]
        exact hl2
end
end K08
set_option Elab.async false
set_option linter.all false
set_option maxRecDepth 100000
set_option maxHeartbeats 4000000
/-! NM: the names that a law draws: words by a base, a place, a spot and a way. -/
namespace NM
open PySem PySem.Spec
def ok (l : List Nat) : Prop := 1 ≤ l.length ∧ l.length ≤ 8 ∧ ∀ c ∈ l, 97 ≤ c ∧ c ≤ 122
def words : List (List Nat) := [[108, 97, 116, 101], [105, 110], [111, 117, 116], [114, 105, 100, 101], [104, 97, 110, 100], [108, 97, 99, 107], [121, 101, 115], [110, 111], [110, 97, 109, 101, 115], [103, 111, 110, 101], [116, 101, 120, 116], [112, 108, 97, 110], [117, 110, 100, 111], [117, 115, 117, 97, 108], [98, 97, 99, 107], [108, 101, 97, 118, 101]]
def lets : List Nat := (List.range 26).map (97 + ·)
def w0 (bs : List Nat) (at_ spot k : Nat) : List Nat := bs.take at_ ++ [97 + (spot + 5 * k) % 26] ++ bs.drop (at_ + 1)
def w1 (bs : List Nat) (at_ spot k : Nat) : List Nat := (w0 bs at_ spot k).take (bs.length - k % (bs.length - at_))
def w2 (spot k : Nat) : List Nat := (List.replicate 8 (97 + (spot + k / 8) % 26)).take (k % 8 + 1)
def w3 (spot k : Nat) : List Nat := words.getD ((spot + k) % 16) []
def word (bs : List Nat) (at_ spot way k : Nat) : List Nat := if way = 1 then w1 bs at_ spot k else if way = 2 then w2 spot k else if way = 3 then w3 spot k else w0 bs at_ spot k
theorem words_ok : ∀ i, i < 16 → ok (words.getD i []) := by
  have : ∀ i : Fin 16, 1 ≤ (words.getD i.1 []).length ∧ (words.getD i.1 []).length ≤ 8 ∧ (words.getD i.1 []).all (fun c => decide (97 ≤ c ∧ c ≤ 122)) = true := by decide +kernel
  intro i hi
  obtain ⟨h1, h2, h3⟩ := this ⟨i, hi⟩
  refine ⟨h1, h2, fun c hc => ?_⟩
  have := List.all_eq_true.mp h3 c hc
  exact of_decide_eq_true this
theorem words_inj : ∀ i j, i < 16 → j < 16 → words.getD i [] = words.getD j [] → i = j := by
  have : ∀ i j : Fin 16, words.getD i.1 [] = words.getD j.1 [] → i = j := by decide +kernel
  intro i j hi hj e
  exact congrArg Fin.val (this ⟨i, hi⟩ ⟨j, hj⟩ e)
section
variable {bs : List Nat} {at_ spot k : Nat}
theorem w0_len (h : at_ < bs.length) : (w0 bs at_ spot k).length = bs.length := by
  unfold w0
  simp only [List.length_append, List.length_take, List.length_drop, List.length_cons, List.length_nil]
  omega
theorem w0_at (h : at_ < bs.length) : (w0 bs at_ spot k)[at_]? = some (97 + (spot + 5 * k) % 26) := by
  unfold w0
  rw [List.append_assoc, List.getElem?_append_right (by rw [List.length_take]; omega), List.length_take, Nat.min_eq_left (by omega), Nat.sub_self]
  rfl
theorem w0_mem (hb : ∀ c ∈ bs, 97 ≤ c ∧ c ≤ 122) : ∀ c ∈ w0 bs at_ spot k, 97 ≤ c ∧ c ≤ 122 := by
  intro c hc
  unfold w0 at hc
  rcases List.mem_append.mp hc with hc | hc
  · rcases List.mem_append.mp hc with hc | hc
    · exact hb c (List.mem_of_mem_take hc)
    · rw [List.mem_singleton] at hc
      omega
  · exact hb c (List.mem_of_mem_drop hc)
theorem w1_len (h : at_ < bs.length) : at_ + 1 ≤ (w1 bs at_ spot k).length ∧ (w1 bs at_ spot k).length ≤ bs.length := by
  unfold w1
  rw [List.length_take, w0_len h]
  have := Nat.mod_lt k (show 0 < bs.length - at_ by omega)
  omega
theorem w1_at (h : at_ < bs.length) : (w1 bs at_ spot k)[at_]? = some (97 + (spot + 5 * k) % 26) := by
  have h1 := (w1_len (spot := spot) (k := k) h).1
  unfold w1 at h1 ⊢
  rw [List.length_take, w0_len h] at h1
  rw [List.getElem?_take_of_lt (by omega)]
  exact w0_at h
theorem spot_inj {i j : Nat} (hi : i < 16) (hj : j < 16) (e : 97 + (spot + 5 * i) % 26 = 97 + (spot + 5 * j) % 26) : i = j := by omega
theorem word_ok (hb0 : 1 ≤ bs.length) (hb8 : bs.length ≤ 8) (hb : ∀ c ∈ bs, 97 ≤ c ∧ c ≤ 122) (h : at_ < bs.length) (way : Nat) : ok (word bs at_ spot way k) := by
  unfold word
  split
  · have := w1_len (spot := spot) (k := k) h
    exact ⟨by omega, by omega, fun c hc => w0_mem hb c (List.mem_of_mem_take hc)⟩
  split
  · unfold w2
    refine ⟨by rw [List.length_take, List.length_replicate]; omega, by rw [List.length_take, List.length_replicate]; omega, fun c hc => ?_⟩
    have := List.eq_of_mem_replicate (List.mem_of_mem_take hc)
    omega
  split
  · exact words_ok _ (Nat.mod_lt _ (by decide))
  · exact ⟨by rw [w0_len h]; exact hb0, by rw [w0_len h]; exact hb8, w0_mem hb⟩
theorem word_inj (h : at_ < bs.length) (way : Nat) {i j : Nat} (hi : i < 16) (hj : j < 16) (e : word bs at_ spot way i = word bs at_ spot way j) : i = j := by
  unfold word at e
  split at e
  · have h1 := w1_at (spot := spot) (k := i) h
    rw [e, w1_at h] at h1
    exact (spot_inj hj hi (Option.some.inj h1)).symm
  split at e
  · unfold w2 at e
    have hl := congrArg List.length e
    rw [List.length_take, List.length_take, List.length_replicate, List.length_replicate] at hl
    have h0 : ((List.replicate 8 (97 + (spot + i / 8) % 26)).take (i % 8 + 1))[0]? = ((List.replicate 8 (97 + (spot + j / 8) % 26)).take (j % 8 + 1))[0]? := by rw [e]
    rw [List.getElem?_take_of_lt (by omega), List.getElem?_take_of_lt (by omega), List.getElem?_replicate, List.getElem?_replicate, if_pos (by decide), if_pos (by decide)] at h0
    have := Option.some.inj h0
    omega
  split at e
  · have := words_inj _ _ (Nat.mod_lt _ (by decide)) (Nat.mod_lt _ (by decide)) e
    omega
  · have h1 := w0_at (spot := spot) (k := i) h
    rw [e, w0_at h] at h1
    exact (spot_inj hj hi (Option.some.inj h1)).symm
/-- as many as are asked: unlike ones -/
theorem all_unlike (h : at_ < bs.length) (way n : Nat) (hn : n ≤ 16) : ((List.range n).map (word bs at_ spot way)).Pairwise (· ≠ ·) := by
  rw [List.pairwise_map]
  refine (List.pairwise_lt_range (n := n)).imp_of_mem fun {a b} ha hb hlt e => ?_
  have := word_inj h way (by have := List.mem_range.mp ha; omega) (by have := List.mem_range.mp hb; omega) e
  omega
end
end NM
set_option Elab.async false
set_option linter.all false
set_option maxRecDepth 100000
set_option maxHeartbeats 4000000
namespace K08
open PySem PySem.Spec PyProof.Rows L2
open C8 (Cal Mak Met pe_c pe_mk pe_mt pe_mt0)
open SX (S)
theorem lets_S : (Str.ofString "abcdefghijklmnopqrstuvwxyz").cps.toList = NM.lets := by decide +kernel
theorem words_S : Txt.split (Str.ofString "late in out ride hand lack yes no names gone text plan undo usual back leave") (Str.ofString " ") = NM.words.map S := by decide +kernel
theorem at_lets {x : Int} {j : Nat} (e : x = (j : Int)) (hj : j < 26) : atI (Str.ofString "abcdefghijklmnopqrstuvwxyz").cps.toList x = some (97 + j) := by
  rw [e, lets_S]
  refine atI_nat ?_
  unfold NM.lets
  rw [List.getElem?_map, List.getElem?_range hj]
  rfl
theorem cut_t {l : List Nat} {x : Int} {j : Nat} (e : x = (j : Int)) (h : j ≤ l.length) : cutS (S l) none (some x) = S (l.take j) := by
  rw [e]
  unfold cutS
  rw [HT.sIx_nat, HT.sIx_none, SX.S_len, Nat.min_eq_left h]
  simp [S]
theorem cut_d {l : List Nat} {x : Int} {j : Nat} (e : x = (j : Int)) (h : j ≤ l.length) : cutS (S l) (some x) none = S (l.drop j) := by
  rw [e]
  unfold cutS
  rw [HT.sIx_nat, HT.sIx_none, SX.S_len, Nat.min_eq_left h]
  simp [S, List.take_of_length_le]
theorem ones : ∀ bs : List Nat, ((bs.map fun c => S [c]).map (·.length)).sum = bs.length
  | [] => rfl
  | b :: bs => by
    rw [List.map_cons, List.map_cons, List.sum_cons, ones bs, List.length_cons, SX.S_len]
    simp
    omega
theorem joined : ∀ bs : List Nat, TL.joinL [] (bs.map fun c => [c]) = bs
  | [] => rfl
  | [b] => rfl
  | b :: d :: bs => by
    have := joined (d :: bs)
    simp only [List.map_cons, TL.joinL] at this ⊢
    simp [this]
/-- a sign eight times -/
theorem op_eight {X : Cx} : OpR X (binaryOp .Mult) (fun x y H Q => ∃ c : Nat, x = .str ⟨#[c]⟩ ∧ y = .int 8 ∧ Q (.str (S (List.replicate 8 c))) H) := by
  intro pins s σ H x y v u Q I rx ry h
  obtain ⟨c, rfl, rfl, q⟩ := h
  obtain ⟨t, rfl⟩ := rx
  obtain ⟨t', rfl⟩ := ry
  refine PySem.P.mul_str (by decide) (fun _ _ => by show ¬ ((1 : Int) > (2 ^ 63 - 1) / 8); decide) (fun _ _ => by show Builtin.Str.tooLong 8 = false; decide) ?_
  rw [if_neg (by decide), if_neg (by show ¬ ((8 : Int) == 1 || (1 : Nat) == 0) = true; decide)]
  exact ⟨by show 8 ≤ _; decide, ⟨.str (S (List.replicate 8 c)), H, I.tok _, ⟨_, rfl⟩, q⟩⟩
section
variable {P : Program} {w : World} {K : PySem.W.Frag} {mg : Str → Option Value} {base : Heap} {f C : Addr} {fd : FuncData}
abbrev CalD (P : Program) (w : World) (K : PySem.W.Frag) (mg : Str → Option Value) (base : Heap) : Prop := Cal P w K mg base 1 "_law_draw" spDraw []
def spNames : Sp := fun vs H Q _ => ∃ (p : Addr) (c n : Nat), vs = [.ref p, .int n] ∧ Pen H p (c + 40) ∧ n ≤ 16 ∧
  ∀ (o : Addr) (zs : List (List Nat)) (H' : Hp), Pen H' p c → Kp p H H' → H o = none → Off p o H' → H' o = some (.lst (zs.map fun l => V.str (S l))) → zs.length = n → (∀ z ∈ zs, NM.ok z) → zs.Pairwise (· ≠ ·) → Q (.ref o) H'
theorem ok_names (F : Dn K d_l_names f fd) (bl : Bl mg) (cD : CalD P w K mg base) : FnOk P w K mg base CX0 2 f fd ["_law_pen_here", "_law_many"] spNames := by
  refine F.ok sc_l_names (fun vs H Q E h => ?_) (fun cdv A outer s H vs Q E hr h => ?_)
  · obtain ⟨p, c, n, rfl, _⟩ := h
    rfl
  · obtain ⟨p, c, n, rfl, pen, hn, hQ⟩ := h
    refine ⟨_, PSs.nox (pss_cons (ps_set (i := 2) sc_l_names.nd rfl (.inr rfl) pe_str)
      (pss_cons (ps_set (i := 3) sc_l_names.nd rfl (.inl rfl) (pe_split pe_str pe_str))
      (pss_cons (ps_set (i := 4) sc_l_names.nd rfl (.inl rfl) (pe_op op_add pe_int (pe_c cD hr (by decide) rfl (pa_cons (pv 0) (pa_cons pe_int pa_nil)))))
      (C8.pss_cut (ps_set (i := 6) sc_l_names.nd rfl (.inl rfl) (pe_join pe_str (pe_lc (own := [("_law_k", 5)]) (g := gName 5) (tt := tYes) rfl sc_l_names.nd (pi_range1 rfl bl.range (pa_cons (pv 4) pa_nil)) (blkOk_by (N := N_l_names) (sc := defScope s_l_names) (by decide +kernel))
          (fun _ _ _ _ _ => pg_name (i := 5) sc_l_names.nd rfl (Or.inl rfl)) (fun _ _ _ _ _ => pts_nil) (fun _ _ _ _ _ => pe_ix ix_str (pv 2) (pe_c cD hr (by decide) rfl (pa_cons (pv 0) (pa_cons pe_int pa_nil))) (fun _ _ => rfl)))))
      (pss_cons (ps_par3 (i := 7) (j := 8) (l := 9) rfl sc_l_names.nd rfl rfl rfl (by decide) (by decide) (by decide) rfl rfl rfl (pa_cons (pe_c cD hr (by decide) rfl (pa_cons (pv 0) (pa_cons (pv 4) pa_nil))) (pa_cons (pe_c cD hr (by decide) rfl (pa_cons (pv 0) (pa_cons pe_int pa_nil)))
          (pa_cons (pe_op op_mod (pe_c cD hr (by decide) rfl (pa_cons (pv 0) (pa_cons pe_int pa_nil))) pe_int) pa_nil))) rfl)
      (pss_cons (ps_set (i := 10) sc_l_names.nd rfl (.inl rfl) (pe_lst pa_nil))
      (pss_cons (ps_for PassesOwn.never rfl (pi_range1 rfl bl.range (pa_cons (pv 1) pa_nil)) (pg_name (i := 5) sc_l_names.nd rfl (.inl rfl))
        (pss_cons (ps_set (i := 11) sc_l_names.nd rfl (.inl rfl) (pe_op op_add_str (pe_op op_add_str (pe_slice sl_str (pv 6) po_none (po_some (pv 7))) (pe_ix ix_str (pv 2) (pe_op op_mod (pe_op op_add (pv 8) (pe_op op_mul pe_int (pv 5))) pe_int) (fun _ _ => rfl)))
            (pe_slice sl_str (pv 6) (po_some (pe_op op_add (pv 7) pe_int)) po_none)))
        (C8.pss_cut (ps_if (pt_cmpR op_eq (pv 9) pe_int (nomark _)) (pss_one (ps_set (i := 11) sc_l_names.nd rfl (.inl rfl) (pe_slice sl_str (pv 11) po_none (po_some (pe_op op_sub (pv 4) (pe_op op_mod (pv 5) (pe_op op_sub (pv 4) (pv 7)))))))) pss_nil)
        (C8.pss_cut (ps_if (pt_cmpR op_eq (pv 9) pe_int (nomark _)) (pss_one (ps_set (i := 11) sc_l_names.nd rfl (.inl rfl) (pe_slice sl_str (pe_op op_eight (pe_ix ix_str (pv 2) (pe_op op_mod (pe_op op_add (pv 8) (pe_op op_fdiv (pv 5) pe_int)) pe_int) (fun _ _ => rfl)) pe_int) po_none
            (po_some (pe_op op_add (pe_op op_mod (pv 5) pe_int) pe_int))))) pss_nil)
        (C8.pss_cut (ps_if (pt_cmpR op_eq (pv 9) pe_int (nomark _)) (pss_one (ps_set (i := 11) sc_l_names.nd rfl (.inl rfl) (pe_ix ix_list (pv 3) (pe_op op_mod (pe_op op_add (pv 8) (pv 5)) pe_int) (fun _ _ => rfl)))) pss_nil)
        (pss_one (ps_expr (pe_bm PySem.F.plainAttrs_list PySem.F.slot_list_insert PySem.F.type_list_insert mt_insert (pv 10) (pa_cons (pe_c cD hr (by decide) rfl (pa_cons (pv 0) (pa_cons (pe_op op_add (pe_callB call_len_seq rfl bl.len boot_len (pa_cons (pv 10) pa_nil)) pe_int) pa_nil))) (pa_cons (pv 11) pa_nil))))))))))
      (pss_one (ps_ret (pv 10)))))))))), ?_⟩
    -- the words
    refine ⟨⟨_, rfl⟩, _, _, rfl, rfl, by decide +kernel, by decide +kernel, fun wl fwl => ?_⟩
    rw [words_S]
    have s1 := same_new (o := .lst ((NM.words.map S).map V.str)) fwl
    have hwl := upd_same (H := H) (a := wl) (o := .lst ((NM.words.map S).map V.str))
    have pen1 := pen.same s1
    have off1 : Off p wl (upd H wl (.lst ((NM.words.map S).map V.str))) := (Off.of pen fwl).kp (Kp.same s1)
    generalize upd H wl (.lst ((NM.words.map S).map V.str)) = H1 at s1 hwl pen1 off1 ⊢
    -- the size
    refine ⟨_, rfl, p, c + 39, _, rfl, pen1, by decide, by decide, fun z0 H2 a2 b2 pen2 k2 => ?_⟩
    refine ⟨_, _, rfl, rfl, ?_⟩
    obtain ⟨sz, hsz⟩ := Int.eq_ofNat_of_zero_le (show 0 ≤ 1 + z0 by omega)
    have sz1 : 1 ≤ sz := by omega
    have sz8 : sz ≤ 8 := by omega
    have hwl2 := k2.1 _ _ hwl off1.ne
    have off2 := off1.kp k2
    -- the base
    refine ⟨fun σ' H' => ∃ bs : List Nat, σ' = [some (.ref p), some (.int n), some (.str (Str.ofString "abcdefghijklmnopqrstuvwxyz")), some (.ref wl), some (.int (sz : Int)), none, some (.str (S bs)), none, none, none, none, none] ∧ bs.length = sz ∧ (∀ c ∈ bs, 97 ≤ c ∧ c ≤ 122) ∧
      Pen H' p (c + 30) ∧ Kp p H H' ∧ H' wl = some (.lst ((NM.words.map S).map V.str)) ∧ Off p wl H', ?_, ?_⟩
    · refine ⟨⟨_, rfl⟩, _, rfl, _, rfl, by omega, by omega, ?_⟩
      rw [hsz, Int.toNat_natCast]
      intro D hD
      have offD := Off.of pen2 hD
      have sD := same_new (o := .lst []) hD
      refine lc_range (n := sz) (fun i H3 => ∃ bs : List Nat, bs.length = i ∧ (∀ c ∈ bs, 97 ≤ c ∧ c ≤ 122) ∧ H3 D = some (.lst (bs.map fun c => V.str (S [c]))) ∧ Pen H3 p (c + 39 - i) ∧ Kp p H2 H3 ∧ Off p D H3) ?_ ?_ ?_
      · exact ⟨[], rfl, by simp, upd_same, pen2.same sD, Kp.same sD, offD.kp (Kp.same sD)⟩
      · rintro i H3 hi ⟨bs, hbl, hbc, hd, pen3, k3, off3⟩
        refine ⟨rfl, ?_⟩
        refine ⟨_, rfl, _, rfl, p, c + 39 - (i + 1), _, rfl, pen3.weak (by omega), by decide, by decide, fun r H4 r0 r1 pen4 k4 => ?_⟩
        obtain ⟨rn, rfl⟩ := Int.eq_ofNat_of_zero_le r0
        have hd4 := k4.1 _ _ hd off3.ne
        have off4 := off3.kp k4
        refine ⟨_, _, 97 + rn, rfl, rfl, by decide +kernel, at_lets rfl (by omega), _, hd4, ?_, bs ++ [97 + rn], by simp [hbl], ?_, ?_, pen4.put off4, (k3.trans k4).new hD, ?_⟩
        · rw [List.length_map, hbl]
          exact Nat.lt_of_lt_of_le (by omega : i < 64) (by decide)
        · intro c' hc'
          rcases List.mem_append.mp hc' with hc' | hc'
          · exact hbc c' hc'
          · rw [List.mem_singleton] at hc'
            omega
        · rw [upd_same]
          simp [S]
        · exact off4.put (by obtain ⟨_, _, _, _, _, z⟩ := off4; exact z)
      · rintro H3 ⟨bs, hbl, hbc, hd, pen3, k3, off3⟩
        have ey : (bs.map fun c => V.str (S [c])) = (bs.map fun c => S [c]).map V.str := by rw [List.map_map]; rfl
        refine ⟨_, D, bs.map fun c => S [c], rfl, rfl, .inl (by rw [← ey]; exact SqL.of hd), ?_, bs, ?_, hbl, hbc, pen3.weak (by omega), ((Kp.same s1).trans k2).trans k3, k3.1 _ _ hwl2 off2.ne, off2.kp k3⟩
        · have e1 : ((bs.map fun c => S [c]).map (·.length)).sum = bs.length := by
            exact ones bs
          rw [e1, List.length_map]
          have e2 : (Str.ofString "").length = 0 := by decide +kernel
          rw [e2, hbl]
          omega
        · have e3 : Txt.join (Str.ofString "") (bs.map fun c => S [c]) = S bs := by
            have e4 : Str.ofString "" = S [] := by decide +kernel
            have e5 : (bs.map fun c => S [c]) = (bs.map fun c => [c]).map S := by rw [List.map_map]; rfl
            rw [e4, e5, SX.join_S]
            rw [joined]
          rw [e3]
          rw [← hsz]
          rfl
    clear pen pen1 pen2 k2 hwl hwl2 off1 off2 s1
    rintro σ' H3 ⟨bs, rfl, hbl, hbc, pen3, k3, hwl3, offw3⟩
    refine ⟨_, rfl, _, rfl, p, c + 29, _, rfl, pen3, by omega, by omega, fun at_ H4 a4 b4 pen4 k4 => ?_⟩
    refine ⟨_, rfl, p, c + 28, _, rfl, pen4, by decide, by decide, fun spot H5 a5 b5 pen5 k5 => ?_⟩
    refine ⟨_, rfl, p, c + 27, _, rfl, pen5, by decide, by decide, fun way0 H6 a6 b6 pen6 k6 => ?_⟩
    refine ⟨_, _, rfl, rfl, (by decide : (0 : Int) < 4), _, _, _, rfl, ?_⟩
    obtain ⟨at_, rfl⟩ := Int.eq_ofNat_of_zero_le a4
    obtain ⟨spot, rfl⟩ := Int.eq_ofNat_of_zero_le a5
    obtain ⟨way, hway⟩ := Int.eq_ofNat_of_zero_le (show 0 ≤ way0 % 4 by omega)
    have hat : at_ < bs.length := by omega
    have k36 := (k4.trans k5).trans k6
    have k06 := k3.trans k36
    have hwl6 := k36.1 _ _ hwl3 offw3.ne
    have offw6 := offw3.kp k36
    clear k4 k5 k6 pen4 pen5
    refine ⟨by show 0 ≤ sizeLine; decide, fun o fo => ?_⟩
    have so := same_new (o := .lst []) fo
    refine ⟨_, rfl, _, rfl, by omega, by omega, ?_⟩
    rw [Int.toNat_natCast]
    refine for_range (n := n) (fun i σ H7 => ∃ (zs : List (List Nat)) (v5 v11 : Option V), σ = [some (.ref p), some (.int n), some (.str (Str.ofString "abcdefghijklmnopqrstuvwxyz")), some (.ref wl), some (.int (sz : Int)), v5, some (.str (S bs)), some (.int (at_ : Int)), some (.int (spot : Int)), some (.int (way0 % 4)), some (.ref o), v11] ∧
        H7 o = some (.lst (zs.map fun l => V.str (S l))) ∧ zs.Perm ((List.range i).map (NM.word bs at_ spot way)) ∧ Pen H7 p (c + 27 - i) ∧ Kp p H6 H7 ∧ Off p o H7)
      ⟨[], none, none, rfl, upd_same, List.Perm.refl _, pen6.same so, Kp.same so, (Off.of pen6 fo).kp (Kp.same so)⟩ ?_ ?_
    · rintro i σ H7 hi ⟨zs, v5, v11, rfl, ho7, perm7, pen7, k7, off7⟩
      have hwl7 := k7.1 _ _ hwl6 offw6.ne
      have zl : zs.length = i := by rw [perm7.length_eq, List.length_map, List.length_range]
      have len0 : (S bs).length ≤ sizeLine := by rw [SX.S_len]; exact Nat.le_trans (by omega : bs.length ≤ 8) (by decide)
      have lets_len : (Str.ofString "abcdefghijklmnopqrstuvwxyz").length ≤ sizeLine := by decide +kernel
      have e5 : ((spot : Int) + 5 * (0 + (i : Int))) % 26 = (((spot + 5 * i) % 26 : Nat) : Int) := by omega
      -- the word
      refine ⟨_, rfl, _, rfl, _, rfl, _, rfl, len0, ?_⟩
      rw [cut_t rfl (by omega)]
      refine ⟨_, rfl, _, rfl, _, rfl, _, _, rfl, rfl, cb_l (by decide) (by decide), _, _, rfl, rfl, _, _, rfl, rfl, (by decide : (0 : Int) < 26), _, _, _, rfl, rfl, lets_len, at_lets e5 (Nat.mod_lt _ (by decide)), _, _, rfl, rfl, ?_, ?_⟩
      · rw [SX.S_len, List.length_take]
        exact Nat.le_trans (by show min at_ bs.length + 1 ≤ 64; omega) (by decide)
      refine ⟨_, rfl, _, rfl, _, _, rfl, rfl, _, rfl, _, rfl, len0, ?_⟩
      rw [cut_d (j := at_ + 1) (by omega) (by omega)]
      have ec : S (bs.take at_) ++ (⟨#[97 + (spot + 5 * i) % 26]⟩ : Str) = S (bs.take at_ ++ [97 + (spot + 5 * i) % 26]) := SX.S_cat _ _
      rw [ec]
      refine ⟨_, _, rfl, rfl, ?_, ?_⟩
      · rw [SX.S_len, SX.S_len, List.length_append, List.length_take, List.length_drop]
        exact Nat.le_trans (by show min at_ bs.length + 1 + (bs.length - (at_ + 1)) ≤ 64; omega) (by decide)
      rw [SX.S_cat]
      have ew0 : bs.take at_ ++ [97 + (spot + 5 * i) % 26] ++ bs.drop (at_ + 1) = NM.w0 bs at_ spot i := rfl
      rw [ew0]
      -- cut short
      refine ⟨fun σ' H' => H' = H7 ∧ σ' = [some (.ref p), some (.int n), some (.str (Str.ofString "abcdefghijklmnopqrstuvwxyz")), some (.ref wl), some (.int (sz : Int)), some (.int (0 + i)), some (.str (S bs)), some (.int (at_ : Int)), some (.int (spot : Int)), some (.int (way0 % 4)), some (.ref o), some (.str (S (if way = 1 then NM.w1 bs at_ spot i else NM.w0 bs at_ spot i)))], ?_, ?_⟩
      · refine ⟨_, rfl, rfl, _, rfl, ?_⟩
        refine ite2 (fun c1 => ?_) (fun c1 => ?_)
        · have e1 : way = 1 := by have := V.int.inj (of_decide_eq_true c1); omega
          refine ⟨_, rfl, _, rfl, _, rfl, _, rfl, _, rfl, _, _, rfl, rfl, _, _, rfl, rfl, (by omega : (0 : Int) < (sz : Int) - (at_ : Int)), _, _, rfl, rfl, _, rfl, _, rfl, by rw [SX.S_len, NM.w0_len hat]; exact Nat.le_trans (by omega : bs.length ≤ 8) (by decide), ?_⟩
          have em : (sz : Int) - (0 + (i : Int)) % ((sz : Int) - (at_ : Int)) = ((bs.length - i % (bs.length - at_) : Nat) : Int) := by
            have h1 : ((sz : Int) - (at_ : Int)) = ((bs.length - at_ : Nat) : Int) := by omega
            rw [h1, Int.zero_add, ← Int.natCast_emod]
            have := Nat.mod_lt i (show 0 < bs.length - at_ by omega)
            omega
          rw [cut_t em (by rw [NM.w0_len hat]; omega)]
          rw [if_pos e1]
          exact ⟨rfl, rfl⟩
        · have e1 : ¬ way = 1 := fun z => c1 (decide_eq_true (by rw [hway, z]; rfl))
          rw [if_neg e1]
          exact ⟨rfl, rfl⟩
      rintro σ' H' ⟨rfl, rfl⟩
      -- one sign again and again
      refine ⟨fun σ' H'' => H'' = H' ∧ σ' = [some (.ref p), some (.int n), some (.str (Str.ofString "abcdefghijklmnopqrstuvwxyz")), some (.ref wl), some (.int (sz : Int)), some (.int (0 + i)), some (.str (S bs)), some (.int (at_ : Int)), some (.int (spot : Int)), some (.int (way0 % 4)), some (.ref o), some (.str (S (if way = 1 then NM.w1 bs at_ spot i else if way = 2 then NM.w2 spot i else NM.w0 bs at_ spot i)))], ?_, ?_⟩
      · refine ⟨_, rfl, rfl, _, rfl, ?_⟩
        refine ite2 (fun c1 => ?_) (fun c1 => ?_)
        · have e1 : way = 2 := by have := V.int.inj (of_decide_eq_true c1); omega
          have e6 : ((spot : Int) + (0 + (i : Int)) / 8) % 26 = (((spot + i / 8) % 26 : Nat) : Int) := by omega
          refine ⟨_, rfl, _, rfl, _, rfl, _, _, rfl, rfl, ⟨by decide, by decide⟩, _, _, rfl, rfl, _, _, rfl, rfl, (by decide : (0 : Int) < 26), _, _, _, rfl, rfl, lets_len, at_lets e6 (Nat.mod_lt _ (by decide)), _, rfl, rfl, ?_⟩
          refine ⟨_, rfl, _, _, rfl, rfl, (by decide : (0 : Int) < 8), _, _, rfl, rfl, _, rfl, _, rfl, by rw [SX.S_len, List.length_replicate]; decide, ?_⟩
          rw [cut_t (j := i % 8 + 1) (by omega) (by rw [List.length_replicate]; omega)]
          subst e1
          exact ⟨rfl, rfl⟩
        · have e1 : ¬ way = 2 := fun z => c1 (decide_eq_true (by rw [hway, z]; rfl))
          rw [if_neg e1]
          exact ⟨rfl, rfl⟩
      rintro σ' H'' ⟨rfl, rfl⟩
      -- a word of the list
      refine ⟨fun σ' H' => H' = H'' ∧ σ' = [some (.ref p), some (.int n), some (.str (Str.ofString "abcdefghijklmnopqrstuvwxyz")), some (.ref wl), some (.int (sz : Int)), some (.int (0 + i)), some (.str (S bs)), some (.int (at_ : Int)), some (.int (spot : Int)), some (.int (way0 % 4)), some (.ref o), some (.str (S (NM.word bs at_ spot way i)))], ?_, ?_⟩
      · refine ⟨_, rfl, rfl, _, rfl, ?_⟩
        refine ite2 (fun c1 => ?_) (fun c1 => ?_)
        · have e1 : way = 3 := by have := V.int.inj (of_decide_eq_true c1); omega
          have e7 : ((spot : Int) + (0 + (i : Int))) % 16 = (((spot + i) % 16 : Nat) : Int) := by omega
          have hw16 : (spot + i) % 16 < NM.words.length := Nat.mod_lt _ (by decide)
          refine ⟨_, rfl, _, rfl, _, rfl, _, _, rfl, rfl, _, _, rfl, rfl, (by decide : (0 : Int) < 16), wl, _, _, .str (S (NM.w3 spot i)), rfl, rfl, SqL.of hwl7, ?_, ?_⟩
          · rw [e7]
            refine atI_nat ?_
            rw [List.getElem?_map, List.getElem?_map, List.getElem?_eq_getElem hw16]
            unfold NM.w3
            rw [List.getD_eq_getElem?_getD, List.getElem?_eq_getElem hw16]
            rfl
          · subst e1
            exact ⟨rfl, rfl⟩
        · have e1 : ¬ way = 3 := fun z => c1 (decide_eq_true (by rw [hway, z]; rfl))
          refine ⟨rfl, ?_⟩
          unfold NM.word
          rw [if_neg e1]
      rintro σ' H' ⟨rfl, rfl⟩
      -- put in
      refine ⟨_, rfl, Or.inl ⟨rfl, _, SqL.of ho7⟩, _, rfl, _, rfl, o, _, rfl, .inl (SqL.of ho7), _, _, rfl, rfl, p, c + 27 - (i + 1), _, rfl, pen7.weak (by omega), by omega, by rw [List.length_map]; omega, fun r H8 r0 r1 pen8 k8 => ?_⟩
      have off8 := off7.kp k8
      have ho8 := k8.1 _ _ ho7 off7.ne
      refine ⟨_, rfl, o, _, _, _, rfl, rfl, ho8, ?_, r0, by rw [List.length_map] at r1; omega, ?_⟩
      · rw [List.length_map, zl]
        exact Nat.lt_of_lt_of_le (by omega : i < 64) (by decide)
      · refine ⟨zs.take r.toNat ++ [NM.word bs at_ spot way i] ++ zs.drop r.toNat, _, _, rfl, ?_, ?_, pen8.put off8, (k7.trans k8).new fo, ?_⟩
        · rw [upd_same]
          simp [List.map_append, List.map_take, List.map_drop]
        · have hp1 : (zs.take r.toNat ++ [NM.word bs at_ spot way i] ++ zs.drop r.toNat).Perm (NM.word bs at_ spot way i :: zs) := by
            rw [List.append_assoc]
            have := List.perm_middle (a := NM.word bs at_ spot way i) (l₁ := zs.take r.toNat) (l₂ := zs.drop r.toNat)
            rw [List.take_append_drop] at this
            exact this
          refine hp1.trans ?_
          rw [List.range_succ, List.map_append]
          exact (List.Perm.cons _ perm7).trans (List.perm_append_singleton _ _).symm
        · exact off8.put (by obtain ⟨_, _, _, _, _, z⟩ := off8; exact z)
    · rintro σ H7 ⟨zs, v5, v11, rfl, ho7, perm7, pen7, k7, off7⟩
      refine ⟨_, rfl, hQ o zs H7 (pen7.weak (by omega)) (k06.trans k7) ?_ off7 ho7 (by rw [perm7.length_eq, List.length_map, List.length_range]) (fun z hz => ?_) ?_⟩
      · cases q : H o with
        | none => rfl
        | some u =>
          have z := k06.1 _ _ q (Off.of pen6 fo).ne
          rw [fo] at z
          cases z
      · obtain ⟨k, _, rfl⟩ := List.mem_map.mp (perm7.subset hz)
        exact NM.word_ok (by omega) (by omega) hbc hat way
      · exact (perm7.symm.pairwise_iff (fun h => Ne.symm h)).mp (NM.all_unlike hat way n hn)
end
end K08
set_option Elab.async false
set_option linter.all false
set_option maxRecDepth 100000
set_option maxHeartbeats 4000000
/-! HX: f"{n:02x}" of small numbers. -/
namespace HX
open PySem PySem.W PySem.Calls PyProof.Rows
open Builtin Builtin.Str Builtin.Int
/-- a figure of sixteen -/
def hexd (k : Nat) : Nat := if k < 10 then 48 + k else 87 + k
def hex2 (n : Nat) : PySem.Str := ⟨#[hexd (n / 16), hexd (n % 16)]⟩
theorem hex2_len (n : Nat) : (hex2 n).length = 2 := rfl
theorem fmt_hex {n : Nat} {t : Tok} (h : n < 256) : ∀ u, Meets («int.__format__» ⟨[.int (n : Int) t, .str "02x" u], []⟩) (fun _ R s => ∀ t' k, R (.ok (.ret (.str (hex2 n) t'))) { s with toks := k }) := by
  intro _
  apply KPc.meets_of
  intro _ _ _ _ _ _ hq
  unfold Builtin.«int.__format__»
  refine wpAny_bind (wpAny_of_eq (a := (_, _)) rfl ?_)
  refine wpAny_bind (wpAny_of_eq (a := _) rfl ?_)
  kxf_if
  refine wpAny_bind (wpAny_typeNameOf (T := "str") (typeIs_str _ _ _) (by decide) fun _ => ?_)
  refine wpAny_bind (wpAny_of_eq (a := some _) rfl ?_)
  kxf_if
  kxf_if
  refine wpAny_bind (wpAny_typeNameOfCut_int ?_)
  (repeat kxf_if)
  refine (fun e => KXf.ret_text e (Nat.le_trans (Nat.le_of_eq (congrArg PySem.Str.length e)) (by show 2 ≤ sizeLine; decide)) hq) ?_
  clear hq
  revert n
  decide +kernel
section
open PySem.Spec L2
variable {X : Cx}
/-- {n:02x} -/
def tFmtX (te : TE) : TE := fun σ H Q => te σ H fun x H1 => ∃ n : Nat, x = .int (n : Int) ∧ n < 256 ∧ Q (.str (hex2 n)) H1
theorem pe_fmtX {e : Expr} {te : TE} {pos p1 p2 : Pos} {k : Nat} (he : PE X e te) : PE X (.FormattedValue e (-1) (some (.JoinedStr [.Constant (.str "02x") k p1] p2)) pos) (tFmtX te) := by
  refine ⟨fun pins s σ H Q I h => ?_⟩
  refine wpAny_FormattedValue_spec (thn (he.run pins s σ H _ I h) fun v s1 hv => ?_)
  obtain ⟨x, H1, I1, r1, n, rfl, hn, q⟩ := hv
  obtain ⟨t, rfl⟩ := r1
  refine wpAny_JoinedStr_one (thn ((pe_str (X := X) (x := "02x") (j := k) (pos := p1)).run pins s1 σ H1 (fun v H' => v = .str "02x" ∧ H' = H1) I1 ⟨rfl, rfl⟩) fun r s2 hr => ?_)
  obtain ⟨y, H2, I2, r2, rfl, rfl⟩ := hr
  obtain ⟨u, rfl⟩ := r2
  refine ⟨"02x", u, rfl, KXf.field_int rfl (by decide +kernel) (by decide +kernel) (fmt_hex hn) fun t' k' => ?_⟩
  exact ⟨.str (hex2 n), H2, I2.tok _, ⟨_, rfl⟩, q⟩
end
end HX
set_option Elab.async false
set_option linter.all false
set_option maxRecDepth 100000
set_option maxHeartbeats 4000000
namespace K08
open PySem PySem.Spec PyProof.Rows L2
open C8 (Cal Mak Met pe_c pe_mk pe_mt pe_mt0)
open SX (S)
open HX (hex2 hexd)
section
variable {P : Program} {w : World} {K : PySem.W.Frag} {mg : Str → Option Value} {base : Heap} {f C : Addr} {fd : FuncData}
def spWhole : Sp := fun vs H Q _ => ∃ n : Int, vs = [.int n] ∧ Q (.bl true) H
theorem ok_whole (F : Dn K d_is_whole f fd) (b : Bl mg) : FnOk P w K mg base CX0 1 f fd ["thing"] spWhole := by
  refine F.ok sc_is_whole (fun vs H Q E h => ?_) (fun cdv A outer s H vs Q E hr h => ?_)
  · obtain ⟨n, rfl, _⟩ := h
    rfl
  · obtain ⟨n, rfl, hQ⟩ := h
    refine ⟨_, PSs.nox (pss_one (ps_ret (pe_and
      (pe_callB call_isi rfl b.isi boot_isinstance (pa_cons (pv 0) (pa_cons (pe_bltn (v := .ty "int") rfl b.int boot_int rfl) pa_nil)))
      (pe_one (pe_not (pe_callB call_isi rfl b.isi boot_isinstance (pa_cons (pv 0) (pa_cons (pe_bltn (v := .ty "bool") rfl b.bool boot_bool rfl) pa_nil)))))))), ?_⟩
    refine ⟨_, rfl, _, _, _, _, true, rfl, ClsV.ty _, TyX.base (TyOf.int n), kit_ty (by decide +kernel), true, rfl, ?_⟩
    refine iteT ?_
    exact ⟨_, rfl, _, _, _, _, false, rfl, ClsV.ty _, TyX.base (TyOf.int n), kit_ty (by decide +kernel), false, rfl, hQ⟩
abbrev CalW (P : Program) (w : World) (K : PySem.W.Frag) (mg : Str → Option Value) (base : Heap) : Prop := Cal P w K mg base 1 "is_whole" spWhole []
def spBetween : Sp := fun vs H Q _ => ∃ n lo hi : Int, vs = [.int n, .int lo, .int hi] ∧ Q (.bl (decide (lo ≤ n ∧ n ≤ hi))) H
theorem ok_between (F : Dn K d_is_between f fd) (cW : CalW P w K mg base) : FnOk P w K mg base CX0 2 f fd ["thing", "low", "high"] spBetween := by
  refine F.ok sc_is_between (fun vs H Q E h => ?_) (fun cdv A outer s H vs Q E hr h => ?_)
  · obtain ⟨n, lo, hi, rfl, _⟩ := h
    rfl
  · obtain ⟨n, lo, hi, rfl, hQ⟩ := h
    refine ⟨_, PSs.nox (pss_one (ps_ret (pe_and (pe_c cW hr (by decide) rfl (pa_cons (pv 0) pa_nil)) (pe_one (pe_chain op_le op_le (pv 1) (pv 0) (pv 2)))))), ?_⟩
    refine ⟨_, rfl, n, rfl, true, rfl, iteT ?_⟩
    refine ⟨_, rfl, _, rfl, _, _, rfl, rfl, _, rfl, ?_⟩
    refine ite2 (fun h1 => ?_) (fun h1 => ?_)
    · have h1' : lo ≤ n := of_decide_eq_true h1
      refine ⟨_, rfl, _, _, rfl, rfl, ?_⟩
      have e : decide (n ≤ hi) = decide (lo ≤ n ∧ n ≤ hi) := decide_eq_decide.mpr ⟨fun z => ⟨h1', z⟩, fun z => z.2⟩
      show Q (.bl (decide (n ≤ hi))) H
      rw [e]
      exact hQ
    · have h1' : ¬ lo ≤ n := fun z => h1 (decide_eq_true z)
      have e : decide (lo ≤ n ∧ n ≤ hi) = false := decide_eq_false fun z => h1' z.1
      rw [e] at hQ
      exact hQ
abbrev CalB (P : Program) (w : World) (K : PySem.W.Frag) (mg : Str → Option Value) (base : Heap) : Prop := Cal P w K mg base 2 "is_between" spBetween []
def spMask : Sp := fun vs H Q _ => ∃ n : Int, vs = [.int n] ∧ Q (.bl (decide (0 ≤ n ∧ n ≤ 127))) H
theorem ok_mask (F : Dn K d_is_mask f fd) (cB : CalB P w K mg base) (g : ∃ t, mg "LAST_MASK" = some (.int 127 t)) : FnOk P w K mg base CX0 3 f fd ["thing"] spMask := by
  refine F.ok sc_is_mask (fun vs H Q E h => ?_) (fun cdv A outer s H vs Q E hr h => ?_)
  · obtain ⟨n, rfl, _⟩ := h
    rfl
  · obtain ⟨n, rfl, hQ⟩ := h
    obtain ⟨t, g⟩ := g
    refine ⟨_, PSs.nox (pss_one (ps_ret (pe_c cB hr (by decide) rfl (pa_cons (pv 0) (pa_cons pe_int (pa_cons (pe_glob (v := .int 127) rfl g ⟨t, rfl⟩) pa_nil)))))), ?_⟩
    exact ⟨_, rfl, n, 0, 127, rfl, hQ⟩
/-- what is a name -/
def spName : Sp := fun vs H Q _ => ∃ l : List Nat, vs = [.str (S l)] ∧ NM.ok l ∧ ∀ H', Same H H' → Q (.bl true) H'
theorem ok_name (F : Dn K d_is_name f fd) (b : Bl mg) (g : ∃ t, mg "LONGEST_NAME" = some (.int 8 t)) : FnOk P w K mg base CX0 1 f fd ["thing"] spName := by
  refine F.ok sc_is_name (fun vs H Q E h => ?_) (fun cdv A outer s H vs Q E hr h => ?_)
  · obtain ⟨l, rfl, _⟩ := h
    rfl
  · obtain ⟨l, rfl, ⟨l1, l8, lc⟩, hQ⟩ := h
    obtain ⟨t, g⟩ := g
    have hz : (S l).length ≤ sizeLine := by rw [SX.S_len]; exact Nat.le_trans l8 (by decide)
    refine ⟨_, PSs.nox (pss_cons (ps_if (PW.pt (pw_or (pt_not (pt_val (pe_callB call_isi rfl b.isi boot_isinstance (pa_cons (pv 0) (pa_cons (pe_bltn (v := .ty "str") rfl b.str boot_str rfl) pa_nil)))))
        (pw_or1 (pt_not (pt_chain op_le op_le pe_int (pe_callB call_len_str rfl b.len boot_len (pa_cons (pv 0) pa_nil)) (pe_glob (v := .int 8) rfl g ⟨t, rfl⟩)))))) pss_never pss_nil)
      (pss_one (ps_ret (pe_callB (cr_all rfl) rfl b.all boot_all (pa_cons (pe_lc (own := [("sign", 1)]) (g := gName 1) (tt := tYes) rfl sc_is_name.nd (pi_str (pv 0)) (blkOk_by (N := N_is_name) (sc := defScope s_is_name) (by decide +kernel))
          (fun _ _ _ _ _ => pg_name (i := 1) sc_is_name.nd rfl (Or.inl rfl)) (fun _ _ _ _ _ => pts_nil) (fun _ _ _ _ _ => pe_chain op_le_str op_le_str pe_str (pv 1) pe_str)) pa_nil))))), ?_⟩
    refine ⟨_, rfl, _, _, _, _, true, rfl, ClsV.ty _, TyX.base (TyOf.str _), kit_ty (by decide +kernel), true, rfl, iteF ?_⟩
    refine ⟨_, rfl, _, rfl, hz, _, _, rfl, rfl, _, rfl, ?_⟩
    rw [SX.S_len]
    refine ite2 (fun _ => ?_) (fun z => absurd (decide_eq_true (by omega)) z)
    refine ⟨_, _, rfl, rfl, _, rfl, ?_⟩
    have e8 : decide ((l.length : Int) ≤ 8) = true := decide_eq_true (by omega)
    rw [e8]
    refine iteF ?_
    refine ⟨_, rfl, _, rfl, fun D hD => lc_it walk_str (fun i H2 => H2 D = some (.lst ((List.replicate i true).map V.bl)) ∧ Same H H2) ⟨upd_same, same_new hD⟩ (fun _ _ _ _ => trivial) ?_ ?_⟩
    · rintro i x H2 H3 hi ⟨hd, sm⟩ ⟨rfl, c', hc', rfl⟩
      have hi' : i < l.length := by simpa [S] using hi
      have hmem : c' ∈ l := by
        have : l[i]? = some c' := by simpa [S] using hc'
        exact List.mem_of_getElem? this
      have hcc := lc c' hmem
      refine ⟨rfl, ?_⟩
      refine ⟨_, rfl, _, _, rfl, rfl, _, rfl, ?_⟩
      have ea : (!decide ((⟨#[c']⟩ : Str).cps.toList < (Str.ofString "a").cps.toList)) = true := by
        have e1 : (Str.ofString "a").cps.toList = [97] := by decide +kernel
        rw [e1]
        have : ¬ (([c'] : List Nat) < [97]) := by
          rw [List.cons_lt_cons_iff]
          rintro (z | ⟨z, z'⟩)
          · omega
          · exact absurd z' (by simp)
        simp [this]
      have ez : (!decide ((Str.ofString "z").cps.toList < (⟨#[c']⟩ : Str).cps.toList)) = true := by
        have e1 : (Str.ofString "z").cps.toList = [122] := by decide +kernel
        rw [e1]
        have : ¬ (([122] : List Nat) < [c']) := by
          rw [List.cons_lt_cons_iff]
          rintro (z | ⟨z, z'⟩)
          · omega
          · exact absurd z' (by simp)
        simp [this]
      rw [ea]
      refine iteT ⟨_, _, rfl, rfl, ?_⟩
      rw [ez]
      refine ⟨_, hd, ?_, ?_, ?_⟩
      · rw [List.length_map, List.length_replicate]
        exact Nat.lt_of_lt_of_le (by omega : i < 64) (by decide)
      · rw [upd_same]
        simp [List.replicate_succ']
      · intro a o e
        rw [upd_ne (ne_of_none e hD)]
        exact sm a o e
    · rintro H2 ⟨hd, sm⟩
      refine ⟨D, _, rfl, SqL.of hd, ?_⟩
      have e3 : (List.replicate (S l).cps.size true).all id = true := by simp
      rw [e3]
      exact hQ H2 sm
/-- mask_text -/
def spMt : Sp := fun vs H Q _ => ∃ n : Nat, vs = [.int (n : Int)] ∧ n < 256 ∧ Q (.str (hex2 n)) H
theorem ok_mt (F : Dn K d_mask_text f fd) : FnOk P w K mg base CX0 1 f fd ["mask"] spMt := by
  refine F.ok sc_mask_text (fun vs H Q E h => ?_) (fun cdv A outer s H vs Q E hr h => ?_)
  · obtain ⟨n, rfl, _⟩ := h
    rfl
  · obtain ⟨n, rfl, hn, hQ⟩ := h
    exact ⟨_, PSs.nox (pss_one (ps_ret (pe_joined1 (HX.pe_fmtX (pv 0))))), _, rfl, n, rfl, hn, hQ⟩
end
end K08
set_option Elab.async false
set_option linter.all false
set_option maxRecDepth 100000
set_option maxHeartbeats 4000000
/-! OW: ==, !=, str and repr of instances of an own class by its own __eq__, __str__, __repr__. -/
namespace OW
open PySem PySem.Spec PyProof.Rows L2
/-- what is known of a special def of the class: where it stands, that it keeps its promise -/
structure Spc (P : Program) (w : World) (K : PySem.W.Frag) (mg : Str → Option Value) (base : Heap) (k : Nat) (C : Addr) (m : Str) (sp : Sp) : Prop where
  ex : ∃ (f : Addr) (fd : FuncData) (ps : List Str), PySem.W.findIn K (.ref C) m = some (some (.ref f)) ∧ PySem.W.isFn K (.ref f) = true ∧ FnOk P w K mg base CX0 k f fd ps sp ∧ Binds K fd ps []
section
variable {X : Cx} {pins : List (Addr × Obj)} {σ : L2.St} {H : Hp} {s : Shared} {Q : VK} {k : Nat} {C a b : Addr} {sp : Sp}
/-- a def called at any around with room -/
theorem run_at {f : Addr} {fd : FuncData} {ps : List Str} {A : Around} {us : List Value} {vs : List V} {E' : Value → Shared → Prop} (F : FnOk X.prog X.w X.K X.mg X.base CX0 k f fd ps sp) (hb : Binds X.K fd ps []) (hr : Room k A) (I : Inv X pins σ H s)
    (he : Env0 X.prog X.w X.K X.mg X.base A X.stack s H) (r : Vals vs us) (h : sp vs H Q E0) : wpAny (model X.prog X.w) A (call (.ref f) us) (EP X pins σ Q) E' s := by
  have hl : us.length = ps.length := by rw [← r.length]; exact F.len _ _ _ _ h
  have b := hb s us I.kIn (by rw [List.append_nil]; exact hl)
  rw [List.append_nil] at b
  refine wpAny_call (codeAny_mono (F.run A X.stack s H ⟨us, []⟩ us vs Q E0 hr he b r h) fun r s' hq => ?_)
  cases r with
  | error e => exact False.elim hq
  | ok fl =>
    cases fl with
    | ret u => exact I.after hq
    | next => exact False.elim hq
    | brk => exact False.elim hq
    | cont => exact False.elim hq
theorem same_first : PySem.W.notFirst X.K C (.ref C) = true := by
  unfold PySem.W.notFirst
  rw [beq_self_eq_true, Bool.true_or]
/-- x == y, both of the class -/
def rEqO (C : Addr) (sp : Sp) : R2 := fun x y H Q => ∃ a dx fs b dy gs, x = .ref a ∧ y = .ref b ∧ H a = some (.ins C dx fs) ∧ H b = some (.ins C dy gs) ∧ sp [x, y] H (fun v H' => ∃ z, v = .bl z ∧ Q (.bl z) H') E0
def rNeO (C : Addr) (sp : Sp) : R2 := fun x y H Q => ∃ a dx fs b dy gs, x = .ref a ∧ y = .ref b ∧ H a = some (.ins C dx fs) ∧ H b = some (.ins C dy gs) ∧ sp [x, y] H (fun v H' => ∃ z, v = .bl z ∧ Q (.bl (!z)) H') E0
theorem op_eqO (S : Spc X.prog X.w X.K X.mg X.base k C "__eq__" sp) (hr : Room k X.A) : OpR X (compareOp .Eq) (rEqO C sp) := by
  obtain ⟨f, fd, ps, h1, h2, F, hb⟩ := S.ex
  intro pins s σ H x y v u Q I rx ry h
  obtain ⟨a, dx, fs, b, dy, gs, rfl, rfl, ea, eb, q⟩ := h
  cases (show v = Value.ref a from rx)
  cases (show u = Value.ref b from ry)
  obtain ⟨mA, O, _⟩ := ins_get I.hok ea
  obtain ⟨od, J, _⟩ := O.look
  obtain ⟨mB, O', _⟩ := ins_get I.hok eb
  obtain ⟨od', J', _⟩ := O'.look
  obtain ⟨m, hF⟩ := I.fr
  show wpAny _ _ (richCompare .Eq (.ref a) (.ref b)) _ _ _
  refine PySem.W.cmp_K (op := .Eq) (tb := .ref C) hr.units0 hF I.ok.mod.kin J J'.type same_first h1 h2 ?_
  refine wpAny_mono (run_at (E' := X.xe) (vs := [.ref a, .ref b]) F hb hr I I.env0 (.cons rfl (.cons rfl .nil)) q) (fun w s' z => ?_) fun _ _ x => x
  obtain ⟨z', H', I', rz, z, rfl, qz⟩ := z
  cases (show w = Value.bool z from rz)
  exact ⟨.bl z, H', I', rfl, qz⟩
open Builtin in
theorem op_neO (S : Spc X.prog X.w X.K X.mg X.base (k + 1) C "__eq__" sp) (hn : PySem.W.findIn X.K (.ref C) "__ne__" = some (some (.builtin "object.__ne__"))) (hm : PySem.W.mroIn X.K C (.type "object") = some true) (hr : Room (k + 2) X.A) : OpR X (compareOp .NotEq) (rNeO C sp) := by
  obtain ⟨f, fd, ps, h1, h2, F, hb⟩ := S.ex
  intro pins s σ H x y v u Q I rx ry h
  obtain ⟨a, dx, fs, b, dy, gs, rfl, rfl, ea, eb, q⟩ := h
  cases (show v = Value.ref a from rx)
  cases (show u = Value.ref b from ry)
  obtain ⟨mA, O, _⟩ := ins_get I.hok ea
  obtain ⟨od, J, _⟩ := O.look
  obtain ⟨mB, O', _⟩ := ins_get I.hok eb
  obtain ⟨od', J', _⟩ := O'.look
  have KI := I.kIn
  have callEq : wpAny (model X.prog X.w) X.A.in1 (call (.ref f) [.ref a, .ref b]) (fun v s' => ∃ z, v = .bool z ∧ EP X pins σ Q (.bool (!z)) s') X.xe s := by
    refine wpAny_mono (run_at (E' := X.xe) (vs := [.ref a, .ref b]) F hb hr.in1 I I.env0.in1 (.cons rfl (.cons rfl .nil)) q) (fun w s' z => ?_) fun _ _ x => x
    obtain ⟨z', H', I', rz, z, rfl, qz⟩ := z
    exact ⟨z, rz, .bl (!z), H', I', rfl, qz⟩
  have slot := PySem.F.cmp_object.ne
  have sub : PySem.W.Looks (model X.prog X.w) s.heap (isInstance (.ref a) (.type "object")) true := J.type.andThen (PySem.W.looks_mroIn KI hm)
  have uu : X.A.in1.units < cLine := hr.in1.units0
  have body : wpAny (model X.prog X.w) X.A.in1 (Builtin.«object.__ne__» ⟨[.ref a, .ref b], []⟩) (fun fin s' => match fin with | .done f => (match f with | .ret v => EP X pins σ Q v s' ∧ ∃ z, v = .bool z | _ => False) | .again _ => False) X.xe s := by
    unfold Builtin.«object.__ne__»
    repeat (first
      | with_reducible refine wpAny_cRoomFor uu ?_
      | (refine wpAny_bind (m := callSpecialIfBound? (.ref a) (Str.ofString "__eq__") [.ref b]) (PySem.W.ifBound_K KI J h1 h2 (wpAny_mono callEq (fun r s' hr => by
          obtain ⟨z, rfl, hq⟩ := hr
          repeat (first | exact ⟨hq, _, rfl⟩ | exact wpAny_pure ⟨hq, _, rfl⟩ | (refine wpAny_bind (m := truthy (.bool _)) (wpAny_truthy_bool ?_)) | wp_step)) fun _ _ e => e)))
      | wp_step)
  have callNe : wpAny (model X.prog X.w) X.A (call (.builtin "object.__ne__") [.ref a, .ref b]) (fun v s' => EP X pins σ Q v s' ∧ ∃ z, v = .bool z) X.xe s := by
    refine wpAny_call (codeAny_call_builtin slot.plain PySem.F.cmpEntry_ne (PySem.W.check_slot PySem.F.cmpKind_ne PySem.F.cmpSplit_ne sub (PySem.F.cmpArgs_ne _ _) ?_))
    refine wpAny_mono body (fun fin s' z => ?_) fun _ _ x => x
    cases fin with
    | done fl =>
      cases fl with
      | ret v => exact z
      | next => exact z.elim
      | brk => exact z.elim
      | cont => exact z.elim
    | again c => exact z.elim
  show wpAny _ _ (richCompare .NotEq (.ref a) (.ref b)) _ _ _
  unfold richCompare
  simp only [oneThing_ref]
  refine wpAny_holding (wpAny_bind (wpAny_cRoomFor hr.units0 ?_))
  rw [cmpInfo_NotEq]
  dsimp only
  refine wpAny_bind (J.type.here (wpAny_bind (J'.type.here ?_)))
  rw [show (Value.ref C != Value.ref C) = false from by simp]
  simp only [Bool.false_eq_true, if_false]
  refine wpAny_bind (wpAny_pure ?_)
  simp only [Bool.false_eq_true, if_false, tryCompare]
  have fin : wpAny (model X.prog X.w) X.A (call (.builtin "object.__ne__") ([.ref a] ++ [.ref b]) >>= fun v => pure (some v)) (fun r s' => ∃ v, r = some v ∧ EP X pins σ Q v s' ∧ ∃ z, v = .bool z) X.xe s :=
    wpAny_bind (wpAny_mono callNe (fun v s' h' => wpAny_pure ⟨v, rfl, h'⟩) fun _ _ h' => h')
  have bound : wpAny (model X.prog X.w) X.A (callSpecialIfBound? (.ref a) "__ne__" [.ref b]) (fun r s' => ∃ v, r = some v ∧ EP X pins σ Q v s' ∧ ∃ z, v = .bool z) X.xe s := by
    simp only [callSpecialIfBound?, bindSpecialIfBound?]
    refine wpAny_holding (wpAny_bind (wpAny_bind (wpAny_bind (J.type.here ((PySem.W.looks_findIn KI hn).here ?_)))))
    simp only [slot.bind]
    refine wpAny_bind (wpAny_askSetting (wpAny_ite ?_))
    split
    · exact wpAny_bind (wpAny_pure (wpAny_pure fin))
    · exact wpAny_tryCatch (wpAny_bind (wpAny_pure (wpAny_pure fin)))
  refine wpAny_bind (wpAny_bind (wpAny_mono bound (fun r s' z => ?_) fun _ _ h => h))
  obtain ⟨v, rfl, hq, z, rfl⟩ := z
  first | exact wpAny_pure (wpAny_pure hq) | exact wpAny_pure hq
/-- str(x), repr(x) -/
def rStrO (C : Addr) (sp : Sp) : List V → Hp → VK → Prop := fun xs H Q => ∃ a dx fs, xs = [.ref a] ∧ H a = some (.ins C dx fs) ∧ sp [.ref a] H (fun v H' => ∃ z, v = .str z ∧ Q (.str z) H') E0
theorem call_strO (S : Spc X.prog X.w X.K X.mg X.base k C "__str__" sp) (hr : Room (k + 2) X.A) : CallR X (.type "str") (rStrO C sp) := by
  obtain ⟨f, fd, ps, h1, h2, F, hb⟩ := S.ex
  intro pins s σ H xs us Q I r h
  obtain ⟨a, dx, fs, rfl, ea, q⟩ := h
  obtain ⟨u, rfl, ru⟩ := vals1 r
  cases (show u = Value.ref a from ru)
  obtain ⟨mA, O, _⟩ := ins_get I.hok ea
  obtain ⟨od, J, _⟩ := O.look
  refine PySem.W.kso_call hr.in1.in1.units0 I.kIn J h1 h2 ?_
  refine wpAny_mono (run_at (E' := X.xe) (vs := [.ref a]) F hb hr.in1.in1 I I.env0.in1.in1 (.cons rfl .nil) q) (fun w s' z => ?_) fun _ _ x => x
  obtain ⟨z', H', I', rz, z, rfl, qz⟩ := z
  obtain ⟨t, rfl⟩ := rz
  exact ⟨.str z, H', I', ⟨t, rfl⟩, qz⟩
theorem call_reprO (S : Spc X.prog X.w X.K X.mg X.base k C "__repr__" sp) (hr : Room (k + 1) X.A) : CallR X (.builtin "repr") (rStrO C sp) := by
  obtain ⟨f, fd, ps, h1, h2, F, hb⟩ := S.ex
  intro pins s σ H xs us Q I r h
  obtain ⟨a, dx, fs, rfl, ea, q⟩ := h
  obtain ⟨u, rfl, ru⟩ := vals1 r
  cases (show u = Value.ref a from ru)
  obtain ⟨mA, O, _⟩ := ins_get I.hok ea
  obtain ⟨od, J, _⟩ := O.look
  obtain ⟨m, hF⟩ := I.fr
  refine PySem.W.repr_K hr.in1.units0 hF I.ok.mod.kin J h1 h2 ?_
  refine wpAny_mono (run_at (E' := X.xe) (vs := [.ref a]) F hb hr.in1 I I.env0.in1 (.cons rfl .nil) q) (fun w s' z => ?_) fun _ _ x => x
  obtain ⟨z', H', I', rz, z, rfl, qz⟩ := z
  obtain ⟨t, rfl⟩ := rz
  exact ⟨.str z, H', I', ⟨t, rfl⟩, qz⟩
end
end OW
set_option Elab.async false
set_option linter.all false
set_option maxRecDepth 100000
set_option maxHeartbeats 4000000
/-! EQD: a dict beside things of other kinds: never equal; x in a list or tuple of any things, == and != of lists of any things. -/
namespace EQD
open PySem PySem.Spec PyProof.Rows L2
open PySem.SeqAt
abbrev dO (es : Array DictEntry) (ep : Nat) (dd : Option Addr) (sl : Array (Option Value)) : Obj := { cls := .type "dict", dict := dd, data := .dict es ep, slots := sl }

theorem dict_declines_none (l : Addr) (es : Array DictEntry) (ep : Nat) (dd : Option Addr) (sl : Array (Option Value))  :
    Meets (Builtin.«dict.__eq__» ⟨[.ref l, .none], []⟩) (fun _ R s => s.heap.get? l = some (dO es ep dd sl) ∧ R (.ok (.ret .notImplemented)) s) :=
  .of_wp fun prog w A R s h => by obtain ⟨hp, g, d, tk, os⟩ := s; obtain ⟨hl, h⟩ := h; have f1 := F.sub_NoneType_dict; wp_walk using wpAny_loadPart' hl; exact ⟨_, rfl, h⟩
theorem dict_declines_bool (l : Addr) (es : Array DictEntry) (ep : Nat) (dd : Option Addr) (sl : Array (Option Value)) (b : Bool) :
    Meets (Builtin.«dict.__eq__» ⟨[.ref l, .bool b], []⟩) (fun _ R s => s.heap.get? l = some (dO es ep dd sl) ∧ R (.ok (.ret .notImplemented)) s) :=
  .of_wp fun prog w A R s h => by obtain ⟨hp, g, d, tk, os⟩ := s; obtain ⟨hl, h⟩ := h; have f1 := F.sub_bool_dict; wp_walk using wpAny_loadPart' hl; exact ⟨_, rfl, h⟩
theorem dict_declines_int (l : Addr) (es : Array DictEntry) (ep : Nat) (dd : Option Addr) (sl : Array (Option Value)) (b : Int) (u : Tok) :
    Meets (Builtin.«dict.__eq__» ⟨[.ref l, .int b u], []⟩) (fun _ R s => s.heap.get? l = some (dO es ep dd sl) ∧ R (.ok (.ret .notImplemented)) s) :=
  .of_wp fun prog w A R s h => by obtain ⟨hp, g, d, tk, os⟩ := s; obtain ⟨hl, h⟩ := h; have f1 := F.sub_int_dict; wp_walk using wpAny_loadPart' hl; exact ⟨_, rfl, h⟩
theorem dict_declines_str (l : Addr) (es : Array DictEntry) (ep : Nat) (dd : Option Addr) (sl : Array (Option Value)) (b : Str) (u : Tok) :
    Meets (Builtin.«dict.__eq__» ⟨[.ref l, .str b u], []⟩) (fun _ R s => s.heap.get? l = some (dO es ep dd sl) ∧ R (.ok (.ret .notImplemented)) s) :=
  .of_wp fun prog w A R s h => by obtain ⟨hp, g, d, tk, os⟩ := s; obtain ⟨hl, h⟩ := h; have f1 := F.sub_str_dict; wp_walk using wpAny_loadPart' hl; exact ⟨_, rfl, h⟩
theorem bool_declines_dict (l : Addr) (es : Array DictEntry) (ep : Nat) (dd : Option Addr) (sl : Array (Option Value)) (b : Bool) :
    Meets (Builtin.«int.__eq__» ⟨[.bool b, .ref l], []⟩) (fun _ R s => s.heap.get? l = some (dO es ep dd sl) ∧ R (.ok (.ret .notImplemented)) s) :=
  .of_wp fun prog w A R s h => by obtain ⟨hp, g, d, tk, os⟩ := s; obtain ⟨hl, h⟩ := h; wp_walk using wpAny_loadPart' hl, wpAny_load hl; exact ⟨_, rfl, h⟩
theorem int_declines_dict (l : Addr) (es : Array DictEntry) (ep : Nat) (dd : Option Addr) (sl : Array (Option Value)) (b : Int) (u : Tok) :
    Meets (Builtin.«int.__eq__» ⟨[.int b u, .ref l], []⟩) (fun _ R s => s.heap.get? l = some (dO es ep dd sl) ∧ R (.ok (.ret .notImplemented)) s) :=
  .of_wp fun prog w A R s h => by obtain ⟨hp, g, d, tk, os⟩ := s; obtain ⟨hl, h⟩ := h; wp_walk using wpAny_loadPart' hl, wpAny_load hl; exact ⟨_, rfl, h⟩
theorem str_declines_dict (l : Addr) (es : Array DictEntry) (ep : Nat) (dd : Option Addr) (sl : Array (Option Value)) (b : Str) (u : Tok) :
    Meets (Builtin.«str.__eq__» ⟨[.str b u, .ref l], []⟩) (fun _ R s => s.heap.get? l = some (dO es ep dd sl) ∧ R (.ok (.ret .notImplemented)) s) :=
  .of_wp fun prog w A R s h => by obtain ⟨hp, g, d, tk, os⟩ := s; obtain ⟨hl, h⟩ := h; wp_walk using wpAny_loadPart' hl, wpAny_load hl; exact ⟨_, rfl, h⟩
theorem dict_declines_list (l b : Addr) (es : Array DictEntry) (ep : Nat) (dd dd2 : Option Addr) (sl sl2 : Array (Option Value)) (items : Array Value) (n : Nat) :
    Meets (Builtin.«dict.__eq__» ⟨[.ref l, .ref b], []⟩) (fun _ R s => s.heap.get? l = some (dO es ep dd sl) ∧ s.heap.get? b = some { cls := .type "list", dict := dd2, data := .seq items n, slots := sl2 } ∧ R (.ok (.ret .notImplemented)) s) :=
  .of_wp fun prog w A R s h => by obtain ⟨hp, g, d, tk, os⟩ := s; obtain ⟨hl, hb, h⟩ := h; have f1 := F.sub_list_dict; wp_walk using wpAny_loadPart' hl, wpAny_loadPart' hb; exact ⟨_, rfl, h⟩
theorem list_declines_dict (l b : Addr) (es : Array DictEntry) (ep : Nat) (dd dd2 : Option Addr) (sl sl2 : Array (Option Value)) (items : Array Value) (n : Nat) :
    Meets (Builtin.«list.__eq__» ⟨[.ref b, .ref l], []⟩) (fun _ R s => s.heap.get? l = some (dO es ep dd sl) ∧ s.heap.get? b = some { cls := .type "list", dict := dd2, data := .seq items n, slots := sl2 } ∧ R (.ok (.ret .notImplemented)) s) :=
  .of_wp fun prog w A R s h => by obtain ⟨hp, g, d, tk, os⟩ := s; obtain ⟨hl, hb, h⟩ := h; have f1 := F.sub_dict_list; wp_walk using wpAny_loadPart' hl, wpAny_loadPart' hb; exact ⟨_, rfl, h⟩
theorem dict_declines_tuple (l b : Addr) (es : Array DictEntry) (ep : Nat) (dd dd2 : Option Addr) (sl sl2 : Array (Option Value)) (items : Array Value) (n : Nat) :
    Meets (Builtin.«dict.__eq__» ⟨[.ref l, .ref b], []⟩) (fun _ R s => s.heap.get? l = some (dO es ep dd sl) ∧ s.heap.get? b = some { cls := .type "tuple", dict := dd2, data := .seq items n, slots := sl2 } ∧ R (.ok (.ret .notImplemented)) s) :=
  .of_wp fun prog w A R s h => by obtain ⟨hp, g, d, tk, os⟩ := s; obtain ⟨hl, hb, h⟩ := h; have f1 := F.sub_tuple_dict; wp_walk using wpAny_loadPart' hl, wpAny_loadPart' hb; exact ⟨_, rfl, h⟩
theorem tuple_declines_dict (l b : Addr) (es : Array DictEntry) (ep : Nat) (dd dd2 : Option Addr) (sl sl2 : Array (Option Value)) (items : Array Value) (n : Nat) :
    Meets (Builtin.«tuple.__eq__» ⟨[.ref b, .ref l], []⟩) (fun _ R s => s.heap.get? l = some (dO es ep dd sl) ∧ s.heap.get? b = some { cls := .type "tuple", dict := dd2, data := .seq items n, slots := sl2 } ∧ R (.ok (.ret .notImplemented)) s) :=
  .of_wp fun prog w A R s h => by obtain ⟨hp, g, d, tk, os⟩ := s; obtain ⟨hl, hb, h⟩ := h; have f1 := F.sub_dict_tuple; wp_walk using wpAny_loadPart' hl, wpAny_loadPart' hb; exact ⟨_, rfl, h⟩
/-- a dict stands at l -/
def IsDct (h : Heap) (l : Addr) : Prop := ∃ (o : Obj) (es : Array DictEntry) (ep : Nat), h.get? l = some o ∧ o.cls = .type "dict" ∧ o.data = .dict es ep
section
variable {A : Around} {s : Shared}
theorem RcAt_dict_none {l : Addr}  (hl : IsDct s.heap l) (hu : A.units < cLine) : RcAt A s (.ref l) .none false := fun prog w E Q h => by
  obtain ⟨⟨cls, dd, data, sl⟩, es, ep, ho, hc, hd⟩ := id hl
  simp only at hc hd
  subst hc hd
  exact rc_eq_decline_or (k := false) ⟨_, ho, rfl⟩ rfl (by decide) F.sub_NoneType_dict F.slot_dict_eq F.slot_NoneType_eq_refl
    (fun _ hq => call_meets F.slot_dict_eq ⟨_, ho, rfl⟩ F.entry_dict_eq (F.args_dict_eq_2 _ _) (dict_declines_none l es ep dd sl ) ⟨ho, hq⟩)
    (fun _ hq => call_gives F.slot_NoneType_eq_refl rfl F.entry_NoneType_eq (F.args_NoneType_eq_2 _ _) (NoneType___eq___none_ref_0 l) hq)
    (fun _ hq => wpAny_of_eq (rfl : isSame (.ref l) .none = pure false) hq) (.inr hu) h
theorem RcAt_none_dict {l : Addr}  (hl : IsDct s.heap l) (hu : A.units < cLine) : RcAt A s .none (.ref l) false := fun prog w E Q h => by
  obtain ⟨⟨cls, dd, data, sl⟩, es, ep, ho, hc, hd⟩ := id hl
  simp only at hc hd
  subst hc hd
  exact rc_eq_decline_or (k := false) rfl ⟨_, ho, rfl⟩ (by decide) F.sub_dict_NoneType F.slot_NoneType_eq F.slot_dict_eq_refl
    (fun _ hq => call_gives F.slot_NoneType_eq rfl F.entry_NoneType_eq (F.args_NoneType_eq_2 _ _) (NoneType___eq___none_ref_0 l) hq)
    (fun _ hq => call_meets F.slot_dict_eq_refl ⟨_, ho, rfl⟩ F.entry_dict_eq (F.args_dict_eq_2 _ _) (dict_declines_none l es ep dd sl ) ⟨ho, hq⟩)
    (fun _ hq => wpAny_of_eq (rfl : isSame .none (.ref l) = pure false) hq) (.inr hu) h
theorem EqAt_dict_none {l : Addr}  (hl : IsDct s.heap l) (hu : A.units < cLine) : EqAt A s (.ref l) .none false := fun prog w E Q h => by
  unfold eqBool
  refine wpAny_holding ?_
  refine wpAny_ite_split (fun hab => absurd (eq_of_beq hab) nofun) (fun _ => ?_)
  exact wpAny_bind (RcAt_dict_none  hl hu prog w E _ (wpAny_truthy_bool h))
theorem EqAt_none_dict {l : Addr}  (hl : IsDct s.heap l) (hu : A.units < cLine) : EqAt A s .none (.ref l) false := fun prog w E Q h => by
  unfold eqBool
  refine wpAny_holding ?_
  refine wpAny_ite_split (fun hab => absurd (eq_of_beq hab) nofun) (fun _ => ?_)
  exact wpAny_bind (RcAt_none_dict  hl hu prog w E _ (wpAny_truthy_bool h))
theorem RcAt_dict_bool {l : Addr} (b : Bool) (hl : IsDct s.heap l) (hu : A.units < cLine) : RcAt A s (.ref l) (.bool b) false := fun prog w E Q h => by
  obtain ⟨⟨cls, dd, data, sl⟩, es, ep, ho, hc, hd⟩ := id hl
  simp only at hc hd
  subst hc hd
  exact rc_eq_decline_or (k := false) ⟨_, ho, rfl⟩ rfl (by decide) F.sub_bool_dict F.slot_dict_eq F.slot_bool_eq_refl
    (fun _ hq => call_meets F.slot_dict_eq ⟨_, ho, rfl⟩ F.entry_dict_eq (F.args_dict_eq_2 _ _) (dict_declines_bool l es ep dd sl b) ⟨ho, hq⟩)
    (fun _ hq => call_meets F.slot_bool_eq_refl rfl F.entry_int_eq (F.args_int_eq_2 _ _) (bool_declines_dict l es ep dd sl b) ⟨ho, hq⟩)
    (fun _ hq => wpAny_of_eq (rfl : isSame (.ref l) (.bool b) = pure false) hq) (.inr hu) h
theorem RcAt_bool_dict {l : Addr} (b : Bool) (hl : IsDct s.heap l) (hu : A.units < cLine) : RcAt A s (.bool b) (.ref l) false := fun prog w E Q h => by
  obtain ⟨⟨cls, dd, data, sl⟩, es, ep, ho, hc, hd⟩ := id hl
  simp only at hc hd
  subst hc hd
  exact rc_eq_decline_or (k := false) rfl ⟨_, ho, rfl⟩ (by decide) F.sub_dict_bool F.slot_bool_eq F.slot_dict_eq_refl
    (fun _ hq => call_meets F.slot_bool_eq rfl F.entry_int_eq (F.args_int_eq_2 _ _) (bool_declines_dict l es ep dd sl b) ⟨ho, hq⟩)
    (fun _ hq => call_meets F.slot_dict_eq_refl ⟨_, ho, rfl⟩ F.entry_dict_eq (F.args_dict_eq_2 _ _) (dict_declines_bool l es ep dd sl b) ⟨ho, hq⟩)
    (fun _ hq => wpAny_of_eq (rfl : isSame (.bool b) (.ref l) = pure false) hq) (.inr hu) h
theorem EqAt_dict_bool {l : Addr} (b : Bool) (hl : IsDct s.heap l) (hu : A.units < cLine) : EqAt A s (.ref l) (.bool b) false := fun prog w E Q h => by
  unfold eqBool
  refine wpAny_holding ?_
  refine wpAny_ite_split (fun hab => absurd (eq_of_beq hab) nofun) (fun _ => ?_)
  exact wpAny_bind (RcAt_dict_bool b hl hu prog w E _ (wpAny_truthy_bool h))
theorem EqAt_bool_dict {l : Addr} (b : Bool) (hl : IsDct s.heap l) (hu : A.units < cLine) : EqAt A s (.bool b) (.ref l) false := fun prog w E Q h => by
  unfold eqBool
  refine wpAny_holding ?_
  refine wpAny_ite_split (fun hab => absurd (eq_of_beq hab) nofun) (fun _ => ?_)
  exact wpAny_bind (RcAt_bool_dict b hl hu prog w E _ (wpAny_truthy_bool h))
theorem RcAt_dict_int {l : Addr} (b : Int) (u : Tok) (hl : IsDct s.heap l) (hu : A.units < cLine) : RcAt A s (.ref l) (.int b u) false := fun prog w E Q h => by
  obtain ⟨⟨cls, dd, data, sl⟩, es, ep, ho, hc, hd⟩ := id hl
  simp only at hc hd
  subst hc hd
  exact rc_eq_decline_or (k := false) ⟨_, ho, rfl⟩ (typeIs_int s b u) (by decide) F.sub_int_dict F.slot_dict_eq F.slot_int_eq_refl
    (fun _ hq => call_meets F.slot_dict_eq ⟨_, ho, rfl⟩ F.entry_dict_eq (F.args_dict_eq_2 _ _) (dict_declines_int l es ep dd sl b u) ⟨ho, hq⟩)
    (fun _ hq => call_meets F.slot_int_eq_refl (typeIs_int s b u) F.entry_int_eq (F.args_int_eq_2 _ _) (int_declines_dict l es ep dd sl b u) ⟨ho, hq⟩)
    (fun _ hq => wpAny_of_eq (rfl : isSame (.ref l) (.int b u) = pure false) hq) (.inr hu) h
theorem RcAt_int_dict {l : Addr} (b : Int) (u : Tok) (hl : IsDct s.heap l) (hu : A.units < cLine) : RcAt A s (.int b u) (.ref l) false := fun prog w E Q h => by
  obtain ⟨⟨cls, dd, data, sl⟩, es, ep, ho, hc, hd⟩ := id hl
  simp only at hc hd
  subst hc hd
  exact rc_eq_decline_or (k := false) (typeIs_int s b u) ⟨_, ho, rfl⟩ (by decide) F.sub_dict_int F.slot_int_eq F.slot_dict_eq_refl
    (fun _ hq => call_meets F.slot_int_eq (typeIs_int s b u) F.entry_int_eq (F.args_int_eq_2 _ _) (int_declines_dict l es ep dd sl b u) ⟨ho, hq⟩)
    (fun _ hq => call_meets F.slot_dict_eq_refl ⟨_, ho, rfl⟩ F.entry_dict_eq (F.args_dict_eq_2 _ _) (dict_declines_int l es ep dd sl b u) ⟨ho, hq⟩)
    (fun _ hq => wpAny_of_eq (rfl : isSame (.int b u) (.ref l) = pure false) hq) (.inr hu) h
theorem EqAt_dict_int {l : Addr} (b : Int) (u : Tok) (hl : IsDct s.heap l) (hu : A.units < cLine) : EqAt A s (.ref l) (.int b u) false := fun prog w E Q h => by
  unfold eqBool
  refine wpAny_holding ?_
  refine wpAny_ite_split (fun hab => absurd (eq_of_beq hab) nofun) (fun _ => ?_)
  exact wpAny_bind (RcAt_dict_int b u hl hu prog w E _ (wpAny_truthy_bool h))
theorem EqAt_int_dict {l : Addr} (b : Int) (u : Tok) (hl : IsDct s.heap l) (hu : A.units < cLine) : EqAt A s (.int b u) (.ref l) false := fun prog w E Q h => by
  unfold eqBool
  refine wpAny_holding ?_
  refine wpAny_ite_split (fun hab => absurd (eq_of_beq hab) nofun) (fun _ => ?_)
  exact wpAny_bind (RcAt_int_dict b u hl hu prog w E _ (wpAny_truthy_bool h))
theorem RcAt_dict_str {l : Addr} (b : Str) (u : Tok) (hl : IsDct s.heap l) (hu : A.units < cLine) : RcAt A s (.ref l) (.str b u) false := fun prog w E Q h => by
  obtain ⟨⟨cls, dd, data, sl⟩, es, ep, ho, hc, hd⟩ := id hl
  simp only at hc hd
  subst hc hd
  exact rc_eq_decline_or (k := false) ⟨_, ho, rfl⟩ (typeIs_str s b u) (by decide) F.sub_str_dict F.slot_dict_eq F.slot_str_eq_refl
    (fun _ hq => call_meets F.slot_dict_eq ⟨_, ho, rfl⟩ F.entry_dict_eq (F.args_dict_eq_2 _ _) (dict_declines_str l es ep dd sl b u) ⟨ho, hq⟩)
    (fun _ hq => call_meets F.slot_str_eq_refl (typeIs_str s b u) F.entry_str_eq (F.args_str_eq_2 _ _) (str_declines_dict l es ep dd sl b u) ⟨ho, hq⟩)
    (fun _ hq => wpAny_of_eq (rfl : isSame (.ref l) (.str b u) = pure false) hq) (.inr hu) h
theorem RcAt_str_dict {l : Addr} (b : Str) (u : Tok) (hl : IsDct s.heap l) (hu : A.units < cLine) : RcAt A s (.str b u) (.ref l) false := fun prog w E Q h => by
  obtain ⟨⟨cls, dd, data, sl⟩, es, ep, ho, hc, hd⟩ := id hl
  simp only at hc hd
  subst hc hd
  exact rc_eq_decline_or (k := false) (typeIs_str s b u) ⟨_, ho, rfl⟩ (by decide) F.sub_dict_str F.slot_str_eq F.slot_dict_eq_refl
    (fun _ hq => call_meets F.slot_str_eq (typeIs_str s b u) F.entry_str_eq (F.args_str_eq_2 _ _) (str_declines_dict l es ep dd sl b u) ⟨ho, hq⟩)
    (fun _ hq => call_meets F.slot_dict_eq_refl ⟨_, ho, rfl⟩ F.entry_dict_eq (F.args_dict_eq_2 _ _) (dict_declines_str l es ep dd sl b u) ⟨ho, hq⟩)
    (fun _ hq => wpAny_of_eq (rfl : isSame (.str b u) (.ref l) = pure false) hq) (.inr hu) h
theorem EqAt_dict_str {l : Addr} (b : Str) (u : Tok) (hl : IsDct s.heap l) (hu : A.units < cLine) : EqAt A s (.ref l) (.str b u) false := fun prog w E Q h => by
  unfold eqBool
  refine wpAny_holding ?_
  refine wpAny_ite_split (fun hab => absurd (eq_of_beq hab) nofun) (fun _ => ?_)
  exact wpAny_bind (RcAt_dict_str b u hl hu prog w E _ (wpAny_truthy_bool h))
theorem EqAt_str_dict {l : Addr} (b : Str) (u : Tok) (hl : IsDct s.heap l) (hu : A.units < cLine) : EqAt A s (.str b u) (.ref l) false := fun prog w E Q h => by
  unfold eqBool
  refine wpAny_holding ?_
  refine wpAny_ite_split (fun hab => absurd (eq_of_beq hab) nofun) (fun _ => ?_)
  exact wpAny_bind (RcAt_str_dict b u hl hu prog w E _ (wpAny_truthy_bool h))
theorem ne_dict_list {l b : Addr} {items : Array Value} (hl : IsDct s.heap l) (hb : s.heap.IsList b items) : l ≠ b := fun e => by
  subst e
  obtain ⟨o, _, _, ho, hc, _⟩ := hl
  obtain ⟨o2, ho2, hc2, _⟩ := hb
  rw [ho] at ho2
  cases ho2
  rw [hc] at hc2
  exact absurd hc2 (by simp)
theorem RcAt_dict_list {l b : Addr} {items : Array Value} (hl : IsDct s.heap l) (hb : s.heap.IsList b items) (hu : A.units < cLine) : RcAt A s (.ref l) (.ref b) false := fun prog w E Q h => by
  have hne := ne_dict_list hl hb
  obtain ⟨⟨cls, dd, data, sl⟩, es, ep, ho, hc, hd⟩ := id hl
  obtain ⟨⟨cls2, dd2, data2, sl2⟩, ho2, hc2, n2, hd2⟩ := id hb
  simp only at hc hd hc2 hd2
  subst hc hd hc2 hd2
  exact (rc_eq_decline_or (k := false) ⟨_, ho, rfl⟩ ⟨_, ho2, rfl⟩ (by decide) F.sub_list_dict F.slot_dict_eq F.slot_list_eq_refl
    (fun _ hq => call_meets F.slot_dict_eq ⟨_, ho, rfl⟩ F.entry_dict_eq (F.args_dict_eq_2 _ _) (dict_declines_list l b es ep dd dd2 sl sl2 items n2) ⟨ho, ho2, hq⟩)
    (fun _ hq => call_meets F.slot_list_eq_refl ⟨_, ho2, rfl⟩ F.entry_list_eq (F.args_list_eq_2 _ _) (list_declines_dict l b es ep dd dd2 sl sl2 items n2) ⟨ho, ho2, hq⟩)
    (fun _ hq => wpAny_isSame_ref_other hne ho ho2 (by simp) hq) (.inr hu) h)
theorem RcAt_list_dict {l b : Addr} {items : Array Value} (hl : IsDct s.heap l) (hb : s.heap.IsList b items) (hu : A.units < cLine) : RcAt A s (.ref b) (.ref l) false := fun prog w E Q h => by
  have hne := (ne_dict_list hl hb).symm
  obtain ⟨⟨cls, dd, data, sl⟩, es, ep, ho, hc, hd⟩ := id hl
  obtain ⟨⟨cls2, dd2, data2, sl2⟩, ho2, hc2, n2, hd2⟩ := id hb
  simp only at hc hd hc2 hd2
  subst hc hd hc2 hd2
  exact (rc_eq_decline_or (k := false) ⟨_, ho2, rfl⟩ ⟨_, ho, rfl⟩ (by decide) F.sub_dict_list F.slot_list_eq F.slot_dict_eq_refl
    (fun _ hq => call_meets F.slot_list_eq ⟨_, ho2, rfl⟩ F.entry_list_eq (F.args_list_eq_2 _ _) (list_declines_dict l b es ep dd dd2 sl sl2 items n2) ⟨ho, ho2, hq⟩)
    (fun _ hq => call_meets F.slot_dict_eq_refl ⟨_, ho, rfl⟩ F.entry_dict_eq (F.args_dict_eq_2 _ _) (dict_declines_list l b es ep dd dd2 sl sl2 items n2) ⟨ho, ho2, hq⟩)
    (fun _ hq => wpAny_isSame_ref_other' hne ho2 ho (by simp) hq) (.inr hu) h)
theorem EqAt_dict_list {l b : Addr} {items : Array Value} (hl : IsDct s.heap l) (hb : s.heap.IsList b items) (hu : A.units < cLine) : EqAt A s (.ref l) (.ref b) false := .of_refs (ne_dict_list hl hb) (RcAt_dict_list hl hb hu)
theorem EqAt_list_dict {l b : Addr} {items : Array Value} (hl : IsDct s.heap l) (hb : s.heap.IsList b items) (hu : A.units < cLine) : EqAt A s (.ref b) (.ref l) false := .of_refs (ne_dict_list hl hb).symm (RcAt_list_dict hl hb hu)
theorem ne_dict_tuple {l b : Addr} {items : Array Value} (hl : IsDct s.heap l) (hb : s.heap.IsTuple b items) : l ≠ b := fun e => by
  subst e
  obtain ⟨o, _, _, ho, hc, _⟩ := hl
  obtain ⟨o2, ho2, hc2, _⟩ := hb
  rw [ho] at ho2
  cases ho2
  rw [hc] at hc2
  exact absurd hc2 (by simp)
theorem RcAt_dict_tuple {l b : Addr} {items : Array Value} (hl : IsDct s.heap l) (hb : s.heap.IsTuple b items) (hu : A.units < cLine) : RcAt A s (.ref l) (.ref b) false := fun prog w E Q h => by
  have hne := ne_dict_tuple hl hb
  obtain ⟨⟨cls, dd, data, sl⟩, es, ep, ho, hc, hd⟩ := id hl
  obtain ⟨⟨cls2, dd2, data2, sl2⟩, ho2, hc2, n2, hd2⟩ := id hb
  simp only at hc hd hc2 hd2
  subst hc hd hc2 hd2
  exact (rc_eq_decline_or (k := false) ⟨_, ho, rfl⟩ ⟨_, ho2, rfl⟩ (by decide) F.sub_tuple_dict F.slot_dict_eq F.slot_tuple_eq_refl
    (fun _ hq => call_meets F.slot_dict_eq ⟨_, ho, rfl⟩ F.entry_dict_eq (F.args_dict_eq_2 _ _) (dict_declines_tuple l b es ep dd dd2 sl sl2 items n2) ⟨ho, ho2, hq⟩)
    (fun _ hq => call_meets F.slot_tuple_eq_refl ⟨_, ho2, rfl⟩ F.entry_tuple_eq (F.args_tuple_eq_2 _ _) (tuple_declines_dict l b es ep dd dd2 sl sl2 items n2) ⟨ho, ho2, hq⟩)
    (fun _ hq => wpAny_isSame_ref_other hne ho ho2 (by simp) hq) (.inr hu) h)
theorem RcAt_tuple_dict {l b : Addr} {items : Array Value} (hl : IsDct s.heap l) (hb : s.heap.IsTuple b items) (hu : A.units < cLine) : RcAt A s (.ref b) (.ref l) false := fun prog w E Q h => by
  have hne := (ne_dict_tuple hl hb).symm
  obtain ⟨⟨cls, dd, data, sl⟩, es, ep, ho, hc, hd⟩ := id hl
  obtain ⟨⟨cls2, dd2, data2, sl2⟩, ho2, hc2, n2, hd2⟩ := id hb
  simp only at hc hd hc2 hd2
  subst hc hd hc2 hd2
  exact (rc_eq_decline_or (k := false) ⟨_, ho2, rfl⟩ ⟨_, ho, rfl⟩ (by decide) F.sub_dict_tuple F.slot_tuple_eq F.slot_dict_eq_refl
    (fun _ hq => call_meets F.slot_tuple_eq ⟨_, ho2, rfl⟩ F.entry_tuple_eq (F.args_tuple_eq_2 _ _) (tuple_declines_dict l b es ep dd dd2 sl sl2 items n2) ⟨ho, ho2, hq⟩)
    (fun _ hq => call_meets F.slot_dict_eq_refl ⟨_, ho, rfl⟩ F.entry_dict_eq (F.args_dict_eq_2 _ _) (dict_declines_tuple l b es ep dd dd2 sl sl2 items n2) ⟨ho, ho2, hq⟩)
    (fun _ hq => wpAny_isSame_ref_other' hne ho2 ho (by simp) hq) (.inr hu) h)
theorem EqAt_dict_tuple {l b : Addr} {items : Array Value} (hl : IsDct s.heap l) (hb : s.heap.IsTuple b items) (hu : A.units < cLine) : EqAt A s (.ref l) (.ref b) false := .of_refs (ne_dict_tuple hl hb) (RcAt_dict_tuple hl hb hu)
theorem EqAt_tuple_dict {l b : Addr} {items : Array Value} (hl : IsDct s.heap l) (hb : s.heap.IsTuple b items) (hu : A.units < cLine) : EqAt A s (.ref b) (.ref l) false := .of_refs (ne_dict_tuple hl hb).symm (RcAt_tuple_dict hl hb hu)
end
end EQD
set_option Elab.async false
set_option linter.all false
set_option maxRecDepth 100000
set_option maxHeartbeats 4000000
/-! OWQ1: what Python's own kinds tell when they are asked == or != with an instance of an own class: nothing. -/
namespace OWQ
open PySem PySem.Spec PyProof.Rows L2
open PySem.SeqAt PySem.MeetsSeq
open AutoSeq1 (wpAny_loadPart')
abbrev iO (C dx : Addr) : Obj := PySem.W.instObj C dx
/-- b is no T -/
abbrev NoT (s : Shared) (b : Addr) (T : String) : Prop := ∀ M : Model, PySem.W.Looks M s.heap (isInstance (.ref b) (.type T)) false
theorem none_eq (b C dx : Addr) : Meets (Builtin.«NoneType.__eq__» ⟨[.none, .ref b], []⟩) (fun _ R s => s.heap.get? b = some (iO C dx) ∧ R (.ok (.ret .notImplemented)) s) :=
  .of_wp fun prog w A R s h => by obtain ⟨hp, g, d, tk, os⟩ := s; obtain ⟨hl, h⟩ := h; wp_walk; exact ⟨_, rfl, h⟩
theorem none_ne (b C dx : Addr) : Meets (Builtin.«NoneType.__ne__» ⟨[.none, .ref b], []⟩) (fun _ R s => s.heap.get? b = some (iO C dx) ∧ R (.ok (.ret .notImplemented)) s) :=
  .of_wp fun prog w A R s h => by obtain ⟨hp, g, d, tk, os⟩ := s; obtain ⟨hl, h⟩ := h; wp_walk; exact ⟨_, rfl, h⟩
theorem bool_eq (b C dx : Addr) (k : Bool) : Meets (Builtin.«int.__eq__» ⟨[.bool k, .ref b], []⟩) (fun _ R s => s.heap.get? b = some (iO C dx) ∧ R (.ok (.ret .notImplemented)) s) :=
  .of_wp fun prog w A R s h => by obtain ⟨hp, g, d, tk, os⟩ := s; obtain ⟨hl, h⟩ := h; wp_walk using wpAny_loadPart' hl, wpAny_load hl; exact ⟨_, rfl, h⟩
theorem bool_ne (b C dx : Addr) (k : Bool) : Meets (Builtin.«int.__ne__» ⟨[.bool k, .ref b], []⟩) (fun _ R s => s.heap.get? b = some (iO C dx) ∧ R (.ok (.ret .notImplemented)) s) :=
  .of_wp fun prog w A R s h => by obtain ⟨hp, g, d, tk, os⟩ := s; obtain ⟨hl, h⟩ := h; wp_walk using wpAny_loadPart' hl, wpAny_load hl; exact ⟨_, rfl, h⟩
theorem int_eq (b C dx : Addr) (k : Int) (u : Tok) : Meets (Builtin.«int.__eq__» ⟨[.int k u, .ref b], []⟩) (fun _ R s => s.heap.get? b = some (iO C dx) ∧ R (.ok (.ret .notImplemented)) s) :=
  .of_wp fun prog w A R s h => by obtain ⟨hp, g, d, tk, os⟩ := s; obtain ⟨hl, h⟩ := h; wp_walk using wpAny_loadPart' hl, wpAny_load hl; exact ⟨_, rfl, h⟩
theorem int_ne (b C dx : Addr) (k : Int) (u : Tok) : Meets (Builtin.«int.__ne__» ⟨[.int k u, .ref b], []⟩) (fun _ R s => s.heap.get? b = some (iO C dx) ∧ R (.ok (.ret .notImplemented)) s) :=
  .of_wp fun prog w A R s h => by obtain ⟨hp, g, d, tk, os⟩ := s; obtain ⟨hl, h⟩ := h; wp_walk using wpAny_loadPart' hl, wpAny_load hl; exact ⟨_, rfl, h⟩
theorem str_eq (b C dx : Addr) (k : Str) (u : Tok) : Meets (Builtin.«str.__eq__» ⟨[.str k u, .ref b], []⟩) (fun _ R s => s.heap.get? b = some (iO C dx) ∧ R (.ok (.ret .notImplemented)) s) :=
  .of_wp fun prog w A R s h => by obtain ⟨hp, g, d, tk, os⟩ := s; obtain ⟨hl, h⟩ := h; wp_walk using wpAny_loadPart' hl, wpAny_load hl; exact ⟨_, rfl, h⟩
theorem str_ne (b C dx : Addr) (k : Str) (u : Tok) : Meets (Builtin.«str.__ne__» ⟨[.str k u, .ref b], []⟩) (fun _ R s => s.heap.get? b = some (iO C dx) ∧ R (.ok (.ret .notImplemented)) s) :=
  .of_wp fun prog w A R s h => by obtain ⟨hp, g, d, tk, os⟩ := s; obtain ⟨hl, h⟩ := h; wp_walk using wpAny_loadPart' hl, wpAny_load hl; exact ⟨_, rfl, h⟩
theorem list_eq (l b : Addr) : Meets (Builtin.«list.__eq__» ⟨[.ref l, .ref b], []⟩) (fun _ R s => NoT s b "list" ∧ R (.ok (.ret .notImplemented)) s) :=
  .of_wp fun prog w A R s h => by
    obtain ⟨hI, h⟩ := h
    have hh : ∀ {A' : Around} {Q : Bool → Shared → Prop} {E : Value → Shared → Prop}, Q false s → wpAny (model prog w) A' (isInstance (.ref b) (.type "list")) Q E s := fun q => (hI _).here q
    obtain ⟨hp, g, d, tk, os⟩ := s
    wp_walk using hh
    exact ⟨_, rfl, h⟩
theorem list_ne (l b : Addr) : Meets (Builtin.«list.__ne__» ⟨[.ref l, .ref b], []⟩) (fun _ R s => NoT s b "list" ∧ R (.ok (.ret .notImplemented)) s) :=
  .of_wp fun prog w A R s h => by
    obtain ⟨hI, h⟩ := h
    have hh : ∀ {A' : Around} {Q : Bool → Shared → Prop} {E : Value → Shared → Prop}, Q false s → wpAny (model prog w) A' (isInstance (.ref b) (.type "list")) Q E s := fun q => (hI _).here q
    obtain ⟨hp, g, d, tk, os⟩ := s
    wp_walk using hh
    exact ⟨_, rfl, h⟩
theorem tuple_eq (l b : Addr) : Meets (Builtin.«tuple.__eq__» ⟨[.ref l, .ref b], []⟩) (fun _ R s => NoT s b "tuple" ∧ R (.ok (.ret .notImplemented)) s) :=
  .of_wp fun prog w A R s h => by
    obtain ⟨hI, h⟩ := h
    have hh : ∀ {A' : Around} {Q : Bool → Shared → Prop} {E : Value → Shared → Prop}, Q false s → wpAny (model prog w) A' (isInstance (.ref b) (.type "tuple")) Q E s := fun q => (hI _).here q
    obtain ⟨hp, g, d, tk, os⟩ := s
    wp_walk using hh
    exact ⟨_, rfl, h⟩
theorem tuple_ne (l b : Addr) : Meets (Builtin.«tuple.__ne__» ⟨[.ref l, .ref b], []⟩) (fun _ R s => NoT s b "tuple" ∧ R (.ok (.ret .notImplemented)) s) :=
  .of_wp fun prog w A R s h => by
    obtain ⟨hI, h⟩ := h
    have hh : ∀ {A' : Around} {Q : Bool → Shared → Prop} {E : Value → Shared → Prop}, Q false s → wpAny (model prog w) A' (isInstance (.ref b) (.type "tuple")) Q E s := fun q => (hI _).here q
    obtain ⟨hp, g, d, tk, os⟩ := s
    wp_walk using hh
    exact ⟨_, rfl, h⟩
theorem dict_eq (l b : Addr) (es : Array DictEntry) (ep : Nat) (dd : Option Addr) (sl : Array (Option Value)) : Meets (Builtin.«dict.__eq__» ⟨[.ref l, .ref b], []⟩) (fun _ R s => s.heap.get? l = some (EQD.dO es ep dd sl) ∧ NoT s b "dict" ∧ R (.ok (.ret .notImplemented)) s) :=
  .of_wp fun prog w A R s h => by
    obtain ⟨hl, hI, h⟩ := h
    have hh : ∀ {A' : Around} {Q : Bool → Shared → Prop} {E : Value → Shared → Prop}, Q false s → wpAny (model prog w) A' (isInstance (.ref b) (.type "dict")) Q E s := fun q => (hI _).here q
    obtain ⟨hp, g, d, tk, os⟩ := s
    wp_walk using hh, wpAny_loadPart' hl
    exact ⟨_, rfl, h⟩
theorem dict_ne (l b : Addr) (es : Array DictEntry) (ep : Nat) (dd : Option Addr) (sl : Array (Option Value)) : Meets (Builtin.«dict.__ne__» ⟨[.ref l, .ref b], []⟩) (fun _ R s => s.heap.get? l = some (EQD.dO es ep dd sl) ∧ NoT s b "dict" ∧ R (.ok (.ret .notImplemented)) s) :=
  .of_wp fun prog w A R s h => by
    obtain ⟨hl, hI, h⟩ := h
    have hh : ∀ {A' : Around} {Q : Bool → Shared → Prop} {E : Value → Shared → Prop}, Q false s → wpAny (model prog w) A' (isInstance (.ref b) (.type "dict")) Q E s := fun q => (hI _).here q
    obtain ⟨hp, g, d, tk, os⟩ := s
    wp_walk using hh, wpAny_loadPart' hl
    exact ⟨_, rfl, h⟩
end OWQ
set_option Elab.async false
set_option linter.all false
set_option maxRecDepth 100000
set_option maxHeartbeats 4000000
/-! INO: x in xs, xs a list of instances of an own class with an own __eq__, x one of them. -/
namespace INO
open PySem PySem.Spec PyProof.Rows L2
open PySem.MeetsSeq
section
variable {X : Cx} {n k : Nat} {C : Addr} {sp : Sp}
theorem eqB (S : OW.Spc X.prog X.w X.K X.mg X.base k C "__eq__" sp) {A : Around} (sb : Sub X n A) (kn : k ≤ n) {pins : List (Addr × Obj)} {s : Shared} {σ : L2.St} {H : Hp} {a b da db : Addr} {fa fb : List (Str × V)} (I : Inv X pins σ H s)
    (hb : H b = some (.ins C db fb)) (ha : H a = some (.ins C da fa)) (hsp : sp [.ref b, .ref a] H (fun v H' => ∃ z, v = .bl z ∧ Ext H H') E0) :
    wpAny (model X.prog X.w) A (eqBool (.ref b) (.ref a)) (fun r s' => (b = a → r = true) ∧ ∃ H', Inv X pins σ H' s' ∧ Ext H H') X.xe s := by
  by_cases hne : b = a
  · subst hne
    unfold eqBool
    refine wpAny_holding ?_
    refine wpAny_ite_split (fun _ => ?_) (fun h => absurd (beq_self_eq_true _) h)
    wp_walk
    exact ⟨fun _ => rfl, H, I, Ext.rfl'⟩
  · obtain ⟨f, fd, ps, h1, h2, F, hbi⟩ := S.ex
    obtain ⟨mA, O, _⟩ := ins_get I.hok hb
    obtain ⟨od, J, _⟩ := O.look
    obtain ⟨mB, O', _⟩ := ins_get I.hok ha
    obtain ⟨od', J', _⟩ := O'.look
    obtain ⟨m, hF⟩ := I.fr
    have e0 : Env0 X.prog X.w X.K X.mg X.base A X.stack s H := by
      have z := I.env0
      exact ⟨sb.fr.trans z.frames, z.mod, z.bs, z.bsz, z.funs, z.frf, z.hok, z.bare⟩
    refine GQ.eqBool_refG hne ?_
    refine PySem.W.cmp_K (op := .Eq) (tb := .ref C) sb.room.units0 hF I.ok.mod.kin J J'.type OW.same_first h1 h2 ?_
    refine wpAny_mono (OW.run_at (E' := X.xe) (vs := [.ref b, .ref a]) F hbi (sb.room.mono kn) I e0 (.cons rfl (.cons rfl .nil)) hsp) (fun w s' z => ?_) fun _ _ x => x
    obtain ⟨z', H', I', rz, z, rfl, e⟩ := z
    cases (show w = Value.bool z from rz)
    exact ⟨z, rfl, fun h => absurd h hne, H', I', e⟩
/-- what is asked of the list -/
def Own (C : Addr) (sp : Sp) (H : Hp) (l a : Addr) (bs : List Addr) : Prop := H l = some (.lst (bs.map V.ref)) ∧ a ∈ bs ∧ (∀ b ∈ bs, ∃ d fs, H b = some (.ins C d fs)) ∧ ∀ H', Ext H H' → ∀ b ∈ bs, sp [.ref b, .ref a] H' (fun v H'' => ∃ z, v = .bl z ∧ Ext H' H'') E0
theorem loop (S : OW.Spc X.prog X.w X.K X.mg X.base k C "__eq__" sp) {A : Around} (sb : Sub X n A.in1) (kn : k ≤ n) {pins : List (Addr × Obj)} {σ : L2.St} {H0 : Hp} {l a : Addr} {bs : List Addr} {R : Result → Shared → Prop} (h0 : Own C sp H0 l a bs)
    (hE : ∀ e s', X.xe e s' → R (.error e) s') (fin : ∀ (s' : Shared) (H' : Hp), Inv X pins σ H' s' → Ext H0 H' → R (.ok (.ret (.bool true))) s') {j : Nat} (hj : bs[j]? = some a) :
    ∀ (m i : Nat) (s : Shared) (H : Hp), j - i = m → i ≤ j → Inv X pins σ H s → Ext H0 H →
      wpAny (model X.prog X.w) A.in1 (Builtin.«list.__contains__.loop» ⟨[.ref l, .ref a, rawInt i], []⟩) (fun fin s' => match fin with | .done f => R (.ok f) s' | .again c' => c'.quiet = true ∧ codeAny (model X.prog X.w) A c' R s') (fun e s' => R (.error e) s') s := by
  have hjl : j < bs.length := (List.getElem?_eq_some_iff.mp hj).1
  obtain ⟨hl, ham, hin, hsp⟩ := h0
  intro m
  induction m with
  | zero =>
    intro i s H hm hi I ex
    have hij : i = j := by omega
    subst hij
    obtain ⟨_, its, c, rv, _, e⟩ := I.lstM (ex _ _ hl)
    obtain ⟨u, e1, e2⟩ := rv.get (show (bs.map V.ref)[i]? = some (.ref a) by rw [List.getElem?_map, hj]; rfl)
    cases (show u = Value.ref a from e2)
    have hs : its.toArray[((i : Nat) : Int).toNat]? = some (.ref a) := by simpa using e1
    obtain ⟨d, fs, hb⟩ := hin a ham
    unfold Builtin.«list.__contains__.loop»
    refine wpAny_bind (wpAny_listItems e rfl ?_)
    rw [hs]
    dsimp only
    refine wpAny_bind (wpAny_mono (eqB S sb kn I (ex _ _ hb) (ex _ _ hb) (hsp H ex a ham)) (fun r s' h => ?_) fun e' s' h' => hE e' s' h')
    obtain ⟨hr, H', I', ex'⟩ := h
    rw [hr rfl]
    wp_walk
    exact fin s' H' I' (ex.trans ex')
  | succ m ih =>
    intro i s H hm hi I ex
    have hib : i < bs.length := by omega
    obtain ⟨_, its, c, rv, _, e⟩ := I.lstM (ex _ _ hl)
    obtain ⟨u, e1, e2⟩ := rv.get (show (bs.map V.ref)[i]? = some (.ref bs[i]) by rw [List.getElem?_map, List.getElem?_eq_getElem hib]; rfl)
    cases (show u = Value.ref bs[i] from e2)
    have hs : its.toArray[((i : Nat) : Int).toNat]? = some (.ref bs[i]) := by simpa using e1
    have hbm := List.getElem_mem hib
    obtain ⟨d, fs, hb⟩ := hin bs[i] hbm
    obtain ⟨da, fa, ha⟩ := hin a ham
    unfold Builtin.«list.__contains__.loop»
    refine wpAny_bind (wpAny_listItems e rfl ?_)
    rw [hs]
    dsimp only
    refine wpAny_bind (wpAny_mono (eqB S sb kn I (ex _ _ hb) (ex _ _ ha) (hsp H ex bs[i] hbm)) (fun r s' h => ?_) fun e' s' h' => hE e' s' h')
    obtain ⟨hr, H', I', ex'⟩ := h
    cases r with
    | true =>
      wp_walk
      exact fin s' H' I' (ex.trans ex')
    | false =>
      have hc : ((i : Int) + 1) = ((i + 1 : Nat) : Int) := by push_cast; rfl
      wp_walk
      rw [hc]
      exact ⟨plainId_quiet plain_contains_loop _, codeAny_builtin entry_contains_loop (by
        rw [Around.under_plainId plain_contains_loop _]
        exact ih (i + 1) s' H' (by omega) (by omega) I' (ex.trans ex'))⟩
def rInO (C : Addr) (sp : Sp) : R2 := fun x y H Q => ∃ (l a : Addr) (bs : List Addr), x = .ref a ∧ y = .ref l ∧ Own C sp H l a bs ∧ ∀ H', Ext H H' → Q (.bl true) H'
theorem op_inO (S : OW.Spc X.prog X.w X.K X.mg X.base k C "__eq__" sp) (hr : Room (k + 1) X.A) : OpR X (compareOp .In) (rInO C sp) := by
  intro pins s σ H x y v u Q I rx ry h
  obtain ⟨l, a, bs, rfl, rfl, h0, q⟩ := h
  cases (show v = Value.ref a from rx)
  cases (show u = Value.ref l from ry)
  obtain ⟨_, its, c, rv, _, e⟩ := I.lstM h0.1
  obtain ⟨j, hjl, hj⟩ := List.getElem_of_mem h0.2.1
  have sb : Sub X k X.A.in1 := ⟨hr.in1, rfl⟩
  show wpAny _ X.A (do return Value.bool (← contains (.ref l) (.ref a))) _ _ s
  have hT : s.TypeIs (.ref l) "list" := ⟨_, e, rfl⟩
  refine wpAny_bind (wpAny_contains_slot hT PySem.F.slot_list_contains (wpAny_mono (call_meetsIn (Q := fun v s2 => v = Value.bool true ∧ ∃ H2, Inv X pins σ H2 s2 ∧ Ext H H2) (B := Builtin.«list.__contains__») (S := fun A R s' => A = X.A ∧ s' = s ∧ (∀ e s', X.xe e s' → R (.error e) s') ∧ ∀ (s' : Shared) (H' : Hp), Inv X pins σ H' s' → Ext H H' → R (.ok (.ret (.bool true))) s')
    PySem.F.slot_list_contains hT PySem.F.entry_list_contains (PySem.F.args_list_contains_2 _ _) ?_ ⟨rfl, rfl, fun e s' z => z, fun s' H' I' ex => ?_⟩) (fun v s' hv => ?_) fun _ _ e => e))
  case refine_1 =>
    intro A R s' hS
    obtain ⟨rfl, rfl, hE, fin⟩ := hS
    unfold Builtin.«list.__contains__»
    wp_walk
    exact ⟨plainId_quiet plain_contains_loop _, codeAny_builtin entry_contains_loop (by
      rw [Around.under_plainId plain_contains_loop _]
      exact loop S sb (Nat.le_refl _) h0 hE fin (j := j) (List.getElem?_eq_some_iff.mpr ⟨hjl, hj⟩) _ 0 s' H rfl (Nat.zero_le _) I Ext.rfl')⟩
  case refine_2 => exact ⟨rfl, H', I', ex⟩
  case refine_3 =>
    obtain ⟨rfl, H', I', ex⟩ := hv
    exact wpAny_truthy_bool (wpAny_pure ⟨.bl true, H', I', rfl, q H' ex⟩)
end
end INO
set_option Elab.async false
set_option linter.all false
set_option maxRecDepth 100000
set_option maxHeartbeats 4000000
/-! GL: promises of defs that are asked only where no repr is under way (A.guards = some []); what such a def may do more: repr of lists and tuples. -/
namespace GL
open PySem PySem.Spec PyProof.Rows L2
/-- a def's promise, where no repr is under way -/
structure FnG (P : Program) (w : World) (K : PySem.W.Frag) (mg : Str → Option Value) (base : Heap) (k : Nat) (f : Addr) (fd : FuncData) (ps : List Str) (sp : Sp) : Prop where
  len : ∀ vs H Q E, sp vs H Q E → vs.length = ps.length
  run : ∀ (A : Around) (outer : List Env) (s : Shared) (H : Hp) (args : Args) (us : List Value) (vs : List V) (Q : VK) (E : XK), A.guards = some [] → Room k A → Env0 P w K mg base A outer s H → BindsTo s fd args (ps.zip us) → Vals vs us → sp vs H Q E →
    codeAny (model P w) A (.call (.ref f) args) (CR CX0 outer P w H s Q E) s
section
variable {P : Program} {w : World} {K : PySem.W.Frag} {mg : Str → Option Value} {base : Heap} {k : Nat} {f : Addr} {fd : FuncData} {ps : List Str} {sp : Sp}
theorem FnG.of (F : FnOk P w K mg base CX0 k f fd ps sp) : FnG P w K mg base k f fd ps sp := ⟨F.len, fun A outer s H args us vs Q E _ => F.run A outer s H args us vs Q E⟩
/-- by its body -/
theorem okG {x qual : Str} {params : Arguments} {body : List Stmt} {scope : Scope} {dvs : List V} {kws : List (Str × V)} {N : List Str} (F : FunD K x qual params body scope dvs kws f fd) (S : FnScope N ps scope) (len : ∀ vs H Q E, sp vs H Q E → vs.length = ps.length)
    (hbody : ∀ (cdv : Value) (A : Around) (outer : List Env) (s : Shared) (H : Hp) (vs : List V) (Q : VK) (E : XK), A.guards = some [] → Room k (A.deeper (envOfC qual scope s.heap.objs.size f cdv)) → sp vs H Q E →
      ∃ t, PSs (cxOf CX0 P w K mg base N qual scope f cdv A outer s H E) body t ∧ t { nx := fun _ H' => Q .non H', rt := Q } (start N vs) H) : FnG P w K mg base (k + 1) f fd ps sp := by
  refine ⟨len, fun A outer s H args us vs Q E hg hr e0 hb r hsp => ?_⟩
  obtain ⟨oc, od, dV, kV, doc, pm, an, cdv, ct, osl, hfd, lk, hcd, _, _⟩ := F.ex
  subst hfd
  obtain ⟨t, ht, hq⟩ := hbody cdv A outer s H vs Q E hg (hr.deeper _) hsp
  have keep : ∀ b o, base.get? b = some o → s.heap.get? b = some o := fun b o e => (e0.bs b o e).1
  have KX : K.In s.heap := e0.mod.kin.keeps keep
  refine codeAny_call_function hr.depth (KX _ _ lk) rfl S.co S.gen rfl (PySem.W.codeRec_of KX hcd) (hb _ _ _ _ (wpAny_newFunctionEnv_cells S.kind (fun y hy => ?_) fun env he s1 x => ?_))
  · exact (S.par y.1 (List.of_mem_zip hy).1).imp id fun q => ⟨q, PySem.W.cellsFrom_some _ _ _ (.inl q)⟩
  · subst he
    refine ⟨(e0.mod.nolimit.keeps keep).keeps x.toInCall.keep, codeAny_func (wpAny_mono (ht.run [] s1 (start N vs) H _ (inv_start S hr.hd e0 (len _ _ _ _ hsp) r x) hq) (fun fl s' hs => ?_) fun e s' hs => hs)⟩
    match fl, hs with
    | .ret u, ⟨v, σ', H', J, rv, q⟩ => exact ⟨v, H', J.os, J.bare, J.base, J.hok, rv, q⟩
    | .next, ⟨σ', H', J, q⟩ => exact ⟨.non, H', J.os, J.bare, J.base, J.hok, rfl, q⟩
    | .brk, ⟨_, _, _, q⟩ => exact q.elim
    | .cont, ⟨_, _, _, q⟩ => exact q.elim
end
/-- the package of a def of this kind -/
structure CalG (P : Program) (w : World) (K : PySem.W.Frag) (mg : Str → Option Value) (base : Heap) (k : Nat) (x : Str) (sp : Sp) (dvs : List V) : Prop where
  ex : ∃ (f : Addr) (fd : FuncData) (ps : List Str) (ds : List Value), FnG P w K mg base k f fd ps sp ∧ mg x = some (.ref f) ∧ PySem.W.keepIn K (.ref f) = true ∧ Binds K fd ps ds ∧ Vals dvs ds
section
variable {X : Cx} {k j : Nat} {x : Str} {sp : Sp} {dvs : List V} {e : Expr} {es : List Expr} {t : TA} {p pos : Pos}
theorem pe_cG (c : CalG X.prog X.w X.K X.mg X.base k x sp dvs) (hgd : X.A.guards = some []) (hr : Room j X.A) (hk : k ≤ j) (hg : Gl X x) (ha : PA X (e :: es) t)
    (hdb : (x == ("__debug__" : Str)) = false := by decide) (he : starEach (e :: es) X.env = (false, eval e X.env) :: starEach es X.env := by rfl) (hpl : (backTo pos (starEach es X.env)).any (·.1) = false := by rfl) :
    PE X (.Call (.Name x p) (e :: es) [] pos) (tCall sp dvs E0 t) := by
  obtain ⟨f, fd, ps, ds, F, hm, kp, b, d⟩ := c.ex
  refine ⟨fun pins s σ H Q I h => wpAny_Call_Name_kw (ld_glob I hg hm (PySem.W.callWith_K (h₀ := X.base) I.ok.mod.kin kp (thn (ha.run pos pins s σ H _ I h) fun us s1 ⟨vs, H1, I1, r, q⟩ => ⟨I1.kIn, ?_⟩) he hpl) hdb)⟩
  have r2 := r.append d
  refine wpAny_call (codeAny_mono (F.run X.A X.stack s1 H1 ⟨us, []⟩ (us ++ ds) (vs ++ dvs) Q E0 hgd (hr.mono hk) I1.env0 (b s1 us I1.kIn (r2.length.symm.trans (F.len _ _ _ _ q))) r2 q) fun r s' hq => ?_)
  match r, hq with
  | .error _, hq => exact hq.elim
  | .ok (.ret u), hq => exact I1.after hq
  | .ok .next, hq => exact hq.elim
  | .ok .brk, hq => exact hq.elim
  | .ok .cont, hq => exact hq.elim
/-- repr of what is flat, of lists and tuples -/
def rRepr (K : PySem.W.Frag) : List V → Hp → VK → Prop := fun xs H Q => ∃ (y : V) (d : PyData), xs = [y] ∧ Dp K H y d ∧ d.showable = true ∧ d.hasDict = false ∧ d.depth ≤ 60 ∧ d.shown.length ≤ sizeLine ∧ Q (.str d.shown) H
theorem call_reprD (hgd : X.A.guards = some []) (hu : X.A.units + 64 < cLine) : CallR X (.builtin "repr") (rRepr X.K) := by
  intro pins s σ H xs us Q I r h
  obtain ⟨y, d, rfl, hd, hs, hn, hdp, hsz, q⟩ := h
  obtain ⟨u, rfl, ru⟩ := r.one
  obtain ⟨as, rd⟩ := Dp.reads I d y u hd ru
  have fin : ∀ h' tk t, (∀ b o, s.heap.get? b = some o → h'.get? b = some o) → EP X pins σ Q (.str d.shown t) { s with heap := h', toks := tk } := fun h' tk t hk => ⟨.str d.shown, H, I.kept hk, ⟨t, rfl⟩, q⟩
  cases hd with
  | non => cases ru; exact PySem.P.repr_of_none (fin s.heap _ _ fun _ _ e => e)
  | bl b => cases ru; exact PySem.P.repr_of_bool (fin s.heap _ _ fun _ _ e => e)
  | int i =>
    obtain ⟨t, rfl⟩ := ru
    exact PySem.P.repr_of_int (of_decide_eq_true hs) (fin s.heap _ _ fun _ _ e => e)
  | str z =>
    obtain ⟨t, rfl⟩ := ru
    exact PySem.P.repr_of_str (fin s.heap _ _ fun _ _ e => e) hsz
  | lst _ _ =>
    cases ru
    exact repr_of_reads' rd hs (fun z => absurd z (by rw [hn]; decide)) hgd (by omega) (fun _ _ e => e) (fun h' u tk hk => fin h' tk u hk) hsz
  | tup _ _ =>
    cases ru
    exact repr_of_reads' rd hs (fun z => absurd z (by rw [hn]; decide)) hgd (by omega) (fun _ _ e => e) (fun h' u tk hk => fin h' tk u hk) hsz
end
end GL
set_option Elab.async false
set_option linter.all false
set_option maxRecDepth 100000
set_option maxHeartbeats 4000000
/-! RPO: repr of lists, tuples and dicts that hold own instances, of any depth. -/
namespace RPO
open PySem PySem.Spec PyProof.Rows L2
open Builtin Builtin.List
/-- the guards stand on these alone -/
def Gd (g : List Code) (outs : List Addr) : Prop := ∀ id v rest kw, Code.builtin id ⟨v :: rest, kw⟩ ∈ g → ∃ a ∈ outs, v = .ref a
theorem Gd.nil : Gd [] [] := fun _ _ _ _ h => nomatch h
theorem Gd.cons {g : List Code} {outs : List Addr} {id : String} {a : Addr} {rest : List Value} {kw : List (Str × Value)} (h : Gd g outs) : Gd (.builtin id ⟨.ref a :: rest, kw⟩ :: g) (a :: outs) := by
  intro id' v rest' kw' hm
  rcases List.mem_cons.mp hm with e | hm
  · cases e
    exact ⟨a, List.mem_cons_self, rfl⟩
  · obtain ⟨b, hb, e⟩ := h _ _ _ _ hm
    exact ⟨b, List.mem_cons_of_mem _ hb, e⟩
theorem Gd.clear {g : List Code} {outs : List Addr} {a : Addr} (h : Gd g outs) (n : a ∉ outs) : Clear g a := fun id v rest kw hm e => by
  obtain ⟨b, hb, e2⟩ := h id v rest kw hm
  rw [e] at e2
  cases e2
  exact n hb
/-- all but these are as they were -/
def Ex (outs : List Addr) (H H' : Hp) : Prop := ∀ a o, H a = some o → a ∉ outs → H' a = some o
theorem Ex.refl (outs : List Addr) (H : Hp) : Ex outs H H := fun _ _ h _ => h
theorem Ex.ext {outs : List Addr} {H H1 H2 : Hp} (x : Ex outs H H1) (e : Ext H1 H2) : Ex outs H H2 := fun a o h n => e a o (x a o h n)
theorem Ex.more {outs : List Addr} {H H1 : Hp} {a : Addr} (x : Ex outs H H1) : Ex (a :: outs) H H1 := fun b o h n => x b o h fun z => n (List.mem_cons_of_mem _ z)
section
variable {X : Cx}
/-- what a thing shows as, within containers at outs -/
def RpU (X : Cx) (n : Nat) (outs : List Addr) (H0 : Hp) (v : V) (t : Str) : Prop := ∀ (A : Around) (g : List Code) (pins : List (Addr × Obj)) (s : Shared) (σ : L2.St) (H : Hp) (u : Value) (bs : Nat),
  Ex outs H0 H → Sub X n A → A.guards = some g → Gd g outs → Inv X pins σ H s → RelV v u → bs + t.length ≤ sizeLine →
  wpAny (model X.prog X.w) A (pyReprUnder bs u) (fun r s' => r = t ∧ ∃ H', Inv X pins σ H' s' ∧ Ext H H') X.xe s
theorem RpU.mono {n m : Nat} {outs : List Addr} {H0 : Hp} {v : V} {t : Str} (h : RpU X n outs H0 v t) (nm : n ≤ m) : RpU X m outs H0 v t := fun A g pins s σ H u bs x sb => h A g pins s σ H u bs x (sb.mono nm)
theorem RpU.non {n : Nat} {outs : List Addr} {H0 : Hp} : RpU X n outs H0 .non "None" := fun A g pins s σ H u bs x sb hg gd I r hb => by
  cases r
  exact ReprIs.none bs hb _ _ _ _ fun tk => ⟨rfl, H, I.tok tk, Ext.rfl'⟩
theorem RpU.bl {n : Nat} {outs : List Addr} {H0 : Hp} {b : Bool} : RpU X n outs H0 (.bl b) (if b then "True" else "False") := fun A g pins s σ H u bs x sb hg gd I r hb => by
  cases r
  exact ReprIs.bool b bs hb _ _ _ _ fun tk => ⟨rfl, H, I.tok tk, Ext.rfl'⟩
theorem RpU.int {n : Nat} {outs : List Addr} {H0 : Hp} {i : Int} (h : i.natAbs.log2 < 1920) : RpU X n outs H0 (.int i) (toString i) := fun A g pins s σ H u bs x sb hg gd I r hb => by
  obtain ⟨t, rfl⟩ := r
  exact ReprIs.int t h bs hb _ _ _ _ fun tk => ⟨rfl, H, I.tok tk, Ext.rfl'⟩
theorem RpU.str {n : Nat} {outs : List Addr} {H0 : Hp} {z : Str} : RpU X n outs H0 (.str z) (reprText z) := fun A g pins s σ H u bs x sb hg gd I r hb => by
  obtain ⟨t, rfl⟩ := r
  exact ReprIs.str z t (by omega) bs hb _ _ _ _ fun tk => ⟨rfl, H, I.tok tk, Ext.rfl'⟩
/-- an own instance, by its own __repr__ -/
theorem RpU.own {k n : Nat} {outs : List Addr} {H0 : Hp} {a C dx : Addr} {fs : List (Str × V)} {sp : Sp} {t : Str} (S : OW.Spc X.prog X.w X.K X.mg X.base k C "__repr__" sp) (ha : H0 a = some (.ins C dx fs)) (na : a ∉ outs)
    (hsp : ∀ H, H a = some (.ins C dx fs) → sp [.ref a] H (fun v H' => v = .str t ∧ Ext H H') E0) (kn : k ≤ n) : RpU X n outs H0 (.ref a) t := fun A g pins s σ H u bs x sb hg gd I r hb => by
  obtain ⟨f, fd, ps, h1, h2, F, hbi⟩ := S.ex
  cases (show u = Value.ref a from r)
  have ea := x a _ ha na
  obtain ⟨mA, O, _⟩ := ins_get I.hok ea
  obtain ⟨od, J, _⟩ := O.look
  have KI := I.kIn
  have e0 : Env0 X.prog X.w X.K X.mg X.base A X.stack s H := by
    have z := I.env0
    exact ⟨sb.fr.trans z.frames, z.mod, z.bs, z.bsz, z.funs, z.frf, z.hok, z.bare⟩
  refine wpAny_pyReprUnder_ref (by omega) ?_
  unfold pyReprObjUnder pyReprObjBy
  refine wpAny_bind (wpAny_cRoomFor sb.room.units0 ?_)
  refine wpAny_bind (wpAny_bind (J.type.here ((PySem.W.looks_findIn KI h1).here ?_)))
  show wpAny _ _ (if (some (Value.ref f)).isNone = true then _ else _) _ _ _
  rw [if_neg (by simp)]
  have called : wpAny (model X.prog X.w) A (call (.ref f) [.ref a]) (fun v s' => ∃ tk, v = .str t tk ∧ ∃ H', Inv X pins σ H' s' ∧ Ext H H') X.xe s := by
    refine wpAny_mono (OW.run_at (E' := X.xe) (vs := [.ref a]) F hbi (sb.room.mono kn) I e0 (.cons rfl .nil) (hsp H ea)) (fun w s' z => ?_) fun _ _ x => x
    obtain ⟨z', H', I', rz, z, e⟩ := z
    rw [z] at rz
    obtain ⟨tk, rfl⟩ := rz
    exact ⟨tk, rfl, H', I', e⟩
  refine wpAny_bind (m := callSpecialIfBoundBy? _ (.ref a) (Str.ofString "__repr__")) ?_
  have fin : wpAny (model X.prog X.w) A (callSpecialIfBoundBy? (fun g first => match reprUnder? g, first with | some twin, [self] => call twin [self, rawInt bs] | _, _ => call g (first ++ [])) (.ref a) (Str.ofString "__repr__"))
      (fun r s' => ∃ tk, r = some (.str t tk) ∧ ∃ H', Inv X pins σ H' s' ∧ Ext H H') X.xe s := by
    simp only [callSpecialIfBoundBy?, bindSpecialIfBound?]
    refine wpAny_holding (wpAny_bind (wpAny_bind (wpAny_bind (J.type.here ((PySem.W.looks_findIn KI h1).here ?_)))))
    refine wpAny_bind (wpAny_askSetting (wpAny_ite ?_))
    have ends : wpAny (model X.prog X.w) A (call (.ref f) ([.ref a] ++ []) >>= fun v => pure (some v)) (fun r s' => ∃ tk, r = some (.str t tk) ∧ ∃ H', Inv X pins σ H' s' ∧ Ext H H') X.xe s :=
      wpAny_bind (wpAny_mono called (fun v s' h' => wpAny_pure (by obtain ⟨tk, rfl, h⟩ := h'; exact ⟨tk, rfl, h⟩)) fun _ _ h' => h')
    split
    · exact wpAny_bind ((PySem.W.bind_fn KI _ (beq_iff_eq.mp h2)).here (wpAny_pure (by exact ends)))
    · exact wpAny_tryCatch (wpAny_bind ((PySem.W.bind_fn KI _ (beq_iff_eq.mp h2)).here (wpAny_pure (by exact ends))))
  refine wpAny_mono fin (fun r s' h' => ?_) fun _ _ x => x
  obtain ⟨tk, rfl, h⟩ := h'
  exact wpAny_bind (wpAny_isInstance (T := "str") (b := true) rfl isSubtype_str_str (wpAny_pure ⟨_, _, rfl, rfl, h⟩))
end
end RPO
set_option Elab.async false
set_option linter.all false
set_option maxRecDepth 100000
set_option maxHeartbeats 4000000
/-! RPL: the containers of RPO: lists, tuples, dicts. -/
namespace RPO
open PySem PySem.Spec PyProof.Rows L2
open Builtin Builtin.List
theorem strs_of : ∀ {ts : List Str} {us : List Value}, Vals (ts.map V.str) us → ∃ done : List (Str × Tok), us = strValues done ∧ done.map (·.1) = ts
  | [], _, .nil => ⟨[], rfl, rfl⟩
  | t :: ts, _, .cons r h => by
    obtain ⟨tk, rfl⟩ := r
    obtain ⟨done, rfl, e⟩ := strs_of h
    exact ⟨(t, tk) :: done, rfl, by simp [e]⟩
theorem sub_loop {X : Cx} {n : Nat} {A : Around} {args : Args} (h : Sub X (n + 1) A) : Sub X n (A.under (.builtin "list.__repr__.loop" args)) := by
  have hd : (A.under (.builtin "list.__repr__.loop" args)).depth ≤ A.depth + 1 := by
    first | exact Nat.le_refl _ | simp [Around.under, Code.weight, Code.isCreation, Code.isGuard, Code.isCaller, Code.frames, Code.isFrame, guardIds]
  have hu := units_under_list_loop A args
  have hf : (A.under (.builtin "list.__repr__.loop" args)).frames = A.frames := by
    have e : (Code.builtin "list.__repr__.loop" args).envs = [] := by first | rfl | simp [Code.envs, Code.isFrame]
    have e2 : (A.under (.builtin "list.__repr__.loop" args)).frames = pushEnvs (Code.envs (.builtin "list.__repr__.loop" args)) A.frames := by first | rfl | simp [Around.under]
    rw [e2, e]
    cases A.frames <;> first | rfl | simp [pushEnvs]
  obtain ⟨⟨h1, h2, h3⟩, h4⟩ := h
  exact ⟨⟨h1, by omega, by rw [hu]; omega⟩, hf.trans h4⟩
section
variable {X : Cx} {n : Nat} {outs : List Addr} {H0 : Hp} {a : Addr} {xs : List V} {ts : List Str}
theorem list_loop {A : Around} {g : List Code} {P : Addr} {bs : Nat} {pins : List (Addr × Obj)} {σ : L2.St} {Hb : Hp} {R : Result → Shared → Prop} (sb : Sub X (n + 1) A) (hg : A.guards = some g) (gd : Gd g outs) (ha : Hb a = some (.lst xs)) (hP : Hb P = none) (xe : Ex outs H0 Hb) (hlen : ts.length = xs.length)
    (hT : ∀ (i : Nat) (x : V), xs[i]? = some x → ∃ t, ts[i]? = some t ∧ RpU X n (a :: outs) H0 x t) (hsz : bs + (listText ts).length ≤ sizeLine)
    (hE : ∀ e s', X.xe e s' → R (.error e) s')
    (fin : ∀ (s' : Shared) (H' : Hp) (u : Tok), Inv X pins σ H' s' → Ext Hb H' → R (.ok (.ret (.str (listText ts) u))) s') :
    ∀ (k i : Nat) (s : Shared) (H : Hp), xs.length - i = k → i ≤ xs.length → Inv X pins σ H s → Ext Hb H → H P = some (.lst ((ts.take i).map V.str)) →
      codeAny (model X.prog X.w) A (.builtin "list.__repr__.loop" ⟨[.ref a, rawInt i, .ref P, rawInt ((bs + piled (ts.take i) : Nat) : Int)], []⟩) R s := by
  have hX : (listText ts).length = (textFrom 0 "[" ts).length + 1 := by
    show (textFrom 0 "[" ts ++ "]").length = _
    rw [strLen_append]; rfl
  have hL := textFrom_len ts 0 "["
  have each : ∀ t ∈ ts, t.length ≤ sizeLine := fun t ht => by
    have := hL.2.1 t ht
    omega
  have many : ts.length ≤ sizeLine := by
    have h1 := hL.1
    rw [if_neg (Nat.lt_irrefl 0)] at h1
    omega
  have hp3 := piled_le_listText ts
  have uu : A.in1.units < cLine := by have := sb.room.un; show A.units + 1 < cLine; omega
  intro k
  induction k with
  | zero =>
    intro i s H hk hi I eb hPi
    have hin : i = ts.length := by omega
    obtain ⟨_, its, m, rv, _, e⟩ := I.lstM (eb _ _ ha)
    obtain ⟨_, ups, c, rp, _, ep⟩ := I.lstM hPi
    have nits : its[i]? = none := by
      have := rv.length
      exact List.getElem?_eq_none (by omega)
    refine codeAny_builtin F.entry_list_repr_loop ?_
    show wpAny _ _ («list.__repr__.loop» ⟨[.ref a, .int i 0, .ref P, .int ((bs + piled (ts.take i) : Nat) : Int) 0], []⟩) _ _ s
    rw [repr_loop_tree]
    refine wpAny_bind (wpAny_listItems e rfl ?_)
    have hnone : its.toArray[((i : Int)).toNat]? = none := by simpa using nits
    simp only [hnone]
    unfold reprEnd
    refine wpAny_bind (wpAny_listItems ep rfl ?_)
    obtain ⟨done, rfl, ed⟩ := strs_of rp
    rw [show (strValues done).toArray.toList = strValues done from by simp, repr_fold]
    refine wpAny_bind (wpAny_pure ?_)
    have hall : done.map (·.1) = ts := by rw [ed, hin, List.take_length]
    rw [hall]
    refine wpAny_bind (wpAny_mkStr (wpAny_pure ?_) (by show (listText ts).length ≤ sizeLine; omega))
    exact fin _ H _ (I.tok _) eb
  | succ k ih =>
    intro i s H hk hi I eb hPi
    have hlt : i < xs.length := by omega
    obtain ⟨t, ht, hrep⟩ := hT i xs[i] (List.getElem?_eq_getElem hlt)
    obtain ⟨_, its, m, rv, lv, e⟩ := I.lstM (eb _ _ ha)
    have hlt2 : i < its.length := by omega
    have rvi : RelV xs[i] its[i] := by
      obtain ⟨u, e1, e2⟩ := rv.get (List.getElem?_eq_getElem hlt)
      rw [List.getElem?_eq_getElem hlt2] at e1
      cases e1
      exact e2
    have hp1 := piled_take_succ ht
    have hp2 := piled_take_le ts (i + 1)
    refine codeAny_builtin F.entry_list_repr_loop ?_
    show wpAny _ _ («list.__repr__.loop» ⟨[.ref a, .int i 0, .ref P, .int ((bs + piled (ts.take i) : Nat) : Int) 0], []⟩) _ _ s
    rw [repr_loop_tree]
    refine wpAny_bind (wpAny_listItems e rfl ?_)
    have hsome : its.toArray[((i : Int)).toNat]? = some its[i] := by simp [hlt2]
    simp only [hsome]
    rw [Int.toNat_natCast]
    refine wpAny_bind (wpAny_holding (wpAny_mono (hrep _ _ pins s σ H its[i] (bs + piled (ts.take i) + 1) ((xe.ext eb).more) (sub_loop sb) (guards_under_guard (isGuard_list_loop _) hg) gd.cons I rvi (by omega)) (fun r s2 h2 => ?_) fun e' s' h' => hE e' s' h'))
    obtain ⟨rfl, H2, I2, e2⟩ := h2
    refine wpAny_bind (wpAny_mkStr ?_ (each r (List.mem_of_getElem? ht)))
    have hP2 := e2 _ _ hPi
    obtain ⟨_, ups, c, rp, _, ep⟩ := I2.lstM hP2
    refine wpAny_bind ?_
    show wpAny _ _ (updateSeq P _) _ _ _
    have lp := rp.length
    rw [List.length_map, List.length_take] at lp
    refine wpAny_updateSeq ep rfl (wpAny_pure ⟨F.quiet_list_repr_loop _, ?_⟩) (by rw [List.size_toArray]; omega) (by rw [Array.size_push, List.size_toArray]; omega)
    have e1' : ((i : Int) + 1) = ((i + 1 : Nat) : Int) := by omega
    have e2' : bs + piled (ts.take i) + (r.length + 2) = bs + piled (ts.take (i + 1)) := by omega
    rw [e1', e2']
    have I3 := I2.lset (its' := ups ++ [.str r s2.toks]) (f := fun x => x.push (.str r s2.toks)) (t' := s2.toks + 1) hP2 ep (by simp) (ys := (ts.take (i + 1)).map V.str) (by
      rw [List.take_add_one, ht, List.map_append]
      exact rp.append (.cons ⟨_, rfl⟩ .nil)) (by rw [List.length_map, List.length_take]; omega)
    exact ih (i + 1) _ _ (by omega) hlt I3 (fun b o hb => by
      rw [upd_ne (fun z => by rw [z, hP] at hb; cases hb)]
      exact e2 _ _ (eb _ _ hb)) upd_same
end
end RPO
set_option Elab.async false
set_option linter.all false
set_option maxRecDepth 100000
set_option maxHeartbeats 4000000
namespace RPO
open PySem PySem.Spec PyProof.Rows L2
open Builtin Builtin.List
/-- things one by one -/
inductive RpAll (X : Cx) (n : Nat) (outs : List Addr) (H0 : Hp) : List V → List Str → Prop
  | nil : RpAll X n outs H0 [] []
  | cons {v : V} {t : Str} {vs : List V} {ts : List Str} : RpU X n outs H0 v t → RpAll X n outs H0 vs ts → RpAll X n outs H0 (v :: vs) (t :: ts)
theorem RpAll.len {X : Cx} {n : Nat} {outs : List Addr} {H0 : Hp} : ∀ {vs : List V} {ts : List Str}, RpAll X n outs H0 vs ts → ts.length = vs.length
  | _, _, .nil => rfl
  | _, _, .cons _ h => by rw [List.length_cons, List.length_cons, h.len]
theorem RpAll.get {X : Cx} {n : Nat} {outs : List Addr} {H0 : Hp} : ∀ {vs : List V} {ts : List Str}, RpAll X n outs H0 vs ts → ∀ (i : Nat) (x : V), vs[i]? = some x → ∃ t, ts[i]? = some t ∧ RpU X n outs H0 x t
  | _, _, .nil, _, _, h => by simp at h
  | _, _, .cons r h, 0, _, e => by
    simp at e
    subst e
    exact ⟨_, rfl, r⟩
  | _, _, .cons r h, i + 1, x, e => by
    obtain ⟨t, e1, e2⟩ := h.get i x (by simpa using e)
    exact ⟨t, by simpa using e1, e2⟩
section
variable {X : Cx} {n : Nat} {outs : List Addr} {H0 : Hp} {a : Addr} {xs : List V} {ts : List Str}
/-- what is asked of the end of a text -/
def Told (X : Cx) (pins : List (Addr × Obj)) (σ : L2.St) (H : Hp) (t : Str) (v : Value) (s' : Shared) : Prop := ∃ tk, v = .str t tk ∧ ∃ H', Inv X pins σ H' s' ∧ Ext H H'
theorem list_at {A : Around} {g : List Code} {bs : Nat} {pins : List (Addr × Obj)} {σ : L2.St} {s : Shared} {H : Hp} {Q : Value → Shared → Prop} (sb : Sub X (n + 1) A) (hg : A.guards = some g) (gd : Gd g outs) (I : Inv X pins σ H s) (ha : H a = some (.lst xs)) (na : a ∉ outs) (xe : Ex outs H0 H) (hx : xs ≠ [])
    (hT : RpAll X n (a :: outs) H0 xs ts) (hsz : bs + (listText ts).length ≤ sizeLine) (fin : ∀ v s', Told X pins σ H (listText ts) v s' → Q v s') :
    wpAny (model X.prog X.w) A.in1 (Builtin.listReprAt bs ⟨[.ref a], []⟩) (fun fin s' => match fin with | .done f => callEnd Q X.xe (.ok f) s' | .again c' => c'.quiet = true ∧ codeAny (model X.prog X.w) A c' (callEnd Q X.xe) s') (fun e s' => callEnd Q X.xe (.error e) s') s := by
  obtain ⟨_, its, m, rv, lv, e⟩ := I.lstM ha
  obtain ⟨y, l, rfl⟩ : ∃ y l, its = y :: l := by
    cases its with
    | nil =>
      have : xs.length = 0 := lv
      exact absurd (List.length_eq_zero_iff.mp this) hx
    | cons y l => exact ⟨y, l, rfl⟩
  refine wpAny_list_repr_head (A := A.in1) hg (fun v rest kw hm => listSameRef_of_ne ((gd.clear na) _ _ _ _ hm)) e rfl ?_
  refine wpAny_bind (m := newList []) (wpAny_newObj_type ?_)
  refine wpAny_pure ⟨F.quiet_list_repr_loop _, ?_⟩
  have I1 := I.lnew (its := []) (ys := []) (t' := s.toks) .nil (Nat.zero_le _)
  have hn := I.fresh
  exact list_loop (n := n) (Hb := H) (R := callEnd Q X.xe) sb hg gd ha hn xe hT.len hT.get hsz (fun _ _ h => h) (fun s' H' u I' e' => fin _ _ ⟨u, rfl, H', I', e'⟩) _ 0 _ _ rfl (Nat.zero_le _) I1 (Ext.upd hn) upd_same
theorem RpU.list (ha : H0 a = some (.lst xs)) (na : a ∉ outs) (hx : xs ≠ []) (hT : RpAll X n (a :: outs) H0 xs ts) : RpU X (n + 1) outs H0 (.ref a) (listText ts) := fun A g pins s σ H u bs x sb hg gd I r hb => by
  cases (show u = Value.ref a from r)
  have ea := x a _ ha na
  obtain ⟨_, its, m, rv, lv, e⟩ := I.lstM ea
  refine wpAny_pyReprUnder_ref (by omega) (wpAny_pyReprObjUnder_twin (twin := "list.__repr__.under") ⟨_, e, rfl⟩ F.slot_list_repr.toG rfl sb.room.units0
    (call_twin_plain F.plain_list_repr_under F.entry_list_repr_under F.check_list_repr_under ⟨_, e, rfl⟩ F.slot_list_repr.toG (F.args_list_repr_1 _) (list_at sb hg gd I ea na x hx hT hb fun v s' h => ?_)))
  obtain ⟨tk, rfl, h⟩ := h
  exact ⟨⟨_, _, rfl⟩, _, _, rfl, rfl, h⟩
theorem RpU.list0 (ha : H0 a = some (.lst [])) (na : a ∉ outs) : RpU X n outs H0 (.ref a) "[]" := fun A g pins s σ H u bs x sb hg gd I r hb => by
  cases (show u = Value.ref a from r)
  have ea := x a _ ha na
  obtain ⟨_, its, m, rv, lv, e⟩ := I.lstM ea
  obtain rfl : its = [] := List.length_eq_zero_iff.mp lv.symm
  exact wpAny_pyReprUnder_ref (by omega) (wpAny_pyReprObjUnder_list_empty ⟨_, e, rfl⟩ sb.room.units0 e rfl ⟨_, _, rfl, rfl, H, I.tok _, Ext.rfl'⟩)
theorem tup_fold {A : Around} {g : List Code} {pins : List (Addr × Obj)} {σ : L2.St} {Hb : Hp} {Q : (Array Str × Nat) → Shared → Prop} (sb : Sub X n A) (hg : A.guards = some g) (gd : Gd g (a :: outs)) (xe : Ex outs H0 Hb) :
    ∀ {vs : List V} {ts : List Str}, RpAll X n (a :: outs) H0 vs ts → ∀ (us : List Value) (acc : Array Str) (m : Nat) (s : Shared) (H : Hp), Vals vs us → m + piled ts ≤ sizeLine → Inv X pins σ H s → Ext Hb H →
      (∀ s' H', Inv X pins σ H' s' → Ext Hb H' → Q ⟨acc ++ ts.toArray, m + piled ts⟩ s') → wpAny (model X.prog X.w) A (forIn us (⟨acc, m⟩ : (Array Str × Nat)) tupBody) Q X.xe s := by
  intro vs ts h
  induction h with
  | nil =>
    intro us acc m s H rv hm I eb fin
    cases rv
    have h0 := fin s H I eb
    simp only [List.forIn_nil]
    exact wpAny_pure (by simpa [piled] using h0)
  | @cons v t vs ts hr hl ih =>
    intro us acc m s H rv hm I eb fin
    cases rv with
    | @cons _ u _ us r rv =>
      rw [piled_cons] at hm
      rw [List.forIn_cons]
      refine wpAny_bind (wpAny_bind (wpAny_mono (hr A g pins s σ H u (m + 1) (xe.ext eb).more sb hg gd I r (by omega)) (fun r' s2 h2 => ?_) fun _ _ x => x))
      obtain ⟨rfl, H2, I2, e2⟩ := h2
      refine wpAny_pure ?_
      refine ih us (acc.push r') (m + (r'.length + 2)) s2 H2 rv (by omega) I2 (eb.trans e2) fun s' H' I' e' => ?_
      have h1 := fin s' H' I' e'
      have e : m + piled (r' :: ts) = m + (r'.length + 2) + piled ts := by rw [piled_cons]; omega
      rw [e] at h1
      simpa using h1
theorem tup_at {A : Around} {g : List Code} {bs : Nat} {pins : List (Addr × Obj)} {σ : L2.St} {s : Shared} {H : Hp} {Q : Value → Shared → Prop} {id : String} {rest : List Value} (hcg : (Code.builtin id ⟨.ref a :: rest, []⟩).isGuard = true) (sb : Sub X n (A.under (.builtin id ⟨.ref a :: rest, []⟩)))
    (hg : A.guards = some g) (gd : Gd g outs) (I : Inv X pins σ H s) (ha : H a = some (.tup xs)) (na : a ∉ outs) (xe : Ex outs H0 H) (hT : RpAll X n (a :: outs) H0 xs ts) (hsz : bs + (tupleText ts).length ≤ sizeLine) (fin : ∀ v s', Told X pins σ H (tupleText ts) v s' → Q v s') :
    wpOwn (model X.prog X.w) A (.builtin id ⟨.ref a :: rest, []⟩) (Builtin.tupleReprAt bs ⟨[.ref a], []⟩) (fun fin s' => match fin with | .done f => callEnd Q X.xe (.ok f) s' | .again c' => c'.quiet = true ∧ codeAny (model X.prog X.w) A c' (callEnd Q X.xe) s') (fun e s' => callEnd Q X.xe (.error e) s') s := by
  obtain ⟨its, rv, ⟨o, ho, hc, m, hd⟩, hz⟩ := I.tuple (SqT.of (K := X.K) ha)
  have hca : Clear g a := gd.clear na
  have hlen : ts.length = its.length := hT.len.trans rv.length
  have hp := piled_le_tupleText ts
  have hsz0 : (tupleText ts).length ≤ sizeLine := by omega
  rw [tuple_repr_tree, tupleReprUnderWay_eq]
  refine wpOwn_bind (wpOwn_stackTailAny hg (tupGuardF_off _) (tupGuardF_pos _) ?_)
  have hn : (g.any fun c => tupGuardF (.ref a) (c, default)) = false := by
    rw [List.any_eq_false]
    intro c hcm
    rw [tupGuardF_of_clear hca c hcm]
    exact Bool.false_ne_true
  rw [hn]
  refine wpOwn_of_wpAny ?_
  show wpAny _ _ (tupleReprRest bs (.ref a)) _ _ s
  unfold tupleReprRest Builtin.Tuple.tupleItemsOf
  refine wpAny_bind (wpAny_bind (wpAny_seqItems ho hd (wpAny_pure ?_)))
  rw [← Array.forIn_toList]
  refine wpAny_bind (tup_fold (Hb := H) sb (guards_under_guard hcg hg) gd.cons xe hT _ _ _ s H (by simpa using rv) (by omega) I Ext.rfl' fun s' H' I' e' => ?_)
  refine wpAny_bind (wpAny_mkStr (wpAny_pure ?_) (by simpa [tupleText, hlen] using hsz0))
  have h1 := fin (.str (tupleText ts) s'.toks) { s' with toks := s'.toks + 1 } ⟨_, rfl, H', I'.tok _, e'⟩
  simpa [tupleText, hlen] using h1
theorem sub_code {A : Around} {id : String} {args : Args} (h : Sub X (n + 1) A) (hw : (Code.builtin id args).weight ≤ 1) (he : (Code.builtin id args).envs = []) (hu : (A.under (.builtin id args)).units = A.units + 1) : Sub X n (A.under (.builtin id args)) := by
  have e2 : (A.under (.builtin id args)).frames = pushEnvs (Code.envs (.builtin id args)) A.frames := by first | rfl | simp [Around.under]
  have hf : (A.under (.builtin id args)).frames = A.frames := by
    rw [e2, he]
    cases A.frames <;> first | rfl | simp [pushEnvs]
  have hd : (A.under (.builtin id args)).depth = A.depth + (Code.builtin id args).weight := by first | rfl | simp [Around.under]
  obtain ⟨⟨h1, h2, h3⟩, h4⟩ := h
  exact ⟨⟨h1, by omega, by rw [hu]; omega⟩, hf.trans h4⟩
theorem w_tup {args : Args} : (Code.builtin "tuple.__repr__" args).weight ≤ 1 := by
  first | exact Nat.le_refl _ | simp [Code.weight, Code.isCreation, Code.isGuard, Code.isCaller, Code.frames, Code.isFrame, guardIds]
theorem w_tupU {args : Args} : (Code.builtin "tuple.__repr__.under" args).weight ≤ 1 := by
  first | exact Nat.le_refl _ | simp [Code.weight, Code.isCreation, Code.isGuard, Code.isCaller, Code.frames, Code.isFrame, guardIds]
theorem e_b {id : String} {args : Args} (h : (Code.builtin id args).isFrame = false := by rfl) : (Code.builtin id args).envs = [] := by simp [Code.envs, h]
theorem RpU.tup (ha : H0 a = some (.tup xs)) (na : a ∉ outs) (hT : RpAll X n (a :: outs) H0 xs ts) : RpU X (n + 1) outs H0 (.ref a) (tupleText ts) := fun A g pins s σ H u bs x sb hg gd I r hb => by
  cases (show u = Value.ref a from r)
  have ea := x a _ ha na
  obtain ⟨its, rv, ⟨o, ho, hc, m, hd⟩, hz⟩ := I.tuple (SqT.of (K := X.K) ea)
  refine wpAny_pyReprUnder_ref (by omega) (wpAny_pyReprObjUnder_twin (twin := "tuple.__repr__.under") ⟨o, ho, hc⟩ F.slot_tuple_repr rfl sb.room.units0
    (call_twin_own (F.quiet_tuple_repr_under _) F.entry_tuple_repr_under F.check_tuple_repr_under ⟨o, ho, hc⟩ F.slot_tuple_repr (F.args_tuple_repr_1 _)
      (tup_at (isGuard_tuple_repr_under _) (sub_code sb w_tupU e_b (units_under_tuple_repr_under _ _)) hg gd I ea na x hT hb fun v s' h => ?_)))
  obtain ⟨tk, rfl, h⟩ := h
  exact ⟨⟨_, _, rfl⟩, _, _, rfl, rfl, h⟩
/-- repr of a tuple, where no repr is under way -/
def rReprT (X : Cx) (n : Nat) : List V → Hp → VK → Prop := fun ys H Q => ∃ (a : Addr) (xs : List V) (ts : List Str), ys = [.ref a] ∧ H a = some (.tup xs) ∧ RpAll X n [a] H xs ts ∧ (tupleText ts).length ≤ sizeLine ∧ ∀ H', Ext H H' → Q (.str (tupleText ts)) H'
theorem call_reprT (hgd : X.A.guards = some []) (hr : Room (n + 2) X.A) : CallR X (.builtin "repr") (rReprT X n) := by
  intro pins s σ H ys us Q I r h
  obtain ⟨a, xs, ts, rfl, ea, hT, hb, q⟩ := h
  obtain ⟨u, rfl, ru⟩ := r.one
  cases (show u = Value.ref a from ru)
  obtain ⟨its, rv, ⟨o, ho, hc, m, hd⟩, hz⟩ := I.tuple (SqT.of (K := X.K) ea)
  have sb : Sub X (n + 1) X.A.in1 := ⟨hr.in1, rfl⟩
  refine call_repr_slot (by have := hr.un; omega) ⟨o, ho, hc⟩ F.slot_tuple_repr ?_
  refine wpAny_call (codeAny_call_builtin_own (Code.quiet_builtin _ (by decide +kernel)) F.entry_tuple_repr (F.slot_tuple_repr.check _ _ _ _ _ _ _ _ ⟨o, ho, hc⟩ (F.args_tuple_repr_1 _)
    (tup_at (outs := []) (H0 := H) (bs := 0) (isGuard_tuple_repr _) (sub_code sb w_tup e_b (units_under_tuple_repr _ _)) hgd Gd.nil I ea (by simp) (Ex.refl _ _) hT (by omega) fun v s' h => ?_)))
  obtain ⟨tk, rfl, H', I', e⟩ := h
  exact ⟨_, _, rfl, .str _, H', I', ⟨_, rfl⟩, q H' e⟩
end
end RPO
set_option Elab.async false
set_option linter.all false
set_option maxRecDepth 100000
set_option maxHeartbeats 4000000
namespace RPO
open PySem PySem.Spec PyProof.Rows L2
open Builtin Builtin.List
/-- what the entries of a dict show as -/
inductive RpEnt (X : Cx) (n : Nat) (outs : List Addr) (H0 : Hp) : List (Key × V) → List Str → Prop
  | nil : RpEnt X n outs H0 [] []
  | cons {k : Key} {v : V} {tk tv : Str} {kvs : List (Key × V)} {ps : List Str} : RpU X n outs H0 (kV k) tk → RpU X n outs H0 v tv → RpEnt X n outs H0 kvs ps → RpEnt X n outs H0 ((k, v) :: kvs) ((tk ++ ": " ++ tv) :: ps)
section
variable {X : Cx} {n : Nat} {outs : List Addr} {H0 : Hp} {a : Addr} {kvs : List (Key × V)} {ps : List Str}
theorem RpEnt.len : ∀ {kvs : List (Key × V)} {ps : List Str}, RpEnt X n outs H0 kvs ps → ps.length = kvs.length
  | _, _, .nil => rfl
  | _, _, .cons _ _ h => by rw [List.length_cons, List.length_cons, h.len]
theorem RpEnt.get : ∀ {kvs : List (Key × V)} {ps : List Str}, RpEnt X n outs H0 kvs ps → ∀ (i : Nat) (e : Key × V), kvs[i]? = some e → ∃ tk tv : Str, ps[i]? = some (tk ++ ": " ++ tv) ∧ RpU X n outs H0 (kV e.1) tk ∧ RpU X n outs H0 e.2 tv
  | _, _, .nil, _, _, h => by simp at h
  | _, _, .cons r1 r2 h, 0, _, e => by
    simp at e
    subst e
    exact ⟨_, _, rfl, r1, r2⟩
  | _, _, .cons _ _ h, i + 1, x, e => by
    obtain ⟨t1, t2, e1, e2⟩ := h.get i x (by simpa using e)
    exact ⟨t1, t2, by simpa using e1, e2⟩
theorem pairs_at {P : Program} {w : World} : ∀ {es : List DictEntry} {vs : List (Key × Value)}, Pairs (mixKind P w) es vs → ∀ (i : Nat) (kv : Key × Value), vs[i]? = some kv → ∃ e, es[i]? = some e ∧ (mixKind P w).is kv.1 e.key = true ∧ e.val = kv.2
  | _, _, .nil, _, _, h => by simp at h
  | _, _, .cons h1 h2 h, 0, _, e => by
    simp at e
    subst e
    exact ⟨_, rfl, h1, h2⟩
  | _, _, .cons _ _ h, i + 1, kv, e => by
    obtain ⟨en, e1, e2⟩ := pairs_at h i kv (by simpa using e)
    exact ⟨en, by simpa using e1, e2⟩
theorem key_rel {k : Key} {v : Value} (h : keyIs k v = true) : RelV (kV k) v := by
  rcases keyIs_shape h with ⟨i, t, rfl, rfl⟩ | ⟨x, t, rfl, rfl⟩
  · exact ⟨_, rfl⟩
  · exact ⟨_, rfl⟩
theorem kv_at : ∀ {ks : List (Key × V)} {va : List (Key × Value)}, KV ks va → ∀ (i : Nat) (e : Key × V), ks[i]? = some e → ∃ u : Key × Value, va[i]? = some u ∧ e.1 = u.1 ∧ RelV e.2 u.2
  | _, _, .nil, _, _, h => by simp at h
  | _, _, .cons r h, 0, _, e => by
    simp at e
    subst e
    exact ⟨_, rfl, r.1, r.2⟩
  | _, _, .cons _ h, i + 1, x, e => by
    obtain ⟨u, e1, e2⟩ := kv_at h i x (by simpa using e)
    exact ⟨u, by simpa using e1, e2⟩
/-- the entries of a locked dict -/
theorem entry_of {pins : List (Addr × Obj)} {σ : L2.St} {s : Shared} {H : Hp} {o : Obj} (I : Inv X pins σ H s) (h : H a = some (.frz o (.dK kvs))) {es : Array DictEntry} {ep : Nat} (hd : o.data = .dict es ep) (i : Nat) (hi : i < kvs.length) :
    ∃ e, es[i]? = some e ∧ RelV (kV kvs[i].1) e.key ∧ RelV kvs[i].2 e.val := by
  obtain ⟨_, hg, _, es', ep', vs, hd', hs, kv, o2, es2, g2, x2, d2, k2, p2, _⟩ := I.frzK h
  rw [hg] at g2
  cases g2
  rw [hd] at d2
  cases d2
  obtain ⟨u, e1, e2, e3⟩ := kv_at kv i kvs[i] (List.getElem?_eq_getElem hi)
  obtain ⟨e, f1, f2, f3⟩ := pairs_at p2 i u e1
  refine ⟨e, by simpa using f1, ?_, by rw [f3]; exact e3⟩
  rw [e2]
  exact key_rel f2
theorem dct_at {A : Around} {g : List Code} {bs : Nat} {pins : List (Addr × Obj)} {σ : L2.St} {s : Shared} {H : Hp} {Q : Value → Shared → Prop} {id : String} {rest : List Value} (hcg : (Code.builtin id ⟨.ref a :: rest, []⟩).isGuard = true) (sb : Sub X n (A.under (.builtin id ⟨.ref a :: rest, []⟩)))
    (hg : A.guards = some g) (gd : Gd g outs) (I : Inv X pins σ H s) (ha : H a = some (.dK kvs)) (na : a ∉ outs) (xe : Ex outs H0 H) (hT : RpEnt X n (a :: outs) H0 kvs ps) (hsz : bs + (dictText ps).length ≤ sizeLine) (fin : ∀ v s', Told X pins σ H (dictText ps) v s' → Q v s') :
    wpOwn (model X.prog X.w) A (.builtin id ⟨.ref a :: rest, []⟩) (Builtin.dictReprAt bs ⟨[.ref a], []⟩) (fun fin s' => match fin with | .done f => callEnd Q X.xe (.ok f) s' | .again c' => c'.quiet = true ∧ codeAny (model X.prog X.w) A c' (callEnd Q X.xe) s') (fun e s' => callEnd Q X.xe (.error e) s') s := by
  have mu : Mut (some (HO.dK kvs)) := trivial
  have nf := I.nofrz ha mu
  obtain ⟨o, I1⟩ := I.lock ha mu
  have e1 : (upd H a (.frz o (.dK kvs))) a = some (.frz o (.dK kvs)) := upd_same
  have x1 : Ex (a :: outs) H0 (upd H a (.frz o (.dK kvs))) := fun b u e nb => by
    rw [upd_ne fun z => nb (by rw [z]; exact List.mem_cons_self)]
    exact xe b u e fun z => nb (List.mem_cons_of_mem _ z)
  have back : ∀ {H' : Hp} {s' : Shared}, Inv X pins σ H' s' → Ext (upd H a (.frz o (.dK kvs))) H' → ∃ H2, Inv X pins σ H2 s' ∧ Ext H H2 := fun {H' s'} I' e' => by
    refine ⟨_, I'.unlock (e' _ _ e1) nf, fun b u e => ?_⟩
    by_cases hb : b = a
    · subst hb
      rw [upd_same, ← e, ha]
    · rw [upd_ne hb]
      refine e' _ _ ?_
      rw [upd_ne hb]
      exact e
  generalize upd H a (.frz o (.dK kvs)) = H1 at I1 e1 x1 back
  obtain ⟨hsys, hget, hex, es, ep, vs, hd, hsize, _, _⟩ := I1.frzK e1
  have got : ∀ {H' : Hp} {s' : Shared}, Inv X pins σ H' s' → Ext H1 H' → s'.heap.get? a = some o := fun I' e' => (I'.frzK (e' _ _ e1)).2.1
  have hTy : s.TypeIs (.ref a) "dict" := ⟨o, hget, hex.1⟩
  have hca : Clear g a := gd.clear na
  have hlen : ps.length = es.size := hT.len.trans hsize.symm
  have hp3 := piled_le_dictText ps
  have hsz0 : (dictText ps).length ≤ sizeLine := by omega
  unfold Builtin.dictReprAt
  refine wpOwn_bind (wpOwn_of_wpAny ?_)
  unfold Builtin.Dict.dictSlotNone
  refine wpAny_bind (wpAny_notOrdered_dict hTy ?_)
  show wpAny _ _ (pure (Value.ref a)) _ _ s
  refine wpAny_pure ?_
  rw [dictReprRunning_eq]
  refine wpOwn_bind (wpOwn_stackTailAny hg (dictGuardF_off _) (dictGuardF_pos _) ?_)
  have hn : (g.any fun c => dictGuardF (.ref a) (c, default)) = false := by
    rw [List.any_eq_false]
    intro c hcm
    rw [dictGuardF_of_clear hca c hcm]
    exact Bool.false_ne_true
  rw [hn]
  refine wpOwn_of_wpAny ?_
  have hg' := guards_under_guard hcg hg
  show wpAny _ _ (Builtin.Dict.addrOf (.ref a) >>= _) _ _ s
  refine wpAny_bind (wpAny_pure ?_)
  show wpAny _ _ (Builtin.Dict.showsAll a >>= _) _ _ s
  unfold Builtin.Dict.showsAll
  rw [if_neg (by rw [hsys]; exact Bool.false_ne_true)]
  refine wpAny_bind (wpAny_pure ?_)
  refine wpAny_bind (wpAny_dictEpoch hget hd ?_)
  refine wpAny_bind (wpAny_dictEntries hget hd ?_)
  refine wpAny_bind ?_
  rw [Std.Legacy.Range.forIn_eq_forIn_range']
  simp only [Std.Legacy.Range.size, Nat.sub_zero, Nat.add_sub_cancel, Nat.div_one]
  refine wpAny_forIn_list _
    (fun rest' r s' => ∃ i H', rest' = List.range' i (es.size - i) ∧ i ≤ es.size ∧ r = (⟨(ps.take i).toArray, bs + piled (ps.take i)⟩ : (Array Str × Nat)) ∧ Inv X pins σ H' s' ∧ Ext H1 H')
    _ ?_ ?_ _ _ ⟨0, H1, by simp, Nat.zero_le _, by simp [piled], I1, Ext.rfl'⟩
  · rintro x rest' _ s' ⟨i, H', hr, hi, rfl, I', e'⟩
    have hlt : i < es.size := by
      rcases Nat.lt_or_ge i es.size with h | h
      · exact h
      · rw [Nat.sub_eq_zero_of_le h] at hr; simp at hr
    obtain ⟨rfl, hrest⟩ : x = i ∧ rest' = List.range' (i + 1) (es.size - (i + 1)) := by
      have e : es.size - i = (es.size - (i + 1)) + 1 := by omega
      rw [e, List.range'_succ] at hr
      injection hr with h1 h2
      exact ⟨h1, h2⟩
    have hx2 : x < kvs.length := by omega
    obtain ⟨tk, tv, hp, rk, rv⟩ := hT.get x kvs[x] (List.getElem?_eq_getElem hx2)
    obtain ⟨en, f1, f2, f3⟩ := entry_of I' (e' _ _ e1) hd x hx2
    have hpl : (tk ++ ": " ++ tv).length = tk.length + 2 + tv.length := by
      rw [strLen_append, strLen_append]; rfl
    have hp1 := piled_take_succ hp
    have hp2 := piled_take_le ps (x + 1)
    rw [hpl] at hp1
    refine wpAny_bind (wpAny_dictEntries (got I' e') hd ?_)
    rw [f1]
    refine wpAny_bind (wpAny_holding (wpAny_bind (wpAny_mono (rk _ _ pins s' σ H' en.key (bs + piled (ps.take x) + 1) (x1.ext e') sb hg' gd.cons I' f2 (by omega)) (fun r2 s2 h2 => ?_) fun _ _ z => z)))
    obtain ⟨rfl, H2, I2, e2⟩ := h2
    refine wpAny_bind (wpAny_mono (rv _ _ pins s2 σ H2 en.val (bs + piled (ps.take x) + (r2.length + 3)) (x1.ext (e'.trans e2)) sb hg' gd.cons I2 f3 (by omega)) (fun r3 s3 h3 => ?_) fun _ _ z => z)
    obtain ⟨rfl, H3, I3, e3⟩ := h3
    have e13 := (e'.trans e2).trans e3
    refine wpAny_pure ?_
    refine wpAny_bind (wpAny_dictEpoch (got I3 e13) hd ?_)
    rw [if_neg (by simp)]
    have g1 : (ps.take x).toArray.push (r2 ++ ": " ++ r3) = (ps.take (x + 1)).toArray := by
      rw [List.take_add_one, hp]
      simp
    have g2 : bs + piled (ps.take x) + (r2.length + r3.length + 4) = bs + piled (ps.take (x + 1)) := by omega
    refine wpAny_pure ⟨x + 1, H3, hrest, hlt, ?_, I3, e13⟩
    rw [g1, g2]
  · rintro _ s' ⟨i, H', hr, hi, rfl, I', e'⟩
    have hin : i = es.size := by
      rcases Nat.lt_or_ge i es.size with h | h
      · have e : es.size - i = (es.size - (i + 1)) + 1 := by omega
        rw [e, List.range'_succ] at hr; exact nomatch hr
      · exact Nat.le_antisymm hi h
    rw [hin, ← hlen, List.take_length]
    refine wpAny_bind (wpAny_mkStr (wpAny_pure ?_) (by simpa [dictText] using hsz0))
    have h1 := fin (.str (dictText ps) s'.toks) { s' with toks := s'.toks + 1 } ⟨_, rfl, back (I'.tok _) e'⟩
    simpa [dictText] using h1
theorem w_dct {args : Args} : (Code.builtin "dict.__repr__" args).weight ≤ 1 := by
  first | exact Nat.le_refl _ | simp [Code.weight, Code.isCreation, Code.isGuard, Code.isCaller, Code.frames, Code.isFrame, guardIds]
theorem w_dctU {args : Args} : (Code.builtin "dict.__repr__.under" args).weight ≤ 1 := by
  first | exact Nat.le_refl _ | simp [Code.weight, Code.isCreation, Code.isGuard, Code.isCaller, Code.frames, Code.isFrame, guardIds]
theorem RpU.dct (ha : H0 a = some (.dK kvs)) (na : a ∉ outs) (hT : RpEnt X n (a :: outs) H0 kvs ps) : RpU X (n + 1) outs H0 (.ref a) (dictText ps) := fun A g pins s σ H u bs x sb hg gd I r hb => by
  cases (show u = Value.ref a from r)
  have ea := x a _ ha na
  have mu : Mut (some (HO.dK kvs)) := trivial
  obtain ⟨o, I1⟩ := I.lock ea mu
  obtain ⟨_, hget, hex, _⟩ := I1.frzK (upd_same : (upd H a (.frz o (.dK kvs))) a = _)
  refine wpAny_pyReprUnder_ref (by omega) (wpAny_pyReprObjUnder_twin (twin := "dict.__repr__.under") ⟨o, hget, hex.1⟩ F.slot_dict_repr rfl sb.room.units0
    (call_twin_own (F.quiet_dict_repr_under _) F.entry_dict_repr_under F.check_dict_repr_under ⟨o, hget, hex.1⟩ F.slot_dict_repr (F.args_dict_repr_1 _)
      (dct_at (isGuard_dict_repr_under _) (sub_code sb w_dctU e_b (units_under_dict_repr_under _ _)) hg gd I ea na x hT hb fun v s' h => ?_)))
  obtain ⟨tk, rfl, h⟩ := h
  exact ⟨⟨_, _, rfl⟩, _, _, rfl, rfl, h⟩
/-- repr of a list, of a dict, where no repr is under way -/
def rReprL (X : Cx) (n : Nat) : List V → Hp → VK → Prop := fun ys H Q => ∃ (a : Addr) (xs : List V) (ts : List Str), ys = [.ref a] ∧ H a = some (.lst xs) ∧ xs ≠ [] ∧ RpAll X n [a] H xs ts ∧ (listText ts).length ≤ sizeLine ∧ ∀ H', Ext H H' → Q (.str (listText ts)) H'
theorem call_reprL (hgd : X.A.guards = some []) (hr : Room (n + 2) X.A) : CallR X (.builtin "repr") (rReprL X n) := by
  intro pins s σ H ys us Q I r h
  obtain ⟨a, xs, ts, rfl, ea, hx, hT, hb, q⟩ := h
  obtain ⟨u, rfl, ru⟩ := r.one
  cases (show u = Value.ref a from ru)
  obtain ⟨_, its, m, rv, lv, e⟩ := I.lstM ea
  have sb : Sub X (n + 1) X.A.in1 := ⟨hr.in1, rfl⟩
  refine call_repr_slot (by have := hr.un; omega) ⟨_, e, rfl⟩ F.slot_list_repr.toG ?_
  refine wpAny_call (codeAny_call_builtin F.slot_list_repr.plain F.entry_list_repr (F.slot_list_repr.check _ _ _ _ _ _ _ _ ⟨_, e, rfl⟩ (F.args_list_repr_1 _)
    (list_at (outs := []) (H0 := H) (bs := 0) sb hgd Gd.nil I ea (by simp) (Ex.refl _ _) hx hT (by omega) fun v s' h => ?_)))
  obtain ⟨tk, rfl, H', I', e⟩ := h
  exact ⟨_, _, rfl, .str _, H', I', ⟨_, rfl⟩, q H' e⟩
def rReprDc (X : Cx) (n : Nat) : List V → Hp → VK → Prop := fun ys H Q => ∃ (a : Addr) (kvs : List (Key × V)) (ps : List Str), ys = [.ref a] ∧ H a = some (.dK kvs) ∧ RpEnt X n [a] H kvs ps ∧ (dictText ps).length ≤ sizeLine ∧ ∀ H', Ext H H' → Q (.str (dictText ps)) H'
theorem call_reprDc (hgd : X.A.guards = some []) (hr : Room (n + 2) X.A) : CallR X (.builtin "repr") (rReprDc X n) := by
  intro pins s σ H ys us Q I r h
  obtain ⟨a, kvs, ps, rfl, ea, hT, hb, q⟩ := h
  obtain ⟨u, rfl, ru⟩ := r.one
  cases (show u = Value.ref a from ru)
  have mu : Mut (some (HO.dK kvs)) := trivial
  obtain ⟨o, I1⟩ := I.lock ea mu
  obtain ⟨_, hget, hex, _⟩ := I1.frzK (upd_same : (upd H a (.frz o (.dK kvs))) a = _)
  have sb : Sub X (n + 1) X.A.in1 := ⟨hr.in1, rfl⟩
  refine call_repr_slot (by have := hr.un; omega) ⟨o, hget, hex.1⟩ F.slot_dict_repr ?_
  refine wpAny_call (codeAny_call_builtin_own (Code.quiet_builtin _ (by decide +kernel)) F.entry_dict_repr (F.slot_dict_repr.check _ _ _ _ _ _ _ _ ⟨o, hget, hex.1⟩ (F.args_dict_repr_1 _)
    (dct_at (outs := []) (H0 := H) (bs := 0) (isGuard_dict_repr _) (sub_code sb w_dct e_b (units_under_dict_repr _ _)) hgd Gd.nil I ea (by simp) (Ex.refl _ _) hT (by omega) fun v s' h => ?_)))
  obtain ⟨tk, rfl, H', I', e⟩ := h
  exact ⟨_, _, rfl, .str _, H', I', ⟨_, rfl⟩, q H' e⟩
end
end RPO
set_option Elab.async false
set_option linter.all false
set_option maxRecDepth 100000
set_option maxHeartbeats 4000000
/-! EQB: things of any kind compared one by one: x in a list or tuple, == and != of lists. -/
namespace EQB
open PySem PySem.Spec PyProof.Rows L2
open EQD
theorem relV_inj {x y : V} {u : Value} (h : RelV x u) (h' : RelV y u) : x = y := by
  cases x <;> cases y <;> simp only [L2.RelV] at h h' <;> grind
section
variable {X : Cx}
/-- y == x tells b, and changes nothing -/
def EqB (X : Cx) (y x : V) (H : Hp) (b : Bool) : Prop := ∀ (pins : List (Addr × Obj)) (σ : L2.St) (s : Shared) (v u : Value) (A : Around), Inv X pins σ H s → RelV y v → RelV x u → A.units + 64 < cLine → SeqAt.EqAt A s v u b
theorem EqB.dp {y x : V} {H : Hp} {d e : PyData} (hy : Dp X.K H y d) (hx : Dp X.K H x e) (sd : SeqAt.shaped d = true) (se : SeqAt.shaped e = true) : EqB X y x H (PyData.eqv d e) := fun pins σ s v u A I ry rx hu => by
  obtain ⟨as, r1⟩ := Dp.reads I d y v hy ry
  obtain ⟨bs, r2⟩ := Dp.reads I e x u hx rx
  exact SeqAt.eqAt_reads d e A s v u as bs r1 r2 (SeqAt.canLay_of_shaped sd) (SeqAt.canLay_of_shaped se) (SeqAt.room_of_shaped sd hu)
theorem isDct {pins : List (Addr × Obj)} {σ : L2.St} {s : Shared} {H : Hp} {a : Addr} {kvs : List (Key × V)} (I : Inv X pins σ H s) (h : H a = some (.dK kvs)) : IsDct s.heap a := by
  obtain ⟨_, _, _, _, o, es, ep, e, x, d, _⟩ := I.hok a _ h
  exact ⟨o, es, ep, e, x.1, d⟩
/-- a dict is no data else -/
theorem EqB.dctR {y : V} {a : Addr} {H : Hp} {d : PyData} {kvs : List (Key × V)} (hy : Dp X.K H y d) (h : H a = some (.dK kvs)) : EqB X y (.ref a) H false := fun pins σ s v u A I ry rx hu => by
  have D := isDct I h
  have hu0 : A.units < cLine := by omega
  cases (show u = Value.ref a from rx)
  cases hy with
  | non => cases ry; exact EqAt_none_dict D hu0
  | bl b => cases ry; exact EqAt_bool_dict b D hu0
  | int i => obtain ⟨t, rfl⟩ := ry; exact EqAt_int_dict i t D hu0
  | str z => obtain ⟨t, rfl⟩ := ry; exact EqAt_str_dict z t D hu0
  | lst hs _ =>
    cases ry
    obtain ⟨its, _, ⟨o, n, ho, hc, _, hd⟩, _⟩ := I.list hs
    exact EqAt_list_dict D ⟨o, ho, hc, n, hd⟩ hu0
  | tup hs _ =>
    cases ry
    obtain ⟨its, _, ⟨o, ho, hc, n, hd⟩, _⟩ := I.tuple hs
    exact EqAt_tuple_dict D ⟨o, ho, hc, n, hd⟩ hu0
theorem EqB.dctL {x : V} {a : Addr} {H : Hp} {d : PyData} {kvs : List (Key × V)} (hx : Dp X.K H x d) (h : H a = some (.dK kvs)) : EqB X (.ref a) x H false := fun pins σ s v u A I ry rx hu => by
  have D := isDct I h
  have hu0 : A.units < cLine := by omega
  cases (show v = Value.ref a from ry)
  cases hx with
  | non => cases rx; exact EqAt_dict_none D hu0
  | bl b => cases rx; exact EqAt_dict_bool b D hu0
  | int i => obtain ⟨t, rfl⟩ := rx; exact EqAt_dict_int i t D hu0
  | str z => obtain ⟨t, rfl⟩ := rx; exact EqAt_dict_str z t D hu0
  | lst hs _ =>
    cases rx
    obtain ⟨its, _, ⟨o, n, ho, hc, _, hd⟩, _⟩ := I.list hs
    exact EqAt_dict_list D ⟨o, ho, hc, n, hd⟩ hu0
  | tup hs _ =>
    cases rx
    obtain ⟨its, _, ⟨o, ho, hc, n, hd⟩, _⟩ := I.tuple hs
    exact EqAt_dict_tuple D ⟨o, ho, hc, n, hd⟩ hu0
/-- x in a list or a tuple -/
def rInB (X : Cx) (neg : Bool) : R2 := fun x y H Q => ∃ (p : Addr) (ys : List V) (e : V → Bool), y = .ref p ∧ (SqL X.K H p ys ∨ SqT X.K H p ys) ∧ (∀ z ∈ ys, EqB X z x H (e z)) ∧ Q (.bl (if neg = true then !ys.any e else ys.any e)) H
open Classical in
noncomputable def eOf (ys : List V) (e : V → Bool) (u : Value) : Bool := if h : ∃ z, z ∈ ys ∧ RelV z u then e h.choose else false
theorem eOf_eq {ys : List V} {e : V → Bool} {z : V} {u : Value} (hz : z ∈ ys) (r : RelV z u) : eOf ys e u = e z := by
  have h : ∃ z, z ∈ ys ∧ RelV z u := ⟨z, hz, r⟩
  unfold eOf
  rw [dif_pos h, relV_inj h.choose_spec.2 r]
theorem any_eOf {ws : List V} {e : V → Bool} : ∀ {ys : List V} {its : List Value}, (∀ z ∈ ys, z ∈ ws) → Vals ys its → its.any (eOf ws e) = ys.any e
  | [], _, _, .nil => rfl
  | z :: ys, _, hs, .cons r t => by
    rw [List.any_cons, List.any_cons, eOf_eq (hs z List.mem_cons_self) r, any_eOf (fun x hx => hs x (List.mem_cons_of_mem _ hx)) t]
theorem vals_mem {ys : List V} {its : List Value} (r : Vals ys its) {u : Value} (hu : u ∈ its) : ∃ z, z ∈ ys ∧ RelV z u := by
  induction r with
  | nil => cases hu
  | cons r t ih =>
    rcases List.mem_cons.mp hu with rfl | hu
    · exact ⟨_, List.mem_cons_self, r⟩
    · obtain ⟨z, hz, q⟩ := ih hu
      exact ⟨z, List.mem_cons_of_mem _ hz, q⟩
theorem op_inB (hu : X.A.units + 65 < cLine) : OpR X (compareOp .In) (rInB X false) := by
  intro pins s σ H x y v u Q I rx ry h
  obtain ⟨p, ys, e, rfl, hs, he, q⟩ := h
  cases (show u = Value.ref p from ry)
  have go : ∀ {its : List Value}, Vals ys its → (∀ w, w ∈ its.toArray → SeqAt.EqAt X.A.in1 s w v (eOf ys e w)) := fun {its} r w hw => by
    obtain ⟨z, hz, rz⟩ := vals_mem r (by simpa using hw)
    rw [eOf_eq hz rz]
    exact he z hz pins σ s w v X.A.in1 I rz rx (by show X.A.units + 1 + 64 < cLine; omega)
  rcases hs with hs | hs
  · obtain ⟨its, r, ⟨o, n, ho, hc, _, hd⟩, _⟩ := I.list hs
    refine SeqAt.in_listAt (eOf ys e) ⟨o, ho, hc, n, hd⟩ (go r) ⟨.bl _, H, I, rfl, ?_⟩
    rw [List.any_toArray, any_eOf (fun _ h => h) r]
    exact q
  · obtain ⟨its, r, ⟨o, ho, hc, n, hd⟩, _⟩ := I.tuple hs
    refine SeqAt.in_tupleAt (eOf ys e) ⟨o, ho, hc, n, hd⟩ (go r) ⟨.bl _, H, I, rfl, ?_⟩
    rw [List.any_toArray, any_eOf (fun _ h => h) r]
    exact q
theorem op_notInB (hu : X.A.units + 65 < cLine) : OpR X (compareOp .NotIn) (rInB X true) := by
  intro pins s σ H x y v u Q I rx ry h
  obtain ⟨p, ys, e, rfl, hs, he, q⟩ := h
  cases (show u = Value.ref p from ry)
  have go : ∀ {its : List Value}, Vals ys its → (∀ w, w ∈ its.toArray → SeqAt.EqAt X.A.in1 s w v (eOf ys e w)) := fun {its} r w hw => by
    obtain ⟨z, hz, rz⟩ := vals_mem r (by simpa using hw)
    rw [eOf_eq hz rz]
    exact he z hz pins σ s w v X.A.in1 I rz rx (by show X.A.units + 1 + 64 < cLine; omega)
  rcases hs with hs | hs
  · obtain ⟨its, r, ⟨o, n, ho, hc, _, hd⟩, _⟩ := I.list hs
    refine SeqAt.notIn_listAt (eOf ys e) ⟨o, ho, hc, n, hd⟩ (go r) ⟨.bl _, H, I, rfl, ?_⟩
    rw [List.any_toArray, any_eOf (fun _ h => h) r]
    exact q
  · obtain ⟨its, r, ⟨o, ho, hc, n, hd⟩, _⟩ := I.tuple hs
    refine SeqAt.notIn_tupleAt (eOf ys e) ⟨o, ho, hc, n, hd⟩ (go r) ⟨.bl _, H, I, rfl, ?_⟩
    rw [List.any_toArray, any_eOf (fun _ h => h) r]
    exact q
/-- two lists: of unlike lengths, or compared item by item -/
inductive EqL (X : Cx) (H : Hp) : List V → List V → Bool → Prop
  | len {xs ys : List V} : xs.length ≠ ys.length → EqL X H xs ys false
  | all {xs ys : List V} {e : Nat → Bool} : xs.length = ys.length → (∀ i x y, xs[i]? = some x → ys[i]? = some y → EqB X x y H (e i)) → EqL X H xs ys ((List.range xs.length).all e)
/-- == and != of two lists -/
def rLsB (X : Cx) (neg : Bool) : R2 := fun x y H Q => ∃ (p q : Addr) (xs ys : List V) (b : Bool), x = .ref p ∧ y = .ref q ∧ p ≠ q ∧ SqL X.K H p xs ∧ SqL X.K H q ys ∧ EqL X H xs ys b ∧ Q (.bl (if neg = true then !b else b)) H
theorem items {pins : List (Addr × Obj)} {σ : L2.St} {s : Shared} {H : Hp} {xs ys : List V} {e : Nat → Bool} {its js : List Value} {A : Around} (I : Inv X pins σ H s) (r1 : Vals xs its) (r2 : Vals ys js) (hu : A.units + 64 < cLine) (he : ∀ i x y, xs[i]? = some x → ys[i]? = some y → EqB X x y H (e i)) :
    ∀ j (h1 : j < its.toArray.size) (h2 : j < js.toArray.size), SeqAt.EqAt A s its.toArray[j] js.toArray[j] (e j) := fun j h1 h2 => by
  have l1 := r1.length
  have l2 := r2.length
  have h1' : j < xs.length := by rw [l1]; simpa using h1
  have h2' : j < ys.length := by rw [l2]; simpa using h2
  obtain ⟨u1, e1, q1⟩ := r1.get (List.getElem?_eq_getElem h1')
  obtain ⟨u2, e2, q2⟩ := r2.get (List.getElem?_eq_getElem h2')
  have f1 : its.toArray[j] = u1 := by
    have := (List.getElem?_eq_some_iff.mp e1).2
    simpa using this
  have f2 : js.toArray[j] = u2 := by
    have := (List.getElem?_eq_some_iff.mp e2).2
    simpa using this
  rw [f1, f2]
  exact he j _ _ (List.getElem?_eq_getElem h1') (List.getElem?_eq_getElem h2') pins σ s u1 u2 A I q1 q2 hu
theorem op_eqL (hu : X.A.units + 65 < cLine) : OpR X (compareOp .Eq) (rLsB X false) := by
  intro pins s σ H x y v u Q I rx ry h
  obtain ⟨p, q, xs, ys, b, rfl, rfl, pq, hp, hq, eb, k⟩ := h
  cases (show v = Value.ref p from rx)
  cases (show u = Value.ref q from ry)
  obtain ⟨its, r1, ⟨o, n, ho, hc, _, hd⟩, _⟩ := I.list hp
  obtain ⟨js, r2, ⟨o2, n2, ho2, hc2, _, hd2⟩, _⟩ := I.list hq
  have L1 : s.heap.IsList p its.toArray := ⟨o, ho, hc, n, hd⟩
  have L2' : s.heap.IsList q js.toArray := ⟨o2, ho2, hc2, n2, hd2⟩
  have l1 := r1.length
  have l2 := r2.length
  show wpAny _ _ (richCompare .Eq (.ref p) (.ref q)) _ _ _
  cases eb with
  | len hne => exact SeqAt.RcAt.lists_lengths L1 L2' (by simp; omega) (by omega) _ _ _ _ ⟨.bl _, H, I, rfl, k⟩
  | @all e hl he =>
    have hz : its.toArray.size = js.toArray.size := by simp; omega
    refine SeqAt.RcAt.lists L1 L2' hz (by omega) (items (A := X.A.in1) I r1 r2 (by show X.A.units + 1 + 64 < cLine; omega) he) _ _ _ _ ⟨.bl _, H, I, rfl, ?_⟩
    have : its.toArray.size = xs.length := by simp; omega
    rw [this]
    exact k
theorem op_neL (hu : X.A.units + 65 < cLine) : OpR X (compareOp .NotEq) (rLsB X true) := by
  intro pins s σ H x y v u Q I rx ry h
  obtain ⟨p, q, xs, ys, b, rfl, rfl, pq, hp, hq, eb, k⟩ := h
  cases (show v = Value.ref p from rx)
  cases (show u = Value.ref q from ry)
  obtain ⟨its, r1, ⟨o, n, ho, hc, _, hd⟩, _⟩ := I.list hp
  obtain ⟨js, r2, ⟨o2, n2, ho2, hc2, _, hd2⟩, _⟩ := I.list hq
  have L1 : s.heap.IsList p its.toArray := ⟨o, ho, hc, n, hd⟩
  have L2' : s.heap.IsList q js.toArray := ⟨o2, ho2, hc2, n2, hd2⟩
  have l1 := r1.length
  have l2 := r2.length
  show wpAny _ _ (richCompare .NotEq (.ref p) (.ref q)) _ _ _
  cases eb with
  | len hne => exact SeqAt.RcNeAt.lists_lengths L1 L2' (by simp; omega) (by omega) _ _ _ _ ⟨.bl _, H, I, rfl, k⟩
  | @all e hl he =>
    have hz : its.toArray.size = js.toArray.size := by simp; omega
    refine SeqAt.RcNeAt.lists L1 L2' hz (by omega) (items (A := X.A.in1) I r1 r2 (by show X.A.units + 1 + 64 < cLine; omega) he) _ _ _ _ ⟨.bl _, H, I, rfl, ?_⟩
    have : its.toArray.size = xs.length := by simp; omega
    rw [this]
    exact k
end
end EQB
set_option Elab.async false
set_option linter.all false
set_option maxRecDepth 100000
set_option maxHeartbeats 4000000
/-! THI: THG with the type of each thing, and the text that it is: things of many kinds (None, a bool, a number, a text, lists, tuples, dicts), each with its repr's text. -/
namespace THI
open PySem PySem.Spec PyProof.Rows L2
open Builtin Builtin.List
/-- is it a whole number, a bool, or else -/
inductive Kn where
  | whole (i : Int)
  | flag (b : Bool)
  | text (s : Str)
  | non
  | lst
  | tup
  | dct
def Kn.tyn : Kn → String
  | .whole _ => "int"
  | .flag _ => "bool"
  | .text _ => "str"
  | .non => "NoneType"
  | .lst => "list"
  | .tup => "tuple"
  | .dct => "dict"
def Kn.eqI : Kn → Int → Bool
  | .whole j, i => decide (i = j)
  | .flag b, i => decide (i = if b then 1 else 0)
  | _, _ => false
def Kn.isInt : Kn → Bool
  | .whole _ => true
  | .flag _ => true
  | _ => false
def Kn.isFlag : Kn → Bool
  | .flag _ => true
  | _ => false
def Kn.isStr : Kn → Bool
  | .text _ => true
  | _ => false
def Kn.isLst : Kn → Bool
  | .lst => true
  | _ => false
def Kn.isTup : Kn → Bool
  | .tup => true
  | _ => false
theorem Kn.kInt {K : PySem.W.Frag} (k : Kn) : PySem.W.kitOne K (.type k.tyn) (.type "int") = some k.isInt :=
  match k with
  | .whole i => (kit_ty (by decide +kernel) : PySem.W.kitOne K (.type "int") (.type "int") = some true)
  | .flag b => (kit_ty (by decide +kernel) : PySem.W.kitOne K (.type "bool") (.type "int") = some true)
  | .text s => (kit_ty (by decide +kernel) : PySem.W.kitOne K (.type "str") (.type "int") = some false)
  | .non => (kit_ty (by decide +kernel) : PySem.W.kitOne K (.type "NoneType") (.type "int") = some false)
  | .lst => (kit_ty (by decide +kernel) : PySem.W.kitOne K (.type "list") (.type "int") = some false)
  | .tup => (kit_ty (by decide +kernel) : PySem.W.kitOne K (.type "tuple") (.type "int") = some false)
  | .dct => (kit_ty (by decide +kernel) : PySem.W.kitOne K (.type "dict") (.type "int") = some false)
theorem Kn.kFlag {K : PySem.W.Frag} (k : Kn) : PySem.W.kitOne K (.type k.tyn) (.type "bool") = some k.isFlag :=
  match k with
  | .whole i => (kit_ty (by decide +kernel) : PySem.W.kitOne K (.type "int") (.type "bool") = some false)
  | .flag b => (kit_ty (by decide +kernel) : PySem.W.kitOne K (.type "bool") (.type "bool") = some true)
  | .text s => (kit_ty (by decide +kernel) : PySem.W.kitOne K (.type "str") (.type "bool") = some false)
  | .non => (kit_ty (by decide +kernel) : PySem.W.kitOne K (.type "NoneType") (.type "bool") = some false)
  | .lst => (kit_ty (by decide +kernel) : PySem.W.kitOne K (.type "list") (.type "bool") = some false)
  | .tup => (kit_ty (by decide +kernel) : PySem.W.kitOne K (.type "tuple") (.type "bool") = some false)
  | .dct => (kit_ty (by decide +kernel) : PySem.W.kitOne K (.type "dict") (.type "bool") = some false)
theorem Kn.kStr {K : PySem.W.Frag} (k : Kn) : PySem.W.kitOne K (.type k.tyn) (.type "str") = some k.isStr :=
  match k with
  | .whole i => (kit_ty (by decide +kernel) : PySem.W.kitOne K (.type "int") (.type "str") = some false)
  | .flag b => (kit_ty (by decide +kernel) : PySem.W.kitOne K (.type "bool") (.type "str") = some false)
  | .text s => (kit_ty (by decide +kernel) : PySem.W.kitOne K (.type "str") (.type "str") = some true)
  | .non => (kit_ty (by decide +kernel) : PySem.W.kitOne K (.type "NoneType") (.type "str") = some false)
  | .lst => (kit_ty (by decide +kernel) : PySem.W.kitOne K (.type "list") (.type "str") = some false)
  | .tup => (kit_ty (by decide +kernel) : PySem.W.kitOne K (.type "tuple") (.type "str") = some false)
  | .dct => (kit_ty (by decide +kernel) : PySem.W.kitOne K (.type "dict") (.type "str") = some false)
theorem Kn.kLst {K : PySem.W.Frag} (k : Kn) : PySem.W.kitOne K (.type k.tyn) (.type "list") = some k.isLst :=
  match k with
  | .whole i => (kit_ty (by decide +kernel) : PySem.W.kitOne K (.type "int") (.type "list") = some false)
  | .flag b => (kit_ty (by decide +kernel) : PySem.W.kitOne K (.type "bool") (.type "list") = some false)
  | .text s => (kit_ty (by decide +kernel) : PySem.W.kitOne K (.type "str") (.type "list") = some false)
  | .non => (kit_ty (by decide +kernel) : PySem.W.kitOne K (.type "NoneType") (.type "list") = some false)
  | .lst => (kit_ty (by decide +kernel) : PySem.W.kitOne K (.type "list") (.type "list") = some true)
  | .tup => (kit_ty (by decide +kernel) : PySem.W.kitOne K (.type "tuple") (.type "list") = some false)
  | .dct => (kit_ty (by decide +kernel) : PySem.W.kitOne K (.type "dict") (.type "list") = some false)
theorem Kn.kTup {K : PySem.W.Frag} (k : Kn) : PySem.W.kitOne K (.type k.tyn) (.type "tuple") = some k.isTup :=
  match k with
  | .whole i => (kit_ty (by decide +kernel) : PySem.W.kitOne K (.type "int") (.type "tuple") = some false)
  | .flag b => (kit_ty (by decide +kernel) : PySem.W.kitOne K (.type "bool") (.type "tuple") = some false)
  | .text s => (kit_ty (by decide +kernel) : PySem.W.kitOne K (.type "str") (.type "tuple") = some false)
  | .non => (kit_ty (by decide +kernel) : PySem.W.kitOne K (.type "NoneType") (.type "tuple") = some false)
  | .lst => (kit_ty (by decide +kernel) : PySem.W.kitOne K (.type "list") (.type "tuple") = some false)
  | .tup => (kit_ty (by decide +kernel) : PySem.W.kitOne K (.type "tuple") (.type "tuple") = some true)
  | .dct => (kit_ty (by decide +kernel) : PySem.W.kitOne K (.type "dict") (.type "tuple") = some false)
/-- all but tables stay -/
def SN (H H' : Hp) : Prop := ∀ b o, H b = some o → (∀ ps, o ≠ .tbl ps) → H' b = some o
theorem SN.of {H H' : Hp} (s : Same H H') : SN H H' := fun b o e _ => s b o e
theorem SN.up {H0 H H' : Hp} (s : Same H0 H) (s1 : SN H H') : SN H0 H' := fun b o e n => s1 b o (s b o e) n
theorem SN.trans {H0 H H' : Hp} (s : SN H0 H) (s1 : SN H H') : SN H0 H' := fun b o e n => s1 b o (s b o e n) n
/-- no cell but a table's -/
def NT (H : Hp) (a : Addr) : Prop := ∀ v, H a = some v → ∃ ps, v = .tbl ps
theorem NT.of {H : Hp} {a : Addr} (h : H a = none) : NT H a := fun v e => by
  rw [h] at e
  cases e
theorem NT.up {H H' : Hp} {a : Addr} (s : SN H H') (h : NT H' a) : NT H a := fun v e => Classical.byContradiction fun n => n (h v (s a v e fun ps z => n ⟨ps, z⟩))
/-- data, with its repr's text -/
structure Dt (H : Hp) (x : V) (y : PyData) (t : Str) (n : Nat) : Prop where
  dpN : ∀ K H1, SN H H1 → Dp K H1 x y
  rpN : ∀ X outs H1, SN H H1 → (∀ o ∈ outs, NT H o) → RPO.RpU X n outs H1 x t
inductive DtAll (H : Hp) : List V → List PyData → List Str → Nat → Prop
  | nil {n : Nat} : DtAll H [] [] [] n
  | cons {x : V} {y : PyData} {t : Str} {xs : List V} {ys : List PyData} {ts : List Str} {n : Nat} : Dt H x y t n → DtAll H xs ys ts n → DtAll H (x :: xs) (y :: ys) (t :: ts) n
theorem none_up {H H' : Hp} {o : Addr} (s : Same H H') (h : H' o = none) : H o = none := by
  cases e : H o with
  | none => rfl
  | some z =>
    rw [s _ _ e] at h
    cases h
theorem Dt.same {H H' : Hp} {x : V} {y : PyData} {t : Str} {n : Nat} (h : Dt H x y t n) (s : Same H H') : Dt H' x y t n :=
  ⟨fun K H1 s1 => h.dpN K H1 (SN.up s s1), fun X outs H1 s1 ho => h.rpN X outs H1 (SN.up s s1) fun o q => NT.up (SN.of s) (ho o q)⟩
theorem Dt.mono {H : Hp} {x : V} {y : PyData} {t : Str} {n m : Nat} (h : Dt H x y t n) (nm : n ≤ m) : Dt H x y t m :=
  ⟨h.dpN, fun X outs H1 s1 ho => (h.rpN X outs H1 s1 ho).mono nm⟩
theorem DtAll.dp {H H1 : Hp} {K : PySem.W.Frag} (s : SN H H1) : ∀ {xs : List V} {ys : List PyData} {ts : List Str} {n : Nat}, DtAll H xs ys ts n → DpAll K H1 xs ys
  | _, _, _, _, .nil => .nil
  | _, _, _, _, .cons a b => .cons (a.dpN _ _ s) (DtAll.dp s b)
theorem DtAll.rp {H H1 : Hp} {X : Cx} {outs : List Addr} (s : SN H H1) (ho : ∀ o ∈ outs, NT H o) : ∀ {xs : List V} {ys : List PyData} {ts : List Str} {n : Nat}, DtAll H xs ys ts n → RPO.RpAll X n outs H1 xs ts
  | _, _, _, _, .nil => .nil
  | _, _, _, _, .cons a b => .cons (a.rpN _ _ _ s ho) (DtAll.rp s ho b)
/-- nothing is there -/
def N0 : Hp := fun _ => none
theorem s0 (H : Hp) : Same N0 H := fun _ _ e => nomatch e
theorem Dt.non {n : Nat} : Dt N0 .non .none "None" n := ⟨fun _ _ _ => .non, fun _ _ _ _ _ => .non⟩
theorem Dt.bl {n : Nat} (b : Bool) : Dt N0 (.bl b) (.bool b) (if b then "True" else "False") n := ⟨fun _ _ _ => .bl b, fun _ _ _ _ _ => .bl⟩
theorem Dt.int {n : Nat} {i : Int} (h : i.natAbs.log2 < 1920) : Dt N0 (.int i) (.int i) (toString i) n := ⟨fun _ _ _ => .int i, fun _ _ _ _ _ => .int h⟩
theorem Dt.str {n : Nat} (z : Str) : Dt N0 (.str z) (.str z) (reprText z) n := ⟨fun _ _ _ => .str z, fun _ _ _ _ _ => .str⟩
section
variable {H0 H : Hp} {a : Addr} {xs : List V} {ys : List PyData} {ts : List Str} {n : Nat}
theorem out_of {H : Hp} {a : Addr} {o : HO} {outs : List Addr} (h : H a = some o) (nt : ∀ ps, o ≠ .tbl ps) (ho : ∀ o ∈ outs, NT H o) : a ∉ outs := fun z => by
  obtain ⟨ps, e⟩ := ho a z _ h
  exact nt ps e
theorem SN.tup {H1 : Hp} (s : SN H H1) (h : H a = some (.tup xs)) : H1 a = some (.tup xs) := s _ _ h fun _ z => nomatch z
theorem SN.lst {H1 : Hp} (s : SN H H1) (h : H a = some (.lst xs)) : H1 a = some (.lst xs) := s _ _ h fun _ z => nomatch z
theorem SN.dK {H1 : Hp} {kvs : List (Key × V)} (s : SN H H1) (h : H a = some (.dK kvs)) : H1 a = some (.dK kvs) := s _ _ h fun _ z => nomatch z
theorem Dt.tup (h : H a = some (.tup xs)) (hs : DtAll H0 xs ys ts n) (s : Same H0 H) (z : H0 a = none) : Dt H (.ref a) (.tuple ys) (tupleText ts) (n + 1) :=
  ⟨fun K H1 s1 => .tup (SqT.of (s1.tup h)) (hs.dp (SN.up s s1)), fun X outs H1 s1 ho => .tup (s1.tup h) (out_of h (fun _ z => nomatch z) ho) (hs.rp (SN.up s s1) fun o q => by
    rcases List.mem_cons.mp q with rfl | q
    · exact NT.of z
    · exact NT.up (SN.of s) (ho o q))⟩
theorem Dt.list (h : H a = some (.lst xs)) (hx : xs ≠ []) (hs : DtAll H0 xs ys ts n) (s : Same H0 H) (z : H0 a = none) : Dt H (.ref a) (.list ys) (listText ts) (n + 1) :=
  ⟨fun K H1 s1 => .lst (SqL.of (s1.lst h)) (hs.dp (SN.up s s1)), fun X outs H1 s1 ho => .list (s1.lst h) (out_of h (fun _ z => nomatch z) ho) hx (hs.rp (SN.up s s1) fun o q => by
    rcases List.mem_cons.mp q with rfl | q
    · exact NT.of z
    · exact NT.up (SN.of s) (ho o q))⟩
theorem Dt.list0 (h : H a = some (.lst [])) : Dt H (.ref a) (.list []) "[]" n :=
  ⟨fun K H1 s1 => .lst (SqL.of (s1.lst h)) .nil, fun X outs H1 s1 ho => .list0 (s1.lst h) (out_of h (fun _ z => nomatch z) ho)⟩
end
/-- a thing -/
structure Thg (H : Hp) (x : V) (k : Kn) (t : Str) (n : Nat) : Prop where
  eqN : ∀ X H1, SN H H1 → ∀ i : Int, EQB.EqB X (.int i) x H1 (k.eqI i)
  rpN : ∀ X outs H1, SN H H1 → (∀ o ∈ outs, NT H o) → RPO.RpU X n outs H1 x t
  tyN : ∀ K H1, SN H H1 → TyX K H1 x (.type k.tyn)
  val : ∀ i, k = .whole i → x = .int i
  flg : ∀ b, k = .flag b → x = .bl b
  txt : ∀ s, k = .text s → x = .str s
  len : t.length ≤ 100
section
variable {H H' : Hp} {x : V} {k : Kn} {t : Str} {n : Nat}
theorem Thg.eq (h : Thg H x k t n) (X : Cx) (H1 : Hp) (s : Same H H1) (i : Int) : EQB.EqB X (.int i) x H1 (k.eqI i) := h.eqN X H1 (SN.of s) i
theorem Thg.rp (h : Thg H x k t n) (X : Cx) (outs : List Addr) (H1 : Hp) (s : Same H H1) (ho : ∀ o ∈ outs, H o = none) : RPO.RpU X n outs H1 x t := h.rpN X outs H1 (SN.of s) fun o q => NT.of (ho o q)
theorem Thg.ty (h : Thg H x k t n) (K : PySem.W.Frag) (H1 : Hp) (s : Same H H1) : ∃ ty : String, TyX K H1 x (.type ty) ∧ PySem.W.kitOne K (.type ty) (.type "int") = some k.isInt ∧ PySem.W.kitOne K (.type ty) (.type "bool") = some k.isFlag := ⟨k.tyn, h.tyN K H1 (SN.of s), k.kInt, k.kFlag⟩
theorem Thg.same (h : Thg H x k t n) (s : Same H H') : Thg H' x k t n :=
  ⟨fun X H1 s1 => h.eqN X H1 (SN.up s s1), fun X outs H1 s1 ho => h.rpN X outs H1 (SN.up s s1) fun o q => NT.up (SN.of s) (ho o q), fun K H1 s1 => h.tyN K H1 (SN.up s s1), h.val, h.flg, h.txt, h.len⟩
theorem Thg.mono {m : Nat} (h : Thg H x k t n) (nm : n ≤ m) : Thg H x k t m := ⟨h.eqN, fun X outs H1 s1 ho => (h.rpN X outs H1 s1 ho).mono nm, h.tyN, h.val, h.flg, h.txt, h.len⟩
theorem Thg.of {y : PyData} (d : Dt H x y t n) (sh : SeqAt.shaped y = true) (e : ∀ i : Int, PyData.eqv (.int i) y = k.eqI i) (ty : ∀ K H1, SN H H1 → TyX K H1 x (.type k.tyn))
    (val : ∀ i, k = .whole i → x = .int i) (flg : ∀ b, k = .flag b → x = .bl b) (txt : ∀ s, k = .text s → x = .str s) (len : t.length ≤ 100) : Thg H x k t n :=
  ⟨fun X H1 s i => by
    rw [← e i]
    exact EQB.EqB.dp (.int i) (d.dpN _ _ s) rfl sh, d.rpN, ty, val, flg, txt, len⟩
theorem Thg.int {i : Int} (h : i.natAbs.log2 < 1920) (l : ((toString i : String) : Str).length ≤ 100) : Thg N0 (.int i) (.whole i) (toString i) n :=
  .of (Dt.int h) rfl (fun j => by rw [Bool.eq_iff_iff]; simp [PyData.eqv, Kn.eqI]) (fun K H1 _ => .base (.int i)) (fun j e => by cases e; rfl) (fun b e => by cases e) (fun s e => by cases e) l
theorem Thg.bl (b : Bool) : Thg N0 (.bl b) (.flag b) (if b then "True" else "False") n :=
  .of (Dt.bl b) rfl (fun j => by rw [Bool.eq_iff_iff]; cases b <;> simp [PyData.eqv, Kn.eqI]) (fun K H1 _ => .base (.bl b)) (fun j e => by cases e) (fun c e => by cases e; rfl) (fun s e => by cases e) (by cases b <;> decide)
theorem Thg.non : Thg N0 .non .non "None" n :=
  .of Dt.non rfl (fun j => by simp [PyData.eqv, Kn.eqI]) (fun K H1 _ => .base .non) (fun j e => by cases e) (fun b e => by cases e) (fun s e => by cases e) (by decide)
theorem Thg.str (z : Str) (ok : PyData.strOk z = true) (l : (reprText z).length ≤ 100) : Thg N0 (.str z) (.text z) (reprText z) n :=
  .of (Dt.str z) (by simp [SeqAt.shaped, PyData.canLay0, PyData.depth, ok]) (fun j => by simp [PyData.eqv, Kn.eqI]) (fun K H1 _ => .base (.str z)) (fun j e => by cases e) (fun b e => by cases e) (fun s e => by cases e; rfl) l
theorem Thg.lst {a : Addr} {xs : List V} {ys : List PyData} (h : H a = some (.lst xs)) (d : Dt H (.ref a) (.list ys) t n) (sh : SeqAt.shaped (.list ys) = true) (l : t.length ≤ 100) : Thg H (.ref a) .lst t n :=
  .of d sh (fun j => by simp [PyData.eqv, Kn.eqI]) (fun K H1 s => .base (.lst (s.lst h))) (fun j e => by cases e) (fun b e => by cases e) (fun s e => by cases e) l
theorem Thg.tup {a : Addr} {xs : List V} {ys : List PyData} (h : H a = some (.tup xs)) (d : Dt H (.ref a) (.tuple ys) t n) (sh : SeqAt.shaped (.tuple ys) = true) (l : t.length ≤ 100) : Thg H (.ref a) .tup t n :=
  .of d sh (fun j => by simp [PyData.eqv, Kn.eqI]) (fun K H1 s => .base (.tup (s.tup h))) (fun j e => by cases e) (fun b e => by cases e) (fun s e => by cases e) l
theorem Thg.dct {a : Addr} {kvs : List (Key × V)} {ps : List Str} (h : H a = some (.dK kvs)) (es : ∀ X outs H1, RPO.RpEnt X n (a :: outs) H1 kvs ps) (l : (dictText ps).length ≤ 100) : Thg H (.ref a) .dct (dictText ps) (n + 1) :=
  ⟨fun X H1 s i => EQB.EqB.dctR (.int i) (s.dK h), fun X outs H1 s ho => .dct (s.dK h) (out_of h (fun _ z => nomatch z) ho) (es X outs H1), fun K H1 s => .base (.dK (s.dK h)), fun j e => (by cases e), fun b e => (by cases e), fun s e => (by cases e), l⟩
end
open Classical in
/-- all but some cells -/
noncomputable def out (q : Addr → Prop) (H : Hp) : Hp := fun a => if q a then none else H a
section
variable {q : Addr → Prop} {H H' : Hp} {a : Addr}
theorem out_le : Same (out q H) H := fun a o e => by
  unfold out at e
  by_cases c : q a
  · rw [if_pos c] at e
    cases e
  · rw [if_neg c] at e
    exact e
theorem out_not {o : HO} (e : out q H a = some o) : ¬ q a := fun c => by
  unfold out at e
  rw [if_pos c] at e
  cases e
theorem out_at {o : HO} (e : H a = some o) (n : ¬ q a) : out q H a = some o := by
  unfold out
  rw [if_neg n]
  exact e
theorem out_none (e : H a = none) : out q H a = none := by
  unfold out
  rw [e, ite_self]
theorem out_kp (k : ∀ b o, H b = some o → ¬ q b → H' b = some o) : Same (out q H) (out q H') := fun a o e => out_at (k a o (out_le a o e) (out_not e)) (out_not e)
theorem out_same (s : Same H H') : Same (out q H) (out q H') := out_kp fun b o e _ => s b o e
theorem out_ne (e : H a = none) (n : ∀ b, q b → H b ≠ none) : ¬ q a := fun z => n a z e
theorem same_some (s : Same H H') (n : ∀ b, q b → H b ≠ none) : ∀ b, q b → H' b ≠ none := fun b c z => n b c (none_up s z)
end
/-- x in a list or a tuple, within a comprehension too -/
def rInA (K : PySem.W.Frag) (neg : Bool) : R2 := fun x y H Q => ∃ (p : Addr) (ys : List V) (e : V → Bool), y = .ref p ∧ (SqL K H p ys ∨ SqT K H p ys) ∧ (∀ X : Cx, X.K = K → ∀ z ∈ ys, EQB.EqB X z x H (e z)) ∧ Q (.bl (if neg = true then !(ys.any e) else ys.any e)) H
theorem op_inA {X : Cx} {K : PySem.W.Frag} (hX : X.K = K) (hu : X.A.units + 65 < cLine) : OpR X (compareOp .In) (rInA K false) := fun pins s σ H x y v u Q I rx ry ⟨p, ys, e, ey, hs, he, q⟩ => by
  subst hX
  exact EQB.op_inB hu pins s σ H x y v u Q I rx ry ⟨p, ys, e, ey, hs, fun z hz => he X rfl z hz, q⟩
theorem op_notInA {X : Cx} {K : PySem.W.Frag} (hX : X.K = K) (hu : X.A.units + 65 < cLine) : OpR X (compareOp .NotIn) (rInA K true) := fun pins s σ H x y v u Q I rx ry ⟨p, ys, e, ey, hs, he, q⟩ => by
  subst hX
  exact EQB.op_notInB hu pins s σ H x y v u Q I rx ry ⟨p, ys, e, ey, hs, fun z hz => he X rfl z hz, q⟩
end THI
set_option Elab.async false
set_option linter.all false
set_option maxRecDepth 100000
set_option maxHeartbeats 4000000
/-! OWQ: ==, != and in of instances of an own class with an own __eq__, beside things of any kind, both ways. -/
namespace OWQ
open PySem PySem.Spec PyProof.Rows L2
open PySem.SeqAt PySem.MeetsSeq
abbrev ts7 : List String := ["NoneType", "bool", "int", "str", "list", "tuple", "dict"]
/-- what is asked of the class -/
structure OwnC (K : PySem.W.Frag) (C : Addr) : Prop where
  no : ∀ T ∈ ts7, PySem.W.mroIn K C (.type T) = some false
  ne : PySem.W.findIn K (.ref C) "__ne__" = some (some (.builtin "object.__ne__"))
  ob : PySem.W.mroIn K C (.type "object") = some true
def ocB (K : PySem.W.Frag) (C : Addr) : Bool := ts7.all (fun T => decide (PySem.W.mroIn K C (.type T) = some false)) && (He.eqO (PySem.W.findIn K (.ref C) "__ne__") (some (some (.builtin "object.__ne__"))) && decide (PySem.W.mroIn K C (.type "object") = some true))
theorem ocB_ok {K : PySem.W.Frag} {C : Addr} (h : ocB K C = true) : OwnC K C := by
  unfold ocB at h
  simp only [Bool.and_eq_true] at h
  exact ⟨fun T hT => of_decide_eq_true (List.all_eq_true.mp h.1 T hT), He.eqO_ok h.2.1, of_decide_eq_true h.2.2⟩
/-- things of Python's own kinds -/
inductive TK (K : PySem.W.Frag) (H : Hp) : V → Prop
  | non : TK K H .non
  | bl {b : Bool} : TK K H (.bl b)
  | int {i : Int} : TK K H (.int i)
  | str {z : Str} : TK K H (.str z)
  | lst {a : Addr} {xs : List V} : SqL K H a xs → TK K H (.ref a)
  | tup {a : Addr} {xs : List V} : SqT K H a xs → TK K H (.ref a)
  | dct {a : Addr} {kvs : List (Key × V)} : H a = some (.dK kvs) → TK K H (.ref a)
theorem TK.ext {K : PySem.W.Frag} {H H' : Hp} {x : V} (h : TK K H x) (e : Ext H H') : TK K H' x := by
  cases h with
  | non => exact .non
  | bl => exact .bl
  | int => exact .int
  | str => exact .str
  | lst h => exact .lst (SqL.ext h e)
  | tup h => exact .tup (SqT.ext h e)
  | dct h => exact .dct (e _ _ h)
section
variable {X : Cx} {pins : List (Addr × Obj)} {σ : L2.St} {H : Hp} {s : Shared} {C a b dx : Addr} {fs : List (Str × V)}
theorem at_own (I : Inv X pins σ H s) (e : H a = some (.ins C dx fs)) : ∃ od, s.heap.get? a = some (iO C dx) ∧ PySem.W.InstAt s.heap a (iO C dx) C od := by
  obtain ⟨mA, O, _⟩ := ins_get I.hok e
  obtain ⟨od, J, _⟩ := O.look
  exact ⟨od, O.obj, J⟩
theorem noT (I : Inv X pins σ H s) (oc : OwnC X.K C) (e : H a = some (.ins C dx fs)) {T : String} (hT : T ∈ ts7) : NoT s a T := fun M => by
  obtain ⟨od, _, J⟩ := at_own I e
  exact J.type.andThen (PySem.W.looks_mroIn I.kIn (oc.no T hT))
/-- a thing of Python's own: its type, its slots, that it tells nothing -/
theorem TK.decl {x : V} {u : Value} (t : TK X.K H x) (oc : OwnC X.K C) (I : Inv X pins σ H s) (r : RelV x u) (eb : H b = some (.ins C dx fs)) : ∃ T ide idn, T ∈ ts7 ∧ s.TypeIs u T ∧ (u == .ref b) = false ∧ Slot T "__eq__" ide ∧ Slot T "__ne__" idn ∧
    (∀ (A : Around) (E Q' : Value → Shared → Prop), Q' .notImplemented s → wpAny (model X.prog X.w) A (call (.builtin ide) [u, .ref b]) Q' E s) ∧ (∀ (A : Around) (E Q' : Value → Shared → Prop), Q' .notImplemented s → wpAny (model X.prog X.w) A (call (.builtin idn) [u, .ref b]) Q' E s) := by
  obtain ⟨od, ho, J⟩ := at_own I eb
  have ne : ∀ {l : Addr} {o : Obj}, s.heap.get? l = some o → o.cls ≠ .ref C → (Value.ref l == Value.ref b) = false := fun {l o} e n => by
    by_cases h : l = b
    · subst h
      rw [ho] at e
      cases e
      exact absurd rfl n
    · exact beq_eq_false_iff_ne.mpr fun z => h (by injection z)
  cases t with
  | non =>
    cases r
    exact ⟨"NoneType", _, _, by simp, rfl, rfl, PySem.F.slot_NoneType_eq, PySem.F.slot_NoneType_ne, fun A E Q' q => call_meets PySem.F.slot_NoneType_eq rfl PySem.F.entry_NoneType_eq (PySem.F.args_NoneType_eq_2 _ _) (none_eq b C dx) ⟨ho, q⟩,
      fun A E Q' q => call_meets PySem.F.slot_NoneType_ne rfl PySem.F.entry_NoneType_ne (PySem.F.args_NoneType_ne_2 _ _) (none_ne b C dx) ⟨ho, q⟩⟩
  | bl =>
    cases r
    exact ⟨"bool", _, _, by simp, rfl, rfl, PySem.F.slot_bool_eq, PySem.F.slot_bool_ne, fun A E Q' q => call_meets PySem.F.slot_bool_eq rfl PySem.F.entry_int_eq (PySem.F.args_int_eq_2 _ _) (bool_eq b C dx _) ⟨ho, q⟩,
      fun A E Q' q => call_meets PySem.F.slot_bool_ne rfl PySem.F.entry_int_ne (PySem.F.args_int_ne_2 _ _) (bool_ne b C dx _) ⟨ho, q⟩⟩
  | int =>
    obtain ⟨t, rfl⟩ := r
    exact ⟨"int", _, _, by simp, rfl, rfl, PySem.F.slot_int_eq, PySem.F.slot_int_ne, fun A E Q' q => call_meets PySem.F.slot_int_eq rfl PySem.F.entry_int_eq (PySem.F.args_int_eq_2 _ _) (int_eq b C dx _ _) ⟨ho, q⟩,
      fun A E Q' q => call_meets PySem.F.slot_int_ne rfl PySem.F.entry_int_ne (PySem.F.args_int_ne_2 _ _) (int_ne b C dx _ _) ⟨ho, q⟩⟩
  | str =>
    obtain ⟨t, rfl⟩ := r
    exact ⟨"str", _, _, by simp, rfl, rfl, PySem.F.slot_str_eq, PySem.F.slot_str_ne, fun A E Q' q => call_meets PySem.F.slot_str_eq rfl PySem.F.entry_str_eq (PySem.F.args_str_eq_2 _ _) (str_eq b C dx _ _) ⟨ho, q⟩,
      fun A E Q' q => call_meets PySem.F.slot_str_ne rfl PySem.F.entry_str_ne (PySem.F.args_str_ne_2 _ _) (str_ne b C dx _ _) ⟨ho, q⟩⟩
  | @lst l xs hs =>
    cases r
    obtain ⟨its, _, ⟨o, n, hl, hc, _, hd⟩, _⟩ := I.list hs
    have tl : s.TypeIs (.ref l) "list" := ⟨o, hl, hc⟩
    have nn := noT I oc eb (T := "list") (by simp)
    exact ⟨"list", _, _, by simp, tl, ne hl (by rw [hc]; simp), PySem.F.slot_list_eq, PySem.F.slot_list_ne, fun A E Q' q => call_meets PySem.F.slot_list_eq tl PySem.F.entry_list_eq (PySem.F.args_list_eq_2 _ _) (list_eq l b) ⟨nn, q⟩,
      fun A E Q' q => call_meets PySem.F.slot_list_ne tl PySem.F.entry_list_ne (PySem.F.args_list_ne_2 _ _) (list_ne l b) ⟨nn, q⟩⟩
  | @tup l xs hs =>
    cases r
    obtain ⟨its, _, ⟨o, hl, hc, n, hd⟩, _⟩ := I.tuple hs
    have tl : s.TypeIs (.ref l) "tuple" := ⟨o, hl, hc⟩
    have nn := noT I oc eb (T := "tuple") (by simp)
    exact ⟨"tuple", _, _, by simp, tl, ne hl (by rw [hc]; simp), PySem.F.slot_tuple_eq, PySem.F.slot_tuple_ne, fun A E Q' q => call_meets PySem.F.slot_tuple_eq tl PySem.F.entry_tuple_eq (PySem.F.args_tuple_eq_2 _ _) (tuple_eq l b) ⟨nn, q⟩,
      fun A E Q' q => call_meets PySem.F.slot_tuple_ne tl PySem.F.entry_tuple_ne (PySem.F.args_tuple_ne_2 _ _) (tuple_ne l b) ⟨nn, q⟩⟩
  | @dct l kvs hd =>
    cases r
    have D := EQB.isDct I hd
    obtain ⟨⟨cls, dd, data, sl⟩, es, ep, hl, hc, hdd⟩ := id D
    simp only at hc hdd
    subst hc hdd
    have tl : s.TypeIs (.ref l) "dict" := ⟨_, hl, rfl⟩
    have nn := noT I oc eb (T := "dict") (by simp)
    exact ⟨"dict", _, _, by simp, tl, ne hl (by simp), PySem.F.slot_dict_eq, PySem.F.slot_dict_ne, fun A E Q' q => call_meets PySem.F.slot_dict_eq tl PySem.F.entry_dict_eq (PySem.F.args_dict_eq_2 _ _) (dict_eq l b es ep dd sl) ⟨hl, nn, q⟩,
      fun A E Q' q => call_meets PySem.F.slot_dict_ne tl PySem.F.entry_dict_ne (PySem.F.args_dict_ne_2 _ _) (dict_ne l b es ep dd sl) ⟨hl, nn, q⟩⟩
/-! ### the own class's own turn -/
variable {k : Nat} {sp : Sp} {y : V} {u : Value} {A : Around} {r : Bool}
/-- its __eq__, asked -/
theorem try_eq (S : OW.Spc X.prog X.w X.K X.mg X.base k C "__eq__" sp) (sb : Sub X k A) (I : Inv X pins σ H s) (ea : H a = some (.ins C dx fs)) (ru : RelV y u) (hsp : sp [.ref a, y] H (fun v H' => v = .bl r ∧ Ext H H') E0) :
    wpAny (model X.prog X.w) A (tryCompare (.ref a) "__eq__" u) (fun z s' => z = some (.bool r) ∧ ∃ H', Inv X pins σ H' s' ∧ Ext H H') X.xe s := by
  obtain ⟨f, fd, ps, h1, h2, F, hbi⟩ := S.ex
  obtain ⟨od, _, J⟩ := at_own I ea
  have e0 : Env0 X.prog X.w X.K X.mg X.base A X.stack s H := by
    have z := I.env0
    exact ⟨sb.fr.trans z.frames, z.mod, z.bs, z.bsz, z.funs, z.frf, z.hok, z.bare⟩
  unfold tryCompare
  refine wpAny_bind (PySem.W.ifBound_K I.kIn J h1 h2 (wpAny_mono (OW.run_at (E' := X.xe) (vs := [.ref a, y]) F hbi sb.room I e0 (.cons rfl (.cons ru .nil)) hsp) (fun w s' z => ?_) fun _ _ x => x))
  obtain ⟨z', H', I', rz, rfl, e⟩ := z
  cases (show w = Value.bool r from rz)
  exact wpAny_pure ⟨rfl, H', I', e⟩
open Builtin in
/-- its __ne__ (object's), asked -/
theorem try_ne (S : OW.Spc X.prog X.w X.K X.mg X.base k C "__eq__" sp) (oc : OwnC X.K C) (sb : Sub X (k + 1) A) (I : Inv X pins σ H s) (ea : H a = some (.ins C dx fs)) (ru : RelV y u) (hsp : sp [.ref a, y] H (fun v H' => v = .bl r ∧ Ext H H') E0) :
    wpAny (model X.prog X.w) A (tryCompare (.ref a) "__ne__" u) (fun z s' => z = some (.bool (!r)) ∧ ∃ H', Inv X pins σ H' s' ∧ Ext H H') X.xe s := by
  obtain ⟨f, fd, ps, h1, h2, F, hbi⟩ := S.ex
  obtain ⟨od, _, J⟩ := at_own I ea
  have KI := I.kIn
  have e0 : Env0 X.prog X.w X.K X.mg X.base A.in1 X.stack s H := by
    have z := I.env0
    exact ⟨sb.in1.fr.trans z.frames, z.mod, z.bs, z.bsz, z.funs, z.frf, z.hok, z.bare⟩
  have callEq : wpAny (model X.prog X.w) A.in1 (call (.ref f) [.ref a, u]) (fun v s' => v = .bool r ∧ ∃ H', Inv X pins σ H' s' ∧ Ext H H') X.xe s := by
    refine wpAny_mono (OW.run_at (E' := X.xe) (vs := [.ref a, y]) F hbi sb.in1.room I e0 (.cons rfl (.cons ru .nil)) hsp) (fun w s' z => ?_) fun _ _ x => x
    obtain ⟨z', H', I', rz, rfl, e⟩ := z
    exact ⟨rz, H', I', e⟩
  have slot := PySem.F.cmp_object.ne
  have sub : PySem.W.Looks (model X.prog X.w) s.heap (isInstance (.ref a) (.type "object")) true := J.type.andThen (PySem.W.looks_mroIn KI oc.ob)
  have uu : A.in1.units < cLine := sb.in1.room.units0
  have body : wpAny (model X.prog X.w) A.in1 (Builtin.«object.__ne__» ⟨[.ref a, u], []⟩) (fun fin s' => match fin with | .done f => (match f with | .ret v => v = .bool (!r) ∧ ∃ H', Inv X pins σ H' s' ∧ Ext H H' | _ => False) | .again _ => False) X.xe s := by
    unfold Builtin.«object.__ne__»
    repeat (first
      | with_reducible refine wpAny_cRoomFor uu ?_
      | (refine wpAny_bind (m := callSpecialIfBound? (.ref a) (Str.ofString "__eq__") [u]) (PySem.W.ifBound_K KI J h1 h2 (wpAny_mono callEq (fun r' s' hr => by
          obtain ⟨rfl, hq⟩ := hr
          repeat (first | exact ⟨rfl, hq⟩ | exact wpAny_pure ⟨rfl, hq⟩ | (refine wpAny_bind (m := truthy (.bool _)) (wpAny_truthy_bool ?_)) | wp_step)) fun _ _ e => e)))
      | wp_step)
  have callNe : wpAny (model X.prog X.w) A (call (.builtin "object.__ne__") [.ref a, u]) (fun v s' => v = .bool (!r) ∧ ∃ H', Inv X pins σ H' s' ∧ Ext H H') X.xe s := by
    refine wpAny_call (codeAny_call_builtin slot.plain PySem.F.cmpEntry_ne (PySem.W.check_slot PySem.F.cmpKind_ne PySem.F.cmpSplit_ne sub (PySem.F.cmpArgs_ne _ _) ?_))
    refine wpAny_mono body (fun fin s' z => ?_) fun _ _ x => x
    cases fin with
    | done fl =>
      cases fl with
      | ret v => exact z
      | next => exact z.elim
      | brk => exact z.elim
      | cont => exact z.elim
    | again c => exact z.elim
  have fin : wpAny (model X.prog X.w) A (call (.builtin "object.__ne__") ([.ref a] ++ [u]) >>= fun v => pure (some v)) (fun z s' => z = some (.bool (!r)) ∧ ∃ H', Inv X pins σ H' s' ∧ Ext H H') X.xe s :=
    wpAny_bind (wpAny_mono callNe (fun v s' h' => wpAny_pure ⟨by rw [h'.1], h'.2⟩) fun _ _ h' => h')
  have bound : wpAny (model X.prog X.w) A (callSpecialIfBound? (.ref a) "__ne__" [u]) (fun z s' => z = some (.bool (!r)) ∧ ∃ H', Inv X pins σ H' s' ∧ Ext H H') X.xe s := by
    simp only [callSpecialIfBound?, bindSpecialIfBound?]
    refine wpAny_holding (wpAny_bind (wpAny_bind (wpAny_bind (J.type.here ((PySem.W.looks_findIn KI oc.ne).here ?_)))))
    simp only [slot.bind]
    refine wpAny_bind (wpAny_askSetting (wpAny_ite ?_))
    split
    · exact wpAny_bind (wpAny_pure (wpAny_pure fin))
    · exact wpAny_tryCatch (wpAny_bind (wpAny_pure (wpAny_pure fin)))
  unfold tryCompare
  refine wpAny_bind (wpAny_mono bound (fun z s' h => ?_) fun _ _ h => h)
  obtain ⟨rfl, hq⟩ := h
  exact wpAny_pure ⟨rfl, hq⟩
end
end OWQ
set_option Elab.async false
set_option linter.all false
set_option maxRecDepth 100000
set_option maxHeartbeats 4000000
/-! OWQ2: the comparisons themselves: Cm X n x y H r says that x and y compare (==, !=, within a container) with r. -/
namespace OWQ
open PySem PySem.Spec PyProof.Rows L2
open PySem.SeqAt PySem.MeetsSeq
section
variable {X : Cx} {n k : Nat} {x y : V} {H : Hp} {r : Bool}
def CmQ (X : Cx) (n : Nat) (x y : V) (H : Hp) (r : Bool) : Prop := ∀ (A : Around) (pins : List (Addr × Obj)) (s : Shared) (σ : L2.St) (H1 : Hp) (u v : Value), Sub X n A → Inv X pins σ H1 s → Ext H H1 → RelV x u → RelV y v →
  wpAny (model X.prog X.w) A (richCompare .Eq u v) (fun z s' => z = .bool r ∧ ∃ H', Inv X pins σ H' s' ∧ Ext H1 H') X.xe s
def CmN (X : Cx) (n : Nat) (x y : V) (H : Hp) (r : Bool) : Prop := ∀ (A : Around) (pins : List (Addr × Obj)) (s : Shared) (σ : L2.St) (H1 : Hp) (u v : Value), Sub X n A → Inv X pins σ H1 s → Ext H H1 → RelV x u → RelV y v →
  wpAny (model X.prog X.w) A (richCompare .NotEq u v) (fun z s' => z = .bool (!r) ∧ ∃ H', Inv X pins σ H' s' ∧ Ext H1 H') X.xe s
def CmE (X : Cx) (n : Nat) (x y : V) (H : Hp) (r : Bool) : Prop := ∀ (A : Around) (pins : List (Addr × Obj)) (s : Shared) (σ : L2.St) (H1 : Hp) (u v : Value), Sub X n A → Inv X pins σ H1 s → Ext H H1 → RelV x u → RelV y v →
  wpAny (model X.prog X.w) A (eqBool u v) (fun z s' => z = r ∧ ∃ H', Inv X pins σ H' s' ∧ Ext H1 H') X.xe s
/-- x and y compare with r -/
structure Cm (X : Cx) (n : Nat) (x y : V) (H : Hp) (r : Bool) : Prop where
  eq : CmQ X n x y H r
  ne : CmN X n x y H r
  bq : CmE X n x y H r
theorem Cm.ext {H' : Hp} (c : Cm X n x y H r) (e : Ext H H') : Cm X n x y H' r :=
  ⟨fun A pins s σ H1 u v sb I e1 => c.eq A pins s σ H1 u v sb I (e.trans e1), fun A pins s σ H1 u v sb I e1 => c.ne A pins s σ H1 u v sb I (e.trans e1), fun A pins s σ H1 u v sb I e1 => c.bq A pins s σ H1 u v sb I (e.trans e1)⟩
theorem typeIs_looks {M : Model} {s : Shared} {u : Value} {T : String} (h : s.TypeIs u T) : PySem.W.Looks M s.heap (typeOf u) (.type T) := fun A Q E s' k q => by
  refine wpAny_typeOf ?_ q
  cases u with
  | ref a => obtain ⟨o, ho, hc⟩ := h; exact ⟨o, k _ _ ho, hc⟩
  | _ => exact h
theorem CmE.of (q : CmQ X n x y H r) (hx : (∃ a, x = .ref a) ∨ ∃ a, y = .ref a) (hs : ∀ (pins : List (Addr × Obj)) (s : Shared) (σ : L2.St) (H1 : Hp) (u v : Value), Inv X pins σ H1 s → Ext H H1 → RelV x u → RelV y v → (u == v) = true → r = true) : CmE X n x y H r := by
  intro A pins s σ H1 u v sb I e rx ry
  unfold eqBool
  refine wpAny_holding ?_
  refine wpAny_ite_split (fun h => ?_) (fun _ => ?_)
  · have hr := hs pins s σ H1 u v I e rx ry h
    subst hr
    wp_walk
    exact ⟨rfl, H1, I, Ext.rfl'⟩
  · split
    · rename_i heq
      exfalso
      rcases hx with ⟨a, rfl⟩ | ⟨a, rfl⟩
      · cases rx
        cases (Prod.mk.inj heq).1
      · cases ry
        cases (Prod.mk.inj heq).2
    · refine wpAny_bind (wpAny_mono (q A pins s σ H1 u v sb I e rx ry) (fun z s' h => ?_) fun _ _ h => h)
      obtain ⟨rfl, h⟩ := h
      exact wpAny_truthy_bool ⟨rfl, h⟩
variable {C a b dx db : Addr} {fs gs : List (Str × V)} {sp : Sp}
/-- what the own __eq__ is asked, with the answer r -/
def Ask (sp : Sp) (H : Hp) (a : Addr) (y : V) (r : Bool) : Prop := ∀ H1, Ext H H1 → sp [.ref a, y] H1 (fun v H' => v = .bl r ∧ Ext H1 H') E0
theorem ty_back {A : Around} {pins : List (Addr × Obj)} {s : Shared} {σ : L2.St} {H1 : Hp} (I : Inv X pins σ H1 s) (e : H1 b = some (.ins C db gs)) : ∃ od, PySem.W.InstAt s.heap b (iO C db) C od := by
  obtain ⟨od, _, J⟩ := at_own I e
  exact ⟨od, J⟩
open Builtin in
/-- the own one first: its turn decides -/
theorem front {op : CmpOp} {A : Around} {pins : List (Addr × Obj)} {s : Shared} {σ : L2.St} {H1 : Hp} {u tb : Value} {w : Value} (hop : op = .Eq ∨ op = .NotEq) (sb : Sub X n A) (I : Inv X pins σ H1 s) (ea : H1 a = some (.ins C dx fs)) (hb : PySem.W.Looks (model X.prog X.w) s.heap (typeOf u) tb) (hn : PySem.W.notFirst X.K C tb = true)
    (one : wpAny (model X.prog X.w) A (tryCompare (.ref a) (cmpInfo op).2.1 u) (fun z s' => z = some w ∧ ∃ H', Inv X pins σ H' s' ∧ Ext H1 H') X.xe s) :
    wpAny (model X.prog X.w) A (richCompare op (.ref a) u) (fun z s' => z = w ∧ ∃ H', Inv X pins σ H' s' ∧ Ext H1 H') X.xe s := by
  obtain ⟨od, J⟩ := ty_back (A := A) I ea
  have one' : wpAny (model X.prog X.w) A (tryCompare (.ref a) (cmpInfo op).2.1 u) (fun z s' => ∃ v, z = some v ∧ v = w ∧ ∃ H', Inv X pins σ H' s' ∧ Ext H1 H') X.xe s := wpAny_mono one (fun z s' h => ⟨w, h.1, rfl, h.2⟩) fun _ _ h => h
  unfold richCompare
  simp only [oneThing_ref]
  refine wpAny_holding (wpAny_bind (wpAny_cRoomFor sb.room.units0 ?_))
  refine wpAny_bind (J.type.here (wpAny_bind (hb.here ?_)))
  split
  · rename_i q
    have e : PySem.W.subIn X.K tb (.ref C) = some false := by
      rcases Bool.or_eq_true_iff.mp hn with e | e
      · rw [beq_iff_eq.mp e] at q; simp at q
      · exact beq_iff_eq.mp e
    refine wpAny_bind ((PySem.W.looks_subIn I.kIn e).here ?_)
    simp only [Bool.false_eq_true, if_false]
    refine wpAny_bind (wpAny_mono one' (fun r s' z => ?_) fun _ _ e => e)
    obtain ⟨v, rfl, hq⟩ := z
    exact wpAny_pure hq
  · refine wpAny_bind (wpAny_pure ?_)
    simp only [Bool.false_eq_true, if_false]
    refine wpAny_bind (wpAny_mono one' (fun r s' z => ?_) fun _ _ e => e)
    obtain ⟨v, rfl, hq⟩ := z
    exact wpAny_pure hq
/-- the own one behind a thing that tells nothing -/
theorem back {op : CmpOp} {A : Around} {pins : List (Addr × Obj)} {s : Shared} {σ : L2.St} {H1 : Hp} {u : Value} {w : Value} {T id : String} (sb : Sub X n A) (I : Inv X pins σ H1 s) (eb : H1 b = some (.ins C db gs)) (hT : PySem.W.mroIn X.K C (.type T) = some false) (tu : s.TypeIs u T) (slot : Slot T (cmpInfo op).2.1 id)
    (hc : ∀ Q' : Value → Shared → Prop, Q' .notImplemented s → wpAny (model X.prog X.w) A (call (.builtin id) [u, .ref b]) Q' X.xe s)
    (one : wpAny (model X.prog X.w) A (tryCompare (.ref b) (cmpInfo op).2.2 u) (fun z s' => z = some w ∧ ∃ H', Inv X pins σ H' s' ∧ Ext H1 H') X.xe s) :
    wpAny (model X.prog X.w) A (richCompare op u (.ref b)) (fun z s' => z = w ∧ ∃ H', Inv X pins σ H' s' ∧ Ext H1 H') X.xe s := by
  obtain ⟨od, J⟩ := ty_back (A := A) I eb
  have one' : wpAny (model X.prog X.w) A (tryCompare (.ref b) (cmpInfo op).2.2 u) (fun z s' => ∃ v, z = some v ∧ v = w ∧ ∃ H', Inv X pins σ H' s' ∧ Ext H1 H') X.xe s := wpAny_mono one (fun z s' h => ⟨w, h.1, rfl, h.2⟩) fun _ _ h => h
  rcases hi : cmpInfo op with ⟨sym, f, r⟩
  rw [hi] at slot one'
  simp only [richCompare, hi, tu.oneThing_none]
  try with_reducible refine wpAny_holding ?_
  refine wpAny_bind (wpAny_cRoomFor_or (.inr sb.room.units0) ?_)
  refine wpAny_bind (wpAny_typeOf tu (wpAny_bind (J.type.here ?_)))
  have hne : (Value.type T != Value.ref C) = true := rfl
  simp only [hne, if_true]
  refine wpAny_bind ((PySem.W.looks_mroIn I.kIn hT).here ?_)
  simp only [Bool.false_eq_true, if_false, Bool.not_false, if_true]
  refine wpAny_bind (m := tryCompare u _ (.ref b)) (wpAny_tryCompare_declines tu slot (hc _ ⟨rfl, ?_⟩))
  refine wpAny_bind (m := tryCompare (.ref b) _ u) (wpAny_mono one' (fun r s' z => ?_) fun _ _ e => e)
  obtain ⟨v, rfl, hq⟩ := z
  exact wpAny_pure hq
theorem nf_type {K : PySem.W.Frag} {T : String} (h : T ∈ ts7) : PySem.W.notFirst K C (.type T) = true := by
  have e : PySem.W.subIn K (.type T) (.ref C) = some false := by
    simp only [List.mem_cons, List.not_mem_nil, or_false] at h
    rcases h with rfl | rfl | rfl | rfl | rfl | rfl | rfl <;> rfl
  unfold PySem.W.notFirst
  rw [e]
  simp
/-- an own one beside a thing of Python's own kinds -/
theorem Cm.own (S : OW.Spc X.prog X.w X.K X.mg X.base k C "__eq__" sp) (oc : OwnC X.K C) (ea : H a = some (.ins C dx fs)) (t : TK X.K H y) (h : Ask sp H a y false) : Cm X (k + 1) (.ref a) y H false := by
  have q : CmQ X (k + 1) (.ref a) y H false := by
    intro A pins s σ H1 u v sb I e rx ry
    cases rx
    obtain ⟨T, ide, idn, hT, tu, _, _⟩ := (t.ext e).decl oc I ry (e _ _ ea)
    exact front (.inl rfl) sb I (e _ _ ea) (typeIs_looks tu) (nf_type hT) (try_eq S (sb.mono (Nat.le_succ _)) I (e _ _ ea) ry (h H1 e))
  refine ⟨q, ?_, CmE.of q (.inl ⟨_, rfl⟩) fun pins s σ H1 u v I e rx ry hb => ?_⟩
  · intro A pins s σ H1 u v sb I e rx ry
    cases rx
    obtain ⟨T, ide, idn, hT, tu, _, _⟩ := (t.ext e).decl oc I ry (e _ _ ea)
    exact front (.inr rfl) sb I (e _ _ ea) (typeIs_looks tu) (nf_type hT) (try_ne S oc sb I (e _ _ ea) ry (h H1 e))
  · cases rx
    obtain ⟨T, ide, idn, hT, tu, hne, _⟩ := (t.ext e).decl oc I ry (e _ _ ea)
    rw [beq_iff_eq.mp hb] at hne
    simp at hne
/-- a thing of Python's own kinds beside an own one -/
theorem Cm.back (S : OW.Spc X.prog X.w X.K X.mg X.base k C "__eq__" sp) (oc : OwnC X.K C) (ea : H a = some (.ins C dx fs)) (t : TK X.K H y) (h : Ask sp H a y false) : Cm X (k + 1) y (.ref a) H false := by
  have q : CmQ X (k + 1) y (.ref a) H false := by
    intro A pins s σ H1 u v sb I e rx ry
    cases ry
    obtain ⟨T, ide, idn, hT, tu, hne, se, sn, de, dn⟩ := (t.ext e).decl oc I rx (e _ _ ea)
    exact OWQ.back (op := .Eq) sb I (e _ _ ea) (oc.no T hT) tu se (de A X.xe) (try_eq S (sb.mono (Nat.le_succ _)) I (e _ _ ea) rx (h H1 e))
  refine ⟨q, ?_, CmE.of q (.inr ⟨_, rfl⟩) fun pins s σ H1 u v I e rx ry hb => ?_⟩
  · intro A pins s σ H1 u v sb I e rx ry
    cases ry
    obtain ⟨T, ide, idn, hT, tu, hne, se, sn, de, dn⟩ := (t.ext e).decl oc I rx (e _ _ ea)
    exact OWQ.back (op := .NotEq) sb I (e _ _ ea) (oc.no T hT) tu sn (dn A X.xe) (try_ne S oc sb I (e _ _ ea) rx (h H1 e))
  · cases ry
    obtain ⟨T, ide, idn, hT, tu, hne, _⟩ := (t.ext e).decl oc I rx (e _ _ ea)
    rw [hb] at hne
    cases hne
/-- two of the class -/
theorem Cm.two (S : OW.Spc X.prog X.w X.K X.mg X.base k C "__eq__" sp) (oc : OwnC X.K C) (ea : H a = some (.ins C dx fs)) (eb : H b = some (.ins C db gs)) (h : Ask sp H a (.ref b) r) (hr : a = b → r = true) : Cm X (k + 1) (.ref a) (.ref b) H r := by
  have q : CmQ X (k + 1) (.ref a) (.ref b) H r := by
    intro A pins s σ H1 u v sb I e rx ry
    cases rx
    cases ry
    obtain ⟨od, J⟩ := ty_back (A := A) I (e _ _ eb)
    exact front (.inl rfl) sb I (e _ _ ea) J.type OW.same_first (try_eq S (sb.mono (Nat.le_succ _)) I (e _ _ ea) (show RelV (.ref b) (.ref b) from rfl) (h H1 e))
  refine ⟨q, ?_, CmE.of q (.inl ⟨_, rfl⟩) fun pins s σ H1 u v I e rx ry hb => ?_⟩
  · intro A pins s σ H1 u v sb I e rx ry
    cases rx
    cases ry
    obtain ⟨od, J⟩ := ty_back (A := A) I (e _ _ eb)
    exact front (.inr rfl) sb I (e _ _ ea) J.type OW.same_first (try_ne S oc sb I (e _ _ ea) (show RelV (.ref b) (.ref b) from rfl) (h H1 e))
  · cases rx
    cases ry
    refine hr ?_
    have := beq_iff_eq.mp hb
    injection this
/-! ### the operators -/
def rCm (X : Cx) (n : Nat) (neg : Bool) : R2 := fun x y H Q => ∃ r, Cm X n x y H r ∧ ∀ H', Ext H H' → Q (.bl (if neg = true then !r else r)) H'
theorem op_eqQ (hr : Room n X.A) : OpR X (compareOp .Eq) (rCm X n false) := by
  intro pins s σ H x y v u Q I rx ry h
  obtain ⟨r, c, q⟩ := h
  show wpAny _ _ (richCompare .Eq v u) _ _ _
  refine wpAny_mono (c.eq X.A pins s σ H v u ⟨hr, rfl⟩ I Ext.rfl' rx ry) (fun z s' h => ?_) fun _ _ h => h
  obtain ⟨rfl, H', I', e⟩ := h
  exact ⟨.bl r, H', I', rfl, q H' e⟩
theorem op_neQ (hr : Room n X.A) : OpR X (compareOp .NotEq) (rCm X n true) := by
  intro pins s σ H x y v u Q I rx ry h
  obtain ⟨r, c, q⟩ := h
  show wpAny _ _ (richCompare .NotEq v u) _ _ _
  refine wpAny_mono (c.ne X.A pins s σ H v u ⟨hr, rfl⟩ I Ext.rfl' rx ry) (fun z s' h => ?_) fun _ _ h => h
  obtain ⟨rfl, H', I', e⟩ := h
  exact ⟨.bl (!r), H', I', rfl, q H' e⟩
/-- the items of a list, each compared with x -/
inductive Each (X : Cx) (n : Nat) (x : V) (H : Hp) : List V → Bool → Prop
  | nil : Each X n x H [] false
  | cons {y : V} {ys : List V} {r q : Bool} : Cm X n y x H r → Each X n x H ys q → Each X n x H (y :: ys) (r || q)
theorem Each.ext {H' : Hp} {ys : List V} (h : Each X n x H ys r) (e : Ext H H') : Each X n x H' ys r := by
  induction h with
  | nil => exact .nil
  | cons c _ ih => exact .cons (c.ext e) ih
theorem Each.drop {ys : List V} (h : Each X n x H ys r) : ∀ i, ∃ q, Each X n x H (ys.drop i) q := by
  induction h with
  | nil => intro i; exact ⟨false, by rw [List.drop_nil]; exact .nil⟩
  | @cons y ys r q c t ih =>
    intro i
    cases i with
    | zero => exact ⟨_, .cons c t⟩
    | succ i => exact ih i
theorem in_loop {A : Around} (sb : Sub X n A.in1) {pins : List (Addr × Obj)} {σ : L2.St} {H0 : Hp} {l : Addr} {ys : List V} {v : Value} {R : Result → Shared → Prop} (hl : H0 l = some (.lst ys)) (rx : RelV x v)
    (hE : ∀ e s', X.xe e s' → R (.error e) s') (fin : ∀ (r : Bool) (s' : Shared) (H' : Hp), Inv X pins σ H' s' → Ext H0 H' → r = true ∨ r = false → True) :
    ∀ (m i : Nat) (q : Bool) (s : Shared) (H : Hp), ys.length - i = m → i ≤ ys.length → Each X n x H0 (ys.drop i) q → Inv X pins σ H s → Ext H0 H → (∀ (s' : Shared) (H' : Hp), Inv X pins σ H' s' → Ext H0 H' → R (.ok (.ret (.bool q))) s') →
      wpAny (model X.prog X.w) A.in1 (Builtin.«list.__contains__.loop» ⟨[.ref l, v, rawInt i], []⟩) (fun fin s' => match fin with | .done f => R (.ok f) s' | .again c' => c'.quiet = true ∧ codeAny (model X.prog X.w) A c' R s') (fun e s' => R (.error e) s') s := by
  intro m
  induction m with
  | zero =>
    intro i q s H hm hi he I ex fin
    have hd : ys.drop i = [] := List.drop_eq_nil_of_le (by omega)
    rw [hd] at he
    cases he
    obtain ⟨_, its, c, rv, _, e⟩ := I.lstM (ex _ _ hl)
    have hs : its.toArray[((i : Nat) : Int).toNat]? = none := by
      have := rv.length
      simp
      omega
    unfold Builtin.«list.__contains__.loop»
    refine wpAny_bind (wpAny_listItems e rfl ?_)
    rw [hs]
    dsimp only
    wp_walk
    exact fin s H I ex
  | succ m ih =>
    intro i q s H hm hi he I ex fin
    have hib : i < ys.length := by omega
    obtain ⟨_, its, c, rv, _, e⟩ := I.lstM (ex _ _ hl)
    obtain ⟨u, e1, e2⟩ := rv.get (List.getElem?_eq_getElem hib)
    have hs : its.toArray[((i : Nat) : Int).toNat]? = some u := by simpa using e1
    rw [List.drop_eq_getElem_cons hib] at he
    cases he with
    | @cons _ _ r q' cm t =>
      unfold Builtin.«list.__contains__.loop»
      refine wpAny_bind (wpAny_listItems e rfl ?_)
      rw [hs]
      dsimp only
      refine wpAny_bind (wpAny_mono (cm.bq A.in1 pins s σ H u v sb I ex e2 rx) (fun z s' h => ?_) fun e' s' h' => hE e' s' h')
      obtain ⟨rfl, H', I', ex'⟩ := h
      cases z with
      | true =>
        wp_walk
        exact fin s' H' I' (ex.trans ex')
      | false =>
        have hc : ((i : Int) + 1) = ((i + 1 : Nat) : Int) := by push_cast; rfl
        wp_walk
        rw [hc]
        exact ⟨plainId_quiet plain_contains_loop _, codeAny_builtin entry_contains_loop (by
          rw [Around.under_plainId plain_contains_loop _]
          exact ih (i + 1) _ s' H' (by omega) (by omega) t I' (ex.trans ex') fin)⟩
def rInQ (X : Cx) (n : Nat) (neg : Bool) : R2 := fun x y H Q => ∃ (l : Addr) (ys : List V) (r : Bool), y = .ref l ∧ H l = some (.lst ys) ∧ Each X n x H ys r ∧ ∀ H', Ext H H' → Q (.bl (if neg = true then !r else r)) H'
theorem has_list (hr : Room (n + 1) X.A) {pins : List (Addr × Obj)} {s : Shared} {σ : L2.St} {v : Value} {l : Addr} {ys : List V} (I : Inv X pins σ H s) (rx : RelV x v) (hl : H l = some (.lst ys)) (he : Each X n x H ys r) {Q : Bool → Shared → Prop} (q : ∀ s' H', Inv X pins σ H' s' → Ext H H' → Q r s') :
    wpAny (model X.prog X.w) X.A (contains (.ref l) v) Q X.xe s := by
  obtain ⟨_, its, c, rv, _, e⟩ := I.lstM hl
  have sb : Sub X n X.A.in1 := ⟨hr.in1, rfl⟩
  have hT : s.TypeIs (.ref l) "list" := ⟨_, e, rfl⟩
  refine wpAny_contains_slot hT PySem.F.slot_list_contains (wpAny_mono (call_meetsIn (Q := fun z s2 => z = Value.bool r ∧ ∃ H2, Inv X pins σ H2 s2 ∧ Ext H H2) (B := Builtin.«list.__contains__») (S := fun A R s' => A = X.A ∧ s' = s ∧ (∀ e s', X.xe e s' → R (.error e) s') ∧ ∀ (s' : Shared) (H' : Hp), Inv X pins σ H' s' → Ext H H' → R (.ok (.ret (.bool r))) s')
    PySem.F.slot_list_contains hT PySem.F.entry_list_contains (PySem.F.args_list_contains_2 _ _) ?_ ⟨rfl, rfl, fun e s' z => z, fun s' H' I' ex => ?_⟩) (fun z s' hv => ?_) fun _ _ e => e)
  case refine_1 =>
    intro A R s' hS
    obtain ⟨rfl, rfl, hE, fin⟩ := hS
    unfold Builtin.«list.__contains__»
    wp_walk
    exact ⟨plainId_quiet plain_contains_loop _, codeAny_builtin entry_contains_loop (by
      rw [Around.under_plainId plain_contains_loop _]
      exact in_loop sb hl rx hE (fun _ _ _ _ _ _ => trivial) _ 0 r s' H rfl (Nat.zero_le _) he I Ext.rfl' fin)⟩
  case refine_2 => exact ⟨rfl, H', I', ex⟩
  case refine_3 =>
    obtain ⟨rfl, H', I', ex⟩ := hv
    exact wpAny_truthy_bool (q s' H' I' ex)
theorem op_inQ (hr : Room (n + 1) X.A) : OpR X (compareOp .In) (rInQ X n false) := by
  intro pins s σ H x y v u Q I rx ry h
  obtain ⟨l, ys, r, rfl, hl, he, q⟩ := h
  cases (show u = Value.ref l from ry)
  show wpAny _ X.A (do return Value.bool (← contains (.ref l) v)) _ _ s
  exact wpAny_bind (has_list hr I rx hl he fun s' H' I' ex => wpAny_pure ⟨.bl r, H', I', rfl, q H' ex⟩)
theorem op_notInQ (hr : Room (n + 1) X.A) : OpR X (compareOp .NotIn) (rInQ X n true) := by
  intro pins s σ H x y v u Q I rx ry h
  obtain ⟨l, ys, r, rfl, hl, he, q⟩ := h
  cases (show u = Value.ref l from ry)
  show wpAny _ X.A (do return Value.bool (!(← contains (.ref l) v))) _ _ s
  exact wpAny_bind (has_list hr I rx hl he fun s' H' I' ex => wpAny_pure ⟨.bl (!r), H', I', rfl, q H' ex⟩)
end
end OWQ
set_option Elab.async false
set_option linter.all false
set_option maxRecDepth 100000
set_option maxHeartbeats 4000000
/-! TQ: things of Python's own kinds, as an own __eq__ meets them: their type, that they tell nothing. -/
namespace TQ
open PySem PySem.Spec PyProof.Rows L2
structure Tq (G : Hp) (x : V) : Prop where
  tk : ∀ K H', Same G H' → OWQ.TK K H' x
  ty : ∀ K H', Same G H' → ∃ T, T ∈ OWQ.ts7 ∧ TyX K H' x (.type T)
section
variable {G G' : Hp} {x : V} {a : Addr} {xs : List V}
theorem Tq.same (h : Tq G x) (s : Same G G') : Tq G' x := ⟨fun K H' s' => h.tk K H' (s.trans s'), fun K H' s' => h.ty K H' (s.trans s')⟩
theorem Tq.non : Tq G .non := ⟨fun _ _ _ => .non, fun _ _ _ => ⟨"NoneType", by simp, .base .non⟩⟩
theorem Tq.bl {b : Bool} : Tq G (.bl b) := ⟨fun _ _ _ => .bl, fun _ _ _ => ⟨"bool", by simp, .base (.bl b)⟩⟩
theorem Tq.int {i : Int} : Tq G (.int i) := ⟨fun _ _ _ => .int, fun _ _ _ => ⟨"int", by simp, .base (.int i)⟩⟩
theorem Tq.str {z : Str} : Tq G (.str z) := ⟨fun _ _ _ => .str, fun _ _ _ => ⟨"str", by simp, .base (.str z)⟩⟩
theorem Tq.lst (h : G a = some (.lst xs)) : Tq G (.ref a) := ⟨fun _ _ s => .lst (SqL.of (s _ _ h)), fun _ _ s => ⟨"list", by simp, .base (.lst (s _ _ h))⟩⟩
theorem Tq.tup (h : G a = some (.tup xs)) : Tq G (.ref a) := ⟨fun _ _ s => .tup (SqT.of (s _ _ h)), fun _ _ s => ⟨"tuple", by simp, .base (.tup (s _ _ h))⟩⟩
theorem Tq.dct {kvs : List (Key × V)} (h : G a = some (.dK kvs)) : Tq G (.ref a) := ⟨fun _ _ s => .dct (s _ _ h), fun _ _ s => ⟨"dict", by simp, .base (.dK (s _ _ h))⟩⟩
end
/-- what is new since H -/
noncomputable def nw (H H' : Hp) : Hp := open Classical in fun a => if H a = none then H' a else none
theorem nw_at {H H' : Hp} {a : Addr} {o : HO} (e : H' a = some o) (z : H a = none) : nw H H' a = some o := by
  unfold nw
  rw [if_pos z]
  exact e
theorem nw_le {H H' : Hp} {a : Addr} {o : HO} (e : nw H H' a = some o) : H' a = some o ∧ H a = none := by
  unfold nw at e
  by_cases z : H a = none
  · rw [if_pos z] at e
    exact ⟨e, z⟩
  · rw [if_neg z] at e
    cases e
theorem nw_same {H H' H'' : Hp} (s : Same H' H'') : Same (nw H H') (nw H H'') := fun a o e => nw_at (s _ _ (nw_le e).1) (nw_le e).2
inductive TqAll (G : Hp) : List V → Prop
  | nil : TqAll G []
  | cons {x : V} {xs : List V} : Tq G x → TqAll G xs → TqAll G (x :: xs)
theorem TqAll.mem {G : Hp} {xs : List V} (h : TqAll G xs) : ∀ x ∈ xs, Tq G x := by
  induction h with
  | nil => intro x hx; cases hx
  | cons h _ ih =>
    intro x hx
    rcases List.mem_cons.mp hx with rfl | hx
    · exact h
    · exact ih x hx
end TQ
set_option Elab.async false
set_option linter.all false
set_option maxRecDepth 100000
set_option maxHeartbeats 4000000
namespace K08
open PySem PySem.Spec PyProof.Rows L2
open C8 (Cal Mak Met pe_c pe_mk pe_mt pe_mt0)
open SX (S)
/-! ### a Person -/
def peF (l : List Nat) (s m : Int) : List (Str × V) := putF "mask" (.int m) (putF "seats" (.int s) (putF "name" (.str (S l)) []))
theorem n1 : ¬ (("name" : Str) = "mask") := by decide +kernel
theorem n2 : ¬ (("name" : Str) = "seats") := by decide +kernel
theorem n3 : ¬ (("seats" : Str) = "mask") := by decide +kernel
theorem pe_name (l : List Nat) (s m : Int) : (peF l s m).lookup ("name" : Str) = some (.str (S l)) := by
  unfold peF
  rw [lookup_putF, if_neg n1, lookup_putF, if_neg n2, lookup_putF, if_pos rfl]
theorem pe_seats (l : List Nat) (s m : Int) : (peF l s m).lookup ("seats" : Str) = some (.int s) := by
  unfold peF
  rw [lookup_putF, if_neg n3, lookup_putF, if_pos rfl]
theorem pe_mask (l : List Nat) (s m : Int) : (peF l s m).lookup ("mask" : Str) = some (.int m) := by
  unfold peF
  rw [lookup_putF, if_pos rfl]
structure ClP (K : PySem.W.Frag) (mg : Str → Option Value) (C : Addr) : Prop where
  cl : Cls K C
  nn : NoAttr K C "name"
  ns : NoAttr K C "seats"
  nm : NoAttr K C "mask"
  g : mg "Person" = some (.ref C)
section
variable {P : Program} {w : World} {K : PySem.W.Frag} {mg : Str → Option Value} {base : Heap} {f C : Addr} {fd : FuncData}
def spPI (C : Addr) : Sp := fun vs H Q _ => ∃ (p dx : Addr) (l : List Nat) (s m : Int), vs = [.ref p, .str (S l), .int s, .int m] ∧ NM.ok l ∧ 0 ≤ s ∧ s ≤ 9 ∧ 0 ≤ m ∧ m ≤ 127 ∧ H p = some (.ins C dx []) ∧
  ∀ H', (∀ a o, a ≠ p → H a = some o → H' a = some o) → H' p = some (.ins C dx (peF l s m)) → Q .non H'
theorem ok_pinit (F : Dn K d_Person_init f fd) (cN : Cal P w K mg base 1 "is_name" spName []) (cB : CalB P w K mg base) (cM : Cal P w K mg base 3 "is_mask" spMask []) (T : ClP K mg C) (g : ∃ t, mg "MOST_SEATS" = some (.int 9 t)) : FnOk P w K mg base CX0 4 f fd ["self", "name", "seats", "mask"] (spPI C) := by
  refine F.ok sc_Person_init (fun vs H Q E h => ?_) (fun cdv A outer s H vs Q E hr h => ?_)
  · obtain ⟨p, dx, l, st, m, rfl, _⟩ := h
    rfl
  · obtain ⟨p, dx, l, st, m, rfl, ok, s0, s9, m0, m7, hp, hQ⟩ := h
    obtain ⟨t, g⟩ := g
    refine ⟨_, PSs.nox (pss_cons (ps_if (pt_not (pt_val (pe_c cN hr (by decide) rfl (pa_cons (pv 1) pa_nil)))) pss_never pss_nil)
      (pss_cons (ps_if (pt_not (pt_val (pe_c cB hr (by decide) rfl (pa_cons (pv 2) (pa_cons pe_int (pa_cons (pe_glob (v := .int 9) rfl g ⟨t, rfl⟩) pa_nil)))))) pss_never pss_nil)
      (pss_cons (ps_if (pt_not (pt_val (pe_c cM hr (by decide) rfl (pa_cons (pv 3) pa_nil)))) pss_never pss_nil)
      (pss_cons (ps_fld (pv 0) (pv 1) rfl) (pss_cons (ps_fld (pv 0) (pv 2) rfl) (pss_one (ps_fld (pv 0) (pv 3) rfl))))))), ?_⟩
    refine ⟨_, rfl, l, rfl, ok, fun H1 s1 => ⟨true, rfl, iteF ?_⟩⟩
    refine ⟨_, rfl, st, 0, 9, rfl, _, rfl, ?_⟩
    rw [decide_eq_true (show 0 ≤ st ∧ st ≤ 9 from ⟨s0, s9⟩)]
    refine iteF ?_
    refine ⟨_, rfl, m, rfl, _, rfl, ?_⟩
    rw [decide_eq_true (show 0 ≤ m ∧ m ≤ 127 from ⟨m0, m7⟩)]
    refine iteF ?_
    refine ⟨_, rfl, _, rfl, p, C, dx, _, rfl, s1 _ _ hp, T.cl, T.nn, by show 0 < 1000; decide, ?_⟩
    refine ⟨_, rfl, _, rfl, p, C, dx, _, rfl, upd_same, T.cl, T.ns, by show 1 < 1000; decide, ?_⟩
    refine ⟨_, rfl, _, rfl, p, C, dx, _, rfl, upd_same, T.cl, T.nm, by show 2 < 1000; decide, ?_⟩
    refine hQ _ (fun a o ha e => ?_) upd_same
    rw [upd_ne ha, upd_ne ha, upd_ne ha]
    exact s1 _ _ e
end
end K08
set_option Elab.async false
set_option linter.all false
set_option maxRecDepth 100000
set_option maxHeartbeats 4000000
/-! TXL: how long the texts of containers are; lists and tuples of texts, shown. -/
namespace TXL
open PySem PySem.Spec PyProof.Rows L2
open SX (S)
open RPO
open THI (SN)
theorem rt_len {z : List Nat} (h : NM.ok z) : (reprText (S z)).length ≤ 133 := by
  have ok : PyData.strOk (S z) = true := by
    unfold PyData.strOk
    rw [← Array.all_toList, List.all_eq_true]
    intro c hc
    have := h.2.2 c hc
    exact decide_eq_true (by omega)
  have hc : (S z).cps.toList.all (fun c => decide (c < 16 ^ 8)) = true := by
    rw [List.all_eq_true]
    intro c hc
    have := h.2.2 c hc
    exact decide_eq_true (by omega)
  have h1 := PyData.shown_le 13 (by decide) (.str (S z)) (by simp only [PyData.leavesShort]; exact hc)
  have e : (PyData.str (S z)).shown = reprText (S z) := by simp only [PyData.shown]
  have w1 : (PyData.str (S z)).weight = z.length := by simp only [PyData.weight]; rfl
  have := h.2.1
  rw [e] at h1
  omega
theorem piled_le {ts : List Str} {n : Nat} (h : ∀ t ∈ ts, t.length ≤ n) : piled ts ≤ (n + 2) * ts.length := by
  induction ts with
  | nil => exact Nat.zero_le _
  | cons t ts ih =>
    rw [piled_cons, List.length_cons, Nat.mul_add]
    have := h t List.mem_cons_self
    have := ih fun x hx => h x (List.mem_cons_of_mem _ hx)
    omega
theorem join_le (ts : List Str) : (Str.join ", " ts).length ≤ piled ts := by
  by_cases h : ts = []
  · subst h
    decide
  · have := join_length_add ts h
    omega
theorem tt_le (ts : List Str) : (tupleText ts).length ≤ piled ts + 3 := by
  unfold tupleText
  rw [PySem.strLen_append, PySem.strLen_append]
  have e1 : ((("(" : String) : Str)).length = 1 := rfl
  have e3 : (((if ts.length == 1 then ",)" else ")" : String) : Str)).length ≤ 2 := by split <;> decide
  rw [e1]
  have := join_le ts
  omega
theorem lt_le (ts : List Str) : (listText ts).length ≤ piled ts + 2 := by
  unfold listText
  rw [PySem.strLen_append]
  have e2 : ((("]" : String) : Str)).length = 1 := rfl
  have e1 : ((("[" : String) : Str)).length = 1 := rfl
  have h := textFrom_len_le ts 0 "["
  have hp : piled ts = (ts.map (·.length)).sum + 2 * ts.length := by
    clear h
    induction ts with
    | nil => rfl
    | cons t ts ih => rw [piled_cons, ih, List.map_cons, List.sum_cons, List.length_cons]; omega
  rw [e1] at h
  rw [e2]
  omega
/-- a list's text -/
def ltx (ts : List Str) : Str := if ts = [] then "[]" else listText ts
theorem ltx_le (ts : List Str) : (ltx ts).length ≤ piled ts + 2 := by
  unfold ltx
  split
  · exact Nat.le_trans (by decide : (("[]" : String) : Str).length ≤ 2) (Nat.le_add_left _ _)
  · exact lt_le ts
theorem tt_n {ts : List Str} {n m : Nat} (h : ∀ t ∈ ts, t.length ≤ n) (l : ts.length ≤ m) : (tupleText ts).length ≤ (n + 2) * m + 3 := by
  have h1 := tt_le ts
  have h2 := piled_le h
  have h3 : (n + 2) * ts.length ≤ (n + 2) * m := Nat.mul_le_mul_left _ l
  omega
theorem ltx_n {ts : List Str} {n m : Nat} (h : ∀ t ∈ ts, t.length ≤ n) (l : ts.length ≤ m) : (ltx ts).length ≤ (n + 2) * m + 2 := by
  have h1 := ltx_le ts
  have h2 := piled_le h
  have h3 : (n + 2) * ts.length ≤ (n + 2) * m := Nat.mul_le_mul_left _ l
  omega
section
variable {X : Cx} {n : Nat}
theorem rp_all {α : Type} {outs : List Addr} {H : Hp} {g : α → V} {t : α → Str} : ∀ {l : List α}, (∀ x ∈ l, RpU X n outs H (g x) (t x)) → RpAll X n outs H (l.map g) (l.map t)
  | [], _ => .nil
  | x :: l, h => .cons (h x List.mem_cons_self) (rp_all fun y hy => h y (List.mem_cons_of_mem _ hy))
theorem rp_strs {outs : List Addr} {H : Hp} (F : List Str) : RpAll X n outs H (F.map V.str) (F.map reprText) := rp_all fun _ _ => .str
theorem rp_list {outs : List Addr} {H : Hp} {a : Addr} {xs : List V} {ts : List Str} (ha : H a = some (.lst xs)) (na : a ∉ outs) (h : RpAll X n (a :: outs) H xs ts) : RpU X (n + 1) outs H (.ref a) (ltx ts) := by
  unfold ltx
  have ln := h.len
  by_cases e : ts = []
  · rw [if_pos e]
    rw [e] at ln
    have : xs = [] := List.length_eq_zero_iff.mp ln.symm
    rw [this] at ha
    exact RpU.list0 ha na
  · rw [if_neg e]
    exact RpU.list ha na (fun z => e (by rw [z] at ln; exact List.length_eq_zero_iff.mp ln)) h
end
end TXL
set_option Elab.async false
set_option linter.all false
set_option maxRecDepth 100000
set_option maxHeartbeats 4000000
/-! RPN: repr's text of a name: the name between two strokes. -/
namespace RPN
open PySem PySem.Spec PyProof.Rows L2
open Builtin Builtin.Str
open SX (S)
theorem char_ok : ∀ c, c < 123 → 97 ≤ c → reprChar 39 c = [c] := by decide +kernel
theorem fold_ok : ∀ (l : List Nat) (acc : List Nat), (∀ c ∈ l, 97 ≤ c ∧ c ≤ 122) → l.foldl (fun (out : Array Nat) c => out ++ (reprChar 39 c).toArray) acc.toArray = (acc ++ l).toArray
  | [], acc, _ => by simp
  | c :: l, acc, h => by
    have hc := h c List.mem_cons_self
    rw [List.foldl_cons, char_ok c (by omega) hc.1]
    have e : acc.toArray ++ [c].toArray = (acc ++ [c]).toArray := by simp
    rw [e, fold_ok l (acc ++ [c]) fun d hd => h d (List.mem_cons_of_mem _ hd)]
    simp
theorem quote_ok {l : List Nat} (h : ∀ c ∈ l, 97 ≤ c ∧ c ≤ 122) : reprQuote (S l) = 39 := by
  have h39 : (39 : Nat) ∉ l := fun z => by have := h 39 z; omega
  unfold reprQuote
  simp [S, h39]
theorem repr_nm {l : List Nat} (ok : NM.ok l) : reprText (S l) = S (39 :: (l ++ [39])) := by
  unfold reprText
  rw [quote_ok ok.2.2]
  show (⟨((S l).cps.foldl (fun out c => out ++ (reprChar 39 c).toArray) #[39]).push 39⟩ : PySem.Str) = _
  rw [← Array.foldl_toList]
  have e := fold_ok (S l).cps.toList [39] ok.2.2
  rw [show (#[39] : Array Nat) = [39].toArray from rfl, e]
  simp [S]
end RPN
set_option Elab.async false
set_option linter.all false
set_option maxRecDepth 100000
set_option maxHeartbeats 4000000
namespace K08
open PySem PySem.Spec PyProof.Rows L2
open C8 (Cal Mak Met pe_c pe_mk pe_mt pe_mt0)
open SX (S)
open HX (hex2 hexd)
/-- what isinstance asks -/
structure IsP (K : PySem.W.Frag) (C : Addr) : Prop where
  ha : PySem.W.findIn K (.ref C) "__class__" = some (some (.builtin "object.__class__"))
  hn : PySem.W.specialIn K (.builtin "object.__class__") "__get__" = some (some (.builtin "getset_descriptor.__get__"))
  htk : PySem.W.takesIn K (.builtin "object.__class__") = some true
  hm : PySem.W.mroIn K C (.type "object") = some true
  kit : PySem.W.kitOne K (.ref C) (.ref C) = some true
  kits : ∀ T ∈ OWQ.ts7, PySem.W.kitOne K (.type T) (.ref C) = some false
/-! ### texts -/
theorem n_len : ∀ n : Fin 128, (TL.numL n.val).length ≤ 3 := by decide +kernel
theorem num_len {n : Nat} (h : n ≤ 127) : (TL.numL n).length ≤ 3 := n_len ⟨n, by omega⟩
theorem hex_S (m : Nat) : hex2 m = S [hexd (m / 16), hexd (m % 16)] := rfl
/-- str(person) -/
def strL (l : List Nat) (s m : Nat) : List Nat := l ++ [32] ++ TL.numL s ++ [32] ++ [hexd (m / 16), hexd (m % 16)]
/-- repr(person) -/
def repL (l : List Nat) (s m : Nat) : List Nat := [80, 101, 114, 115, 111, 110, 40] ++ (39 :: (l ++ [39])) ++ [44, 32] ++ TL.numL s ++ [44, 32] ++ TL.numL m ++ [41]
theorem sl_le {l : List Nat} (h : l.length ≤ 1000) : (S l).length ≤ sizeLine := by
  rw [SX.S_len]
  exact Nat.le_trans h (by decide)
theorem e_sp : Str.ofString " " = S [32] := by decide +kernel
theorem e_cm : Str.ofString ", " = S [44, 32] := by decide +kernel
theorem e_pr : Str.ofString "Person(" = S [80, 101, 114, 115, 111, 110, 40] := by decide +kernel
theorem e_cl : Str.ofString ")" = S [41] := by decide +kernel
theorem e_em : Str.empty = S [] := rfl
theorem e_num (n : Nat) : Str.ofString (toString (n : Int)) = S (TL.numL n) := SX.num_S n
theorem log_sm {n : Nat} (h : n ≤ 127) : (n : Int).natAbs.log2 < 1920 := by
  rw [Int.natAbs_natCast]
  by_cases e : n = 0
  · rw [e]
    decide
  · have : n.log2 < 10 := (Nat.log2_lt e).mpr (by omega)
    omega
section
variable {P : Program} {w : World} {K : PySem.W.Frag} {mg : Str → Option Value} {base : Heap} {f C : Addr} {fd : FuncData}
/-- a Person at p -/
def Pe (C : Addr) (H : Hp) (p : Addr) (l : List Nat) (s m : Nat) : Prop := ∃ dx, H p = some (.ins C dx (peF l s m))
theorem Pe.same {H H' : Hp} {p : Addr} {l : List Nat} {s m : Nat} (h : Pe C H p l s m) (e : Same H H') : Pe C H' p l s m := by
  obtain ⟨dx, h⟩ := h
  exact ⟨dx, e _ _ h⟩
/-- __eq__, its right one -/
inductive Rt (K : PySem.W.Frag) (C : Addr) (H : Hp) (l : List Nat) (s m : Nat) : V → Bool → Prop
  | pe {q : Addr} {l' : List Nat} {s' m' : Nat} : Pe C H q l' s' m' → Rt K C H l s m (.ref q) (decide (l = l' ∧ s = s' ∧ m = m'))
  | th {y : V} {T : String} : T ∈ OWQ.ts7 → TyX K H y (.type T) → Rt K C H l s m y false
def spEq (K : PySem.W.Frag) (C : Addr) : Sp := fun vs H Q _ => ∃ (p : Addr) (y : V) (l : List Nat) (s m : Nat) (r : Bool), vs = [.ref p, y] ∧ Pe C H p l s m ∧ Rt K C H l s m y r ∧ Q (.bl r) H
theorem ok_eq (F : Dn K d_Person_eq f fd) (b : Bl mg) (T : ClP K mg C) (S' : IsP K C) : FnOk P w K mg base CX0 1 f fd ["self", "other"] (spEq K C) := by
  refine F.ok sc_Person_eq (fun vs H Q E h => ?_) (fun cdv A outer s H vs Q E hr h => ?_)
  · obtain ⟨p, y, l, s, m, r, rfl, _⟩ := h
    rfl
  · obtain ⟨p, y, l, n, m, r, rfl, ⟨dp, hp⟩, rt, hQ⟩ := h
    refine ⟨_, PSs.nox (pss_one (ps_ret (pe_and (pe_callB call_isi rfl b.isi boot_isinstance (pa_cons (pv 1) (pa_cons (pe_glob (v := .ref C) rfl T.g rfl) pa_nil)))
      (pe_and (pe_cmpR op_eq (pe_fld (pv 0) rfl) (pe_fld (pv 1) rfl) (nomark _)) (pe_and (pe_cmpR op_eq (pe_fld (pv 0) rfl) (pe_fld (pv 1) rfl) (nomark _)) (pe_one (pe_cmpR op_eq (pe_fld (pv 0) rfl) (pe_fld (pv 1) rfl) (nomark _)))))))), ?_⟩
    cases rt with
    | @th _ T' hT hty =>
      exact ⟨_, rfl, _, _, _, _, false, rfl, ClsV.own C, hty, S'.kits T' hT, false, rfl, iteF hQ⟩
    | @pe q l' n' m' hq =>
      obtain ⟨dq, hq⟩ := hq
      refine ⟨_, rfl, _, _, _, _, true, rfl, ClsV.own C, TyX.base (TyOf.ins hq T.cl S'.ha S'.hn S'.htk S'.hm), S'.kit, true, rfl, iteT ?_⟩
      refine ⟨_, rfl, p, C, dp, _, _, rfl, hp, T.cl, T.nn, pe_name _ _ _, _, rfl, q, C, dq, _, _, rfl, hq, T.cl, T.nn, pe_name _ _ _, rfl, _, rfl, ?_⟩
      refine ite2 (fun h1 => ?_) (fun h1 => ?_)
      · have e1 : l = l' := SX.S_inj (V.str.inj (of_decide_eq_true h1))
        refine ⟨_, rfl, p, C, dp, _, _, rfl, hp, T.cl, T.ns, pe_seats _ _ _, _, rfl, q, C, dq, _, _, rfl, hq, T.cl, T.ns, pe_seats _ _ _, rfl, _, rfl, ?_⟩
        refine ite2 (fun h2 => ?_) (fun h2 => ?_)
        · have e2 : n = n' := by have := V.int.inj (of_decide_eq_true h2); omega
          refine ⟨_, rfl, p, C, dp, _, _, rfl, hp, T.cl, T.nm, pe_mask _ _ _, _, rfl, q, C, dq, _, _, rfl, hq, T.cl, T.nm, pe_mask _ _ _, rfl, ?_⟩
          have e : decide (V.int (m : Int) = V.int (m' : Int)) = decide (l = l' ∧ n = n' ∧ m = m') :=
            decide_eq_decide.mpr ⟨fun z => ⟨e1, e2, by have := V.int.inj z; omega⟩, fun z => by rw [z.2.2]⟩
          rw [e]
          exact hQ
        · have e : decide (l = l' ∧ n = n' ∧ m = m') = false := decide_eq_false fun z => h2 (by rw [z.2.1]; simp)
          rw [e] at hQ
          exact hQ
      · have e : decide (l = l' ∧ n = n' ∧ m = m') = false := decide_eq_false fun z => h1 (by rw [z.1]; simp)
        rw [e] at hQ
        exact hQ
def spTx (C : Addr) (g : List Nat → Nat → Nat → List Nat) : Sp := fun vs H Q _ => ∃ (p : Addr) (l : List Nat) (s m : Nat), vs = [.ref p] ∧ Pe C H p l s m ∧ NM.ok l ∧ s ≤ 9 ∧ m ≤ 127 ∧ Q (.str (S (g l s m))) H
theorem ok_str (F : Dn K d_Person_str f fd) (T : ClP K mg C) (cM : Cal P w K mg base 1 "mask_text" spMt []) : FnOk P w K mg base CX0 2 f fd ["self"] (spTx C strL) := by
  refine F.ok sc_Person_str (fun vs H Q E h => ?_) (fun cdv A outer s H vs Q E hr h => ?_)
  · obtain ⟨p, l, s, m, rfl, _⟩ := h
    rfl
  · obtain ⟨p, l, n, m, rfl, ⟨dp, hp⟩, ok, n9, m7, hQ⟩ := h
    refine ⟨_, PSs.nox (pss_one (ps_ret (pe_joined (.cons (pe_fmt (pe_fld (pv 0) rfl)) (.cons pe_str (.cons (pe_fmt (pe_fld (pv 0) rfl)) (.cons pe_str (.cons (pe_fmt (pe_c cM hr (by decide) rfl (pa_cons (pe_fld (pv 0) rfl) pa_nil))) .nil)))))))), ?_⟩
    have l8 := ok.2.1
    have k1 := num_len (n := n) (by omega)
    have e2 : Str.empty ++ S l = S l := by rw [e_em, SX.S_cat]; rfl
    have e3 : Str.empty ++ S l ++ Str.ofString " " = S (l ++ [32]) := by rw [e2, e_sp, SX.S_cat]
    have e4 : Str.empty ++ S l ++ Str.ofString " " ++ Str.ofString (toString (n : Int)) = S (l ++ [32] ++ TL.numL n) := by rw [e3, e_num, SX.S_cat]
    have e5 : Str.empty ++ S l ++ Str.ofString " " ++ Str.ofString (toString (n : Int)) ++ Str.ofString " " = S (l ++ [32] ++ TL.numL n ++ [32]) := by rw [e4, e_sp, SX.S_cat]
    have e6 : Str.empty ++ S l ++ Str.ofString " " ++ Str.ofString (toString (n : Int)) ++ Str.ofString " " ++ hex2 m = S (strL l n m) := by rw [e5, hex_S, SX.S_cat]; rfl
    refine ⟨_, rfl, p, C, dp, _, _, rfl, hp, T.cl, T.nn, pe_name _ _ _, .inl ⟨_, rfl, sl_le (by omega), _, rfl, ?_, _, rfl, ?_, ?_⟩⟩
    · rw [e2]
      exact sl_le (by omega)
    · show (Str.empty ++ S l ++ Str.ofString " ").length ≤ sizeLine
      rw [e3]
      exact sl_le (by simp; omega)
    refine ⟨_, rfl, p, C, dp, _, _, rfl, hp, T.cl, T.ns, pe_seats _ _ _, .inr ⟨_, rfl, log_sm (by omega), _, rfl, ?_, _, rfl, ?_, ?_⟩⟩
    · show (Str.empty ++ S l ++ Str.ofString " " ++ Str.ofString (toString (n : Int))).length ≤ sizeLine
      rw [e4]
      exact sl_le (by simp; omega)
    · show (Str.empty ++ S l ++ Str.ofString " " ++ Str.ofString (toString (n : Int)) ++ Str.ofString " ").length ≤ sizeLine
      rw [e5]
      exact sl_le (by simp; omega)
    refine ⟨_, rfl, p, C, dp, _, _, rfl, hp, T.cl, T.nm, pe_mask _ _ _, m, rfl, by omega, .inl ⟨_, rfl, by show 2 ≤ sizeLine; decide, _, rfl, ?_, ?_⟩⟩
    · show (Str.empty ++ S l ++ Str.ofString " " ++ Str.ofString (toString (n : Int)) ++ Str.ofString " " ++ hex2 m).length ≤ sizeLine
      rw [e6]
      exact sl_le (by unfold strL; simp; omega)
    · show Q (.str (Str.empty ++ S l ++ Str.ofString " " ++ Str.ofString (toString (n : Int)) ++ Str.ofString " " ++ hex2 m)) H
      rw [e6]
      exact hQ
theorem ok_repr (F : Dn K d_Person_repr f fd) (T : ClP K mg C) : FnOk P w K mg base CX0 1 f fd ["self"] (spTx C repL) := by
  refine F.ok sc_Person_repr (fun vs H Q E h => ?_) (fun cdv A outer s H vs Q E hr h => ?_)
  · obtain ⟨p, l, s, m, rfl, _⟩ := h
    rfl
  · obtain ⟨p, l, n, m, rfl, ⟨dp, hp⟩, ok, n9, m7, hQ⟩ := h
    refine ⟨_, PSs.nox (pss_one (ps_ret (pe_joined (.cons pe_str (.cons (pe_fmtR (pe_fld (pv 0) rfl)) (.cons pe_str (.cons (pe_fmt (pe_fld (pv 0) rfl)) (.cons pe_str (.cons (pe_fmt (pe_fld (pv 0) rfl)) (.cons pe_str .nil)))))))))), ?_⟩
    have l8 := ok.2.1
    have k1 := num_len (n := n) (by omega)
    have k2 := num_len (n := m) (by omega)
    have er := RPN.repr_nm ok
    have e1 : Str.empty ++ Str.ofString "Person(" = S [80, 101, 114, 115, 111, 110, 40] := by rw [e_em, e_pr, SX.S_cat]; rfl
    have e2 : Str.empty ++ Str.ofString "Person(" ++ reprText (S l) = S ([80, 101, 114, 115, 111, 110, 40] ++ (39 :: (l ++ [39]))) := by rw [e1, er, SX.S_cat]
    have e3 : Str.empty ++ Str.ofString "Person(" ++ reprText (S l) ++ Str.ofString ", " = S ([80, 101, 114, 115, 111, 110, 40] ++ (39 :: (l ++ [39])) ++ [44, 32]) := by rw [e2, e_cm, SX.S_cat]
    have e4 : Str.empty ++ Str.ofString "Person(" ++ reprText (S l) ++ Str.ofString ", " ++ Str.ofString (toString (n : Int)) = S ([80, 101, 114, 115, 111, 110, 40] ++ (39 :: (l ++ [39])) ++ [44, 32] ++ TL.numL n) := by rw [e3, e_num, SX.S_cat]
    have e5 : Str.empty ++ Str.ofString "Person(" ++ reprText (S l) ++ Str.ofString ", " ++ Str.ofString (toString (n : Int)) ++ Str.ofString ", " = S ([80, 101, 114, 115, 111, 110, 40] ++ (39 :: (l ++ [39])) ++ [44, 32] ++ TL.numL n ++ [44, 32]) := by rw [e4, e_cm, SX.S_cat]
    have e6 : Str.empty ++ Str.ofString "Person(" ++ reprText (S l) ++ Str.ofString ", " ++ Str.ofString (toString (n : Int)) ++ Str.ofString ", " ++ Str.ofString (toString (m : Int)) = S ([80, 101, 114, 115, 111, 110, 40] ++ (39 :: (l ++ [39])) ++ [44, 32] ++ TL.numL n ++ [44, 32] ++ TL.numL m) := by rw [e5, e_num, SX.S_cat]
    have e7 : Str.empty ++ Str.ofString "Person(" ++ reprText (S l) ++ Str.ofString ", " ++ Str.ofString (toString (n : Int)) ++ Str.ofString ", " ++ Str.ofString (toString (m : Int)) ++ Str.ofString ")" = S (repL l n m) := by rw [e6, e_cl, SX.S_cat]; rfl
    refine ⟨_, rfl, by decide, ?_⟩
    refine ⟨_, rfl, p, C, dp, _, _, rfl, hp, T.cl, T.nn, pe_name _ _ _, .inl ⟨_, rfl, ?_, _, rfl, ?_, _, rfl, ?_, ?_⟩⟩
    · rw [er]
      exact sl_le (by simp; omega)
    · show (Str.empty ++ Str.ofString "Person(" ++ reprText (S l)).length ≤ sizeLine
      rw [e2]
      exact sl_le (by simp; omega)
    · show (Str.empty ++ Str.ofString "Person(" ++ reprText (S l) ++ Str.ofString ", ").length ≤ sizeLine
      rw [e3]
      exact sl_le (by simp; omega)
    refine ⟨_, rfl, p, C, dp, _, _, rfl, hp, T.cl, T.ns, pe_seats _ _ _, .inr ⟨_, rfl, log_sm (by omega), _, rfl, ?_, _, rfl, ?_, ?_⟩⟩
    · show (Str.empty ++ Str.ofString "Person(" ++ reprText (S l) ++ Str.ofString ", " ++ Str.ofString (toString (n : Int))).length ≤ sizeLine
      rw [e4]
      exact sl_le (by simp; omega)
    · show (Str.empty ++ Str.ofString "Person(" ++ reprText (S l) ++ Str.ofString ", " ++ Str.ofString (toString (n : Int)) ++ Str.ofString ", ").length ≤ sizeLine
      rw [e5]
      exact sl_le (by simp; omega)
    refine ⟨_, rfl, p, C, dp, _, _, rfl, hp, T.cl, T.nm, pe_mask _ _ _, .inr ⟨_, rfl, log_sm (by omega), _, rfl, ?_, _, rfl, ?_, ?_⟩⟩
    · show (Str.empty ++ Str.ofString "Person(" ++ reprText (S l) ++ Str.ofString ", " ++ Str.ofString (toString (n : Int)) ++ Str.ofString ", " ++ Str.ofString (toString (m : Int))).length ≤ sizeLine
      rw [e6]
      exact sl_le (by simp; omega)
    · show (Str.empty ++ Str.ofString "Person(" ++ reprText (S l) ++ Str.ofString ", " ++ Str.ofString (toString (n : Int)) ++ Str.ofString ", " ++ Str.ofString (toString (m : Int)) ++ Str.ofString ")").length ≤ sizeLine
      rw [e7]
      exact sl_le (by unfold repL; simp; omega)
    · show Q (.str (Str.empty ++ Str.ofString "Person(" ++ reprText (S l) ++ Str.ofString ", " ++ Str.ofString (toString (n : Int)) ++ Str.ofString ", " ++ Str.ofString (toString (m : Int)) ++ Str.ofString ")")) H
      rw [e7]
      exact hQ
end
end K08
set_option Elab.async false
set_option linter.all false
set_option maxRecDepth 100000
set_option maxHeartbeats 4000000
namespace K08
open PySem PySem.Spec PyProof.Rows L2
open C8 (Cal Mak Met pe_c pe_mk pe_mt pe_mt0)
open TQ
section
variable {P : Program} {w : World} {K : PySem.W.Frag} {mg : Str → Option Value} {base : Heap} {f : Addr} {fd : FuncData}
def spTh : Sp := fun vs H Q _ => vs = [] ∧ ∀ p H' xs, Same H H' → H p = none → H' p = some (.lst xs) → xs.length ≤ 40 → (∀ x ∈ xs, Tq (nw H H') x) → Q (.ref p) H'
theorem ok_th (F : Dn K d_l_things f fd) : FnOk P w K mg base CX0 1 f fd [] spTh := by
  refine F.ok sc_l_things (fun vs H Q E h => ?_) (fun cdv A outer s H vs Q E hr h => ?_)
  · obtain ⟨rfl, _⟩ := h
    rfl
  · obtain ⟨rfl, hQ⟩ := h
    refine ⟨_, PSs.nox (pss_cons (ps_set (i := 0) sc_l_things.nd rfl (.inl rfl) (pe_lst (pa_cons pe_non (pa_cons pe_bl (pa_cons pe_bl (pa_cons pe_int (pa_cons pe_int (pa_cons (pe_un un_neg pe_int) (pa_cons pe_int (pa_cons pe_int (pa_cons pe_int (pa_cons (pe_op op_sub (pe_op op_pow pe_int pe_int) pe_int) (pa_cons pe_str (pa_cons pe_str (pa_cons pe_str (pa_cons pe_str (pa_cons pe_str (pa_cons pe_str (pa_cons pe_str (pa_cons (pe_tup pa_nil) (pa_cons (pe_tup (pa_cons pe_int pa_nil)) (pa_cons (pe_tup (pa_cons pe_int (pa_cons pe_int pa_nil))) pa_nil))))))))))))))))))))))
      (pss_one (ps_ret (pe_op op_cat (pv 0) (pe_lst (pa_cons (pe_lst pa_nil) (pa_cons (pe_lst (pa_cons pe_int pa_nil)) (pa_cons (pe_lst (pa_cons pe_str pa_nil)) (pa_cons (pe_lst (pa_cons (pe_lst pa_nil) pa_nil)) (pa_cons pe_dnewK (pa_cons (pe_disp (pps_cons pe_str pe_int pps_nil) rfl rfl (List.cons_ne_nil _ _) (by decide)) (pa_cons (pe_disp (pps_cons pe_int pe_str pps_nil) rfl rfl (List.cons_ne_nil _ _) (by decide)) (pa_cons (pe_tup (pa_cons pe_str pa_nil)) (pa_cons (pe_tup (pa_cons pe_str (pa_cons pe_str pa_nil))) (pa_cons (pe_tup (pa_cons pe_non (pa_cons pe_bl pa_nil))) (pa_cons (pe_lst (pa_cons (pe_tup (pa_cons (pe_tup (pa_cons pe_str pa_nil)) pa_nil)) pa_nil)) pa_nil)))))))))))))))), ?_⟩
    have sm := Same.refl H
    refine ⟨1, rfl, ?_⟩
    refine ⟨10, 30, rfl, rfl, ⟨by decide, by decide, by decide⟩, 1000000000000000000000000000000, 1, congrArg V.int (by decide +kernel), rfl, ?_⟩
    refine ⟨by show 0 ≤ sizeLine; decide, fun t1 ft1 => ?_⟩
    have s_ : Same H (upd H t1 (.tup [])) := same_new ft1
    have et1 : (upd H t1 (.tup [])) t1 = some (.tup []) := upd_same
    have nt1 : H t1 = none := sm.free ft1
    have sm := sm.trans s_
    generalize upd H t1 (.tup []) = G1 at s_ sm et1  ⊢
    refine ⟨by show 1 ≤ sizeLine; decide, fun t2 ft2 => ?_⟩
    have s_ : Same G1 (upd G1 t2 (.tup [.int 0])) := same_new ft2
    have et2 : (upd G1 t2 (.tup [.int 0])) t2 = some (.tup [.int 0]) := upd_same
    have nt2 : H t2 = none := sm.free ft2
    have et1 := s_ _ _ et1
    have sm := sm.trans s_
    generalize upd G1 t2 (.tup [.int 0]) = G2 at s_ sm et2 et1 ⊢
    refine ⟨by show 2 ≤ sizeLine; decide, fun t3 ft3 => ?_⟩
    have s_ : Same G2 (upd G2 t3 (.tup [.int 1, .int 2])) := same_new ft3
    have et3 : (upd G2 t3 (.tup [.int 1, .int 2])) t3 = some (.tup [.int 1, .int 2]) := upd_same
    have nt3 : H t3 = none := sm.free ft3
    have et1 := s_ _ _ et1
    have et2 := s_ _ _ et2
    have sm := sm.trans s_
    generalize upd G2 t3 (.tup [.int 1, .int 2]) = G3 at s_ sm et3 et1 et2 ⊢
    refine ⟨by show 20 ≤ sizeLine; decide, fun pa fpa => ?_⟩
    have s_ : Same G3 (upd G3 pa (.lst [.non, .bl true, .bl false, .int 0, .int 1, .int (-1), .int 7, .int 31, .int 128, .int (1000000000000000000000000000000 - 1), .str "", .str "a", .str "0", .str "1f", .str " ", .str "A", .str "\n", .ref t1, .ref t2, .ref t3])) := same_new fpa
    have epa : (upd G3 pa (.lst [.non, .bl true, .bl false, .int 0, .int 1, .int (-1), .int 7, .int 31, .int 128, .int (1000000000000000000000000000000 - 1), .str "", .str "a", .str "0", .str "1f", .str " ", .str "A", .str "\n", .ref t1, .ref t2, .ref t3])) pa = some (.lst [.non, .bl true, .bl false, .int 0, .int 1, .int (-1), .int 7, .int 31, .int 128, .int (1000000000000000000000000000000 - 1), .str "", .str "a", .str "0", .str "1f", .str " ", .str "A", .str "\n", .ref t1, .ref t2, .ref t3]) := upd_same
    have npa : H pa = none := sm.free fpa
    have et1 := s_ _ _ et1
    have et2 := s_ _ _ et2
    have et3 := s_ _ _ et3
    have sm := sm.trans s_
    generalize upd G3 pa (.lst [.non, .bl true, .bl false, .int 0, .int 1, .int (-1), .int 7, .int 31, .int 128, .int (1000000000000000000000000000000 - 1), .str "", .str "a", .str "0", .str "1f", .str " ", .str "A", .str "\n", .ref t1, .ref t2, .ref t3]) = G4 at s_ sm epa et1 et2 et3 ⊢
    refine ⟨_, rfl, ?_⟩
    refine ⟨by show 0 ≤ sizeLine; decide, fun t4 ft4 => ?_⟩
    have s_ : Same G4 (upd G4 t4 (.lst [])) := same_new ft4
    have et4 : (upd G4 t4 (.lst [])) t4 = some (.lst []) := upd_same
    have nt4 : H t4 = none := sm.free ft4
    have et1 := s_ _ _ et1
    have et2 := s_ _ _ et2
    have et3 := s_ _ _ et3
    have epa := s_ _ _ epa
    have sm := sm.trans s_
    generalize upd G4 t4 (.lst []) = G5 at s_ sm et4 et1 et2 et3 epa ⊢
    refine ⟨by show 1 ≤ sizeLine; decide, fun t5 ft5 => ?_⟩
    have s_ : Same G5 (upd G5 t5 (.lst [.int 0])) := same_new ft5
    have et5 : (upd G5 t5 (.lst [.int 0])) t5 = some (.lst [.int 0]) := upd_same
    have nt5 : H t5 = none := sm.free ft5
    have et1 := s_ _ _ et1
    have et2 := s_ _ _ et2
    have et3 := s_ _ _ et3
    have epa := s_ _ _ epa
    have et4 := s_ _ _ et4
    have sm := sm.trans s_
    generalize upd G5 t5 (.lst [.int 0]) = G6 at s_ sm et5 et1 et2 et3 epa et4 ⊢
    refine ⟨by show 1 ≤ sizeLine; decide, fun t6 ft6 => ?_⟩
    have s_ : Same G6 (upd G6 t6 (.lst [.str "a"])) := same_new ft6
    have et6 : (upd G6 t6 (.lst [.str "a"])) t6 = some (.lst [.str "a"]) := upd_same
    have nt6 : H t6 = none := sm.free ft6
    have et1 := s_ _ _ et1
    have et2 := s_ _ _ et2
    have et3 := s_ _ _ et3
    have epa := s_ _ _ epa
    have et4 := s_ _ _ et4
    have et5 := s_ _ _ et5
    have sm := sm.trans s_
    generalize upd G6 t6 (.lst [.str "a"]) = G7 at s_ sm et6 et1 et2 et3 epa et4 et5 ⊢
    refine ⟨by show 0 ≤ sizeLine; decide, fun t7 ft7 => ?_⟩
    have s_ : Same G7 (upd G7 t7 (.lst [])) := same_new ft7
    have et7 : (upd G7 t7 (.lst [])) t7 = some (.lst []) := upd_same
    have nt7 : H t7 = none := sm.free ft7
    have et1 := s_ _ _ et1
    have et2 := s_ _ _ et2
    have et3 := s_ _ _ et3
    have epa := s_ _ _ epa
    have et4 := s_ _ _ et4
    have et5 := s_ _ _ et5
    have et6 := s_ _ _ et6
    have sm := sm.trans s_
    generalize upd G7 t7 (.lst []) = G8 at s_ sm et7 et1 et2 et3 epa et4 et5 et6 ⊢
    refine ⟨by show 1 ≤ sizeLine; decide, fun t8 ft8 => ?_⟩
    have s_ : Same G8 (upd G8 t8 (.lst [.ref t7])) := same_new ft8
    have et8 : (upd G8 t8 (.lst [.ref t7])) t8 = some (.lst [.ref t7]) := upd_same
    have nt8 : H t8 = none := sm.free ft8
    have et1 := s_ _ _ et1
    have et2 := s_ _ _ et2
    have et3 := s_ _ _ et3
    have epa := s_ _ _ epa
    have et4 := s_ _ _ et4
    have et5 := s_ _ _ et5
    have et6 := s_ _ _ et6
    have et7 := s_ _ _ et7
    have sm := sm.trans s_
    generalize upd G8 t8 (.lst [.ref t7]) = G9 at s_ sm et8 et1 et2 et3 epa et4 et5 et6 et7 ⊢
    intro t9 ft9
    have s_ : Same G9 (upd G9 t9 (.dK [])) := same_new ft9
    have et9 : (upd G9 t9 (.dK [])) t9 = some (.dK []) := upd_same
    have nt9 : H t9 = none := sm.free ft9
    have et1 := s_ _ _ et1
    have et2 := s_ _ _ et2
    have et3 := s_ _ _ et3
    have epa := s_ _ _ epa
    have et4 := s_ _ _ et4
    have et5 := s_ _ _ et5
    have et6 := s_ _ _ et6
    have et7 := s_ _ _ et7
    have et8 := s_ _ _ et8
    have sm := sm.trans s_
    generalize upd G9 t9 (.dK []) = G10 at s_ sm et9 et1 et2 et3 epa et4 et5 et6 et7 et8 ⊢
    intro t10 ft10
    refine ⟨upd_same, ([((Sum.inr "a" : Key), V.int 1)] : List (Key × V)), rfl, by show 1 ≤ _; decide, ?_⟩
    rw [show mergeK [] ([((Sum.inr "a" : Key), V.int 1)] : List (Key × V)) = [((Sum.inr "a" : Key), V.int 1)] from rfl]
    have s_ : Same G10 (upd (upd G10 t10 (.dK [])) t10 (.dK [((Sum.inr "a" : Key), V.int 1)])) := fun b o e => by rw [upd_ne (ne_of_none e ft10), upd_ne (ne_of_none e ft10)]; exact e
    have et10 : (upd (upd G10 t10 (.dK [])) t10 (.dK [((Sum.inr "a" : Key), V.int 1)])) t10 = some (.dK [((Sum.inr "a" : Key), V.int 1)]) := upd_same
    have nt10 : H t10 = none := sm.free ft10
    have et1 := s_ _ _ et1
    have et2 := s_ _ _ et2
    have et3 := s_ _ _ et3
    have epa := s_ _ _ epa
    have et4 := s_ _ _ et4
    have et5 := s_ _ _ et5
    have et6 := s_ _ _ et6
    have et7 := s_ _ _ et7
    have et8 := s_ _ _ et8
    have et9 := s_ _ _ et9
    have sm := sm.trans s_
    generalize upd (upd G10 t10 (.dK [])) t10 (.dK [((Sum.inr "a" : Key), V.int 1)]) = G11 at s_ sm et10 et1 et2 et3 epa et4 et5 et6 et7 et8 et9 ⊢
    intro t11 ft11
    refine ⟨upd_same, ([((Sum.inl 0 : Key), V.str "a")] : List (Key × V)), rfl, by show 1 ≤ _; decide, ?_⟩
    rw [show mergeK [] ([((Sum.inl 0 : Key), V.str "a")] : List (Key × V)) = [((Sum.inl 0 : Key), V.str "a")] from rfl]
    have s_ : Same G11 (upd (upd G11 t11 (.dK [])) t11 (.dK [((Sum.inl 0 : Key), V.str "a")])) := fun b o e => by rw [upd_ne (ne_of_none e ft11), upd_ne (ne_of_none e ft11)]; exact e
    have et11 : (upd (upd G11 t11 (.dK [])) t11 (.dK [((Sum.inl 0 : Key), V.str "a")])) t11 = some (.dK [((Sum.inl 0 : Key), V.str "a")]) := upd_same
    have nt11 : H t11 = none := sm.free ft11
    have et1 := s_ _ _ et1
    have et2 := s_ _ _ et2
    have et3 := s_ _ _ et3
    have epa := s_ _ _ epa
    have et4 := s_ _ _ et4
    have et5 := s_ _ _ et5
    have et6 := s_ _ _ et6
    have et7 := s_ _ _ et7
    have et8 := s_ _ _ et8
    have et9 := s_ _ _ et9
    have et10 := s_ _ _ et10
    have sm := sm.trans s_
    generalize upd (upd G11 t11 (.dK [])) t11 (.dK [((Sum.inl 0 : Key), V.str "a")]) = G12 at s_ sm et11 et1 et2 et3 epa et4 et5 et6 et7 et8 et9 et10 ⊢
    refine ⟨by show 1 ≤ sizeLine; decide, fun t12 ft12 => ?_⟩
    have s_ : Same G12 (upd G12 t12 (.tup [.str "a"])) := same_new ft12
    have et12 : (upd G12 t12 (.tup [.str "a"])) t12 = some (.tup [.str "a"]) := upd_same
    have nt12 : H t12 = none := sm.free ft12
    have et1 := s_ _ _ et1
    have et2 := s_ _ _ et2
    have et3 := s_ _ _ et3
    have epa := s_ _ _ epa
    have et4 := s_ _ _ et4
    have et5 := s_ _ _ et5
    have et6 := s_ _ _ et6
    have et7 := s_ _ _ et7
    have et8 := s_ _ _ et8
    have et9 := s_ _ _ et9
    have et10 := s_ _ _ et10
    have et11 := s_ _ _ et11
    have sm := sm.trans s_
    generalize upd G12 t12 (.tup [.str "a"]) = G13 at s_ sm et12 et1 et2 et3 epa et4 et5 et6 et7 et8 et9 et10 et11 ⊢
    refine ⟨by show 2 ≤ sizeLine; decide, fun t13 ft13 => ?_⟩
    have s_ : Same G13 (upd G13 t13 (.tup [.str "1", .str "f"])) := same_new ft13
    have et13 : (upd G13 t13 (.tup [.str "1", .str "f"])) t13 = some (.tup [.str "1", .str "f"]) := upd_same
    have nt13 : H t13 = none := sm.free ft13
    have et1 := s_ _ _ et1
    have et2 := s_ _ _ et2
    have et3 := s_ _ _ et3
    have epa := s_ _ _ epa
    have et4 := s_ _ _ et4
    have et5 := s_ _ _ et5
    have et6 := s_ _ _ et6
    have et7 := s_ _ _ et7
    have et8 := s_ _ _ et8
    have et9 := s_ _ _ et9
    have et10 := s_ _ _ et10
    have et11 := s_ _ _ et11
    have et12 := s_ _ _ et12
    have sm := sm.trans s_
    generalize upd G13 t13 (.tup [.str "1", .str "f"]) = G14 at s_ sm et13 et1 et2 et3 epa et4 et5 et6 et7 et8 et9 et10 et11 et12 ⊢
    refine ⟨by show 2 ≤ sizeLine; decide, fun t14 ft14 => ?_⟩
    have s_ : Same G14 (upd G14 t14 (.tup [.non, .bl true])) := same_new ft14
    have et14 : (upd G14 t14 (.tup [.non, .bl true])) t14 = some (.tup [.non, .bl true]) := upd_same
    have nt14 : H t14 = none := sm.free ft14
    have et1 := s_ _ _ et1
    have et2 := s_ _ _ et2
    have et3 := s_ _ _ et3
    have epa := s_ _ _ epa
    have et4 := s_ _ _ et4
    have et5 := s_ _ _ et5
    have et6 := s_ _ _ et6
    have et7 := s_ _ _ et7
    have et8 := s_ _ _ et8
    have et9 := s_ _ _ et9
    have et10 := s_ _ _ et10
    have et11 := s_ _ _ et11
    have et12 := s_ _ _ et12
    have et13 := s_ _ _ et13
    have sm := sm.trans s_
    generalize upd G14 t14 (.tup [.non, .bl true]) = G15 at s_ sm et14 et1 et2 et3 epa et4 et5 et6 et7 et8 et9 et10 et11 et12 et13 ⊢
    refine ⟨by show 1 ≤ sizeLine; decide, fun t15 ft15 => ?_⟩
    have s_ : Same G15 (upd G15 t15 (.tup [.str "a"])) := same_new ft15
    have et15 : (upd G15 t15 (.tup [.str "a"])) t15 = some (.tup [.str "a"]) := upd_same
    have nt15 : H t15 = none := sm.free ft15
    have et1 := s_ _ _ et1
    have et2 := s_ _ _ et2
    have et3 := s_ _ _ et3
    have epa := s_ _ _ epa
    have et4 := s_ _ _ et4
    have et5 := s_ _ _ et5
    have et6 := s_ _ _ et6
    have et7 := s_ _ _ et7
    have et8 := s_ _ _ et8
    have et9 := s_ _ _ et9
    have et10 := s_ _ _ et10
    have et11 := s_ _ _ et11
    have et12 := s_ _ _ et12
    have et13 := s_ _ _ et13
    have et14 := s_ _ _ et14
    have sm := sm.trans s_
    generalize upd G15 t15 (.tup [.str "a"]) = G16 at s_ sm et15 et1 et2 et3 epa et4 et5 et6 et7 et8 et9 et10 et11 et12 et13 et14 ⊢
    refine ⟨by show 1 ≤ sizeLine; decide, fun t16 ft16 => ?_⟩
    have s_ : Same G16 (upd G16 t16 (.tup [.ref t15])) := same_new ft16
    have et16 : (upd G16 t16 (.tup [.ref t15])) t16 = some (.tup [.ref t15]) := upd_same
    have nt16 : H t16 = none := sm.free ft16
    have et1 := s_ _ _ et1
    have et2 := s_ _ _ et2
    have et3 := s_ _ _ et3
    have epa := s_ _ _ epa
    have et4 := s_ _ _ et4
    have et5 := s_ _ _ et5
    have et6 := s_ _ _ et6
    have et7 := s_ _ _ et7
    have et8 := s_ _ _ et8
    have et9 := s_ _ _ et9
    have et10 := s_ _ _ et10
    have et11 := s_ _ _ et11
    have et12 := s_ _ _ et12
    have et13 := s_ _ _ et13
    have et14 := s_ _ _ et14
    have et15 := s_ _ _ et15
    have sm := sm.trans s_
    generalize upd G16 t16 (.tup [.ref t15]) = G17 at s_ sm et16 et1 et2 et3 epa et4 et5 et6 et7 et8 et9 et10 et11 et12 et13 et14 et15 ⊢
    refine ⟨by show 1 ≤ sizeLine; decide, fun t17 ft17 => ?_⟩
    have s_ : Same G17 (upd G17 t17 (.lst [.ref t16])) := same_new ft17
    have et17 : (upd G17 t17 (.lst [.ref t16])) t17 = some (.lst [.ref t16]) := upd_same
    have nt17 : H t17 = none := sm.free ft17
    have et1 := s_ _ _ et1
    have et2 := s_ _ _ et2
    have et3 := s_ _ _ et3
    have epa := s_ _ _ epa
    have et4 := s_ _ _ et4
    have et5 := s_ _ _ et5
    have et6 := s_ _ _ et6
    have et7 := s_ _ _ et7
    have et8 := s_ _ _ et8
    have et9 := s_ _ _ et9
    have et10 := s_ _ _ et10
    have et11 := s_ _ _ et11
    have et12 := s_ _ _ et12
    have et13 := s_ _ _ et13
    have et14 := s_ _ _ et14
    have et15 := s_ _ _ et15
    have et16 := s_ _ _ et16
    have sm := sm.trans s_
    generalize upd G17 t17 (.lst [.ref t16]) = G18 at s_ sm et17 et1 et2 et3 epa et4 et5 et6 et7 et8 et9 et10 et11 et12 et13 et14 et15 et16 ⊢
    refine ⟨by show 11 ≤ sizeLine; decide, fun pb fpb => ?_⟩
    have s_ : Same G18 (upd G18 pb (.lst [.ref t4, .ref t5, .ref t6, .ref t8, .ref t9, .ref t10, .ref t11, .ref t12, .ref t13, .ref t14, .ref t17])) := same_new fpb
    have epb : (upd G18 pb (.lst [.ref t4, .ref t5, .ref t6, .ref t8, .ref t9, .ref t10, .ref t11, .ref t12, .ref t13, .ref t14, .ref t17])) pb = some (.lst [.ref t4, .ref t5, .ref t6, .ref t8, .ref t9, .ref t10, .ref t11, .ref t12, .ref t13, .ref t14, .ref t17]) := upd_same
    have npb : H pb = none := sm.free fpb
    have et1 := s_ _ _ et1
    have et2 := s_ _ _ et2
    have et3 := s_ _ _ et3
    have epa := s_ _ _ epa
    have et4 := s_ _ _ et4
    have et5 := s_ _ _ et5
    have et6 := s_ _ _ et6
    have et7 := s_ _ _ et7
    have et8 := s_ _ _ et8
    have et9 := s_ _ _ et9
    have et10 := s_ _ _ et10
    have et11 := s_ _ _ et11
    have et12 := s_ _ _ et12
    have et13 := s_ _ _ et13
    have et14 := s_ _ _ et14
    have et15 := s_ _ _ et15
    have et16 := s_ _ _ et16
    have et17 := s_ _ _ et17
    have sm := sm.trans s_
    generalize upd G18 pb (.lst [.ref t4, .ref t5, .ref t6, .ref t8, .ref t9, .ref t10, .ref t11, .ref t12, .ref t13, .ref t14, .ref t17]) = G19 at s_ sm epb et1 et2 et3 epa et4 et5 et6 et7 et8 et9 et10 et11 et12 et13 et14 et15 et16 et17 ⊢
    refine ⟨pa, pb, _, _, rfl, rfl, epa, epb, by show 31 ≤ sizeLine; decide, fun pc fpc => ?_⟩
    have s_ := same_new (o := .lst ([.non, .bl true, .bl false, .int 0, .int 1, .int (-1), .int 7, .int 31, .int 128, .int (1000000000000000000000000000000 - 1), .str "", .str "a", .str "0", .str "1f", .str " ", .str "A", .str "\n", .ref t1, .ref t2, .ref t3] ++ [.ref t4, .ref t5, .ref t6, .ref t8, .ref t9, .ref t10, .ref t11, .ref t12, .ref t13, .ref t14, .ref t17])) fpc
    refine hQ pc _ _ (sm.trans s_) (sm.free fpc) upd_same (by show 31 ≤ 40; decide) (TqAll.mem ?_)
    refine .cons Tq.non ?_
    refine .cons Tq.bl ?_
    refine .cons Tq.bl ?_
    refine .cons Tq.int ?_
    refine .cons Tq.int ?_
    refine .cons Tq.int ?_
    refine .cons Tq.int ?_
    refine .cons Tq.int ?_
    refine .cons Tq.int ?_
    refine .cons Tq.int ?_
    refine .cons Tq.str ?_
    refine .cons Tq.str ?_
    refine .cons Tq.str ?_
    refine .cons Tq.str ?_
    refine .cons Tq.str ?_
    refine .cons Tq.str ?_
    refine .cons Tq.str ?_
    refine .cons (Tq.tup (nw_at (s_ _ _ et1) nt1)) ?_
    refine .cons (Tq.tup (nw_at (s_ _ _ et2) nt2)) ?_
    refine .cons (Tq.tup (nw_at (s_ _ _ et3) nt3)) ?_
    refine .cons (Tq.lst (nw_at (s_ _ _ et4) nt4)) ?_
    refine .cons (Tq.lst (nw_at (s_ _ _ et5) nt5)) ?_
    refine .cons (Tq.lst (nw_at (s_ _ _ et6) nt6)) ?_
    refine .cons (Tq.lst (nw_at (s_ _ _ et8) nt8)) ?_
    refine .cons (Tq.dct (nw_at (s_ _ _ et9) nt9)) ?_
    refine .cons (Tq.dct (nw_at (s_ _ _ et10) nt10)) ?_
    refine .cons (Tq.dct (nw_at (s_ _ _ et11) nt11)) ?_
    refine .cons (Tq.tup (nw_at (s_ _ _ et12) nt12)) ?_
    refine .cons (Tq.tup (nw_at (s_ _ _ et13) nt13)) ?_
    refine .cons (Tq.tup (nw_at (s_ _ _ et14) nt14)) ?_
    refine .cons (Tq.lst (nw_at (s_ _ _ et17) nt17)) ?_
    exact .nil
end
end K08
set_option Elab.async false
set_option linter.all false
set_option maxRecDepth 100000
set_option maxHeartbeats 4000000
/-! GE: a law's end by a promise that is asked only where no repr is under way. -/
namespace GL
open PySem PySem.Spec PyProof.Rows L2
theorem lawG {P : Program} {w : World} {K : PySem.W.Frag} {mg mb : Str → Option Value} {k : Nat} {fa a : Addr} {fd : FuncData} {x : Str} {sp : Sp} {s₁ : Shared} {vs : List Value} {ns : List Int}
    (KX : K.In s₁.heap) (hns : s₁.heap.Ns mainGlobals mg) (hb : s₁.heap.Ns builtinsNs mb) (hbb : ∀ x : Str, x ≠ "__name__" → mb x = bootBuiltins x) (hlim : s₁.heap.NoLimit) (hg : s₁.gens = #[])
    (ha : s₁.heap.get? a = some { cls := .type "list", data := .seq vs.toArray }) (hi : IntsAre vs ns) (hl : ns.length ≤ sizeLine) (hr : Room k callerA)
    (F : ∀ base : Heap, K.In base → base.Ns mainGlobals mg → FnG P w K mg base k fa fd [x] sp) (hbind : ∀ (s : Shared) (u : Value), BindsTo s fd ⟨[u], []⟩ [(x, u)])
    (hsp : ∀ H : Hp, SqL K H a (ns.map V.int) → sp [.ref a] H (fun v _ => v = .bl true) fun _ _ _ => False) :
    codeAny (model P w) callerA (.call (.ref fa) ⟨[.ref a], []⟩) (fun r s' => r = .ok (.ret (.bool true)) ∧ OldK s₁.heap s'.heap ∧ s'.os = s₁.os ∧ AllBare s'.gens) s₁ := by
  -- the script alone is tracked, as it is, or nothing
  have from_ : ∀ H : Hp, SqL K H a (ns.map V.int) → HOk P w H s₁.heap → (∀ b u, H b = some u → b = a ∧ K.lookup a = none ∧ ∃ o xs, u = .frz o (.lst xs)) →
      codeAny (model P w) callerA (.call (.ref fa) ⟨[.ref a], []⟩) (fun r s' => r = .ok (.ret (.bool true)) ∧ OldK s₁.heap s'.heap ∧ s'.os = s₁.os ∧ AllBare s'.gens) s₁ := by
    intro H hS hok hA
    have off : ∀ b, (b = a → K.lookup a ≠ none) → H b = none := fun b n => by
      cases q : H b with
      | none => rfl
      | some u => exact absurd (hA b u q).2.1 (n (hA b u q).1)
    have nsK : ∀ {b : Addr} {m : Str → Option Value}, s₁.heap.Ns b m → (hidT s₁.heap H).Ns b m := by
      rintro b m ⟨o, es, ep, e, d, r⟩
      refine ⟨o, es, ep, hidT_get e (off b fun z => ?_), d, r⟩
      subst z
      rw [ha] at e
      cases e
      cases d
    have inK : K.In (hidT s₁.heap H) := fun b o e => hidT_get (KX b o e) (off b fun z => by rw [← z, e]; simp)
    have hM : Mod K mg (hidT s₁.heap H) := ⟨inK, nsK hns, ⟨mb, nsK hb, hbb⟩, by obtain ⟨mc, h1, h2⟩ := hlim; exact ⟨mc, nsK h1, h2⟩⟩
    have nofr : ∀ b : Addr, b ∉ frs ([] : List Env) := fun b z => nomatch z
    have e0 : Env0 P w K mg (hidT s₁.heap H) callerA [] s₁ H := ⟨rfl, hM, fun b o e => of_hidT e, Nat.le_of_eq (hidT_size _ _), trivial, fun b z => absurd z (nofr b), hok, .of_eq hg⟩
    refine codeAny_mono ((F _ inK (nsK hns)).run callerA [] s₁ H ⟨[.ref a], []⟩ [.ref a] [.ref a] _ _ rfl hr e0 (hbind s₁ (.ref a)) (.cons rfl .nil) (hsp H hS)) fun r s' h => ?_
    match r, h with
    | .error e, h => exact False.elim h
    | .ok .next, h => exact False.elim h
    | .ok .brk, h => exact False.elim h
    | .ok .cont, h => exact False.elim h
    | .ok (.ret u), ⟨v, H', os, bare, un, hok', r', q⟩ =>
      cases (show v = .bl true from q)
      cases (show u = Value.bool true from r')
      refine ⟨rfl, OldK.of_keep fun b o e => ?_, os, bare⟩
      cases q : H b with
      | none => exact un.keep b o e q (nofr b) (by simp)
      | some u =>
        obtain ⟨_, _, ob, xs, rfl⟩ := hA b u q
        have e1 := (hok b _ q).1
        have e2 := (hok' b _ (un.frzs b ob _ q)).1
        rw [e] at e1
        cases e1
        exact e2
  have rv := vals_ints hi
  cases hk : K.lookup a with
  | some o =>
    have e := KX a o hk
    rw [ha] at e
    cases e
    exact from_ (fun _ => none) (.inr ⟨_, vs.toArray, _, hk, rfl, rfl, rfl, by rw [List.size_toArray, hi.length]; exact hl, by simpa using rv⟩) (fun b u z => nomatch z) (fun b u z => nomatch z)
  | none =>
    have at_ : ∀ (b : Addr) (u : HO), (if b = a then some (HO.frz { cls := .type "list", data := .seq vs.toArray } (.lst (ns.map V.int))) else none) = some u → b = a ∧ u = HO.frz { cls := .type "list", data := .seq vs.toArray } (.lst (ns.map V.int)) := fun b u z => by
      by_cases h : b = a
      · rw [if_pos h] at z
        exact ⟨h, (Option.some.inj z).symm⟩
      · rw [if_neg h] at z
        cases z
    refine from_ (fun b => if b = a then some (.frz { cls := .type "list", data := .seq vs.toArray } (.lst (ns.map V.int))) else none) (.inl (.inr ⟨{ cls := .type "list", data := .seq vs.toArray }, if_pos rfl⟩)) (fun b u z => ?_) (fun b u z => ?_)
    · obtain ⟨rfl, rfl⟩ := at_ b u z
      exact ⟨ha, by rw [List.length_map]; exact hl, vs, _, rv, ha⟩
    · obtain ⟨rfl, rfl⟩ := at_ b u z
      exact ⟨rfl, hk, _, _, rfl⟩
/-- a law: F gives the written part, the function object, the promise over every base -/
theorem walkG {l : PySem.W.OpenLaw} {n k : Nat} {q : Program} {loose : List Str} {XP : (Str → Option Value) → Heap → Prop} {YP : World → Heap → Prop} {d : DefRec} {x : Str} (hn : l.most = some n) (hn2 : n ≤ sizeLine) (hdf : d.params.defaults = []) (hr : Room k callerA)
    (F : ∀ (w : World) (mg : Str → Option Value) (fa : Addr) (h : Heap), YP w h → h.Ns mainGlobals mg → mg d.name = some (.ref fa) →
      ∃ (K : PySem.W.Frag) (fd : FuncData) (sp : Sp), K.In h ∧ (∀ (s : Shared) (u : Value), BindsTo s fd ⟨[u], []⟩ [(x, u)]) ∧
        (∀ (H : Hp) (a : Addr) (ns : List Int), ns.length ≤ n → SqL K H a (ns.map V.int) → sp [.ref a] H (fun v _ => v = .bl true) fun _ _ _ => False) ∧
        ∀ base : Heap, K.In base → base.Ns mainGlobals mg → FnG l.prog w K mg base k fa fd [x] sp) : PySem.W.WalkO q loose XP YP l.row.toRowW d [] (fun f vs => PySem.call f vs) := by
  refine Att.attach_call hn hdf fun w s₀ s₁ mg mb fa o pm cd doc a vs ns G Y ho hd hcd hmg hobj hints hlen hg => ?_
  obtain ⟨K, fd, sp, KX, hb, hsp, hF⟩ := F w mg fa _ Y G.T.g hmg
  exact lawG KX G.T.g G.T.b G.T.builtins G.T.nolimit hg hobj hints (Nat.le_trans hlen hn2) hr hF hb fun H hS => hsp H a ns hlen hS
end GL
set_option Elab.async false
set_option linter.all false
set_option maxRecDepth 100000
set_option maxHeartbeats 4000000
namespace K08
open PySem PySem.Spec PyProof.Rows L2
open C8 (Cal Mak Met pe_c pe_mk pe_mt pe_mt0)
open SX (S)
open OWQ TQ RPO
theorem pe_inj {l l' : List Nat} {s s' m m' : Nat} (e : peF l s m = peF l' s' m') : l = l' ∧ s = s' ∧ m = m' := by
  have e1 := (pe_name l s m).symm.trans ((congrArg (List.lookup ("name" : Str)) e).trans (pe_name l' s' m'))
  have e2 := (pe_seats l s m).symm.trans ((congrArg (List.lookup ("seats" : Str)) e).trans (pe_seats l' s' m'))
  have e3 := (pe_mask l s m).symm.trans ((congrArg (List.lookup ("mask" : Str)) e).trans (pe_mask l' s' m'))
  refine ⟨SX.S_inj (V.str.inj (Option.some.inj e1)), ?_, ?_⟩
  · have := V.int.inj (Option.some.inj e2)
    omega
  · have := V.int.inj (Option.some.inj e3)
    omega
/-- what a Person is compared with -/
inductive Oth (C : Addr) (H : Hp) (l : List Nat) (s m : Nat) : V → Bool → Prop
  | pe {q : Addr} {l' : List Nat} {s' m' : Nat} : Pe C H q l' s' m' → Oth C H l s m (.ref q) (decide (l = l' ∧ s = s' ∧ m = m'))
  | th {y : V} : Tq H y → Oth C H l s m y false
theorem Oth.same {C : Addr} {H H' : Hp} {l : List Nat} {s m : Nat} {y : V} {r : Bool} (h : Oth C H l s m y r) (e : Same H H') : Oth C H' l s m y r := by
  cases h with
  | pe h => exact .pe (h.same e)
  | th h => exact .th (h.same e)
section
variable {X : Cx} {C a : Addr} {H : Hp} {l : List Nat} {s m : Nat} {y : V} {r : Bool}
theorem Oth.cm (o : Oth C H l s m y r) (h : Pe C H a l s m) (Sp : OW.Spc X.prog X.w X.K X.mg X.base 1 C "__eq__" (spEq X.K C)) (oc : OwnC X.K C) : Cm X 2 (.ref a) y H r ∧ Cm X 2 y (.ref a) H r := by
  obtain ⟨dx, ha⟩ := h
  cases o with
  | @pe q l' s' m' hq =>
    obtain ⟨dq, hq⟩ := hq
    refine ⟨Cm.two Sp oc ha hq (fun H1 e => ⟨a, .ref q, l, s, m, _, rfl, ⟨dx, e _ _ ha⟩, .pe ⟨dq, e _ _ hq⟩, rfl, Ext.rfl'⟩) fun z => ?_, Cm.two Sp oc hq ha (fun H1 e => ⟨q, .ref a, l', s', m', decide (l' = l ∧ s' = s ∧ m' = m), rfl, ⟨dq, e _ _ hq⟩, .pe ⟨dx, e _ _ ha⟩, ?_, Ext.rfl'⟩) fun z => ?_⟩
    · rw [z, hq] at ha
      have e := pe_inj (HO.ins.inj (Option.some.inj ha)).2.2
      exact decide_eq_true ⟨e.1.symm, e.2.1.symm, e.2.2.symm⟩
    · refine congrArg V.bl (decide_eq_decide.mpr ⟨fun z => ⟨z.1.symm, z.2.1.symm, z.2.2.symm⟩, fun z => ⟨z.1.symm, z.2.1.symm, z.2.2.symm⟩⟩)
    · rw [z, ha] at hq
      have e := pe_inj (HO.ins.inj (Option.some.inj hq)).2.2
      exact decide_eq_true ⟨e.1, e.2.1, e.2.2⟩
  | th t =>
    have ask : Ask (spEq X.K C) H a y false := fun H1 e => by
      obtain ⟨T, hT, ty⟩ := t.ty X.K H1 e
      exact ⟨a, y, l, s, m, false, rfl, ⟨dx, e _ _ ha⟩, .th hT ty, rfl, Ext.rfl'⟩
    exact ⟨Cm.own Sp oc ha (t.tk _ _ (Same.refl H)) ask, Cm.back Sp oc ha (t.tk _ _ (Same.refl H)) ask⟩
end
def tb (r : Bool) : Str := if r then "True" else "False"
theorem tb_len (r : Bool) : (listText (List.replicate 6 (tb r))).length ≤ sizeLine := by
  cases r <;> exact Nat.le_trans (by decide +kernel : _ ≤ 1000) (by decide)
section
variable {P : Program} {w : World} {K : PySem.W.Frag} {mg : Str → Option Value} {base : Heap} {f C : Addr} {fd : FuncData}
def spIs (C : Addr) : Sp := fun vs H Q _ => ∃ (a : Addr) (y : V) (r : Bool) (l : List Nat) (s m : Nat), vs = [.ref a, y, .bl r] ∧ Pe C H a l s m ∧ Oth C H l s m y r ∧ ∀ H', Same H H' → Q (.bl true) H'
theorem ok_is (F : Dn K d_l_is_one f fd) (brep : mg "repr" = none) (Sp : OW.Spc P w K mg base 1 C "__eq__" (spEq K C)) (oc : OwnC K C) : GL.FnG P w K mg base 5 f fd ["_law_one", "_law_other_here", "_law_is_due"] (spIs C) := by
  refine GL.okG F sc_l_is_one (fun vs H Q E h => ?_) (fun cdv A outer s H vs Q E hgd hr h => ?_)
  · obtain ⟨_, _, _, _, _, _, rfl, _⟩ := h
    rfl
  · obtain ⟨a, y, r, l, n, m, rfl, pa, ot, hQ⟩ := h
    have hgd2 : (A.deeper (envOfC d_l_is_one.qual d_l_is_one.scope s.heap.objs.size f cdv)).guards = some [] := hgd
    have r2 : Room 2 (A.deeper (envOfC d_l_is_one.qual d_l_is_one.scope s.heap.objs.size f cdv)) := hr.mono (by decide)
    have r3 : Room (2 + 1) (A.deeper (envOfC d_l_is_one.qual d_l_is_one.scope s.heap.objs.size f cdv)) := hr.mono (by decide)
    refine ⟨_, PSs.nox (pss_cons (ps_set (i := 3) sc_l_is_one.nd rfl (.inl rfl) (pe_lst (pa_cons (pe_cmpR (op_eqQ r2) (pv 0) (pv 1) (nomark _)) (pa_cons (pe_cmpR (op_eqQ r2) (pv 1) (pv 0) (nomark _))
          (pa_cons (pe_not (pe_cmpR (op_neQ r2) (pv 0) (pv 1) (nomark _))) (pa_cons (pe_not (pe_cmpR (op_neQ r2) (pv 1) (pv 0) (nomark _)))
          (pa_cons (pe_cmpR (op_inQ r3) (pv 0) (pe_lst (pa_cons (pv 1) pa_nil)) rfl) (pa_cons (pe_cmpR (op_inQ r3) (pv 1) (pe_lst (pa_cons (pv 0) (pa_cons (pv 0) pa_nil))) rfl) pa_nil))))))))
      (pss_one (ps_ret (pe_cmpR op_eq (pe_callB (RPO.call_reprL (n := 1) hgd2 (hr.mono (by decide))) rfl brep boot_repr (pa_cons (pv 3) pa_nil))
          (pe_callB (RPO.call_reprL (n := 1) hgd2 (hr.mono (by decide))) rfl brep boot_repr (pa_cons (pe_op op_rep (pe_lst (pa_cons (pv 2) pa_nil)) pe_int) pa_nil)) (nomark _))))), ?_⟩
    obtain ⟨c1, c2⟩ := ot.cm (X := (cxOf CX0 P w K mg base N_l_is_one d_l_is_one.qual d_l_is_one.scope f cdv A outer s H E).nox) pa Sp oc
    refine ⟨_, rfl, _, rfl, r, c1, fun H1 e1 => ?_⟩
    refine ⟨_, rfl, _, rfl, r, c2.ext e1, fun H2 e2 => ?_⟩
    have s2 := e1.trans e2
    refine ⟨_, rfl, _, rfl, r, c1.ext s2, fun H3 e3 => ⟨_, rfl, ?_⟩⟩
    have s3 := s2.trans e3
    refine ⟨_, rfl, _, rfl, r, c2.ext s3, fun H4 e4 => ⟨_, rfl, ?_⟩⟩
    have s4 := s3.trans e4
    refine ⟨_, rfl, _, rfl, by show 1 ≤ sizeLine; decide, fun t1 f1 => ?_⟩
    have s5 := s4.trans (same_new (o := .lst [y]) f1)
    refine ⟨t1, [y], r || false, rfl, upd_same, .cons (c2.ext s5) .nil, fun H6 e6 => ?_⟩
    have s6 := s5.trans e6
    refine ⟨_, rfl, _, rfl, _, rfl, by show 2 ≤ sizeLine; decide, fun t2 f2 => ?_⟩
    have s7 := s6.trans (same_new (o := .lst [.ref a, .ref a]) f2)
    refine ⟨t2, [.ref a, .ref a], r || (r || false), rfl, upd_same, .cons (c1.ext s7) (.cons (c1.ext s7) .nil), fun H8 e8 => ?_⟩
    have s8 := s7.trans e8
    refine ⟨by show 6 ≤ sizeLine; decide, fun t3 f3 => ?_⟩
    have hb : ∀ {H' : Hp} {outs : List Addr} (x : Bool), x = r → RpU (cxOf CX0 P w K mg base N_l_is_one d_l_is_one.qual d_l_is_one.scope f cdv A outer s H E).nox 1 outs H' (.bl x) (tb r) := fun x e => by
      rw [e]
      exact RpU.bl
    refine ⟨_, rfl, t3, _, List.replicate 6 (tb r), rfl, upd_same, List.cons_ne_nil _ _, ?_, tb_len r, fun H10 e10 => ?_⟩
    · exact .cons (hb _ (by cases r <;> rfl)) (.cons (hb _ (by cases r <;> rfl)) (.cons (hb _ (by cases r <;> rfl)) (.cons (hb _ (by cases r <;> rfl)) (.cons (hb _ (by cases r <;> rfl)) (.cons (hb _ (by cases r <;> rfl)) .nil)))))
    have s10 : Same H H10 := fun b o e => e10 _ _ (same_new f3 _ _ (s8 _ _ e))
    refine ⟨_, rfl, by show 1 ≤ sizeLine; decide, fun t4 f4 => ?_⟩
    refine ⟨t4, 6, [.bl r], rfl, rfl, upd_same, by decide, by decide, by show 6 ≤ sizeLine; decide, fun t5 f5 => ?_⟩
    refine ⟨t5, _, List.replicate 6 (tb r), rfl, upd_same, List.cons_ne_nil _ _, ?_, tb_len r, fun H12 e12 => ?_⟩
    · exact .cons (hb _ rfl) (.cons (hb _ rfl) (.cons (hb _ rfl) (.cons (hb _ rfl) (.cons (hb _ rfl) (.cons (hb _ rfl) .nil)))))
    refine ⟨rfl, ?_⟩
    have q := hQ H12 (((s10.trans (same_new f4)).trans (same_new f5)).trans e12)
    rw [show decide (V.str (listText (List.replicate 6 (tb r))) = V.str (listText (List.replicate 6 (tb r)))) = true by simp]
    exact q
/-- the three -/
noncomputable def tx3 (l : List Nat) (s m : Nat) : Str := tupleText [reprText (S l), (toString (s : Int) : String), (toString (m : Int) : String)]
theorem num_le {n : Nat} (h : n ≤ 127) : ((toString (n : Int) : String) : Str).length ≤ 133 := by
  have e : ((toString (n : Int) : String) : Str) = S (TL.numL n) := e_num n
  rw [e, SX.S_len]
  exact Nat.le_trans (num_len h) (by decide)
theorem tx3_len {l : List Nat} {s m : Nat} (ok : NM.ok l) (hs : s ≤ 9) (hm : m ≤ 127) : (tx3 l s m).length ≤ sizeLine := by
  refine Nat.le_trans (TXL.tt_n (n := 133) (m := 3) (fun t ht => ?_) (Nat.le_refl _)) (by decide : (133 + 2) * 3 + 3 ≤ sizeLine)
  simp only [List.mem_cons, List.not_mem_nil, or_false] at ht
  rcases ht with rfl | rfl | rfl
  · exact TXL.rt_len ok
  · exact num_le (by omega)
  · exact num_le hm
theorem rp3 {X : Cx} {outs : List Addr} {H : Hp} {l : List Nat} {s m : Nat} (hs : s ≤ 9) (hm : m ≤ 127) : RpAll X 1 outs H [.str (S l), .int (s : Int), .int (m : Int)] [reprText (S l), (toString (s : Int) : String), (toString (m : Int) : String)] :=
  .cons .str (.cons (.int (log_sm (by omega))) (.cons (.int (log_sm hm)) .nil))
def sp3 (C : Addr) : Sp := fun vs H Q _ => ∃ (a : Addr) (l : List Nat) (s m : Nat), vs = [.ref a] ∧ Pe C H a l s m ∧ NM.ok l ∧ s ≤ 9 ∧ m ≤ 127 ∧ ∀ H', Same H H' → Q (.str (tx3 l s m)) H'
theorem ok_3 (F : Dn K d_l_three f fd) (brep : mg "repr" = none) (T : ClP K mg C) : GL.FnG P w K mg base 4 f fd ["_law_thing"] (sp3 C) := by
  refine GL.okG F sc_l_three (fun vs H Q E h => ?_) (fun cdv A outer s H vs Q E hgd hr h => ?_)
  · obtain ⟨_, _, _, _, rfl, _⟩ := h
    rfl
  · obtain ⟨a, l, n, m, rfl, ⟨dx, ha⟩, ok, n9, m7, hQ⟩ := h
    have hgd2 : (A.deeper (envOfC d_l_three.qual d_l_three.scope s.heap.objs.size f cdv)).guards = some [] := hgd
    refine ⟨_, PSs.nox (pss_one (ps_ret (pe_callB (RPO.call_reprT (n := 1) hgd2 hr) rfl brep boot_repr (pa_cons (pe_tup (pa_cons (pe_fld (pv 0) rfl) (pa_cons (pe_fld (pv 0) rfl) (pa_cons (pe_fld (pv 0) rfl) pa_nil)))) pa_nil)))), ?_⟩
    refine ⟨_, rfl, a, C, dx, _, _, rfl, ha, T.cl, T.nn, pe_name _ _ _, ?_⟩
    refine ⟨_, rfl, a, C, dx, _, _, rfl, ha, T.cl, T.ns, pe_seats _ _ _, ?_⟩
    refine ⟨_, rfl, a, C, dx, _, _, rfl, ha, T.cl, T.nm, pe_mask _ _ _, ?_⟩
    refine ⟨by show 3 ≤ sizeLine; decide, fun t ft => ?_⟩
    exact ⟨t, _, _, rfl, upd_same, rp3 n9 m7, tx3_len ok n9 m7, fun H1 e1 => hQ H1 ((same_new ft).trans e1)⟩
end
end K08
set_option Elab.async false
set_option linter.all false
set_option maxRecDepth 100000
set_option maxHeartbeats 4000000
namespace K08
open PySem PySem.Spec PyProof.Rows L2
open C8 (Cal Mak Met pe_c pe_mk pe_mt pe_mt0)
open SX (S)
open OWQ TQ RPO
theorem mk_p {C p dx : Addr} {H : Hp} {l : List Nat} {s m : Nat} {Qv : VK} {E : XK} (np : H p = none) (nd : H dx = none) (ok : NM.ok l) (hs : s ≤ 9) (hm : m ≤ 127) (k : ∀ H', Same H H' → Pe C H' p l s m → H p = none → Qv .non H') :
    spPI C [.ref p, .str (S l), .int (s : Int), .int (m : Int)] (upd (upd H dx (.own p)) p (.ins C dx [])) Qv E := by
  refine ⟨p, dx, l, _, _, rfl, ok, by omega, by omega, by omega, by omega, upd_same, fun H' kk hp => k H' (fun b o e => ?_) ⟨dx, hp⟩ np⟩
  refine kk b o (ne_of_none e np) ?_
  rw [upd_ne (ne_of_none e np), upd_ne (ne_of_none e nd)]
  exact e
/-- a list of Persons -/
def PA (C : Addr) (H0 H : Hp) (o : Addr) (rs : List Addr) (l : List Nat) (s m : Nat) : Prop := Same H0 H ∧ H0 o = none ∧ H o = some (.lst (rs.map V.ref)) ∧ ∀ r ∈ rs, Pe C H r l s m
section
variable {C : Addr} {H0 H1 H2 : Hp} {o p : Addr} {rs qs : List Addr} {l : List Nat} {s m : Nat}
theorem PA.same (h : PA C H0 H1 o rs l s m) (e : Same H1 H2) : PA C H0 H2 o rs l s m := ⟨h.1.trans e, h.2.1, e _ _ h.2.2.1, fun r hr => (h.2.2.2 r hr).same e⟩
theorem PA.cat (h : PA C H0 H2 o rs l s m) (hq : ∀ q ∈ qs, Pe C H2 q l s m) (fp : H2 p = none) : PA C H0 (upd H2 p (.lst (rs.map V.ref ++ qs.map V.ref))) p (rs ++ qs) l s m := by
  have sp := same_new (o := .lst (rs.map V.ref ++ qs.map V.ref)) fp
  refine ⟨h.1.trans sp, h.1.free fp, by rw [upd_same, List.map_append], fun q hq' => ?_⟩
  rcases List.mem_append.mp hq' with hq' | hq'
  · exact (h.2.2.2 q hq').same sp
  · exact (hq q hq').same sp
end
section
variable {P : Program} {w : World} {K : PySem.W.Frag} {mg : Str → Option Value} {base : Heap} {f C fP : Addr} {fd fdP : FuncData}
abbrev psP : List Str := ["self", "name", "seats", "mask"]
abbrev dP : List V := [.int 0, .int 31]
def spMd (C : Addr) : Sp := fun vs H Q _ => ∃ (l : List Nat) (s m : Nat), vs = [.str (S l), .int (s : Int), .int (m : Int)] ∧ NM.ok l ∧ s ≤ 9 ∧ m ≤ 127 ∧ ∀ (o : Addr) (rs : List Addr) (H' : Hp), PA C H H' o rs l s m → rs.length ≤ 12 → Q (.ref o) H'
theorem ok_md (F : Dn K d_l_made f fd) (T : ClP K mg C) (MP : Mak P w K mg base 4 "Person" C (spPI C) []) (MP1 : Mak P w K mg base 4 "Person" C (spPI C) [.int 31]) (MP2 : Mak P w K mg base 4 "Person" C (spPI C) [.int 0, .int 31])
    (Mk1 : Mk K C fP) (FP : FnOk P w K mg base CX0 4 fP fdP psP (spPI C)) {i7 i8 i9 i11 : List Value}
    (k2 : KBn K fdP psP 3 ["mask"] (fun us ws => us ++ ws) (fun vs zs => vs ++ zs)) (k3 : KBn K fdP psP 2 ["mask", "seats"] (fun us ws => us ++ ws.reverse) (fun vs zs => vs ++ zs.reverse))
    (k4 : KBn K fdP psP 1 ["mask", "seats", "name"] (fun us ws => us ++ ws.reverse) (fun vs zs => vs ++ zs.reverse)) (k5 : KBn K fdP psP 1 ["name", "seats", "mask"] (fun us ws => us ++ ws) (fun vs zs => vs ++ zs))
    (k7 : KBn K fdP psP 2 ["seats"] (fun us ws => us ++ (ws ++ i7.drop 1)) (fun vs zs => vs ++ (zs ++ dP.drop 1))) (k8 : KBn K fdP psP 2 ["mask"] (fun us ws => us ++ (i8.take 1 ++ ws)) (fun vs zs => vs ++ (dP.take 1 ++ zs)))
    (k9 : KBn K fdP psP 1 ["mask", "name"] (fun us ws => us ++ ((ws.drop 1).take 1 ++ (i9.take 1 ++ ws.take 1))) (fun vs zs => vs ++ ((zs.drop 1).take 1 ++ (dP.take 1 ++ zs.take 1)))) (k11 : KBn K fdP psP 1 ["name"] (fun us ws => us ++ (ws ++ i11)) (fun vs zs => vs ++ (zs ++ dP))) :
    FnOk P w K mg base CX0 6 f fd ["_law_called", "_law_places", "_law_days"] (spMd C) := by
  refine F.ok sc_l_made (fun vs H Q E h => ?_) (fun cdv A outer s H vs Q E hr h => ?_)
  · obtain ⟨_, _, _, rfl, _⟩ := h
    rfl
  · obtain ⟨l, n, m, rfl, ok, n9, m7, hQ⟩ := h
    have hp : ∀ {σ : Nat → Addr → Nat → XK → Prop}, True := trivial
    refine ⟨_, PSs.nox (pss_cons (ps_set (i := 3) sc_l_made.nd rfl (.inl rfl) (pe_lst (pa_cons (pe_mk MP hr (by decide) rfl (pa_cons (pv 0) (pa_cons (pv 1) (pa_cons (pv 2) pa_nil))))
          (pa_cons (pe_makeN (E := E0) (n := 2) Mk1 FP (hr.mono (by decide)) rfl T.g k2 (fun _ _ _ _ _ _ _ h => False.elim h) (pa_cons (pv 0) (pa_cons (pv 1) pa_nil)) (pk_cons (pv 2) pk_nil))
          (pa_cons (pe_makeN (E := E0) (n := 1) Mk1 FP (hr.mono (by decide)) rfl T.g k3 (fun _ _ _ _ _ _ _ h => False.elim h) (pa_cons (pv 0) pa_nil) (pk_cons (pv 2) (pk_cons (pv 1) pk_nil))) pa_nil)))))
      (C8.pss_cut (ps_set (i := 3) sc_l_made.nd rfl (.inl rfl) (pe_op op_cat (pv 3) (pe_lst (pa_cons (pe_makeK0 (E := E0) Mk1 FP (hr.mono (by decide)) rfl T.g k4 (fun _ _ _ _ _ _ _ h => False.elim h) (pk_cons (pv 2) (pk_cons (pv 1) (pk_cons (pv 0) pk_nil))))
          (pa_cons (pe_makeK0 (E := E0) Mk1 FP (hr.mono (by decide)) rfl T.g k5 (fun _ _ _ _ _ _ _ h => False.elim h) (pk_cons (pv 0) (pk_cons (pv 1) (pk_cons (pv 2) pk_nil)))) pa_nil)))))
      (C8.pss_cut (ps_if (pt_cmpR op_eq (pv 2) pe_int (nomark _)) (pss_one (ps_set (i := 3) sc_l_made.nd rfl (.inl rfl) (pe_op op_cat (pv 3) (pe_lst (pa_cons (pe_mk MP1 hr (by decide) rfl (pa_cons (pv 0) (pa_cons (pv 1) pa_nil)))
          (pa_cons (pe_makeN (E := E0) (n := 1) Mk1 FP (hr.mono (by decide)) rfl T.g k7 (fun _ _ _ _ _ _ _ h => False.elim h) (pa_cons (pv 0) pa_nil) (pk_cons (pv 1) pk_nil)) pa_nil)))))) pss_nil)
      (C8.pss_cut (ps_if (pt_cmpR op_eq (pv 1) pe_int (nomark _)) (pss_one (ps_set (i := 3) sc_l_made.nd rfl (.inl rfl) (pe_op op_cat (pv 3) (pe_lst (pa_cons (pe_makeN (E := E0) (n := 1) Mk1 FP (hr.mono (by decide)) rfl T.g k8 (fun _ _ _ _ _ _ _ h => False.elim h) (pa_cons (pv 0) pa_nil) (pk_cons (pv 2) pk_nil))
          (pa_cons (pe_makeK0 (E := E0) Mk1 FP (hr.mono (by decide)) rfl T.g k9 (fun _ _ _ _ _ _ _ h => False.elim h) (pk_cons (pv 2) (pk_cons (pv 0) pk_nil))) pa_nil)))))) pss_nil)
      (C8.pss_cut (ps_if (PW.pt (pw_and (pt_cmpR op_eq (pv 2) pe_int (nomark _)) (pw_and1 (pt_cmpR op_eq (pv 1) pe_int (nomark _))))) (pss_one (ps_set (i := 3) sc_l_made.nd rfl (.inl rfl) (pe_op op_cat (pv 3) (pe_lst (pa_cons (pe_mk MP2 hr (by decide) rfl (pa_cons (pv 0) pa_nil))
          (pa_cons (pe_makeK0 (E := E0) Mk1 FP (hr.mono (by decide)) rfl T.g k11 (fun _ _ _ _ _ _ _ h => False.elim h) (pk_cons (pv 0) pk_nil)) pa_nil)))))) pss_nil)
      (pss_one (ps_ret (pv 3)))))))), ?_⟩
    have cl : ∀ k : Nat, k ≤ 60 → k ≤ sizeLine := fun k h => Nat.le_trans h (by decide)
    -- three
    refine ⟨_, rfl, _, rfl, _, rfl, ?_⟩
    intro r1 d1 n1 m1 x1
    refine mk_p n1 m1 ok n9 m7 fun G1 s1 p1 _ => ⟨rfl, ?_⟩
    refine ⟨_, rfl, _, rfl, _, rfl, rfl, rfl, ?_⟩
    intro r2 d2 n2 m2 x2
    refine mk_p n2 m2 ok n9 m7 fun G2 s2 p2 _ => ⟨rfl, ?_⟩
    refine ⟨_, rfl, _, rfl, _, rfl, rfl, rfl, ?_⟩
    intro r3 d3 n3 m3 x3
    refine mk_p n3 m3 ok n9 m7 fun G3 s3 p3 _ => ⟨rfl, ?_⟩
    refine ⟨by show 3 ≤ sizeLine; decide, fun o fo => ?_⟩
    have pa : PA C H (upd G3 o (.lst [.ref r1, .ref r2, .ref r3])) o [r1, r2, r3] l n m := by
      have so := same_new (o := .lst [.ref r1, .ref r2, .ref r3]) fo
      refine ⟨((s1.trans s2).trans s3).trans so, ((s1.trans s2).trans s3).free fo, upd_same, fun q hq => ?_⟩
      simp only [List.mem_cons, List.not_mem_nil, or_false] at hq
      rcases hq with rfl | rfl | rfl
      · exact ((p1.same s2).same s3).same so
      · exact (p2.same s3).same so
      · exact p3.same so
    generalize upd G3 o (.lst [.ref r1, .ref r2, .ref r3]) = G4 at pa ⊢
    have two : ∀ {G G' : Hp} {o : Addr} {rs : List Addr} {ra rb : Addr}, PA C H G o rs l n m → Same G G' → Pe C G' ra l n m → Pe C G' rb l n m → ∀ q ∈ [ra, rb], Pe C G' q l n m := fun {G G' o rs ra rb} _ _ a b q hq => by
      simp only [List.mem_cons, List.not_mem_nil, or_false] at hq
      rcases hq with rfl | rfl
      · exact a
      · exact b
    -- five
    refine ⟨fun σ' H' => ∃ (o : Addr) (rs : List Addr), σ' = [some (.str (S l)), some (.int (n : Int)), some (.int (m : Int)), some (.ref o)] ∧ PA C H H' o rs l n m ∧ rs.length ≤ 5, ?_, ?_⟩
    · refine ⟨_, rfl, _, rfl, _, rfl, _, rfl, rfl, rfl, ?_⟩
      intro ra da na ma xa
      refine mk_p na ma ok n9 m7 fun Ga sa qa _ => ⟨rfl, ?_⟩
      refine ⟨_, rfl, _, rfl, _, rfl, rfl, rfl, ?_⟩
      intro rb db nb mb xb
      refine mk_p nb mb ok n9 m7 fun Gb sb qb _ => ⟨rfl, by show 2 ≤ sizeLine; decide, fun t ft => ?_⟩
      have st := same_new (o := .lst [.ref ra, .ref rb]) ft
      have pt := pa.same ((sa.trans sb).trans st)
      refine ⟨o, t, _, _, rfl, rfl, pt.2.2.1, upd_same, cl _ (by simp), fun p fp => ?_⟩
      exact ⟨p, _, rfl, pt.cat (qs := [ra, rb]) (two pt (Same.refl _) ((qa.same sb).same st) (qb.same st)) fp, by simp⟩
    clear pa
    rintro σ' H5 ⟨o, rs, rfl, pa, len⟩
    -- no mask told
    refine ⟨fun σ' H' => ∃ (o : Addr) (rs : List Addr), σ' = [some (.str (S l)), some (.int (n : Int)), some (.int (m : Int)), some (.ref o)] ∧ PA C H H' o rs l n m ∧ rs.length ≤ 7, ?_, ?_⟩
    · refine ⟨_, rfl, rfl, _, rfl, ?_⟩
      refine ite2 (fun c1 => ?_) (fun c1 => ⟨o, rs, rfl, pa, by omega⟩)
      have em : m = 31 := by have := V.int.inj (of_decide_eq_true c1); omega
      subst em
      refine ⟨_, rfl, _, rfl, _, rfl, ?_⟩
      intro ra da na ma xa
      refine mk_p (m := 31) na ma ok n9 m7 fun Ga sa qa _ => ⟨rfl, ?_⟩
      refine ⟨_, rfl, _, rfl, rfl, rfl, ?_⟩
      intro rb db nb mb xb
      refine mk_p (m := 31) nb mb ok n9 m7 fun Gb sb qb _ => ⟨rfl, by show 2 ≤ sizeLine; decide, fun t ft => ?_⟩
      have st := same_new (o := .lst [.ref ra, .ref rb]) ft
      have pt := pa.same ((sa.trans sb).trans st)
      refine ⟨o, t, _, _, rfl, rfl, pt.2.2.1, upd_same, cl _ (by simp; omega), fun p fp => ?_⟩
      exact ⟨p, _, rfl, pt.cat (qs := [ra, rb]) (two pt (Same.refl _) ((qa.same sb).same st) (qb.same st)) fp, by simp; omega⟩
    clear pa len
    rintro σ' H6 ⟨o, rs, rfl, pa, len⟩
    -- no seats told
    refine ⟨fun σ' H' => ∃ (o : Addr) (rs : List Addr), σ' = [some (.str (S l)), some (.int (n : Int)), some (.int (m : Int)), some (.ref o)] ∧ PA C H H' o rs l n m ∧ rs.length ≤ 9, ?_, ?_⟩
    · refine ⟨_, rfl, rfl, _, rfl, ?_⟩
      refine ite2 (fun c1 => ?_) (fun c1 => ⟨o, rs, rfl, pa, by omega⟩)
      have en : n = 0 := by have := V.int.inj (of_decide_eq_true c1); omega
      subst en
      refine ⟨_, rfl, _, rfl, _, rfl, rfl, rfl, ?_⟩
      intro ra da na ma xa
      refine mk_p (s := 0) na ma ok n9 m7 fun Ga sa qa _ => ⟨rfl, ?_⟩
      refine ⟨_, rfl, _, rfl, rfl, rfl, ?_⟩
      intro rb db nb mb xb
      refine mk_p (s := 0) nb mb ok n9 m7 fun Gb sb qb _ => ⟨rfl, by show 2 ≤ sizeLine; decide, fun t ft => ?_⟩
      have st := same_new (o := .lst [.ref ra, .ref rb]) ft
      have pt := pa.same ((sa.trans sb).trans st)
      refine ⟨o, t, _, _, rfl, rfl, pt.2.2.1, upd_same, cl _ (by simp; omega), fun p fp => ?_⟩
      exact ⟨p, _, rfl, pt.cat (qs := [ra, rb]) (two pt (Same.refl _) ((qa.same sb).same st) (qb.same st)) fp, by simp; omega⟩
    clear pa len
    rintro σ' H7 ⟨o, rs, rfl, pa, len⟩
    -- the name alone
    refine ⟨fun σ' H' => ∃ (o : Addr) (rs : List Addr), σ' = [some (.str (S l)), some (.int (n : Int)), some (.int (m : Int)), some (.ref o)] ∧ PA C H H' o rs l n m ∧ rs.length ≤ 11, ?_, ?_⟩
    · refine ⟨_, rfl, rfl, _, rfl, ?_⟩
      refine ite2 (fun c1 => ?_) (fun c1 => ⟨o, rs, rfl, pa, by omega⟩)
      refine ⟨_, rfl, rfl, _, rfl, ?_⟩
      refine ite2 (fun c2 => ?_) (fun c2 => ⟨o, rs, rfl, pa, by omega⟩)
      have em : m = 31 := by have := V.int.inj (of_decide_eq_true c1); omega
      have en : n = 0 := by have := V.int.inj (of_decide_eq_true c2); omega
      subst em en
      refine ⟨_, rfl, _, rfl, ?_⟩
      intro ra da na ma xa
      refine mk_p (s := 0) (m := 31) na ma ok n9 m7 fun Ga sa qa _ => ⟨rfl, ?_⟩
      refine ⟨_, rfl, rfl, rfl, ?_⟩
      intro rb db nb mb xb
      refine mk_p (s := 0) (m := 31) nb mb ok n9 m7 fun Gb sb qb _ => ⟨rfl, by show 2 ≤ sizeLine; decide, fun t ft => ?_⟩
      have st := same_new (o := .lst [.ref ra, .ref rb]) ft
      have pt := pa.same ((sa.trans sb).trans st)
      refine ⟨o, t, _, _, rfl, rfl, pt.2.2.1, upd_same, cl _ (by simp; omega), fun p fp => ?_⟩
      exact ⟨p, _, rfl, pt.cat (qs := [ra, rb]) (two pt (Same.refl _) ((qa.same sb).same st) (qb.same st)) fp, by simp; omega⟩
    clear pa len
    rintro σ' H8 ⟨o, rs, rfl, pa, len⟩
    exact ⟨_, rfl, hQ o rs H8 pa (by omega)⟩
end
end K08
set_option Elab.async false
set_option linter.all false
set_option maxRecDepth 100000
set_option maxHeartbeats 4000000
namespace K08
open PySem PySem.Spec PyProof.Rows L2
open C8 (Cal Mak Met pe_c pe_mk pe_mt pe_mt0)
open SX (S)
open OWQ TQ RPO
/-- small letters -/
def AL (z : List Nat) : Prop := ∀ c ∈ z, 97 ≤ c ∧ c ≤ 122
theorem op_twice {X : Cx} : OpR X (binaryOp .Mult) (fun x y H Q => ∃ l : List Nat, x = .str (S l) ∧ y = .int 2 ∧ 0 < l.length ∧ l.length ≤ 1000 ∧ Q (.str (S (l ++ l))) H) := by
  intro pins s σ H x y v u Q I rx ry h
  obtain ⟨l, rfl, rfl, l0, l1, q⟩ := h
  obtain ⟨t, rfl⟩ := rx
  obtain ⟨t', rfl⟩ := ry
  have e0 : (S l).length = l.length := SX.S_len l
  refine PySem.P.mul_str (by decide) (fun _ _ hh => by
    have h2 : (((2 : Int) ^ 63 - 1) / 2) = 4611686018427387903 := by decide
    have h3 : (((S l).length : Nat) : Int) > (((2 : Int) ^ 63 - 1) / 2) := hh
    rw [h2, e0] at h3
    omega) (fun _ _ => by
    rw [e0]
    show decide (l.length * 2 > sizeLine) = false
    exact decide_eq_false (Nat.not_lt.mpr (Nat.le_trans (by omega : l.length * 2 ≤ 2000) (by decide)))) ?_
  rw [if_neg (by decide), if_neg (by
    have e1 : (S l).length ≠ 0 := by rw [e0]; omega
    intro z
    rcases Bool.or_eq_true_iff.mp z with z | z
    · cases z
    · exact e1 (beq_iff_eq.mp z))]
  have e : (⟨(List.replicate (2 : Int).toNat (S l).cps).foldl (· ++ ·) #[]⟩ : Str) = S (l ++ l) := by
    show (⟨(#[] ++ l.toArray) ++ l.toArray⟩ : Str) = S (l ++ l)
    simp [S]
  refine ⟨?_, ⟨.str (S (l ++ l)), H, I.tok _, ⟨_, by rw [e]⟩, q⟩⟩
  rw [e, SX.S_len, List.length_append]
  exact Nat.le_trans (by omega : l.length + l.length ≤ 2000) (by decide)
theorem sIx_m1 (n d : Nat) : HT.sIx n d (some (-1)) = n - 1 := by
  unfold HT.sIx
  simp
  omega
theorem cut_m1 {l : List Nat} : cutS (S l) none (some (-1)) = S (l.take (l.length - 1)) := by
  unfold cutS
  rw [HT.sIx_none, SX.S_len, sIx_m1]
  simp [S]
theorem AL.of {z : List Nat} (h : NM.ok z) : AL z := h.2.2
theorem AL.sub {z y : List Nat} (h : AL z) (s : y.Sublist z) : AL y := fun c hc => h c (s.subset hc)
/-- one that differs in something -/
def Df (C : Addr) (H : Hp) (l : List Nat) (s m : Nat) (r : Addr) : Prop := ∃ z s' m', Pe C H r z s' m' ∧ ¬ (l = z ∧ s = s' ∧ m = m')
section
variable {C : Addr} {H H' : Hp} {l : List Nat} {s m : Nat} {r o p : Addr} {c : Nat}
theorem Df.same (h : Df C H l s m r) (e : Same H H') : Df C H' l s m r := by
  obtain ⟨z, s', m', h, n⟩ := h
  exact ⟨z, s', m', h.same e, n⟩
theorem Df.kp (h : Df C H l s m r) (pn : Pen H p c) (k : Kp p H H') : Df C H' l s m r := by
  obtain ⟨l', ns, n', m2, e1, _⟩ := pn
  obtain ⟨z, s', m', ⟨dx, h⟩, n⟩ := h
  exact ⟨z, s', m', ⟨dx, k.1 _ _ h fun q => by rw [q, e1] at h; cases h⟩, n⟩
theorem Df.put {xs : List V} {u : HO} (h : Df C H l s m r) (e : H o = some (.lst xs)) : Df C (upd H o u) l s m r := by
  obtain ⟨z, s', m', ⟨dx, h⟩, n⟩ := h
  exact ⟨z, s', m', ⟨dx, by rw [upd_ne fun q => by rw [q, e] at h; cases h]; exact h⟩, n⟩
end
section
variable {P : Program} {w : World} {K : PySem.W.Frag} {mg : Str → Option Value} {base : Heap} {f C : Addr} {fd : FuncData}
def spOt (C : Addr) : Sp := fun vs H Q _ => ∃ (p : Addr) (c : Nat) (l : List Nat) (s m : Nat), vs = [.ref p, .str (S l), .int (s : Int), .int (m : Int)] ∧ Pen H p (c + 60) ∧ NM.ok l ∧ s ≤ 9 ∧ m ≤ 127 ∧
  ∀ (o : Addr) (rs : List Addr) (H' : Hp), Pen H' p c → Kp p H H' → H' o = some (.lst (rs.map V.ref)) → (∀ r ∈ rs, Df C H' l s m r) → rs.length ≤ 20 → Q (.ref o) H'
theorem ok_ot (F : Dn K d_l_other f fd) (b : Bl mg) (cD : CalD P w K mg base) (cN : Cal P w K mg base 2 "_law_names" spNames []) (MP : Mak P w K mg base 4 "Person" C (spPI C) []) :
    FnOk P w K mg base CX0 6 f fd ["_law_pen_here", "_law_called", "_law_places", "_law_days"] (spOt C) := by
  refine F.ok sc_l_other (fun vs H Q E h => ?_) (fun cdv A outer s H vs Q E hr h => ?_)
  · obtain ⟨_, _, _, _, _, rfl, _⟩ := h
    rfl
  · obtain ⟨p, c, l, n, m, rfl, pen, ok, n9, m7, hQ⟩ := h
    refine ⟨_, PSs.nox (pss_cons (ps_setLc (i := 5) (own := [("_law_one", 4)]) (g := gName 4) rfl sc_l_other.nd rfl rfl (sw_true rfl rfl rfl (by decide +kernel))
          (pi_list (pe_op op_cat (pe_c cN hr (by decide) rfl (pa_cons (pv 0) (pa_cons pe_int pa_nil))) (pe_lst (pa_cons (pe_slice sl_str (pv 1) po_none (po_some (pe_un un_neg pe_int))) (pa_cons (pe_slice sl_str (pv 1) (po_some pe_int) po_none) (pa_cons (pe_op op_twice (pv 1) pe_int) (pa_cons pe_str (pa_cons pe_str pa_nil))))))))
          (blkOk_by (N := N_l_other) (sc := defScope s_l_other) (by decide +kernel)) (fun _ _ _ _ _ => pg_name (i := 4) sc_l_other.nd rfl (Or.inl rfl)) (fun _ _ _ _ _ => pts_one (pt_cmpR op_ne (pv 4) (pv 1) (nomark _))) (fun _ _ _ _ _ => pv 4))
      (pss_cons (ps_set (i := 6) sc_l_other.nd rfl (.inl rfl) (pe_lst pa_nil))
      (pss_cons (ps_for PassesOwn.never rfl (pi_list (pv 5)) (pg_name (i := 4) sc_l_other.nd rfl (.inl rfl))
        (pss_one (ps_if (pt_chain op_le op_le pe_int (pe_callB call_len_str rfl b.len boot_len (pa_cons (pv 4) pa_nil)) pe_int)
          (pss_one (ps_expr (pe_bm PySem.F.plainAttrs_list PySem.F.slot_list_append PySem.F.type_list_append mt_append (pv 6) (pa_cons (pe_mk MP hr (by decide) rfl (pa_cons (pv 4) (pa_cons (pv 2) (pa_cons (pv 3) pa_nil)))) pa_nil)))) pss_nil)))
      (pss_cons (ps_expr (pe_bm PySem.F.plainAttrs_list PySem.F.slot_list_append PySem.F.type_list_append mt_append (pv 6) (pa_cons (pe_mk MP hr (by decide) rfl (pa_cons (pv 1) (pa_cons (pe_op op_mod (pe_op op_add (pe_op op_add (pv 2) pe_int) (pe_c cD hr (by decide) rfl (pa_cons (pv 0) (pa_cons pe_int pa_nil)))) pe_int) (pa_cons (pv 3) pa_nil)))) pa_nil)))
      (pss_one (ps_ret (pe_op op_cat (pv 6) (pe_lst (pa_cons (pe_mk MP hr (by decide) rfl (pa_cons (pv 1) (pa_cons (pv 2) (pa_cons (pe_op op_mod (pe_op op_add (pe_op op_add (pv 3) pe_int) (pe_c cD hr (by decide) rfl (pa_cons (pv 0) (pa_cons pe_int pa_nil)))) pe_int) pa_nil)))) pa_nil))))))))), ?_⟩
    have l1 := ok.1
    have l8 := ok.2.1
    have al := AL.of ok
    refine ⟨_, rfl, p, c + 20, 2, rfl, pen, by decide, fun o1 zs H1 pen1 k1 fo1 off1 ho1 lz okz ndz => ?_⟩
    refine ⟨_, rfl, _, rfl, _, rfl, S l, rfl, sl_le (by omega), ?_⟩
    refine ⟨_, rfl, _, rfl, S l, rfl, sl_le (by omega), ?_⟩
    refine ⟨_, rfl, l, rfl, rfl, by omega, by omega, ?_⟩
    rw [cut_m1, cut_d (x := 1) (j := 1) rfl (by omega)]
    refine ⟨by show 5 ≤ sizeLine; decide, fun o2 fo2 => ?_⟩
    have s2 := same_new (o := .lst [.str (S (l.take (l.length - 1))), .str (S (l.drop 1)), .str (S (l ++ l)), .str "a", .str "zz"]) fo2
    have ho2 : (upd H1 o2 (.lst [.str (S (l.take (l.length - 1))), .str (S (l.drop 1)), .str (S (l ++ l)), .str "a", .str "zz"])) o2 = some (.lst [.str (S (l.take (l.length - 1))), .str (S (l.drop 1)), .str (S (l ++ l)), .str "a", .str "zz"]) := upd_same
    generalize upd H1 o2 (.lst [.str (S (l.take (l.length - 1))), .str (S (l.drop 1)), .str (S (l ++ l)), .str "a", .str "zz"]) = H2 at s2 ho2 ⊢
    refine ⟨o1, o2, _, _, rfl, rfl, s2 _ _ ho1, ho2, ?_, fun o3 fo3 => ?_⟩
    · rw [List.length_map, lz]
      show 2 + 5 ≤ sizeLine
      decide
    have eZ : (zs.map fun l => V.str (S l)) ++ [V.str (S (l.take (l.length - 1))), .str (S (l.drop 1)), .str (S (l ++ l)), .str "a", .str "zz"] = (zs ++ [l.take (l.length - 1), l.drop 1, l ++ l, [97], [122, 122]]).map fun z => V.str (S z) := by
      rw [List.map_append]
      have ea : Str.ofString "a" = S [97] := by decide +kernel
      have ez : Str.ofString "zz" = S [122, 122] := by decide +kernel
      show _ ++ [V.str (S (l.take (l.length - 1))), V.str (S (l.drop 1)), V.str (S (l ++ l)), V.str (Str.ofString "a"), V.str (Str.ofString "zz")] = _
      rw [ea, ez]
      rfl
    have aZ : ∀ z ∈ zs ++ [l.take (l.length - 1), l.drop 1, l ++ l, [97], [122, 122]], AL z ∧ z.length ≤ 16 := fun z hz => by
      rcases List.mem_append.mp hz with h | h
      · exact ⟨AL.of (okz z h), by have := (okz z h).2.1; omega⟩
      · simp only [List.mem_cons, List.not_mem_nil, or_false] at h
        rcases h with rfl | rfl | rfl | rfl | rfl
        · exact ⟨al.sub (List.take_sublist _ _), by rw [List.length_take]; omega⟩
        · exact ⟨al.sub (List.drop_sublist _ _), by rw [List.length_drop]; omega⟩
        · exact ⟨fun c hc => (List.mem_append.mp hc).elim (al c) (al c), by rw [List.length_append]; omega⟩
        · exact ⟨fun c hc => by simp at hc; omega, by decide⟩
        · exact ⟨fun c hc => by simp at hc; omega, by decide⟩
    have lZ : (zs ++ [l.take (l.length - 1), l.drop 1, l ++ l, [97], [122, 122]]).length = 7 := by rw [List.length_append, lz]; rfl
    rw [eZ]
    generalize zs ++ [l.take (l.length - 1), l.drop 1, l ++ l, [97], [122, 122]] = Z at aZ lZ
    have s3 := same_new (o := .lst (Z.map fun z => V.str (S z))) fo3
    have ho3 : (upd H2 o3 (.lst (Z.map fun z => V.str (S z)))) o3 = some (.lst (Z.map fun z => V.str (S z))) := upd_same
    have pen3 := (pen1.same s2).same s3
    have k3 : Kp p H (upd H2 o3 (.lst (Z.map fun z => V.str (S z)))) := (k1.trans (Kp.same s2)).trans (Kp.same s3)
    generalize upd H2 o3 (.lst (Z.map fun z => V.str (S z))) = H3 at s3 ho3 pen3 k3 ⊢
    refine ⟨o3, rfl, ⟨_, SqL.of ho3⟩, fun D fD => lc_list (K := K) (xs := Z.map fun z => V.str (S z)) (fun i H' => Same H3 H' ∧ H' D = some (.lst (((Z.take i).filter fun z => decide (z ≠ l)).map fun z => V.str (S z)))) ⟨same_new fD, upd_same⟩ (fun i H' _ q => SqL.of (q.1 _ _ ho3)) ?_ ?_⟩
    · rintro i v H' hv ⟨s4, hD⟩
      rw [List.getElem?_map] at hv
      obtain ⟨z, hz, rfl⟩ := Option.map_eq_some_iff.mp hv
      have et : Z.take (i + 1) = Z.take i ++ [z] := by rw [List.take_succ, hz]; rfl
      have il : i < Z.length := (List.getElem?_eq_some_iff.mp hz).1
      refine ⟨rfl, ?_⟩
      refine ⟨_, rfl, _, rfl, rfl, _, rfl, ?_⟩
      refine ite2 (fun c1 => ?_) (fun c1 => ?_)
      · have c2 : z ≠ l := fun e => by
          rw [e] at c1
          simp at c1
        refine ⟨_, rfl, _, hD, ?_, fun b u e => ?_, ?_⟩
        · rw [List.length_map]
          have h1 := List.length_filter_le (fun z => decide (z ≠ l)) (Z.take i)
          rw [List.length_take] at h1
          exact Nat.lt_of_lt_of_le (by omega : _ < 64) (by decide)
        · rw [upd_ne (ne_of_none e fD)]
          exact s4 _ _ e
        · rw [upd_same, et, List.filter_append]
          simp [c2]
      · have c2 : z = l := Classical.byContradiction fun e => c1 (by
          have : ¬ V.str (S z) = V.str (S l) := fun q => e (SX.S_inj (V.str.inj q))
          simp [this])
        refine ⟨s4, ?_⟩
        rw [et, List.filter_append]
        simpa [c2] using hD
    rintro H4 ⟨s4, hD⟩
    rw [List.length_map, List.take_of_length_le (Nat.le_refl _)] at hD
    have aW : ∀ z ∈ Z.filter fun z => decide (z ≠ l), (AL z ∧ z.length ≤ 16) ∧ z ≠ l := fun z hz => by
      obtain ⟨h1, h2⟩ := List.mem_filter.mp hz
      exact ⟨aZ z h1, of_decide_eq_true h2⟩
    have lW : (Z.filter fun z => decide (z ≠ l)).length ≤ 7 := by
      have := List.length_filter_le (fun z => decide (z ≠ l)) Z
      omega
    generalize (Z.filter fun z => decide (z ≠ l)) = W at hD aW lW
    have pen4 := pen3.same s4
    have k4 := k3.trans (Kp.same s4)
    refine ⟨Nat.zero_le _, fun o fo => ?_⟩
    have s5 := same_new (o := .lst []) fo
    have ho : (upd H4 o (.lst [])) o = some (.lst []) := upd_same
    have off : Off p o (upd H4 o (.lst [])) := (Off.of pen4 fo).kp (Kp.same s5)
    have pen5 := pen4.same s5
    have k5 := k4.trans (Kp.same s5)
    have nDo : D ≠ o := ne_of_none hD fo
    have hD5 := s5 _ _ hD
    have foH : H o = none := by
      cases q : H o with
      | none => rfl
      | some u =>
        have z := k4.1 _ _ q (fun z => by rw [z] at fo; obtain ⟨l0, ns, n0, m0, e1, _⟩ := pen4; rw [fo] at e1; cases e1)
        rw [fo] at z
        cases z
    generalize upd H4 o (.lst []) = H5 at s5 ho off pen5 k5 hD5 ⊢
    refine ⟨_, rfl, D, rfl, ⟨_, SqL.of hD5⟩, for_list (K := K) (xs := W.map fun z => V.str (S z)) (fun i σ H' => ∃ (v4 : Option V) (rs : List Addr), σ = [some (.ref p), some (.str (S l)), some (.int (n : Int)), some (.int (m : Int)), v4, some (.ref D), some (.ref o)] ∧
        H' o = some (.lst (rs.map V.ref)) ∧ (∀ r ∈ rs, Df C H' l n m r) ∧ rs.length ≤ i ∧ Pen H' p (c + 20) ∧ Kp p H H' ∧ Off p o H' ∧ H' D = some (.lst (W.map fun z => V.str (S z)))) ?_ ?_ ?_ ?_⟩
    · exact ⟨_, [], rfl, ho, fun r hr => (by cases hr), Nat.le_refl _, pen5, k5, off, hD5⟩
    · rintro i σ H' _ ⟨_, _, _, _, _, _, _, _, _, q⟩
      exact SqL.of q
    · rintro i v σ H' hv ⟨v4, rs, rfl, hO, df, len, pn, kp, of', hD'⟩
      rw [List.getElem?_map] at hv
      obtain ⟨z, hz, rfl⟩ := Option.map_eq_some_iff.mp hv
      have il : i < W.length := (List.getElem?_eq_some_iff.mp hz).1
      obtain ⟨⟨az, z16⟩, nz⟩ := aW z (List.mem_of_getElem? hz)
      have hz1 : (S z).length ≤ sizeLine := sl_le (by omega)
      have stay : ∃ (v4 : Option V) (rs : List Addr), [some (.ref p), some (.str (S l)), some (.int (n : Int)), some (.int (m : Int)), some (.str (S z)), some (.ref D), some (.ref o)] = [some (.ref p), some (.str (S l)), some (.int (n : Int)), some (.int (m : Int)), v4, some (.ref D), some (.ref o)] ∧
        H' o = some (.lst (rs.map V.ref)) ∧ (∀ r ∈ rs, Df C H' l n m r) ∧ rs.length ≤ i + 1 ∧ Pen H' p (c + 20) ∧ Kp p H H' ∧ Off p o H' ∧ H' D = some (.lst (W.map fun z => V.str (S z))) := ⟨_, rs, rfl, hO, df, by omega, pn, kp, of', hD'⟩
      refine ⟨_, rfl, _, rfl, hz1, _, _, rfl, rfl, _, rfl, ?_⟩
      rw [SX.S_len]
      refine ite2 (fun c1 => ?_) (fun c1 => ⟨_, rfl, iteF stay⟩)
      have z1 : 1 ≤ z.length := by have := of_decide_eq_true c1; omega
      refine ⟨_, _, rfl, rfl, _, rfl, ?_⟩
      refine ite2 (fun c2 => ?_) (fun c2 => stay)
      have z8 : z.length ≤ 8 := by have := of_decide_eq_true c2; omega
      refine ⟨_, rfl, .inl ⟨rfl, _, SqL.of hO⟩, ?_⟩
      refine ⟨_, rfl, _, rfl, _, rfl, ?_⟩
      intro r1 d1 n1 m1 x1
      refine mk_p n1 m1 ⟨z1, z8, az⟩ n9 m7 fun G s6 p6 nr => ⟨rfl, ?_⟩
      have hO6 := s6 _ _ hO
      refine ⟨o, _, _, rfl, rfl, hO6, ?_, ?_⟩
      · rw [List.length_map]
        exact Nat.lt_of_lt_of_le (by omega : rs.length < 64) (by decide)
      have npo : p ≠ o := fun q => of'.ne q.symm
      have of6 := of'.kp (Kp.same s6)
      refine ⟨_, rs ++ [r1], rfl, ?_, fun r hr => ?_, ?_, (pn.same s6).put of6, ((kp.trans (Kp.same s6)).new foH), of6.put npo, ?_⟩
      · rw [upd_same, List.map_append]
        rfl
      · rcases List.mem_append.mp hr with h | h
        · exact ((df r h).same s6).put hO6
        · rw [List.mem_singleton.mp h]
          exact Df.put ⟨z, n, m, p6, fun e => nz e.1.symm⟩ hO6
      · rw [List.length_append]
        show rs.length + 1 ≤ i + 1
        omega
      · rw [upd_ne nDo]
        exact s6 _ _ hD'
    · rintro σ H' ⟨v4, rs, rfl, hO, df, len, pn, kp, of', hD'⟩
      rw [List.length_map] at len
      have npo : p ≠ o := fun q => of'.ne q.symm
      -- other seats
      refine ⟨_, rfl, .inl ⟨rfl, _, SqL.of hO⟩, ?_⟩
      refine ⟨_, rfl, _, rfl, _, _, rfl, rfl, _, rfl, p, c + 19, _, rfl, pn, by decide, by decide, fun d G1 a1 b1 pn1 kk1 => ?_⟩
      obtain ⟨d, rfl⟩ := Int.eq_ofNat_of_zero_le a1
      refine ⟨_, _, rfl, rfl, _, _, rfl, rfl, (by show (0 : Int) < 10; decide), _, rfl, ?_⟩
      intro r1 d1 n1 m1 x1
      have es : ((n : Int) + 1 + (d : Int)) % 10 = (((n + 1 + d) % 10 : Nat) : Int) := by omega
      have hO1 := kk1.1 _ _ hO of'.ne
      have of1 := of'.kp kk1
      show spPI C [.ref r1, .str (S l), .int (((n : Int) + 1 + (d : Int)) % 10), .int (m : Int)] _ _ _
      rw [es]
      refine mk_p n1 m1 ok (by omega) m7 fun G2 s2 p2 _ => ⟨rfl, ?_⟩
      have hO2 := s2 _ _ hO1
      have of2 := of1.kp (Kp.same s2)
      refine ⟨o, _, _, rfl, rfl, hO2, ?_, ?_⟩
      · rw [List.length_map]
        exact Nat.lt_of_lt_of_le (by omega : rs.length < 64) (by decide)
      have df3 : ∀ r ∈ rs ++ [r1], Df C (upd G2 o (.lst (rs.map V.ref ++ [V.ref r1]))) l n m r := fun r hr => by
        rcases List.mem_append.mp hr with h | h
        · exact (((df r h).kp pn kk1).same s2).put hO2
        · rw [List.mem_singleton.mp h]
          exact Df.put ⟨l, (n + 1 + d) % 10, m, p2, fun e => by omega⟩ hO2
      have ho3 : (upd G2 o (.lst (rs.map V.ref ++ [V.ref r1]))) o = some (.lst ((rs ++ [r1]).map V.ref)) := by
        rw [upd_same, List.map_append]
        rfl
      have pn3 : Pen (upd G2 o (.lst (rs.map V.ref ++ [V.ref r1]))) p (c + 19) := (pn1.same s2).put of2
      have kp3 : Kp p H (upd G2 o (.lst (rs.map V.ref ++ [V.ref r1]))) := ((kp.trans kk1).trans (Kp.same s2)).new foH
      have of3 : Off p o (upd G2 o (.lst (rs.map V.ref ++ [V.ref r1]))) := of2.put npo
      have l3 : (rs ++ [r1]).length ≤ 8 := by
        rw [List.length_append]
        show rs.length + 1 ≤ 8
        omega
      generalize upd G2 o (.lst (rs.map V.ref ++ [V.ref r1])) = G3 at df3 ho3 pn3 kp3 of3 ⊢
      generalize rs ++ [r1] = rs3 at df3 ho3 l3
      -- another mask
      refine ⟨_, rfl, _, rfl, _, rfl, _, rfl, _, _, rfl, rfl, _, rfl, p, c + 18, _, rfl, pn3, by decide, by decide, fun d' G4 a4 b4 pn4 kk4 => ?_⟩
      obtain ⟨d', rfl⟩ := Int.eq_ofNat_of_zero_le a4
      refine ⟨_, _, rfl, rfl, _, _, rfl, rfl, (by show (0 : Int) < 128; decide), ?_⟩
      intro r2 d2 n2 m2 x2
      have em : ((m : Int) + 1 + (d' : Int)) % 128 = (((m + 1 + d') % 128 : Nat) : Int) := by omega
      show spPI C [.ref r2, .str (S l), .int (n : Int), .int (((m : Int) + 1 + (d' : Int)) % 128)] _ _ _
      rw [em]
      refine mk_p n2 m2 ok n9 (by omega) fun G5 s5' p5 _ => ⟨rfl, by show 1 ≤ sizeLine; decide, fun q fq => ?_⟩
      have s6 := same_new (o := .lst [.ref r2]) fq
      have ho4 := kk4.1 _ _ ho3 of3.ne
      have s56 := s5'.trans s6
      refine ⟨o, q, _, _, rfl, rfl, s56 _ _ ho4, upd_same, ?_, fun q2 fq2 => ?_⟩
      · rw [List.length_map]
        exact Nat.le_trans (by show rs3.length + 1 ≤ 64; omega) (by decide)
      have s7 := same_new (o := .lst (rs3.map V.ref ++ [V.ref r2])) fq2
      refine hQ q2 (rs3 ++ [r2]) _ (((pn4.same s56).same s7).weak (by omega)) (((kp3.trans kk4).trans (Kp.same s56)).trans (Kp.same s7)) (by rw [upd_same, List.map_append]; rfl) (fun r hr => ?_) (by rw [List.length_append]; show rs3.length + 1 ≤ 20; omega)
      rcases List.mem_append.mp hr with h | h
      · exact (((df3 r h).kp pn3 kk4).same s56).same s7
      · rw [List.mem_singleton.mp h]
        exact Df.same ⟨l, n, (m + 1 + d') % 128, (p5.same s6).same s7, fun e => by omega⟩ (Same.refl _)
end
end K08
set_option Elab.async false
set_option linter.all false
set_option maxRecDepth 100000
set_option maxHeartbeats 4000000
namespace K08
open PySem PySem.Spec PyProof.Rows L2
open C8 (Cal Mak Met pe_c pe_mk pe_mt pe_mt0)
open SX (S)
open OWQ TQ RPO
open HX (hex2 hexd)
/-! ### the texts that the law makes -/
theorem e_p0 : Str.ofString "Person('" = S [80, 101, 114, 115, 111, 110, 40, 39] := by decide +kernel
theorem e_p1 : Str.ofString "', " = S [39, 44, 32] := by decide +kernel
theorem e_lb : Str.ofString "[" = S [91] := by decide +kernel
theorem e_rb : Str.ofString "]" = S [93] := by decide +kernel
def saidX (l : List Nat) (s m : Nat) : Str := Str.ofString "Person('" ++ S l ++ Str.ofString "', " ++ Str.ofString (toString (s : Int)) ++ Str.ofString ", " ++ Str.ofString (toString (m : Int)) ++ Str.ofString ")"
theorem said_eq (l : List Nat) (s m : Nat) : saidX l s m = S (repL l s m) := by
  unfold saidX repL
  rw [e_p0, e_p1, e_cm, e_cl, e_num, e_num, SX.S_cat, SX.S_cat, SX.S_cat, SX.S_cat, SX.S_cat, SX.S_cat]
  simp
def wordsX (l : List Nat) (s m : Nat) : List Str := [S l, Str.ofString (toString (s : Int)), (⟨#[hexd (m / 16)]⟩ : Str) ++ ⟨#[hexd (m % 16)]⟩]
theorem words_eq (l : List Nat) (s m : Nat) : wordsX l s m = [l, TL.numL s, [hexd (m / 16), hexd (m % 16)]].map S := by
  unfold wordsX
  rw [e_num]
  rfl
theorem join_eq (l : List Nat) (s m : Nat) : Txt.join (Str.ofString " ") (wordsX l s m) = S (strL l s m) := by
  rw [words_eq, e_sp, SX.join_S]
  unfold strL
  simp [TL.joinL]
theorem list_one (t : Str) : listText [t] = Str.ofString "[" ++ t ++ Str.ofString "]" := by
  unfold listText
  simp only [textFrom]
  have e : (Str.ofString "[" ++ (if (0 : Nat) > 0 then ", " else "" : String) : Str) = Str.ofString "[" := by decide +kernel
  rw [e]
theorem fig_at {k : Nat} (h : k < 16) : atI (Str.ofString "0123456789abcdef").cps.toList (k : Int) = some (hexd k) := by
  have : ∀ k : Fin 16, atI (Str.ofString "0123456789abcdef").cps.toList (k.val : Int) = some (hexd k.val) := by decide +kernel
  exact this ⟨k, h⟩
theorem sl2 {a b : List Nat} (h : a.length + b.length ≤ 1000) : (S a).length + (S b).length ≤ sizeLine := by
  rw [SX.S_len, SX.S_len]
  exact Nat.le_trans h (by decide)
theorem nw_kp {H H' H'' : Hp} {p : Addr} (k : Kp p H' H'') (hp : H p ≠ none) : Same (nw H H') H'' := fun a o e => by
  obtain ⟨e1, e2⟩ := nw_le e
  exact k.1 _ _ e1 fun z => hp (z ▸ e2)
theorem Pe.kp {C : Addr} {H H' : Hp} {p r : Addr} {c : Nat} {l : List Nat} {s m : Nat} (h : Pe C H r l s m) (pn : Pen H p c) (k : Kp p H H') : Pe C H' r l s m := by
  obtain ⟨l', ns, n', m2, e1, _⟩ := pn
  obtain ⟨dx, h⟩ := h
  exact ⟨dx, k.1 _ _ h fun q => by rw [q, e1] at h; cases h⟩
theorem iteFE {c : Bool} {A B : Prop} (h : c = false) (b : B) : if c = true then A else B := by
  rw [if_neg (by simp [h])]
  exact b
section
variable {P : Program} {w : World} {K : PySem.W.Frag} {mg : Str → Option Value} {base : Heap} {f C : Addr} {fd : FuncData}
def spLaw (K : PySem.W.Frag) : Sp := fun vs H Q _ => ∃ (a : Addr) (ns : List Int), vs = [.ref a] ∧ SqL K H a (ns.map V.int) ∧ ns.length ≤ 63 ∧ ∀ H', Q (.bl true) H'
theorem ok_law (Fl : Dn K d_law f fd) (b : Bl mg) (brep : mg "repr" = none) (T : ClP K mg C) (cP : Cal P w K mg base 1 "_law_pen" (spPen K) []) (cD : CalD P w K mg base) (cN : Cal P w K mg base 2 "_law_names" spNames []) (MP : Mak P w K mg base 4 "Person" C (spPI C) [])
    (cTh : Cal P w K mg base 1 "_law_things" spTh []) (cMd : Cal P w K mg base 6 "_law_made" (spMd C) []) (cOt : Cal P w K mg base 6 "_law_other" (spOt C) []) (cIs : GL.CalG P w K mg base 5 "_law_is_one" (spIs C) []) (c3 : GL.CalG P w K mg base 4 "_law_three" (sp3 C) [])
    (Ss : OW.Spc P w K mg base 2 C "__str__" (spTx C strL)) (Sr : OW.Spc P w K mg base 1 C "__repr__" (spTx C repL)) : GL.FnG P w K mg base 8 f fd ["_law_script"] (spLaw K) := by
  refine GL.okG Fl sc_law (fun vs H Q E h => ?_) (fun cdv A outer s H vs Q E hgd hr h => ?_)
  · obtain ⟨a, ns, rfl, _⟩ := h
    rfl
  · obtain ⟨s0, ns, rfl, hS, hlen, hQ⟩ := h
    obtain ⟨fT, fdT, psT, dsT, FT, hmT, kpT, bT, dT⟩ := cTh.ex
    have hgd2 : (A.deeper (envOfC d_law.qual d_law.scope s.heap.objs.size f cdv)).guards = some [] := hgd
    refine ⟨_, PSs.nox (pss_cons (ps_set (i := 1) sc_law.nd rfl (.inl rfl) (pe_c cP hr (by decide) rfl (pa_cons (pv 0) pa_nil)))
      (pss_cons (ps_set (i := 2) sc_law.nd rfl (.inl rfl) pe_str)
      (pss_cons (ps_for PassesOwn.never rfl (pi_range1 rfl b.range (pa_cons pe_int pa_nil)) (pg_name (i := 3) sc_law.nd rfl (.inl rfl))
        (pss_cons (ps_set (i := 4) sc_law.nd rfl (.inl rfl) (pe_ix ix_list (pe_c cN hr (by decide) rfl (pa_cons (pv 1) (pa_cons pe_int pa_nil))) pe_int (fun _ _ => rfl)))
        (pss_cons (ps_par (i := 5) (j := 6) rfl sc_law.nd rfl rfl (by decide) rfl rfl
            (pa_cons (pe_ix ix_list (pe_lst (pa_cons pe_int (pa_cons (pe_c cD hr (by decide) rfl (pa_cons (pv 1) (pa_cons pe_int pa_nil))) pa_nil))) (pe_c cD hr (by decide) rfl (pa_cons (pv 1) (pa_cons pe_int pa_nil))) (fun _ _ => rfl))
            (pa_cons (pe_ix ix_list (pe_lst (pa_cons pe_int (pa_cons (pe_c cD hr (by decide) rfl (pa_cons (pv 1) (pa_cons pe_int pa_nil))) pa_nil))) (pe_c cD hr (by decide) rfl (pa_cons (pv 1) (pa_cons pe_int pa_nil))) (fun _ _ => rfl)) pa_nil)) rfl)
        (pss_cons (ps_set (i := 7) sc_law.nd rfl (.inl rfl) (pe_mk MP hr (by decide) rfl (pa_cons (pv 4) (pa_cons (pv 5) (pa_cons (pv 6) pa_nil)))))
        (pss_cons (ps_set (i := 8) sc_law.nd rfl (.inl rfl) (pe_lst (pa_cons (pv 4) (pa_cons (pe_callTy call_str_int rfl b.str boot_str (pa_cons (pv 5) pa_nil)) (pa_cons (pe_op op_add_str (pe_ix ix_str (pv 2) (pe_op op_fdiv (pv 6) pe_int) (fun _ _ => rfl)) (pe_ix ix_str (pv 2) (pe_op op_mod (pv 6) pe_int) (fun _ _ => rfl))) pa_nil)))))
        (pss_cons (ps_set (i := 9) sc_law.nd rfl (.inl rfl) (pe_op op_add_str (pe_op op_add_str (pe_op op_add_str (pe_op op_add_str (pe_op op_add_str (pe_op op_add_str pe_str (pv 4)) pe_str) (pe_callTy call_str_int rfl b.str boot_str (pa_cons (pv 5) pa_nil))) pe_str) (pe_callTy call_str_int rfl b.str boot_str (pa_cons (pv 6) pa_nil))) pe_str))
        (pss_cons (ps_for PassesOwn.never rfl (pi_list (pe_c cMd hr (by decide) rfl (pa_cons (pv 4) (pa_cons (pv 5) (pa_cons (pv 6) pa_nil))))) (pg_name (i := 10) sc_law.nd rfl (.inl rfl))
          (pss_cons (ps_if (PW.pt (pw_or (pt_cmpR op_ne (GL.pe_cG c3 hgd2 hr (by decide) rfl (pa_cons (pv 10) pa_nil)) (pe_callB (RPO.call_reprT (n := 1) hgd2 (hr.mono (by decide))) rfl brep boot_repr (pa_cons (pe_tup (pa_cons (pv 4) (pa_cons (pv 5) (pa_cons (pv 6) pa_nil)))) pa_nil)) (nomark _))
              (pw_or1 (pt_not (pt_val (GL.pe_cG cIs hgd2 hr (by decide) rfl (pa_cons (pv 7) (pa_cons (pv 10) (pa_cons pe_bl pa_nil))))))))) pss_never pss_nil)
          (pss_one (ps_if (PW.pt (pw_or (pt_cmpR op_ne (pe_callTy (OW.call_strO Ss (hr.mono (by decide))) rfl b.str boot_str (pa_cons (pv 10) pa_nil)) (pe_join pe_str (pv 8)) (nomark _))
              (pw_or (pt_cmpR op_ne (pe_callB (OW.call_reprO Sr (hr.mono (by decide))) rfl brep boot_repr (pa_cons (pv 10) pa_nil)) (pv 9) (nomark _))
              (pw_or1 (pt_cmpR op_ne (pe_callB (RPO.call_reprL (n := 1) hgd2 (hr.mono (by decide))) rfl brep boot_repr (pa_cons (pe_lst (pa_cons (pv 10) pa_nil)) pa_nil)) (pe_op op_add_str (pe_op op_add_str pe_str (pv 9)) pe_str) (nomark _)))))) pss_never pss_nil))))
        (pss_cons (ps_set (i := 11) sc_law.nd rfl (.inl rfl) (pe_op op_cat (pe_call0 FT (hr.mono (by decide)) rfl hmT kpT bT dT pass0) (pe_lst (pa_cons (pv 4) (pa_cons (pe_tup (pa_cons (pv 4) (pa_cons (pv 5) (pa_cons (pv 6) pa_nil)))) (pa_cons (pe_lst (pa_cons (pv 4) (pa_cons (pv 5) (pa_cons (pv 6) pa_nil)))) (pa_cons (pv 9) (pa_cons (pe_join pe_str (pv 8)) (pa_cons (pv 5) pa_nil)))))))))
        (pss_one (ps_for PassesOwn.never rfl (pi_list (pe_op op_cat (pe_c cOt hr (by decide) rfl (pa_cons (pv 1) (pa_cons (pv 4) (pa_cons (pv 5) (pa_cons (pv 6) pa_nil))))) (pv 11))) (pg_name (i := 10) sc_law.nd rfl (.inl rfl))
          (pss_one (ps_if (pt_not (pt_val (GL.pe_cG cIs hgd2 hr (by decide) rfl (pa_cons (pv 7) (pa_cons (pv 10) (pa_cons pe_bl pa_nil)))))) pss_never pss_nil))))))))))))
      (pss_one (ps_ret pe_bl))))), ?_⟩
    refine ⟨_, rfl, s0, ns, rfl, hS, hlen, fun p H1 s1 f1 pen1 => ?_⟩
    refine ⟨6, rfl, by decide, by decide, for_range (n := 6) (fun i σ H3 => (∃ v3 v4 v5 v6 v7 v8 v9 v10 v11 : Option V, σ = [some (.ref s0), some (.ref p), some (.str "0123456789abcdef"), v3, v4, v5, v6, v7, v8, v9, v10, v11]) ∧ Pen H3 p (120 * (6 - i))) ⟨⟨_, _, _, _, _, _, _, _, _, rfl⟩, pen1.weak (by decide)⟩ ?_ ?_⟩
    · rintro i σ H3 hi ⟨⟨v3, v4, v5, v6, v7, v8, v9, v10, v11, rfl⟩, pen3⟩
      have c0 : 120 * (6 - i) = 120 * (6 - (i + 1)) + 120 := by omega
      rw [c0] at pen3
      generalize 120 * (6 - (i + 1)) = c at pen3
      refine ⟨_, rfl, p, c + 80, 1, rfl, pen3, by decide, fun o zs H4 pen4 k4 fo off4 ho lz okz ndz => ?_⟩
      obtain ⟨l, rfl⟩ := List.length_eq_one_iff.mp lz
      have ok := okz l (List.mem_singleton.mpr rfl)
      have l1 := ok.1
      have l8 := ok.2.1
      refine ⟨o, _, _, _, rfl, rfl, SqL.of ho, atI_nat (j := 0) rfl, ?_⟩
      -- seats
      refine ⟨_, rfl, p, c + 79, _, rfl, pen4, by decide, by decide, fun d1 H5 a1 b1 pen5 k5 => ?_⟩
      obtain ⟨d1, rfl⟩ := Int.eq_ofNat_of_zero_le a1
      refine ⟨by show 2 ≤ sizeLine; decide, fun t1 ft1 => ?_⟩
      have q1 := same_new (o := .lst [V.int 0, V.int (d1 : Int)]) ft1
      have ht1 : (upd H5 t1 (.lst [V.int 0, V.int (d1 : Int)])) t1 = some (.lst [V.int 0, V.int (d1 : Int)]) := upd_same
      have off1 : Off p t1 (upd H5 t1 (.lst [V.int 0, V.int (d1 : Int)])) := (Off.of pen5 ft1).kp (Kp.same q1)
      have pen5' := pen5.same q1
      generalize upd H5 t1 (.lst [V.int 0, V.int (d1 : Int)]) = H5' at q1 ht1 off1 pen5' ⊢
      refine ⟨_, rfl, p, c + 78, _, rfl, pen5', by decide, by decide, fun d2 H6 a2 b2 pen6 k6 => ?_⟩
      obtain ⟨d2, rfl⟩ := Int.eq_ofNat_of_zero_le a2
      obtain ⟨n, n9, en⟩ : ∃ n : Nat, n ≤ 9 ∧ ([V.int 0, V.int (d1 : Int)] : List V)[d2]? = some (V.int (n : Int)) := by
        match d2, b2 with
        | 0, _ => exact ⟨0, by omega, rfl⟩
        | 1, _ => exact ⟨d1, by omega, rfl⟩
        | k + 2, hk => exact absurd hk (by omega)
      refine ⟨t1, _, _, _, rfl, rfl, SqL.of (k6.1 _ _ ht1 off1.ne), atI_nat en, ?_⟩
      -- mask
      refine ⟨_, rfl, p, c + 77, _, rfl, pen6, by decide, by decide, fun d3 H7 a3 b3 pen7 k7 => ?_⟩
      obtain ⟨d3, rfl⟩ := Int.eq_ofNat_of_zero_le a3
      refine ⟨by show 2 ≤ sizeLine; decide, fun t2 ft2 => ?_⟩
      have q2 := same_new (o := .lst [V.int 31, V.int (d3 : Int)]) ft2
      have ht2 : (upd H7 t2 (.lst [V.int 31, V.int (d3 : Int)])) t2 = some (.lst [V.int 31, V.int (d3 : Int)]) := upd_same
      have off2 : Off p t2 (upd H7 t2 (.lst [V.int 31, V.int (d3 : Int)])) := (Off.of pen7 ft2).kp (Kp.same q2)
      have pen7' := pen7.same q2
      generalize upd H7 t2 (.lst [V.int 31, V.int (d3 : Int)]) = H7' at q2 ht2 off2 pen7' ⊢
      refine ⟨_, rfl, p, c + 76, _, rfl, pen7', by decide, by decide, fun d4 H8 a4 b4 pen8 k8 => ?_⟩
      obtain ⟨d4, rfl⟩ := Int.eq_ofNat_of_zero_le a4
      obtain ⟨m, m7, em⟩ : ∃ m : Nat, m ≤ 127 ∧ ([V.int 31, V.int (d3 : Int)] : List V)[d4]? = some (V.int (m : Int)) := by
        match d4, b4 with
        | 0, _ => exact ⟨31, by omega, rfl⟩
        | 1, _ => exact ⟨d3, by omega, rfl⟩
        | k + 2, hk => exact absurd hk (by omega)
      refine ⟨t2, _, _, _, rfl, rfl, SqL.of (k8.1 _ _ ht2 off2.ne), atI_nat em, ?_⟩
      refine ⟨_, _, rfl, ?_⟩
      clear k4 k5 k6 k7 k8 ht1 ht2 off1 off2 off4 ho pen3 pen4 pen5 pen6 pen7 pen5' pen7' q1 q2
      -- the Person
      refine ⟨_, rfl, _, rfl, _, rfl, ?_⟩
      intro r dr nr nd xr
      refine mk_p nr nd ok n9 m7 fun H9 s9 pe9 _ => ⟨rfl, ?_⟩
      have pen9 := pen8.same s9
      -- the words
      have f1 : atI (Str.ofString "0123456789abcdef").cps.toList ((m : Int) / 16) = some (hexd (m / 16)) := by
        rw [show (m : Int) / 16 = ((m / 16 : Nat) : Int) by omega]
        exact fig_at (by omega)
      have f2 : atI (Str.ofString "0123456789abcdef").cps.toList ((m : Int) % 16) = some (hexd (m % 16)) := by
        rw [show (m : Int) % 16 = ((m % 16 : Nat) : Int) by omega]
        exact fig_at (by omega)
      refine ⟨_, rfl, _, rfl, _, rfl, log_sm (by omega), ?_⟩
      refine ⟨_, rfl, _, rfl, _, _, rfl, rfl, ⟨by decide, by decide⟩, _, _, _, rfl, rfl, by decide, f1, ?_⟩
      refine ⟨_, rfl, _, rfl, _, _, rfl, rfl, (by show (0 : Int) < 16; decide), _, _, _, rfl, rfl, by decide, f2, ?_⟩
      refine ⟨_, _, rfl, rfl, by show 1 + 1 ≤ sizeLine; decide, ?_⟩
      refine ⟨by show 3 ≤ sizeLine; decide, fun wl fwl => ?_⟩
      have sw := same_new (o := .lst ((wordsX l n m).map V.str)) fwl
      have hw : (upd H9 wl (.lst ((wordsX l n m).map V.str))) wl = some (.lst ((wordsX l n m).map V.str)) := upd_same
      have pe10 := pe9.same sw
      have pen10 := pen9.same sw
      -- the text of repr
      have g1 : Str.ofString "Person('" ++ S l = S ([80, 101, 114, 115, 111, 110, 40, 39] ++ l) := by rw [e_p0, SX.S_cat]
      have g2 : Str.ofString "Person('" ++ S l ++ Str.ofString "', " = S ([80, 101, 114, 115, 111, 110, 40, 39] ++ l ++ [39, 44, 32]) := by rw [g1, e_p1, SX.S_cat]
      have g3 : Str.ofString "Person('" ++ S l ++ Str.ofString "', " ++ Str.ofString (toString (n : Int)) = S ([80, 101, 114, 115, 111, 110, 40, 39] ++ l ++ [39, 44, 32] ++ TL.numL n) := by rw [g2, e_num, SX.S_cat]
      have g4 : Str.ofString "Person('" ++ S l ++ Str.ofString "', " ++ Str.ofString (toString (n : Int)) ++ Str.ofString ", " = S ([80, 101, 114, 115, 111, 110, 40, 39] ++ l ++ [39, 44, 32] ++ TL.numL n ++ [44, 32]) := by rw [g3, e_cm, SX.S_cat]
      have g5 : Str.ofString "Person('" ++ S l ++ Str.ofString "', " ++ Str.ofString (toString (n : Int)) ++ Str.ofString ", " ++ Str.ofString (toString (m : Int)) = S ([80, 101, 114, 115, 111, 110, 40, 39] ++ l ++ [39, 44, 32] ++ TL.numL n ++ [44, 32] ++ TL.numL m) := by rw [g4, e_num, SX.S_cat]
      have kn := num_len (n := n) (by omega)
      have km := num_len (n := m) (by omega)
      refine ⟨_, rfl, _, _, rfl, rfl, ?_, _, _, rfl, rfl, ?_, ?_⟩
      · show (Str.ofString "Person('").length + (S l).length ≤ sizeLine
        rw [e_p0]
        exact sl2 (by simp; omega)
      · show (Str.ofString "Person('" ++ S l).length + (Str.ofString "', ").length ≤ sizeLine
        rw [g1, e_p1]
        exact sl2 (by simp; omega)
      refine ⟨_, rfl, _, rfl, log_sm (by omega), _, _, rfl, rfl, ?_, _, _, rfl, rfl, ?_, ?_⟩
      · show (Str.ofString "Person('" ++ S l ++ Str.ofString "', ").length + (Str.ofString (toString (n : Int))).length ≤ sizeLine
        rw [g2, e_num]
        exact sl2 (by simp; omega)
      · show (Str.ofString "Person('" ++ S l ++ Str.ofString "', " ++ Str.ofString (toString (n : Int))).length + (Str.ofString ", ").length ≤ sizeLine
        rw [g3, e_cm]
        exact sl2 (by simp; omega)
      refine ⟨_, rfl, _, rfl, log_sm (by omega), _, _, rfl, rfl, ?_, _, _, rfl, rfl, ?_, ?_⟩
      · show (Str.ofString "Person('" ++ S l ++ Str.ofString "', " ++ Str.ofString (toString (n : Int)) ++ Str.ofString ", ").length + (Str.ofString (toString (m : Int))).length ≤ sizeLine
        rw [g4, e_num]
        exact sl2 (by simp; omega)
      · show (Str.ofString "Person('" ++ S l ++ Str.ofString "', " ++ Str.ofString (toString (n : Int)) ++ Str.ofString ", " ++ Str.ofString (toString (m : Int))).length + (Str.ofString ")").length ≤ sizeLine
        rw [g5, e_cl]
        exact sl2 (by simp; omega)
      -- made
      refine ⟨_, rfl, _, rfl, _, rfl, l, n, m, rfl, ok, n9, m7, fun o2 rs H11 pa len => ?_⟩
      have hw11 := pa.1 _ _ hw
      have pe11 := pe10.same pa.1
      have pen11 := pen10.same pa.1
      have eqs : ∀ a b : Str, a = b → (!decide (V.str a = V.str b)) = false := fun a b e => by rw [e]; simp
      have jl : ((wordsX l n m).map (·.length)).sum + (wordsX l n m).length * (Str.ofString " ").length ≤ 16777216 := by
        rw [words_eq, e_sp]
        simp [SX.S_len]
        omega
      refine ⟨o2, rfl, ⟨_, SqL.of pa.2.2.1⟩, for_list (K := K) (xs := rs.map V.ref) (fun j σ H' => (∃ v10 v11 : Option V, σ = [some (.ref s0), some (.ref p), some (.str "0123456789abcdef"), some (.int (0 + (i : Int))), some (.str (S l)), some (.int (n : Int)), some (.int (m : Int)), some (.ref r), some (.ref wl), some (.str (saidX l n m)), v10, v11]) ∧ Same H11 H') ⟨⟨_, _, rfl⟩, Same.refl _⟩ (fun j σ H' _ q => SqL.of (q.2 _ _ pa.2.2.1)) ?_ ?_⟩
      · rintro j v σ H' hv ⟨⟨v10, v11, rfl⟩, sm⟩
        rw [List.getElem?_map] at hv
        obtain ⟨q, hq, rfl⟩ := Option.map_eq_some_iff.mp hv
        have pq := (pa.2.2.2 q (List.mem_of_getElem? hq)).same sm
        have pr := pe11.same sm
        have hw' := sm _ _ hw11
        refine ⟨_, rfl, q, l, n, m, rfl, pq, ok, n9, m7, fun G1 e1 => ?_⟩
        refine ⟨_, rfl, _, rfl, _, rfl, by show 3 ≤ sizeLine; decide, fun t ft => ⟨t, _, _, rfl, upd_same, rp3 n9 m7, tx3_len ok n9 m7, fun G2 e2 => ?_⟩⟩
        have z2 : Same H' G2 := fun b o e => e2 _ _ (same_new ft _ _ (e1 _ _ e))
        refine ⟨rfl, _, rfl, ?_⟩
        refine iteFE (eqs _ _ rfl) ?_
        have ot : Oth C G2 l n m (.ref q) true := by
          have := Oth.pe (l := l) (s := n) (m := m) (pq.same z2)
          rwa [decide_eq_true (⟨rfl, rfl, rfl⟩ : l = l ∧ n = n ∧ m = m)] at this
        refine ⟨_, rfl, _, rfl, r, .ref q, true, l, n, m, rfl, pr.same z2, ot, fun G3 e3 => ⟨_, rfl, iteF ?_⟩⟩
        have z3 : Same H' G3 := z2.trans e3
        obtain ⟨dq, hq3⟩ := pq.same z3
        -- str
        refine ⟨_, rfl, q, _, _, rfl, hq3, q, l, n, m, rfl, ⟨dq, hq3⟩, ok, n9, m7, _, rfl, ?_⟩
        refine ⟨⟨_, rfl⟩, _, rfl, _, wl, wordsX l n m, rfl, rfl, .inl (SqL.of (z3 _ _ hw')), jl, rfl, _, rfl, ?_⟩
        refine iteFE (eqs _ _ (join_eq l n m).symm) ?_
        -- repr
        refine ⟨_, rfl, q, _, _, rfl, hq3, q, l, n, m, rfl, ⟨dq, hq3⟩, ok, n9, m7, _, rfl, ?_⟩
        refine ⟨_, rfl, rfl, _, rfl, ?_⟩
        refine iteFE (eqs _ _ (said_eq l n m).symm) ?_
        -- repr of a list of it
        refine ⟨_, rfl, by show 1 ≤ sizeLine; decide, fun t2 ft2 => ?_⟩
        have z4 := same_new (o := .lst [V.ref q]) ft2
        have nq : q ∉ [t2] := fun z => by
          rw [List.mem_singleton.mp z, ft2] at hq3
          cases hq3
        have lrep : (repL l n m).length ≤ 60 := by
          unfold repL
          simp
          omega
        refine ⟨t2, [.ref q], [S (repL l n m)], rfl, upd_same, List.cons_ne_nil _ _, .cons (RpU.own Sr (z4 _ _ hq3) nq (fun G hG => ⟨q, l, n, m, rfl, ⟨dq, hG⟩, ok, n9, m7, rfl, Ext.rfl'⟩) (Nat.le_refl _)) .nil, ?_, fun G5 e5 => ?_⟩
        · rw [list_one, e_lb, e_rb, SX.S_cat, SX.S_cat, SX.S_len]
          exact Nat.le_trans (by simp; omega : _ ≤ 100) (by decide)
        have le1 : Str.ofString "[" ++ saidX l n m = S ([91] ++ repL l n m) := by rw [said_eq, e_lb, SX.S_cat]
        refine ⟨_, rfl, _, _, rfl, rfl, ?_, _, _, rfl, rfl, ?_, ?_⟩
        · show (Str.ofString "[").length + (saidX l n m).length ≤ sizeLine
          rw [said_eq, e_lb]
          exact sl2 (by simp; omega)
        · show (Str.ofString "[" ++ saidX l n m).length + (Str.ofString "]").length ≤ sizeLine
          rw [le1, e_rb]
          exact sl2 (by simp; omega)
        refine ⟨rfl, _, rfl, ?_⟩
        have lst : listText [S (repL l n m)] = Str.ofString "[" ++ saidX l n m ++ Str.ofString "]" := by rw [list_one, said_eq]
        refine iteFE (eqs _ _ lst) ⟨⟨_, _, rfl⟩, fun b o e => e5 _ _ (z4 _ _ (z3 _ _ (sm _ _ e)))⟩
      · rintro σ H' ⟨⟨v10, v11, rfl⟩, sm⟩
        have pr := pe11.same sm
        have hw' := sm _ _ hw11
        have pen' := pen11.same sm
        refine ⟨rfl, fun pt H12 xs st npt ht lx hx => ?_⟩
        have pH : H' p ≠ none := by
          obtain ⟨l0, ns0, n0, m0, e1, _⟩ := pen'
          rw [e1]
          exact fun z => nomatch z
        refine ⟨_, rfl, _, rfl, _, rfl, _, rfl, by show 3 ≤ sizeLine; decide, fun t1 ft1 => ?_⟩
        have y1 := same_new (o := .tup [.str (S l), .int (n : Int), .int (m : Int)]) ft1
        have ht1 : (upd H12 t1 (.tup [.str (S l), .int (n : Int), .int (m : Int)])) t1 = some (.tup [.str (S l), .int (n : Int), .int (m : Int)]) := upd_same
        generalize upd H12 t1 (.tup [.str (S l), .int (n : Int), .int (m : Int)]) = H13 at y1 ht1 ⊢
        refine ⟨_, rfl, _, rfl, _, rfl, by show 3 ≤ sizeLine; decide, fun t2 ft2 => ?_⟩
        have y2 := same_new (o := .lst [.str (S l), .int (n : Int), .int (m : Int)]) ft2
        have ht2 : (upd H13 t2 (.lst [.str (S l), .int (n : Int), .int (m : Int)])) t2 = some (.lst [.str (S l), .int (n : Int), .int (m : Int)]) := upd_same
        generalize upd H13 t2 (.lst [.str (S l), .int (n : Int), .int (m : Int)]) = H14 at y2 ht2 ⊢
        have y02 := (st.trans y1).trans y2
        refine ⟨_, rfl, ⟨_, rfl⟩, _, rfl, _, wl, wordsX l n m, rfl, rfl, .inl (SqL.of (y02 _ _ hw')), jl, _, rfl, ?_⟩
        refine ⟨by show 6 ≤ sizeLine; decide, fun t3 ft3 => ?_⟩
        have hj := join_eq l n m
        generalize eJ : Txt.join (Str.ofString " ") (wordsX l n m) = J
        generalize eR : saidX l n m = R
        have y3 := same_new (o := .lst [.str (S l), .ref t1, .ref t2, .str R, .str J, .int (n : Int)]) ft3
        have ht3 : (upd H14 t3 (.lst [.str (S l), .ref t1, .ref t2, .str R, .str J, .int (n : Int)])) t3 = some (.lst [.str (S l), .ref t1, .ref t2, .str R, .str J, .int (n : Int)]) := upd_same
        generalize upd H14 t3 (.lst [.str (S l), .ref t1, .ref t2, .str R, .str J, .int (n : Int)]) = H15 at y3 ht3 ⊢
        have y13 := (y1.trans y2).trans y3
        refine ⟨pt, t3, _, _, rfl, rfl, y13 _ _ ht, ht3, ?_, fun o4 fo4 => ?_⟩
        · show xs.length + 6 ≤ sizeLine
          exact Nat.le_trans (by omega : xs.length + 6 ≤ 64) (by decide)
        have y4 := same_new (o := .lst (xs ++ [.str (S l), .ref t1, .ref t2, .str R, .str J, .int (n : Int)])) fo4
        have ho4 : (upd H15 o4 (.lst (xs ++ [.str (S l), .ref t1, .ref t2, .str R, .str J, .int (n : Int)]))) o4 = some (.lst (xs ++ [.str (S l), .ref t1, .ref t2, .str R, .str J, .int (n : Int)])) := upd_same
        generalize upd H15 o4 (.lst (xs ++ [.str (S l), .ref t1, .ref t2, .str R, .str J, .int (n : Int)])) = H16 at y4 ho4 ⊢
        have y14 := y13.trans y4
        have y04 := st.trans y14
        have pen16 := pen'.same y04
        have nwp : ∀ {b : Addr} {u : HO}, H16 b = some u → H' b = none → b ≠ p := fun {b u} _ e z => pH (z ▸ e)
        have all16 : ∀ y ∈ xs ++ [.str (S l), .ref t1, .ref t2, .str R, .str J, .int (n : Int)], ∀ H'', Kp p H16 H'' → Tq H'' y := fun y hy H'' kk => by
          rcases List.mem_append.mp hy with h | h
          · exact (hx y h).same ((nw_same y14).trans (nw_kp kk pH))
          · simp only [List.mem_cons, List.not_mem_nil, or_false] at h
            rcases h with rfl | rfl | rfl | rfl | rfl | rfl
            · exact Tq.str
            · exact Tq.tup (kk.1 _ _ ((y2.trans (y3.trans y4)) _ _ ht1) (nwp ((y2.trans (y3.trans y4)) _ _ ht1) (st.free ft1)))
            · exact Tq.lst (kk.1 _ _ ((y3.trans y4) _ _ ht2) (nwp ((y3.trans y4) _ _ ht2) ((st.trans y1).free ft2)))
            · exact Tq.str
            · exact Tq.str
            · exact Tq.int
        have no4 : o4 ≠ p := nwp ho4 ((st.trans y13).free fo4)
        have lx4 : (xs ++ [.str (S l), .ref t1, .ref t2, .str R, .str J, .int (n : Int)] : List V).length ≤ 50 := by
          rw [List.length_append]
          show xs.length + 6 ≤ 50
          omega
        generalize (xs ++ [.str (S l), .ref t1, .ref t2, .str R, .str J, .int (n : Int)] : List V) = ws at ho4 all16 lx4
        refine ⟨_, rfl, _, rfl, _, rfl, _, rfl, p, c, l, n, m, rfl, pen16.weak (by omega), ok, n9, m7, fun o5 rs5 H17 pen17 k17 ho5 df l20 => ?_⟩
        refine ⟨_, rfl, o5, o4, _, _, rfl, rfl, ho5, k17.1 _ _ ho4 no4, ?_, fun o6 fo6 => ?_⟩
        · rw [List.length_map]
          exact Nat.le_trans (by omega : rs5.length + ws.length ≤ 100) (by decide)
        have y6 := same_new (o := .lst (rs5.map V.ref ++ ws)) fo6
        have ho6 : (upd H17 o6 (.lst (rs5.map V.ref ++ ws))) o6 = some (.lst (rs5.map V.ref ++ ws)) := upd_same
        have pr6 := ((pr.same y04).kp pen16 k17).same y6
        have pen18 := pen17.same y6
        have all6 : ∀ y ∈ rs5.map V.ref ++ ws, Oth C (upd H17 o6 (.lst (rs5.map V.ref ++ ws))) l n m y false := fun y hy => by
          rcases List.mem_append.mp hy with h | h
          · obtain ⟨q, hq, rfl⟩ := List.mem_map.mp h
            obtain ⟨z, s', m', h1, h2⟩ := df q hq
            have := Oth.pe (l := l) (s := n) (m := m) (h1.same y6)
            rwa [decide_eq_false h2] at this
          · exact .th ((all16 y h _ k17).same y6)
        generalize upd H17 o6 (.lst (rs5.map V.ref ++ ws)) = H18 at y6 ho6 pr6 pen18 all6 ⊢
        generalize rs5.map V.ref ++ ws = zs6 at ho6 all6
        refine ⟨o6, rfl, ⟨_, SqL.of ho6⟩, for_list (K := K) (xs := zs6) (fun j σ H' => (∃ v10 : Option V, σ = [some (.ref s0), some (.ref p), some (.str "0123456789abcdef"), some (.int (0 + (i : Int))), some (.str (S l)), some (.int (n : Int)), some (.int (m : Int)), some (.ref r), some (.ref wl), some (.str R), v10, some (.ref o4)]) ∧ Same H18 H') ⟨⟨_, by subst eR; rfl⟩, Same.refl _⟩ (fun j σ H' _ q => SqL.of (q.2 _ _ ho6)) ?_ ?_⟩
        · rintro j v σ H'' hv ⟨⟨v10, rfl⟩, sm2⟩
          have ot := (all6 v (List.mem_of_getElem? hv)).same sm2
          refine ⟨_, rfl, _, rfl, r, v, false, l, n, m, rfl, pr6.same sm2, ot, fun G3 e3 => ⟨_, rfl, iteF ⟨⟨_, rfl⟩, sm2.trans e3⟩⟩⟩
        · rintro σ H'' ⟨⟨v10, rfl⟩, sm2⟩
          exact ⟨⟨_, _, _, _, _, _, _, _, _, rfl⟩, (pen18.same sm2).weak (by omega)⟩
    · rintro σ H3 ⟨⟨v3, v4, v5, v6, v7, v8, v9, v10, v11, rfl⟩, pen3⟩
      exact hQ _
end
end K08
set_option Elab.async false
set_option linter.all false
set_option maxRecDepth 100000
set_option maxHeartbeats 4000000
/-! KW: calls by keywords alone: f(k = v, ..), o.m(k = v, ..). -/
namespace KW
open PySem PySem.Spec PyProof.Rows L2
section
variable {X : Cx} {k j : Nat} {C f : Addr} {fd : FuncData} {ps ks : List Str} {sp : Sp} {x m : Str} {p pos apos : Pos} {o : Expr} {kws : List Keyword} {ta : TE} {tk : TA} {g : List Value → List Value → List Value} {gV : List V → List V → List V}
theorem pe_cK (F : FnOk X.prog X.w X.K X.mg X.base CX0 k f fd ps sp) (hr : Room k X.A) (hg : Gl X x) (hm : X.mg x = some (.ref f)) (hk : PySem.W.keepIn X.K (.ref f) = true) (hb : KBn X.K fd ps 0 ks g gV) (hkw : PK X kws tk)
    (hall : (backToKw pos (keywordEach kws X.env)).all (·.1.isSome) = true := by rfl) (hks : (backToKw pos (keywordEach kws X.env)).filterMap (·.1) = ks := by rfl) (hdb : (x == ("__debug__" : Str)) = false := by decide)
    (hpl : ((backTo pos (starEach [] X.env)).any (·.1) || (backToKw pos (keywordEach kws X.env)).any (·.1.isNone)) = false := by rfl) :
    PE X (.Call (.Name x p) [] kws pos) (fun σ H Q => tk σ H fun zs H1 => zs.length = ks.length ∧ sp (gV [] zs) H1 Q E0) := by
  refine ⟨fun pins s σ H Q I h => wpAny_Call_Name_kw (ld_glob I hg hm (PySem.W.callWith_KW0 (h₀ := X.base) I.ok.mod.kin hk hall ?_ hpl) hdb)⟩
  refine thn (hkw.run pos pins s σ H _ I h) fun ws s2 ⟨zs, H2, I2, rz, l2, q2⟩ => ⟨I2.kIn, ?_⟩
  rw [hks]
  exact run_fnN (us := []) (vs := []) F hr hb (fun _ _ _ _ _ _ _ h => False.elim h) I2 .nil rz rfl l2 q2
theorem pe_mtK {pl : Sem Bool} (he : PE X o ta) (c : Cls X.K C) (hm : Meth X.K C m f) (F : FnOk X.prog X.w X.K X.mg X.base CX0 k f fd ps sp) (hr : Room k X.A) (hb : KBn X.K fd ps 1 ks g gV) (hkw : PK X kws tk)
    (hall : (backToKw pos (keywordEach kws X.env)).all (·.1.isSome) = true := by rfl) (hks : (backToKw pos (keywordEach kws X.env)).filterMap (·.1) = ks := by rfl)
    (hpl : ((backTo pos (starEach [] X.env)).any (·.1) || (backToKw pos (keywordEach kws X.env)).any (·.1.isNone)) = false := by rfl)
    (ht : eval (.Call (.Attribute o m apos) [] kws pos) X.env = (do
      let ov ← eval o X.env
      standAt apos.atName
      let (f, first) ← holding [ov] (getMethod ov m pl)
      callWith pos f first (backTo pos (starEach [] X.env)) (backToKw pos (keywordEach kws X.env))) := by rfl) :
    PE X (.Call (.Attribute o m apos) [] kws pos) (fun σ H Q => ta σ H fun x H1 => ∃ a dx fs, x = .ref a ∧ H1 a = some (.ins C dx fs) ∧ fs.lookup m = none ∧ tk σ H1 fun zs H2 => zs.length = ks.length ∧ sp (gV [.ref a] zs) H2 Q E0) := by
  refine ⟨fun pins s σ H Q I h => ?_⟩
  refine PySem.W.methodCall_KW (pl := pl) (thn (he.run pins s σ H _ I h) fun u s1 ⟨x, H1, I1, rx, a, dx, fs, ex, ea, l, q⟩ => ?_) ht
  subst ex
  obtain rfl : u = Value.ref a := rx
  refine getmeth_ok I1 ea c hm l (PySem.W.callWith_KW0 (first := [.ref a]) (h₀ := X.base) I.ok.mod.kin hm.kp hall ?_ hpl)
  refine thn (hkw.run pos pins s1 σ H1 _ I1 q) fun ws s2 ⟨zs, H2, I2, rz, l2, q2⟩ => ⟨I2.kIn, ?_⟩
  rw [hks]
  exact run_fnN (us := [.ref a]) (vs := [.ref a]) F hr hb (fun _ _ _ _ _ _ _ h => False.elim h) I2 (.cons rfl .nil) rz rfl l2 q2
end
end KW
set_option Elab.async false
set_option linter.all false
set_option maxRecDepth 100000
set_option maxHeartbeats 4000000
/-! KB: what a call by keywords binds, for a def without keyword-only parameters. -/
namespace KW
open PySem PySem.Spec PyProof.Rows L2
section
variable {K : PySem.W.Frag} {x qual : Str} {params : Arguments} {body : List Stmt} {scope : Scope} {dvs : List V} {kws : List (Str × V)} {f : Addr} {fd : FuncData} {ps : List Str}
theorem kb1 (F : FunD K x qual params body scope dvs kws f fd) (n : Nat) (ks : List Str) (g : {α : Type} → List α → List α → List α → List α) (hd : dvs ≠ [])
    (hrel : ∀ {vs ds zs : List V} {us its ws : List Value}, Vals vs us → Vals ds its → Vals zs ws → Vals (g vs ds zs) (g us its ws))
    (h : ∀ (T : Addr) (kV doc pm : Value) (an : Option Addr) (cdv ct : Value) (us its ws : List Value), us.length = n → its.length = dvs.length → ws.length = ks.length →
      ∃ k, bindArgs (PySem.W.fnOf x qual params body scope (.ref T) kV doc pm an cdv ct) ⟨us, ks.zip ws⟩ = seqItems? (.ref T) >>= k ∧ k (some its.toArray) = pure (ps.zip (g us its ws))) :
    ∃ its : List Value, KBn K fd ps n ks (fun us ws => g us its ws) (fun vs zs => g vs dvs zs) := by
  obtain ⟨oc, od, dV, kV, doc, pm, an, cdv, ct, osl, rfl, lk, hcd, hD, hK⟩ := F.ex
  rcases hD with ⟨e, _⟩ | ⟨_, T, o, its, m, rfl, lT, oT, rT⟩
  · exact absurd e hd
  · refine ⟨its, ⟨fun s us ws X l1 l2 => ?_, fun r1 r2 => hrel r1 rT r2⟩⟩
    obtain ⟨k, e1, e2⟩ := h T kV doc pm an cdv ct us its ws l1 rT.length.symm l2
    refine BindsTo.of_looks fun M => ?_
    rw [e1]
    exact looks_items X lT oT (.of_pure e2)
theorem kb0 (F : FunD K x qual params body scope [] kws f fd) (n : Nat) (ks : List Str) (g : {α : Type} → List α → List α → List α)
    (hrel : ∀ {vs zs : List V} {us ws : List Value}, Vals vs us → Vals zs ws → Vals (g vs zs) (g us ws))
    (h : ∀ (kV doc pm : Value) (an : Option Addr) (cdv ct : Value) (us ws : List Value), us.length = n → ws.length = ks.length →
      bindArgs (PySem.W.fnOf x qual params body scope .none kV doc pm an cdv ct) ⟨us, ks.zip ws⟩ = pure (ps.zip (g us ws))) :
    KBn K fd ps n ks (fun us ws => g us ws) (fun vs zs => g vs zs) := by
  obtain ⟨oc, od, dV, kV, doc, pm, an, cdv, ct, osl, rfl, lk, hcd, hD, hK⟩ := F.ex
  rcases hD with ⟨_, rfl⟩ | ⟨e, _⟩
  · exact ⟨fun s us ws X l1 l2 => .of_eq (h kV doc pm an cdv ct us ws l1 l2), fun r1 r2 => hrel r1 r2⟩
  · exact absurd rfl e
end
end KW
set_option Elab.async false
set_option linter.all false
/-! VR: values related, turned about. -/
namespace KW
open PySem PySem.Spec PyProof.Rows L2
theorem vals_rev {vs : List V} {us : List Value} (h : Vals vs us) : Vals vs.reverse us.reverse := by
  induction h with
  | nil => exact .nil
  | cons r t ih =>
    rw [List.reverse_cons, List.reverse_cons]
    exact ih.append (.cons r .nil)
end KW
set_option Elab.async false
set_option linter.all false
set_option maxRecDepth 100000
set_option maxHeartbeats 4000000
namespace K08
open PySem PySem.Spec PyProof.Rows L2
def xk1 (K : PySem.W.Frag) : Bool := GX.isB K (He.ga K "Person") && (OWQ.ocB K (He.ga K "Person") && OWQ.ts7.all fun T => decide (PySem.W.kitOne K (.type T) (.ref (He.ga K "Person")) = some false))
theorem xk_ok {K : PySem.W.Frag} (h : xk1 K = true) : IsP K (He.ga K "Person") ∧ OWQ.OwnC K (He.ga K "Person") := by
  unfold xk1 at h
  obtain ⟨h1, h⟩ := Bool.and_eq_true_iff.mp h
  obtain ⟨h2, h3⟩ := Bool.and_eq_true_iff.mp h
  unfold GX.isB at h1
  simp only [Bool.and_eq_true, decide_eq_true_eq] at h1
  exact ⟨⟨He.eqO_ok h1.1, He.eqO_ok h1.2.1, h1.2.2.1, h1.2.2.2, by unfold PySem.W.kitOne; rw [if_pos (beq_self_eq_true _)], fun T hT => of_decide_eq_true (List.all_eq_true.mp h3 T hT)⟩, OWQ.ocB_ok h2⟩
end K08
set_option Elab.async false
set_option linter.all false
set_option maxRecDepth 100000
set_option maxHeartbeats 0
namespace K08
open PySem PySem.Spec PyProof.Rows L2
open C8 (Cal Mak Met pe_c pe_mk pe_mt pe_mt0)
def fa : List He.Fa := [.glo "is_whole", .glo "is_between", .glo "is_name", .glo "is_mask", .glo "mask_text", .glo "_law_pen", .glo "_law_draw", .glo "_law_names", .glo "_law_things", .glo "_law_three", .glo "_law_made", .glo "_law_other", .glo "_law_is_one", .glo "law", .free "isinstance", .free "int", .free "bool", .free "str", .free "list", .free "range", .free "len", .free "all", .free "any", .free "max", .free "min", .free "repr", .glo "Person", .cls "Person", .mkr "Person", .noat "Person" "name", .noat "Person" "seats", .noat "Person" "mask", .meth "Person" "__eq__", .meth "Person" "__str__", .meth "Person" "__repr__", .int "LAST_MASK" 127, .int "LONGEST_NAME" 8, .int "MOST_SEATS" 9]
def xk (K : PySem.W.Frag) : Bool := (xk1) K
abbrev R : PySem.W.OpenRow := PySem.W.OpenLaw.row PySem.Challenge.rw_rideturns_k08_persons_made_and_shown
abbrev hk : PySem.W.Hook := He.hookX 6 fa fn [] [] xk
def ob (s : PySem.W.SharedT) : He.AlX := He.obsX 6 fa fn [] [] xk (HandSHeadRun.getT s)
theorem ob_eq (s : PySem.W.SharedT) : ob s = hk.obs s.abs := He.obsX_eq (HandSHeadRun.getT_eq s)
abbrev loose : List Str := [("BadName" : Str), ("NoNumber" : Str), ("LAST_MASK" : Str), ("LONGEST_NAME" : Str), ("is_whole" : Str), ("is_between" : Str), ("is_name" : Str), ("is_mask" : Str), ("mask_text" : Str), ("MOST_SEATS" : Str), ("Person" : Str), ("_law_pen" : Str), ("_law_draw" : Str), ("_law_names" : Str), ("_law_things" : Str), ("_law_three" : Str), ("_law_made" : Str), ("_law_other" : Str), ("_law_is_one" : Str)]
theorem run_ (w : World) : HandSHeadRun.RunEq R (PySem.W.view R.prog [24]) hk ob 6000 loose w := by
  intro os
  kernel_rfl
theorem cal_of {P : Program} {w : World} {K : PySem.W.Frag} {mg : Str → Option Value} {base : Heap} {f : Addr} {fd : FuncData} {ps : List Str} {k : Nat} {x : Str} {sp : Sp} (F : FnOk P w K mg base CX0 k f fd ps sp) (g : mg x = some (.ref f)) (kp : PySem.W.keepIn K (.ref f) = true) (b : Binds K fd ps []) : Cal P w K mg base k x sp [] :=
  ⟨f, fd, ps, [], F, g, kp, b, .nil⟩
theorem met_of {P : Program} {w : World} {K : PySem.W.Frag} {mg : Str → Option Value} {base : Heap} {f C : Addr} {fd : FuncData} {ps : List Str} {k : Nat} {m : Str} {sp : Sp} (c : Cls K C) (h : Meth K C m f) (F : FnOk P w K mg base CX0 k f fd ps sp) (b : Binds K fd ps []) : Met P w K mg base k C m sp [] :=
  ⟨f, fd, ps, [], c, h, F, b, .nil⟩
theorem facts {P : Program} {w : World} {K : PySem.W.Frag} {h h0 : Heap} {mg : Str → Option Value} {f : Addr} (X : K.In h) (G : h.Ns mainGlobals mg) (hfa : mg ("law" : Str) = some (.ref f)) (c : He.SaysX fa fn [] [] xk w h0 K) :
    ∃ fd : FuncData, (∀ (s : Shared) (v : Value), BindsTo s fd ⟨[v], []⟩ [("_law_script", v)]) ∧ ∀ base : Heap, K.In base → base.Ns mainGlobals mg → GL.FnG P w K mg base 8 f fd ["_law_script"] (spLaw K) := by
  have d := c.t.d
  have x := c.more
  have gl : ∀ (i : Nat) (x : Str), fa[i]? = some (.glo x) → mg x = some (.ref (He.ga K x)) := fun i x e => He.glo_ok X G (d.fact i e)
  have fr : ∀ (i : Nat) (x : Str), fa[i]? = some (.free x) → mg x = none := fun i x e => He.free_ok X G (d.fact i e)
  have me : ∀ (i : Nat) (C m : Str), fa[i]? = some (.meth C m) → Meth K (He.ga K C) m (He.ma K (He.ga K C) m) := fun i C m e => He.meth_ok (d.fact i e)
  have gl_is_whole := gl 0 "is_whole" rfl
  have gl_is_between := gl 1 "is_between" rfl
  have gl_is_name := gl 2 "is_name" rfl
  have gl_is_mask := gl 3 "is_mask" rfl
  have gl_mask_text := gl 4 "mask_text" rfl
  have gl__law_pen := gl 5 "_law_pen" rfl
  have gl__law_draw := gl 6 "_law_draw" rfl
  have gl__law_names := gl 7 "_law_names" rfl
  have gl__law_things := gl 8 "_law_things" rfl
  have gl__law_three := gl 9 "_law_three" rfl
  have gl__law_made := gl 10 "_law_made" rfl
  have gl__law_other := gl 11 "_law_other" rfl
  have gl__law_is_one := gl 12 "_law_is_one" rfl
  have gl_law := gl 13 "law" rfl
  have fr_isinstance := fr 14 "isinstance" rfl
  have fr_int := fr 15 "int" rfl
  have fr_bool := fr 16 "bool" rfl
  have fr_str := fr 17 "str" rfl
  have fr_list := fr 18 "list" rfl
  have fr_range := fr 19 "range" rfl
  have fr_len := fr 20 "len" rfl
  have fr_all := fr 21 "all" rfl
  have fr_any := fr 22 "any" rfl
  have fr_max := fr 23 "max" rfl
  have fr_min := fr 24 "min" rfl
  have fr_repr := fr 25 "repr" rfl
  have gl_Person := gl 26 "Person" rfl
  have cls_Person := He.cls_ok (d.fact 27 (f := .cls "Person") rfl)
  have mk_Person := He.mkr_ok (d.fact 28 (f := .mkr "Person") rfl)
  have no_Person_name := He.noat_ok (d.fact 29 (f := .noat "Person" "name") rfl)
  have no_Person_seats := He.noat_ok (d.fact 30 (f := .noat "Person" "seats") rfl)
  have no_Person_mask := He.noat_ok (d.fact 31 (f := .noat "Person" "mask") rfl)
  have me_Person_eq := me 32 "Person" "__eq__" rfl
  have me_Person_str := me 33 "Person" "__str__" rfl
  have me_Person_repr := me 34 "Person" "__repr__" rfl
  have val_LAST_MASK := He.int_ok X G (d.fact 35 (f := .int "LAST_MASK" 127) rfl)
  have val_LONGEST_NAME := He.int_ok X G (d.fact 36 (f := .int "LONGEST_NAME" 8) rfl)
  have val_MOST_SEATS := He.int_ok X G (d.fact 37 (f := .int "MOST_SEATS" 9) rfl)
  obtain ⟨fd_is_whole, D_is_whole⟩ := d.def_ 2 (d := d_is_whole) rfl
  obtain ⟨fd_is_between, D_is_between⟩ := d.def_ 3 (d := d_is_between) rfl
  obtain ⟨fd_is_name, D_is_name⟩ := d.def_ 4 (d := d_is_name) rfl
  obtain ⟨fd_is_mask, D_is_mask⟩ := d.def_ 5 (d := d_is_mask) rfl
  obtain ⟨fd_mask_text, D_mask_text⟩ := d.def_ 6 (d := d_mask_text) rfl
  obtain ⟨fd_Person_init, D_Person_init⟩ := d.def_ 7 (d := d_Person_init) rfl
  obtain ⟨fd_Person_eq, D_Person_eq⟩ := d.def_ 8 (d := d_Person_eq) rfl
  obtain ⟨fd_Person_str, D_Person_str⟩ := d.def_ 9 (d := d_Person_str) rfl
  obtain ⟨fd_Person_repr, D_Person_repr⟩ := d.def_ 10 (d := d_Person_repr) rfl
  obtain ⟨fd_l_pen, D_l_pen⟩ := d.def_ 11 (d := d_l_pen) rfl
  obtain ⟨fd_l_draw, D_l_draw⟩ := d.def_ 12 (d := d_l_draw) rfl
  obtain ⟨fd_l_names, D_l_names⟩ := d.def_ 13 (d := d_l_names) rfl
  obtain ⟨fd_l_things, D_l_things⟩ := d.def_ 14 (d := d_l_things) rfl
  obtain ⟨fd_l_three, D_l_three⟩ := d.def_ 15 (d := d_l_three) rfl
  obtain ⟨fd_l_made, D_l_made⟩ := d.def_ 16 (d := d_l_made) rfl
  obtain ⟨fd_l_other, D_l_other⟩ := d.def_ 17 (d := d_l_other) rfl
  obtain ⟨fd_l_is_one, D_l_is_one⟩ := d.def_ 18 (d := d_l_is_one) rfl
  obtain ⟨fd_law, D_law⟩ := d.def_ 19 (d := d_law) rfl
  have e := hfa.symm.trans gl_law
  cases e
  have bL := FunD.bindsA (ps := ["_law_script"]) D_law fun _ _ _ _ _ _ us hl => match us, hl with | [_], _ => rfl
  refine ⟨fd_law, fun s v => bL s [v] rfl, fun base _ _ => ?_⟩
  have b_is_whole : Binds K fd_is_whole ["thing"] [] := D_is_whole.bindsN fun _ _ _ _ _ _ us hl => match us, hl with | [_], _ => rfl
  have b_is_between : Binds K fd_is_between ["thing", "low", "high"] [] := D_is_between.bindsN fun _ _ _ _ _ _ us hl => match us, hl with | [_, _, _], _ => rfl
  have b_is_name : Binds K fd_is_name ["thing"] [] := D_is_name.bindsN fun _ _ _ _ _ _ us hl => match us, hl with | [_], _ => rfl
  have b_is_mask : Binds K fd_is_mask ["thing"] [] := D_is_mask.bindsN fun _ _ _ _ _ _ us hl => match us, hl with | [_], _ => rfl
  have b_mask_text : Binds K fd_mask_text ["mask"] [] := D_mask_text.bindsN fun _ _ _ _ _ _ us hl => match us, hl with | [_], _ => rfl
  have b_Person_init : Binds K fd_Person_init ["self", "name", "seats", "mask"] [] := by
    obtain ⟨ds, h1, h2⟩ := D_Person_init.binds1 (ps := ["self", "name", "seats", "mask"]) 4 2 (List.cons_ne_nil _ _) rfl (fun T kV doc pm an cdv ct us its hl h1 => match us, hl, its, h1 with | [_, _, _, _], _, [_, _], _ => ⟨_, rfl, rfl⟩)
    cases h1
    exact h2
  obtain ⟨ds2_Person_init, v2_Person_init, b2_Person_init⟩ := D_Person_init.binds1 (ps := ["self", "name", "seats", "mask"]) 2 0 (List.cons_ne_nil _ _) rfl (fun T kV doc pm an cdv ct us its hl h1 => match us, hl, its, h1 with | [_, _], _, [_, _], _ => ⟨_, rfl, rfl⟩)
  obtain ⟨ds1_Person_init, v1_Person_init, b1_Person_init⟩ := D_Person_init.binds1 (ps := ["self", "name", "seats", "mask"]) 3 1 (List.cons_ne_nil _ _) rfl (fun T kV doc pm an cdv ct us its hl h1 => match us, hl, its, h1 with | [_, _, _], _, [_, _], _ => ⟨_, rfl, rfl⟩)
  have b_Person_eq : Binds K fd_Person_eq ["self", "other"] [] := D_Person_eq.bindsN fun _ _ _ _ _ _ us hl => match us, hl with | [_, _], _ => rfl
  have b_Person_str : Binds K fd_Person_str ["self"] [] := D_Person_str.bindsN fun _ _ _ _ _ _ us hl => match us, hl with | [_], _ => rfl
  have b_Person_repr : Binds K fd_Person_repr ["self"] [] := D_Person_repr.bindsN fun _ _ _ _ _ _ us hl => match us, hl with | [_], _ => rfl
  have b_l_pen : Binds K fd_l_pen ["_law_script"] [] := D_l_pen.bindsN fun _ _ _ _ _ _ us hl => match us, hl with | [_], _ => rfl
  have b_l_draw : Binds K fd_l_draw ["_law_pen_here", "_law_many"] [] := D_l_draw.bindsN fun _ _ _ _ _ _ us hl => match us, hl with | [_, _], _ => rfl
  have b_l_names : Binds K fd_l_names ["_law_pen_here", "_law_many"] [] := D_l_names.bindsN fun _ _ _ _ _ _ us hl => match us, hl with | [_, _], _ => rfl
  have b_l_things : Binds K fd_l_things [] [] := D_l_things.bindsN fun _ _ _ _ _ _ us hl => match us, hl with | [], _ => rfl
  have b_l_three : Binds K fd_l_three ["_law_thing"] [] := D_l_three.bindsN fun _ _ _ _ _ _ us hl => match us, hl with | [_], _ => rfl
  have b_l_made : Binds K fd_l_made ["_law_called", "_law_places", "_law_days"] [] := D_l_made.bindsN fun _ _ _ _ _ _ us hl => match us, hl with | [_, _, _], _ => rfl
  have b_l_other : Binds K fd_l_other ["_law_pen_here", "_law_called", "_law_places", "_law_days"] [] := D_l_other.bindsN fun _ _ _ _ _ _ us hl => match us, hl with | [_, _, _, _], _ => rfl
  have b_l_is_one : Binds K fd_l_is_one ["_law_one", "_law_other_here", "_law_is_due"] [] := D_l_is_one.bindsN fun _ _ _ _ _ _ us hl => match us, hl with | [_, _, _], _ => rfl
  have b_law : Binds K fd_law ["_law_script"] [] := D_law.bindsN fun _ _ _ _ _ _ us hl => match us, hl with | [_], _ => rfl
  obtain ⟨IP, OC⟩ := xk_ok x
  have B : Bl mg := ⟨fr_isinstance, fr_int, fr_bool, fr_str, fr_list, fr_range, fr_len, fr_all, fr_any, fr_max, fr_min⟩
  have T : ClP K mg (He.ga K "Person") := ⟨cls_Person, no_Person_name, no_Person_seats, no_Person_mask, gl_Person⟩
  have cW : CalW P w K mg base := cal_of (ok_whole D_is_whole B) gl_is_whole D_is_whole.kp b_is_whole
  have cB : CalB P w K mg base := cal_of (ok_between D_is_between cW) gl_is_between D_is_between.kp b_is_between
  have cNa := cal_of (P := P) (w := w) (base := base) (ok_name D_is_name B val_LONGEST_NAME) gl_is_name D_is_name.kp b_is_name
  have cMa := cal_of (ok_mask D_is_mask cB val_LAST_MASK) gl_is_mask D_is_mask.kp b_is_mask
  have cMt := cal_of (P := P) (w := w) (base := base) (ok_mt D_mask_text) gl_mask_text D_mask_text.kp b_mask_text
  have FP := ok_pinit D_Person_init cNa cB cMa T val_MOST_SEATS
  have MP : Mak P w K mg base 4 "Person" (He.ga K "Person") (spPI (He.ga K "Person")) [] := ⟨_, _, _, _, mk_Person, FP, T.g, b_Person_init, .nil⟩
  have MP1 : Mak P w K mg base 4 "Person" (He.ga K "Person") (spPI (He.ga K "Person")) [.int 31] := ⟨_, _, _, _, mk_Person, FP, T.g, b1_Person_init, v1_Person_init⟩
  have MP2 : Mak P w K mg base 4 "Person" (He.ga K "Person") (spPI (He.ga K "Person")) [.int 0, .int 31] := ⟨_, _, _, _, mk_Person, FP, T.g, b2_Person_init, v2_Person_init⟩
  obtain ⟨_, k2⟩ := KW.kb1 (ps := psP) D_Person_init 3 ["mask"] (fun us its ws => us ++ ws) (List.cons_ne_nil _ _) (fun r _ s => r.append s) (fun T kV doc pm an cdv ct us its ws h1 h2 h3 => match us, h1, its, h2, ws, h3 with | [_, _, _], _, [_, _], _, [_], _ => ⟨_, rfl, rfl⟩)
  obtain ⟨_, k3⟩ := KW.kb1 (ps := psP) D_Person_init 2 ["mask", "seats"] (fun us its ws => us ++ ws.reverse) (List.cons_ne_nil _ _) (fun r _ s => r.append (KW.vals_rev s)) (fun T kV doc pm an cdv ct us its ws h1 h2 h3 => match us, h1, its, h2, ws, h3 with | [_, _], _, [_, _], _, [_, _], _ => ⟨_, rfl, rfl⟩)
  obtain ⟨_, k4⟩ := KW.kb1 (ps := psP) D_Person_init 1 ["mask", "seats", "name"] (fun us its ws => us ++ ws.reverse) (List.cons_ne_nil _ _) (fun r _ s => r.append (KW.vals_rev s)) (fun T kV doc pm an cdv ct us its ws h1 h2 h3 => match us, h1, its, h2, ws, h3 with | [_], _, [_, _], _, [_, _, _], _ => ⟨_, rfl, rfl⟩)
  obtain ⟨_, k5⟩ := KW.kb1 (ps := psP) D_Person_init 1 ["name", "seats", "mask"] (fun us its ws => us ++ ws) (List.cons_ne_nil _ _) (fun r _ s => r.append s) (fun T kV doc pm an cdv ct us its ws h1 h2 h3 => match us, h1, its, h2, ws, h3 with | [_], _, [_, _], _, [_, _, _], _ => ⟨_, rfl, rfl⟩)
  obtain ⟨i7, k7⟩ := KW.kb1 (ps := psP) D_Person_init 2 ["seats"] (fun us its ws => us ++ (ws ++ its.drop 1)) (List.cons_ne_nil _ _) (fun r d s => r.append (s.append (d.drop 1))) (fun T kV doc pm an cdv ct us its ws h1 h2 h3 => match us, h1, its, h2, ws, h3 with | [_, _], _, [_, _], _, [_], _ => ⟨_, rfl, rfl⟩)
  obtain ⟨i8, k8⟩ := KW.kb1 (ps := psP) D_Person_init 2 ["mask"] (fun us its ws => us ++ (its.take 1 ++ ws)) (List.cons_ne_nil _ _) (fun r d s => r.append ((d.take 1).append s)) (fun T kV doc pm an cdv ct us its ws h1 h2 h3 => match us, h1, its, h2, ws, h3 with | [_, _], _, [_, _], _, [_], _ => ⟨_, rfl, rfl⟩)
  obtain ⟨i9, k9⟩ := KW.kb1 (ps := psP) D_Person_init 1 ["mask", "name"] (fun us its ws => us ++ ((ws.drop 1).take 1 ++ (its.take 1 ++ ws.take 1))) (List.cons_ne_nil _ _) (fun r d s => r.append (((s.drop 1).take 1).append ((d.take 1).append (s.take 1)))) (fun T kV doc pm an cdv ct us its ws h1 h2 h3 => match us, h1, its, h2, ws, h3 with | [_], _, [_, _], _, [_, _], _ => ⟨_, rfl, rfl⟩)
  obtain ⟨i11, k11⟩ := KW.kb1 (ps := psP) D_Person_init 1 ["name"] (fun us its ws => us ++ (ws ++ its)) (List.cons_ne_nil _ _) (fun r d s => r.append (s.append d)) (fun T kV doc pm an cdv ct us its ws h1 h2 h3 => match us, h1, its, h2, ws, h3 with | [_], _, [_, _], _, [_], _ => ⟨_, rfl, rfl⟩)
  have Se : OW.Spc P w K mg base 1 (He.ga K "Person") "__eq__" (spEq K (He.ga K "Person")) := ⟨_, _, _, me_Person_eq.at_, me_Person_eq.fn, ok_eq D_Person_eq B T IP, b_Person_eq⟩
  have Ss : OW.Spc P w K mg base 2 (He.ga K "Person") "__str__" (spTx (He.ga K "Person") strL) := ⟨_, _, _, me_Person_str.at_, me_Person_str.fn, ok_str D_Person_str T cMt, b_Person_str⟩
  have Sr : OW.Spc P w K mg base 1 (He.ga K "Person") "__repr__" (spTx (He.ga K "Person") repL) := ⟨_, _, _, me_Person_repr.at_, me_Person_repr.fn, ok_repr D_Person_repr T, b_Person_repr⟩
  have cP := cal_of (P := P) (w := w) (base := base) (ok_pen D_l_pen B) gl__law_pen D_l_pen.kp b_l_pen
  have cD : CalD P w K mg base := cal_of (ok_draw D_l_draw B) gl__law_draw D_l_draw.kp b_l_draw
  have cN := cal_of (ok_names D_l_names B cD) gl__law_names D_l_names.kp b_l_names
  have cTh := cal_of (P := P) (w := w) (base := base) (ok_th D_l_things) gl__law_things D_l_things.kp b_l_things
  have cMd := cal_of (ok_md D_l_made T MP MP1 MP2 mk_Person FP k2 k3 k4 k5 k7 k8 k9 k11) gl__law_made D_l_made.kp b_l_made
  have cOt := cal_of (ok_ot D_l_other B cD cN MP) gl__law_other D_l_other.kp b_l_other
  have cIs : GL.CalG P w K mg base 5 "_law_is_one" (spIs (He.ga K "Person")) [] := ⟨_, _, _, _, ok_is D_l_is_one fr_repr Se OC, gl__law_is_one, D_l_is_one.kp, b_l_is_one, .nil⟩
  have c3 : GL.CalG P w K mg base 4 "_law_three" (sp3 (He.ga K "Person")) [] := ⟨_, _, _, _, ok_3 D_l_three fr_repr T, gl__law_three, D_l_three.kp, b_l_three, .nil⟩
  exact ok_law D_law B fr_repr T cP cD cN MP cTh cMd cOt cIs c3 Ss Sr
end K08
open PySem PySem.W PySem.Calls PyProof.Rows
set_option maxRecDepth 100000 in
set_option maxHeartbeats 0 in
theorem PySem.Challenge.cw_rideturns_k08_persons_made_and_shown_holds : PySem.Challenge.rw_rideturns_k08_persons_made_and_shown.Holds := by
  w_on; o_law
  refine HandSHeadRun.head_any (r := OpenLaw.row PySem.Challenge.rw_rideturns_k08_persons_made_and_shown) (q := view (OpenLaw.row PySem.Challenge.rw_rideturns_k08_persons_made_and_shown).prog [24]) (H := K08.hk) (ob := K08.ob) (M := 6000) (loose := K08.loose) (d := HandSHeadRun.topDef (OpenLaw.row PySem.Challenge.rw_rideturns_k08_persons_made_and_shown).prog 24) (kwd := []) K08.ob_eq
    (by kernel_rfl) (fun s => by kernel_rfl) K08.run_ (by kernel_rfl) (by kernel_rfl) (by kernel_rfl) (by rfl) (by first | assumption | decide +kernel) (by decide +kernel) ⟨rfl, rfl, rfl, rfl, rfl, by decide +kernel⟩ ?hw ?hc
  case hw => w_witness2
  case hc =>
    refine GL.walkG (l := PySem.Challenge.rw_rideturns_k08_persons_made_and_shown) (n := 63) (k := 8) (x := "_law_script") rfl (by decide) (by kernel_rfl) ⟨rfl, by decide, by decide⟩ ?F
    intro w mg fa h Y G hmg0
    obtain ⟨K, KX, c⟩ := Y
    have hmg : mg ("law" : PySem.Str) = some (.ref fa) := by
      have e : (HandSHeadRun.topDef (OpenLaw.row PySem.Challenge.rw_rideturns_k08_persons_made_and_shown).prog 24).name = ("law" : PySem.Str) := by kernel_rfl
      rw [← e]
      exact hmg0
    obtain ⟨fd, hb, hF⟩ := K08.facts (P := (PySem.Challenge.rw_rideturns_k08_persons_made_and_shown).prog) (w := w) KX G hmg c
    exact ⟨K, fd, K08.spLaw K, KX, hb, fun H a ns hl hS => ⟨a, ns, rfl, hS, hl, fun _ => rfl⟩, hF⟩
