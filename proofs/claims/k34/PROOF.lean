import PyProof.Rows.All
import Wide.All
import OpenK.AllK
import Wide.FinOn
import HandS.ForMost
import HandS.ForExc
import HandS.Defaults
import HandS.Codes
import HandS.IsInst
import HandS.Wide
import HandS.Flow
import HandS.Evl
import HandS.Steps
import HandS.ExcField
import HandS.Head0
import HandS.Head1
import HandS.Head2
import HandS.HeadEnd
import HandS.HeadHook1
import HandS.HeadHook2
import HandS.HeadHook3
import HandS.HeadHook4
import KE.KExcInit
import HandS.ExcInit
import HandS.Words
import HandS.MakeKw
import HandS.MakeKwOnly
import KE.KEqSeq
import PySem.Challenge.RW_rideturns_k34_bounds_by_the_sums
set_option Elab.async false
set_option linter.all false
set_option maxRecDepth 100000
set_option maxHeartbeats 4000000
namespace K34
open PySem PySem.Spec PyProof.Rows L2
def top (i : Nat) : Stmt := PySem.Challenge.pw_rideturns_k34_bounds_by_the_sums.main.body.getD i (.Pass ⟨0, 0, 0, 0⟩)
abbrev s__wall : Stmt := top 0
abbrev N__wall : List Str := ["k"]
theorem sc__wall : FnScope N__wall ["k"] (defScope s__wall) := ⟨rfl, rfl, rfl, by decide +kernel, rfl, by decide +kernel, by decide +kernel⟩
def d__wall : He.DefD := ⟨("_wall", none), "_wall", "_wall", defArgs s__wall, defBody s__wall, defScope s__wall, [], []⟩
abbrev s_NoKind_init : Stmt := inClass (top 2) 0
abbrev N_NoKind_init : List Str := ["self", "thing"]
theorem sc_NoKind_init : FnScope N_NoKind_init ["self", "thing"] (defScope s_NoKind_init) := ⟨rfl, rfl, rfl, by decide +kernel, rfl, by decide +kernel, by decide +kernel⟩
def d_NoKind_init : He.DefD := ⟨("NoKind", some "__init__"), "__init__", "NoKind.__init__", defArgs s_NoKind_init, defBody s_NoKind_init, defScope s_NoKind_init, [], []⟩
abbrev s_Nought_init : Stmt := inClass (top 3) 0
abbrev N_Nought_init : List Str := ["self", "top"]
theorem sc_Nought_init : FnScope N_Nought_init ["self", "top"] (defScope s_Nought_init) := ⟨rfl, rfl, rfl, by decide +kernel, rfl, by decide +kernel, by decide +kernel⟩
def d_Nought_init : He.DefD := ⟨("Nought", some "__init__"), "__init__", "Nought.__init__", defArgs s_Nought_init, defBody s_Nought_init, defScope s_Nought_init, [], []⟩
abbrev s_is_whole : Stmt := top 5
abbrev N_is_whole : List Str := ["thing"]
theorem sc_is_whole : FnScope N_is_whole ["thing"] (defScope s_is_whole) := ⟨rfl, rfl, rfl, by decide +kernel, rfl, by decide +kernel, by decide +kernel⟩
def d_is_whole : He.DefD := ⟨("is_whole", none), "is_whole", "is_whole", defArgs s_is_whole, defBody s_is_whole, defScope s_is_whole, [], []⟩
abbrev s_common_part : Stmt := top 7
abbrev N_common_part : List Str := ["one", "other"]
theorem sc_common_part : FnScope N_common_part ["one", "other"] (defScope s_common_part) := ⟨rfl, rfl, rfl, by decide +kernel, rfl, by decide +kernel, by decide +kernel⟩
def d_common_part : He.DefD := ⟨("common_part", none), "common_part", "common_part", defArgs s_common_part, defBody s_common_part, defScope s_common_part, [], []⟩
abbrev s_Share_init : Stmt := inClass (top 8) 0
abbrev N_Share_init : List Str := ["self", "top", "bottom", "thing", "common"]
theorem sc_Share_init : FnScope N_Share_init ["self", "top", "bottom"] (defScope s_Share_init) := ⟨rfl, rfl, rfl, by decide +kernel, rfl, by decide +kernel, by decide +kernel⟩
def d_Share_init : He.DefD := ⟨("Share", some "__init__"), "__init__", "Share.__init__", defArgs s_Share_init, defBody s_Share_init, defScope s_Share_init, [.int 1], []⟩
abbrev s_Share_eq : Stmt := inClass (top 8) 1
abbrev N_Share_eq : List Str := ["self", "other"]
theorem sc_Share_eq : FnScope N_Share_eq ["self", "other"] (defScope s_Share_eq) := ⟨rfl, rfl, rfl, by decide +kernel, rfl, by decide +kernel, by decide +kernel⟩
def d_Share_eq : He.DefD := ⟨("Share", some "__eq__"), "__eq__", "Share.__eq__", defArgs s_Share_eq, defBody s_Share_eq, defScope s_Share_eq, [], []⟩
abbrev s_Share_str : Stmt := inClass (top 8) 2
abbrev N_Share_str : List Str := ["self"]
theorem sc_Share_str : FnScope N_Share_str ["self"] (defScope s_Share_str) := ⟨rfl, rfl, rfl, by decide +kernel, rfl, by decide +kernel, by decide +kernel⟩
def d_Share_str : He.DefD := ⟨("Share", some "__str__"), "__str__", "Share.__str__", defArgs s_Share_str, defBody s_Share_str, defScope s_Share_str, [], []⟩
abbrev s_Share_repr : Stmt := inClass (top 8) 3
abbrev N_Share_repr : List Str := ["self"]
theorem sc_Share_repr : FnScope N_Share_repr ["self"] (defScope s_Share_repr) := ⟨rfl, rfl, rfl, by decide +kernel, rfl, by decide +kernel, by decide +kernel⟩
def d_Share_repr : He.DefD := ⟨("Share", some "__repr__"), "__repr__", "Share.__repr__", defArgs s_Share_repr, defBody s_Share_repr, defScope s_Share_repr, [], []⟩
abbrev s_Share_plus : Stmt := inClass (top 8) 4
abbrev N_Share_plus : List Str := ["self", "other"]
theorem sc_Share_plus : FnScope N_Share_plus ["self", "other"] (defScope s_Share_plus) := ⟨rfl, rfl, rfl, by decide +kernel, rfl, by decide +kernel, by decide +kernel⟩
def d_Share_plus : He.DefD := ⟨("Share", some "plus"), "plus", "Share.plus", defArgs s_Share_plus, defBody s_Share_plus, defScope s_Share_plus, [], []⟩
abbrev s_Share_less : Stmt := inClass (top 8) 5
abbrev N_Share_less : List Str := ["self", "other"]
theorem sc_Share_less : FnScope N_Share_less ["self", "other"] (defScope s_Share_less) := ⟨rfl, rfl, rfl, by decide +kernel, rfl, by decide +kernel, by decide +kernel⟩
def d_Share_less : He.DefD := ⟨("Share", some "less"), "less", "Share.less", defArgs s_Share_less, defBody s_Share_less, defScope s_Share_less, [], []⟩
abbrev s_Share_times : Stmt := inClass (top 8) 6
abbrev N_Share_times : List Str := ["self", "many"]
theorem sc_Share_times : FnScope N_Share_times ["self", "many"] (defScope s_Share_times) := ⟨rfl, rfl, rfl, by decide +kernel, rfl, by decide +kernel, by decide +kernel⟩
def d_Share_times : He.DefD := ⟨("Share", some "times"), "times", "Share.times", defArgs s_Share_times, defBody s_Share_times, defScope s_Share_times, [], []⟩
abbrev s_Share_over : Stmt := inClass (top 8) 7
abbrev N_Share_over : List Str := ["self", "many"]
theorem sc_Share_over : FnScope N_Share_over ["self", "many"] (defScope s_Share_over) := ⟨rfl, rfl, rfl, by decide +kernel, rfl, by decide +kernel, by decide +kernel⟩
def d_Share_over : He.DefD := ⟨("Share", some "over"), "over", "Share.over", defArgs s_Share_over, defBody s_Share_over, defScope s_Share_over, [], []⟩
abbrev s_Share_below : Stmt := inClass (top 8) 8
abbrev N_Share_below : List Str := ["self", "other"]
theorem sc_Share_below : FnScope N_Share_below ["self", "other"] (defScope s_Share_below) := ⟨rfl, rfl, rfl, by decide +kernel, rfl, by decide +kernel, by decide +kernel⟩
def d_Share_below : He.DefD := ⟨("Share", some "below"), "below", "Share.below", defArgs s_Share_below, defBody s_Share_below, defScope s_Share_below, [], []⟩
abbrev s_Share_whole : Stmt := inClass (top 8) 9
abbrev N_Share_whole : List Str := ["self"]
theorem sc_Share_whole : FnScope N_Share_whole ["self"] (defScope s_Share_whole) := ⟨rfl, rfl, rfl, by decide +kernel, rfl, by decide +kernel, by decide +kernel⟩
def d_Share_whole : He.DefD := ⟨("Share", some "whole"), "whole", "Share.whole", defArgs s_Share_whole, defBody s_Share_whole, defScope s_Share_whole, [], []⟩
abbrev s_never_beyond : Stmt := top 10
abbrev N_never_beyond : List Str := ["many", "grain", "spare", "owed", "owes", "place", "step"]
theorem sc_never_beyond : FnScope N_never_beyond ["many", "grain"] (defScope s_never_beyond) := ⟨rfl, rfl, rfl, by decide +kernel, rfl, by decide +kernel, by decide +kernel⟩
def d_never_beyond : He.DefD := ⟨("never_beyond", none), "never_beyond", "never_beyond", defArgs s_never_beyond, defBody s_never_beyond, defScope s_never_beyond, [.int 0], []⟩
abbrev s_l_held : Stmt := top 12
abbrev N_l_held : List Str := ["_law_script"]
theorem sc_l_held : FnScope N_l_held ["_law_script"] (defScope s_l_held) := ⟨rfl, rfl, rfl, by decide +kernel, rfl, by decide +kernel, by decide +kernel⟩
def d_l_held : He.DefD := ⟨("_law_held", none), "_law_held", "_law_held", defArgs s_l_held, defBody s_l_held, defScope s_l_held, [], []⟩
abbrev s_l_draw : Stmt := top 13
abbrev N_l_draw : List Str := ["_law_held_here", "_law_count", "_law_found", "_law_at", "_law_cell", "_law_number"]
theorem sc_l_draw : FnScope N_l_draw ["_law_held_here", "_law_count"] (defScope s_l_draw) := ⟨rfl, rfl, rfl, by decide +kernel, rfl, by decide +kernel, by decide +kernel⟩
def d_l_draw : He.DefD := ⟨("_law_draw", none), "_law_draw", "_law_draw", defArgs s_l_draw, defBody s_l_draw, defScope s_l_draw, [], []⟩
abbrev s_l_low : Stmt := top 14
abbrev N_l_low : List Str := ["_law_top", "_law_bottom", "_law_one", "_law_other"]
theorem sc_l_low : FnScope N_l_low ["_law_top", "_law_bottom"] (defScope s_l_low) := ⟨rfl, rfl, rfl, by decide +kernel, rfl, by decide +kernel, by decide +kernel⟩
def d_l_low : He.DefD := ⟨("_law_low", none), "_law_low", "_law_low", defArgs s_l_low, defBody s_l_low, defScope s_l_low, [], []⟩
abbrev s_l_add : Stmt := top 15
abbrev N_l_add : List Str := ["_law_one", "_law_other"]
theorem sc_l_add : FnScope N_l_add ["_law_one", "_law_other"] (defScope s_l_add) := ⟨rfl, rfl, rfl, by decide +kernel, rfl, by decide +kernel, by decide +kernel⟩
def d_l_add : He.DefD := ⟨("_law_add", none), "_law_add", "_law_add", defArgs s_l_add, defBody s_l_add, defScope s_l_add, [], []⟩
abbrev s_l_pair : Stmt := top 16
abbrev N_l_pair : List Str := ["_law_share", "_law_part"]
theorem sc_l_pair : FnScope N_l_pair ["_law_share"] (defScope s_l_pair) := ⟨rfl, rfl, rfl, by decide +kernel, rfl, by decide +kernel, by decide +kernel⟩
def d_l_pair : He.DefD := ⟨("_law_pair", none), "_law_pair", "_law_pair", defArgs s_l_pair, defBody s_l_pair, defScope s_l_pair, [], []⟩
abbrev s_l_bound : Stmt := top 17
abbrev N_l_bound : List Str := ["_law_count", "_law_fine", "_law_owed", "_law_owes", "_law_m", "_law_step"]
theorem sc_l_bound : FnScope N_l_bound ["_law_count", "_law_fine"] (defScope s_l_bound) := ⟨rfl, rfl, rfl, by decide +kernel, rfl, by decide +kernel, by decide +kernel⟩
def d_l_bound : He.DefD := ⟨("_law_bound", none), "_law_bound", "_law_bound", defArgs s_l_bound, defBody s_l_bound, defScope s_l_bound, [], []⟩
abbrev s_law : Stmt := top 18
abbrev N_law : List Str := ["_law_script", "_law_held_here", "_law_turn", "_law_count", "_law_fine", "_law_asked", "_law_found", "_law_due", "_law_share"]
theorem sc_law : FnScope N_law ["_law_script"] (defScope s_law) := ⟨rfl, rfl, rfl, by decide +kernel, rfl, by decide +kernel, by decide +kernel⟩
def d_law : He.DefD := ⟨("law", none), "law", "law", defArgs s_law, defBody s_law, defScope s_law, [], []⟩
def fn : List He.DefD := [d__wall, d_NoKind_init, d_Nought_init, d_is_whole, d_common_part, d_Share_init, d_Share_eq, d_Share_str, d_Share_repr, d_Share_plus, d_Share_less, d_Share_times, d_Share_over, d_Share_below, d_Share_whole, d_never_beyond, d_l_held, d_l_draw, d_l_low, d_l_add, d_l_pair, d_l_bound, d_law]
end K34
set_option Elab.async false
set_option linter.all false
set_option maxRecDepth 100000
set_option maxHeartbeats 4000000
/-! GX: own exceptions over any built-in base, whose own __init__ calls the base's and stores a field. -/
namespace GX
open PySem PySem.Spec PyProof.Rows L2

/-- what the written part tells of the class -/
structure Gx (K : PySem.W.Frag) (C : Addr) (bmB : List Value) (nid : String) : Prop where
  over : PySem.W.excOver K C bmB = true
  made : PySem.W.excInitIn K C bmB nid = true
  hasd : ∃ cd, PySem.W.clsIn K C = some cd ∧ cd.hasDict = true
  sets : PySem.W.findIn K (.ref C) "__setattr__" = some (some (.builtin "object.__setattr__"))
  base : PySem.W.subIn K (.ref C) (.type "BaseException") = some true
  typ : PySem.W.typeIn K (.ref C) = some (.type "type")
  keep : PySem.W.keepIn K (.ref C) = true

section
open Builtin Builtin.ObjectAttr
variable {prog : Program} {w : World} {A : Around} {R : Result → Shared → Prop} {hp : Heap} {g : Array GenState} {d : Drawn} {t : Nat} {os : OsState} {B : String} {bmB : List Value}
theorem first_store {K : PySem.W.Frag} {name : Str} {tk : Tok} {v : Value} {x C : Addr} {fv : Array Value} {cd : ClassData} (SF : StoreFacts B bmB "object.__setattr__" "object")
    (X : K.In hp) (hx : hp.get? x = some { cls := .ref C, data := .fields fv }) (ho : PySem.W.excOver K C bmB = true) (hc : PySem.W.clsIn K C = some cd) (hd : cd.hasDict = true)
    (hf : PySem.W.findIn K (.ref C) name = some none)
    (post : ∀ h' tk' dx, (∀ b o, b ≠ x → hp.get? b = some o → h'.get? b = some o) → hp.objs.size ≤ dx → dx ≠ x →
      h'.get? x = some { cls := .ref C, dict := some dx, data := .fields fv } → h'.Ns1 dx (fun y => if y = name then some v else none) → R (.ok (.ret .none)) ⟨h', g, d, tk', os⟩) :
    codeAny (model prog w) A (.call (.builtin "object.__setattr__") ⟨[.ref x, .str name tk, v], []⟩) R ⟨hp, g, d, t, os⟩ := by
  have inst : PySem.W.InstAt hp x { cls := .ref C, data := .fields fv } C none := ⟨hx, rfl, rfl, trivial⟩
  have far : x ≠ hp.objs.size := Nat.ne_of_lt (Heap.lt_size hx)
  have lc : PySem.W.Looks (model prog w) hp (classData C) cd := PySem.W.looks_clsIn X hc
  refine PySem.W.osa_openX (r := none) SF X inst ho (by unfold PySem.W.takerIn; rw [hf]; rfl) fun b => ?_
  dsimp only
  obtain ⟨n1, n2, n3, n4, n5, n6, n7, n8, n9, n10, n11⟩ := cd
  dsimp only at hd
  subst hd
  unfold storeInOwnDict ownDictForStores
  repeat (first | with_reducible refine PySem.HandSPX.store_in_new ?_ ?_ | with_reducible refine wpAny_loadPart_at hx ?_ | with_reducible refine lc.at ?_ | wp_step)
  · exact ⟨_, #[], _, (Heap.get?_update_ne _ _ _ _ far.symm).trans (Heap.get?_push_at rfl rfl), rfl, fun e he => absurd he (by simp), fun _ => rfl⟩
  · intro h' tk' hn hs
    have hx1 : (hp.push { cls := .type "dict", data := .dict #[] }).get? x = some { cls := .ref C, data := .fields fv } := Heap.get?_push_of_some _ hx
    refine post h' tk' hp.objs.size (fun b o hb hob => ?_) (Nat.le_refl _) far.symm ?_ hn
    · have e1 := hs.2 b (Nat.ne_of_lt (Heap.lt_size hob))
      rw [e1, Heap.get?_update_ne _ _ _ _ hb]
      exact Heap.get?_push_of_some _ hob
    · rw [hs.2 x far]
      exact Heap.get?_update_self _ hx1 rfl
end

section
variable {X : Cx} {pins : List (Addr × Obj)} {σ : L2.St} {H : Hp} {s : Shared} {a C dx : Addr} {f : Str} {y : V} {u : Value} {Q : Unit → Shared → Prop} {E : Value → Shared → Prop} {A : Around} {B : String} {bmB : List Value} {nid iid : String}
/-- self.f = y, the first store -/
theorem put_first (SF : StoreFacts B bmB "object.__setattr__" "object") (T : Gx X.K C bmB nid) (I : Inv X pins σ H s) (e : H a = some (exo a C none)) (hno : PySem.W.findIn X.K (.ref C) f = some none) (ry : RelV y u)
    (post : ∀ dx s', H dx = none → dx ≠ a → Inv X pins σ (upd (upd H dx (exd dx [(f, y)])) a (exo a C (some dx))) s' → Q () s') : wpAny (model X.prog X.w) A (setAttr (.ref a) f u) Q E s := by
  obtain ⟨cd, hcd, hdd⟩ := T.hasd
  obtain ⟨t1, at1⟩ := exo_at I.hok e
  obtain ⟨hp, g, d, t, os⟩ := s
  refine PySem.W.set_plain I.kIn (ox := { cls := .ref C, dict := none, data := .fields #[.ref t1, .none, .none, .none, .bool false, .none] }) (od := none) ⟨at1, rfl, rfl, trivial⟩ T.sets ?_
  refine first_store SF I.kIn at1 T.over hcd hdd hno (fun h' tk' dx kp dn dne hx hn => ?_)
  have fresh : H dx = none := I.hok.fresh dn
  have old : ∀ {b : Addr} {o : Obj}, hp.get? b = some o → b ≠ dx := fun {b o} q => Nat.ne_of_lt (Nat.lt_of_lt_of_le (Heap.lt_size q) dn)
  have other : ∀ {b : Addr}, H b = none → b ≠ a := fun {b} n z => by
    rw [z, e] at n
    cases n
  have un : Un X.fs [] H (upd (upd H dx (exd dx [(f, y)])) a (exo a C (some dx))) hp h' := {
    keep := fun b o q n _ _ => kp b o (other n) q
    slot := fun b o q n _ _ => ⟨o.slots, kp b o (other n) q⟩
    free := fun b o q n _ => by rw [upd_ne (other n), upd_ne (old q)]; exact n
    there := fun b o q _ => by
      by_cases hb : b = a
      · exact ⟨_, hb ▸ hx⟩
      · exact ⟨o, kp b o hb q⟩
    tups := fun b xs q => by rw [upd_ne (at_ne e q exo_tup), upd_ne (ne_of_none q fresh)]; exact q
    frzs := fun b o v q => by rw [upd_ne (at_ne e q exo_frz), upd_ne (ne_of_none q fresh)]; exact q
    tbls := fun b ps q => ⟨#[], by rw [upd_ne (at_ne e q exo_tbl), upd_ne (ne_of_none q fresh), q]; simp⟩ }
  refine post dx _ fresh dne (I.un (t' := tk') un fun b o q => ?_)
  by_cases hb : b = a
  · subst hb
    rw [upd_same] at q
    cases q
    exact exo_ok hx
  · rw [upd_ne hb] at q
    by_cases hd : b = dx
    · subst hd
      rw [upd_same] at q
      cases q
      exact exd_ok hn (relO_put (fs := []) ry fun g => True.intro)
    · rw [upd_ne hd] at q
      refine (I.hok b o q).stay (fun c v hc z => kp c v ?_ z) (fun c hc => ?_) (fun c xs hc => ?_)
      · rcases hc with hc | hc
        · exact hc ▸ hb
        · exact at_ne e hc exo_own
      · rw [upd_ne (at_ne e hc exo_own), upd_ne (ne_of_none hc fresh)]; exact hc
      · rw [upd_ne (at_ne e hc exo_tup), upd_ne (ne_of_none hc fresh)]; exact hc
/-- Base.__init__(self, ..) -/
theorem base_init {us : List Value} {Q : Value → Shared → Prop} (FB : ExcBaseFacts B nid iid bmB) (T : Gx X.K C bmB nid) (I : Inv X pins σ H s) (e : H a = some (exo a C none)) (hl : us.length ≤ sizeLine) (post : ∀ s', Inv X pins σ H s' → Q .none s') :
    wpAny (model X.prog X.w) A (call (.builtin iid) (.ref a :: us)) Q E s := by
  obtain ⟨nm, N, qn, bs, bm, hdct, sn, sub, ab, col, dd, k0, k1, k2, k3, k5, hC, hT⟩ := PySem.W.excInit_of I.kIn T.made
  obtain ⟨t1, at1⟩ := exo_at I.hok e
  obtain ⟨hp, g, d, t, os⟩ := s
  refine wpAny_call (PySem.HandSPX.init_base FB hT hC at1 hl fun h' t2 kp hx => ?_)
  have J := I.write (t' := t) (x := a) (e := a) (o := exo a C none) (by rw [e]; exact True.intro) (.inl rfl) kp ⟨_, hx⟩ (exo_ok hx)
  have same : upd H a (exo a C none) = H := funext fun b => by
    by_cases hb : b = a
    · rw [hb, upd_same, e]
    · rw [upd_ne hb]
  rw [same] at J
  exact post _ J
end

/-! ### readings and rules -/
/-- Base.__init__(self, ..) -/
def tBi (K : PySem.W.Frag) (bmB : List Value) (nid : String) (ta : TA) : TE := fun σ H Q => ta σ H fun vs H1 => ∃ (a C : Addr) (ws : List V), vs = .ref a :: ws ∧ ws.length ≤ 1000 ∧ Gx K C bmB nid ∧ H1 a = some (exo a C none) ∧ Q .non H1
/-- self.f = e, the first one -/
def tPf (K : PySem.W.Frag) (bmB : List Value) (nid : String) (f : Str) (to te : TE) : TS := fun D σ H => te σ H fun y H1 => to σ H1 fun x H2 => ∃ a C : Addr, x = .ref a ∧ Gx K C bmB nid ∧ PySem.W.findIn K (.ref C) f = some none ∧
  H2 a = some (exo a C none) ∧ ∀ dx, H2 dx = none → dx ≠ a → D.nx σ (upd (upd H2 dx (exd dx [(f, y)])) a (exo a C (some dx)))
section
variable {X : Cx} {o e : Expr} {es : List Expr} {to te : TE} {ta : TA} {f : Str} {p p' p1 p2 pos : Pos} {B nid iid : String} {bmB : List Value} {x : Str}
theorem pe_bi {pl : Sem Bool} (FB : ExcBaseFacts B nid iid bmB) (hg : Gl X x) (hm : X.mg x = none) (hv : bootBuiltins x = some (.type B)) (ty : typeOf (.type B) = pure (.type "type"))
    (vV : PySem.W.findCls X.K (.type B) (.type "type") "__init__" = some (.val (.builtin iid))) (hb : PySem.W.handedIn (.builtin iid) = true) (hst : Manifest.isStub B = false) (ha : PA X (e :: es) ta)
    (hc : eval (.Call (.Attribute (.Name x p1) "__init__" p2) (e :: es) [] pos) X.env = (do
      let ov ← eval (.Name x p1) X.env
      standAt p2.atName
      let (f, first) ← holding [ov] (getMethod ov "__init__" pl)
      callWith pos f first (backTo pos (starEach (e :: es) X.env)) (backToKw pos (keywordEach [] X.env))) := by rfl)
    (hn : x ≠ "__name__" := by decide) (hd : (x == ("__debug__" : Str)) = false := by decide)
    (he : starEach (e :: es) X.env = (false, eval e X.env) :: starEach es X.env := by rfl) (hpl : (backTo pos (starEach es X.env)).any (·.1) = false := by rfl) :
    PE X (.Call (.Attribute (.Name x p1) "__init__" p2) (e :: es) [] pos) (tBi X.K bmB nid ta) := by
  refine ⟨fun pins s σ H Q I h => ?_⟩
  refine PySem.W.methodCall_KW (ld_blt I hg hm hv ?_ hn hd) hc
  obtain ⟨m, fr⟩ := I.fr
  refine PySem.W.method_type fr I.ok.mod.kin ty hst vV hb ?_
  show wpAny _ _ (callWith pos (Value.builtin iid) [] (backTo pos (starEach (e :: es) X.env)) []) _ _ _
  refine PyProof.Rows.callWith_method1 (thn (ha.run pos pins _ σ H _ (I.tok _) h) fun us s1 hh => ?_) he hpl
  obtain ⟨vs, H1, I1, r1, a, C, ws, ev, hl, T, ea, q⟩ := hh
  subst ev
  cases r1 with
  | @cons _ u0 _ ur ra rw' =>
    obtain rfl : u0 = Value.ref a := ra
    have hlen : ur.length ≤ sizeLine := by
      have := Paired.length rw'
      rw [sizeLine_eq]
      omega
    exact base_init FB T I1 ea hlen fun s' J => ⟨.non, H1, J, rfl, q⟩
theorem ps_pf (SF : StoreFacts B bmB "object.__setattr__" "object") (ho : PE X o to) (he : PE X e te) (hs : swapsWith e (some (.Attribute o f p')) pos.line X.env = pure false := by rfl) : PS X (.Assign [.Attribute o f p'] e pos) (tPf X.K bmB nid f to te) := by
  refine ⟨fun pins s σ H D I h => ?_⟩
  refine plainObj_wpAny_Assign_Attribute (thn (he.run pins s σ H _ I h) fun v s1 h1 => ?_) hs
  obtain ⟨y, H1, I1, r1, q1⟩ := h1
  refine thn (ho.run pins s1 σ H1 _ I1 q1) fun u s2 h2 => ?_
  obtain ⟨z, H2, I2, r2, a, C, ex, T, hno, ea, q⟩ := h2
  subst ex
  obtain rfl : u = Value.ref a := r2
  exact put_first SF T I2 ea hno r1 fun dx s' n ne J => ⟨σ, _, J, q dx n ne⟩
/-- C(e, ..) as what is raised, C's own __init__ keeping sp -/
theorem pmk_gx {CX : CXT} {C fI : Addr} {k : Nat} {fd : FuncData} {ps : List Str} {sp : Sp} {ds : List Value} {dvs : List V} (FB : ExcBaseFacts B nid iid bmB) (T : Gx X.K C bmB nid) (iC : PySem.W.findIn X.K (.ref C) "__init__" = some (some (.ref fI)))
    (tI : PySem.W.typeIn X.K (.ref fI) = some (.type "function"))
    (F1 : FnOk X.prog X.w X.K X.mg X.base CX k fI fd ps sp) (hr : Room (k + 1) X.A) (hb : Binds X.K fd ps ds) (hd : Vals dvs ds) (hx : Passes CX X (fun _ _ _ => False)) (hg : Gl X x) (hm : X.mg x = some (.ref C)) (ha : PA X (e :: es) ta)
    (hdb : (x == ("__debug__" : Str)) = false := by decide) (he : starEach (e :: es) X.env = (false, eval e X.env) :: starEach es X.env := by rfl) (hpl : (backTo pos (starEach es X.env)).any (·.1) = false := by rfl) :
    PMk X (.Call (.Name x p) (e :: es) [] pos) (tMkO C sp dvs ta) := by
  intro pins s σ H Q I h
  refine wpAny_Call_Name_kw (ld_glob I hg hm ?_ hdb)
  refine PySem.W.callWith_K (h₀ := X.base) I.ok.mod.kin T.keep (thn (ha.run pos pins s σ H _ I h) fun us s1 hh => ?_) he hpl
  obtain ⟨vs, H1, I1, r1, hz, q1⟩ := hh
  refine ⟨I1.kIn, ?_⟩
  show wpAny _ _ (call (.ref C) us) _ _ _
  obtain ⟨nm, N, qn, bs, bm, hdct, sn, sub, ab, col, dd, k0, k1, k2, k3, k5, hC, hT⟩ := PySem.W.excInit_of I1.kIn T.made
  obtain ⟨hp, g, dr, tk, os⟩ := s1
  have big : hp.objs.size ≤ hp.objs.size + 1 := Nat.le_succ _
  have hq := q1 (hp.objs.size + 1) (I1.hok.fresh big)
  have kk : ∀ b o, hp.get? b = some o → ((hp.push (PySem.W.kdv_tup us)).push (PySem.HandSPX.excO C hp.objs.size)).get? b = some o := fun b o z =>
    Heap.get?_push_of_some _ (Heap.get?_push_of_some _ z)
  have there : ((hp.push (PySem.W.kdv_tup us)).push (PySem.HandSPX.excO C hp.objs.size)).get? (hp.objs.size + 1) = some (PySem.HandSPX.excO C hp.objs.size) := by heap_get
  have I2 := I1.laid (t' := tk) (a := hp.objs.size + 1) (o := exo (hp.objs.size + 1) C none) (h' := (hp.push (PySem.W.kdv_tup us)).push (PySem.HandSPX.excO C hp.objs.size)) kk big (exo_ok there)
  have r2 : Vals (V.ref (hp.objs.size + 1) :: (vs ++ dvs)) (Value.ref (hp.objs.size + 1) :: (us ++ ds)) := .cons rfl (r1.append hd)
  have hl : (Value.ref (hp.objs.size + 1) :: us ++ ds).length = ps.length := by
    have e1 := r2.length
    rw [F1.len _ _ _ _ hq] at e1
    exact e1.symm
  have few : us.length ≤ sizeLine := by
    have := Paired.length r1
    rw [sizeLine_eq]
    omega
  refine wpAny_call (PySem.HandSPX.call_own FB hT hC (PySem.W.looks_findIn I1.kIn iC) (fun self => PySem.W.bind_fn I1.kIn self tI) few (codeAny_mono
    (F1.run _ X.stack _ _ ⟨Value.ref (hp.objs.size + 1) :: us, []⟩ (Value.ref (hp.objs.size + 1) :: (us ++ ds)) _ _ (fun _ _ _ => False) (hr.make C us []) (I2.env0.make C us []) (hb _ (Value.ref (hp.objs.size + 1) :: us) I2.kIn hl) r2 hq) fun r s' hq' => ?_))
  cases r with
  | error er => exact hx pins σ _ _ er s' I2 hq'
  | ok fl =>
    cases fl with
    | ret u =>
      obtain ⟨v, H2, os2, bare2, un2, hok2, rv, ev, d, fs, ea, ed, hd1, q2⟩ := hq'
      subst ev
      obtain ⟨h2, g2, d2, t2, os'⟩ := s'
      exact ⟨rv, mk_end (raises_own T.base T.typ) I1 big kk un2 hok2 os2 bare2 ea ed hd1 q2⟩
    | next => exact False.elim hq'
    | brk => exact False.elim hq'
    | cont => exact False.elim hq'
end
/-! ### the head's look at such a class -/
def hasDB (K : PySem.W.Frag) (C : Addr) : Bool := match PySem.W.clsIn K C with
  | some cd => cd.hasDict
  | none => false
/-- Base.__init__, read off the class Base -/
def vvB (K : PySem.W.Frag) (B iid : String) : Bool := match PySem.W.findCls K (.type B) (.type "type") "__init__" with
  | some (.val (.builtin n)) => n == iid
  | _ => false
theorem vvB_ok {K : PySem.W.Frag} {B iid : String} (h : vvB K B iid = true) : PySem.W.findCls K (.type B) (.type "type") "__init__" = some (.val (.builtin iid)) := by
  unfold vvB at h
  split at h
  · rename_i n e
    rw [e, eq_of_beq h]
  · cases h
/-- what isinstance asks of an own class -/
def isB (K : PySem.W.Frag) (C : Addr) : Bool := He.eqO (PySem.W.findIn K (.ref C) "__class__") (some (some (.builtin "object.__class__"))) && (He.eqO (PySem.W.specialIn K (.builtin "object.__class__") "__get__") (some (some (.builtin "getset_descriptor.__get__"))) &&
  (decide (PySem.W.takesIn K (.builtin "object.__class__") = some true) && decide (PySem.W.mroIn K C (.type "object") = some true)))
def gxB (K : PySem.W.Frag) (C : Addr) (bmB : List Value) (nid : String) : Bool := PySem.W.excOver K C bmB && (PySem.W.excInitIn K C bmB nid && (hasDB K C &&
  (He.eqO (PySem.W.findIn K (.ref C) "__setattr__") (some (some (.builtin "object.__setattr__"))) && (decide (PySem.W.subIn K (.ref C) (.type "BaseException") = some true) &&
  (decide (PySem.W.typeIn K (.ref C) = some (.type "type")) && PySem.W.keepIn K (.ref C))))))
theorem gxB_ok {K : PySem.W.Frag} {C : Addr} {bmB : List Value} {nid : String} (h : gxB K C bmB nid = true) : Gx K C bmB nid := by
  unfold gxB at h
  simp only [Bool.and_eq_true, decide_eq_true_eq] at h
  obtain ⟨h1, h2, h3, h4, h5, h6, h7⟩ := h
  refine ⟨h1, h2, ?_, He.eqO_ok h4, h5, h6, h7⟩
  unfold hasDB at h3
  split at h3
  · rename_i cd e
    exact ⟨cd, e, h3⟩
  · cases h3
end GX
set_option linter.all false
namespace KM
/-- the signed common part -/
def sg (t b : Int) : Int := if b < 0 then -(Int.gcd t b : Int) else (Int.gcd t b : Int)
/-- a fraction in lowest terms -/
def low (t b : Int) : Int × Int := (t.fdiv (sg t b), b.fdiv (sg t b))
theorem gcd_pos {t b : Int} (h : b ≠ 0) : 0 < Int.gcd t b := Int.gcd_pos_of_ne_zero_right t h
theorem sg_ne {t b : Int} (h : b ≠ 0) : sg t b ≠ 0 := by
  have := gcd_pos (t := t) h
  unfold sg
  split <;> omega
theorem sg_dvd_left (t b : Int) : sg t b ∣ t := by
  unfold sg
  split
  · exact Int.neg_dvd.mpr (Int.gcd_dvd_left ..)
  · exact Int.gcd_dvd_left ..
theorem sg_dvd_right (t b : Int) : sg t b ∣ b := by
  unfold sg
  split
  · exact Int.neg_dvd.mpr (Int.gcd_dvd_right ..)
  · exact Int.gcd_dvd_right ..
theorem low_top {t b : Int} : sg t b * (low t b).1 = t := by
  show sg t b * t.fdiv (sg t b) = t
  rw [Int.fdiv_eq_ediv_of_dvd (sg_dvd_left t b)]
  exact Int.mul_ediv_cancel' (sg_dvd_left t b)
theorem low_bot {t b : Int} : sg t b * (low t b).2 = b := by
  show sg t b * b.fdiv (sg t b) = b
  rw [Int.fdiv_eq_ediv_of_dvd (sg_dvd_right t b)]
  exact Int.mul_ediv_cancel' (sg_dvd_right t b)
theorem sg_abs (t b : Int) : (sg t b).natAbs = Int.gcd t b := by
  unfold sg
  split <;> simp
theorem low_pos {t b : Int} (h : b ≠ 0) : 0 < (low t b).2 := by
  have e := low_bot (t := t) (b := b)
  have g := gcd_pos (t := t) h
  by_cases hb : b < 0
  · have hs : sg t b < 0 := by unfold sg; rw [if_pos hb]; omega
    refine Int.lt_of_not_ge fun hc => ?_
    have := Int.mul_nonneg_of_nonpos_of_nonpos (Int.le_of_lt hs) hc
    omega
  · have hs : 0 < sg t b := by unfold sg; rw [if_neg hb]; omega
    refine Int.lt_of_not_ge fun hc => ?_
    have := Int.mul_nonpos_of_nonneg_of_nonpos (Int.le_of_lt hs) hc
    omega
theorem low_cop {t b : Int} (h : b ≠ 0) : Int.gcd (low t b).1 (low t b).2 = 1 := by
  have e : Int.gcd (sg t b * (low t b).1) (sg t b * (low t b).2) = (sg t b).natAbs * Int.gcd (low t b).1 (low t b).2 := Int.gcd_mul_left ..
  rw [low_top, low_bot, sg_abs] at e
  have g := gcd_pos (t := t) h
  have : Int.gcd t b * Int.gcd (low t b).1 (low t b).2 = Int.gcd t b * 1 := by omega
  exact Nat.eq_of_mul_eq_mul_left g this
theorem low_id {t b : Int} (hb : 0 < b) (h : Int.gcd t b = 1) : low t b = (t, b) := by
  have e : sg t b = 1 := by unfold sg; rw [if_neg (by omega), h]; rfl
  unfold low
  rw [e]
  simp
theorem low_low {t b : Int} (h : b ≠ 0) : low (low t b).1 (low t b).2 = low t b := low_id (low_pos h) (low_cop h)
/-- the bottom stays: nothing is taken out -/
theorem low_same {t b : Int} (hb : 0 < b) (h : (low t b).2 = b) : low t b = (t, b) := by
  have e := low_bot (t := t) (b := b)
  rw [h] at e
  have e1 : sg t b * b = 1 * b := by omega
  have e2 := Int.eq_of_mul_eq_mul_right (Int.ne_of_gt hb) e1
  have e3 := low_top (t := t) (b := b)
  rw [e2] at e3
  refine Prod.ext ?_ h
  show (low t b).1 = t
  omega
theorem dvd_le {x y : Int} (h : x * y ≠ 0) : y.natAbs ≤ (x * y).natAbs := by
  rw [Int.natAbs_mul]
  have : x ≠ 0 := fun z => h (by rw [z, Int.zero_mul])
  exact Nat.le_mul_of_pos_left _ (by omega)
theorem low_top_le {t b : Int} (h : b ≠ 0) : (low t b).1.natAbs ≤ t.natAbs := by
  by_cases ht : t = 0
  · subst ht
    have e := low_top (t := 0) (b := b)
    rcases Int.mul_eq_zero.mp e with z | z
    · exact absurd z (sg_ne h)
    · rw [z]; exact Nat.le_refl _
  · have e := low_top (t := t) (b := b)
    have := dvd_le (x := sg t b) (y := (low t b).1) (by omega)
    rw [e] at this
    exact this
theorem low_bot_le {t b : Int} (h : b ≠ 0) : (low t b).2.natAbs ≤ b.natAbs := by
  have e := low_bot (t := t) (b := b)
  have := dvd_le (x := sg t b) (y := (low t b).2) (by omega)
  rw [e] at this
  exact this
theorem sg_le {t b : Int} (h : b ≠ 0) : (sg t b).natAbs ≤ b.natAbs := by
  have e := low_bot (t := t) (b := b)
  have := dvd_le (x := (low t b).2) (y := sg t b) (by rw [Int.mul_comm]; omega)
  rw [Int.mul_comm, e] at this
  exact this
/-- Euclid's turn over whole numbers from 0 on -/
theorem gcd_turn {a b : Int} (ha : 0 ≤ a) (hb : 0 < b) : Int.gcd b (a % b) = Int.gcd a b := by
  obtain ⟨m, rfl⟩ := Int.eq_ofNat_of_zero_le ha
  obtain ⟨n, rfl⟩ := Int.eq_ofNat_of_zero_le (Int.le_of_lt hb)
  show Nat.gcd (Int.natAbs (n : Int)) (Int.natAbs ((m : Int) % (n : Int))) = Nat.gcd (Int.natAbs (m : Int)) (Int.natAbs (n : Int))
  rw [← Int.natCast_emod, Int.natAbs_natCast, Int.natAbs_natCast, Int.natAbs_natCast, Nat.gcd_comm n, Nat.gcd_comm m n]
  exact (Nat.gcd_rec n m).symm
theorem gcd_succ (a : Int) : Int.gcd a (a + 1) = 1 := by
  have : Int.gcd (a + 1) a = Int.gcd 1 a := by
    rw [Int.add_comm, Int.gcd_add_self_left]
  rw [Int.gcd_comm, this, Int.gcd_comm]
  simp
end KM
set_option linter.all false
namespace KM
/-- top and bottom of a rational number -/
def pr (r : Rat) : Int × Int := (r.num, (r.den : Int))
theorem pr_inj {r s : Rat} (h : pr r = pr s) : r = s := by
  have h1 : r.num = s.num := congrArg Prod.fst h
  have h2 : (r.den : Int) = (s.den : Int) := congrArg Prod.snd h
  rw [← Rat.num_divInt_den r, ← Rat.num_divInt_den s, h1, h2]
theorem den_ne (r : Rat) : (r.den : Int) ≠ 0 := by
  have := r.den_nz
  omega
theorem den_pos (r : Rat) : 0 < (r.den : Int) := by
  have := r.den_nz
  omega
theorem low_eq {t b : Int} (h : b ≠ 0) : low t b = pr (Rat.divInt t b) := by
  have hp := low_pos (t := t) h
  have hc := low_cop (t := t) h
  obtain ⟨d, hd⟩ := Int.eq_ofNat_of_zero_le (Int.le_of_lt hp)
  have hd0 : d ≠ 0 := by
    intro z
    rw [z] at hd
    omega
  have hcop : (low t b).1.natAbs.Coprime d := by
    have : Int.gcd (low t b).1 (low t b).2 = 1 := hc
    rw [hd] at this
    exact this
  have e1 : Rat.divInt (low t b).1 (d : Int) = Rat.divInt t b := by
    rw [Rat.divInt_eq_divInt_iff (by omega) h, ← hd]
    have h1 := low_top (t := t) (b := b)
    have h2 := low_bot (t := t) (b := b)
    calc (low t b).1 * b = (low t b).1 * (sg t b * (low t b).2) := by rw [h2]
      _ = sg t b * (low t b).1 * (low t b).2 := by rw [← Int.mul_assoc, Int.mul_comm (low t b).1]
      _ = t * (low t b).2 := by rw [h1]
  have e2 : ({ num := (low t b).1, den := d, den_nz := hd0, reduced := hcop } : Rat) = Rat.divInt t b := by rw [Rat.mk_eq_divInt, e1]
  rw [← e2]
  exact Prod.ext rfl hd
theorem pr_plus (r s : Rat) : low ((pr r).1 * (pr s).2 + (pr s).1 * (pr r).2) ((pr r).2 * (pr s).2) = pr (r + s) := by
  show low (r.num * s.den + s.num * r.den) (r.den * s.den) = _
  rw [low_eq (Int.mul_ne_zero (den_ne r) (den_ne s)), ← Rat.divInt_add_divInt _ _ (den_ne r) (den_ne s), Rat.num_divInt_den, Rat.num_divInt_den]
theorem pr_less (r s : Rat) : low ((pr r).1 * (pr s).2 - (pr s).1 * (pr r).2) ((pr r).2 * (pr s).2) = pr (r - s) := by
  show low (r.num * s.den - s.num * r.den) (r.den * s.den) = _
  rw [low_eq (Int.mul_ne_zero (den_ne r) (den_ne s)), ← Rat.divInt_sub_divInt _ _ (den_ne r) (den_ne s), Rat.num_divInt_den, Rat.num_divInt_den]
theorem pr_times (r : Rat) (k : Int) : low ((pr r).1 * k) (pr r).2 = pr (r * (Rat.divInt k 1)) := by
  show low (r.num * k) r.den = _
  have e : Rat.divInt (r.num * k) (r.den : Int) = Rat.divInt r.num r.den * Rat.divInt k 1 := by rw [Rat.divInt_mul_divInt, Int.mul_one]
  rw [low_eq (den_ne r), e, Rat.num_divInt_den]
theorem pr_over (r : Rat) {k : Int} (h : k ≠ 0) : low (pr r).1 ((pr r).2 * k) = pr (r * (Rat.divInt 1 k)) := by
  show low r.num (r.den * k) = _
  have e : Rat.divInt r.num (r.den * k : Int) = Rat.divInt r.num r.den * Rat.divInt 1 k := by rw [Rat.divInt_mul_divInt, Int.mul_one]
  rw [low_eq (Int.mul_ne_zero (den_ne r) h), e, Rat.num_divInt_den]
theorem inv_k {k : Int} (h : k ≠ 0) : Rat.divInt k 1 * Rat.divInt 1 k = 1 := by
  rw [Rat.divInt_mul_divInt, Int.mul_one, Int.one_mul]
  exact Rat.divInt_self' h
theorem pr_lt (r s : Rat) : ((pr r).1 * (pr s).2 < (pr s).1 * (pr r).2) ↔ r < s := (Rat.lt_iff r s).symm
theorem pr_bot (r : Rat) : 0 < (pr r).2 := den_pos r
theorem add_back (r s : Rat) : r + s - s = r := by
  rw [Rat.sub_eq_add_neg, Rat.add_assoc, Rat.add_neg_cancel, Rat.add_zero]
theorem sub_back (r s : Rat) : r - s + s = r := by
  rw [Rat.sub_eq_add_neg, Rat.add_assoc, Rat.neg_add_cancel, Rat.add_zero]
theorem mul_back (r : Rat) {k : Int} (h : k ≠ 0) : r * Rat.divInt k 1 * Rat.divInt 1 k = r := by
  rw [Rat.mul_assoc, inv_k h, Rat.mul_one]
theorem div_back (r : Rat) {k : Int} (h : k ≠ 0) : r * Rat.divInt 1 k * Rat.divInt k 1 = r := by
  rw [Rat.mul_assoc, Rat.mul_comm (Rat.divInt 1 k), inv_k h, Rat.mul_one]
/-- small -/
def Sz (n : Nat) (r : Rat) : Prop := r.num.natAbs < 2 ^ n ∧ r.den < 2 ^ n
theorem Sz.mono {n m : Nat} {r : Rat} (h : Sz n r) (hm : n ≤ m) : Sz m r := ⟨Nat.lt_of_lt_of_le h.1 (Nat.pow_le_pow_right (by decide) hm), Nat.lt_of_lt_of_le h.2 (Nat.pow_le_pow_right (by decide) hm)⟩
theorem sz_of_low {t b : Int} {n : Nat} (hb : b ≠ 0) (h1 : t.natAbs < 2 ^ n) (h2 : b.natAbs < 2 ^ n) : Sz n (Rat.divInt t b) := by
  have e := low_eq (t := t) hb
  have e1 : (low t b).1 = (Rat.divInt t b).num := congrArg Prod.fst e
  have e2 : (low t b).2 = ((Rat.divInt t b).den : Int) := congrArg Prod.snd e
  have l1 := low_top_le (t := t) hb
  have l2 := low_bot_le (t := t) hb
  constructor
  · rw [← e1]; omega
  · have : ((low t b).2).natAbs < 2 ^ n := by omega
    rw [e2] at this
    simpa using this
theorem two_lt {x y n m : Nat} (h1 : x < 2 ^ n) (h2 : y < 2 ^ m) : x * y < 2 ^ (n + m) := by
  rw [Nat.pow_add]
  exact Nat.mul_lt_mul'' h1 h2
theorem sz_sum {a b c d : Int} {n m : Nat} (h1 : a.natAbs < 2 ^ n) (h2 : d.natAbs < 2 ^ m) (h3 : c.natAbs < 2 ^ m) (h4 : b.natAbs < 2 ^ n) : (a * d + c * b).natAbs < 2 ^ (n + m + 1) ∧ (a * d - c * b).natAbs < 2 ^ (n + m + 1) := by
  have e1 : (a * d).natAbs < 2 ^ (n + m) := by rw [Int.natAbs_mul]; exact two_lt h1 h2
  have e2 : (c * b).natAbs < 2 ^ (n + m) := by rw [Int.natAbs_mul, Nat.add_comm]; exact two_lt h3 h4
  have e3 : 2 ^ (n + m + 1) = 2 * 2 ^ (n + m) := by rw [Nat.pow_succ, Nat.mul_comm]
  omega
theorem sz_plus {n m : Nat} {r s : Rat} (hr : Sz n r) (hs : Sz m s) : Sz (n + m + 1) (r + s) ∧ Sz (n + m + 1) (r - s) := by
  have d1 : ((r.den : Int)).natAbs < 2 ^ n := by simpa using hr.2
  have d2 : ((s.den : Int)).natAbs < 2 ^ m := by simpa using hs.2
  have hd : ((r.den : Int) * s.den).natAbs < 2 ^ (n + m + 1) := by
    have : ((r.den : Int) * s.den).natAbs < 2 ^ (n + m) := by rw [Int.natAbs_mul]; exact two_lt d1 d2
    exact Nat.lt_of_lt_of_le this (Nat.pow_le_pow_right (by decide) (by omega))
  have hn := sz_sum hr.1 d2 hs.1 d1
  have ne := Int.mul_ne_zero (den_ne r) (den_ne s)
  constructor
  · have := sz_of_low ne hn.1 hd
    rw [← Rat.divInt_add_divInt _ _ (den_ne r) (den_ne s), Rat.num_divInt_den, Rat.num_divInt_den] at this
    exact this
  · have := sz_of_low ne hn.2 hd
    rw [← Rat.divInt_sub_divInt _ _ (den_ne r) (den_ne s), Rat.num_divInt_den, Rat.num_divInt_den] at this
    exact this
theorem sz_times {n m : Nat} {r : Rat} {k : Int} (hr : Sz n r) (hk : k.natAbs < 2 ^ m) : Sz (n + m) (r * Rat.divInt k 1) := by
  have e : r * Rat.divInt k 1 = Rat.divInt (r.num * k) r.den := by
    have : Rat.divInt (r.num * k) (r.den : Int) = Rat.divInt r.num r.den * Rat.divInt k 1 := by rw [Rat.divInt_mul_divInt, Int.mul_one]
    rw [this, Rat.num_divInt_den]
  rw [e]
  refine sz_of_low (den_ne r) (by rw [Int.natAbs_mul]; exact two_lt hr.1 hk) ?_
  have d1 : ((r.den : Int)).natAbs < 2 ^ n := by simpa using hr.2
  exact Nat.lt_of_lt_of_le d1 (Nat.pow_le_pow_right (by decide) (by omega))
theorem sz_over {n m : Nat} {r : Rat} {k : Int} (hr : Sz n r) (h : k ≠ 0) (hk : k.natAbs < 2 ^ m) : Sz (n + m) (r * Rat.divInt 1 k) := by
  have e : r * Rat.divInt 1 k = Rat.divInt r.num (r.den * k) := by
    have : Rat.divInt r.num (r.den * k : Int) = Rat.divInt r.num r.den * Rat.divInt 1 k := by rw [Rat.divInt_mul_divInt, Int.mul_one]
    rw [this, Rat.num_divInt_den]
  rw [e]
  have d1 : ((r.den : Int)).natAbs < 2 ^ n := by simpa using hr.2
  refine sz_of_low (Int.mul_ne_zero (den_ne r) h) (Nat.lt_of_lt_of_le hr.1 (Nat.pow_le_pow_right (by decide) (by omega))) ?_
  rw [Int.natAbs_mul]
  exact two_lt d1 hk
end KM
set_option Elab.async false
set_option linter.all false
set_option maxRecDepth 100000
set_option maxHeartbeats 4000000
/-! KW: calls by keywords alone: f(k = v, ..), o.m(k = v, ..). -/
namespace KW
open PySem PySem.Spec PyProof.Rows L2
section
variable {X : Cx} {k j : Nat} {C f : Addr} {fd : FuncData} {ps ks : List Str} {sp : Sp} {x m : Str} {p pos apos : Pos} {o : Expr} {kws : List Keyword} {ta : TE} {tk : TA} {g : List Value → List Value → List Value} {gV : List V → List V → List V}
theorem pe_cK (F : FnOk X.prog X.w X.K X.mg X.base CX0 k f fd ps sp) (hr : Room k X.A) (hg : Gl X x) (hm : X.mg x = some (.ref f)) (hk : PySem.W.keepIn X.K (.ref f) = true) (hb : KBn X.K fd ps 0 ks g gV) (hkw : PK X kws tk)
    (hall : (backToKw pos (keywordEach kws X.env)).all (·.1.isSome) = true := by rfl) (hks : (backToKw pos (keywordEach kws X.env)).filterMap (·.1) = ks := by rfl) (hdb : (x == ("__debug__" : Str)) = false := by decide)
    (hpl : ((backTo pos (starEach [] X.env)).any (·.1) || (backToKw pos (keywordEach kws X.env)).any (·.1.isNone)) = false := by rfl) :
    PE X (.Call (.Name x p) [] kws pos) (fun σ H Q => tk σ H fun zs H1 => zs.length = ks.length ∧ sp (gV [] zs) H1 Q E0) := by
  refine ⟨fun pins s σ H Q I h => wpAny_Call_Name_kw (ld_glob I hg hm (PySem.W.callWith_KW0 (h₀ := X.base) I.ok.mod.kin hk hall ?_ hpl) hdb)⟩
  refine thn (hkw.run pos pins s σ H _ I h) fun ws s2 ⟨zs, H2, I2, rz, l2, q2⟩ => ⟨I2.kIn, ?_⟩
  rw [hks]
  exact run_fnN (us := []) (vs := []) F hr hb (fun _ _ _ _ _ _ _ h => False.elim h) I2 .nil rz rfl l2 q2
theorem pe_mtK {pl : Sem Bool} (he : PE X o ta) (c : Cls X.K C) (hm : Meth X.K C m f) (F : FnOk X.prog X.w X.K X.mg X.base CX0 k f fd ps sp) (hr : Room k X.A) (hb : KBn X.K fd ps 1 ks g gV) (hkw : PK X kws tk)
    (hall : (backToKw pos (keywordEach kws X.env)).all (·.1.isSome) = true := by rfl) (hks : (backToKw pos (keywordEach kws X.env)).filterMap (·.1) = ks := by rfl)
    (hpl : ((backTo pos (starEach [] X.env)).any (·.1) || (backToKw pos (keywordEach kws X.env)).any (·.1.isNone)) = false := by rfl)
    (ht : eval (.Call (.Attribute o m apos) [] kws pos) X.env = (do
      let ov ← eval o X.env
      standAt apos.atName
      let (f, first) ← holding [ov] (getMethod ov m pl)
      callWith pos f first (backTo pos (starEach [] X.env)) (backToKw pos (keywordEach kws X.env))) := by rfl) :
    PE X (.Call (.Attribute o m apos) [] kws pos) (fun σ H Q => ta σ H fun x H1 => ∃ a dx fs, x = .ref a ∧ H1 a = some (.ins C dx fs) ∧ fs.lookup m = none ∧ tk σ H1 fun zs H2 => zs.length = ks.length ∧ sp (gV [.ref a] zs) H2 Q E0) := by
  refine ⟨fun pins s σ H Q I h => ?_⟩
  refine PySem.W.methodCall_KW (pl := pl) (thn (he.run pins s σ H _ I h) fun u s1 ⟨x, H1, I1, rx, a, dx, fs, ex, ea, l, q⟩ => ?_) ht
  subst ex
  obtain rfl : u = Value.ref a := rx
  refine getmeth_ok I1 ea c hm l (PySem.W.callWith_KW0 (first := [.ref a]) (h₀ := X.base) I.ok.mod.kin hm.kp hall ?_ hpl)
  refine thn (hkw.run pos pins s1 σ H1 _ I1 q) fun ws s2 ⟨zs, H2, I2, rz, l2, q2⟩ => ⟨I2.kIn, ?_⟩
  rw [hks]
  exact run_fnN (us := [.ref a]) (vs := [.ref a]) F hr hb (fun _ _ _ _ _ _ _ h => False.elim h) I2 (.cons rfl .nil) rz rfl l2 q2
end
end KW
set_option Elab.async false
set_option linter.all false
set_option maxRecDepth 100000
set_option maxHeartbeats 4000000
/-! KB: what a call by keywords binds, for a def without keyword-only parameters. -/
namespace KW
open PySem PySem.Spec PyProof.Rows L2
section
variable {K : PySem.W.Frag} {x qual : Str} {params : Arguments} {body : List Stmt} {scope : Scope} {dvs : List V} {kws : List (Str × V)} {f : Addr} {fd : FuncData} {ps : List Str}
theorem kb1 (F : FunD K x qual params body scope dvs kws f fd) (n : Nat) (ks : List Str) (g : {α : Type} → List α → List α → List α → List α) (hd : dvs ≠ [])
    (hrel : ∀ {vs ds zs : List V} {us its ws : List Value}, Vals vs us → Vals ds its → Vals zs ws → Vals (g vs ds zs) (g us its ws))
    (h : ∀ (T : Addr) (kV doc pm : Value) (an : Option Addr) (cdv ct : Value) (us its ws : List Value), us.length = n → its.length = dvs.length → ws.length = ks.length →
      ∃ k, bindArgs (PySem.W.fnOf x qual params body scope (.ref T) kV doc pm an cdv ct) ⟨us, ks.zip ws⟩ = seqItems? (.ref T) >>= k ∧ k (some its.toArray) = pure (ps.zip (g us its ws))) :
    ∃ its : List Value, KBn K fd ps n ks (fun us ws => g us its ws) (fun vs zs => g vs dvs zs) := by
  obtain ⟨oc, od, dV, kV, doc, pm, an, cdv, ct, osl, rfl, lk, hcd, hD, hK⟩ := F.ex
  rcases hD with ⟨e, _⟩ | ⟨_, T, o, its, m, rfl, lT, oT, rT⟩
  · exact absurd e hd
  · refine ⟨its, ⟨fun s us ws X l1 l2 => ?_, fun r1 r2 => hrel r1 rT r2⟩⟩
    obtain ⟨k, e1, e2⟩ := h T kV doc pm an cdv ct us its ws l1 rT.length.symm l2
    refine BindsTo.of_looks fun M => ?_
    rw [e1]
    exact looks_items X lT oT (.of_pure e2)
theorem kb0 (F : FunD K x qual params body scope [] kws f fd) (n : Nat) (ks : List Str) (g : {α : Type} → List α → List α → List α)
    (hrel : ∀ {vs zs : List V} {us ws : List Value}, Vals vs us → Vals zs ws → Vals (g vs zs) (g us ws))
    (h : ∀ (kV doc pm : Value) (an : Option Addr) (cdv ct : Value) (us ws : List Value), us.length = n → ws.length = ks.length →
      bindArgs (PySem.W.fnOf x qual params body scope .none kV doc pm an cdv ct) ⟨us, ks.zip ws⟩ = pure (ps.zip (g us ws))) :
    KBn K fd ps n ks (fun us ws => g us ws) (fun vs zs => g vs zs) := by
  obtain ⟨oc, od, dV, kV, doc, pm, an, cdv, ct, osl, rfl, lk, hcd, hD, hK⟩ := F.ex
  rcases hD with ⟨_, rfl⟩ | ⟨e, _⟩
  · exact ⟨fun s us ws X l1 l2 => .of_eq (h kV doc pm an cdv ct us ws l1 l2), fun r1 r2 => hrel r1 r2⟩
  · exact absurd rfl e
end
end KW
set_option Elab.async false
set_option linter.all false
set_option maxRecDepth 100000
set_option maxHeartbeats 4000000
namespace K34
open PySem PySem.Spec PyProof.Rows L2
/-- a def of the text -/
abbrev Dn (K : PySem.W.Frag) (d : He.DefD) (f : Addr) (fd : FuncData) : Prop := FunD K d.name d.qual d.params d.body d.scope (d.dvs K) (d.kws K) f fd
/-- what the module's names are -/
structure Bl (mg : Str → Option Value) : Prop where
  isi : mg "isinstance" = none
  int : mg "int" = none
  bool : mg "bool" = none
  abs : mg "abs" = none
  list : mg "list" = none
  range : mg "range" = none
  len : mg "len" = none
theorem op_fdW {X : Cx} : OpR X (binaryOp .FloorDiv) (rI (fun _ j => j ≠ 0 ∧ j.natAbs.log2 < 9000) fun i j => .int (i.fdiv j)) := opI fun _ _ _ _ _ _ _ hc q => floordiv_int hc.1 q (.inl (PyProof.noPylong_of_log2 hc.2))
/-- the fields of a Share -/
def shF (q : Int × Int) : List (Str × V) := putF "bottom" (.int q.2) (putF "top" (.int q.1) [])
theorem tb : ¬ (("top" : Str) = "bottom") := by decide +kernel
theorem shF_top (q : Int × Int) : (shF q).lookup ("top" : Str) = some (.int q.1) := by
  unfold shF
  rw [lookup_putF, if_neg tb, lookup_putF, if_pos rfl]
theorem shF_bot (q : Int × Int) : (shF q).lookup ("bottom" : Str) = some (.int q.2) := by
  unfold shF
  rw [lookup_putF, if_pos rfl]
theorem shF_no (q : Int × Int) {m : Str} (h1 : ¬ m = "bottom") (h2 : ¬ m = "top") : (shF q).lookup m = none := by
  unfold shF
  rw [lookup_putF, if_neg h1, lookup_putF, if_neg h2]
  all_goals rfl
/-- a Share stands at p -/
def Sh (C : Addr) (H : Hp) (p : Addr) (q : Int × Int) : Prop := ∃ dx, H p = some (.ins C dx (shF q))
/-- small enough, the bottom above nought -/
def Bd (n : Nat) (q : Int × Int) : Prop := q.1.natAbs < 2 ^ n ∧ 0 < q.2 ∧ q.2.natAbs < 2 ^ n
theorem Sh.keep {C : Addr} {H H' : Hp} {p : Addr} {q : Int × Int} (s : Same H H') (h : Sh C H p q) : Sh C H' p q := let ⟨dx, e⟩ := h; ⟨dx, s _ _ e⟩
theorem log_lt {j : Int} {n : Nat} (h : j.natAbs < 2 ^ n) (h0 : 0 < n) (h9 : n ≤ 9000) : j.natAbs.log2 < 9000 := Nat.lt_of_lt_of_le (PySem.Flt.log2_lt_of h0 h) h9
/-- what is known of the class -/
structure Cl (K : PySem.W.Frag) (mg : Str → Option Value) (C : Addr) : Prop where
  cl : Cls K C
  nt : NoAttr K C "top"
  nb : NoAttr K C "bottom"
  g : mg "Share" = some (.ref C)
section
variable {P : Program} {w : World} {K : PySem.W.Frag} {mg : Str → Option Value} {base : Heap} {f C : Addr} {fd : FuncData}

def spWhole : Sp := fun vs H Q _ => ∃ n : Int, vs = [.int n] ∧ Q (.bl true) H
theorem ok_whole (F : Dn K d_is_whole f fd) (b : Bl mg) : FnOk P w K mg base CX0 1 f fd ["thing"] spWhole := by
  refine F.ok sc_is_whole (fun vs H Q E h => ?_) (fun cdv A outer s H vs Q E hr h => ?_)
  · obtain ⟨n, rfl, _⟩ := h
    rfl
  · obtain ⟨n, rfl, hQ⟩ := h
    refine ⟨_, PSs.nox (pss_one (ps_ret (pe_and
      (pe_callB call_isi rfl b.isi boot_isinstance (pa_cons (pv 0) (pa_cons (pe_bltn (v := .ty "int") rfl b.int boot_int rfl) pa_nil)))
      (pe_one (pe_not (pe_callB call_isi rfl b.isi boot_isinstance (pa_cons (pv 0) (pa_cons (pe_bltn (v := .ty "bool") rfl b.bool boot_bool rfl) pa_nil)))))))), ?_⟩
    refine ⟨_, rfl, _, _, _, _, true, rfl, ClsV.ty _, TyX.base (TyOf.int n), kit_ty (by decide +kernel), true, rfl, ?_⟩
    refine iteT ?_
    exact ⟨_, rfl, _, _, _, _, false, rfl, ClsV.ty _, TyX.base (TyOf.int n), kit_ty (by decide +kernel), false, rfl, hQ⟩
def spGcd : Sp := fun vs H Q _ => ∃ x y : Int, vs = [.int x, .int y] ∧ Q (.int (Int.gcd x y : Int)) H
theorem abs_eq (x : Int) : (if x < 0 then -x else x) = (x.natAbs : Int) := by split <;> omega
theorem ok_gcd (F : Dn K d_common_part f fd) (b : Bl mg) : FnOk P w K mg base CX0 1 f fd ["one", "other"] spGcd := by
  refine F.ok sc_common_part (fun vs H Q E h => ?_) (fun cdv A outer s H vs Q E hr h => ?_)
  · obtain ⟨x, y, rfl, _⟩ := h
    rfl
  · obtain ⟨x, y, rfl, hQ⟩ := h
    refine ⟨_, PSs.nox (pss_cons (ps_set (i := 0) sc_common_part.nd rfl (.inl rfl) (pe_callB call_abs rfl b.abs boot_abs (pa_cons (pv 0) pa_nil)))
      (pss_cons (ps_set (i := 1) sc_common_part.nd rfl (.inl rfl) (pe_callB call_abs rfl b.abs boot_abs (pa_cons (pv 1) pa_nil)))
      (pss_cons (ps_while PassesOwn.never (pt_cmpR op_ne (pv 1) pe_int (nomark _)) (pss_one (ps_par (i := 0) (j := 1) rfl sc_common_part.nd rfl rfl (by decide) rfl rfl (pa_cons (pv 1) (pa_cons (pe_op op_mod (pv 0) (pv 1)) pa_nil)) rfl)))
      (pss_one (ps_ret (pv 0)))))), ?_⟩
    refine ⟨_, rfl, _, rfl, _, rfl, _, rfl, while_by (fun σ H2 => H2 = H ∧ ∃ a c : Int, σ = [some (.int a), some (.int c)] ∧ 0 ≤ a ∧ 0 ≤ c ∧ Int.gcd a c = Int.gcd x y)
      (fun σ _ => match σ with | [_, some (.int c)] => c.toNat | _ => 0) ⟨rfl, _, _, rfl, ?_, ?_, ?_⟩ ?_ ?_⟩
    · split <;> omega
    · split <;> omega
    · rw [abs_eq, abs_eq]
      rfl
    · rintro σ H2 ⟨rfl, a, c, rfl, ha, hc, hg⟩
      refine ⟨_, rfl, rfl, _, rfl, ?_⟩
      by_cases h0 : c = 0
      · subst h0
        refine iteNS rfl ?_
        refine ⟨_, rfl, ?_⟩
        have e : Int.gcd x y = a.natAbs := by rw [← hg]; simp
        have e2 : (Int.gcd x y : Int) = a := by omega
        rw [e2] at hQ
        exact hQ
      · have hne : (!decide (V.int c = V.int 0)) = true := by simp [h0]
        rw [hne]
        refine iteT ?_
        have hp : 0 < c := by omega
        refine ⟨_, rfl, _, rfl, _, rfl, _, _, rfl, rfl, hp, _, _, rfl, ⟨rfl, _, _, rfl, hc, Int.emod_nonneg _ h0, ?_⟩, ?_⟩
        · rw [KM.gcd_turn ha hp, hg]
        · show (a % c).toNat < c.toNat
          have h1 := Int.emod_nonneg a h0
          have h2 := Int.emod_lt_of_pos a hp
          omega
    · rintro σ H2 Q1 Q2 hm ⟨v, hv, h1, k, hk, q⟩
      exact ⟨v, hv, h1, k, hk, hm _ _ q⟩
end
end K34
set_option Elab.async false
set_option linter.all false
set_option maxRecDepth 100000
set_option maxHeartbeats 4000000
namespace K34
open PySem PySem.Spec PyProof.Rows L2
open C8 (Cal Mak Met pe_c pe_mk pe_mt pe_mt0)
section
variable {P : Program} {w : World} {K : PySem.W.Frag} {mg : Str → Option Value} {base : Heap} {f C : Addr} {fd : FuncData}
abbrev CalW (P : Program) (w : World) (K : PySem.W.Frag) (mg : Str → Option Value) (base : Heap) : Prop := Cal P w K mg base 1 "is_whole" spWhole []
abbrev CalG (P : Program) (w : World) (K : PySem.W.Frag) (mg : Str → Option Value) (base : Heap) : Prop := Cal P w K mg base 1 "common_part" spGcd []
/-- __init__: a Share in lowest terms -/
def spInit (C : Addr) : Sp := fun vs H Q _ => ∃ (p dx : Addr) (t b : Int) (n : Nat), vs = [.ref p, .int t, .int b] ∧ b ≠ 0 ∧ b.natAbs < 2 ^ n ∧ 0 < n ∧ n ≤ 9000 ∧ H p = some (.ins C dx []) ∧
  ∀ H', (∀ a o, a ≠ p → H a = some o → H' a = some o) → H' p = some (.ins C dx (shF (KM.low t b))) → Q .non H'
theorem ok_init (F : Dn K d_Share_init f fd) (cW : CalW P w K mg base) (cG : CalG P w K mg base) (T : Cl K mg C) : FnOk P w K mg base CX0 2 f fd ["self", "top", "bottom"] (spInit C) := by
  refine F.ok sc_Share_init (fun vs H Q E h => ?_) (fun cdv A outer s H vs Q E hr h => ?_)
  · obtain ⟨p, dx, t, b, n, rfl, _⟩ := h
    rfl
  · obtain ⟨p, dx, t, b, n, rfl, hb, hn, hn0, hn9, hp, hQ⟩ := h
    refine ⟨_, PSs.nox (pss_cons (ps_for PassesOwn.never rfl (pi_tup (pe_tup (pa_cons (pv 1) (pa_cons (pv 2) pa_nil)))) (pg_name (i := 3) sc_Share_init.nd rfl (.inl rfl))
        (pss_one (ps_if (pt_not (pt_val (pe_c cW hr (by decide) rfl (pa_cons (pv 3) pa_nil)))) pss_never pss_nil)))
      (pss_cons (ps_if (pt_cmpR op_eq (pv 2) pe_int (nomark _)) pss_never pss_nil)
      (pss_cons (ps_set (i := 4) sc_Share_init.nd rfl (.inl rfl) (pe_c cG hr (by decide) rfl (pa_cons (pv 1) (pa_cons (pv 2) pa_nil))))
      (pss_cons (ps_if (pt_cmpR op_lt (pv 2) pe_int (nomark _)) (pss_one (ps_set (i := 4) sc_Share_init.nd rfl (.inl rfl) (pe_un un_neg (pv 4)))) pss_nil)
      (pss_cons (ps_fld (pv 0) (pe_op op_fdW (pv 1) (pv 4)) rfl)
      (pss_one (ps_fld (pv 0) (pe_op op_fdW (pv 2) (pv 4)) rfl))))))), ?_⟩
    refine ⟨_, rfl, _, rfl, by show 2 ≤ sizeLine; decide, fun u hu => ?_⟩
    have npu : p ≠ u := ne_of_none hp hu
    refine ⟨u, rfl, ⟨_, SqT.of upd_same⟩, for_tup (K := K) (xs := [.int t, .int b]) (fun i σ H2 => H2 = upd H u (.tup [.int t, .int b]) ∧ ∃ v, σ = [some (.ref p), some (.int t), some (.int b), v, none])
      ⟨rfl, none, rfl⟩ (fun i σ H2 _ h => by rw [h.1]; exact SqT.of upd_same) ?_ ?_⟩
    · rintro i y σ H2 hi ⟨rfl, v, rfl⟩
      have hy : ∃ n : Int, y = .int n := by
        match i, hi with
        | 0, e => exact ⟨t, (Option.some.inj e).symm⟩
        | 1, e => exact ⟨b, (Option.some.inj e).symm⟩
      obtain ⟨n, rfl⟩ := hy
      refine ⟨_, rfl, n, rfl, true, rfl, ?_⟩
      refine iteF ?_
      exact ⟨rfl, _, rfl⟩
    · rintro σ H2 ⟨rfl, v, rfl⟩
      refine ⟨_, rfl, rfl, _, rfl, ?_⟩
      have hb0 : decide (V.int b = V.int 0) = false := by simp [hb]
      rw [hb0]
      refine iteF ?_
      refine ⟨_, rfl, _, rfl, t, b, rfl, ?_⟩
      refine ⟨_, rfl, _, _, rfl, rfl, _, rfl, ?_⟩
      have hs9 : (KM.sg t b).natAbs.log2 < 9000 := log_lt (Nat.lt_of_le_of_lt (KM.sg_le hb) hn) hn0 hn9
      have fin : ∀ c : Int, c = KM.sg t b → ∀ v, tSeq (sFld K (tVar 0) (tOp (rI (fun _ j => j ≠ 0 ∧ j.natAbs.log2 < 9000) fun i j => .int (i.fdiv j)) (tVar 1) (tVar 4)) "top") (sFld K (tVar 0) (tOp (rI (fun _ j => j ≠ 0 ∧ j.natAbs.log2 < 9000) fun i j => .int (i.fdiv j)) (tVar 2) (tVar 4)) "bottom")
          { nx := fun _ H' => Q .non H', rt := Q } [some (.ref p), some (.int t), some (.int b), v, some (.int c)] (upd H u (.tup [.int t, .int b])) := by
        rintro c rfl v
        refine ⟨_, rfl, _, rfl, _, _, rfl, rfl, ⟨KM.sg_ne hb, hs9⟩, _, rfl, p, C, dx, _, rfl, (by rw [upd_ne npu]; exact hp), T.cl, T.nt, (by show 0 < 1000; decide), ?_⟩
        refine ⟨_, rfl, _, rfl, _, _, rfl, rfl, ⟨KM.sg_ne hb, hs9⟩, _, rfl, p, C, dx, _, rfl, upd_same, T.cl, T.nb, (by show 1 < 1000; decide), ?_⟩
        refine hQ _ (fun a o ha e => ?_) upd_same
        rw [upd_ne ha, upd_ne ha, upd_ne (ne_of_none e hu)]
        exact e
      refine ite2 (fun h => ?_) (fun h => ?_)
      · have h' : b < 0 := of_decide_eq_true h
        refine ⟨_, rfl, _, rfl, ?_⟩
        exact fin _ (by unfold KM.sg; rw [if_pos h']) _
      · have h' : ¬ b < 0 := fun z => h (decide_eq_true z)
        exact fin _ (by unfold KM.sg; rw [if_neg h']) _
end
end K34
set_option Elab.async false
set_option linter.all false
set_option maxRecDepth 100000
set_option maxHeartbeats 4000000
namespace K34
open PySem PySem.Spec PyProof.Rows L2
open C8 (Cal Mak Met pe_c pe_mk pe_mt pe_mt0)
section
variable {P : Program} {w : World} {K : PySem.W.Frag} {mg : Str → Option Value} {base : Heap} {f C : Addr} {fd : FuncData}
abbrev MakS (P : Program) (w : World) (K : PySem.W.Frag) (mg : Str → Option Value) (base : Heap) (C : Addr) : Prop := Mak P w K mg base 2 "Share" C (spInit C) []
/-- Share(t, b): what is left to show -/
theorem mk_at {H1 : Hp} {t b : Int} {n : Nat} {Q : VK} (hb : b ≠ 0) (hn : b.natAbs < 2 ^ n) (hn0 : 0 < n) (hn9 : n ≤ 9000)
    (hQ : ∀ r H', Same H1 H' → H1 r = none → Sh C H' r (KM.low t b) → Q (.ref r) H') :
    ∀ x dx, H1 x = none → H1 dx = none → dx ≠ x → spInit C (.ref x :: ([V.int t, V.int b] ++ [])) (upd (upd H1 dx (.own x)) x (.ins C dx [])) (fun v H2 => v = .non ∧ Q (.ref x) H2) E0 := by
  intro x dx nx nd ne
  refine ⟨x, dx, t, b, n, rfl, hb, hn, hn0, hn9, upd_same, fun H' kp hp => ⟨rfl, hQ x H' (fun a o e => ?_) nx ⟨dx, hp⟩⟩⟩
  refine kp a o (ne_of_none e nx) ?_
  rw [upd_ne (ne_of_none e nx), upd_ne (ne_of_none e nd)]
  exact e
theorem mul_pos_ne {a b : Int} (ha : 0 < a) (hb : 0 < b) : a * b ≠ 0 := fun z => by
  have := Int.mul_pos ha hb
  omega
def two (n : Nat) (a b : Int × Int) : Prop := Bd n a ∧ Bd n b ∧ 0 < n ∧ n ≤ 4000

def sp_plus (C : Addr) : Sp := fun vs H Q _ => ∃ (p q : Addr) (a b : Int × Int) (n : Nat), vs = [.ref p, .ref q] ∧ Sh C H p a ∧ Sh C H q b ∧ two n a b ∧
  ∀ r H', Same H H' → H r = none → Sh C H' r (KM.low (a.1 * b.2 + b.1 * a.2) (a.2 * b.2)) → Q (.ref r) H'
theorem ok_plus (F : Dn K d_Share_plus f fd) (M : MakS P w K mg base C) (T : Cl K mg C) : FnOk P w K mg base CX0 4 f fd ["self", "other"] (sp_plus C) := by
  refine F.ok sc_Share_plus (fun vs H Q E h => ?_) (fun cdv A outer s H vs Q E hr h => ?_)
  · obtain ⟨p, q, a, b, n, rfl, _⟩ := h
    rfl
  · obtain ⟨p, q, a, b, n, rfl, ⟨dp, hp⟩, ⟨dq, hq⟩, ⟨ba, bb, hn0, hn9⟩, hQ⟩ := h
    refine ⟨_, PSs.nox (pss_one (ps_ret (pe_mk M hr (by decide) rfl (pa_cons (pe_op op_add (pe_op op_mulW (pe_fld (pv 0) rfl) (pe_fld (pv 1) rfl)) (pe_op op_mulW (pe_fld (pv 1) rfl) (pe_fld (pv 0) rfl)))
      (pa_cons (pe_op op_mulW (pe_fld (pv 0) rfl) (pe_fld (pv 1) rfl)) pa_nil))))), ?_⟩
    refine ⟨_, rfl, p, C, dp, _, _, rfl, hp, T.cl, T.nt, shF_top a, _, rfl, q, C, dq, _, _, rfl, hq, T.cl, T.nb, shF_bot b, _, _, rfl, rfl, wide_mul ba.1 bb.2.2 hn0 hn0 (by omega), ?_⟩
    refine ⟨_, rfl, q, C, dq, _, _, rfl, hq, T.cl, T.nt, shF_top b, _, rfl, p, C, dp, _, _, rfl, hp, T.cl, T.nb, shF_bot a, _, _, rfl, rfl, wide_mul bb.1 ba.2.2 hn0 hn0 (by omega), _, _, rfl, rfl, ?_⟩
    refine ⟨_, rfl, p, C, dp, _, _, rfl, hp, T.cl, T.nb, shF_bot a, _, rfl, q, C, dq, _, _, rfl, hq, T.cl, T.nb, shF_bot b, _, _, rfl, rfl, wide_mul ba.2.2 bb.2.2 hn0 hn0 (by omega), ?_⟩
    exact mk_at (n := n + n) (mul_pos_ne ba.2.1 bb.2.1) (wide_lt ba.2.2 bb.2.2) (by omega) (by omega) hQ

def sp_times (C : Addr) : Sp := fun vs H Q _ => ∃ (p : Addr) (a : Int × Int) (k : Int) (n : Nat), vs = [.ref p, .int k] ∧ Sh C H p a ∧ Bd n a ∧ k.natAbs < 2 ^ n ∧ 0 < n ∧ n ≤ 4000 ∧
  ∀ r H', Same H H' → H r = none → Sh C H' r (KM.low (a.1 * k) a.2) → Q (.ref r) H'
theorem ok_times (F : Dn K d_Share_times f fd) (M : MakS P w K mg base C) (T : Cl K mg C) : FnOk P w K mg base CX0 4 f fd ["self", "many"] (sp_times C) := by
  refine F.ok sc_Share_times (fun vs H Q E h => ?_) (fun cdv A outer s H vs Q E hr h => ?_)
  · obtain ⟨p, a, k, n, rfl, _⟩ := h
    rfl
  · obtain ⟨p, a, k, n, rfl, ⟨dp, hp⟩, ba, hk, hn0, hn9, hQ⟩ := h
    refine ⟨_, PSs.nox (pss_one (ps_ret (pe_mk M hr (by decide) rfl (pa_cons (pe_op op_mulW (pe_fld (pv 0) rfl) (pv 1)) (pa_cons (pe_fld (pv 0) rfl) pa_nil))))), ?_⟩
    refine ⟨_, rfl, p, C, dp, _, _, rfl, hp, T.cl, T.nt, shF_top a, _, rfl, _, _, rfl, rfl, wide_mul ba.1 hk hn0 hn0 (by omega), ?_⟩
    refine ⟨_, rfl, p, C, dp, _, _, rfl, hp, T.cl, T.nb, shF_bot a, ?_⟩
    exact mk_at (n := n) (by have := ba.2.1; omega) ba.2.2 hn0 (by omega) hQ
def sp_over (C : Addr) : Sp := fun vs H Q _ => ∃ (p : Addr) (a : Int × Int) (k : Int) (n : Nat), vs = [.ref p, .int k] ∧ Sh C H p a ∧ Bd n a ∧ k ≠ 0 ∧ k.natAbs < 2 ^ n ∧ 0 < n ∧ n ≤ 4000 ∧
  ∀ r H', Same H H' → H r = none → Sh C H' r (KM.low a.1 (a.2 * k)) → Q (.ref r) H'
theorem ok_over (F : Dn K d_Share_over f fd) (M : MakS P w K mg base C) (T : Cl K mg C) : FnOk P w K mg base CX0 4 f fd ["self", "many"] (sp_over C) := by
  refine F.ok sc_Share_over (fun vs H Q E h => ?_) (fun cdv A outer s H vs Q E hr h => ?_)
  · obtain ⟨p, a, k, n, rfl, _⟩ := h
    rfl
  · obtain ⟨p, a, k, n, rfl, ⟨dp, hp⟩, ba, hk0, hk, hn0, hn9, hQ⟩ := h
    refine ⟨_, PSs.nox (pss_one (ps_ret (pe_mk M hr (by decide) rfl (pa_cons (pe_fld (pv 0) rfl) (pa_cons (pe_op op_mulW (pe_fld (pv 0) rfl) (pv 1)) pa_nil))))), ?_⟩
    refine ⟨_, rfl, p, C, dp, _, _, rfl, hp, T.cl, T.nt, shF_top a, ?_⟩
    refine ⟨_, rfl, p, C, dp, _, _, rfl, hp, T.cl, T.nb, shF_bot a, _, rfl, _, _, rfl, rfl, wide_mul ba.2.2 hk hn0 hn0 (by omega), ?_⟩
    exact mk_at (n := n + n) (Int.mul_ne_zero (by have := ba.2.1; omega) hk0) (wide_lt ba.2.2 hk) (by omega) (by omega) hQ
def sp_whole (C : Addr) : Sp := fun vs H Q _ => ∃ (p : Addr) (a : Int × Int) (n : Nat), vs = [.ref p] ∧ Sh C H p a ∧ Bd n a ∧ 0 < n ∧ n ≤ 4000 ∧ Q (.int (a.1.fdiv a.2)) H
theorem ok_wholeM (F : Dn K d_Share_whole f fd) (T : Cl K mg C) : FnOk P w K mg base CX0 1 f fd ["self"] (sp_whole C) := by
  refine F.ok sc_Share_whole (fun vs H Q E h => ?_) (fun cdv A outer s H vs Q E hr h => ?_)
  · obtain ⟨p, a, n, rfl, _⟩ := h
    rfl
  · obtain ⟨p, a, n, rfl, ⟨dp, hp⟩, ba, hn0, hn9, hQ⟩ := h
    refine ⟨_, PSs.nox (pss_one (ps_ret (pe_op op_fdW (pe_fld (pv 0) rfl) (pe_fld (pv 0) rfl)))), ?_⟩
    refine ⟨_, rfl, p, C, dp, _, _, rfl, hp, T.cl, T.nt, shF_top a, _, rfl, p, C, dp, _, _, rfl, hp, T.cl, T.nb, shF_bot a, _, _, rfl, rfl, ⟨by have := ba.2.1; omega, log_lt ba.2.2 hn0 (by omega)⟩, hQ⟩
end
end K34
set_option Elab.async false
set_option linter.all false
set_option maxRecDepth 100000
set_option maxHeartbeats 4000000
namespace K34
open PySem PySem.Spec PyProof.Rows L2
open C8 (Cal Mak Met pe_c pe_mk pe_mt pe_mt0)
/-- the held dict's pairs -/
def hd0 (l : Addr) (n m : Int) : List (Key × V) := [(Sum.inr "cells", .ref l), (Sum.inr "at", .int n), (Sum.inr "left", .int m)]
theorem hd_cells (l : Addr) (n m : Int) : valV (hd0 l n m) (Sum.inr "cells") = some (.ref l) := valV_pos rfl
theorem k1 : ¬ (("cells" : Str) = "at") := by decide +kernel
theorem k2 : ¬ (("cells" : Str) = "left") := by decide +kernel
theorem k3 : ¬ (("at" : Str) = "left") := by decide +kernel
theorem k1' : ¬ (("at" : Str) = "cells") := by decide +kernel
theorem k3' : ¬ (("left" : Str) = "at") := by decide +kernel
theorem inr_ne {x y : Str} (h : ¬ x = y) : ¬ ((Sum.inr x : Key) = Sum.inr y) := fun z => h (Sum.inr.inj z)
theorem hd_at (l : Addr) (n m : Int) : valV (hd0 l n m) (Sum.inr "at") = some (.int n) := (valV_neg (inr_ne k1)).trans (valV_pos rfl)
theorem hd_left (l : Addr) (n m : Int) : valV (hd0 l n m) (Sum.inr "left") = some (.int m) := (valV_neg (inr_ne k2)).trans ((valV_neg (inr_ne k3)).trans (valV_pos rfl))
theorem put_at (l : Addr) (n m k : Int) : putK (hd0 l n m) (Sum.inr "at") (.int k) = hd0 l k m := by
  unfold putK hd0
  simp [k1, k3']
theorem put_left (l : Addr) (n m k : Int) : putK (hd0 l n m) (Sum.inr "left") (.int k) = hd0 l n k := by
  unfold putK hd0
  simp [k2, k3]
theorem hd_merge (l : Addr) (n m : Int) : mergeK [] (hd0 l n m) = hd0 l n m := by
  simp [mergeK, hd0, putK, k1, k2, k3]
/-- the held dict at h, good for c draws more -/
def Held (H : Hp) (h : Addr) (c : Nat) : Prop := ∃ (l : Addr) (ns : List Int) (n m : Int), H h = some (.dK (hd0 l n m)) ∧ H l = some (.lst (ns.map V.int)) ∧ 0 ≤ n ∧ n + c ≤ 1000000000
theorem Held.weak {H : Hp} {h : Addr} {c c' : Nat} (hc : c' ≤ c) (x : Held H h c) : Held H h c' := by
  obtain ⟨l, ns, n, m, h1, h2, h3, h4⟩ := x
  exact ⟨l, ns, n, m, h1, h2, h3, by omega⟩
/-- all but h is kept -/
def Kp (h : Addr) (H H' : Hp) : Prop := (∀ b o, H b = some o → b ≠ h → H' b = some o) ∧ ∀ l n m, H h = some (.dK (hd0 l n m)) → ∃ n' m', H' h = some (.dK (hd0 l n' m'))
theorem Kp.refl (h : Addr) (H : Hp) : Kp h H H := ⟨fun _ _ e _ => e, fun _ n m e => ⟨n, m, e⟩⟩
theorem Kp.trans {h : Addr} {H H1 H2 : Hp} (a : Kp h H H1) (b : Kp h H1 H2) : Kp h H H2 := ⟨fun c o e n => b.1 c o (a.1 c o e n) n, fun l n m e => let ⟨n', m', e'⟩ := a.2 l n m e; b.2 l n' m' e'⟩
theorem Kp.same {h : Addr} {H H1 : Hp} (a : Same H H1) : Kp h H H1 := ⟨fun c o e _ => a c o e, fun _ n m e => ⟨n, m, a _ _ e⟩⟩
theorem hd_inj {l l' : Addr} {n m n' m' : Int} (h : HO.dK (hd0 l n m) = HO.dK (hd0 l' n' m')) : l = l' := by
  injection h with h
  injection h with h _
  injection h with _ h
  injection h
/-- the held dict put anew -/
theorem Kp.put {h l : Addr} {H : Hp} {n m : Int} (n' m' : Int) (e : H h = some (.dK (hd0 l n m))) : Kp h H (upd H h (.dK (hd0 l n' m'))) := by
  refine ⟨fun c o z ne => by rw [upd_ne ne]; exact z, fun l' n1 m1 z => ⟨n', m', ?_⟩⟩
  rw [upd_same, hd_inj (Option.some.inj (z.symm.trans e))]
theorem Held.same {H H' : Hp} {h : Addr} {c : Nat} (s : Same H H') (x : Held H h c) : Held H' h c := by
  obtain ⟨l, ns, n, m, h1, h2, h3, h4⟩ := x
  exact ⟨l, ns, n, m, s _ _ h1, s _ _ h2, h3, h4⟩
theorem same_new {H : Hp} {p : Addr} {o : HO} (h : H p = none) : Same H (upd H p o) := fun a u e => by
  rw [upd_ne (ne_of_none e h)]
  exact e
theorem dpInts {K : PySem.W.Frag} {H : Hp} : ∀ ns : List Int, DpAll K H (ns.map V.int) (ns.map PyData.int)
  | [] => .nil
  | n :: ns => .cons (.int n) (dpInts ns)
section
variable {P : Program} {w : World} {K : PySem.W.Frag} {mg : Str → Option Value} {base : Heap} {f C : Addr} {fd : FuncData}
def spHeld (K : PySem.W.Frag) : Sp := fun vs H Q _ => ∃ (a : Addr) (ns : List Int), vs = [.ref a] ∧ SqL K H a (ns.map V.int) ∧ ns.length ≤ 63 ∧ ∀ h H', Same H H' → H h = none → Held H' h 900000000 → Q (.ref h) H'
theorem ok_held (F : Dn K d_l_held f fd) (b : Bl mg) : FnOk P w K mg base CX0 1 f fd ["_law_script"] (spHeld K) := by
  refine F.ok sc_l_held (fun vs H Q E h => ?_) (fun cdv A outer s H vs Q E hr h => ?_)
  · obtain ⟨a, ns, rfl, _⟩ := h
    rfl
  · obtain ⟨a, ns, rfl, hS, hlen, hQ⟩ := h
    refine ⟨_, PSs.nox (pss_one (ps_ret (pe_disp (pps_cons pe_str (pe_callTy call_list_of rfl b.list boot_list (pa_cons (pe_slice sl_list (pv 0) po_none (po_some pe_int)) pa_nil)) (pps_cons pe_str pe_int (pps_cons pe_str pe_int pps_nil))) rfl rfl (by simp) (by decide)))), ?_⟩
    intro h hh
    have sS : SqL K (upd H h (.dK [])) a (ns.map V.int) := (same_new hh).seq hS
    refine ⟨_, rfl, 63, rfl, a, _, rfl, sS, fun p hp => ⟨p, _, rfl, Or.inl (SqL.of upd_same), fun l hl => ?_⟩⟩
    have nhp : h ≠ p := ne_of_none upd_same hp
    have nhl : h ≠ l := ne_of_none (by rw [upd_ne nhp]; exact upd_same) hl
    refine ⟨by rw [upd_ne nhl, upd_ne nhp, upd_same], hd0 l 0 0, rfl, by show 3 ≤ 15; decide, ?_⟩
    have e : cutV (ns.map V.int) none (some 63) = (ns.take 63).map V.int := by
      unfold cutV
      simp [HT.sIx, List.map_take]
    refine hQ h _ (fun c o z => ?_) hh ⟨l, ns.take 63, 0, 0, ?_, ?_, by decide, by decide⟩
    · have z1 : c ≠ h := ne_of_none z hh
      have z2 : (upd H h (.dK [])) c = some o := by rw [upd_ne z1]; exact z
      have z3 : c ≠ p := ne_of_none z2 hp
      have z4 : c ≠ l := ne_of_none (by rw [upd_ne z3]; exact z2) hl
      rw [upd_ne z1, upd_ne z4, upd_ne z3]
      exact z2
    · rw [upd_same, hd_merge]
    · rw [upd_ne nhl.symm, upd_same, ← e]

def spDraw : Sp := fun vs H Q _ => ∃ (h : Addr) (c : Nat) (k : Int), vs = [.ref h, .int k] ∧ Held H h (c + 1) ∧ 0 < k ∧ k < 1073741824 ∧
  ∀ r H', 0 ≤ r → r < k → Held H' h c → Kp h H H' → Q (.int r) H'
theorem cb_l {i j : Int} (h1 : -(2 ^ 64) < i) (h2 : i < 2 ^ 64) : CMul i j := .inl ⟨h1, h2⟩
theorem cb_r {i j : Int} (h1 : -(2 ^ 64) < j) (h2 : j < 2 ^ 64) : CMul i j := .inr ⟨h1, h2⟩
theorem ok_draw (F : Dn K d_l_draw f fd) (b : Bl mg) : FnOk P w K mg base CX0 1 f fd ["_law_held_here", "_law_count"] spDraw := by
  refine F.ok sc_l_draw (fun vs H Q E h => ?_) (fun cdv A outer s H vs Q E hr h => ?_)
  · obtain ⟨h, c, k, rfl, _⟩ := h
    rfl
  · obtain ⟨h, c, k, rfl, ⟨l, ns, n, m, hh, hl, hn, hc⟩, hk0, hk1, hQ⟩ := h
    have hu := hu_of hr
    have hu64 : (A.deeper (envOfC d_l_draw.qual d_l_draw.scope s.heap.objs.size f cdv)).units + 64 < cLine := by have := hr.un; omega
    have nlh : l ≠ h := ne_of hl hh (by intro z; cases z)
    refine ⟨_, PSs.nox (pss_cons (ps_if (pt_cmpR op_gt (pe_dget hu (pv 0) pe_str (fun _ _ => rfl)) pe_int (nomark _))
         (pss_cons (ps_set (i := 2) sc_l_draw.nd rfl (.inl rfl) (pe_op op_mod (pe_dget hu (pv 0) pe_str (fun _ _ => rfl)) (pv 1)))
         (pss_cons (ps_dput hu (pv 0) pe_str (pe_op op_fdiv (pe_dget hu (pv 0) pe_str (fun _ _ => rfl)) (pv 1)) rfl)
         (pss_one (ps_ret (pv 2))))) pss_nil)
      (pss_cons (ps_set (i := 3) sc_l_draw.nd rfl (.inl rfl) (pe_dget hu (pv 0) pe_str (fun _ _ => rfl)))
      (pss_cons (ps_dput hu (pv 0) pe_str (pe_op op_add (pv 3) pe_int) rfl)
      (C8.pss_cut (ps_set (i := 4) sc_l_draw.nd rfl (.inl rfl) (pe_ifExp (pt_cmpR (op_neD hu64) (pe_dget hu (pv 0) pe_str (fun _ _ => rfl)) (pe_lst pa_nil) (nomark _))
        (pe_ix ix_list (pe_dget hu (pv 0) pe_str (fun _ _ => rfl)) (pe_op op_mod (pv 3) (pe_callB call_len_seq rfl b.len boot_len (pa_cons (pe_dget hu (pv 0) pe_str (fun _ _ => rfl)) pa_nil))) (fun _ _ => rfl)) pe_int))
      (pss_cons (ps_if (PW.pt (pw_and (pt_cmpR op_ge (pv 4) (pe_op op_pow pe_int pe_int) (nomark _)) (pw_and1 (pt_cmpR op_lt (pv 3) (pe_callB call_len_seq rfl b.len boot_len (pa_cons (pe_dget hu (pv 0) pe_str (fun _ _ => rfl)) pa_nil)) (nomark _)))))
         (pss_cons (ps_dput hu (pv 0) pe_str (pe_op op_fdiv (pe_op op_sub (pv 4) (pe_op op_pow pe_int pe_int)) (pv 1)) rfl)
         (pss_one (ps_ret (pe_op op_mod (pe_op op_sub (pv 4) (pe_op op_pow pe_int pe_int)) (pv 1))))) pss_nil)
      (pss_cons (ps_set (i := 5) sc_l_draw.nd rfl (.inl rfl) (pe_op op_mod (pe_op op_add (pe_op op_add (pe_op op_add (pe_op op_mul (pe_op op_mod (pv 4) pe_int) pe_int) (pe_op op_mul (pe_op op_mul pe_int (pv 3)) (pv 3))) (pe_op op_mul pe_int (pv 3))) pe_int) pe_int))
      (pss_cons (ps_set (i := 5) sc_l_draw.nd rfl (.inl rfl) (pe_op op_mod (pe_op op_add (pe_op op_add (pe_op op_mul (pv 5) pe_int) (pe_op op_fdiv (pv 5) pe_int)) pe_int) pe_int))
      (pss_one (ps_ret (pe_op op_mod (pe_op op_fdiv (pv 5) pe_int) (pv 1))))))))))), ?_⟩
    have cM : ∀ x y : Int, 0 < y → (0 ≤ x % y ∧ x % y < y) := fun x y hy => ⟨Int.emod_nonneg _ (by omega), Int.emod_lt_of_pos _ hy⟩
    refine ⟨_, rfl, h, _, rfl, hd_left l n m ▸ DGet.k (k := Sum.inr "left") hh, _, _, rfl, rfl, _, rfl, ?_⟩
    refine ite2 (fun h1 => ?_) (fun h1 => ?_)
    · refine ⟨_, rfl, h, _, rfl, hd_left l n m ▸ DGet.k (k := Sum.inr "left") hh, _, rfl, _, _, rfl, rfl, hk0, ?_⟩
      refine ⟨_, rfl, h, _, rfl, hd_left l n m ▸ DGet.k (k := Sum.inr "left") hh, _, rfl, _, _, rfl, rfl, ⟨hk0, hk1⟩, _, rfl, h, _, rfl, DPut.k (k := Sum.inr "left") hh (by show 3 < sizeLine; decide), ?_⟩
      refine ⟨_, rfl, hQ _ _ (cM _ _ hk0).1 (cM _ _ hk0).2 ⟨l, ns, n, m / k, ?_, ?_, hn, by omega⟩ ?_⟩
      · rw [upd_same, put_left]
      · rw [upd_ne nlh]; exact hl
      · rw [put_left]; exact Kp.put _ _ hh
    · refine ⟨_, rfl, h, _, rfl, hd_at l n m ▸ DGet.k (k := Sum.inr "at") hh, ?_⟩
      refine ⟨_, rfl, _, _, rfl, rfl, _, rfl, h, _, rfl, DPut.k (k := Sum.inr "at") hh (by show 3 < sizeLine; decide), ?_⟩
      rw [put_at]
      have hh1 : (upd H h (.dK (hd0 l (n + 1) m))) h = some (.dK (hd0 l (n + 1) m)) := upd_same
      have hl1 : (upd H h (.dK (hd0 l (n + 1) m))) l = some (.lst (ns.map V.int)) := by rw [upd_ne nlh]; exact hl
      have kp1 : Kp h H (upd H h (.dK (hd0 l (n + 1) m))) := Kp.put _ _ hh
      refine ⟨fun σ' H' => ∃ (cell : Int), σ' = [some (.ref h), some (.int k), none, some (.int n), some (.int cell), none] ∧ H' h = some (.dK (hd0 l (n + 1) m)) ∧ H' l = some (.lst (ns.map V.int)) ∧ Kp h H H', ?_, ?_⟩
      · refine ⟨_, rfl, h, _, rfl, hd_cells l (n + 1) m ▸ DGet.k (k := Sum.inr "cells") hh1, (by show 0 ≤ sizeLine; decide), fun e he => ?_⟩
        have nhe : h ≠ e := ne_of_none hh1 he
        have nle : l ≠ e := ne_of_none hl1 he
        have hh2 : (upd (upd H h (.dK (hd0 l (n + 1) m))) e (.lst [])) h = some (.dK (hd0 l (n + 1) m)) := by rw [upd_ne nhe]; exact hh1
        have hl2 : (upd (upd H h (.dK (hd0 l (n + 1) m))) e (.lst [])) l = some (.lst (ns.map V.int)) := by rw [upd_ne nle]; exact hl1
        have kp2 : Kp h H (upd (upd H h (.dK (hd0 l (n + 1) m))) e (.lst [])) := kp1.trans (Kp.same (same_new he))
        refine ⟨.list (ns.map .int), .list [], Dp.lst (SqL.of hl2) (dpInts ns), Dp.lst (SqL.of upd_same) .nil, PySem.W.ke_shaped_ints ns, by decide, _, rfl, ?_⟩
        cases ns with
        | nil => exact iteF ⟨0, rfl, hh2, hl2, kp2⟩
        | cons z zs =>
          refine iteT ?_
          have hlen : (0 : Int) < (((z :: zs).map V.int).length : Int) := by simp
          refine ⟨_, rfl, h, _, rfl, hd_cells l (n + 1) m ▸ DGet.k (k := Sum.inr "cells") hh2, _, rfl, _, rfl, h, _, rfl, hd_cells l (n + 1) m ▸ DGet.k (k := Sum.inr "cells") hh2, l, _, rfl, Or.inl (SqL.of hl2), _, _, rfl, rfl, hlen, ?_⟩
          obtain ⟨q, hq⟩ := Int.eq_ofNat_of_zero_le (cM n _ hlen).1
          have hq2 := (cM n _ hlen).2
          rw [hq] at hq2
          have hq3 : q < (z :: zs).length := by rw [List.length_map] at hq2; omega
          refine ⟨l, _, _, .int ((z :: zs)[q]), rfl, rfl, SqL.of hl2, (by rw [hq]; exact atI_nat (by rw [List.getElem?_map, List.getElem?_eq_getElem hq3]; rfl)), ?_⟩
          exact ⟨_, rfl, hh2, hl2, kp2⟩
      · rintro σ' H' ⟨cell, rfl, hh2, hl2, kp2⟩
        have stay : ∀ m', Held (upd H' h (.dK (hd0 l (n + 1) m'))) h c := fun m' => ⟨l, ns, n + 1, m', upd_same, by rw [upd_ne nlh]; exact hl2, by omega, by omega⟩
        have stay0 : Held H' h c := ⟨l, ns, n + 1, m, hh2, hl2, by omega, by omega⟩
        have last : ∀ D : Ends, D.rt = Q → tSeq (tAsg (tOp (rI (fun _ j => 0 < j) fun i j => .int (i % j)) (tOp (rI0 fun i j => .int (i + j)) (tOp (rI0 fun i j => .int (i + j)) (tOp (rI0 fun i j => .int (i + j))
            (tOp (rI CMul fun i j => .int (i * j)) (tOp (rI (fun _ j => 0 < j) fun i j => .int (i % j)) (tVar 4) (tC (.int 2147483587))) (tC (.int 40692))) (tOp (rI CMul fun i j => .int (i * j)) (tOp (rI CMul fun i j => .int (i * j)) (tC (.int 7907)) (tVar 3)) (tVar 3)))
            (tOp (rI CMul fun i j => .int (i * j)) (tC (.int 104729)) (tVar 3))) (tC (.int 17))) (tC (.int 2147483629))) (gName 5))
          (tSeq (tAsg (tOp (rI (fun _ j => 0 < j) fun i j => .int (i % j)) (tOp (rI0 fun i j => .int (i + j)) (tOp (rI0 fun i j => .int (i + j)) (tOp (rI CMul fun i j => .int (i * j)) (tVar 5) (tC (.int 48271))) (tOp (rI CDiv fun i j => .int (i / j)) (tVar 5) (tC (.int 127)))) (tC (.int 31))) (tC (.int 2147483647))) (gName 5))
          (tRet (tOp (rI (fun _ j => 0 < j) fun i j => .int (i % j)) (tOp (rI CDiv fun i j => .int (i / j)) (tVar 5) (tC (.int 89))) (tVar 1)))) D [some (.ref h), some (.int k), none, some (.int n), some (.int cell), none] H' := by
          intro D hD
          refine ⟨_, rfl, _, _, rfl, rfl, (by decide : (0 : Int) < 2147483587), _, _, rfl, rfl, cb_r (by decide) (by decide), _, rfl, _, _, rfl, rfl, cb_l (by decide) (by decide), _, rfl, _, _, rfl, rfl, cb_r (by omega) (by omega), _, _, rfl, rfl, ?_⟩
          refine ⟨_, rfl, _, _, rfl, rfl, cb_l (by decide) (by decide), _, _, rfl, rfl, _, _, rfl, rfl, _, _, rfl, rfl, (by decide : (0 : Int) < 2147483629), ?_⟩
          refine ⟨_, rfl, _, _, rfl, rfl, cb_r (by decide) (by decide), _, rfl, _, _, rfl, rfl, ⟨by decide, by decide⟩, _, _, rfl, rfl, _, _, rfl, rfl, _, _, rfl, rfl, (by decide : (0 : Int) < 2147483647), ?_⟩
          refine ⟨_, rfl, _, _, rfl, rfl, ⟨by decide, by decide⟩, _, rfl, _, _, rfl, rfl, hk0, ?_⟩
          rw [hD]
          exact hQ _ _ (cM _ _ hk0).1 (cM _ _ hk0).2 stay0 kp2
        refine ⟨_, rfl, _, _, rfl, rfl, ⟨by decide, by decide, by decide⟩, _, _, rfl, rfl, _, rfl, ?_⟩
        refine ite2 (fun g1 => ?_) (fun g1 => iteF (last _ rfl))
        refine ⟨_, rfl, _, rfl, h, _, rfl, hd_cells l (n + 1) m ▸ DGet.k (k := Sum.inr "cells") hh2, l, _, rfl, Or.inl (SqL.of hl2), _, _, rfl, rfl, _, rfl, ?_⟩
        refine ite2 (fun g2 => ?_) (fun g2 => last _ rfl)
        refine ⟨_, rfl, _, _, rfl, rfl, ⟨by decide, by decide, by decide⟩, _, _, rfl, rfl, _, rfl, _, _, rfl, rfl, ⟨hk0, hk1⟩, _, rfl, h, _, rfl, DPut.k (k := Sum.inr "left") hh2 (by show 3 < sizeLine; decide), ?_⟩
        refine ⟨_, rfl, _, _, rfl, rfl, ⟨by decide, by decide, by decide⟩, _, _, rfl, rfl, _, rfl, _, _, rfl, rfl, hk0, ?_⟩
        rw [put_left]
        refine hQ _ _ (cM _ _ hk0).1 (cM _ _ hk0).2 (stay _) (kp2.trans (Kp.put _ _ hh2))
end
end K34
set_option Elab.async false
set_option linter.all false
set_option maxRecDepth 100000
set_option maxHeartbeats 4000000
namespace K34
open PySem PySem.Spec PyProof.Rows L2
open C8 (Cal Mak Met pe_c pe_mk pe_mt pe_mt0)
open KM (pr Sz)
/-- what isinstance asks of the class -/
structure IsC (K : PySem.W.Frag) (C : Addr) : Prop where
  ha : PySem.W.findIn K (.ref C) "__class__" = some (some (.builtin "object.__class__"))
  hn : PySem.W.specialIn K (.builtin "object.__class__") "__get__" = some (some (.builtin "getset_descriptor.__get__"))
  htk : PySem.W.takesIn K (.builtin "object.__class__") = some true
  hm : PySem.W.mroIn K C (.type "object") = some true
  kit : PySem.W.kitOne K (.ref C) (.ref C) = some true
theorem bd_of {n : Nat} {r : Rat} (h : Sz n r) : Bd n (pr r) := ⟨h.1, KM.den_pos r, by simpa [pr] using h.2⟩

section
variable {P : Program} {w : World} {K : PySem.W.Frag} {mg : Str → Option Value} {base : Heap} {f C : Addr} {fd : FuncData}
abbrev CalD (P : Program) (w : World) (K : PySem.W.Frag) (mg : Str → Option Value) (base : Heap) : Prop := Cal P w K mg base 1 "_law_draw" spDraw []
def tupP (q : Int × Int) : HO := .tup [.int q.1, .int q.2]
def spLow : Sp := fun vs H Q _ => ∃ (t b : Int) (n : Nat), vs = [.int t, .int b] ∧ b ≠ 0 ∧ b.natAbs < 2 ^ n ∧ 0 < n ∧ n ≤ 9000 ∧ ∀ r, H r = none → Q (.ref r) (upd H r (tupP (KM.low t b)))
theorem ok_low (F : Dn K d_l_low f fd) (b : Bl mg) : FnOk P w K mg base CX0 1 f fd ["_law_top", "_law_bottom"] spLow := by
  refine F.ok sc_l_low (fun vs H Q E h => ?_) (fun cdv A outer s H vs Q E hr h => ?_)
  · obtain ⟨t, b, n, rfl, _⟩ := h
    rfl
  · obtain ⟨x, y, n, rfl, hy, hn, hn0, hn9, hQ⟩ := h
    refine ⟨_, PSs.nox (pss_cons (ps_par (i := 2) (j := 3) rfl sc_l_low.nd rfl rfl (by decide) rfl rfl (pa_cons (pe_callB call_abs rfl b.abs boot_abs (pa_cons (pv 0) pa_nil)) (pa_cons (pe_callB call_abs rfl b.abs boot_abs (pa_cons (pv 1) pa_nil)) pa_nil)) rfl)
      (pss_cons (ps_while PassesOwn.never (pt_cmpR op_gt (pv 3) pe_int (nomark _)) (pss_one (ps_par (i := 2) (j := 3) rfl sc_l_low.nd rfl rfl (by decide) rfl rfl (pa_cons (pv 3) (pa_cons (pe_op op_mod (pv 2) (pv 3)) pa_nil)) rfl)))
      (C8.pss_cut (ps_if (pt_cmpR op_lt (pv 1) pe_int (nomark _)) (pss_one (ps_set (i := 2) sc_l_low.nd rfl (.inl rfl) (pe_op op_sub pe_int (pv 2)))) pss_nil)
      (pss_one (ps_ret (pe_tup (pa_cons (pe_op op_fdW (pv 0) (pv 2)) (pa_cons (pe_op op_fdW (pv 1) (pv 2)) pa_nil)))))))), ?_⟩
    refine ⟨_, rfl, _, rfl, _, rfl, _, rfl, _, _, rfl, while_by (fun σ H2 => H2 = H ∧ ∃ a c : Int, σ = [some (.int x), some (.int y), some (.int a), some (.int c)] ∧ 0 ≤ a ∧ 0 ≤ c ∧ Int.gcd a c = Int.gcd x y)
      (fun σ _ => match σ with | [_, _, _, some (.int c)] => c.toNat | _ => 0) ⟨rfl, _, _, rfl, ?_, ?_, ?_⟩ ?_ ?_⟩
    · split <;> omega
    · split <;> omega
    · rw [abs_eq, abs_eq]
      rfl
    · rintro σ H2 ⟨rfl, a, c, rfl, ha, hc, hg⟩
      refine ⟨_, rfl, _, _, rfl, rfl, _, rfl, ?_⟩
      refine ite2 (fun g => ?_) (fun g => ?_)
      · have hp : 0 < c := of_decide_eq_true g
        refine ⟨_, rfl, _, rfl, _, rfl, _, _, rfl, rfl, hp, _, _, rfl, ⟨rfl, _, _, rfl, hc, Int.emod_nonneg _ (by omega), ?_⟩, ?_⟩
        · rw [KM.gcd_turn ha hp, hg]
        · show (a % c).toNat < c.toNat
          have h1 := Int.emod_nonneg a (show c ≠ 0 by omega)
          have h2 := Int.emod_lt_of_pos a hp
          omega
      · have h0 : c = 0 := by
          have : ¬ 0 < c := fun z => g (decide_eq_true z)
          omega
        subst h0
        have e : Int.gcd x y = a.natAbs := by rw [← hg]; simp
        refine ⟨fun σ' H' => H' = H2 ∧ ∃ v, σ' = [some (.int x), some (.int y), some (.int (KM.sg x y)), v], ?_, ?_⟩
        · refine ⟨_, rfl, _, _, rfl, rfl, _, rfl, ?_⟩
          refine ite2 (fun g1 => ?_) (fun g1 => ?_)
          · refine ⟨_, rfl, _, _, rfl, rfl, rfl, some (.int 0), ?_⟩
            have e2 : KM.sg x y = 0 - a := by unfold KM.sg; rw [if_pos (of_decide_eq_true g1), e]; omega
            rw [e2]
            rfl
          · refine ⟨rfl, some (.int 0), ?_⟩
            have e2 : KM.sg x y = a := by unfold KM.sg; rw [if_neg (fun z => g1 (decide_eq_true z)), e]; omega
            rw [e2]
        · rintro σ' H' ⟨rfl, v, rfl⟩
          have hs9 : (KM.sg x y).natAbs.log2 < 9000 := log_lt (Nat.lt_of_le_of_lt (KM.sg_le hy) hn) hn0 hn9
          refine ⟨_, rfl, _, rfl, _, _, rfl, rfl, ⟨KM.sg_ne hy, hs9⟩, _, rfl, _, rfl, _, _, rfl, rfl, ⟨KM.sg_ne hy, hs9⟩, (by show 2 ≤ sizeLine; decide), fun r hr => hQ r hr⟩
    · rintro σ H2 Q1 Q2 hm ⟨v, hv, i, j, e1, e2, k, hk, q⟩
      exact ⟨v, hv, i, j, e1, e2, k, hk, hm _ _ q⟩
abbrev CalL (P : Program) (w : World) (K : PySem.W.Frag) (mg : Str → Option Value) (base : Heap) : Prop := Cal P w K mg base 1 "_law_low" spLow []
def spAdd : Sp := fun vs H Q _ => ∃ (p q : Addr) (a b : Int × Int) (n : Nat), vs = [.ref p, .ref q] ∧ H p = some (tupP a) ∧ H q = some (tupP b) ∧ two n a b ∧
  ∀ r, H r = none → Q (.ref r) (upd H r (tupP (KM.low (a.1 * b.2 + b.1 * a.2) (a.2 * b.2))))
theorem at0 {a b : V} : atI [a, b] 0 = some a := rfl
theorem at1 {a b : V} : atI [a, b] 1 = some b := rfl
theorem ok_add (F : Dn K d_l_add f fd) (cL : CalL P w K mg base) : FnOk P w K mg base CX0 2 f fd ["_law_one", "_law_other"] spAdd := by
  refine F.ok sc_l_add (fun vs H Q E h => ?_) (fun cdv A outer s H vs Q E hr h => ?_)
  · obtain ⟨p, q, a, b, n, rfl, _⟩ := h
    rfl
  · obtain ⟨p, q, a, b, n, rfl, hp, hq, ⟨ba, bb, hn0, hn9⟩, hQ⟩ := h
    refine ⟨_, PSs.nox (pss_one (ps_ret (pe_c cL hr (by decide) rfl (pa_cons (pe_op op_add (pe_op op_mulW (pe_ix ix_tup (pv 0) pe_int (fun _ _ => rfl)) (pe_ix ix_tup (pv 1) pe_int (fun _ _ => rfl))) (pe_op op_mulW (pe_ix ix_tup (pv 1) pe_int (fun _ _ => rfl)) (pe_ix ix_tup (pv 0) pe_int (fun _ _ => rfl))))
      (pa_cons (pe_op op_mulW (pe_ix ix_tup (pv 0) pe_int (fun _ _ => rfl)) (pe_ix ix_tup (pv 1) pe_int (fun _ _ => rfl))) pa_nil))))), ?_⟩
    refine ⟨_, rfl, p, _, _, _, rfl, rfl, SqT.of hp, at0, _, rfl, q, _, _, _, rfl, rfl, SqT.of hq, at1, _, _, rfl, rfl, wide_mul ba.1 bb.2.2 hn0 hn0 (by omega), ?_⟩
    refine ⟨_, rfl, q, _, _, _, rfl, rfl, SqT.of hq, at0, _, rfl, p, _, _, _, rfl, rfl, SqT.of hp, at1, _, _, rfl, rfl, wide_mul bb.1 ba.2.2 hn0 hn0 (by omega), _, _, rfl, rfl, ?_⟩
    refine ⟨_, rfl, p, _, _, _, rfl, rfl, SqT.of hp, at1, _, rfl, q, _, _, _, rfl, rfl, SqT.of hq, at1, _, _, rfl, rfl, wide_mul ba.2.2 bb.2.2 hn0 hn0 (by omega), ?_⟩
    exact ⟨_, _, n + n, rfl, mul_pos_ne ba.2.1 bb.2.1, wide_lt ba.2.2 bb.2.2, by omega, by omega, hQ⟩
def spPair (C : Addr) : Sp := fun vs H Q _ => ∃ (p : Addr) (q : Int × Int), vs = [.ref p] ∧ Sh C H p q ∧ ∀ r H', Same H H' → H r = none → H' r = some (tupP q) → Q (.ref r) H'
theorem ok_pair (F : Dn K d_l_pair f fd) (b : Bl mg) (T : Cl K mg C) (S : IsC K C) : FnOk P w K mg base CX0 1 f fd ["_law_share"] (spPair C) := by
  refine F.ok sc_l_pair (fun vs H Q E h => ?_) (fun cdv A outer s H vs Q E hr h => ?_)
  · obtain ⟨p, q, rfl, _⟩ := h
    rfl
  · obtain ⟨p, q, rfl, ⟨dp, hp⟩, hQ⟩ := h
    refine ⟨_, PSs.nox (pss_cons (ps_if (pt_not (pt_val (pe_callB call_isi rfl b.isi boot_isinstance (pa_cons (pv 0) (pa_cons (pe_glob (v := .ref C) rfl T.g rfl) pa_nil))))) pss_never pss_nil)
      (pss_cons (ps_for PassesOwn.never rfl (pi_tup (pe_tup (pa_cons (pe_fld (pv 0) rfl) (pa_cons (pe_fld (pv 0) rfl) pa_nil)))) (pg_name (i := 1) sc_l_pair.nd rfl (.inl rfl))
        (pss_one (ps_if (PW.pt (pw_or (pt_not (pt_val (pe_callB call_isi rfl b.isi boot_isinstance (pa_cons (pv 1) (pa_cons (pe_bltn (v := .ty "int") rfl b.int boot_int rfl) pa_nil)))))
          (pw_or1 (pt_val (pe_callB call_isi rfl b.isi boot_isinstance (pa_cons (pv 1) (pa_cons (pe_bltn (v := .ty "bool") rfl b.bool boot_bool rfl) pa_nil))))))) pss_never pss_nil)))
      (pss_one (ps_ret (pe_tup (pa_cons (pe_fld (pv 0) rfl) (pa_cons (pe_fld (pv 0) rfl) pa_nil))))))), ?_⟩
    refine ⟨_, rfl, _, _, _, _, true, rfl, ClsV.own C, TyX.base (TyOf.ins hp T.cl S.ha S.hn S.htk S.hm), S.kit, true, rfl, ?_⟩
    refine iteF ?_
    refine ⟨_, rfl, p, C, dp, _, _, rfl, hp, T.cl, T.nt, shF_top q, _, rfl, p, C, dp, _, _, rfl, hp, T.cl, T.nb, shF_bot q, by show 2 ≤ sizeLine; decide, fun u hu => ?_⟩
    have npu : p ≠ u := ne_of_none hp hu
    refine ⟨u, rfl, ⟨_, SqT.of upd_same⟩, for_tup (K := K) (xs := [.int q.1, .int q.2]) (fun i σ H2 => H2 = upd H u (.tup [.int q.1, .int q.2]) ∧ ∃ v, σ = [some (.ref p), v])
      ⟨rfl, none, rfl⟩ (fun i σ H2 _ h => by rw [h.1]; exact SqT.of upd_same) ?_ ?_⟩
    · rintro i y σ H2 hi ⟨rfl, v, rfl⟩
      have hy : ∃ n : Int, y = .int n := by
        match i, hi with
        | 0, e => exact ⟨_, (Option.some.inj e).symm⟩
        | 1, e => exact ⟨_, (Option.some.inj e).symm⟩
      obtain ⟨n, rfl⟩ := hy
      refine ⟨_, rfl, _, _, _, _, true, rfl, ClsV.ty _, TyX.base (TyOf.int n), kit_ty (by decide +kernel), true, rfl, ?_⟩
      refine iteF ?_
      refine ⟨_, rfl, _, _, _, _, false, rfl, ClsV.ty _, TyX.base (TyOf.int n), kit_ty (by decide +kernel), false, rfl, ?_⟩
      exact iteF ⟨rfl, _, rfl⟩
    · rintro σ H2 ⟨rfl, v, rfl⟩
      have hp2 : (upd H u (.tup [.int q.1, .int q.2])) p = some (.ins C dp (shF q)) := by rw [upd_ne npu]; exact hp
      refine ⟨_, rfl, p, C, dp, _, _, rfl, hp2, T.cl, T.nt, shF_top q, _, rfl, p, C, dp, _, _, rfl, hp2, T.cl, T.nb, shF_bot q, by show 2 ≤ sizeLine; decide, fun r hr => ?_⟩
      exact hQ r _ ((same_new hu).trans (same_new hr)) ((same_new hu).free hr) upd_same
/-- two Shares in, a Share out -/
def sp2 (C : Addr) (g : Rat → Rat → Rat) : Sp := fun vs H Q _ => ∃ (p q : Addr) (r s : Rat) (n : Nat), vs = [.ref p, .ref q] ∧ Sh C H p (pr r) ∧ Sh C H q (pr s) ∧ Sz n r ∧ Sz n s ∧ 0 < n ∧ n ≤ 4000 ∧
  ∀ t H', Same H H' → H t = none → Sh C H' t (pr (g r s)) → Q (.ref t) H'
theorem plusR {vs : List V} {H : Hp} {Q : VK} {E : XK} (h : sp2 C (· + ·) vs H Q E) : sp_plus C vs H Q E := by
  obtain ⟨p, q, r, s, n, e, hp, hq, sr, ss, n0, n9, k⟩ := h
  refine ⟨p, q, _, _, n, e, hp, hq, ⟨bd_of sr, bd_of ss, n0, n9⟩, fun t H' a b c => k t H' a b ?_⟩
  rw [KM.pr_plus] at c
  exact c
/-- a Share and a whole number in, a Share out -/
def sp1 (C : Addr) (ok : Int → Prop) (g : Rat → Int → Rat) : Sp := fun vs H Q _ => ∃ (p : Addr) (r : Rat) (k : Int) (n : Nat), vs = [.ref p, .int k] ∧ Sh C H p (pr r) ∧ Sz n r ∧ ok k ∧ k.natAbs < 2 ^ n ∧ 0 < n ∧ n ≤ 4000 ∧
  ∀ t H', Same H H' → H t = none → Sh C H' t (pr (g r k)) → Q (.ref t) H'
theorem timesR {vs : List V} {H : Hp} {Q : VK} {E : XK} (h : sp1 C (fun _ => True) (fun r k => r * Rat.divInt k 1) vs H Q E) : sp_times C vs H Q E := by
  obtain ⟨p, r, k, n, e, hp, sr, _, hk, n0, n9, q⟩ := h
  refine ⟨p, _, k, n, e, hp, bd_of sr, hk, n0, n9, fun t H' a b c => q t H' a b ?_⟩
  rw [KM.pr_times] at c
  exact c
theorem overR {vs : List V} {H : Hp} {Q : VK} {E : XK} (h : sp1 C (fun k => k ≠ 0) (fun r k => r * Rat.divInt 1 k) vs H Q E) : sp_over C vs H Q E := by
  obtain ⟨p, r, k, n, e, hp, sr, h0, hk, n0, n9, q⟩ := h
  refine ⟨p, _, k, n, e, hp, bd_of sr, h0, hk, n0, n9, fun t H' a b c => q t H' a b ?_⟩
  rw [KM.pr_over r h0] at c
  exact c
abbrev MakS1 (P : Program) (w : World) (K : PySem.W.Frag) (mg : Str → Option Value) (base : Heap) (C : Addr) : Prop := Mak P w K mg base 2 "Share" C (spInit C) [.int 1]
theorem mk_in {C x dx : Addr} {H1 : Hp} {t b : Int} {n : Nat} {Qv : VK} {E : XK} (nx : H1 x = none) (nd : H1 dx = none) (hb : b ≠ 0) (hn : b.natAbs < 2 ^ n) (hn0 : 0 < n) (hn9 : n ≤ 9000)
    (hQ : ∀ H', Same H1 H' → Sh C H' x (pr (Rat.divInt t b)) → Qv .non H') : spInit C [.ref x, .int t, .int b] (upd (upd H1 dx (.own x)) x (.ins C dx [])) Qv E := by
  refine ⟨x, dx, t, b, n, rfl, hb, hn, hn0, hn9, upd_same, fun H' kp hp => hQ H' (fun a o e => ?_) ⟨dx, KM.low_eq hb ▸ hp⟩⟩
  refine kp a o (ne_of_none e nx) ?_
  rw [upd_ne (ne_of_none e nx), upd_ne (ne_of_none e nd)]
  exact e
end
end K34
set_option Elab.async false
set_option linter.all false
set_option maxRecDepth 100000
set_option maxHeartbeats 4000000
namespace K34
open PySem PySem.Spec PyProof.Rows L2
open C8 (Cal Mak Met pe_c pe_mk pe_mt pe_mt0)
open KM (pr Sz)
/-! ### the sums, as rational numbers -/
def spr (g : Int) : Rat := if g = 0 then Rat.divInt 0 1 else Rat.divInt 1 (2 * g)
def stp (g m : Int) : Rat := Rat.divInt m (m + 1) + spr g
def sO (g : Int) : Nat → Rat
  | 0 => Rat.divInt 0 1
  | k + 1 => sO g k + stp g (1 + (k : Int)) * Rat.divInt (1 + (k : Int)) 1
def sE (n g : Int) : Nat → Rat
  | 0 => Rat.divInt 0 1
  | k + 1 => sE n g k + stp g (1 + (k : Int)) * Rat.divInt (n - (1 + (k : Int))) 1
def bO (n g : Int) : Nat → Rat
  | 0 => Rat.divInt 0 1
  | k + 1 => bO n g k + Rat.divInt (2 * (1 + (k : Int)) * (stp g (1 + (k : Int))).num) (n * (stp g (1 + (k : Int))).den)
def bE (n g : Int) : Nat → Rat
  | 0 => Rat.divInt 0 1
  | k + 1 => bE n g k + Rat.divInt (2 * (n - (1 + (k : Int))) * (stp g (1 + (k : Int))).num) (n * (stp g (1 + (k : Int))).den)
theorem part_eq (s : Rat) (m n : Int) : Rat.divInt (2 * m * s.num) (n * s.den) = s * Rat.divInt m 1 * Rat.divInt 2 1 * Rat.divInt 1 n := by
  have e : s * Rat.divInt m 1 * Rat.divInt 2 1 * Rat.divInt 1 n = Rat.divInt s.num s.den * Rat.divInt m 1 * Rat.divInt 2 1 * Rat.divInt 1 n := by rw [Rat.num_divInt_den]
  rw [e, Rat.divInt_mul_divInt, Rat.divInt_mul_divInt, Rat.divInt_mul_divInt]
  congr 1
  · rw [Int.mul_one, Int.mul_comm (s.num * m) 2, Int.mul_comm s.num m, Int.mul_assoc]
  · rw [Int.mul_one, Int.mul_one, Int.mul_comm]
theorem zero_mul' (a b : Rat) : Rat.divInt 0 1 = Rat.divInt 0 1 * a * b := by
  have z : Rat.divInt 0 1 = 0 := by rfl
  rw [z, Rat.zero_mul, Rat.zero_mul]
theorem bO_eq (n g : Int) : ∀ k, bO n g k = sO g k * Rat.divInt 2 1 * Rat.divInt 1 n
  | 0 => zero_mul' _ _
  | k + 1 => by
    show bO n g k + _ = (sO g k + _) * _ * _
    rw [bO_eq n g k, part_eq, Rat.add_mul, Rat.add_mul]
theorem bE_eq (n g : Int) : ∀ k, bE n g k = sE n g k * Rat.divInt 2 1 * Rat.divInt 1 n
  | 0 => zero_mul' _ _
  | k + 1 => by
    show bE n g k + _ = (sE n g k + _) * _ * _
    rw [bE_eq n g k, part_eq, Rat.add_mul, Rat.add_mul]
theorem sz0 : Sz 1 (Rat.divInt 0 1) := KM.sz_of_low (by decide) (by decide) (by decide)
theorem sz_spr {g : Int} (h0 : 0 ≤ g) (h1 : g ≤ 1000) : Sz 11 (spr g) := by
  unfold spr
  split
  · exact sz0.mono (by decide)
  · exact KM.sz_of_low (by omega) (by decide) (by omega)
theorem sz_stp {g m : Int} (h0 : 0 ≤ g) (h1 : g ≤ 1000) (m0 : 0 ≤ m) (m1 : m < 62) : Sz 18 (stp g m) :=
  (KM.sz_plus (KM.sz_of_low (n := 6) (by omega) (by omega) (by omega)) (sz_spr h0 h1)).1
theorem sz_sO {g : Int} (h0 : 0 ≤ g) (h1 : g ≤ 1000) : ∀ k, k < 60 → Sz (1 + 25 * k) (sO g k)
  | 0, _ => sz0
  | k + 1, hk => (KM.sz_plus (sz_sO h0 h1 k (by omega)) (KM.sz_times (m := 6) (sz_stp h0 h1 (by omega) (by omega)) (by omega))).1.mono (by omega)
theorem sz_sE {n g : Int} (n0 : 1 ≤ n) (n1 : n ≤ 60) (h0 : 0 ≤ g) (h1 : g ≤ 1000) : ∀ k, k < 60 → Sz (1 + 25 * k) (sE n g k)
  | 0, _ => sz0
  | k + 1, hk => (KM.sz_plus (sz_sE n0 n1 h0 h1 k (by omega)) (KM.sz_times (m := 6) (sz_stp h0 h1 (by omega) (by omega)) (by omega))).1.mono (by omega)
theorem pow_add' {x y n m : Nat} (h1 : x < 2 ^ n) (h2 : y < 2 ^ m) : x * y < 2 ^ (n + m) := KM.two_lt h1 h2
/-- a part of the law's sum: small enough -/
theorem bd_part {s : Rat} {m n : Int} (hs : Sz 18 s) (m1 : m.natAbs < 2 ^ 6) (n0 : 1 ≤ n) (n1 : n ≤ 60) : Bd 25 (2 * m * s.num, n * s.den) := by
  refine ⟨?_, ?_, ?_⟩
  · show (2 * m * s.num).natAbs < 2 ^ 25
    rw [Int.natAbs_mul]
    exact pow_add' (n := 7) (m := 18) (by omega) hs.1
  · show 0 < n * (s.den : Int)
    exact Int.mul_pos (by omega) (KM.den_pos s)
  · show (n * (s.den : Int)).natAbs < 2 ^ 25
    rw [Int.natAbs_mul]
    exact pow_add' (n := 7) (m := 18) (by omega) (by simpa using hs.2)
theorem sz_bd {n : Nat} {q : Int × Int} (h : Bd n q) : Sz n (Rat.divInt q.1 q.2) := KM.sz_of_low (by have := h.2.1; omega) h.1 h.2.2
theorem sz_bO {n g : Int} (n0 : 1 ≤ n) (n1 : n ≤ 60) (h0 : 0 ≤ g) (h1 : g ≤ 1000) : ∀ k, k < 60 → Sz (1 + 26 * k) (bO n g k)
  | 0, _ => sz0
  | k + 1, hk => (KM.sz_plus (sz_bO n0 n1 h0 h1 k (by omega)) (sz_bd (bd_part (sz_stp h0 h1 (m := 1 + (k : Int)) (by omega) (by omega)) (by omega) n0 n1))).1.mono (by omega)
theorem sz_bE {n g : Int} (n0 : 1 ≤ n) (n1 : n ≤ 60) (h0 : 0 ≤ g) (h1 : g ≤ 1000) : ∀ k, k < 60 → Sz (1 + 26 * k) (bE n g k)
  | 0, _ => sz0
  | k + 1, hk => (KM.sz_plus (sz_bE n0 n1 h0 h1 k (by omega)) (sz_bd (bd_part (sz_stp h0 h1 (m := 1 + (k : Int)) (by omega) (by omega)) (m := n - (1 + (k : Int))) (by omega) n0 n1))).1.mono (by omega)
theorem pr_part (r : Rat) {x y : Int} (h : y ≠ 0) : KM.low ((pr r).1 * y + x * (pr r).2) ((pr r).2 * y) = pr (r + Rat.divInt x y) := by
  show KM.low (r.num * y + x * r.den) (r.den * y) = _
  rw [KM.low_eq (Int.mul_ne_zero (KM.den_ne r) h), ← Rat.divInt_add_divInt _ _ (KM.den_ne r) h, Rat.num_divInt_den]
theorem pr_two {a b x y : Int} (hb : b ≠ 0) (h : y ≠ 0) : KM.low (a * y + x * b) (b * y) = pr (Rat.divInt a b + Rat.divInt x y) := by
  rw [KM.low_eq (Int.mul_ne_zero hb h), ← Rat.divInt_add_divInt _ _ hb h]
theorem big2 : (2 : Int).natAbs < 2 ^ 2000 := Nat.lt_of_lt_of_le (by decide : 2 < 2 ^ 2) (Nat.pow_le_pow_right (by decide) (by decide))
theorem bigN {n : Int} (n0 : 1 ≤ n) (n1 : n ≤ 60) : n.natAbs < 2 ^ 2000 := Nat.lt_of_lt_of_le (by omega : n.natAbs < 2 ^ 6) (Nat.pow_le_pow_right (by decide) (by decide))
theorem Bd.mono {n m : Nat} {q : Int × Int} (h : Bd n q) (hm : n ≤ m) : Bd m q := ⟨Nat.lt_of_lt_of_le h.1 (Nat.pow_le_pow_right (by decide) hm), h.2.1, Nat.lt_of_lt_of_le h.2.2 (Nat.pow_le_pow_right (by decide) hm)⟩
/-- the methods -/
structure Ms (P : Program) (w : World) (K : PySem.W.Frag) (mg : Str → Option Value) (base : Heap) (C : Addr) : Prop where
  plus : Met P w K mg base 4 C "plus" (sp2 C (· + ·)) []
  times : Met P w K mg base 4 C "times" (sp1 C (fun _ => True) (fun r k => r * Rat.divInt k 1)) []
  over : Met P w K mg base 4 C "over" (sp1 C (fun k => k ≠ 0) (fun r k => r * Rat.divInt 1 k)) []
section
variable {P : Program} {w : World} {K : PySem.W.Frag} {mg : Str → Option Value} {base : Heap} {f C : Addr} {fd : FuncData}
def spNB (C : Addr) : Sp := fun vs H Q _ => ∃ (n g : Int), vs = [.int n, .int g] ∧ 1 ≤ n ∧ n ≤ 60 ∧ 0 ≤ g ∧ g ≤ 1000 ∧
  ∀ t p q H', Same H H' → H' t = some (.tup [.ref p, .ref q]) → Sh C H' p (pr (bO n g (n - 1).toNat)) → Sh C H' q (pr (bE n g (n - 1).toNat)) → Q (.ref t) H'
theorem noM (q : Int × Int) (m : Str) (h1 : ¬ m = "bottom") (h2 : ¬ m = "top") : (shF q).lookup m = none := shF_no q h1 h2
theorem ok_nb (F : Dn K d_never_beyond f fd) (bl : Bl mg) (MS : MakS P w K mg base C) (M1 : MakS1 P w K mg base C) (M : Ms P w K mg base C) : FnOk P w K mg base CX0 5 f fd ["many", "grain"] (spNB C) := by
  refine F.ok sc_never_beyond (fun vs H Q E h => ?_) (fun cdv A outer s H vs Q E hr h => ?_)
  · obtain ⟨n, g, rfl, _⟩ := h
    rfl
  · obtain ⟨n, g, rfl, n0, n1, g0, g1, hQ⟩ := h
    refine ⟨_, PSs.nox (C8.pss_cut (ps_set (i := 2) sc_never_beyond.nd rfl (.inl rfl) (pe_ifExp (pt_cmpR op_eq (pv 1) pe_int (nomark _)) (pe_mk M1 hr (by decide) rfl (pa_cons pe_int pa_nil)) (pe_mk MS hr (by decide) rfl (pa_cons pe_int (pa_cons (pe_op op_mul pe_int (pv 1)) pa_nil)))))
      (pss_cons (ps_set (i := 3) sc_never_beyond.nd rfl (.inl rfl) (pe_mk M1 hr (by decide) rfl (pa_cons pe_int pa_nil)))
      (pss_cons (ps_set (i := 4) sc_never_beyond.nd rfl (.inl rfl) (pe_mk M1 hr (by decide) rfl (pa_cons pe_int pa_nil)))
      (pss_cons (ps_for PassesOwn.never rfl (pi_range2 rfl bl.range (pa_cons pe_int (pa_cons (pv 0) pa_nil))) (pg_name (i := 5) sc_never_beyond.nd rfl (.inl rfl))
        (pss_cons (ps_set (i := 6) sc_never_beyond.nd rfl (.inl rfl) (pe_mt M.plus hr (by decide) (pe_mk MS hr (by decide) rfl (pa_cons (pv 5) (pa_cons (pe_op op_add (pv 5) pe_int) pa_nil))) (pa_cons (pv 2) pa_nil)))
        (pss_cons (ps_set (i := 3) sc_never_beyond.nd rfl (.inl rfl) (pe_mt M.plus hr (by decide) (pv 3) (pa_cons (pe_mt M.times hr (by decide) (pv 6) (pa_cons (pv 5) pa_nil)) pa_nil)))
        (pss_one (ps_set (i := 4) sc_never_beyond.nd rfl (.inl rfl) (pe_mt M.plus hr (by decide) (pv 4) (pa_cons (pe_mt M.times hr (by decide) (pv 6) (pa_cons (pe_op op_sub (pv 0) (pv 5)) pa_nil)) pa_nil)))))))
      (pss_one (ps_ret (pe_tup (pa_cons (pe_mt M.over hr (by decide) (pe_mt M.times hr (by decide) (pv 3) (pa_cons pe_int pa_nil)) (pa_cons (pv 0) pa_nil))
        (pa_cons (pe_mt M.over hr (by decide) (pe_mt M.times hr (by decide) (pv 4) (pa_cons pe_int pa_nil)) (pa_cons (pv 0) pa_nil)) pa_nil))))))))), ?_⟩
    refine ⟨fun σ' H' => ∃ sp : Addr, σ' = [some (.int n), some (.int g), some (.ref sp), none, none, none, none] ∧ Same H H' ∧ Sh C H' sp (pr (spr g)), ?_, ?_⟩
    · refine ⟨_, rfl, rfl, _, rfl, ?_⟩
      by_cases hg : g = 0
      · have z : decide (V.int g = V.int 0) = true := by simp [hg]
        rw [z]
        refine iteT ?_
        intro x dx nx nd ne
        refine mk_in (n := 1) nx nd (by decide) (by decide) (by decide) (by decide) fun H' sm hx => ⟨rfl, x, rfl, sm, ?_⟩
        unfold spr
        rw [if_pos hg]
        exact hx
      · have z : decide (V.int g = V.int 0) = false := by simp [hg]
        rw [z]
        refine iteF ?_
        refine ⟨_, rfl, _, _, rfl, rfl, cb_l (by decide) (by decide), ?_⟩
        intro x dx nx nd ne
        refine mk_in (n := 11) nx nd (by omega) (by omega) (by decide) (by decide) fun H' sm hx => ⟨rfl, x, rfl, sm, ?_⟩
        unfold spr
        rw [if_neg hg]
        exact hx
    rintro σ' H1 ⟨sp, rfl, s1, hsp⟩
    intro x dx nx nd ne
    refine mk_in (n := 1) nx nd (by decide) (by decide) (by decide) (by decide) fun H2 s2 hx => ⟨rfl, ?_⟩
    intro y dy ny nd2 ne2
    refine mk_in (n := 1) ny nd2 (by decide) (by decide) (by decide) (by decide) fun H3 s3 hy => ⟨rfl, ?_⟩
    refine ⟨_, rfl, 1, n, rfl, ⟨by decide, by decide, by omega, by omega⟩, for_range (n := (n - 1).toNat) (fun i σ H4 => ∃ (x y : Addr) (v5 v6 : Option V), σ = [some (.int n), some (.int g), some (.ref sp), some (.ref x), some (.ref y), v5, v6] ∧ Same H H4 ∧
      Sh C H4 sp (pr (spr g)) ∧ Sh C H4 x (pr (sO g i)) ∧ Sh C H4 y (pr (sE n g i)))
      ⟨x, y, _, _, rfl, (s1.trans s2).trans s3, (hsp.keep s2).keep s3, hx.keep s3, hy⟩ ?_ ?_⟩
    · rintro i σ H4 hi ⟨x, y, v5, v6, rfl, s4, h4, hx, hy⟩
      have i59 : i < 59 := by omega
      refine ⟨_, rfl, _, rfl, _, _, rfl, rfl, ?_⟩
      intro z dz nz nd3 ne3
      refine mk_in (n := 6) nz nd3 (by omega) (by omega) (by decide) (by decide) fun H5 s5 hz => ⟨rfl, ?_⟩
      obtain ⟨dz', hz0⟩ := id hz
      refine ⟨z, dz', _, rfl, hz0, noM _ _ (by decide +kernel) (by decide +kernel), _, rfl, z, sp, _, _, 11, rfl, hz, h4.keep s5, (KM.sz_of_low (n := 6) (by omega) (by omega) (by omega)).mono (by decide), sz_spr g0 g1, by decide, by decide, fun st H6 s6 f6 hst => ?_⟩
      have s46 := s5.trans s6
      obtain ⟨dx', hx0⟩ := id (hx.keep s46)
      obtain ⟨ds', hst0⟩ := id hst
      refine ⟨_, rfl, x, dx', _, rfl, hx0, noM _ _ (by decide +kernel) (by decide +kernel), _, rfl, st, ds', _, rfl, hst0, noM _ _ (by decide +kernel) (by decide +kernel), _, rfl, st, stp g (1 + (i : Int)), _, 18, rfl, hst, sz_stp g0 g1 (by omega) (by omega), trivial, by omega, by decide, by decide, fun u H7 s7 f7 hu => ?_⟩
      refine ⟨x, u, sO g i, _, 4000, rfl, (hx.keep s46).keep s7, hu, (sz_sO g0 g1 i (by omega)).mono (by omega), (KM.sz_times (m := 6) (sz_stp g0 g1 (by omega) (by omega)) (by omega)).mono (by decide), by decide, by decide, fun x2 H8 s8 f8 hx2 => ?_⟩
      have s48 := (s46.trans s7).trans s8
      obtain ⟨dy', hy0⟩ := id (hy.keep s48)
      have hst8 := (hst.keep s7).keep s8
      obtain ⟨ds8, hst0⟩ := id hst8
      refine ⟨_, rfl, y, dy', _, rfl, hy0, noM _ _ (by decide +kernel) (by decide +kernel), _, rfl, st, ds8, _, rfl, hst0, noM _ _ (by decide +kernel) (by decide +kernel), _, rfl, _, rfl, _, _, rfl, rfl, st, stp g (1 + (i : Int)), _, 18, rfl, hst8, sz_stp g0 g1 (by omega) (by omega), trivial, by omega, by decide, by decide, fun u2 H9 s9 f9 hu2 => ?_⟩
      refine ⟨y, u2, sE n g i, _, 4000, rfl, (hy.keep s48).keep s9, hu2, (sz_sE n0 n1 g0 g1 i (by omega)).mono (by omega), (KM.sz_times (m := 6) (sz_stp g0 g1 (by omega) (by omega)) (by omega)).mono (by decide), by decide, by decide, fun y2 H10 s10 f10 hy2 => ?_⟩
      have s410 := (s48.trans s9).trans s10
      exact ⟨x2, y2, _, _, rfl, s4.trans s410, h4.keep s410, (hx2.keep s9).keep s10, hy2⟩
    · rintro σ H4 ⟨x, y, v5, v6, rfl, s4, h4, hx, hy⟩
      have k60 : (n - 1).toNat < 60 := by omega
      have szo := sz_sO g0 g1 _ k60
      have sze := sz_sE n0 n1 g0 g1 _ k60
      obtain ⟨dx', hx0⟩ := id hx
      have so2 := KM.sz_times (m := 2) (k := 2) szo (by decide)
      have se2 := KM.sz_times (m := 2) (k := 2) sze (by decide)
      refine ⟨_, rfl, x, dx', _, rfl, hx0, noM _ _ (by decide +kernel) (by decide +kernel), x, _, 2, 2000, rfl, hx, szo.mono (by omega), trivial, big2, by decide, by decide, fun u H5 s5 f5 hu => ?_⟩
      obtain ⟨du, hu0⟩ := id hu
      refine ⟨u, du, _, rfl, hu0, noM _ _ (by decide +kernel) (by decide +kernel), _, rfl, u, _, n, 2000, rfl, hu, so2.mono (by omega), by omega, bigN n0 n1, by decide, by decide, fun v H6 s6 f6 hv => ?_⟩
      have s46 := s5.trans s6
      have hy6 := hy.keep s46
      obtain ⟨dy', hy0⟩ := id hy6
      refine ⟨_, rfl, y, dy', _, rfl, hy0, noM _ _ (by decide +kernel) (by decide +kernel), y, _, 2, 2000, rfl, hy6, sze.mono (by omega), trivial, big2, by decide, by decide, fun u2 H7 s7 f7 hu2 => ?_⟩
      obtain ⟨du2, hu20⟩ := id hu2
      refine ⟨u2, du2, _, rfl, hu20, noM _ _ (by decide +kernel) (by decide +kernel), _, rfl, u2, _, n, 2000, rfl, hu2, se2.mono (by omega), by omega, bigN n0 n1, by decide, by decide, fun v2 H8 s8 f8 hv2 => ?_⟩
      refine ⟨by show 2 ≤ sizeLine; decide, fun t ft => ?_⟩
      have st := same_new (o := .tup [.ref v, .ref v2]) ft
      have s68 := (s7.trans s8).trans st
      refine hQ t v v2 _ (s4.trans (s46.trans s68)) upd_same ?_ ?_
      · rw [bO_eq]
        exact hv.keep s68
      · rw [bE_eq]
        exact hv2.keep st
end
end K34
set_option Elab.async false
set_option linter.all false
set_option maxRecDepth 100000
set_option maxHeartbeats 4000000
namespace K34
open PySem PySem.Spec PyProof.Rows L2
open C8 (Cal Mak Met pe_c pe_mk pe_mt pe_mt0)
open KM (pr Sz)
section
variable {P : Program} {w : World} {K : PySem.W.Frag} {mg : Str → Option Value} {base : Heap} {f C : Addr} {fd : FuncData}
def spBound : Sp := fun vs H Q _ => ∃ (n g : Int), vs = [.int n, .int g] ∧ 1 ≤ n ∧ n ≤ 60 ∧ 0 ≤ g ∧ g ≤ 1000 ∧
  ∀ t p q H', Same H H' → H' t = some (.tup [.ref p, .ref q]) → H' p = some (tupP (pr (bO n g (n - 1).toNat))) → H' q = some (tupP (pr (bE n g (n - 1).toNat))) → Q (.ref t) H'
theorem ok_bound (F : Dn K d_l_bound f fd) (bl : Bl mg) (cA : Cal P w K mg base 2 "_law_add" spAdd []) : FnOk P w K mg base CX0 3 f fd ["_law_count", "_law_fine"] spBound := by
  refine F.ok sc_l_bound (fun vs H Q E h => ?_) (fun cdv A outer s H vs Q E hr h => ?_)
  · obtain ⟨n, g, rfl, _⟩ := h
    rfl
  · obtain ⟨n, g, rfl, n0, n1, g0, g1, hQ⟩ := h
    refine ⟨_, PSs.nox (pss_cons (ps_asg (pe_tup (pa_cons (pe_tup (pa_cons pe_int (pa_cons pe_int pa_nil))) (pa_cons (pe_tup (pa_cons pe_int (pa_cons pe_int pa_nil))) pa_nil))) (pg_tup rfl (pgs_cons (pg_name (i := 2) sc_l_bound.nd rfl (.inl rfl)) (pgs_cons (pg_name (i := 3) sc_l_bound.nd rfl (.inl rfl)) pgs_nil))))
      (pss_cons (ps_for PassesOwn.never rfl (pi_range2 rfl bl.range (pa_cons pe_int (pa_cons (pv 0) pa_nil))) (pg_name (i := 4) sc_l_bound.nd rfl (.inl rfl))
        (C8.pss_cut (ps_set (i := 5) sc_l_bound.nd rfl (.inl rfl) (pe_c cA hr (by decide) rfl (pa_cons (pe_tup (pa_cons (pv 4) (pa_cons (pe_op op_add (pv 4) pe_int) pa_nil)))
          (pa_cons (pe_ifExp (pt_cmpR op_eq (pv 1) pe_int (nomark _)) (pe_tup (pa_cons pe_int (pa_cons pe_int pa_nil))) (pe_tup (pa_cons pe_int (pa_cons (pe_op op_mul pe_int (pv 1)) pa_nil)))) pa_nil))))
        (pss_cons (ps_set (i := 2) sc_l_bound.nd rfl (.inl rfl) (pe_c cA hr (by decide) rfl (pa_cons (pv 2) (pa_cons (pe_tup (pa_cons (pe_op op_mul (pe_op op_mul pe_int (pv 4)) (pe_ix ix_tup (pv 5) pe_int (fun _ _ => rfl))) (pa_cons (pe_op op_mul (pv 0) (pe_ix ix_tup (pv 5) pe_int (fun _ _ => rfl))) pa_nil))) pa_nil))))
        (pss_one (ps_set (i := 3) sc_l_bound.nd rfl (.inl rfl) (pe_c cA hr (by decide) rfl (pa_cons (pv 3) (pa_cons (pe_tup (pa_cons (pe_op op_mul (pe_op op_mul pe_int (pe_op op_sub (pv 0) (pv 4))) (pe_ix ix_tup (pv 5) pe_int (fun _ _ => rfl))) (pa_cons (pe_op op_mul (pv 0) (pe_ix ix_tup (pv 5) pe_int (fun _ _ => rfl))) pa_nil))) pa_nil))))))))
      (pss_one (ps_ret (pe_tup (pa_cons (pv 2) (pa_cons (pv 3) pa_nil))))))), ?_⟩
    refine ⟨by show 2 ≤ sizeLine; decide, fun x nx => ⟨by show 2 ≤ sizeLine; decide, fun y ny => ⟨by show 2 ≤ sizeLine; decide, fun z nz => ⟨z, _, rfl, SqT.of upd_same, rfl, _, _, rfl, _, _, rfl, rfl, ?_⟩⟩⟩⟩
    have sx := same_new (o := tupP (0, 1)) nx
    have sy := same_new (o := tupP (0, 1)) ny
    have sz := same_new (o := .tup [.ref x, .ref y]) nz
    have e01 : ((0, 1) : Int × Int) = pr (Rat.divInt 0 1) := by decide +kernel
    refine ⟨_, rfl, 1, n, rfl, ⟨by decide, by decide, by omega, by omega⟩, for_range (n := (n - 1).toNat) (fun i σ H4 => ∃ (x y : Addr) (v4 v5 : Option V), σ = [some (.int n), some (.int g), some (.ref x), some (.ref y), v4, v5] ∧ Same H H4 ∧
      H4 x = some (tupP (pr (bO n g i))) ∧ H4 y = some (tupP (pr (bE n g i))))
      ⟨x, y, _, _, rfl, (sx.trans sy).trans sz, (by show _ = some (tupP (pr (Rat.divInt 0 1))); rw [← e01]; exact sz _ _ (sy _ _ upd_same)), (by show _ = some (tupP (pr (Rat.divInt 0 1))); rw [← e01]; exact sz _ _ upd_same)⟩ ?_ ?_⟩
    · rintro i σ H4 hi ⟨x, y, v4, v5, rfl, s4, hx, hy⟩
      have i59 : i < 59 := by omega
      have szs : Sz 18 (stp g (1 + (i : Int))) := sz_stp g0 g1 (by omega) (by omega)
      refine ⟨fun σ' H' => ∃ st : Addr, σ' = [some (.int n), some (.int g), some (.ref x), some (.ref y), some (.int (1 + (i : Int))), some (.ref st)] ∧ Same H4 H' ∧ H' st = some (tupP (pr (stp g (1 + (i : Int))))), ?_, ?_⟩
      · refine ⟨_, rfl, _, rfl, _, _, rfl, rfl, by show 2 ≤ sizeLine; decide, fun a na => ?_⟩
        have sa := same_new (o := tupP (1 + (i : Int), 1 + (i : Int) + 1)) na
        have ba : Bd 11 (1 + (i : Int), 1 + (i : Int) + 1) := ⟨by show (1 + (i : Int)).natAbs < 2 ^ 11; omega, by show 0 < 1 + (i : Int) + 1; omega, by show (1 + (i : Int) + 1).natAbs < 2 ^ 11; omega⟩
        refine ⟨_, rfl, rfl, _, rfl, ?_⟩
        by_cases hg : g = 0
        · have z : decide (V.int g = V.int 0) = true := by simp [hg]
          rw [z]
          refine iteT ⟨by show 2 ≤ sizeLine; decide, fun b nb => ?_⟩
          have sb := same_new (o := tupP (0, 1)) nb
          refine ⟨a, b, _, (0, 1), 11, rfl, sb _ _ upd_same, upd_same, ⟨ba, ⟨by decide, by decide, by decide⟩, by decide, by decide⟩, fun r nr => ⟨r, rfl, (sa.trans sb).trans (same_new nr), ?_⟩⟩
          rw [upd_same, pr_two (by show 1 + (i : Int) + 1 ≠ 0; omega) (by decide)]
          unfold stp spr
          rw [if_pos hg]
        · have z : decide (V.int g = V.int 0) = false := by simp [hg]
          rw [z]
          refine iteF ⟨_, rfl, _, _, rfl, rfl, cb_l (by decide) (by decide), by show 2 ≤ sizeLine; decide, fun b nb => ?_⟩
          have sb := same_new (o := tupP (1, 2 * g)) nb
          refine ⟨a, b, _, (1, 2 * g), 11, rfl, sb _ _ upd_same, upd_same, ⟨ba, ⟨by show (1 : Int).natAbs < 2 ^ 11; decide, by show 0 < 2 * g; omega, by show (2 * g).natAbs < 2 ^ 11; omega⟩, by decide, by decide⟩, fun r nr => ⟨r, rfl, (sa.trans sb).trans (same_new nr), ?_⟩⟩
          rw [upd_same, pr_two (by show 1 + (i : Int) + 1 ≠ 0; omega) (by show 2 * g ≠ 0; omega)]
          unfold stp spr
          rw [if_neg hg]
      rintro σ' H5 ⟨st, rfl, s5, hst⟩
      have hx5 := s5 _ _ hx
      have hy5 := s5 _ _ hy
      have bp := bd_part (m := 1 + (i : Int)) szs (by omega) n0 n1
      have bq := bd_part (m := n - (1 + (i : Int))) szs (by omega) n0 n1
      refine ⟨_, rfl, _, rfl, _, _, rfl, rfl, cb_l (by decide) (by decide), _, rfl, st, _, _, _, rfl, rfl, SqT.of hst, at0, _, _, rfl, rfl, cb_l (by omega) (by omega), _, rfl, _, rfl, st, _, _, _, rfl, rfl, SqT.of hst, at1, _, _, rfl, rfl, cb_l (by omega) (by omega), by show 2 ≤ sizeLine; decide, fun b nb => ?_⟩
      have sb := same_new (o := tupP (2 * (1 + (i : Int)) * (stp g (1 + (i : Int))).num, n * (stp g (1 + (i : Int))).den)) nb
      refine ⟨x, b, _, (2 * (1 + (i : Int)) * (stp g (1 + (i : Int))).num, n * (stp g (1 + (i : Int))).den), 2000, rfl, sb _ _ hx5, upd_same, ⟨bd_of ((sz_bO n0 n1 g0 g1 i (by omega)).mono (by omega)), bp.mono (by decide), by decide, by decide⟩, fun x2 nx2 => ?_⟩
      rw [pr_part _ (Int.ne_of_gt bp.2.1)]
      have sx2 := same_new (o := tupP (pr (bO n g i + Rat.divInt (2 * (1 + (i : Int)) * (stp g (1 + (i : Int))).num) (n * (stp g (1 + (i : Int))).den)))) nx2
      have s6 := sb.trans sx2
      have hst6 := s6 _ _ hst
      have hy6 := s6 _ _ hy5
      refine ⟨_, rfl, _, rfl, _, rfl, _, _, rfl, rfl, _, _, rfl, rfl, cb_l (by decide) (by decide), _, rfl, st, _, _, _, rfl, rfl, SqT.of hst6, at0, _, _, rfl, rfl, cb_l (by omega) (by omega), _, rfl, _, rfl, st, _, _, _, rfl, rfl, SqT.of hst6, at1, _, _, rfl, rfl, cb_l (by omega) (by omega), by show 2 ≤ sizeLine; decide, fun c nc => ?_⟩
      have sc := same_new (o := tupP (2 * (n - (1 + (i : Int))) * (stp g (1 + (i : Int))).num, n * (stp g (1 + (i : Int))).den)) nc
      refine ⟨y, c, _, (2 * (n - (1 + (i : Int))) * (stp g (1 + (i : Int))).num, n * (stp g (1 + (i : Int))).den), 2000, rfl, sc _ _ hy6, upd_same, ⟨bd_of ((sz_bE n0 n1 g0 g1 i (by omega)).mono (by omega)), bq.mono (by decide), by decide, by decide⟩, fun y2 ny2 => ?_⟩
      rw [pr_part _ (Int.ne_of_gt bq.2.1)]
      have sy2 := same_new (o := tupP (pr (bE n g i + Rat.divInt (2 * (n - (1 + (i : Int))) * (stp g (1 + (i : Int))).num) (n * (stp g (1 + (i : Int))).den)))) ny2
      exact ⟨x2, y2, _, _, rfl, s4.trans (s5.trans (s6.trans (sc.trans sy2))), sy2 _ _ (sc _ _ upd_same), upd_same⟩
    · rintro σ H4 ⟨x, y, v4, v5, rfl, s4, hx, hy⟩
      refine ⟨_, rfl, _, rfl, by show 2 ≤ sizeLine; decide, fun t ft => ?_⟩
      have st := same_new (o := .tup [.ref x, .ref y]) ft
      exact hQ t x y _ (s4.trans st) upd_same (st _ _ hx) (st _ _ hy)
end
end K34
set_option Elab.async false
set_option linter.all false
set_option maxRecDepth 100000
set_option maxHeartbeats 4000000
namespace K34
open PySem PySem.Spec PyProof.Rows L2
open C8 (Cal Mak Met pe_c pe_mk pe_mt pe_mt0)
open KM (pr Sz)
theorem at3 {a b c : V} {r : Int} (h0 : 0 ≤ r) (h1 : r < 3) : ∃ v, atI [a, b, c] r = some v ∧ (v = a ∨ v = b ∨ v = c) := by
  rcases (show r = 0 ∨ r = 1 ∨ r = 2 by omega) with rfl | rfl | rfl
  · exact ⟨a, rfl, .inl rfl⟩
  · exact ⟨b, rfl, .inr (.inl rfl)⟩
  · exact ⟨c, rfl, .inr (.inr rfl)⟩
theorem Held.ne_new {H : Hp} {h u : Addr} {c : Nat} (x : Held H h c) (e : H u = none) : u ≠ h := by
  obtain ⟨l, ns, n, m, h1, _⟩ := x
  exact (ne_of_none h1 e).symm
/-- an answer and its grain -/
def Ask (C : Addr) (n : Int) (H : Hp) (t : Addr) : Prop := ∃ (fo p q : Addr) (g : Int), H t = some (.tup [.ref fo, .int g]) ∧ 0 ≤ g ∧ g ≤ 1000 ∧ H fo = some (.tup [.ref p, .ref q]) ∧ Sh C H p (pr (bO n g (n - 1).toNat)) ∧ Sh C H q (pr (bE n g (n - 1).toNat))
theorem Ask.keep {C : Addr} {n : Int} {H H' : Hp} {t : Addr} (s : Same H H') (x : Ask C n H t) : Ask C n H' t := by
  obtain ⟨fo, p, q, g, h1, g0, g1, h2, h3, h4⟩ := x
  exact ⟨fo, p, q, g, s _ _ h1, g0, g1, s _ _ h2, h3.keep s, h4.keep s⟩
/-- the pairs found so far -/
def Got (D : Addr) (A B : Rat) : Nat → Hp → Prop
  | 0, H => H D = some (.lst [])
  | 1, H => ∃ u, H D = some (.lst [.ref u]) ∧ H u = some (tupP (pr A))
  | _, H => ∃ u v, H D = some (.lst [.ref u, .ref v]) ∧ H u = some (tupP (pr A)) ∧ H v = some (tupP (pr B))
theorem ne_two {K : PySem.W.Frag} {H : Hp} {r s u v p q : Addr} {x y : Int × Int} {Q : VK} (h1 : H r = some (.tup [.ref u, .ref v])) (h2 : H s = some (.tup [.ref p, .ref q])) (hu : H u = some (tupP x)) (hv : H v = some (tupP y)) (hp : H p = some (tupP x)) (hq : H q = some (tupP y)) (hQ : Q (.bl false) H) : rNeD K (.ref r) (.ref s) H Q := by
  refine ⟨.tuple [.tuple [.int x.1, .int x.2], .tuple [.int y.1, .int y.2]], .tuple [.tuple [.int x.1, .int x.2], .tuple [.int y.1, .int y.2]],
    Dp.tup (SqT.of h1) (.cons (Dp.tup (SqT.of hu) (.cons (.int _) (.cons (.int _) .nil))) (.cons (Dp.tup (SqT.of hv) (.cons (.int _) (.cons (.int _) .nil))) .nil)),
    Dp.tup (SqT.of h2) (.cons (Dp.tup (SqT.of hp) (.cons (.int _) (.cons (.int _) .nil))) (.cons (Dp.tup (SqT.of hq) (.cons (.int _) (.cons (.int _) .nil))) .nil)), rfl, rfl, ?_⟩
  have z : PyData.eqv (.tuple [.tuple [.int x.1, .int x.2], .tuple [.int y.1, .int y.2]]) (.tuple [.tuple [.int x.1, .int x.2], .tuple [.int y.1, .int y.2]]) = true := by simp [PyData.eqv, PyData.eqvAll]
  rw [z]
  exact hQ
section
variable {P : Program} {w : World} {K : PySem.W.Frag} {mg : Str → Option Value} {base : Heap} {f fN C : Addr} {fd fdN : FuncData}
def spLaw (K : PySem.W.Frag) : Sp := fun vs H Q _ => ∃ (a : Addr) (ns : List Int), vs = [.ref a] ∧ SqL K H a (ns.map V.int) ∧ ns.length ≤ 63 ∧ ∀ H', Q (.bl true) H'
theorem ok_law (F : Dn K d_law f fd) (bl : Bl mg) (bt : mg "tuple" = none) (cH : Cal P w K mg base 1 "_law_held" (spHeld K) []) (cD : CalD P w K mg base) (cP : Cal P w K mg base 1 "_law_pair" (spPair C) []) (cB : Cal P w K mg base 3 "_law_bound" spBound [])
    (c1 : Cal P w K mg base 5 "never_beyond" (spNB C) [.int 0]) (c2 : Cal P w K mg base 5 "never_beyond" (spNB C) [])
    (FN : FnOk P w K mg base CX0 5 fN fdN ["many", "grain"] (spNB C)) (hm : mg "never_beyond" = some (.ref fN)) (hk : PySem.W.keepIn K (.ref fN) = true) {i1 : List Value}
    (k2 : KBn K fdN ["many", "grain"] 0 ["grain", "many"] (fun us ws => ws.drop 1 ++ ws.take 1) (fun vs zs => zs.drop 1 ++ zs.take 1)) (k1 : KBn K fdN ["many", "grain"] 0 ["many"] (fun us ws => ws ++ i1) (fun vs zs => zs ++ [.int 0])) :
    FnOk P w K mg base CX0 6 f fd ["_law_script"] (spLaw K) := by
  refine F.ok sc_law (fun vs H Q E h => ?_) (fun cdv A outer s H vs Q E hr h => ?_)
  · obtain ⟨a, ns, rfl, _⟩ := h
    rfl
  · obtain ⟨a, ns, rfl, hS, hlen, hQ⟩ := h
    have hu64 : (A.deeper (envOfC d_law.qual d_law.scope s.heap.objs.size f cdv)).units + 64 < cLine := by have := hr.un; omega
    refine ⟨_, PSs.nox (pss_cons (ps_set (i := 1) sc_law.nd rfl (.inl rfl) (pe_c cH hr (by decide) rfl (pa_cons (pv 0) pa_nil)))
      (pss_cons (ps_for PassesOwn.never rfl (pi_range1 rfl bl.range (pa_cons pe_int pa_nil)) (pg_name (i := 2) sc_law.nd rfl (.inl rfl))
        (C8.pss_cut (ps_set (i := 3) sc_law.nd rfl (.inl rfl) (pe_op op_add pe_int (pe_c cD hr (by decide) rfl (pa_cons (pv 1) (pa_cons (pe_ix ix_list (pe_lst (pa_cons pe_int (pa_cons pe_int (pa_cons pe_int pa_nil)))) (pe_c cD hr (by decide) rfl (pa_cons (pv 1) (pa_cons pe_int pa_nil))) (fun _ _ => rfl)) pa_nil)))))
        (C8.pss_cut (ps_set (i := 4) sc_law.nd rfl (.inl rfl) (pe_ix ix_list (pe_lst (pa_cons pe_int (pa_cons (pe_op op_add pe_int (pe_c cD hr (by decide) rfl (pa_cons (pv 1) (pa_cons pe_int pa_nil)))) (pa_cons (pe_op op_add pe_int (pe_c cD hr (by decide) rfl (pa_cons (pv 1) (pa_cons pe_int pa_nil)))) pa_nil))))
          (pe_c cD hr (by decide) rfl (pa_cons (pv 1) (pa_cons pe_int pa_nil))) (fun _ _ => rfl)))
        (pss_cons (ps_set (i := 5) sc_law.nd rfl (.inl rfl) (pe_lst (pa_cons (pe_tup (pa_cons (pe_c c1 hr (by decide) rfl (pa_cons (pv 3) pa_nil)) (pa_cons pe_int pa_nil))) (pa_cons (pe_tup (pa_cons (pe_c c2 hr (by decide) rfl (pa_cons (pv 3) (pa_cons (pv 4) pa_nil))) (pa_cons (pv 4) pa_nil))) pa_nil))))
        (pss_cons (ps_set (i := 5) sc_law.nd rfl (.inl rfl) (pe_op op_cat (pv 5) (pe_lst (pa_cons (pe_tup (pa_cons (KW.pe_cK FN hr rfl hm hk k2 (pk_cons (pv 4) (pk_cons (pv 3) pk_nil))) (pa_cons (pv 4) pa_nil)))
          (pa_cons (pe_tup (pa_cons (KW.pe_cK FN hr rfl hm hk k1 (pk_cons (pv 3) pk_nil)) (pa_cons pe_int pa_nil))) pa_nil)))))
        (pss_one (ps_for PassesOwn.never rfl (pi_list (pv 5)) (pg_tup rfl (pgs_cons (pg_name (i := 6) sc_law.nd rfl (.inl rfl)) (pgs_cons (pg_name (i := 7) sc_law.nd rfl (.inl rfl)) pgs_nil)))
          (pss_cons (ps_if (PW.pt (pw_or (pt_not (pt_val (pe_callB call_isi rfl bl.isi boot_isinstance (pa_cons (pv 6) (pa_cons (pe_bltn (v := .ty "tuple") rfl bt boot_tuple rfl) pa_nil))))) (pw_or1 (pt_cmpR op_ne (pe_callB call_len_seq rfl bl.len boot_len (pa_cons (pv 6) pa_nil)) pe_int (nomark _))))) pss_never pss_nil)
          (pss_one (ps_if (pt_cmpR (op_neD hu64) (pe_callTy call_tuple_of rfl bt boot_tuple (pa_cons (pe_lc (own := [("_law_share", 8)]) (g := gName 8) (tt := tYes) rfl sc_law.nd (pi_tup (pv 6)) (blkOk_by (N := N_law) (sc := defScope s_law) (by decide +kernel))
              (fun _ _ _ _ _ => pg_name (i := 8) sc_law.nd rfl (Or.inl rfl)) (fun _ _ _ _ _ => pts_nil) (fun _ _ _ _ _ => pe_c cP hr (by decide) rfl (pa_cons (pv 8) pa_nil))) pa_nil))
            (pe_c cB hr (by decide) rfl (pa_cons (pv 3) (pa_cons (pv 7) pa_nil))) (nomark _)) pss_never pss_nil))))))))))
      (pss_one (ps_ret pe_bl)))), ?_⟩
    refine ⟨_, rfl, a, ns, rfl, hS, hlen, fun h H1 s1 f1 held1 => ?_⟩
    refine ⟨3, rfl, by decide, by decide, for_range (n := 3) (fun i σ H2 => ∃ v2 v3 v4 v5 v6 v7 v8, σ = [some (.ref a), some (.ref h), v2, v3, v4, v5, v6, v7, v8] ∧ Held H2 h (1000 * (4 - i)))
      ⟨_, _, _, _, _, _, _, rfl, held1.weak (by decide)⟩ ?_ ?_⟩
    · rintro i σ H2 hi ⟨v2, v3, v4, v5, v6, v7, v8, rfl, held2⟩
      refine ⟨fun σ' H' => ∃ (n : Int), σ' = [some (.ref a), some (.ref h), some (.int (0 + i)), some (.int n), v4, v5, v6, v7, v8] ∧ 1 ≤ n ∧ n ≤ 60 ∧ Held H' h (1000 * (4 - i) - 2), ?_, ?_⟩
      · refine ⟨_, rfl, by show 3 ≤ sizeLine; decide, fun u hu => ?_⟩
        have su := same_new (o := .lst [.int 4, .int 12, .int 60]) hu
        refine ⟨_, rfl, h, 1000 * (4 - i) - 1, 3, rfl, (held2.same su).weak (by omega), by decide, by decide, fun r H3 r0 r1 held3 k3 => ?_⟩
        have hu3 : H3 u = some (.lst [.int 4, .int 12, .int 60]) := k3.1 u _ upd_same (held2.ne_new hu)
        obtain ⟨v, hv, hv3⟩ := at3 (a := .int 4) (b := .int 12) (c := .int 60) r0 r1
        obtain ⟨x, rfl, x0, x1⟩ : ∃ x : Int, v = .int x ∧ 0 < x ∧ x ≤ 60 := by
          rcases hv3 with rfl | rfl | rfl
          · exact ⟨_, rfl, by decide, by decide⟩
          · exact ⟨_, rfl, by decide, by decide⟩
          · exact ⟨_, rfl, by decide, by decide⟩
        refine ⟨u, _, _, _, rfl, rfl, SqL.of hu3, hv, h, 1000 * (4 - i) - 2, x, rfl, held3.weak (by omega), x0, by omega, fun y H4 y0 y1 held4 k4 => ?_⟩
        exact ⟨_, _, rfl, rfl, _, rfl, by omega, by omega, held4⟩
      rintro σ' H3 ⟨n, rfl, n0, n1, held3⟩
      refine ⟨fun σ' H' => ∃ (g : Int), σ' = [some (.ref a), some (.ref h), some (.int (0 + i)), some (.int n), some (.int g), v5, v6, v7, v8] ∧ 0 ≤ g ∧ g ≤ 1000 ∧ Held H' h (1000 * (4 - i) - 5), ?_, ?_⟩
      · refine ⟨_, rfl, h, 1000 * (4 - i) - 3, 9, rfl, held3.weak (by omega), by decide, by decide, fun x H4 x0 x1 held4 k4 => ?_⟩
        refine ⟨_, _, rfl, rfl, _, rfl, h, 1000 * (4 - i) - 4, 1000, rfl, held4.weak (by omega), by decide, by decide, fun y H5 y0 y1 held5 k5 => ?_⟩
        refine ⟨_, _, rfl, rfl, by show 3 ≤ sizeLine; decide, fun u hu => ?_⟩
        have su := same_new (o := .lst [.int 0, .int (1 + x), .int (1 + y)]) hu
        refine ⟨_, rfl, h, 1000 * (4 - i) - 5, 3, rfl, (held5.same su).weak (by omega), by decide, by decide, fun r H6 r0 r1 held6 k6 => ?_⟩
        have hu6 : H6 u = some (.lst [.int 0, .int (1 + x), .int (1 + y)]) := k6.1 u _ upd_same (held5.ne_new hu)
        obtain ⟨v, hv, hv3⟩ := at3 (a := .int 0) (b := .int (1 + x)) (c := .int (1 + y)) r0 r1
        obtain ⟨g, rfl, g0, g1⟩ : ∃ g : Int, v = .int g ∧ 0 ≤ g ∧ g ≤ 1000 := by
          rcases hv3 with rfl | rfl | rfl
          · exact ⟨_, rfl, by decide, by decide⟩
          · exact ⟨_, rfl, by omega, by omega⟩
          · exact ⟨_, rfl, by omega, by omega⟩
        exact ⟨u, _, _, _, rfl, rfl, SqL.of hu6, hv, g, rfl, g0, g1, held6⟩
      rintro σ' H4 ⟨g, rfl, g0, g1, held4⟩
      -- the four answers
      refine ⟨_, rfl, n, 0, rfl, n0, n1, by decide, by decide, fun o1 p1 q1 H5 s5 e1 hp1 hq1 => ⟨by show 2 ≤ sizeLine; decide, fun t1 f1 => ?_⟩⟩
      have st1 := same_new (o := .tup [.ref o1, .int 0]) f1
      have A1 : Ask C n (upd H5 t1 (.tup [.ref o1, .int 0])) t1 := ⟨o1, p1, q1, 0, upd_same, by decide, by decide, st1 _ _ e1, hp1.keep st1, hq1.keep st1⟩
      refine ⟨_, rfl, _, rfl, n, g, rfl, n0, n1, g0, g1, fun o2 p2 q2 H6 s6 e2 hp2 hq2 => ⟨_, rfl, by show 2 ≤ sizeLine; decide, fun t2 f2 => ⟨by show 2 ≤ sizeLine; decide, fun l1 fl1 => ?_⟩⟩⟩
      have st2 := same_new (o := .tup [.ref o2, .int g]) f2
      have A2 : Ask C n (upd H6 t2 (.tup [.ref o2, .int g])) t2 := ⟨o2, p2, q2, g, upd_same, g0, g1, st2 _ _ e2, hp2.keep st2, hq2.keep st2⟩
      have sl1 := same_new (o := .lst [.ref t1, .ref t2]) fl1
      have A1' := (A1.keep s6).keep (st2.trans sl1)
      have A2' := A2.keep sl1
      have held6 := (held4.same (s5.trans st1)).same (s6.trans (st2.trans sl1))
      have hl1 := upd_same (H := upd H6 t2 (.tup [.ref o2, .int g])) (a := l1) (o := .lst [.ref t1, .ref t2])
      refine ⟨_, rfl, _, rfl, _, rfl, rfl, n, g, rfl, n0, n1, g0, g1, fun o3 p3 q3 H7 s7 e3 hp3 hq3 => ⟨_, rfl, by show 2 ≤ sizeLine; decide, fun t3 f3 => ?_⟩⟩
      have st3 := same_new (o := .tup [.ref o3, .int g]) f3
      have A3 : Ask C n (upd H7 t3 (.tup [.ref o3, .int g])) t3 := ⟨o3, p3, q3, g, upd_same, g0, g1, st3 _ _ e3, hp3.keep st3, hq3.keep st3⟩
      refine ⟨_, rfl, rfl, n, 0, rfl, n0, n1, by decide, by decide, fun o4 p4 q4 H8 s8 e4 hp4 hq4 => ⟨by show 2 ≤ sizeLine; decide, fun t4 f4 => ⟨by show 2 ≤ sizeLine; decide, fun l2 fl2 => ?_⟩⟩⟩
      have st4 := same_new (o := .tup [.ref o4, .int 0]) f4
      have A4 : Ask C n (upd H8 t4 (.tup [.ref o4, .int 0])) t4 := ⟨o4, p4, q4, 0, upd_same, by decide, by decide, st4 _ _ e4, hp4.keep st4, hq4.keep st4⟩
      have sl2 := same_new (o := .lst [.ref t3, .ref t4]) fl2
      have s78 := (s7.trans st3).trans (s8.trans (st4.trans sl2))
      refine ⟨l1, l2, _, _, rfl, rfl, s78 _ _ hl1, upd_same, by show 4 ≤ sizeLine; decide, fun l3 fl3 => ?_⟩
      have sl3 := same_new (o := .lst ([.ref t1, .ref t2] ++ [.ref t3, .ref t4])) fl3
      have B1 := (A1'.keep s78).keep sl3
      have B2 := (A2'.keep s78).keep sl3
      have B3 := (A3.keep (s8.trans (st4.trans sl2))).keep sl3
      have B4 := (A4.keep sl2).keep sl3
      have held9 := (held6.same s78).same sl3
      have hl3 := upd_same (H := upd (upd H8 t4 (.tup [.ref o4, .int 0])) l2 (.lst [.ref t3, .ref t4])) (a := l3) (o := .lst ([.ref t1, .ref t2] ++ [.ref t3, .ref t4]))
      generalize upd (upd (upd H8 t4 (.tup [.ref o4, .int 0])) l2 (.lst [.ref t3, .ref t4])) l3 (.lst ([.ref t1, .ref t2] ++ [.ref t3, .ref t4])) = H9 at B1 B2 B3 B4 held9 hl3 ⊢
      refine ⟨_, rfl, l3, rfl, ⟨_, SqL.of hl3⟩, for_list (K := K) (xs := [.ref t1, .ref t2, .ref t3, .ref t4]) (fun j σ H10 => Same H9 H10 ∧ ∃ v6 v7 v8, σ = [some (.ref a), some (.ref h), some (.int (0 + i)), some (.int n), some (.int g), some (.ref l3), v6, v7, v8])
        ⟨Same.refl _, _, _, _, rfl⟩ (fun j σ H10 _ z => SqL.of (z.1 _ _ hl3)) ?_ ?_⟩
      · rintro j z σ H10 hj ⟨s10, v6, v7, v8, rfl⟩
        obtain ⟨t, rfl, At⟩ : ∃ t, z = .ref t ∧ Ask C n H10 t := by
          match j, hj with
          | 0, e => exact ⟨t1, (Option.some.inj e).symm, B1.keep s10⟩
          | 1, e => exact ⟨t2, (Option.some.inj e).symm, B2.keep s10⟩
          | 2, e => exact ⟨t3, (Option.some.inj e).symm, B3.keep s10⟩
          | 3, e => exact ⟨t4, (Option.some.inj e).symm, B4.keep s10⟩
        obtain ⟨fo, p, q, d, ht, d0, d1, hfo, hp, hq⟩ := At
        refine ⟨t, _, rfl, SqT.of ht, rfl, _, _, rfl, _, _, rfl, rfl, ?_⟩
        refine ⟨_, rfl, _, _, _, _, true, rfl, ClsV.ty _, TyX.base (TyOf.tup hfo), kit_ty (by decide +kernel), true, rfl, iteF ?_⟩
        refine ⟨_, rfl, fo, _, rfl, .inr (SqT.of hfo), rfl, _, rfl, iteNS rfl ?_⟩
        refine ⟨_, rfl, fo, rfl, ⟨_, SqT.of hfo⟩, fun D hD => ?_⟩
        refine lc_tup (K := K) (xs := [.ref p, .ref q]) (fun k H11 => Same H10 H11 ∧ Got D (bO n d (n - 1).toNat) (bE n d (n - 1).toNat) k H11) ⟨same_new hD, upd_same⟩ (fun k H11 _ z => SqT.of (z.1 _ _ hfo)) ?_ ?_
        · rintro k y H11 hk ⟨s11, got⟩
          have fin : ∀ {H12 : Hp} {r : Addr} {acc : List V}, Same H11 H12 → Same H10 (upd H12 D (.lst (acc ++ [.ref r]))) := fun {H12 r acc} s12 b o e => by
            rw [upd_ne (ne_of_none e hD)]
            exact s12 _ _ (s11 _ _ e)
          match k, hk with
          | 0, e =>
            cases Option.some.inj e
            refine ⟨rfl, _, rfl, p, _, rfl, hp.keep s11, fun r H12 s12 f12 e12 => ⟨_, s12 _ _ got, by show 0 < sizeLine; decide, fin s12, r, upd_same, ?_⟩⟩
            rw [upd_ne (ne_of_none got f12).symm]
            exact e12
          | 1, e =>
            cases Option.some.inj e
            obtain ⟨u, gD, gu⟩ := got
            refine ⟨rfl, _, rfl, q, _, rfl, hq.keep s11, fun r H12 s12 f12 e12 => ⟨_, s12 _ _ gD, by show 1 < sizeLine; decide, fin s12, u, r, upd_same, ?_, ?_⟩⟩
            · rw [upd_ne (ne_of gu gD (by intro z; cases z))]
              exact s12 _ _ gu
            · rw [upd_ne (ne_of_none gD f12).symm]
              exact e12
        · rintro H11 ⟨s11, u, v, gD, gu, gv⟩
          refine ⟨D, _, rfl, .inl ⟨SqL.of gD, fun tt ft => ?_⟩⟩
          have stt := same_new (o := .tup [.ref u, .ref v]) ft
          refine ⟨_, rfl, _, rfl, n, d, rfl, n0, n1, d0, d1, fun bt bp bq H12 s12 e1 e2 e3 => ?_⟩
          have s0 := stt.trans s12
          refine ne_two (s12 _ _ upd_same) e1 (s0 _ _ gu) (s0 _ _ gv) e2 e3 ⟨_, rfl, iteF ?_⟩
          exact ⟨s10.trans (s11.trans s0), _, _, _, rfl⟩
      · rintro σ H10 ⟨s10, v6, v7, v8, rfl⟩
        exact ⟨_, _, _, _, _, _, _, rfl, (held9.same s10).weak (by omega)⟩
    · rintro σ H2 _
      exact hQ H2
end
end K34
set_option Elab.async false
set_option linter.all false
set_option maxRecDepth 100000
set_option maxHeartbeats 0
namespace K34
open PySem PySem.Spec PyProof.Rows L2
open C8 (Cal Mak Met pe_c pe_mk pe_mt pe_mt0)
def fa : List He.Fa := [.glo "is_whole", .glo "common_part", .glo "never_beyond", .glo "_law_held", .glo "_law_draw", .glo "_law_low", .glo "_law_add", .glo "_law_pair", .glo "_law_bound", .glo "law", .free "isinstance", .free "int", .free "bool", .free "abs", .free "list", .free "range", .free "len", .free "tuple", .glo "Share", .cls "Share", .mkr "Share", .noat "Share" "top", .noat "Share" "bottom", .meth "Share" "plus", .meth "Share" "times", .meth "Share" "over"]
def xk (K : PySem.W.Frag) : Bool := (fun K => GX.isB K (He.ga K "Share")) K
abbrev R : PySem.W.OpenRow := PySem.W.OpenLaw.row PySem.Challenge.rw_rideturns_k34_bounds_by_the_sums
abbrev hk : PySem.W.Hook := He.hookX 6 fa fn [] [] xk
def ob (s : PySem.W.SharedT) : He.AlX := He.obsX 6 fa fn [] [] xk (HandSHeadRun.getT s)
theorem ob_eq (s : PySem.W.SharedT) : ob s = hk.obs s.abs := He.obsX_eq (HandSHeadRun.getT_eq s)
abbrev loose : List Str := ["_wall", "NoKind", "Nought", "is_whole", "common_part", "Share", "never_beyond", "_law_held", "_law_draw", "_law_low", "_law_add", "_law_pair", "_law_bound"]
theorem run_ (w : World) : HandSHeadRun.RunEq R (PySem.W.view R.prog [18]) hk ob 3000 loose w := by
  intro os
  kernel_rfl
theorem cal_of {P : Program} {w : World} {K : PySem.W.Frag} {mg : Str → Option Value} {base : Heap} {f : Addr} {fd : FuncData} {ps : List Str} {k : Nat} {x : Str} {sp : Sp} (F : FnOk P w K mg base CX0 k f fd ps sp) (g : mg x = some (.ref f)) (kp : PySem.W.keepIn K (.ref f) = true) (b : Binds K fd ps []) : Cal P w K mg base k x sp [] :=
  ⟨f, fd, ps, [], F, g, kp, b, .nil⟩
theorem met_of {P : Program} {w : World} {K : PySem.W.Frag} {mg : Str → Option Value} {base : Heap} {f C : Addr} {fd : FuncData} {ps : List Str} {k : Nat} {m : Str} {sp : Sp} (c : Cls K C) (h : Meth K C m f) (F : FnOk P w K mg base CX0 k f fd ps sp) (b : Binds K fd ps []) : Met P w K mg base k C m sp [] :=
  ⟨f, fd, ps, [], c, h, F, b, .nil⟩
theorem facts {P : Program} {w : World} {K : PySem.W.Frag} {h h0 : Heap} {mg : Str → Option Value} {f : Addr} (X : K.In h) (G : h.Ns mainGlobals mg) (hfa : mg ("law" : Str) = some (.ref f)) (c : He.SaysX fa fn [] [] xk w h0 K) :
    ∃ fd : FuncData, (∀ (s : Shared) (v : Value), BindsTo s fd ⟨[v], []⟩ [("_law_script", v)]) ∧ ∀ base : Heap, K.In base → base.Ns mainGlobals mg → FnOk P w K mg base CX0 6 f fd ["_law_script"] (spLaw K) := by
  have d := c.t.d
  have x := c.more
  have gl : ∀ (i : Nat) (x : Str), fa[i]? = some (.glo x) → mg x = some (.ref (He.ga K x)) := fun i x e => He.glo_ok X G (d.fact i e)
  have fr : ∀ (i : Nat) (x : Str), fa[i]? = some (.free x) → mg x = none := fun i x e => He.free_ok X G (d.fact i e)
  have me : ∀ (i : Nat) (C m : Str), fa[i]? = some (.meth C m) → Meth K (He.ga K C) m (He.ma K (He.ga K C) m) := fun i C m e => He.meth_ok (d.fact i e)
  have gl_is_whole := gl 0 "is_whole" rfl
  have gl_common_part := gl 1 "common_part" rfl
  have gl_never_beyond := gl 2 "never_beyond" rfl
  have gl__law_held := gl 3 "_law_held" rfl
  have gl__law_draw := gl 4 "_law_draw" rfl
  have gl__law_low := gl 5 "_law_low" rfl
  have gl__law_add := gl 6 "_law_add" rfl
  have gl__law_pair := gl 7 "_law_pair" rfl
  have gl__law_bound := gl 8 "_law_bound" rfl
  have gl_law := gl 9 "law" rfl
  have fr_isinstance := fr 10 "isinstance" rfl
  have fr_int := fr 11 "int" rfl
  have fr_bool := fr 12 "bool" rfl
  have fr_abs := fr 13 "abs" rfl
  have fr_list := fr 14 "list" rfl
  have fr_range := fr 15 "range" rfl
  have fr_len := fr 16 "len" rfl
  have fr_tuple := fr 17 "tuple" rfl
  have gl_Share := gl 18 "Share" rfl
  have cls_Share := He.cls_ok (d.fact 19 (f := .cls "Share") rfl)
  have mk_Share := He.mkr_ok (d.fact 20 (f := .mkr "Share") rfl)
  have no_Share_top := He.noat_ok (d.fact 21 (f := .noat "Share" "top") rfl)
  have no_Share_bottom := He.noat_ok (d.fact 22 (f := .noat "Share" "bottom") rfl)
  have me_Share_plus := me 23 "Share" "plus" rfl
  have me_Share_times := me 24 "Share" "times" rfl
  have me_Share_over := me 25 "Share" "over" rfl
  obtain ⟨fd_is_whole, D_is_whole⟩ := d.def_ 3 (d := d_is_whole) rfl
  obtain ⟨fd_common_part, D_common_part⟩ := d.def_ 4 (d := d_common_part) rfl
  obtain ⟨fd_Share_init, D_Share_init⟩ := d.def_ 5 (d := d_Share_init) rfl
  obtain ⟨fd_Share_plus, D_Share_plus⟩ := d.def_ 9 (d := d_Share_plus) rfl
  obtain ⟨fd_Share_times, D_Share_times⟩ := d.def_ 11 (d := d_Share_times) rfl
  obtain ⟨fd_Share_over, D_Share_over⟩ := d.def_ 12 (d := d_Share_over) rfl
  obtain ⟨fd_never_beyond, D_never_beyond⟩ := d.def_ 15 (d := d_never_beyond) rfl
  obtain ⟨fd_l_held, D_l_held⟩ := d.def_ 16 (d := d_l_held) rfl
  obtain ⟨fd_l_draw, D_l_draw⟩ := d.def_ 17 (d := d_l_draw) rfl
  obtain ⟨fd_l_low, D_l_low⟩ := d.def_ 18 (d := d_l_low) rfl
  obtain ⟨fd_l_add, D_l_add⟩ := d.def_ 19 (d := d_l_add) rfl
  obtain ⟨fd_l_pair, D_l_pair⟩ := d.def_ 20 (d := d_l_pair) rfl
  obtain ⟨fd_l_bound, D_l_bound⟩ := d.def_ 21 (d := d_l_bound) rfl
  obtain ⟨fd_law, D_law⟩ := d.def_ 22 (d := d_law) rfl
  have e := hfa.symm.trans gl_law
  cases e
  have bL := FunD.bindsA (ps := ["_law_script"]) D_law fun _ _ _ _ _ _ us hl => match us, hl with | [_], _ => rfl
  refine ⟨fd_law, fun s v => bL s [v] rfl, fun base _ _ => ?_⟩
  have b_is_whole : Binds K fd_is_whole ["thing"] [] := D_is_whole.bindsN fun _ _ _ _ _ _ us hl => match us, hl with | [_], _ => rfl
  have b_common_part : Binds K fd_common_part ["one", "other"] [] := D_common_part.bindsN fun _ _ _ _ _ _ us hl => match us, hl with | [_, _], _ => rfl
  have b_Share_init : Binds K fd_Share_init ["self", "top", "bottom"] [] := by
    obtain ⟨ds, h1, h2⟩ := D_Share_init.binds1 (ps := ["self", "top", "bottom"]) 3 1 (List.cons_ne_nil _ _) rfl (fun T kV doc pm an cdv ct us its hl h1 => match us, hl, its, h1 with | [_, _, _], _, [_], _ => ⟨_, rfl, rfl⟩)
    cases h1
    exact h2
  obtain ⟨ds1_Share_init, v1_Share_init, b1_Share_init⟩ := D_Share_init.binds1 (ps := ["self", "top", "bottom"]) 2 0 (List.cons_ne_nil _ _) rfl (fun T kV doc pm an cdv ct us its hl h1 => match us, hl, its, h1 with | [_, _], _, [_], _ => ⟨_, rfl, rfl⟩)
  have b_Share_plus : Binds K fd_Share_plus ["self", "other"] [] := D_Share_plus.bindsN fun _ _ _ _ _ _ us hl => match us, hl with | [_, _], _ => rfl
  have b_Share_times : Binds K fd_Share_times ["self", "many"] [] := D_Share_times.bindsN fun _ _ _ _ _ _ us hl => match us, hl with | [_, _], _ => rfl
  have b_Share_over : Binds K fd_Share_over ["self", "many"] [] := D_Share_over.bindsN fun _ _ _ _ _ _ us hl => match us, hl with | [_, _], _ => rfl
  have b_never_beyond : Binds K fd_never_beyond ["many", "grain"] [] := by
    obtain ⟨ds, h1, h2⟩ := D_never_beyond.binds1 (ps := ["many", "grain"]) 2 1 (List.cons_ne_nil _ _) rfl (fun T kV doc pm an cdv ct us its hl h1 => match us, hl, its, h1 with | [_, _], _, [_], _ => ⟨_, rfl, rfl⟩)
    cases h1
    exact h2
  obtain ⟨ds1_never_beyond, v1_never_beyond, b1_never_beyond⟩ := D_never_beyond.binds1 (ps := ["many", "grain"]) 1 0 (List.cons_ne_nil _ _) rfl (fun T kV doc pm an cdv ct us its hl h1 => match us, hl, its, h1 with | [_], _, [_], _ => ⟨_, rfl, rfl⟩)
  have b_l_held : Binds K fd_l_held ["_law_script"] [] := D_l_held.bindsN fun _ _ _ _ _ _ us hl => match us, hl with | [_], _ => rfl
  have b_l_draw : Binds K fd_l_draw ["_law_held_here", "_law_count"] [] := D_l_draw.bindsN fun _ _ _ _ _ _ us hl => match us, hl with | [_, _], _ => rfl
  have b_l_low : Binds K fd_l_low ["_law_top", "_law_bottom"] [] := D_l_low.bindsN fun _ _ _ _ _ _ us hl => match us, hl with | [_, _], _ => rfl
  have b_l_add : Binds K fd_l_add ["_law_one", "_law_other"] [] := D_l_add.bindsN fun _ _ _ _ _ _ us hl => match us, hl with | [_, _], _ => rfl
  have b_l_pair : Binds K fd_l_pair ["_law_share"] [] := D_l_pair.bindsN fun _ _ _ _ _ _ us hl => match us, hl with | [_], _ => rfl
  have b_l_bound : Binds K fd_l_bound ["_law_count", "_law_fine"] [] := D_l_bound.bindsN fun _ _ _ _ _ _ us hl => match us, hl with | [_, _], _ => rfl
  have b_law : Binds K fd_law ["_law_script"] [] := D_law.bindsN fun _ _ _ _ _ _ us hl => match us, hl with | [_], _ => rfl
  unfold xk GX.isB at x
  simp only [Bool.and_eq_true, decide_eq_true_eq] at x
  obtain ⟨y1, y2, y3, y4⟩ := x
  have IC : IsC K (He.ga K "Share") := ⟨He.eqO_ok y1, He.eqO_ok y2, y3, y4, by unfold PySem.W.kitOne; rw [if_pos (beq_self_eq_true _)]⟩
  have B : Bl mg := ⟨fr_isinstance, fr_int, fr_bool, fr_abs, fr_list, fr_range, fr_len⟩
  have T : Cl K mg (He.ga K "Share") := ⟨cls_Share, no_Share_top, no_Share_bottom, gl_Share⟩
  have cW : CalW P w K mg base := cal_of (ok_whole D_is_whole B) gl_is_whole D_is_whole.kp b_is_whole
  have cG : CalG P w K mg base := cal_of (ok_gcd D_common_part B) gl_common_part D_common_part.kp b_common_part
  have MS : MakS P w K mg base (He.ga K "Share") := ⟨_, _, _, _, mk_Share, ok_init D_Share_init cW cG T, T.g, b_Share_init, .nil⟩
  have M1 : MakS1 P w K mg base (He.ga K "Share") := ⟨_, _, _, _, mk_Share, ok_init D_Share_init cW cG T, T.g, b1_Share_init, v1_Share_init⟩
  have M : Ms P w K mg base (He.ga K "Share") := ⟨met_of T.cl me_Share_plus ((ok_plus D_Share_plus MS T).imp fun _ _ _ _ => plusR) b_Share_plus,
    met_of T.cl me_Share_times ((ok_times D_Share_times MS T).imp fun _ _ _ _ => timesR) b_Share_times, met_of T.cl me_Share_over ((ok_over D_Share_over MS T).imp fun _ _ _ _ => overR) b_Share_over⟩
  have cH := cal_of (P := P) (w := w) (base := base) (ok_held D_l_held B) gl__law_held D_l_held.kp b_l_held
  have cD : CalD P w K mg base := cal_of (ok_draw D_l_draw B) gl__law_draw D_l_draw.kp b_l_draw
  have cL : CalL P w K mg base := cal_of (ok_low D_l_low B) gl__law_low D_l_low.kp b_l_low
  have cA := cal_of (ok_add D_l_add cL) gl__law_add D_l_add.kp b_l_add
  have cP := cal_of (P := P) (w := w) (base := base) (ok_pair D_l_pair B T IC) gl__law_pair D_l_pair.kp b_l_pair
  have cB := cal_of (ok_bound D_l_bound B cA) gl__law_bound D_l_bound.kp b_l_bound
  have FN := ok_nb (P := P) (w := w) (base := base) D_never_beyond B MS M1 M
  have c2 := cal_of FN gl_never_beyond D_never_beyond.kp b_never_beyond
  have c1 : Cal P w K mg base 5 "never_beyond" (spNB (He.ga K "Share")) [.int 0] := ⟨_, _, _, _, FN, gl_never_beyond, D_never_beyond.kp, b1_never_beyond, v1_never_beyond⟩
  obtain ⟨i2, k2⟩ := KW.kb1 (ps := ["many", "grain"]) D_never_beyond 0 ["grain", "many"] (fun us its ws => ws.drop 1 ++ ws.take 1) (List.cons_ne_nil _ _) (fun _ _ r => (r.drop 1).append (r.take 1)) (fun T kV doc pm an cdv ct us its ws h1 h2 h3 => match us, h1, its, h2, ws, h3 with | [], _, [_], _, [_, _], _ => ⟨_, rfl, rfl⟩)
  obtain ⟨i1, k1⟩ := KW.kb1 (ps := ["many", "grain"]) D_never_beyond 0 ["many"] (fun us its ws => ws ++ its) (List.cons_ne_nil _ _) (fun _ d r => r.append d) (fun T kV doc pm an cdv ct us its ws h1 h2 h3 => match us, h1, its, h2, ws, h3 with | [], _, [_], _, [_], _ => ⟨_, rfl, rfl⟩)
  exact ok_law D_law B fr_tuple cH cD cP cB c1 c2 FN gl_never_beyond D_never_beyond.kp k2 k1
end K34
open PySem PySem.W PySem.Calls PyProof.Rows
set_option maxRecDepth 100000 in
set_option maxHeartbeats 0 in
theorem PySem.Challenge.cw_rideturns_k34_bounds_by_the_sums_holds : PySem.Challenge.rw_rideturns_k34_bounds_by_the_sums.Holds := by
  w_on; o_law
  refine HandSHeadRun.head_any (r := OpenLaw.row PySem.Challenge.rw_rideturns_k34_bounds_by_the_sums) (q := view (OpenLaw.row PySem.Challenge.rw_rideturns_k34_bounds_by_the_sums).prog [18]) (H := K34.hk) (ob := K34.ob) (M := 3000) (loose := K34.loose) (d := HandSHeadRun.topDef (OpenLaw.row PySem.Challenge.rw_rideturns_k34_bounds_by_the_sums).prog 18) (kwd := []) K34.ob_eq
    (by kernel_rfl) (fun s => by kernel_rfl) K34.run_ (by kernel_rfl) (by kernel_rfl) (by kernel_rfl) (by rfl) (by first | assumption | decide +kernel) (by decide +kernel) ⟨rfl, rfl, rfl, rfl, rfl, by decide +kernel⟩ ?hw ?hc
  case hw => w_witness2
  case hc =>
    refine L2.walk_ofE (l := PySem.Challenge.rw_rideturns_k34_bounds_by_the_sums) (n := 63) (k := 6) (x := "_law_script") (CX := L2.CX0) rfl (by decide) (by kernel_rfl) ⟨rfl, by decide, by decide⟩ ?F (fun _ _ _ _ z => z)
    intro w mg fa h Y G hmg0
    obtain ⟨K, KX, c⟩ := Y
    have hmg : mg ("law" : PySem.Str) = some (.ref fa) := by
      have e : (HandSHeadRun.topDef (OpenLaw.row PySem.Challenge.rw_rideturns_k34_bounds_by_the_sums).prog 18).name = ("law" : PySem.Str) := by kernel_rfl
      rw [← e]
      exact hmg0
    obtain ⟨fd, hb, hF⟩ := K34.facts (P := (PySem.Challenge.rw_rideturns_k34_bounds_by_the_sums).prog) (w := w) KX G hmg c
    exact ⟨K, fd, K34.spLaw K, KX, hb, fun H a ns hl _ hS => ⟨a, ns, rfl, hS, hl, fun _ => rfl⟩, hF⟩
