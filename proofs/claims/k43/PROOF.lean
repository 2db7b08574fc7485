import PyProof.Rows.All
import Wide.All
import OpenK.AllK
import Wide.FinOn
import HandS.List
import HandS.Call
import HandS.Deep
import HandS.IsInst
import HandS.Lambda
import KE.KIndexOf
import HandS.ForMost
import HandS.ForExc
import HandS.Defaults
import HandS.Codes
import HandS.Wide
import HandS.Flow
import HandS.Evl
import HandS.Steps
import HandS.ExcField
import HandS.Head0
import HandS.Head1
import HandS.Head2
import HandS.HeadEnd
import HandS.HeadHook1
import HandS.HeadHook2
import HandS.HeadHook3
import HandS.HeadHook4
import KE.KExcInit
import HandS.ExcInit
import KE.KEqSeq
import HandS.Words
import HandS.MakeKw
import HandS.MakeKwOnly
import HandS.Style
import HandS.Comp
import HandS.Text
import HandS.More
import PyProof.StrOps2
import HandS.Strs
import HandS.Walk
import HandS.StrMore
import KE.KLam
import KE.DataMinKey
import HandS.Dict
import HandS.HeadWalk
import HandS.Zip
import HandS.DictComp
import HandS.TupAny
import KE.KDictDisplayH
import PyProof.WalkInts
import HandS.Iter
import KE.SortCalls
import KE.SortKeyed
import HandS.NestedK
import PySem.Challenge.RW_rideturns_k43_whole_no_row_leads_farther
set_option Elab.async false
set_option linter.all false
set_option maxRecDepth 100000
set_option maxHeartbeats 4000000
/-! PIN: a tuple laid with its object known (it has no dict of its own), so that its methods can be called; every rule that reads a tuple reads it too (SqT). -/
namespace PIN
open PySem PySem.Spec PyProof.Rows L2
open LamX (ExtN)
def PinT (H : Hp) (a : Addr) (xs : List V) : Prop := ∃ od : Obj, H a = some (.frz od (.tup xs)) ∧ od.cls = .type "tuple" ∧ od.dict = none
theorem PinT.sq {K : PySem.W.Frag} {H : Hp} {a : Addr} {xs : List V} (h : PinT H a xs) : SqT K H a xs := let ⟨od, e, _⟩ := h; .inl (.inr ⟨od, e⟩)
theorem PinT.ty {K : PySem.W.Frag} {H : Hp} {a : Addr} {xs : List V} (h : PinT H a xs) : TyX K H (.ref a) (.type "tuple") := let ⟨_, e, _⟩ := h; .fTuple e
theorem PinT.same {H H' : Hp} {a : Addr} {xs : List V} (h : PinT H a xs) (s : ∀ b o, H b = some o → H' b = some o) : PinT H' a xs := let ⟨od, e, r⟩ := h; ⟨od, s _ _ e, r⟩
theorem PinT.ext {H H' : Hp} {a : Addr} {xs : List V} (h : PinT H a xs) (s : ∀ b od ys, H b = some (.frz od (.tup ys)) → H' b = some (.frz od (.tup ys))) : PinT H' a xs := let ⟨od, e, r⟩ := h; ⟨od, s _ _ _ e, r⟩
theorem PinT.extN {H H' : Hp} {a : Addr} {xs : List V} (h : PinT H a xs) (s : ExtN H H') : PinT H' a xs := let ⟨od, e, r⟩ := h; ⟨od, s _ _ e fun _ q => (nomatch q), r⟩
theorem PinT.ne {H : Hp} {a b : Addr} {xs : List V} {o : HO} (h : PinT H a xs) (e : H b = some o) (n : ∀ od u, o ≠ .frz od u) : a ≠ b := fun z => by
  obtain ⟨od, e1, _⟩ := h
  rw [z, e] at e1
  exact n _ _ (Option.some.inj e1)
section
variable {X : Cx}
/-- tuple(x) of a list -/
def rTupP (K : PySem.W.Frag) : List V → Hp → VK → Prop := fun xs H Q => ∃ p ys, xs = [.ref p] ∧ SqL K H p ys ∧ ∀ l od, H l = none → od.cls = .type "tuple" → od.dict = none → Q (.ref l) (upd H l (.frz od (.tup ys)))
theorem call_tupP : CallR X (.type "tuple") (rTupP X.K) := by
  intro pins s σ H xs us Q I r h
  obtain ⟨p, ys, rfl, hq, q⟩ := h
  obtain ⟨u, rfl, rx⟩ := vals1 r
  cases rx
  obtain ⟨its, r', pl, hz⟩ := I.list hq
  have hlen := r'.length
  refine call_tuple_list pl.isList (fun h' kp => ?_) (by simp only [List.size_toArray] <;> omega)
  have I1 : Inv X pins σ H { s with heap := h' } := I.kept (t' := s.toks) kp
  have I2 : Inv X pins σ (upd H h'.objs.size (.frz { cls := .type "tuple", data := .seq its.toArray } (.tup ys))) { s with heap := h'.push { cls := .type "tuple", data := .seq its.toArray } } :=
    I1.laid (t' := s.toks) (fun b o e => Heap.get?_push_of_some _ e) (Nat.le_refl _) (show ObjOk X.prog X.w _ _ _ (.frz _ (.tup ys)) from ⟨Heap.get?_push_size _ rfl, hz, its, r', IsTup.new _ _⟩)
  exact ⟨.ref h'.objs.size, _, I2, rfl, q _ _ (I1.hok.fresh (Nat.le_refl _)) rfl rfl⟩
end
section
variable {X : Cx} {o e : Expr} {es : List Expr} {apos cpos : Pos} {to : TE} {t : TA}
/-- t.index(x) -/
def tIxP (to : TE) (t : TA) : TE := fun σ H Q => to σ H fun x H1 => ∃ (a : Addr) (ns : List Str), x = .ref a ∧ PinT H1 a (ns.map V.str) ∧ t σ H1 fun xs H2 => ∃ k : Str, xs = [.str k] ∧ PinT H2 a (ns.map V.str) ∧ k ∈ ns ∧ Q (.int (ns.idxOf k : Nat)) H2
theorem pe_ixP (ho : PE X o to) (ha : PA X (e :: es) t)
    (hb : attributeBase o "index" X.env (eval o X.env) = eval o X.env := by rfl)
    (hf : ((backTo cpos (starEach (e :: es) X.env)).all (fun x => !x.1) && (backToKw cpos (keywordEach [] X.env)).all (fun x => x.1.isSome)
      && decide ((e :: es).length + ([] : List Keyword).length + (if ([] : List Keyword).isEmpty then 0 else 1) < 30)) = true := by rfl)
    (hl : (apos.endLine == cpos.line) = true := by rfl) (hst : starEach (e :: es) X.env = (false, eval e X.env) :: starEach es X.env := by rfl) (hp : (backTo cpos (starEach es X.env)).any (·.1) = false := by rfl) :
    PE X (.Call (.Attribute o "index" apos) (e :: es) [] cpos) (tIxP to t) := by
  refine ⟨fun pins s σ H Q I h => ?_⟩
  refine wpAny_Call_method_late hb hf hl rfl (thn (ho.run pins s σ H _ I h) fun v s1 hh => ?_)
  obtain ⟨x, H1, I1, r1, a, ns, rfl, hp1, q1⟩ := hh
  cases r1
  obtain ⟨od, e1, e2, e3⟩ := id hp1
  have ok1 : ObjOk X.prog X.w H1 s1.heap a (.frz od (.tup (ns.map V.str))) := I1.hok a _ e1
  obtain ⟨its, r, pl, hz⟩ := I1.tuple (hp1.sq (K := X.K))
  refine ⟨"tuple", "tuple.index", PySem.F.plainAttrs_tuple, PySem.F.slot_tuple_index, PySem.F.type_tuple_index, ⟨od, ok1.1, e2⟩, fun b e => by cases e; exact ⟨od, ok1.1, e3⟩, ?_⟩
  have hA := ha.run cpos pins s1 σ H1 _ I1 q1
  rw [hst] at hA ⊢
  refine Calls.callWith_builtin (by show (false || (backTo cpos (starEach es X.env)).any (·.1)) = false; rw [hp] <;> rfl) (Calls.evalArgs_plain ?_)
  refine thn hA fun us s2 hh => ?_
  obtain ⟨vs, H2, I2, r2, k, rfl, hp2, hk, q⟩ := hh
  obtain ⟨u, rfl, ru⟩ := r2.one
  obtain ⟨tk, rfl⟩ := ru
  obtain ⟨its2, rv2, it2, _⟩ := I2.tuple (hp2.sq (K := X.K))
  exact PySem.SeqAt.tuple_index_strs (vs := its2) it2 (Vals.strs rv2) hk ⟨.int _, H2, I2.tok _, ⟨_, rfl⟩, q⟩
end
end PIN
set_option Elab.async false
set_option linter.all false
set_option maxRecDepth 100000
set_option maxHeartbeats 4000000
namespace K43
open PySem PySem.Spec PyProof.Rows L2
def top (i : Nat) : Stmt := PySem.Challenge.pw_rideturns_k43_whole_no_row_leads_farther.main.body.getD i (.Pass ⟨0, 0, 0, 0⟩)
abbrev s__wall : Stmt := top 0
abbrev N__wall : List Str := ["k"]
theorem sc__wall : FnScope N__wall ["k"] (defScope s__wall) := ⟨rfl, rfl, rfl, by decide +kernel, rfl, by decide +kernel, by decide +kernel⟩
def d__wall : He.DefD := ⟨("_wall", none), "_wall", "_wall", defArgs s__wall, defBody s__wall, defScope s__wall, [], []⟩
abbrev s_NoKind_init : Stmt := inClass (top 2) 0
abbrev N_NoKind_init : List Str := ["self", "thing"]
theorem sc_NoKind_init : FnScope N_NoKind_init ["self", "thing"] (defScope s_NoKind_init) := ⟨rfl, rfl, rfl, by decide +kernel, rfl, by decide +kernel, by decide +kernel⟩
def d_NoKind_init : He.DefD := ⟨("NoKind", some "__init__"), "__init__", "NoKind.__init__", defArgs s_NoKind_init, defBody s_NoKind_init, defScope s_NoKind_init, [], []⟩
abbrev s_Nought_init : Stmt := inClass (top 3) 0
abbrev N_Nought_init : List Str := ["self", "top"]
theorem sc_Nought_init : FnScope N_Nought_init ["self", "top"] (defScope s_Nought_init) := ⟨rfl, rfl, rfl, by decide +kernel, rfl, by decide +kernel, by decide +kernel⟩
def d_Nought_init : He.DefD := ⟨("Nought", some "__init__"), "__init__", "Nought.__init__", defArgs s_Nought_init, defBody s_Nought_init, defScope s_Nought_init, [], []⟩
abbrev s_NoName_init : Stmt := inClass (top 4) 0
abbrev N_NoName_init : List Str := ["self", "name"]
theorem sc_NoName_init : FnScope N_NoName_init ["self", "name"] (defScope s_NoName_init) := ⟨rfl, rfl, rfl, by decide +kernel, rfl, by decide +kernel, by decide +kernel⟩
def d_NoName_init : He.DefD := ⟨("NoName", some "__init__"), "__init__", "NoName.__init__", defArgs s_NoName_init, defBody s_NoName_init, defScope s_NoName_init, [], []⟩
abbrev s_NoRule_init : Stmt := inClass (top 5) 0
abbrev N_NoRule_init : List Str := ["self", "thing"]
theorem sc_NoRule_init : FnScope N_NoRule_init ["self", "thing"] (defScope s_NoRule_init) := ⟨rfl, rfl, rfl, by decide +kernel, rfl, by decide +kernel, by decide +kernel⟩
def d_NoRule_init : He.DefD := ⟨("NoRule", some "__init__"), "__init__", "NoRule.__init__", defArgs s_NoRule_init, defBody s_NoRule_init, defScope s_NoRule_init, [], []⟩
abbrev s_is_whole : Stmt := top 8
abbrev N_is_whole : List Str := ["thing"]
theorem sc_is_whole : FnScope N_is_whole ["thing"] (defScope s_is_whole) := ⟨rfl, rfl, rfl, by decide +kernel, rfl, by decide +kernel, by decide +kernel⟩
def d_is_whole : He.DefD := ⟨("is_whole", none), "is_whole", "is_whole", defArgs s_is_whole, defBody s_is_whole, defScope s_is_whole, [], []⟩
abbrev s_is_between : Stmt := top 9
abbrev N_is_between : List Str := ["thing", "low", "high"]
theorem sc_is_between : FnScope N_is_between ["thing", "low", "high"] (defScope s_is_between) := ⟨rfl, rfl, rfl, by decide +kernel, rfl, by decide +kernel, by decide +kernel⟩
def d_is_between : He.DefD := ⟨("is_between", none), "is_between", "is_between", defArgs s_is_between, defBody s_is_between, defScope s_is_between, [], []⟩
abbrev s_is_name : Stmt := top 10
abbrev N_is_name : List Str := ["thing", "sign"]
theorem sc_is_name : FnScope N_is_name ["thing"] (defScope s_is_name) := ⟨rfl, rfl, rfl, by decide +kernel, rfl, by decide +kernel, by decide +kernel⟩
def d_is_name : He.DefD := ⟨("is_name", none), "is_name", "is_name", defArgs s_is_name, defBody s_is_name, defScope s_is_name, [], []⟩
abbrev s_is_order : Stmt := top 14
abbrev N_is_order : List Str := ["thing", "name"]
theorem sc_is_order : FnScope N_is_order ["thing"] (defScope s_is_order) := ⟨rfl, rfl, rfl, by decide +kernel, rfl, by decide +kernel, by decide +kernel⟩
def d_is_order : He.DefD := ⟨("is_order", none), "is_order", "is_order", defArgs s_is_order, defBody s_is_order, defScope s_is_order, [], []⟩
abbrev s_is_rule : Stmt := top 15
abbrev N_is_rule : List Str := ["thing"]
theorem sc_is_rule : FnScope N_is_rule ["thing"] (defScope s_is_rule) := ⟨rfl, rfl, rfl, by decide +kernel, rfl, by decide +kernel, by decide +kernel⟩
def d_is_rule : He.DefD := ⟨("is_rule", none), "is_rule", "is_rule", defArgs s_is_rule, defBody s_is_rule, defScope s_is_rule, [], []⟩
abbrev s_is_small_rule : Stmt := top 16
abbrev N_is_small_rule : List Str := ["thing"]
theorem sc_is_small_rule : FnScope N_is_small_rule ["thing"] (defScope s_is_small_rule) := ⟨rfl, rfl, rfl, by decide +kernel, rfl, by decide +kernel, by decide +kernel⟩
def d_is_small_rule : He.DefD := ⟨("is_small_rule", none), "is_small_rule", "is_small_rule", defArgs s_is_small_rule, defBody s_is_small_rule, defScope s_is_small_rule, [], []⟩
abbrev s_sets_of : Stmt := top 17
abbrev N_sets_of : List Str := ["order", "sets", "name", "names"]
theorem sc_sets_of : FnScope N_sets_of ["order"] (defScope s_sets_of) := ⟨rfl, rfl, rfl, by decide +kernel, rfl, by decide +kernel, by decide +kernel⟩
def d_sets_of : He.DefD := ⟨("sets_of", none), "sets_of", "sets_of", defArgs s_sets_of, defBody s_sets_of, defScope s_sets_of, [], []⟩
abbrev s_row_of : Stmt := top 18
abbrev N_row_of : List Str := ["sets", "names"]
theorem sc_row_of : FnScope N_row_of ["sets"] (defScope s_row_of) := ⟨rfl, rfl, rfl, by decide +kernel, rfl, by decide +kernel, by decide +kernel⟩
def d_row_of : He.DefD := ⟨("row_of", none), "row_of", "row_of", defArgs s_row_of, defBody s_row_of, defScope s_row_of, [], []⟩
abbrev s_common_part : Stmt := top 20
abbrev N_common_part : List Str := ["one", "other"]
theorem sc_common_part : FnScope N_common_part ["one", "other"] (defScope s_common_part) := ⟨rfl, rfl, rfl, by decide +kernel, rfl, by decide +kernel, by decide +kernel⟩
def d_common_part : He.DefD := ⟨("common_part", none), "common_part", "common_part", defArgs s_common_part, defBody s_common_part, defScope s_common_part, [], []⟩
abbrev s_Share_init : Stmt := inClass (top 21) 0
abbrev N_Share_init : List Str := ["self", "top", "bottom", "thing", "common"]
theorem sc_Share_init : FnScope N_Share_init ["self", "top", "bottom"] (defScope s_Share_init) := ⟨rfl, rfl, rfl, by decide +kernel, rfl, by decide +kernel, by decide +kernel⟩
def d_Share_init : He.DefD := ⟨("Share", some "__init__"), "__init__", "Share.__init__", defArgs s_Share_init, defBody s_Share_init, defScope s_Share_init, [.int 1], []⟩
abbrev s_Share_eq : Stmt := inClass (top 21) 1
abbrev N_Share_eq : List Str := ["self", "other"]
theorem sc_Share_eq : FnScope N_Share_eq ["self", "other"] (defScope s_Share_eq) := ⟨rfl, rfl, rfl, by decide +kernel, rfl, by decide +kernel, by decide +kernel⟩
def d_Share_eq : He.DefD := ⟨("Share", some "__eq__"), "__eq__", "Share.__eq__", defArgs s_Share_eq, defBody s_Share_eq, defScope s_Share_eq, [], []⟩
abbrev s_Share_str : Stmt := inClass (top 21) 2
abbrev N_Share_str : List Str := ["self"]
theorem sc_Share_str : FnScope N_Share_str ["self"] (defScope s_Share_str) := ⟨rfl, rfl, rfl, by decide +kernel, rfl, by decide +kernel, by decide +kernel⟩
def d_Share_str : He.DefD := ⟨("Share", some "__str__"), "__str__", "Share.__str__", defArgs s_Share_str, defBody s_Share_str, defScope s_Share_str, [], []⟩
abbrev s_Share_repr : Stmt := inClass (top 21) 3
abbrev N_Share_repr : List Str := ["self"]
theorem sc_Share_repr : FnScope N_Share_repr ["self"] (defScope s_Share_repr) := ⟨rfl, rfl, rfl, by decide +kernel, rfl, by decide +kernel, by decide +kernel⟩
def d_Share_repr : He.DefD := ⟨("Share", some "__repr__"), "__repr__", "Share.__repr__", defArgs s_Share_repr, defBody s_Share_repr, defScope s_Share_repr, [], []⟩
abbrev s_Share_plus : Stmt := inClass (top 21) 4
abbrev N_Share_plus : List Str := ["self", "other"]
theorem sc_Share_plus : FnScope N_Share_plus ["self", "other"] (defScope s_Share_plus) := ⟨rfl, rfl, rfl, by decide +kernel, rfl, by decide +kernel, by decide +kernel⟩
def d_Share_plus : He.DefD := ⟨("Share", some "plus"), "plus", "Share.plus", defArgs s_Share_plus, defBody s_Share_plus, defScope s_Share_plus, [], []⟩
abbrev s_Share_less : Stmt := inClass (top 21) 5
abbrev N_Share_less : List Str := ["self", "other"]
theorem sc_Share_less : FnScope N_Share_less ["self", "other"] (defScope s_Share_less) := ⟨rfl, rfl, rfl, by decide +kernel, rfl, by decide +kernel, by decide +kernel⟩
def d_Share_less : He.DefD := ⟨("Share", some "less"), "less", "Share.less", defArgs s_Share_less, defBody s_Share_less, defScope s_Share_less, [], []⟩
abbrev s_Share_times : Stmt := inClass (top 21) 6
abbrev N_Share_times : List Str := ["self", "many"]
theorem sc_Share_times : FnScope N_Share_times ["self", "many"] (defScope s_Share_times) := ⟨rfl, rfl, rfl, by decide +kernel, rfl, by decide +kernel, by decide +kernel⟩
def d_Share_times : He.DefD := ⟨("Share", some "times"), "times", "Share.times", defArgs s_Share_times, defBody s_Share_times, defScope s_Share_times, [], []⟩
abbrev s_Share_over : Stmt := inClass (top 21) 7
abbrev N_Share_over : List Str := ["self", "many"]
theorem sc_Share_over : FnScope N_Share_over ["self", "many"] (defScope s_Share_over) := ⟨rfl, rfl, rfl, by decide +kernel, rfl, by decide +kernel, by decide +kernel⟩
def d_Share_over : He.DefD := ⟨("Share", some "over"), "over", "Share.over", defArgs s_Share_over, defBody s_Share_over, defScope s_Share_over, [], []⟩
abbrev s_Share_below : Stmt := inClass (top 21) 8
abbrev N_Share_below : List Str := ["self", "other"]
theorem sc_Share_below : FnScope N_Share_below ["self", "other"] (defScope s_Share_below) := ⟨rfl, rfl, rfl, by decide +kernel, rfl, by decide +kernel, by decide +kernel⟩
def d_Share_below : He.DefD := ⟨("Share", some "below"), "below", "Share.below", defArgs s_Share_below, defBody s_Share_below, defScope s_Share_below, [], []⟩
abbrev s_Share_whole : Stmt := inClass (top 21) 9
abbrev N_Share_whole : List Str := ["self"]
theorem sc_Share_whole : FnScope N_Share_whole ["self"] (defScope s_Share_whole) := ⟨rfl, rfl, rfl, by decide +kernel, rfl, by decide +kernel, by decide +kernel⟩
def d_Share_whole : He.DefD := ⟨("Share", some "whole"), "whole", "Share.whole", defArgs s_Share_whole, defBody s_Share_whole, defScope s_Share_whole, [], []⟩
abbrev s_names_of : Stmt := top 24
abbrev N_names_of : List Str := ["order", "riders", "name"]
theorem sc_names_of : FnScope N_names_of ["order", "riders"] (defScope s_names_of) := ⟨rfl, rfl, rfl, by decide +kernel, rfl, by decide +kernel, by decide +kernel⟩
def d_names_of : He.DefD := ⟨("names_of", none), "names_of", "names_of", defArgs s_names_of, defBody s_names_of, defScope s_names_of, [], []⟩
abbrev s_first_memory : Stmt := top 25
abbrev N_first_memory : List Str := ["rule", "name"]
theorem sc_first_memory : FnScope N_first_memory ["rule"] (defScope s_first_memory) := ⟨rfl, rfl, rfl, by decide +kernel, rfl, by decide +kernel, by decide +kernel⟩
def d_first_memory : He.DefD := ⟨("first_memory", none), "first_memory", "first_memory", defArgs s_first_memory, defBody s_first_memory, defScope s_first_memory, [], []⟩
abbrev s_least_driver : Stmt := top 26
abbrev N_least_driver : List Str := ["rule", "held", "names", "grain", "name", "parts", "counts"]
theorem sc_least_driver : FnScope N_least_driver ["rule", "held", "names"] (defScope s_least_driver) := ⟨rfl, rfl, rfl, by decide +kernel, rfl, by decide +kernel, by decide +kernel⟩
def d_least_driver : He.DefD := ⟨("least_driver", none), "least_driver", "least_driver", defArgs s_least_driver, defBody s_least_driver, defScope s_least_driver, [], []⟩
abbrev s_driver_by : Stmt := top 27
abbrev N_driver_by : List Str := ["rule", "memory", "riders", "names", "gone", "same", "many"]
theorem sc_driver_by : FnScope N_driver_by ["rule", "memory", "riders"] (defScope s_driver_by) := ⟨rfl, rfl, rfl, by decide +kernel, rfl, by decide +kernel, by decide +kernel⟩
def d_driver_by : He.DefD := ⟨("driver_by", none), "driver_by", "driver_by", defArgs s_driver_by, defBody s_driver_by, defScope s_driver_by, [], []⟩
abbrev s_parts_behind : Stmt := top 28
abbrev N_parts_behind : List Str := ["order", "held", "riders", "driver", "behind", "name", "parts", "fare", "wage"]
theorem sc_parts_behind : FnScope N_parts_behind ["order", "held", "riders", "driver"] (defScope s_parts_behind) := ⟨rfl, rfl, rfl, by decide +kernel, rfl, by decide +kernel, by decide +kernel⟩
def d_parts_behind : He.DefD := ⟨("parts_behind", none), "parts_behind", "parts_behind", defArgs s_parts_behind, defBody s_parts_behind, defScope s_parts_behind, [], []⟩
abbrev s_line_behind : Stmt := top 29
abbrev N_line_behind : List Str := ["line", "riders", "driver", "name"]
theorem sc_line_behind : FnScope N_line_behind ["line", "riders", "driver"] (defScope s_line_behind) := ⟨rfl, rfl, rfl, by decide +kernel, rfl, by decide +kernel, by decide +kernel⟩
def d_line_behind : He.DefD := ⟨("line_behind", none), "line_behind", "line_behind", defArgs s_line_behind, defBody s_line_behind, defScope s_line_behind, [], []⟩
abbrev s_rounds_behind : Stmt := top 30
abbrev N_rounds_behind : List Str := ["order", "rounds", "riders", "names", "gone", "same", "many"]
theorem sc_rounds_behind : FnScope N_rounds_behind ["order", "rounds", "riders"] (defScope s_rounds_behind) := ⟨rfl, rfl, rfl, by decide +kernel, rfl, by decide +kernel, by decide +kernel⟩
def d_rounds_behind : He.DefD := ⟨("rounds_behind", none), "rounds_behind", "rounds_behind", defArgs s_rounds_behind, defBody s_rounds_behind, defScope s_rounds_behind, [], []⟩
abbrev s_memory_behind : Stmt := top 31
abbrev N_memory_behind : List Str := ["rule", "memory", "riders", "driver"]
theorem sc_memory_behind : FnScope N_memory_behind ["rule", "memory", "riders"] (defScope s_memory_behind) := ⟨rfl, rfl, rfl, by decide +kernel, rfl, by decide +kernel, by decide +kernel⟩
def d_memory_behind : He.DefD := ⟨("memory_behind", none), "memory_behind", "memory_behind", defArgs s_memory_behind, defBody s_memory_behind, defScope s_memory_behind, [], []⟩
abbrev s_Turns_init : Stmt := inClass (top 32) 0
abbrev N_Turns_init : List Str := ["self", "rule", "name"]
theorem sc_Turns_init : FnScope N_Turns_init ["self", "rule"] (defScope s_Turns_init) := ⟨rfl, rfl, rfl, by decide +kernel, rfl, by decide +kernel, by decide +kernel⟩
def d_Turns_init : He.DefD := ⟨("Turns", some "__init__"), "__init__", "Turns.__init__", defArgs s_Turns_init, defBody s_Turns_init, defScope s_Turns_init, [], []⟩
abbrev s_Turns_eq : Stmt := inClass (top 32) 1
abbrev N_Turns_eq : List Str := ["self", "other"]
theorem sc_Turns_eq : FnScope N_Turns_eq ["self", "other"] (defScope s_Turns_eq) := ⟨rfl, rfl, rfl, by decide +kernel, rfl, by decide +kernel, by decide +kernel⟩
def d_Turns_eq : He.DefD := ⟨("Turns", some "__eq__"), "__eq__", "Turns.__eq__", defArgs s_Turns_eq, defBody s_Turns_eq, defScope s_Turns_eq, [], []⟩
abbrev s_Turns_len : Stmt := inClass (top 32) 2
abbrev N_Turns_len : List Str := ["self"]
theorem sc_Turns_len : FnScope N_Turns_len ["self"] (defScope s_Turns_len) := ⟨rfl, rfl, rfl, by decide +kernel, rfl, by decide +kernel, by decide +kernel⟩
def d_Turns_len : He.DefD := ⟨("Turns", some "__len__"), "__len__", "Turns.__len__", defArgs s_Turns_len, defBody s_Turns_len, defScope s_Turns_len, [], []⟩
abbrev s_Turns_check_riders : Stmt := inClass (top 32) 3
abbrev N_Turns_check_riders : List Str := ["self", "riders", "at", "name"]
theorem sc_Turns_check_riders : FnScope N_Turns_check_riders ["self", "riders"] (defScope s_Turns_check_riders) := ⟨rfl, rfl, rfl, by decide +kernel, rfl, by decide +kernel, by decide +kernel⟩
def d_Turns_check_riders : He.DefD := ⟨("Turns", some "check_riders"), "check_riders", "Turns.check_riders", defArgs s_Turns_check_riders, defBody s_Turns_check_riders, defScope s_Turns_check_riders, [], []⟩
abbrev s_Turns_who : Stmt := inClass (top 32) 4
abbrev N_Turns_who : List Str := ["self", "riders"]
theorem sc_Turns_who : FnScope N_Turns_who ["self", "riders"] (defScope s_Turns_who) := ⟨rfl, rfl, rfl, by decide +kernel, rfl, by decide +kernel, by decide +kernel⟩
def d_Turns_who : He.DefD := ⟨("Turns", some "who"), "who", "Turns.who", defArgs s_Turns_who, defBody s_Turns_who, defScope s_Turns_who, [], []⟩
abbrev s_Turns_ride : Stmt := inClass (top 32) 5
abbrev N_Turns_ride : List Str := ["self", "riders", "driver"]
theorem sc_Turns_ride : FnScope N_Turns_ride ["self", "riders"] (defScope s_Turns_ride) := ⟨rfl, rfl, rfl, by decide +kernel, rfl, by decide +kernel, by decide +kernel⟩
def d_Turns_ride : He.DefD := ⟨("Turns", some "ride"), "ride", "Turns.ride", defArgs s_Turns_ride, defBody s_Turns_ride, defScope s_Turns_ride, [], []⟩
abbrev s_Turns_stands : Stmt := inClass (top 32) 6
abbrev N_Turns_stands : List Str := ["self", "name", "parts"]
theorem sc_Turns_stands : FnScope N_Turns_stands ["self"] (defScope s_Turns_stands) := ⟨rfl, rfl, rfl, by decide +kernel, rfl, by decide +kernel, by decide +kernel⟩
def d_Turns_stands : He.DefD := ⟨("Turns", some "stands"), "stands", "Turns.stands", defArgs s_Turns_stands, defBody s_Turns_stands, defScope s_Turns_stands, [], []⟩
abbrev s_Turns_drives : Stmt := inClass (top 32) 7
abbrev N_Turns_drives : List Str := ["self", "name"]
theorem sc_Turns_drives : FnScope N_Turns_drives ["self"] (defScope s_Turns_drives) := ⟨rfl, rfl, rfl, by decide +kernel, rfl, by decide +kernel, by decide +kernel⟩
def d_Turns_drives : He.DefD := ⟨("Turns", some "drives"), "drives", "Turns.drives", defArgs s_Turns_drives, defBody s_Turns_drives, defScope s_Turns_drives, [], []⟩
abbrev s_Turns_memory : Stmt := inClass (top 32) 8
abbrev N_Turns_memory : List Str := ["self", "parts"]
theorem sc_Turns_memory : FnScope N_Turns_memory ["self"] (defScope s_Turns_memory) := ⟨rfl, rfl, rfl, by decide +kernel, rfl, by decide +kernel, by decide +kernel⟩
def d_Turns_memory : He.DefD := ⟨("Turns", some "memory"), "memory", "Turns.memory", defArgs s_Turns_memory, defBody s_Turns_memory, defScope s_Turns_memory, [], []⟩
abbrev s_check_least : Stmt := top 35
abbrev N_check_least : List Str := ["rule"]
theorem sc_check_least : FnScope N_check_least ["rule"] (defScope s_check_least) := ⟨rfl, rfl, rfl, by decide +kernel, rfl, by decide +kernel, by decide +kernel⟩
def d_check_least : He.DefD := ⟨("check_least", none), "check_least", "check_least", defArgs s_check_least, defBody s_check_least, defScope s_check_least, [], []⟩
abbrev s_rows_to : Stmt := top 36
abbrev N_rows_to : List Str := ["rule", "start", "rows", "waiting", "at", "held", "names", "behind"]
theorem sc_rows_to : FnScope N_rows_to ["rule"] (defScope s_rows_to) := ⟨rfl, rfl, rfl, by decide +kernel, rfl, by decide +kernel, by decide +kernel⟩
def d_rows_to : He.DefD := ⟨("rows_to", none), "rows_to", "rows_to", defArgs s_rows_to, defBody s_rows_to, defScope s_rows_to, [], []⟩
abbrev s_reached : Stmt := top 37
abbrev N_reached : List Str := ["rule", "held", "parts"]
theorem sc_reached : FnScope N_reached ["rule"] (defScope s_reached) := ⟨rfl, rfl, rfl, by decide +kernel, rfl, by decide +kernel, by decide +kernel⟩
def d_reached : He.DefD := ⟨("reached", none), "reached", "reached", defArgs s_reached, defBody s_reached, defScope s_reached, [], []⟩
abbrev s_farthest : Stmt := top 38
abbrev N_farthest : List Str := ["rule", "name", "owed", "place", "rows", "parts", "best", "shortest", "held"]
theorem sc_farthest : FnScope N_farthest ["rule", "name", "owed"] (defScope s_farthest) := ⟨rfl, rfl, rfl, by decide +kernel, rfl, by decide +kernel, by decide +kernel⟩
def d_farthest : He.DefD := ⟨("farthest", none), "farthest", "farthest", defArgs s_farthest, defBody s_farthest, defScope s_farthest, [.bl true], []⟩
abbrev s_l_held : Stmt := top 40
abbrev N_l_held : List Str := ["_law_script"]
theorem sc_l_held : FnScope N_l_held ["_law_script"] (defScope s_l_held) := ⟨rfl, rfl, rfl, by decide +kernel, rfl, by decide +kernel, by decide +kernel⟩
def d_l_held : He.DefD := ⟨("_law_held", none), "_law_held", "_law_held", defArgs s_l_held, defBody s_l_held, defScope s_l_held, [], []⟩
abbrev s_l_draw : Stmt := top 41
abbrev N_l_draw : List Str := ["_law_held_here", "_law_many", "_law_found", "_law_at", "_law_cell", "_law_number"]
theorem sc_l_draw : FnScope N_l_draw ["_law_held_here", "_law_many"] (defScope s_l_draw) := ⟨rfl, rfl, rfl, by decide +kernel, rfl, by decide +kernel, by decide +kernel⟩
def d_l_draw : He.DefD := ⟨("_law_draw", none), "_law_draw", "_law_draw", defArgs s_l_draw, defBody s_l_draw, defScope s_l_draw, [], []⟩
abbrev s_l_names : Stmt := top 42
abbrev N_l_names : List Str := ["_law_held_here", "_law_many", "_law_letters", "_law_size", "_law_k", "_law_base", "_law_at", "_law_begin", "_law_step", "_law_lot", "_law_found", "_law_tail"]
theorem sc_l_names : FnScope N_l_names ["_law_held_here", "_law_many"] (defScope s_l_names) := ⟨rfl, rfl, rfl, by decide +kernel, rfl, by decide +kernel, by decide +kernel⟩
def d_l_names : He.DefD := ⟨("_law_names", none), "_law_names", "_law_names", defArgs s_l_names, defBody s_l_names, defScope s_l_names, [], []⟩
abbrev s_l_pair : Stmt := top 43
abbrev N_l_pair : List Str := ["_law_share", "_law_part"]
theorem sc_l_pair : FnScope N_l_pair ["_law_share"] (defScope s_l_pair) := ⟨rfl, rfl, rfl, by decide +kernel, rfl, by decide +kernel, by decide +kernel⟩
def d_l_pair : He.DefD := ⟨("_law_pair", none), "_law_pair", "_law_pair", defArgs s_l_pair, defBody s_l_pair, defScope s_l_pair, [], []⟩
abbrev s_l_day : Stmt := top 44
abbrev N_l_day : List Str := ["_law_held_here", "_law_order", "_law_many", "_law_left", "_law_found", "_law_turn"]
theorem sc_l_day : FnScope N_l_day ["_law_held_here", "_law_order"] (defScope s_l_day) := ⟨rfl, rfl, rfl, by decide +kernel, rfl, by decide +kernel, by decide +kernel⟩
def d_l_day : He.DefD := ⟨("_law_day", none), "_law_day", "_law_day", defArgs s_l_day, defBody s_l_day, defScope s_l_day, [], []⟩
abbrev s_l_in_bound : Stmt := top 45
abbrev N_l_in_bound : List Str := ["_law_pair_here", "_law_bound", "_law_owed", "_law_owes"]
theorem sc_l_in_bound : FnScope N_l_in_bound ["_law_pair_here", "_law_bound"] (defScope s_l_in_bound) := ⟨rfl, rfl, rfl, by decide +kernel, rfl, by decide +kernel, by decide +kernel⟩
def d_l_in_bound : He.DefD := ⟨("_law_in_bound", none), "_law_in_bound", "_law_in_bound", defArgs s_l_in_bound, defBody s_l_in_bound, defScope s_l_in_bound, [], []⟩
abbrev s_l_least : Stmt := top 46
abbrev N_l_least : List Str := ["_law_held_here", "_law_most", "_law_order", "_law_grain"]
theorem sc_l_least : FnScope N_l_least ["_law_held_here", "_law_most"] (defScope s_l_least) := ⟨rfl, rfl, rfl, by decide +kernel, rfl, by decide +kernel, by decide +kernel⟩
def d_l_least : He.DefD := ⟨("_law_least", none), "_law_least", "_law_least", defArgs s_l_least, defBody s_l_least, defScope s_l_least, [], []⟩
abbrev s_law : Stmt := top 47
abbrev N_law : List Str := ["_law_script", "_law_held_here", "_law_rule", "_law_order", "_law_table", "_law_ends", "_law_name", "_law_up", "_law_down", "_law_days", "_law_turns", "_law_riders", "_law_stands", "_law_some", "_law_turn", "_law_k", "_law_top", "_law_bottom"]
theorem sc_law : FnScope N_law ["_law_script"] (defScope s_law) := ⟨rfl, rfl, rfl, by decide +kernel, rfl, by decide +kernel, by decide +kernel⟩
def d_law : He.DefD := ⟨("law", none), "law", "law", defArgs s_law, defBody s_law, defScope s_law, [], []⟩
def fn : List He.DefD := [d__wall, d_NoKind_init, d_Nought_init, d_NoName_init, d_NoRule_init, d_is_whole, d_is_between, d_is_name, d_is_order, d_is_rule, d_is_small_rule, d_sets_of, d_row_of, d_common_part, d_Share_init, d_Share_eq, d_Share_str, d_Share_repr, d_Share_plus, d_Share_less, d_Share_times, d_Share_over, d_Share_below, d_Share_whole, d_names_of, d_first_memory, d_least_driver, d_driver_by, d_parts_behind, d_line_behind, d_rounds_behind, d_memory_behind, d_Turns_init, d_Turns_eq, d_Turns_len, d_Turns_check_riders, d_Turns_who, d_Turns_ride, d_Turns_stands, d_Turns_drives, d_Turns_memory, d_check_least, d_rows_to, d_reached, d_farthest, d_l_held, d_l_draw, d_l_names, d_l_pair, d_l_day, d_l_in_bound, d_l_least, d_law]
end K43
set_option Elab.async false
set_option linter.all false
set_option maxRecDepth 100000
set_option maxHeartbeats 4000000
/-! GX: own exceptions over any built-in base, whose own __init__ calls the base's and stores a field. -/
namespace GX
open PySem PySem.Spec PyProof.Rows L2

/-- what the written part tells of the class -/
structure Gx (K : PySem.W.Frag) (C : Addr) (bmB : List Value) (nid : String) : Prop where
  over : PySem.W.excOver K C bmB = true
  made : PySem.W.excInitIn K C bmB nid = true
  hasd : ∃ cd, PySem.W.clsIn K C = some cd ∧ cd.hasDict = true
  sets : PySem.W.findIn K (.ref C) "__setattr__" = some (some (.builtin "object.__setattr__"))
  base : PySem.W.subIn K (.ref C) (.type "BaseException") = some true
  typ : PySem.W.typeIn K (.ref C) = some (.type "type")
  keep : PySem.W.keepIn K (.ref C) = true

section
open Builtin Builtin.ObjectAttr
variable {prog : Program} {w : World} {A : Around} {R : Result → Shared → Prop} {hp : Heap} {g : Array GenState} {d : Drawn} {t : Nat} {os : OsState} {B : String} {bmB : List Value}
theorem first_store {K : PySem.W.Frag} {name : Str} {tk : Tok} {v : Value} {x C : Addr} {fv : Array Value} {cd : ClassData} (SF : StoreFacts B bmB "object.__setattr__" "object")
    (X : K.In hp) (hx : hp.get? x = some { cls := .ref C, data := .fields fv }) (ho : PySem.W.excOver K C bmB = true) (hc : PySem.W.clsIn K C = some cd) (hd : cd.hasDict = true)
    (hf : PySem.W.findIn K (.ref C) name = some none)
    (post : ∀ h' tk' dx, (∀ b o, b ≠ x → hp.get? b = some o → h'.get? b = some o) → hp.objs.size ≤ dx → dx ≠ x →
      h'.get? x = some { cls := .ref C, dict := some dx, data := .fields fv } → h'.Ns1 dx (fun y => if y = name then some v else none) → R (.ok (.ret .none)) ⟨h', g, d, tk', os⟩) :
    codeAny (model prog w) A (.call (.builtin "object.__setattr__") ⟨[.ref x, .str name tk, v], []⟩) R ⟨hp, g, d, t, os⟩ := by
  have inst : PySem.W.InstAt hp x { cls := .ref C, data := .fields fv } C none := ⟨hx, rfl, rfl, trivial⟩
  have far : x ≠ hp.objs.size := Nat.ne_of_lt (Heap.lt_size hx)
  have lc : PySem.W.Looks (model prog w) hp (classData C) cd := PySem.W.looks_clsIn X hc
  refine PySem.W.osa_openX (r := none) SF X inst ho (by unfold PySem.W.takerIn; rw [hf]; rfl) fun b => ?_
  dsimp only
  obtain ⟨n1, n2, n3, n4, n5, n6, n7, n8, n9, n10, n11⟩ := cd
  dsimp only at hd
  subst hd
  unfold storeInOwnDict ownDictForStores
  repeat (first | with_reducible refine PySem.HandSPX.store_in_new ?_ ?_ | with_reducible refine wpAny_loadPart_at hx ?_ | with_reducible refine lc.at ?_ | wp_step)
  · exact ⟨_, #[], _, (Heap.get?_update_ne _ _ _ _ far.symm).trans (Heap.get?_push_at rfl rfl), rfl, fun e he => absurd he (by simp), fun _ => rfl⟩
  · intro h' tk' hn hs
    have hx1 : (hp.push { cls := .type "dict", data := .dict #[] }).get? x = some { cls := .ref C, data := .fields fv } := Heap.get?_push_of_some _ hx
    refine post h' tk' hp.objs.size (fun b o hb hob => ?_) (Nat.le_refl _) far.symm ?_ hn
    · have e1 := hs.2 b (Nat.ne_of_lt (Heap.lt_size hob))
      rw [e1, Heap.get?_update_ne _ _ _ _ hb]
      exact Heap.get?_push_of_some _ hob
    · rw [hs.2 x far]
      exact Heap.get?_update_self _ hx1 rfl
end

section
variable {X : Cx} {pins : List (Addr × Obj)} {σ : L2.St} {H : Hp} {s : Shared} {a C dx : Addr} {f : Str} {y : V} {u : Value} {Q : Unit → Shared → Prop} {E : Value → Shared → Prop} {A : Around} {B : String} {bmB : List Value} {nid iid : String}
/-- self.f = y, the first store -/
theorem put_first (SF : StoreFacts B bmB "object.__setattr__" "object") (T : Gx X.K C bmB nid) (I : Inv X pins σ H s) (e : H a = some (exo a C none)) (hno : PySem.W.findIn X.K (.ref C) f = some none) (ry : RelV y u)
    (post : ∀ dx s', H dx = none → dx ≠ a → Inv X pins σ (upd (upd H dx (exd dx [(f, y)])) a (exo a C (some dx))) s' → Q () s') : wpAny (model X.prog X.w) A (setAttr (.ref a) f u) Q E s := by
  obtain ⟨cd, hcd, hdd⟩ := T.hasd
  obtain ⟨t1, at1⟩ := exo_at I.hok e
  obtain ⟨hp, g, d, t, os⟩ := s
  refine PySem.W.set_plain I.kIn (ox := { cls := .ref C, dict := none, data := .fields #[.ref t1, .none, .none, .none, .bool false, .none] }) (od := none) ⟨at1, rfl, rfl, trivial⟩ T.sets ?_
  refine first_store SF I.kIn at1 T.over hcd hdd hno (fun h' tk' dx kp dn dne hx hn => ?_)
  have fresh : H dx = none := I.hok.fresh dn
  have old : ∀ {b : Addr} {o : Obj}, hp.get? b = some o → b ≠ dx := fun {b o} q => Nat.ne_of_lt (Nat.lt_of_lt_of_le (Heap.lt_size q) dn)
  have other : ∀ {b : Addr}, H b = none → b ≠ a := fun {b} n z => by
    rw [z, e] at n
    cases n
  have un : Un X.fs [] H (upd (upd H dx (exd dx [(f, y)])) a (exo a C (some dx))) hp h' := {
    keep := fun b o q n _ _ => kp b o (other n) q
    slot := fun b o q n _ _ => ⟨o.slots, kp b o (other n) q⟩
    free := fun b o q n _ => by rw [upd_ne (other n), upd_ne (old q)]; exact n
    there := fun b o q _ => by
      by_cases hb : b = a
      · exact ⟨_, hb ▸ hx⟩
      · exact ⟨o, kp b o hb q⟩
    tups := fun b xs q => by rw [upd_ne (at_ne e q exo_tup), upd_ne (ne_of_none q fresh)]; exact q
    frzs := fun b o v q => by rw [upd_ne (at_ne e q exo_frz), upd_ne (ne_of_none q fresh)]; exact q
    tbls := fun b ps q => ⟨#[], by rw [upd_ne (at_ne e q exo_tbl), upd_ne (ne_of_none q fresh), q]; simp⟩ }
  refine post dx _ fresh dne (I.un (t' := tk') un fun b o q => ?_)
  by_cases hb : b = a
  · subst hb
    rw [upd_same] at q
    cases q
    exact exo_ok hx
  · rw [upd_ne hb] at q
    by_cases hd : b = dx
    · subst hd
      rw [upd_same] at q
      cases q
      exact exd_ok hn (relO_put (fs := []) ry fun g => True.intro)
    · rw [upd_ne hd] at q
      refine (I.hok b o q).stay (fun c v hc z => kp c v ?_ z) (fun c hc => ?_) (fun c xs hc => ?_)
      · rcases hc with hc | hc
        · exact hc ▸ hb
        · exact at_ne e hc exo_own
      · rw [upd_ne (at_ne e hc exo_own), upd_ne (ne_of_none hc fresh)]; exact hc
      · rw [upd_ne (at_ne e hc exo_tup), upd_ne (ne_of_none hc fresh)]; exact hc
/-- Base.__init__(self, ..) -/
theorem base_init {us : List Value} {Q : Value → Shared → Prop} (FB : ExcBaseFacts B nid iid bmB) (T : Gx X.K C bmB nid) (I : Inv X pins σ H s) (e : H a = some (exo a C none)) (hl : us.length ≤ sizeLine) (post : ∀ s', Inv X pins σ H s' → Q .none s') :
    wpAny (model X.prog X.w) A (call (.builtin iid) (.ref a :: us)) Q E s := by
  obtain ⟨nm, N, qn, bs, bm, hdct, sn, sub, ab, col, dd, k0, k1, k2, k3, k5, hC, hT⟩ := PySem.W.excInit_of I.kIn T.made
  obtain ⟨t1, at1⟩ := exo_at I.hok e
  obtain ⟨hp, g, d, t, os⟩ := s
  refine wpAny_call (PySem.HandSPX.init_base FB hT hC at1 hl fun h' t2 kp hx => ?_)
  have J := I.write (t' := t) (x := a) (e := a) (o := exo a C none) (by rw [e]; exact True.intro) (.inl rfl) kp ⟨_, hx⟩ (exo_ok hx)
  have same : upd H a (exo a C none) = H := funext fun b => by
    by_cases hb : b = a
    · rw [hb, upd_same, e]
    · rw [upd_ne hb]
  rw [same] at J
  exact post _ J
end

/-! ### readings and rules -/
/-- Base.__init__(self, ..) -/
def tBi (K : PySem.W.Frag) (bmB : List Value) (nid : String) (ta : TA) : TE := fun σ H Q => ta σ H fun vs H1 => ∃ (a C : Addr) (ws : List V), vs = .ref a :: ws ∧ ws.length ≤ 1000 ∧ Gx K C bmB nid ∧ H1 a = some (exo a C none) ∧ Q .non H1
/-- self.f = e, the first one -/
def tPf (K : PySem.W.Frag) (bmB : List Value) (nid : String) (f : Str) (to te : TE) : TS := fun D σ H => te σ H fun y H1 => to σ H1 fun x H2 => ∃ a C : Addr, x = .ref a ∧ Gx K C bmB nid ∧ PySem.W.findIn K (.ref C) f = some none ∧
  H2 a = some (exo a C none) ∧ ∀ dx, H2 dx = none → dx ≠ a → D.nx σ (upd (upd H2 dx (exd dx [(f, y)])) a (exo a C (some dx)))
section
variable {X : Cx} {o e : Expr} {es : List Expr} {to te : TE} {ta : TA} {f : Str} {p p' p1 p2 pos : Pos} {B nid iid : String} {bmB : List Value} {x : Str}
theorem pe_bi {pl : Sem Bool} (FB : ExcBaseFacts B nid iid bmB) (hg : Gl X x) (hm : X.mg x = none) (hv : bootBuiltins x = some (.type B)) (ty : typeOf (.type B) = pure (.type "type"))
    (vV : PySem.W.findCls X.K (.type B) (.type "type") "__init__" = some (.val (.builtin iid))) (hb : PySem.W.handedIn (.builtin iid) = true) (hst : Manifest.isStub B = false) (ha : PA X (e :: es) ta)
    (hc : eval (.Call (.Attribute (.Name x p1) "__init__" p2) (e :: es) [] pos) X.env = (do
      let ov ← eval (.Name x p1) X.env
      standAt p2.atName
      let (f, first) ← holding [ov] (getMethod ov "__init__" pl)
      callWith pos f first (backTo pos (starEach (e :: es) X.env)) (backToKw pos (keywordEach [] X.env))) := by rfl)
    (hn : x ≠ "__name__" := by decide) (hd : (x == ("__debug__" : Str)) = false := by decide)
    (he : starEach (e :: es) X.env = (false, eval e X.env) :: starEach es X.env := by rfl) (hpl : (backTo pos (starEach es X.env)).any (·.1) = false := by rfl) :
    PE X (.Call (.Attribute (.Name x p1) "__init__" p2) (e :: es) [] pos) (tBi X.K bmB nid ta) := by
  refine ⟨fun pins s σ H Q I h => ?_⟩
  refine PySem.W.methodCall_KW (ld_blt I hg hm hv ?_ hn hd) hc
  obtain ⟨m, fr⟩ := I.fr
  refine PySem.W.method_type fr I.ok.mod.kin ty hst vV hb ?_
  show wpAny _ _ (callWith pos (Value.builtin iid) [] (backTo pos (starEach (e :: es) X.env)) []) _ _ _
  refine PyProof.Rows.callWith_method1 (thn (ha.run pos pins _ σ H _ (I.tok _) h) fun us s1 hh => ?_) he hpl
  obtain ⟨vs, H1, I1, r1, a, C, ws, ev, hl, T, ea, q⟩ := hh
  subst ev
  cases r1 with
  | @cons _ u0 _ ur ra rw' =>
    obtain rfl : u0 = Value.ref a := ra
    have hlen : ur.length ≤ sizeLine := by
      have := Paired.length rw'
      rw [sizeLine_eq]
      omega
    exact base_init FB T I1 ea hlen fun s' J => ⟨.non, H1, J, rfl, q⟩
theorem ps_pf (SF : StoreFacts B bmB "object.__setattr__" "object") (ho : PE X o to) (he : PE X e te) (hs : swapsWith e (some (.Attribute o f p')) pos.line X.env = pure false := by rfl) : PS X (.Assign [.Attribute o f p'] e pos) (tPf X.K bmB nid f to te) := by
  refine ⟨fun pins s σ H D I h => ?_⟩
  refine plainObj_wpAny_Assign_Attribute (thn (he.run pins s σ H _ I h) fun v s1 h1 => ?_) hs
  obtain ⟨y, H1, I1, r1, q1⟩ := h1
  refine thn (ho.run pins s1 σ H1 _ I1 q1) fun u s2 h2 => ?_
  obtain ⟨z, H2, I2, r2, a, C, ex, T, hno, ea, q⟩ := h2
  subst ex
  obtain rfl : u = Value.ref a := r2
  exact put_first SF T I2 ea hno r1 fun dx s' n ne J => ⟨σ, _, J, q dx n ne⟩
/-- C(e, ..) as what is raised, C's own __init__ keeping sp -/
theorem pmk_gx {CX : CXT} {C fI : Addr} {k : Nat} {fd : FuncData} {ps : List Str} {sp : Sp} {ds : List Value} {dvs : List V} (FB : ExcBaseFacts B nid iid bmB) (T : Gx X.K C bmB nid) (iC : PySem.W.findIn X.K (.ref C) "__init__" = some (some (.ref fI)))
    (tI : PySem.W.typeIn X.K (.ref fI) = some (.type "function"))
    (F1 : FnOk X.prog X.w X.K X.mg X.base CX k fI fd ps sp) (hr : Room (k + 1) X.A) (hb : Binds X.K fd ps ds) (hd : Vals dvs ds) (hx : Passes CX X (fun _ _ _ => False)) (hg : Gl X x) (hm : X.mg x = some (.ref C)) (ha : PA X (e :: es) ta)
    (hdb : (x == ("__debug__" : Str)) = false := by decide) (he : starEach (e :: es) X.env = (false, eval e X.env) :: starEach es X.env := by rfl) (hpl : (backTo pos (starEach es X.env)).any (·.1) = false := by rfl) :
    PMk X (.Call (.Name x p) (e :: es) [] pos) (tMkO C sp dvs ta) := by
  intro pins s σ H Q I h
  refine wpAny_Call_Name_kw (ld_glob I hg hm ?_ hdb)
  refine PySem.W.callWith_K (h₀ := X.base) I.ok.mod.kin T.keep (thn (ha.run pos pins s σ H _ I h) fun us s1 hh => ?_) he hpl
  obtain ⟨vs, H1, I1, r1, hz, q1⟩ := hh
  refine ⟨I1.kIn, ?_⟩
  show wpAny _ _ (call (.ref C) us) _ _ _
  obtain ⟨nm, N, qn, bs, bm, hdct, sn, sub, ab, col, dd, k0, k1, k2, k3, k5, hC, hT⟩ := PySem.W.excInit_of I1.kIn T.made
  obtain ⟨hp, g, dr, tk, os⟩ := s1
  have big : hp.objs.size ≤ hp.objs.size + 1 := Nat.le_succ _
  have hq := q1 (hp.objs.size + 1) (I1.hok.fresh big)
  have kk : ∀ b o, hp.get? b = some o → ((hp.push (PySem.W.kdv_tup us)).push (PySem.HandSPX.excO C hp.objs.size)).get? b = some o := fun b o z =>
    Heap.get?_push_of_some _ (Heap.get?_push_of_some _ z)
  have there : ((hp.push (PySem.W.kdv_tup us)).push (PySem.HandSPX.excO C hp.objs.size)).get? (hp.objs.size + 1) = some (PySem.HandSPX.excO C hp.objs.size) := by heap_get
  have I2 := I1.laid (t' := tk) (a := hp.objs.size + 1) (o := exo (hp.objs.size + 1) C none) (h' := (hp.push (PySem.W.kdv_tup us)).push (PySem.HandSPX.excO C hp.objs.size)) kk big (exo_ok there)
  have r2 : Vals (V.ref (hp.objs.size + 1) :: (vs ++ dvs)) (Value.ref (hp.objs.size + 1) :: (us ++ ds)) := .cons rfl (r1.append hd)
  have hl : (Value.ref (hp.objs.size + 1) :: us ++ ds).length = ps.length := by
    have e1 := r2.length
    rw [F1.len _ _ _ _ hq] at e1
    exact e1.symm
  have few : us.length ≤ sizeLine := by
    have := Paired.length r1
    rw [sizeLine_eq]
    omega
  refine wpAny_call (PySem.HandSPX.call_own FB hT hC (PySem.W.looks_findIn I1.kIn iC) (fun self => PySem.W.bind_fn I1.kIn self tI) few (codeAny_mono
    (F1.run _ X.stack _ _ ⟨Value.ref (hp.objs.size + 1) :: us, []⟩ (Value.ref (hp.objs.size + 1) :: (us ++ ds)) _ _ (fun _ _ _ => False) (hr.make C us []) (I2.env0.make C us []) (hb _ (Value.ref (hp.objs.size + 1) :: us) I2.kIn hl) r2 hq) fun r s' hq' => ?_))
  cases r with
  | error er => exact hx pins σ _ _ er s' I2 hq'
  | ok fl =>
    cases fl with
    | ret u =>
      obtain ⟨v, H2, os2, bare2, un2, hok2, rv, ev, d, fs, ea, ed, hd1, q2⟩ := hq'
      subst ev
      obtain ⟨h2, g2, d2, t2, os'⟩ := s'
      exact ⟨rv, mk_end (raises_own T.base T.typ) I1 big kk un2 hok2 os2 bare2 ea ed hd1 q2⟩
    | next => exact False.elim hq'
    | brk => exact False.elim hq'
    | cont => exact False.elim hq'
end
/-! ### the head's look at such a class -/
def hasDB (K : PySem.W.Frag) (C : Addr) : Bool := match PySem.W.clsIn K C with
  | some cd => cd.hasDict
  | none => false
/-- Base.__init__, read off the class Base -/
def vvB (K : PySem.W.Frag) (B iid : String) : Bool := match PySem.W.findCls K (.type B) (.type "type") "__init__" with
  | some (.val (.builtin n)) => n == iid
  | _ => false
theorem vvB_ok {K : PySem.W.Frag} {B iid : String} (h : vvB K B iid = true) : PySem.W.findCls K (.type B) (.type "type") "__init__" = some (.val (.builtin iid)) := by
  unfold vvB at h
  split at h
  · rename_i n e
    rw [e, eq_of_beq h]
  · cases h
/-- what isinstance asks of an own class -/
def isB (K : PySem.W.Frag) (C : Addr) : Bool := He.eqO (PySem.W.findIn K (.ref C) "__class__") (some (some (.builtin "object.__class__"))) && (He.eqO (PySem.W.specialIn K (.builtin "object.__class__") "__get__") (some (some (.builtin "getset_descriptor.__get__"))) &&
  (decide (PySem.W.takesIn K (.builtin "object.__class__") = some true) && decide (PySem.W.mroIn K C (.type "object") = some true)))
def gxB (K : PySem.W.Frag) (C : Addr) (bmB : List Value) (nid : String) : Bool := PySem.W.excOver K C bmB && (PySem.W.excInitIn K C bmB nid && (hasDB K C &&
  (He.eqO (PySem.W.findIn K (.ref C) "__setattr__") (some (some (.builtin "object.__setattr__"))) && (decide (PySem.W.subIn K (.ref C) (.type "BaseException") = some true) &&
  (decide (PySem.W.typeIn K (.ref C) = some (.type "type")) && PySem.W.keepIn K (.ref C))))))
theorem gxB_ok {K : PySem.W.Frag} {C : Addr} {bmB : List Value} {nid : String} (h : gxB K C bmB nid = true) : Gx K C bmB nid := by
  unfold gxB at h
  simp only [Bool.and_eq_true, decide_eq_true_eq] at h
  obtain ⟨h1, h2, h3, h4, h5, h6, h7⟩ := h
  refine ⟨h1, h2, ?_, He.eqO_ok h4, h5, h6, h7⟩
  unfold hasDB at h3
  split at h3
  · rename_i cd e
    exact ⟨cd, e, h3⟩
  · cases h3
end GX
set_option linter.all false
namespace KM
/-- the signed common part -/
def sg (t b : Int) : Int := if b < 0 then -(Int.gcd t b : Int) else (Int.gcd t b : Int)
/-- a fraction in lowest terms -/
def low (t b : Int) : Int × Int := (t.fdiv (sg t b), b.fdiv (sg t b))
theorem gcd_pos {t b : Int} (h : b ≠ 0) : 0 < Int.gcd t b := Int.gcd_pos_of_ne_zero_right t h
theorem sg_ne {t b : Int} (h : b ≠ 0) : sg t b ≠ 0 := by
  have := gcd_pos (t := t) h
  unfold sg
  split <;> omega
theorem sg_dvd_left (t b : Int) : sg t b ∣ t := by
  unfold sg
  split
  · exact Int.neg_dvd.mpr (Int.gcd_dvd_left ..)
  · exact Int.gcd_dvd_left ..
theorem sg_dvd_right (t b : Int) : sg t b ∣ b := by
  unfold sg
  split
  · exact Int.neg_dvd.mpr (Int.gcd_dvd_right ..)
  · exact Int.gcd_dvd_right ..
theorem low_top {t b : Int} : sg t b * (low t b).1 = t := by
  show sg t b * t.fdiv (sg t b) = t
  rw [Int.fdiv_eq_ediv_of_dvd (sg_dvd_left t b)]
  exact Int.mul_ediv_cancel' (sg_dvd_left t b)
theorem low_bot {t b : Int} : sg t b * (low t b).2 = b := by
  show sg t b * b.fdiv (sg t b) = b
  rw [Int.fdiv_eq_ediv_of_dvd (sg_dvd_right t b)]
  exact Int.mul_ediv_cancel' (sg_dvd_right t b)
theorem sg_abs (t b : Int) : (sg t b).natAbs = Int.gcd t b := by
  unfold sg
  split <;> simp
theorem low_pos {t b : Int} (h : b ≠ 0) : 0 < (low t b).2 := by
  have e := low_bot (t := t) (b := b)
  have g := gcd_pos (t := t) h
  by_cases hb : b < 0
  · have hs : sg t b < 0 := by unfold sg; rw [if_pos hb]; omega
    refine Int.lt_of_not_ge fun hc => ?_
    have := Int.mul_nonneg_of_nonpos_of_nonpos (Int.le_of_lt hs) hc
    omega
  · have hs : 0 < sg t b := by unfold sg; rw [if_neg hb]; omega
    refine Int.lt_of_not_ge fun hc => ?_
    have := Int.mul_nonpos_of_nonneg_of_nonpos (Int.le_of_lt hs) hc
    omega
theorem low_cop {t b : Int} (h : b ≠ 0) : Int.gcd (low t b).1 (low t b).2 = 1 := by
  have e : Int.gcd (sg t b * (low t b).1) (sg t b * (low t b).2) = (sg t b).natAbs * Int.gcd (low t b).1 (low t b).2 := Int.gcd_mul_left ..
  rw [low_top, low_bot, sg_abs] at e
  have g := gcd_pos (t := t) h
  have : Int.gcd t b * Int.gcd (low t b).1 (low t b).2 = Int.gcd t b * 1 := by omega
  exact Nat.eq_of_mul_eq_mul_left g this
theorem low_id {t b : Int} (hb : 0 < b) (h : Int.gcd t b = 1) : low t b = (t, b) := by
  have e : sg t b = 1 := by unfold sg; rw [if_neg (by omega), h]; rfl
  unfold low
  rw [e]
  simp
theorem low_low {t b : Int} (h : b ≠ 0) : low (low t b).1 (low t b).2 = low t b := low_id (low_pos h) (low_cop h)
/-- the bottom stays: nothing is taken out -/
theorem low_same {t b : Int} (hb : 0 < b) (h : (low t b).2 = b) : low t b = (t, b) := by
  have e := low_bot (t := t) (b := b)
  rw [h] at e
  have e1 : sg t b * b = 1 * b := by omega
  have e2 := Int.eq_of_mul_eq_mul_right (Int.ne_of_gt hb) e1
  have e3 := low_top (t := t) (b := b)
  rw [e2] at e3
  refine Prod.ext ?_ h
  show (low t b).1 = t
  omega
theorem dvd_le {x y : Int} (h : x * y ≠ 0) : y.natAbs ≤ (x * y).natAbs := by
  rw [Int.natAbs_mul]
  have : x ≠ 0 := fun z => h (by rw [z, Int.zero_mul])
  exact Nat.le_mul_of_pos_left _ (by omega)
theorem low_top_le {t b : Int} (h : b ≠ 0) : (low t b).1.natAbs ≤ t.natAbs := by
  by_cases ht : t = 0
  · subst ht
    have e := low_top (t := 0) (b := b)
    rcases Int.mul_eq_zero.mp e with z | z
    · exact absurd z (sg_ne h)
    · rw [z]; exact Nat.le_refl _
  · have e := low_top (t := t) (b := b)
    have := dvd_le (x := sg t b) (y := (low t b).1) (by omega)
    rw [e] at this
    exact this
theorem low_bot_le {t b : Int} (h : b ≠ 0) : (low t b).2.natAbs ≤ b.natAbs := by
  have e := low_bot (t := t) (b := b)
  have := dvd_le (x := sg t b) (y := (low t b).2) (by omega)
  rw [e] at this
  exact this
theorem sg_le {t b : Int} (h : b ≠ 0) : (sg t b).natAbs ≤ b.natAbs := by
  have e := low_bot (t := t) (b := b)
  have := dvd_le (x := (low t b).2) (y := sg t b) (by rw [Int.mul_comm]; omega)
  rw [Int.mul_comm, e] at this
  exact this
/-- Euclid's turn over whole numbers from 0 on -/
theorem gcd_turn {a b : Int} (ha : 0 ≤ a) (hb : 0 < b) : Int.gcd b (a % b) = Int.gcd a b := by
  obtain ⟨m, rfl⟩ := Int.eq_ofNat_of_zero_le ha
  obtain ⟨n, rfl⟩ := Int.eq_ofNat_of_zero_le (Int.le_of_lt hb)
  show Nat.gcd (Int.natAbs (n : Int)) (Int.natAbs ((m : Int) % (n : Int))) = Nat.gcd (Int.natAbs (m : Int)) (Int.natAbs (n : Int))
  rw [← Int.natCast_emod, Int.natAbs_natCast, Int.natAbs_natCast, Int.natAbs_natCast, Nat.gcd_comm n, Nat.gcd_comm m n]
  exact (Nat.gcd_rec n m).symm
theorem gcd_succ (a : Int) : Int.gcd a (a + 1) = 1 := by
  have : Int.gcd (a + 1) a = Int.gcd 1 a := by
    rw [Int.add_comm, Int.gcd_add_self_left]
  rw [Int.gcd_comm, this, Int.gcd_comm]
  simp
end KM
set_option Elab.async false
set_option linter.all false
set_option maxRecDepth 100000
set_option maxHeartbeats 4000000
namespace K43
open PySem PySem.Spec PyProof.Rows L2
/-- a def of the text -/
abbrev Dn (K : PySem.W.Frag) (d : He.DefD) (f : Addr) (fd : FuncData) : Prop := FunD K d.name d.qual d.params d.body d.scope (d.dvs K) (d.kws K) f fd
/-- what the module's names are -/
structure Bl (mg : Str → Option Value) : Prop where
  isi : mg "isinstance" = none
  int : mg "int" = none
  bool : mg "bool" = none
  abs : mg "abs" = none
  list : mg "list" = none
  range : mg "range" = none
  len : mg "len" = none
theorem op_fdW {X : Cx} : OpR X (binaryOp .FloorDiv) (rI (fun _ j => j ≠ 0 ∧ j.natAbs.log2 < 9000) fun i j => .int (i.fdiv j)) := opI fun _ _ _ _ _ _ _ hc q => floordiv_int hc.1 q (.inl (PyProof.noPylong_of_log2 hc.2))
/-- the fields of a Share -/
def shF (q : Int × Int) : List (Str × V) := putF "bottom" (.int q.2) (putF "top" (.int q.1) [])
theorem tb : ¬ (("top" : Str) = "bottom") := by decide +kernel
theorem shF_top (q : Int × Int) : (shF q).lookup ("top" : Str) = some (.int q.1) := by
  unfold shF
  rw [lookup_putF, if_neg tb, lookup_putF, if_pos rfl]
theorem shF_bot (q : Int × Int) : (shF q).lookup ("bottom" : Str) = some (.int q.2) := by
  unfold shF
  rw [lookup_putF, if_pos rfl]
theorem shF_no (q : Int × Int) {m : Str} (h1 : ¬ m = "bottom") (h2 : ¬ m = "top") : (shF q).lookup m = none := by
  unfold shF
  rw [lookup_putF, if_neg h1, lookup_putF, if_neg h2]
  all_goals rfl
/-- a Share stands at p -/
def Sh (C : Addr) (H : Hp) (p : Addr) (q : Int × Int) : Prop := ∃ dx, H p = some (.ins C dx (shF q))
/-- small enough, the bottom above nought -/
def Bd (n : Nat) (q : Int × Int) : Prop := q.1.natAbs < 2 ^ n ∧ 0 < q.2 ∧ q.2.natAbs < 2 ^ n
theorem Sh.keep {C : Addr} {H H' : Hp} {p : Addr} {q : Int × Int} (s : Same H H') (h : Sh C H p q) : Sh C H' p q := let ⟨dx, e⟩ := h; ⟨dx, s _ _ e⟩
theorem log_lt {j : Int} {n : Nat} (h : j.natAbs < 2 ^ n) (h0 : 0 < n) (h9 : n ≤ 9000) : j.natAbs.log2 < 9000 := Nat.lt_of_lt_of_le (PySem.Flt.log2_lt_of h0 h) h9
/-- what is known of the class -/
structure Cl (K : PySem.W.Frag) (mg : Str → Option Value) (C : Addr) : Prop where
  cl : Cls K C
  nt : NoAttr K C "top"
  nb : NoAttr K C "bottom"
  g : mg "Share" = some (.ref C)
section
variable {P : Program} {w : World} {K : PySem.W.Frag} {mg : Str → Option Value} {base : Heap} {f C : Addr} {fd : FuncData}

def spWhole : Sp := fun vs H Q _ => ∃ n : Int, vs = [.int n] ∧ Q (.bl true) H
theorem ok_whole (F : Dn K d_is_whole f fd) (b : Bl mg) : FnOk P w K mg base CX0 1 f fd ["thing"] spWhole := by
  refine F.ok sc_is_whole (fun vs H Q E h => ?_) (fun cdv A outer s H vs Q E hr h => ?_)
  · obtain ⟨n, rfl, _⟩ := h
    rfl
  · obtain ⟨n, rfl, hQ⟩ := h
    refine ⟨_, PSs.nox (pss_one (ps_ret (pe_and
      (pe_callB call_isi rfl b.isi boot_isinstance (pa_cons (pv 0) (pa_cons (pe_bltn (v := .ty "int") rfl b.int boot_int rfl) pa_nil)))
      (pe_one (pe_not (pe_callB call_isi rfl b.isi boot_isinstance (pa_cons (pv 0) (pa_cons (pe_bltn (v := .ty "bool") rfl b.bool boot_bool rfl) pa_nil)))))))), ?_⟩
    refine ⟨_, rfl, _, _, _, _, true, rfl, ClsV.ty _, TyX.base (TyOf.int n), kit_ty (by decide +kernel), true, rfl, ?_⟩
    refine iteT ?_
    exact ⟨_, rfl, _, _, _, _, false, rfl, ClsV.ty _, TyX.base (TyOf.int n), kit_ty (by decide +kernel), false, rfl, hQ⟩
def spGcd : Sp := fun vs H Q _ => ∃ x y : Int, vs = [.int x, .int y] ∧ Q (.int (Int.gcd x y : Int)) H
theorem abs_eq (x : Int) : (if x < 0 then -x else x) = (x.natAbs : Int) := by split <;> omega
theorem ok_gcd (F : Dn K d_common_part f fd) (b : Bl mg) : FnOk P w K mg base CX0 1 f fd ["one", "other"] spGcd := by
  refine F.ok sc_common_part (fun vs H Q E h => ?_) (fun cdv A outer s H vs Q E hr h => ?_)
  · obtain ⟨x, y, rfl, _⟩ := h
    rfl
  · obtain ⟨x, y, rfl, hQ⟩ := h
    refine ⟨_, PSs.nox (pss_cons (ps_set (i := 0) sc_common_part.nd rfl (.inl rfl) (pe_callB call_abs rfl b.abs boot_abs (pa_cons (pv 0) pa_nil)))
      (pss_cons (ps_set (i := 1) sc_common_part.nd rfl (.inl rfl) (pe_callB call_abs rfl b.abs boot_abs (pa_cons (pv 1) pa_nil)))
      (pss_cons (ps_while PassesOwn.never (pt_cmpR op_ne (pv 1) pe_int (nomark _)) (pss_one (ps_par (i := 0) (j := 1) rfl sc_common_part.nd rfl rfl (by decide) rfl rfl (pa_cons (pv 1) (pa_cons (pe_op op_mod (pv 0) (pv 1)) pa_nil)) rfl)))
      (pss_one (ps_ret (pv 0)))))), ?_⟩
    refine ⟨_, rfl, _, rfl, _, rfl, _, rfl, while_by (fun σ H2 => H2 = H ∧ ∃ a c : Int, σ = [some (.int a), some (.int c)] ∧ 0 ≤ a ∧ 0 ≤ c ∧ Int.gcd a c = Int.gcd x y)
      (fun σ _ => match σ with | [_, some (.int c)] => c.toNat | _ => 0) ⟨rfl, _, _, rfl, ?_, ?_, ?_⟩ ?_ ?_⟩
    · split <;> omega
    · split <;> omega
    · rw [abs_eq, abs_eq]
      rfl
    · rintro σ H2 ⟨rfl, a, c, rfl, ha, hc, hg⟩
      refine ⟨_, rfl, rfl, _, rfl, ?_⟩
      by_cases h0 : c = 0
      · subst h0
        refine iteNS rfl ?_
        refine ⟨_, rfl, ?_⟩
        have e : Int.gcd x y = a.natAbs := by rw [← hg]; simp
        have e2 : (Int.gcd x y : Int) = a := by omega
        rw [e2] at hQ
        exact hQ
      · have hne : (!decide (V.int c = V.int 0)) = true := by simp [h0]
        rw [hne]
        refine iteT ?_
        have hp : 0 < c := by omega
        refine ⟨_, rfl, _, rfl, _, rfl, _, _, rfl, rfl, hp, _, _, rfl, ⟨rfl, _, _, rfl, hc, Int.emod_nonneg _ h0, ?_⟩, ?_⟩
        · rw [KM.gcd_turn ha hp, hg]
        · show (a % c).toNat < c.toNat
          have h1 := Int.emod_nonneg a h0
          have h2 := Int.emod_lt_of_pos a hp
          omega
    · rintro σ H2 Q1 Q2 hm ⟨v, hv, h1, k, hk, q⟩
      exact ⟨v, hv, h1, k, hk, hm _ _ q⟩
end
end K43
set_option Elab.async false
set_option linter.all false
set_option maxRecDepth 100000
set_option maxHeartbeats 4000000
namespace K43
open PySem PySem.Spec PyProof.Rows L2
open C8 (Cal Mak Met pe_c pe_mk pe_mt pe_mt0)
section
variable {P : Program} {w : World} {K : PySem.W.Frag} {mg : Str → Option Value} {base : Heap} {f C : Addr} {fd : FuncData}
abbrev CalW (P : Program) (w : World) (K : PySem.W.Frag) (mg : Str → Option Value) (base : Heap) : Prop := Cal P w K mg base 1 "is_whole" spWhole []
abbrev CalG (P : Program) (w : World) (K : PySem.W.Frag) (mg : Str → Option Value) (base : Heap) : Prop := Cal P w K mg base 1 "common_part" spGcd []
/-- __init__: a Share in lowest terms -/
def spInit (C : Addr) : Sp := fun vs H Q _ => ∃ (p dx : Addr) (t b : Int) (n : Nat), vs = [.ref p, .int t, .int b] ∧ b ≠ 0 ∧ b.natAbs < 2 ^ n ∧ 0 < n ∧ n ≤ 9000 ∧ H p = some (.ins C dx []) ∧
  ∀ H', (∀ a o, a ≠ p → H a = some o → H' a = some o) → H' p = some (.ins C dx (shF (KM.low t b))) → Q .non H'
theorem ok_init (F : Dn K d_Share_init f fd) (cW : CalW P w K mg base) (cG : CalG P w K mg base) (T : Cl K mg C) : FnOk P w K mg base CX0 2 f fd ["self", "top", "bottom"] (spInit C) := by
  refine F.ok sc_Share_init (fun vs H Q E h => ?_) (fun cdv A outer s H vs Q E hr h => ?_)
  · obtain ⟨p, dx, t, b, n, rfl, _⟩ := h
    rfl
  · obtain ⟨p, dx, t, b, n, rfl, hb, hn, hn0, hn9, hp, hQ⟩ := h
    refine ⟨_, PSs.nox (pss_cons (ps_for PassesOwn.never rfl (pi_tup (pe_tup (pa_cons (pv 1) (pa_cons (pv 2) pa_nil)))) (pg_name (i := 3) sc_Share_init.nd rfl (.inl rfl))
        (pss_one (ps_if (pt_not (pt_val (pe_c cW hr (by decide) rfl (pa_cons (pv 3) pa_nil)))) pss_never pss_nil)))
      (pss_cons (ps_if (pt_cmpR op_eq (pv 2) pe_int (nomark _)) pss_never pss_nil)
      (pss_cons (ps_set (i := 4) sc_Share_init.nd rfl (.inl rfl) (pe_c cG hr (by decide) rfl (pa_cons (pv 1) (pa_cons (pv 2) pa_nil))))
      (pss_cons (ps_if (pt_cmpR op_lt (pv 2) pe_int (nomark _)) (pss_one (ps_set (i := 4) sc_Share_init.nd rfl (.inl rfl) (pe_un un_neg (pv 4)))) pss_nil)
      (pss_cons (ps_fld (pv 0) (pe_op op_fdW (pv 1) (pv 4)) rfl)
      (pss_one (ps_fld (pv 0) (pe_op op_fdW (pv 2) (pv 4)) rfl))))))), ?_⟩
    refine ⟨_, rfl, _, rfl, by show 2 ≤ sizeLine; decide, fun u hu => ?_⟩
    have npu : p ≠ u := ne_of_none hp hu
    refine ⟨u, rfl, ⟨_, SqT.of upd_same⟩, for_tup (K := K) (xs := [.int t, .int b]) (fun i σ H2 => H2 = upd H u (.tup [.int t, .int b]) ∧ ∃ v, σ = [some (.ref p), some (.int t), some (.int b), v, none])
      ⟨rfl, none, rfl⟩ (fun i σ H2 _ h => by rw [h.1]; exact SqT.of upd_same) ?_ ?_⟩
    · rintro i y σ H2 hi ⟨rfl, v, rfl⟩
      have hy : ∃ n : Int, y = .int n := by
        match i, hi with
        | 0, e => exact ⟨t, (Option.some.inj e).symm⟩
        | 1, e => exact ⟨b, (Option.some.inj e).symm⟩
      obtain ⟨n, rfl⟩ := hy
      refine ⟨_, rfl, n, rfl, true, rfl, ?_⟩
      refine iteF ?_
      exact ⟨rfl, _, rfl⟩
    · rintro σ H2 ⟨rfl, v, rfl⟩
      refine ⟨_, rfl, rfl, _, rfl, ?_⟩
      have hb0 : decide (V.int b = V.int 0) = false := by simp [hb]
      rw [hb0]
      refine iteF ?_
      refine ⟨_, rfl, _, rfl, t, b, rfl, ?_⟩
      refine ⟨_, rfl, _, _, rfl, rfl, _, rfl, ?_⟩
      have hs9 : (KM.sg t b).natAbs.log2 < 9000 := log_lt (Nat.lt_of_le_of_lt (KM.sg_le hb) hn) hn0 hn9
      have fin : ∀ c : Int, c = KM.sg t b → ∀ v, tSeq (sFld K (tVar 0) (tOp (rI (fun _ j => j ≠ 0 ∧ j.natAbs.log2 < 9000) fun i j => .int (i.fdiv j)) (tVar 1) (tVar 4)) "top") (sFld K (tVar 0) (tOp (rI (fun _ j => j ≠ 0 ∧ j.natAbs.log2 < 9000) fun i j => .int (i.fdiv j)) (tVar 2) (tVar 4)) "bottom")
          { nx := fun _ H' => Q .non H', rt := Q } [some (.ref p), some (.int t), some (.int b), v, some (.int c)] (upd H u (.tup [.int t, .int b])) := by
        rintro c rfl v
        refine ⟨_, rfl, _, rfl, _, _, rfl, rfl, ⟨KM.sg_ne hb, hs9⟩, _, rfl, p, C, dx, _, rfl, (by rw [upd_ne npu]; exact hp), T.cl, T.nt, (by show 0 < 1000; decide), ?_⟩
        refine ⟨_, rfl, _, rfl, _, _, rfl, rfl, ⟨KM.sg_ne hb, hs9⟩, _, rfl, p, C, dx, _, rfl, upd_same, T.cl, T.nb, (by show 1 < 1000; decide), ?_⟩
        refine hQ _ (fun a o ha e => ?_) upd_same
        rw [upd_ne ha, upd_ne ha, upd_ne (ne_of_none e hu)]
        exact e
      refine ite2 (fun h => ?_) (fun h => ?_)
      · have h' : b < 0 := of_decide_eq_true h
        refine ⟨_, rfl, _, rfl, ?_⟩
        exact fin _ (by unfold KM.sg; rw [if_pos h']) _
      · have h' : ¬ b < 0 := fun z => h (decide_eq_true z)
        exact fin _ (by unfold KM.sg; rw [if_neg h']) _
end
end K43
set_option Elab.async false
set_option linter.all false
set_option maxRecDepth 100000
set_option maxHeartbeats 4000000
namespace K43
open PySem PySem.Spec PyProof.Rows L2
open C8 (Cal Mak Met pe_c pe_mk pe_mt pe_mt0)
section
variable {P : Program} {w : World} {K : PySem.W.Frag} {mg : Str → Option Value} {base : Heap} {f C : Addr} {fd : FuncData}
abbrev MakS (P : Program) (w : World) (K : PySem.W.Frag) (mg : Str → Option Value) (base : Heap) (C : Addr) : Prop := Mak P w K mg base 2 "Share" C (spInit C) []
/-- Share(t, b): what is left to show -/
theorem mk_at {H1 : Hp} {t b : Int} {n : Nat} {Q : VK} (hb : b ≠ 0) (hn : b.natAbs < 2 ^ n) (hn0 : 0 < n) (hn9 : n ≤ 9000)
    (hQ : ∀ r H', Same H1 H' → H1 r = none → Sh C H' r (KM.low t b) → Q (.ref r) H') :
    ∀ x dx, H1 x = none → H1 dx = none → dx ≠ x → spInit C (.ref x :: ([V.int t, V.int b] ++ [])) (upd (upd H1 dx (.own x)) x (.ins C dx [])) (fun v H2 => v = .non ∧ Q (.ref x) H2) E0 := by
  intro x dx nx nd ne
  refine ⟨x, dx, t, b, n, rfl, hb, hn, hn0, hn9, upd_same, fun H' kp hp => ⟨rfl, hQ x H' (fun a o e => ?_) nx ⟨dx, hp⟩⟩⟩
  refine kp a o (ne_of_none e nx) ?_
  rw [upd_ne (ne_of_none e nx), upd_ne (ne_of_none e nd)]
  exact e
theorem mul_pos_ne {a b : Int} (ha : 0 < a) (hb : 0 < b) : a * b ≠ 0 := fun z => by
  have := Int.mul_pos ha hb
  omega
def two (n : Nat) (a b : Int × Int) : Prop := Bd n a ∧ Bd n b ∧ 0 < n ∧ n ≤ 4000
end
end K43
set_option Elab.async false
set_option linter.all false
set_option maxRecDepth 100000
set_option maxHeartbeats 4000000
namespace K43
open PySem PySem.Spec PyProof.Rows L2
open C8 (Cal Mak Met pe_c pe_mk pe_mt pe_mt0)
/-- the held dict's pairs -/
def hd0 (l : Addr) (n m : Int) : List (Key × V) := [(Sum.inr "cells", .ref l), (Sum.inr "at", .int n), (Sum.inr "left", .int m)]
theorem hd_cells (l : Addr) (n m : Int) : valV (hd0 l n m) (Sum.inr "cells") = some (.ref l) := valV_pos rfl
theorem k1 : ¬ (("cells" : Str) = "at") := by decide +kernel
theorem k2 : ¬ (("cells" : Str) = "left") := by decide +kernel
theorem k3 : ¬ (("at" : Str) = "left") := by decide +kernel
theorem k1' : ¬ (("at" : Str) = "cells") := by decide +kernel
theorem k3' : ¬ (("left" : Str) = "at") := by decide +kernel
theorem inr_ne {x y : Str} (h : ¬ x = y) : ¬ ((Sum.inr x : Key) = Sum.inr y) := fun z => h (Sum.inr.inj z)
theorem hd_at (l : Addr) (n m : Int) : valV (hd0 l n m) (Sum.inr "at") = some (.int n) := (valV_neg (inr_ne k1)).trans (valV_pos rfl)
theorem hd_left (l : Addr) (n m : Int) : valV (hd0 l n m) (Sum.inr "left") = some (.int m) := (valV_neg (inr_ne k2)).trans ((valV_neg (inr_ne k3)).trans (valV_pos rfl))
theorem put_at (l : Addr) (n m k : Int) : putK (hd0 l n m) (Sum.inr "at") (.int k) = hd0 l k m := by
  unfold putK hd0
  simp [k1, k3']
theorem put_left (l : Addr) (n m k : Int) : putK (hd0 l n m) (Sum.inr "left") (.int k) = hd0 l n k := by
  unfold putK hd0
  simp [k2, k3]
theorem hd_merge (l : Addr) (n m : Int) : mergeK [] (hd0 l n m) = hd0 l n m := by
  simp [mergeK, hd0, putK, k1, k2, k3]
/-- the held dict at h, good for c draws more -/
def Held (H : Hp) (h : Addr) (c : Nat) : Prop := ∃ (l : Addr) (ns : List Int) (n m : Int), H h = some (.dK (hd0 l n m)) ∧ H l = some (.lst (ns.map V.int)) ∧ 0 ≤ n ∧ n + c ≤ 1000000000
theorem Held.weak {H : Hp} {h : Addr} {c c' : Nat} (hc : c' ≤ c) (x : Held H h c) : Held H h c' := by
  obtain ⟨l, ns, n, m, h1, h2, h3, h4⟩ := x
  exact ⟨l, ns, n, m, h1, h2, h3, by omega⟩
/-- all but h is kept -/
def Kp (h : Addr) (H H' : Hp) : Prop := (∀ b o, H b = some o → b ≠ h → H' b = some o) ∧ ∀ l n m, H h = some (.dK (hd0 l n m)) → ∃ n' m', H' h = some (.dK (hd0 l n' m'))
theorem Kp.refl (h : Addr) (H : Hp) : Kp h H H := ⟨fun _ _ e _ => e, fun _ n m e => ⟨n, m, e⟩⟩
theorem Kp.trans {h : Addr} {H H1 H2 : Hp} (a : Kp h H H1) (b : Kp h H1 H2) : Kp h H H2 := ⟨fun c o e n => b.1 c o (a.1 c o e n) n, fun l n m e => let ⟨n', m', e'⟩ := a.2 l n m e; b.2 l n' m' e'⟩
theorem Kp.same {h : Addr} {H H1 : Hp} (a : Same H H1) : Kp h H H1 := ⟨fun c o e _ => a c o e, fun _ n m e => ⟨n, m, a _ _ e⟩⟩
theorem hd_inj {l l' : Addr} {n m n' m' : Int} (h : HO.dK (hd0 l n m) = HO.dK (hd0 l' n' m')) : l = l' := by
  injection h with h
  injection h with h _
  injection h with _ h
  injection h
/-- the held dict put anew -/
theorem Kp.put {h l : Addr} {H : Hp} {n m : Int} (n' m' : Int) (e : H h = some (.dK (hd0 l n m))) : Kp h H (upd H h (.dK (hd0 l n' m'))) := by
  refine ⟨fun c o z ne => by rw [upd_ne ne]; exact z, fun l' n1 m1 z => ⟨n', m', ?_⟩⟩
  rw [upd_same, hd_inj (Option.some.inj (z.symm.trans e))]
theorem Held.same {H H' : Hp} {h : Addr} {c : Nat} (s : Same H H') (x : Held H h c) : Held H' h c := by
  obtain ⟨l, ns, n, m, h1, h2, h3, h4⟩ := x
  exact ⟨l, ns, n, m, s _ _ h1, s _ _ h2, h3, h4⟩
theorem same_new {H : Hp} {p : Addr} {o : HO} (h : H p = none) : Same H (upd H p o) := fun a u e => by
  rw [upd_ne (ne_of_none e h)]
  exact e
theorem dpInts {K : PySem.W.Frag} {H : Hp} : ∀ ns : List Int, DpAll K H (ns.map V.int) (ns.map PyData.int)
  | [] => .nil
  | n :: ns => .cons (.int n) (dpInts ns)
section
variable {P : Program} {w : World} {K : PySem.W.Frag} {mg : Str → Option Value} {base : Heap} {f C : Addr} {fd : FuncData}
def spHeld (K : PySem.W.Frag) : Sp := fun vs H Q _ => ∃ (a : Addr) (ns : List Int), vs = [.ref a] ∧ SqL K H a (ns.map V.int) ∧ ns.length ≤ 63 ∧ ∀ h H', Same H H' → H h = none → Held H' h 900000000 → Q (.ref h) H'
theorem ok_held (F : Dn K d_l_held f fd) (b : Bl mg) : FnOk P w K mg base CX0 1 f fd ["_law_script"] (spHeld K) := by
  refine F.ok sc_l_held (fun vs H Q E h => ?_) (fun cdv A outer s H vs Q E hr h => ?_)
  · obtain ⟨a, ns, rfl, _⟩ := h
    rfl
  · obtain ⟨a, ns, rfl, hS, hlen, hQ⟩ := h
    refine ⟨_, PSs.nox (pss_one (ps_ret (pe_disp (pps_cons pe_str (pe_callTy call_list_of rfl b.list boot_list (pa_cons (pe_slice sl_list (pv 0) po_none (po_some pe_int)) pa_nil)) (pps_cons pe_str pe_int (pps_cons pe_str pe_int pps_nil))) rfl rfl (by simp) (by decide)))), ?_⟩
    intro h hh
    have sS : SqL K (upd H h (.dK [])) a (ns.map V.int) := (same_new hh).seq hS
    refine ⟨_, rfl, 63, rfl, a, _, rfl, sS, fun p hp => ⟨p, _, rfl, Or.inl (SqL.of upd_same), fun l hl => ?_⟩⟩
    have nhp : h ≠ p := ne_of_none upd_same hp
    have nhl : h ≠ l := ne_of_none (by rw [upd_ne nhp]; exact upd_same) hl
    refine ⟨by rw [upd_ne nhl, upd_ne nhp, upd_same], hd0 l 0 0, rfl, by show 3 ≤ 15; decide, ?_⟩
    have e : cutV (ns.map V.int) none (some 63) = (ns.take 63).map V.int := by
      unfold cutV
      simp [HT.sIx, List.map_take]
    refine hQ h _ (fun c o z => ?_) hh ⟨l, ns.take 63, 0, 0, ?_, ?_, by decide, by decide⟩
    · have z1 : c ≠ h := ne_of_none z hh
      have z2 : (upd H h (.dK [])) c = some o := by rw [upd_ne z1]; exact z
      have z3 : c ≠ p := ne_of_none z2 hp
      have z4 : c ≠ l := ne_of_none (by rw [upd_ne z3]; exact z2) hl
      rw [upd_ne z1, upd_ne z4, upd_ne z3]
      exact z2
    · rw [upd_same, hd_merge]
    · rw [upd_ne nhl.symm, upd_same, ← e]

def spDraw : Sp := fun vs H Q _ => ∃ (h : Addr) (c : Nat) (k : Int), vs = [.ref h, .int k] ∧ Held H h (c + 1) ∧ 0 < k ∧ k < 1073741824 ∧
  ∀ r H', 0 ≤ r → r < k → Held H' h c → Kp h H H' → Q (.int r) H'
theorem cb_l {i j : Int} (h1 : -(2 ^ 64) < i) (h2 : i < 2 ^ 64) : CMul i j := .inl ⟨h1, h2⟩
theorem cb_r {i j : Int} (h1 : -(2 ^ 64) < j) (h2 : j < 2 ^ 64) : CMul i j := .inr ⟨h1, h2⟩
theorem ok_draw (F : Dn K d_l_draw f fd) (b : Bl mg) : FnOk P w K mg base CX0 1 f fd ["_law_held_here", "_law_many"] spDraw := by
  refine F.ok sc_l_draw (fun vs H Q E h => ?_) (fun cdv A outer s H vs Q E hr h => ?_)
  · obtain ⟨h, c, k, rfl, _⟩ := h
    rfl
  · obtain ⟨h, c, k, rfl, ⟨l, ns, n, m, hh, hl, hn, hc⟩, hk0, hk1, hQ⟩ := h
    have hu := hu_of hr
    have hu64 : (A.deeper (envOfC d_l_draw.qual d_l_draw.scope s.heap.objs.size f cdv)).units + 64 < cLine := by have := hr.un; omega
    have nlh : l ≠ h := ne_of hl hh (by intro z; cases z)
    refine ⟨_, PSs.nox (pss_cons (ps_if (pt_cmpR op_gt (pe_dget hu (pv 0) pe_str (fun _ _ => rfl)) pe_int (nomark _))
         (pss_cons (ps_set (i := 2) sc_l_draw.nd rfl (.inl rfl) (pe_op op_mod (pe_dget hu (pv 0) pe_str (fun _ _ => rfl)) (pv 1)))
         (pss_cons (ps_dput hu (pv 0) pe_str (pe_op op_fdiv (pe_dget hu (pv 0) pe_str (fun _ _ => rfl)) (pv 1)) rfl)
         (pss_one (ps_ret (pv 2))))) pss_nil)
      (pss_cons (ps_set (i := 3) sc_l_draw.nd rfl (.inl rfl) (pe_dget hu (pv 0) pe_str (fun _ _ => rfl)))
      (pss_cons (ps_dput hu (pv 0) pe_str (pe_op op_add (pv 3) pe_int) rfl)
      (C8.pss_cut (ps_set (i := 4) sc_l_draw.nd rfl (.inl rfl) (pe_ifExp (pt_cmpR (op_neD hu64) (pe_dget hu (pv 0) pe_str (fun _ _ => rfl)) (pe_lst pa_nil) (nomark _))
        (pe_ix ix_list (pe_dget hu (pv 0) pe_str (fun _ _ => rfl)) (pe_op op_mod (pv 3) (pe_callB call_len_seq rfl b.len boot_len (pa_cons (pe_dget hu (pv 0) pe_str (fun _ _ => rfl)) pa_nil))) (fun _ _ => rfl)) pe_int))
      (pss_cons (ps_if (PW.pt (pw_and (pt_cmpR op_ge (pv 4) (pe_op op_pow pe_int pe_int) (nomark _)) (pw_and1 (pt_cmpR op_lt (pv 3) (pe_callB call_len_seq rfl b.len boot_len (pa_cons (pe_dget hu (pv 0) pe_str (fun _ _ => rfl)) pa_nil)) (nomark _)))))
         (pss_cons (ps_dput hu (pv 0) pe_str (pe_op op_fdiv (pe_op op_sub (pv 4) (pe_op op_pow pe_int pe_int)) (pv 1)) rfl)
         (pss_one (ps_ret (pe_op op_mod (pe_op op_sub (pv 4) (pe_op op_pow pe_int pe_int)) (pv 1))))) pss_nil)
      (pss_cons (ps_set (i := 5) sc_l_draw.nd rfl (.inl rfl) (pe_op op_mod (pe_op op_add (pe_op op_add (pe_op op_add (pe_op op_mul (pe_op op_mod (pv 4) pe_int) pe_int) (pe_op op_mul (pe_op op_mul pe_int (pv 3)) (pv 3))) (pe_op op_mul pe_int (pv 3))) pe_int) pe_int))
      (pss_cons (ps_set (i := 5) sc_l_draw.nd rfl (.inl rfl) (pe_op op_mod (pe_op op_add (pe_op op_add (pe_op op_mul (pv 5) pe_int) (pe_op op_fdiv (pv 5) pe_int)) pe_int) pe_int))
      (pss_one (ps_ret (pe_op op_mod (pe_op op_fdiv (pv 5) pe_int) (pv 1))))))))))), ?_⟩
    have cM : ∀ x y : Int, 0 < y → (0 ≤ x % y ∧ x % y < y) := fun x y hy => ⟨Int.emod_nonneg _ (by omega), Int.emod_lt_of_pos _ hy⟩
    refine ⟨_, rfl, h, _, rfl, hd_left l n m ▸ DGet.k (k := Sum.inr "left") hh, _, _, rfl, rfl, _, rfl, ?_⟩
    refine ite2 (fun h1 => ?_) (fun h1 => ?_)
    · refine ⟨_, rfl, h, _, rfl, hd_left l n m ▸ DGet.k (k := Sum.inr "left") hh, _, rfl, _, _, rfl, rfl, hk0, ?_⟩
      refine ⟨_, rfl, h, _, rfl, hd_left l n m ▸ DGet.k (k := Sum.inr "left") hh, _, rfl, _, _, rfl, rfl, ⟨hk0, hk1⟩, _, rfl, h, _, rfl, DPut.k (k := Sum.inr "left") hh (by show 3 < sizeLine; decide), ?_⟩
      refine ⟨_, rfl, hQ _ _ (cM _ _ hk0).1 (cM _ _ hk0).2 ⟨l, ns, n, m / k, ?_, ?_, hn, by omega⟩ ?_⟩
      · rw [upd_same, put_left]
      · rw [upd_ne nlh]; exact hl
      · rw [put_left]; exact Kp.put _ _ hh
    · refine ⟨_, rfl, h, _, rfl, hd_at l n m ▸ DGet.k (k := Sum.inr "at") hh, ?_⟩
      refine ⟨_, rfl, _, _, rfl, rfl, _, rfl, h, _, rfl, DPut.k (k := Sum.inr "at") hh (by show 3 < sizeLine; decide), ?_⟩
      rw [put_at]
      have hh1 : (upd H h (.dK (hd0 l (n + 1) m))) h = some (.dK (hd0 l (n + 1) m)) := upd_same
      have hl1 : (upd H h (.dK (hd0 l (n + 1) m))) l = some (.lst (ns.map V.int)) := by rw [upd_ne nlh]; exact hl
      have kp1 : Kp h H (upd H h (.dK (hd0 l (n + 1) m))) := Kp.put _ _ hh
      refine ⟨fun σ' H' => ∃ (cell : Int), σ' = [some (.ref h), some (.int k), none, some (.int n), some (.int cell), none] ∧ H' h = some (.dK (hd0 l (n + 1) m)) ∧ H' l = some (.lst (ns.map V.int)) ∧ Kp h H H', ?_, ?_⟩
      · refine ⟨_, rfl, h, _, rfl, hd_cells l (n + 1) m ▸ DGet.k (k := Sum.inr "cells") hh1, (by show 0 ≤ sizeLine; decide), fun e he => ?_⟩
        have nhe : h ≠ e := ne_of_none hh1 he
        have nle : l ≠ e := ne_of_none hl1 he
        have hh2 : (upd (upd H h (.dK (hd0 l (n + 1) m))) e (.lst [])) h = some (.dK (hd0 l (n + 1) m)) := by rw [upd_ne nhe]; exact hh1
        have hl2 : (upd (upd H h (.dK (hd0 l (n + 1) m))) e (.lst [])) l = some (.lst (ns.map V.int)) := by rw [upd_ne nle]; exact hl1
        have kp2 : Kp h H (upd (upd H h (.dK (hd0 l (n + 1) m))) e (.lst [])) := kp1.trans (Kp.same (same_new he))
        refine ⟨.list (ns.map .int), .list [], Dp.lst (SqL.of hl2) (dpInts ns), Dp.lst (SqL.of upd_same) .nil, PySem.W.ke_shaped_ints ns, by decide, _, rfl, ?_⟩
        cases ns with
        | nil => exact iteF ⟨0, rfl, hh2, hl2, kp2⟩
        | cons z zs =>
          refine iteT ?_
          have hlen : (0 : Int) < (((z :: zs).map V.int).length : Int) := by simp
          refine ⟨_, rfl, h, _, rfl, hd_cells l (n + 1) m ▸ DGet.k (k := Sum.inr "cells") hh2, _, rfl, _, rfl, h, _, rfl, hd_cells l (n + 1) m ▸ DGet.k (k := Sum.inr "cells") hh2, l, _, rfl, Or.inl (SqL.of hl2), _, _, rfl, rfl, hlen, ?_⟩
          obtain ⟨q, hq⟩ := Int.eq_ofNat_of_zero_le (cM n _ hlen).1
          have hq2 := (cM n _ hlen).2
          rw [hq] at hq2
          have hq3 : q < (z :: zs).length := by rw [List.length_map] at hq2; omega
          refine ⟨l, _, _, .int ((z :: zs)[q]), rfl, rfl, SqL.of hl2, (by rw [hq]; exact atI_nat (by rw [List.getElem?_map, List.getElem?_eq_getElem hq3]; rfl)), ?_⟩
          exact ⟨_, rfl, hh2, hl2, kp2⟩
      · rintro σ' H' ⟨cell, rfl, hh2, hl2, kp2⟩
        have stay : ∀ m', Held (upd H' h (.dK (hd0 l (n + 1) m'))) h c := fun m' => ⟨l, ns, n + 1, m', upd_same, by rw [upd_ne nlh]; exact hl2, by omega, by omega⟩
        have stay0 : Held H' h c := ⟨l, ns, n + 1, m, hh2, hl2, by omega, by omega⟩
        have last : ∀ D : Ends, D.rt = Q → tSeq (tAsg (tOp (rI (fun _ j => 0 < j) fun i j => .int (i % j)) (tOp (rI0 fun i j => .int (i + j)) (tOp (rI0 fun i j => .int (i + j)) (tOp (rI0 fun i j => .int (i + j))
            (tOp (rI CMul fun i j => .int (i * j)) (tOp (rI (fun _ j => 0 < j) fun i j => .int (i % j)) (tVar 4) (tC (.int 2147483587))) (tC (.int 40692))) (tOp (rI CMul fun i j => .int (i * j)) (tOp (rI CMul fun i j => .int (i * j)) (tC (.int 7907)) (tVar 3)) (tVar 3)))
            (tOp (rI CMul fun i j => .int (i * j)) (tC (.int 104729)) (tVar 3))) (tC (.int 17))) (tC (.int 2147483629))) (gName 5))
          (tSeq (tAsg (tOp (rI (fun _ j => 0 < j) fun i j => .int (i % j)) (tOp (rI0 fun i j => .int (i + j)) (tOp (rI0 fun i j => .int (i + j)) (tOp (rI CMul fun i j => .int (i * j)) (tVar 5) (tC (.int 48271))) (tOp (rI CDiv fun i j => .int (i / j)) (tVar 5) (tC (.int 127)))) (tC (.int 31))) (tC (.int 2147483647))) (gName 5))
          (tRet (tOp (rI (fun _ j => 0 < j) fun i j => .int (i % j)) (tOp (rI CDiv fun i j => .int (i / j)) (tVar 5) (tC (.int 89))) (tVar 1)))) D [some (.ref h), some (.int k), none, some (.int n), some (.int cell), none] H' := by
          intro D hD
          refine ⟨_, rfl, _, _, rfl, rfl, (by decide : (0 : Int) < 2147483587), _, _, rfl, rfl, cb_r (by decide) (by decide), _, rfl, _, _, rfl, rfl, cb_l (by decide) (by decide), _, rfl, _, _, rfl, rfl, cb_r (by omega) (by omega), _, _, rfl, rfl, ?_⟩
          refine ⟨_, rfl, _, _, rfl, rfl, cb_l (by decide) (by decide), _, _, rfl, rfl, _, _, rfl, rfl, _, _, rfl, rfl, (by decide : (0 : Int) < 2147483629), ?_⟩
          refine ⟨_, rfl, _, _, rfl, rfl, cb_r (by decide) (by decide), _, rfl, _, _, rfl, rfl, ⟨by decide, by decide⟩, _, _, rfl, rfl, _, _, rfl, rfl, _, _, rfl, rfl, (by decide : (0 : Int) < 2147483647), ?_⟩
          refine ⟨_, rfl, _, _, rfl, rfl, ⟨by decide, by decide⟩, _, rfl, _, _, rfl, rfl, hk0, ?_⟩
          rw [hD]
          exact hQ _ _ (cM _ _ hk0).1 (cM _ _ hk0).2 stay0 kp2
        refine ⟨_, rfl, _, _, rfl, rfl, ⟨by decide, by decide, by decide⟩, _, _, rfl, rfl, _, rfl, ?_⟩
        refine ite2 (fun g1 => ?_) (fun g1 => iteF (last _ rfl))
        refine ⟨_, rfl, _, rfl, h, _, rfl, hd_cells l (n + 1) m ▸ DGet.k (k := Sum.inr "cells") hh2, l, _, rfl, Or.inl (SqL.of hl2), _, _, rfl, rfl, _, rfl, ?_⟩
        refine ite2 (fun g2 => ?_) (fun g2 => last _ rfl)
        refine ⟨_, rfl, _, _, rfl, rfl, ⟨by decide, by decide, by decide⟩, _, _, rfl, rfl, _, rfl, _, _, rfl, rfl, ⟨hk0, hk1⟩, _, rfl, h, _, rfl, DPut.k (k := Sum.inr "left") hh2 (by show 3 < sizeLine; decide), ?_⟩
        refine ⟨_, rfl, _, _, rfl, rfl, ⟨by decide, by decide, by decide⟩, _, _, rfl, rfl, _, rfl, _, _, rfl, rfl, hk0, ?_⟩
        rw [put_left]
        refine hQ _ _ (cM _ _ hk0).1 (cM _ _ hk0).2 (stay _) (kp2.trans (Kp.put _ _ hh2))
end
end K43
set_option linter.all false
namespace KM
/-- top and bottom of a rational number -/
def pr (r : Rat) : Int × Int := (r.num, (r.den : Int))
theorem pr_inj {r s : Rat} (h : pr r = pr s) : r = s := by
  have h1 : r.num = s.num := congrArg Prod.fst h
  have h2 : (r.den : Int) = (s.den : Int) := congrArg Prod.snd h
  rw [← Rat.num_divInt_den r, ← Rat.num_divInt_den s, h1, h2]
theorem den_ne (r : Rat) : (r.den : Int) ≠ 0 := by
  have := r.den_nz
  omega
theorem den_pos (r : Rat) : 0 < (r.den : Int) := by
  have := r.den_nz
  omega
theorem low_eq {t b : Int} (h : b ≠ 0) : low t b = pr (Rat.divInt t b) := by
  have hp := low_pos (t := t) h
  have hc := low_cop (t := t) h
  obtain ⟨d, hd⟩ := Int.eq_ofNat_of_zero_le (Int.le_of_lt hp)
  have hd0 : d ≠ 0 := by
    intro z
    rw [z] at hd
    omega
  have hcop : (low t b).1.natAbs.Coprime d := by
    have : Int.gcd (low t b).1 (low t b).2 = 1 := hc
    rw [hd] at this
    exact this
  have e1 : Rat.divInt (low t b).1 (d : Int) = Rat.divInt t b := by
    rw [Rat.divInt_eq_divInt_iff (by omega) h, ← hd]
    have h1 := low_top (t := t) (b := b)
    have h2 := low_bot (t := t) (b := b)
    calc (low t b).1 * b = (low t b).1 * (sg t b * (low t b).2) := by rw [h2]
      _ = sg t b * (low t b).1 * (low t b).2 := by rw [← Int.mul_assoc, Int.mul_comm (low t b).1]
      _ = t * (low t b).2 := by rw [h1]
  have e2 : ({ num := (low t b).1, den := d, den_nz := hd0, reduced := hcop } : Rat) = Rat.divInt t b := by rw [Rat.mk_eq_divInt, e1]
  rw [← e2]
  exact Prod.ext rfl hd
theorem pr_plus (r s : Rat) : low ((pr r).1 * (pr s).2 + (pr s).1 * (pr r).2) ((pr r).2 * (pr s).2) = pr (r + s) := by
  show low (r.num * s.den + s.num * r.den) (r.den * s.den) = _
  rw [low_eq (Int.mul_ne_zero (den_ne r) (den_ne s)), ← Rat.divInt_add_divInt _ _ (den_ne r) (den_ne s), Rat.num_divInt_den, Rat.num_divInt_den]
theorem pr_less (r s : Rat) : low ((pr r).1 * (pr s).2 - (pr s).1 * (pr r).2) ((pr r).2 * (pr s).2) = pr (r - s) := by
  show low (r.num * s.den - s.num * r.den) (r.den * s.den) = _
  rw [low_eq (Int.mul_ne_zero (den_ne r) (den_ne s)), ← Rat.divInt_sub_divInt _ _ (den_ne r) (den_ne s), Rat.num_divInt_den, Rat.num_divInt_den]
theorem pr_times (r : Rat) (k : Int) : low ((pr r).1 * k) (pr r).2 = pr (r * (Rat.divInt k 1)) := by
  show low (r.num * k) r.den = _
  have e : Rat.divInt (r.num * k) (r.den : Int) = Rat.divInt r.num r.den * Rat.divInt k 1 := by rw [Rat.divInt_mul_divInt, Int.mul_one]
  rw [low_eq (den_ne r), e, Rat.num_divInt_den]
theorem pr_over (r : Rat) {k : Int} (h : k ≠ 0) : low (pr r).1 ((pr r).2 * k) = pr (r * (Rat.divInt 1 k)) := by
  show low r.num (r.den * k) = _
  have e : Rat.divInt r.num (r.den * k : Int) = Rat.divInt r.num r.den * Rat.divInt 1 k := by rw [Rat.divInt_mul_divInt, Int.mul_one]
  rw [low_eq (Int.mul_ne_zero (den_ne r) h), e, Rat.num_divInt_den]
theorem inv_k {k : Int} (h : k ≠ 0) : Rat.divInt k 1 * Rat.divInt 1 k = 1 := by
  rw [Rat.divInt_mul_divInt, Int.mul_one, Int.one_mul]
  exact Rat.divInt_self' h
theorem pr_lt (r s : Rat) : ((pr r).1 * (pr s).2 < (pr s).1 * (pr r).2) ↔ r < s := (Rat.lt_iff r s).symm
theorem pr_bot (r : Rat) : 0 < (pr r).2 := den_pos r
theorem add_back (r s : Rat) : r + s - s = r := by
  rw [Rat.sub_eq_add_neg, Rat.add_assoc, Rat.add_neg_cancel, Rat.add_zero]
theorem sub_back (r s : Rat) : r - s + s = r := by
  rw [Rat.sub_eq_add_neg, Rat.add_assoc, Rat.neg_add_cancel, Rat.add_zero]
theorem mul_back (r : Rat) {k : Int} (h : k ≠ 0) : r * Rat.divInt k 1 * Rat.divInt 1 k = r := by
  rw [Rat.mul_assoc, inv_k h, Rat.mul_one]
theorem div_back (r : Rat) {k : Int} (h : k ≠ 0) : r * Rat.divInt 1 k * Rat.divInt k 1 = r := by
  rw [Rat.mul_assoc, Rat.mul_comm (Rat.divInt 1 k), inv_k h, Rat.mul_one]
/-- small -/
def Sz (n : Nat) (r : Rat) : Prop := r.num.natAbs < 2 ^ n ∧ r.den < 2 ^ n
theorem Sz.mono {n m : Nat} {r : Rat} (h : Sz n r) (hm : n ≤ m) : Sz m r := ⟨Nat.lt_of_lt_of_le h.1 (Nat.pow_le_pow_right (by decide) hm), Nat.lt_of_lt_of_le h.2 (Nat.pow_le_pow_right (by decide) hm)⟩
theorem sz_of_low {t b : Int} {n : Nat} (hb : b ≠ 0) (h1 : t.natAbs < 2 ^ n) (h2 : b.natAbs < 2 ^ n) : Sz n (Rat.divInt t b) := by
  have e := low_eq (t := t) hb
  have e1 : (low t b).1 = (Rat.divInt t b).num := congrArg Prod.fst e
  have e2 : (low t b).2 = ((Rat.divInt t b).den : Int) := congrArg Prod.snd e
  have l1 := low_top_le (t := t) hb
  have l2 := low_bot_le (t := t) hb
  constructor
  · rw [← e1]; omega
  · have : ((low t b).2).natAbs < 2 ^ n := by omega
    rw [e2] at this
    simpa using this
theorem two_lt {x y n m : Nat} (h1 : x < 2 ^ n) (h2 : y < 2 ^ m) : x * y < 2 ^ (n + m) := by
  rw [Nat.pow_add]
  exact Nat.mul_lt_mul'' h1 h2
theorem sz_sum {a b c d : Int} {n m : Nat} (h1 : a.natAbs < 2 ^ n) (h2 : d.natAbs < 2 ^ m) (h3 : c.natAbs < 2 ^ m) (h4 : b.natAbs < 2 ^ n) : (a * d + c * b).natAbs < 2 ^ (n + m + 1) ∧ (a * d - c * b).natAbs < 2 ^ (n + m + 1) := by
  have e1 : (a * d).natAbs < 2 ^ (n + m) := by rw [Int.natAbs_mul]; exact two_lt h1 h2
  have e2 : (c * b).natAbs < 2 ^ (n + m) := by rw [Int.natAbs_mul, Nat.add_comm]; exact two_lt h3 h4
  have e3 : 2 ^ (n + m + 1) = 2 * 2 ^ (n + m) := by rw [Nat.pow_succ, Nat.mul_comm]
  omega
theorem sz_plus {n m : Nat} {r s : Rat} (hr : Sz n r) (hs : Sz m s) : Sz (n + m + 1) (r + s) ∧ Sz (n + m + 1) (r - s) := by
  have d1 : ((r.den : Int)).natAbs < 2 ^ n := by simpa using hr.2
  have d2 : ((s.den : Int)).natAbs < 2 ^ m := by simpa using hs.2
  have hd : ((r.den : Int) * s.den).natAbs < 2 ^ (n + m + 1) := by
    have : ((r.den : Int) * s.den).natAbs < 2 ^ (n + m) := by rw [Int.natAbs_mul]; exact two_lt d1 d2
    exact Nat.lt_of_lt_of_le this (Nat.pow_le_pow_right (by decide) (by omega))
  have hn := sz_sum hr.1 d2 hs.1 d1
  have ne := Int.mul_ne_zero (den_ne r) (den_ne s)
  constructor
  · have := sz_of_low ne hn.1 hd
    rw [← Rat.divInt_add_divInt _ _ (den_ne r) (den_ne s), Rat.num_divInt_den, Rat.num_divInt_den] at this
    exact this
  · have := sz_of_low ne hn.2 hd
    rw [← Rat.divInt_sub_divInt _ _ (den_ne r) (den_ne s), Rat.num_divInt_den, Rat.num_divInt_den] at this
    exact this
theorem sz_times {n m : Nat} {r : Rat} {k : Int} (hr : Sz n r) (hk : k.natAbs < 2 ^ m) : Sz (n + m) (r * Rat.divInt k 1) := by
  have e : r * Rat.divInt k 1 = Rat.divInt (r.num * k) r.den := by
    have : Rat.divInt (r.num * k) (r.den : Int) = Rat.divInt r.num r.den * Rat.divInt k 1 := by rw [Rat.divInt_mul_divInt, Int.mul_one]
    rw [this, Rat.num_divInt_den]
  rw [e]
  refine sz_of_low (den_ne r) (by rw [Int.natAbs_mul]; exact two_lt hr.1 hk) ?_
  have d1 : ((r.den : Int)).natAbs < 2 ^ n := by simpa using hr.2
  exact Nat.lt_of_lt_of_le d1 (Nat.pow_le_pow_right (by decide) (by omega))
theorem sz_over {n m : Nat} {r : Rat} {k : Int} (hr : Sz n r) (h : k ≠ 0) (hk : k.natAbs < 2 ^ m) : Sz (n + m) (r * Rat.divInt 1 k) := by
  have e : r * Rat.divInt 1 k = Rat.divInt r.num (r.den * k) := by
    have : Rat.divInt r.num (r.den * k : Int) = Rat.divInt r.num r.den * Rat.divInt 1 k := by rw [Rat.divInt_mul_divInt, Int.mul_one]
    rw [this, Rat.num_divInt_den]
  rw [e]
  have d1 : ((r.den : Int)).natAbs < 2 ^ n := by simpa using hr.2
  refine sz_of_low (Int.mul_ne_zero (den_ne r) h) (Nat.lt_of_lt_of_le hr.1 (Nat.pow_le_pow_right (by decide) (by omega))) ?_
  rw [Int.natAbs_mul]
  exact two_lt d1 hk
end KM
set_option Elab.async false
set_option linter.all false
set_option maxRecDepth 100000
set_option maxHeartbeats 4000000
/-! KW: calls by keywords alone: f(k = v, ..), o.m(k = v, ..). -/
namespace KW
open PySem PySem.Spec PyProof.Rows L2
section
variable {X : Cx} {k j : Nat} {C f : Addr} {fd : FuncData} {ps ks : List Str} {sp : Sp} {x m : Str} {p pos apos : Pos} {o : Expr} {kws : List Keyword} {ta : TE} {tk : TA} {g : List Value → List Value → List Value} {gV : List V → List V → List V}
theorem pe_cK (F : FnOk X.prog X.w X.K X.mg X.base CX0 k f fd ps sp) (hr : Room k X.A) (hg : Gl X x) (hm : X.mg x = some (.ref f)) (hk : PySem.W.keepIn X.K (.ref f) = true) (hb : KBn X.K fd ps 0 ks g gV) (hkw : PK X kws tk)
    (hall : (backToKw pos (keywordEach kws X.env)).all (·.1.isSome) = true := by rfl) (hks : (backToKw pos (keywordEach kws X.env)).filterMap (·.1) = ks := by rfl) (hdb : (x == ("__debug__" : Str)) = false := by decide)
    (hpl : ((backTo pos (starEach [] X.env)).any (·.1) || (backToKw pos (keywordEach kws X.env)).any (·.1.isNone)) = false := by rfl) :
    PE X (.Call (.Name x p) [] kws pos) (fun σ H Q => tk σ H fun zs H1 => zs.length = ks.length ∧ sp (gV [] zs) H1 Q E0) := by
  refine ⟨fun pins s σ H Q I h => wpAny_Call_Name_kw (ld_glob I hg hm (PySem.W.callWith_KW0 (h₀ := X.base) I.ok.mod.kin hk hall ?_ hpl) hdb)⟩
  refine thn (hkw.run pos pins s σ H _ I h) fun ws s2 ⟨zs, H2, I2, rz, l2, q2⟩ => ⟨I2.kIn, ?_⟩
  rw [hks]
  exact run_fnN (us := []) (vs := []) F hr hb (fun _ _ _ _ _ _ _ h => False.elim h) I2 .nil rz rfl l2 q2
theorem pe_mtK {pl : Sem Bool} (he : PE X o ta) (c : Cls X.K C) (hm : Meth X.K C m f) (F : FnOk X.prog X.w X.K X.mg X.base CX0 k f fd ps sp) (hr : Room k X.A) (hb : KBn X.K fd ps 1 ks g gV) (hkw : PK X kws tk)
    (hall : (backToKw pos (keywordEach kws X.env)).all (·.1.isSome) = true := by rfl) (hks : (backToKw pos (keywordEach kws X.env)).filterMap (·.1) = ks := by rfl)
    (hpl : ((backTo pos (starEach [] X.env)).any (·.1) || (backToKw pos (keywordEach kws X.env)).any (·.1.isNone)) = false := by rfl)
    (ht : eval (.Call (.Attribute o m apos) [] kws pos) X.env = (do
      let ov ← eval o X.env
      standAt apos.atName
      let (f, first) ← holding [ov] (getMethod ov m pl)
      callWith pos f first (backTo pos (starEach [] X.env)) (backToKw pos (keywordEach kws X.env))) := by rfl) :
    PE X (.Call (.Attribute o m apos) [] kws pos) (fun σ H Q => ta σ H fun x H1 => ∃ a dx fs, x = .ref a ∧ H1 a = some (.ins C dx fs) ∧ fs.lookup m = none ∧ tk σ H1 fun zs H2 => zs.length = ks.length ∧ sp (gV [.ref a] zs) H2 Q E0) := by
  refine ⟨fun pins s σ H Q I h => ?_⟩
  refine PySem.W.methodCall_KW (pl := pl) (thn (he.run pins s σ H _ I h) fun u s1 ⟨x, H1, I1, rx, a, dx, fs, ex, ea, l, q⟩ => ?_) ht
  subst ex
  obtain rfl : u = Value.ref a := rx
  refine getmeth_ok I1 ea c hm l (PySem.W.callWith_KW0 (first := [.ref a]) (h₀ := X.base) I.ok.mod.kin hm.kp hall ?_ hpl)
  refine thn (hkw.run pos pins s1 σ H1 _ I1 q) fun ws s2 ⟨zs, H2, I2, rz, l2, q2⟩ => ⟨I2.kIn, ?_⟩
  rw [hks]
  exact run_fnN (us := [.ref a]) (vs := [.ref a]) F hr hb (fun _ _ _ _ _ _ _ h => False.elim h) I2 (.cons rfl .nil) rz rfl l2 q2
end
end KW
set_option Elab.async false
set_option linter.all false
set_option maxRecDepth 100000
set_option maxHeartbeats 4000000
namespace K43
open PySem PySem.Spec PyProof.Rows L2
open C8 (Cal Mak Met pe_c pe_mk pe_mt pe_mt0)
open KM (pr Sz)
/-- what isinstance asks of the class -/
structure IsC (K : PySem.W.Frag) (C : Addr) : Prop where
  ha : PySem.W.findIn K (.ref C) "__class__" = some (some (.builtin "object.__class__"))
  hn : PySem.W.specialIn K (.builtin "object.__class__") "__get__" = some (some (.builtin "getset_descriptor.__get__"))
  htk : PySem.W.takesIn K (.builtin "object.__class__") = some true
  hm : PySem.W.mroIn K C (.type "object") = some true
  kit : PySem.W.kitOne K (.ref C) (.ref C) = some true
theorem bd_of {n : Nat} {r : Rat} (h : Sz n r) : Bd n (pr r) := ⟨h.1, KM.den_pos r, by simpa [pr] using h.2⟩

section
variable {P : Program} {w : World} {K : PySem.W.Frag} {mg : Str → Option Value} {base : Heap} {f C : Addr} {fd : FuncData}
abbrev CalD (P : Program) (w : World) (K : PySem.W.Frag) (mg : Str → Option Value) (base : Heap) : Prop := Cal P w K mg base 1 "_law_draw" spDraw []
def tupP (q : Int × Int) : HO := .tup [.int q.1, .int q.2]
theorem at0 {a b : V} : atI [a, b] 0 = some a := rfl
theorem at1 {a b : V} : atI [a, b] 1 = some b := rfl
def spPair (C : Addr) : Sp := fun vs H Q _ => ∃ (p : Addr) (q : Int × Int), vs = [.ref p] ∧ Sh C H p q ∧ ∀ r H', Same H H' → H r = none → H' r = some (tupP q) → Q (.ref r) H'
theorem ok_pair (F : Dn K d_l_pair f fd) (b : Bl mg) (T : Cl K mg C) (S : IsC K C) : FnOk P w K mg base CX0 1 f fd ["_law_share"] (spPair C) := by
  refine F.ok sc_l_pair (fun vs H Q E h => ?_) (fun cdv A outer s H vs Q E hr h => ?_)
  · obtain ⟨p, q, rfl, _⟩ := h
    rfl
  · obtain ⟨p, q, rfl, ⟨dp, hp⟩, hQ⟩ := h
    refine ⟨_, PSs.nox (pss_cons (ps_if (pt_not (pt_val (pe_callB call_isi rfl b.isi boot_isinstance (pa_cons (pv 0) (pa_cons (pe_glob (v := .ref C) rfl T.g rfl) pa_nil))))) pss_never pss_nil)
      (pss_cons (ps_for PassesOwn.never rfl (pi_tup (pe_tup (pa_cons (pe_fld (pv 0) rfl) (pa_cons (pe_fld (pv 0) rfl) pa_nil)))) (pg_name (i := 1) sc_l_pair.nd rfl (.inl rfl))
        (pss_one (ps_if (PW.pt (pw_or (pt_not (pt_val (pe_callB call_isi rfl b.isi boot_isinstance (pa_cons (pv 1) (pa_cons (pe_bltn (v := .ty "int") rfl b.int boot_int rfl) pa_nil)))))
          (pw_or1 (pt_val (pe_callB call_isi rfl b.isi boot_isinstance (pa_cons (pv 1) (pa_cons (pe_bltn (v := .ty "bool") rfl b.bool boot_bool rfl) pa_nil))))))) pss_never pss_nil)))
      (pss_one (ps_ret (pe_tup (pa_cons (pe_fld (pv 0) rfl) (pa_cons (pe_fld (pv 0) rfl) pa_nil))))))), ?_⟩
    refine ⟨_, rfl, _, _, _, _, true, rfl, ClsV.own C, TyX.base (TyOf.ins hp T.cl S.ha S.hn S.htk S.hm), S.kit, true, rfl, ?_⟩
    refine iteF ?_
    refine ⟨_, rfl, p, C, dp, _, _, rfl, hp, T.cl, T.nt, shF_top q, _, rfl, p, C, dp, _, _, rfl, hp, T.cl, T.nb, shF_bot q, by show 2 ≤ sizeLine; decide, fun u hu => ?_⟩
    have npu : p ≠ u := ne_of_none hp hu
    refine ⟨u, rfl, ⟨_, SqT.of upd_same⟩, for_tup (K := K) (xs := [.int q.1, .int q.2]) (fun i σ H2 => H2 = upd H u (.tup [.int q.1, .int q.2]) ∧ ∃ v, σ = [some (.ref p), v])
      ⟨rfl, none, rfl⟩ (fun i σ H2 _ h => by rw [h.1]; exact SqT.of upd_same) ?_ ?_⟩
    · rintro i y σ H2 hi ⟨rfl, v, rfl⟩
      have hy : ∃ n : Int, y = .int n := by
        match i, hi with
        | 0, e => exact ⟨_, (Option.some.inj e).symm⟩
        | 1, e => exact ⟨_, (Option.some.inj e).symm⟩
      obtain ⟨n, rfl⟩ := hy
      refine ⟨_, rfl, _, _, _, _, true, rfl, ClsV.ty _, TyX.base (TyOf.int n), kit_ty (by decide +kernel), true, rfl, ?_⟩
      refine iteF ?_
      refine ⟨_, rfl, _, _, _, _, false, rfl, ClsV.ty _, TyX.base (TyOf.int n), kit_ty (by decide +kernel), false, rfl, ?_⟩
      exact iteF ⟨rfl, _, rfl⟩
    · rintro σ H2 ⟨rfl, v, rfl⟩
      have hp2 : (upd H u (.tup [.int q.1, .int q.2])) p = some (.ins C dp (shF q)) := by rw [upd_ne npu]; exact hp
      refine ⟨_, rfl, p, C, dp, _, _, rfl, hp2, T.cl, T.nt, shF_top q, _, rfl, p, C, dp, _, _, rfl, hp2, T.cl, T.nb, shF_bot q, by show 2 ≤ sizeLine; decide, fun r hr => ?_⟩
      exact hQ r _ ((same_new hu).trans (same_new hr)) ((same_new hu).free hr) upd_same
abbrev MakS1 (P : Program) (w : World) (K : PySem.W.Frag) (mg : Str → Option Value) (base : Heap) (C : Addr) : Prop := Mak P w K mg base 2 "Share" C (spInit C) [.int 1]
theorem mk_in {C x dx : Addr} {H1 : Hp} {t b : Int} {n : Nat} {Qv : VK} {E : XK} (nx : H1 x = none) (nd : H1 dx = none) (hb : b ≠ 0) (hn : b.natAbs < 2 ^ n) (hn0 : 0 < n) (hn9 : n ≤ 9000)
    (hQ : ∀ H', Same H1 H' → Sh C H' x (pr (Rat.divInt t b)) → Qv .non H') : spInit C [.ref x, .int t, .int b] (upd (upd H1 dx (.own x)) x (.ins C dx [])) Qv E := by
  refine ⟨x, dx, t, b, n, rfl, hb, hn, hn0, hn9, upd_same, fun H' kp hp => hQ H' (fun a o e => ?_) ⟨dx, KM.low_eq hb ▸ hp⟩⟩
  refine kp a o (ne_of_none e nx) ?_
  rw [upd_ne (ne_of_none e nx), upd_ne (ne_of_none e nd)]
  exact e
end
end K43
set_option Elab.async false
set_option linter.all false
set_option maxRecDepth 100000
set_option maxHeartbeats 4000000
/-! NM: the names that a law draws: words by a base, a place, a spot and a way. -/
namespace NM
open PySem PySem.Spec
def ok (l : List Nat) : Prop := 1 ≤ l.length ∧ l.length ≤ 8 ∧ ∀ c ∈ l, 97 ≤ c ∧ c ≤ 122
def words : List (List Nat) := [[108, 97, 116, 101], [105, 110], [111, 117, 116], [114, 105, 100, 101], [104, 97, 110, 100], [108, 97, 99, 107], [121, 101, 115], [110, 111], [110, 97, 109, 101, 115], [103, 111, 110, 101], [116, 101, 120, 116], [112, 108, 97, 110], [117, 110, 100, 111], [117, 115, 117, 97, 108], [98, 97, 99, 107], [108, 101, 97, 118, 101]]
def lets : List Nat := (List.range 26).map (97 + ·)
def w0 (bs : List Nat) (at_ spot k : Nat) : List Nat := bs.take at_ ++ [97 + (spot + 5 * k) % 26] ++ bs.drop (at_ + 1)
def w1 (bs : List Nat) (at_ spot k : Nat) : List Nat := (w0 bs at_ spot k).take (bs.length - k % (bs.length - at_))
def w2 (spot k : Nat) : List Nat := (List.replicate 8 (97 + (spot + k / 8) % 26)).take (k % 8 + 1)
def w3 (spot k : Nat) : List Nat := words.getD ((spot + k) % 16) []
def word (bs : List Nat) (at_ spot way k : Nat) : List Nat := if way = 1 then w1 bs at_ spot k else if way = 2 then w2 spot k else if way = 3 then w3 spot k else w0 bs at_ spot k
theorem words_ok : ∀ i, i < 16 → ok (words.getD i []) := by
  have : ∀ i : Fin 16, 1 ≤ (words.getD i.1 []).length ∧ (words.getD i.1 []).length ≤ 8 ∧ (words.getD i.1 []).all (fun c => decide (97 ≤ c ∧ c ≤ 122)) = true := by decide +kernel
  intro i hi
  obtain ⟨h1, h2, h3⟩ := this ⟨i, hi⟩
  refine ⟨h1, h2, fun c hc => ?_⟩
  have := List.all_eq_true.mp h3 c hc
  exact of_decide_eq_true this
theorem words_inj : ∀ i j, i < 16 → j < 16 → words.getD i [] = words.getD j [] → i = j := by
  have : ∀ i j : Fin 16, words.getD i.1 [] = words.getD j.1 [] → i = j := by decide +kernel
  intro i j hi hj e
  exact congrArg Fin.val (this ⟨i, hi⟩ ⟨j, hj⟩ e)
section
variable {bs : List Nat} {at_ spot k : Nat}
theorem w0_len (h : at_ < bs.length) : (w0 bs at_ spot k).length = bs.length := by
  unfold w0
  simp only [List.length_append, List.length_take, List.length_drop, List.length_cons, List.length_nil]
  omega
theorem w0_at (h : at_ < bs.length) : (w0 bs at_ spot k)[at_]? = some (97 + (spot + 5 * k) % 26) := by
  unfold w0
  rw [List.append_assoc, List.getElem?_append_right (by rw [List.length_take]; omega), List.length_take, Nat.min_eq_left (by omega), Nat.sub_self]
  rfl
theorem w0_mem (hb : ∀ c ∈ bs, 97 ≤ c ∧ c ≤ 122) : ∀ c ∈ w0 bs at_ spot k, 97 ≤ c ∧ c ≤ 122 := by
  intro c hc
  unfold w0 at hc
  rcases List.mem_append.mp hc with hc | hc
  · rcases List.mem_append.mp hc with hc | hc
    · exact hb c (List.mem_of_mem_take hc)
    · rw [List.mem_singleton] at hc
      omega
  · exact hb c (List.mem_of_mem_drop hc)
theorem w1_len (h : at_ < bs.length) : at_ + 1 ≤ (w1 bs at_ spot k).length ∧ (w1 bs at_ spot k).length ≤ bs.length := by
  unfold w1
  rw [List.length_take, w0_len h]
  have := Nat.mod_lt k (show 0 < bs.length - at_ by omega)
  omega
theorem w1_at (h : at_ < bs.length) : (w1 bs at_ spot k)[at_]? = some (97 + (spot + 5 * k) % 26) := by
  have h1 := (w1_len (spot := spot) (k := k) h).1
  unfold w1 at h1 ⊢
  rw [List.length_take, w0_len h] at h1
  rw [List.getElem?_take_of_lt (by omega)]
  exact w0_at h
theorem spot_inj {i j : Nat} (hi : i < 16) (hj : j < 16) (e : 97 + (spot + 5 * i) % 26 = 97 + (spot + 5 * j) % 26) : i = j := by omega
theorem word_ok (hb0 : 1 ≤ bs.length) (hb8 : bs.length ≤ 8) (hb : ∀ c ∈ bs, 97 ≤ c ∧ c ≤ 122) (h : at_ < bs.length) (way : Nat) : ok (word bs at_ spot way k) := by
  unfold word
  split
  · have := w1_len (spot := spot) (k := k) h
    exact ⟨by omega, by omega, fun c hc => w0_mem hb c (List.mem_of_mem_take hc)⟩
  split
  · unfold w2
    refine ⟨by rw [List.length_take, List.length_replicate]; omega, by rw [List.length_take, List.length_replicate]; omega, fun c hc => ?_⟩
    have := List.eq_of_mem_replicate (List.mem_of_mem_take hc)
    omega
  split
  · exact words_ok _ (Nat.mod_lt _ (by decide))
  · exact ⟨by rw [w0_len h]; exact hb0, by rw [w0_len h]; exact hb8, w0_mem hb⟩
theorem word_inj (h : at_ < bs.length) (way : Nat) {i j : Nat} (hi : i < 16) (hj : j < 16) (e : word bs at_ spot way i = word bs at_ spot way j) : i = j := by
  unfold word at e
  split at e
  · have h1 := w1_at (spot := spot) (k := i) h
    rw [e, w1_at h] at h1
    exact (spot_inj hj hi (Option.some.inj h1)).symm
  split at e
  · unfold w2 at e
    have hl := congrArg List.length e
    rw [List.length_take, List.length_take, List.length_replicate, List.length_replicate] at hl
    have h0 : ((List.replicate 8 (97 + (spot + i / 8) % 26)).take (i % 8 + 1))[0]? = ((List.replicate 8 (97 + (spot + j / 8) % 26)).take (j % 8 + 1))[0]? := by rw [e]
    rw [List.getElem?_take_of_lt (by omega), List.getElem?_take_of_lt (by omega), List.getElem?_replicate, List.getElem?_replicate, if_pos (by decide), if_pos (by decide)] at h0
    have := Option.some.inj h0
    omega
  split at e
  · have := words_inj _ _ (Nat.mod_lt _ (by decide)) (Nat.mod_lt _ (by decide)) e
    omega
  · have h1 := w0_at (spot := spot) (k := i) h
    rw [e, w0_at h] at h1
    exact (spot_inj hj hi (Option.some.inj h1)).symm
/-- as many as are asked: unlike ones -/
theorem all_unlike (h : at_ < bs.length) (way n : Nat) (hn : n ≤ 16) : ((List.range n).map (word bs at_ spot way)).Pairwise (· ≠ ·) := by
  rw [List.pairwise_map]
  refine (List.pairwise_lt_range (n := n)).imp_of_mem fun {a b} ha hb hlt e => ?_
  have := word_inj h way (by have := List.mem_range.mp ha; omega) (by have := List.mem_range.mp hb; omega) e
  omega
end
end NM
set_option Elab.async false
set_option linter.all false
set_option maxRecDepth 100000
set_option maxHeartbeats 4000000
/-! NH: the names that a law with a held dict draws. -/
namespace NH
open PySem PySem.Spec
def word (bs : List Nat) (at_ begin_ step lot k : Nat) : List Nat := bs.take at_ ++ [97 + (begin_ + step * k) % 26] ++ (bs.drop at_).take (if lot = 0 then 8 else k % (bs.length - at_ + 1))
def steps : List Nat := [1, 3, 5, 7, 9, 11, 15, 17]
section
variable {bs : List Nat} {at_ begin_ step lot k : Nat}
theorem word_at (h : at_ ≤ bs.length) : (word bs at_ begin_ step lot k)[at_]? = some (97 + (begin_ + step * k) % 26) := by
  unfold word
  rw [List.append_assoc, List.getElem?_append_right (by rw [List.length_take]; omega), List.length_take, Nat.min_eq_left h, Nat.sub_self]
  rfl
theorem step_inj {i j : Nat} (hs : step ∈ steps) (hi : i < 13) (hj : j < 13) (e : 97 + (begin_ + step * i) % 26 = 97 + (begin_ + step * j) % 26) : i = j := by
  simp only [steps, List.mem_cons, List.not_mem_nil, or_false] at hs
  rcases hs with rfl | rfl | rfl | rfl | rfl | rfl | rfl | rfl <;> omega
theorem word_inj (h : at_ ≤ bs.length) (hs : step ∈ steps) {i j : Nat} (hi : i < 13) (hj : j < 13) (e : word bs at_ begin_ step lot i = word bs at_ begin_ step lot j) : i = j := by
  have h1 := word_at (begin_ := begin_) (step := step) (lot := lot) (k := i) h
  rw [e, word_at h] at h1
  exact (step_inj hs hj hi (Option.some.inj h1)).symm
theorem word_ok (h8 : bs.length ≤ 7) (hb : ∀ c ∈ bs, 97 ≤ c ∧ c ≤ 122) (h : at_ ≤ bs.length) : NM.ok (word bs at_ begin_ step lot k) := by
  unfold word
  refine ⟨?_, ?_, fun c hc => ?_⟩
  · simp only [List.length_append, List.length_take, List.length_drop, List.length_cons, List.length_nil]
    omega
  · simp only [List.length_append, List.length_take, List.length_drop, List.length_cons, List.length_nil]
    omega
  · rcases List.mem_append.mp hc with hc | hc
    · rcases List.mem_append.mp hc with hc | hc
      · exact hb c (List.mem_of_mem_take hc)
      · rw [List.mem_singleton] at hc
        omega
    · exact hb c (List.mem_of_mem_drop (List.mem_of_mem_take hc))
theorem all_unlike (h : at_ ≤ bs.length) (hs : step ∈ steps) (n : Nat) (hn : n ≤ 13) : ((List.range n).map (word bs at_ begin_ step lot)).Pairwise (· ≠ ·) := by
  rw [List.pairwise_map]
  refine (List.pairwise_lt_range (n := n)).imp_of_mem fun {a b} ha hb hlt e => ?_
  have := word_inj h hs (by have := List.mem_range.mp ha; omega) (by have := List.mem_range.mp hb; omega) e
  omega
end
end NH
set_option Elab.async false
set_option linter.all false
set_option maxRecDepth 100000
set_option maxHeartbeats 4000000
namespace K43
open PySem PySem.Spec PyProof.Rows L2
open C8 (Cal Mak Met pe_c pe_mk pe_mt pe_mt0)
open SX (S)
theorem lets_S : (Str.ofString "abcdefghijklmnopqrstuvwxyz").cps.toList = NM.lets := by decide +kernel
theorem at_lets {x : Int} {j : Nat} (e : x = (j : Int)) (hj : j < 26) : atI (Str.ofString "abcdefghijklmnopqrstuvwxyz").cps.toList x = some (97 + j) := by
  rw [e, lets_S]
  refine atI_nat ?_
  unfold NM.lets
  rw [List.getElem?_map, List.getElem?_range hj]
  rfl
theorem cut_t {l : List Nat} {x : Int} {j : Nat} (e : x = (j : Int)) (h : j ≤ l.length) : cutS (S l) none (some x) = S (l.take j) := by
  rw [e]
  unfold cutS
  rw [HT.sIx_nat, HT.sIx_none, SX.S_len, Nat.min_eq_left h]
  simp [S]
theorem cut_m {l : List Nat} {x y : Int} {j m : Nat} (e : x = (j : Int)) (e2 : y = ((j + m : Nat) : Int)) (h : j ≤ l.length) : cutS (S l) (some x) (some y) = S ((l.drop j).take m) := by
  rw [e, e2]
  unfold cutS
  rw [HT.sIx_nat, HT.sIx_nat, SX.S_len, Nat.min_eq_left h]
  have e3 : (l.drop j).take (min (j + m) l.length - j) = (l.drop j).take m := by
    by_cases c : j + m ≤ l.length
    · rw [Nat.min_eq_left c, Nat.add_sub_cancel_left]
    · rw [Nat.min_eq_right (by omega), List.take_of_length_le (Nat.le_of_eq (List.length_drop ..)), List.take_of_length_le (by rw [List.length_drop]; omega)]
  simp [S, e3]
theorem ones : ∀ bs : List Nat, ((bs.map fun c => S [c]).map (·.length)).sum = bs.length
  | [] => rfl
  | b :: bs => by
    rw [List.map_cons, List.map_cons, List.sum_cons, ones bs, List.length_cons, SX.S_len]
    simp
    omega
theorem joined : ∀ bs : List Nat, TL.joinL [] (bs.map fun c => [c]) = bs
  | [] => rfl
  | [b] => rfl
  | b :: d :: bs => by
    have := joined (d :: bs)
    simp only [List.map_cons, TL.joinL] at this ⊢
    simp [this]
theorem Held.ne_new {H : Hp} {h u : Addr} {c : Nat} (x : Held H h c) (e : H u = none) : u ≠ h := by
  obtain ⟨l, ns, n, m, h1, _⟩ := x
  exact (ne_of_none h1 e).symm
/-- the held dict's cells aren't at D -/
def Cel (h D : Addr) (H : Hp) : Prop := ∃ la n m, H h = some (.dK (hd0 la n m)) ∧ la ≠ D ∧ h ≠ D
theorem Cel.kp {h D : Addr} {H H' : Hp} (x : Cel h D H) (k : Kp h H H') : Cel h D H' := by
  obtain ⟨la, n, m, e, n1, n2⟩ := x
  obtain ⟨n', m', e'⟩ := k.2 _ _ _ e
  exact ⟨la, n', m', e', n1, n2⟩
theorem Cel.of {h D : Addr} {H : Hp} {c : Nat} (x : Held H h c) (f : H D = none) : Cel h D H := by
  obtain ⟨la, ns, n, m, e1, e2, _⟩ := x
  exact ⟨la, n, m, e1, ne_of_none e2 f, ne_of_none e1 f⟩
theorem Cel.ne {h D : Addr} {H : Hp} (x : Cel h D H) : D ≠ h := by
  obtain ⟨_, _, _, _, _, n⟩ := x
  exact n.symm
theorem Held.put {h D : Addr} {H : Hp} {o : HO} {c : Nat} (x : Held H h c) (y : Cel h D H) : Held (upd H D o) h c := by
  obtain ⟨la, ns, n, m, e1, e2, e3⟩ := x
  obtain ⟨la', n', m', e', n1, n2⟩ := y
  cases hd_inj (Option.some.inj (e1.symm.trans e'))
  exact ⟨la, ns, n, m, by rw [upd_ne n2]; exact e1, by rw [upd_ne n1]; exact e2, e3⟩
theorem Cel.put {h D D' : Addr} {H : Hp} {o : HO} (x : Cel h D H) (n : h ≠ D') : Cel h D (upd H D' o) := by
  obtain ⟨la', n', m', e', n1, n2⟩ := x
  exact ⟨la', n', m', by rw [upd_ne n]; exact e', n1, n2⟩
theorem Kp.new {h st : Addr} {H1 H2 : Hp} {o : HO} (k : Kp h H1 H2) (f : H1 st = none) : Kp h H1 (upd H2 st o) :=
  ⟨fun b u e ne => by rw [upd_ne (ne_of_none e f)]; exact k.1 b u e ne, fun l n m e => by
    obtain ⟨n', m', e'⟩ := k.2 l n m e
    exact ⟨n', m', by rw [upd_ne (ne_of_none e f)]; exact e'⟩⟩
theorem pick {α : Type} (g : α → V) {L : List α} {i : Int} (i0 : 0 ≤ i) (i1 : i < (L.length : Int)) : ∃ x ∈ L, atI (L.map g) i = some (g x) := by
  obtain ⟨j, rfl⟩ := Int.eq_ofNat_of_zero_le i0
  have hj : j < L.length := by omega
  exact ⟨L[j], List.getElem_mem hj, atI_nat (j := j) (by rw [List.getElem?_map, List.getElem?_eq_getElem hj]; rfl)⟩
section
variable {P : Program} {w : World} {K : PySem.W.Frag} {mg : Str → Option Value} {base : Heap} {f C : Addr} {fd : FuncData}
def spNames : Sp := fun vs H Q _ => ∃ (h : Addr) (c n : Nat), vs = [.ref h, .int n] ∧ Held H h (c + 40) ∧ n ≤ 13 ∧
  ∀ (o : Addr) (zs : List (List Nat)) (H' : Hp), Held H' h c → Kp h H H' → H o = none → H' o = some (.lst (zs.map fun l => V.str (S l))) → zs.length = n → (∀ z ∈ zs, NM.ok z) → zs.Pairwise (· ≠ ·) → Q (.ref o) H'
theorem ok_names (F : Dn K d_l_names f fd) (bl : Bl mg) (cD : CalD P w K mg base) : FnOk P w K mg base CX0 2 f fd ["_law_held_here", "_law_many"] spNames := by
  refine F.ok sc_l_names (fun vs H Q E h => ?_) (fun cdv A outer s H vs Q E hr h => ?_)
  · obtain ⟨p, c, n, rfl, _⟩ := h
    rfl
  · obtain ⟨p, c, n, rfl, pen, hn, hQ⟩ := h
    refine ⟨_, PSs.nox (pss_cons (ps_set (i := 2) sc_l_names.nd rfl (.inr rfl) pe_str)
      (pss_cons (ps_set (i := 3) sc_l_names.nd rfl (.inl rfl) (pe_c cD hr (by decide) rfl (pa_cons (pv 0) (pa_cons pe_int pa_nil))))
      (C8.pss_cut (ps_set (i := 5) sc_l_names.nd rfl (.inl rfl) (pe_join pe_str (pe_lc (own := [("_law_k", 4)]) (g := gName 4) (tt := tYes) rfl sc_l_names.nd (pi_range1 rfl bl.range (pa_cons (pv 3) pa_nil)) (blkOk_by (N := N_l_names) (sc := defScope s_l_names) (by decide +kernel))
          (fun _ _ _ _ _ => pg_name (i := 4) sc_l_names.nd rfl (Or.inl rfl)) (fun _ _ _ _ _ => pts_nil) (fun _ _ _ _ _ => pe_ix ix_str (pv 2) (pe_c cD hr (by decide) rfl (pa_cons (pv 0) (pa_cons pe_int pa_nil))) (fun _ _ => rfl)))))
      (pss_cons (ps_par (i := 6) (j := 7) rfl sc_l_names.nd rfl rfl (by decide) rfl rfl (pa_cons (pe_c cD hr (by decide) rfl (pa_cons (pv 0) (pa_cons (pe_op op_add (pv 3) pe_int) pa_nil))) (pa_cons (pe_c cD hr (by decide) rfl (pa_cons (pv 0) (pa_cons pe_int pa_nil))) pa_nil)) rfl)
      (pss_cons (ps_par (i := 8) (j := 9) rfl sc_l_names.nd rfl rfl (by decide) rfl rfl (pa_cons (pe_ix ix_list (pe_lst (pa_cons pe_int (pa_cons pe_int (pa_cons pe_int (pa_cons pe_int (pa_cons pe_int (pa_cons pe_int (pa_cons pe_int (pa_cons pe_int pa_nil))))))))) (pe_c cD hr (by decide) rfl (pa_cons (pv 0) (pa_cons pe_int pa_nil))) (fun _ _ => rfl)) (pa_cons (pe_c cD hr (by decide) rfl (pa_cons (pv 0) (pa_cons pe_int pa_nil))) pa_nil)) rfl)
      (pss_cons (ps_set (i := 10) sc_l_names.nd rfl (.inl rfl) (pe_lst pa_nil))
      (pss_cons (ps_for PassesOwn.never rfl (pi_range1 rfl bl.range (pa_cons (pv 1) pa_nil)) (pg_name (i := 4) sc_l_names.nd rfl (.inl rfl))
        (C8.pss_cut (ps_set (i := 11) sc_l_names.nd rfl (.inl rfl) (pe_slice sl_str (pv 5) (po_some (pv 6)) (po_some (pe_op op_add (pv 6) (pe_ix ix_list (pe_lst (pa_cons pe_int (pa_cons (pe_op op_mod (pv 4) (pe_op op_add (pe_op op_sub (pv 3) (pv 6)) pe_int)) pa_nil))) (pv 9) (fun _ _ => rfl))))))
        (pss_one (ps_expr (pe_bm PySem.F.plainAttrs_list PySem.F.slot_list_append PySem.F.type_list_append mt_append (pv 10) (pa_cons (pe_op op_add_str (pe_op op_add_str (pe_slice sl_str (pv 5) po_none (po_some (pv 6))) (pe_ix ix_str (pv 2) (pe_op op_mod (pe_op op_add (pv 7) (pe_op op_mul (pv 8) (pv 4))) pe_int) (fun _ _ => rfl))) (pv 11)) pa_nil))))))
      (pss_one (ps_ret (pv 10)))))))))), ?_⟩
    -- the size
    refine ⟨_, rfl, p, c + 39, _, rfl, pen, by decide, by decide, fun z0 H2 a2 b2 pen2 k2 => ?_⟩
    obtain ⟨sz, rfl⟩ := Int.eq_ofNat_of_zero_le a2
    have sz7 : sz ≤ 7 := by omega
    -- the base
    refine ⟨fun σ' H' => ∃ bs : List Nat, σ' = [some (.ref p), some (.int n), some (.str (Str.ofString "abcdefghijklmnopqrstuvwxyz")), some (.int (sz : Int)), none, some (.str (S bs)), none, none, none, none, none, none] ∧ bs.length = sz ∧ (∀ c ∈ bs, 97 ≤ c ∧ c ≤ 122) ∧
      Held H' p (c + 30) ∧ Kp p H H', ?_, ?_⟩
    · refine ⟨⟨_, rfl⟩, _, rfl, _, rfl, by omega, by omega, ?_⟩
      rw [Int.toNat_natCast]
      intro D hD
      have offD := Cel.of pen2 hD
      have sD := same_new (o := .lst []) hD
      refine lc_range (n := sz) (fun i H3 => ∃ bs : List Nat, bs.length = i ∧ (∀ c ∈ bs, 97 ≤ c ∧ c ≤ 122) ∧ H3 D = some (.lst (bs.map fun c => V.str (S [c]))) ∧ Held H3 p (c + 39 - i) ∧ Kp p H2 H3 ∧ Cel p D H3) ?_ ?_ ?_
      · exact ⟨[], rfl, by simp, upd_same, pen2.same sD, Kp.same sD, offD.kp (Kp.same sD)⟩
      · rintro i H3 hi ⟨bs, hbl, hbc, hd, pen3, k3, off3⟩
        refine ⟨rfl, ?_⟩
        refine ⟨_, rfl, _, rfl, p, c + 39 - (i + 1), _, rfl, pen3.weak (by omega), by decide, by decide, fun r H4 r0 r1 pen4 k4 => ?_⟩
        obtain ⟨rn, rfl⟩ := Int.eq_ofNat_of_zero_le r0
        have hd4 := k4.1 _ _ hd off3.ne
        have off4 := off3.kp k4
        refine ⟨_, _, 97 + rn, rfl, rfl, by decide +kernel, at_lets rfl (by omega), _, hd4, ?_, bs ++ [97 + rn], by simp [hbl], ?_, ?_, pen4.put off4, (k3.trans k4).new hD, ?_⟩
        · rw [List.length_map, hbl]
          exact Nat.lt_of_lt_of_le (by omega : i < 64) (by decide)
        · intro c' hc'
          rcases List.mem_append.mp hc' with hc' | hc'
          · exact hbc c' hc'
          · rw [List.mem_singleton] at hc'
            omega
        · rw [upd_same]
          simp [S]
        · exact off4.put off4.ne.symm
      · rintro H3 ⟨bs, hbl, hbc, hd, pen3, k3, off3⟩
        have ey : (bs.map fun c => V.str (S [c])) = (bs.map fun c => S [c]).map V.str := by rw [List.map_map]; rfl
        refine ⟨_, D, bs.map fun c => S [c], rfl, rfl, .inl (by rw [← ey]; exact SqL.of hd), ?_, bs, ?_, hbl, hbc, pen3.weak (by omega), k2.trans k3⟩
        · rw [ones bs, List.length_map]
          have e2 : (Str.ofString "").length = 0 := by decide +kernel
          rw [e2, hbl]
          omega
        · have e3 : Txt.join (Str.ofString "") (bs.map fun c => S [c]) = S bs := by
            have e4 : Str.ofString "" = S [] := by decide +kernel
            have e5 : (bs.map fun c => S [c]) = (bs.map fun c => [c]).map S := by rw [List.map_map]; rfl
            rw [e4, e5, SX.join_S, joined]
          rw [e3]
          rfl
    clear pen pen2 k2
    rintro σ' H3 ⟨bs, rfl, hbl, hbc, pen3, k3⟩
    refine ⟨_, rfl, _, rfl, _, _, rfl, rfl, p, c + 29, _, rfl, pen3, by omega, by omega, fun at_ H4 a4 b4 pen4 k4 => ?_⟩
    refine ⟨_, rfl, p, c + 28, _, rfl, pen4, by decide, by decide, fun bg H5 a5 b5 pen5 k5 => ⟨_, _, rfl, ?_⟩⟩
    refine ⟨by show 8 ≤ sizeLine; decide, fun u fu => ?_⟩
    have su := same_new (o := .lst [.int 1, .int 3, .int 5, .int 7, .int 9, .int 11, .int 15, .int 17]) fu
    refine ⟨_, rfl, p, c + 27, 8, rfl, pen5.same su, by decide, by decide, fun q6 H6 a6 b6 pen6 k6 => ?_⟩
    have hu6 := k6.1 u _ upd_same (pen5.ne_new fu)
    obtain ⟨st, hst, est⟩ := pick (fun n : Nat => V.int (n : Int)) (L := NH.steps) a6 (by simpa [NH.steps] using b6)
    refine ⟨u, _, _, _, rfl, rfl, SqL.of hu6, est, ?_⟩
    refine ⟨_, rfl, p, c + 26, 2, rfl, pen6, by decide, by decide, fun lot H7 a7 b7 pen7 k7 => ⟨_, _, rfl, ?_⟩⟩
    obtain ⟨at_, rfl⟩ := Int.eq_ofNat_of_zero_le a4
    obtain ⟨bg, rfl⟩ := Int.eq_ofNat_of_zero_le a5
    obtain ⟨lot, rfl⟩ := Int.eq_ofNat_of_zero_le a7
    have hat : at_ ≤ bs.length := by omega
    have k07 := ((k3.trans k4).trans k5).trans (((Kp.same su).trans k6).trans k7)
    have st17 : st ≤ 17 := by
      simp only [NH.steps, List.mem_cons, List.not_mem_nil, or_false] at hst
      omega
    clear k3 k4 k5 k6 k7 su pen3 pen4 pen5 pen6
    refine ⟨by show 0 ≤ sizeLine; decide, fun o fo => ?_⟩
    have so := same_new (o := .lst []) fo
    refine ⟨_, rfl, _, rfl, by omega, by omega, ?_⟩
    rw [Int.toNat_natCast]
    have fo0 : H o = none := by
      cases e : H o with
      | none => rfl
      | some ob =>
        by_cases z : o = p
        · rw [z] at fo
          obtain ⟨l0, ns0, n0, m0, h0, _⟩ := pen7
          rw [h0] at fo
          cases fo
        · rw [k07.1 o ob e z] at fo
          cases fo
    refine for_range (n := n) (fun i σ H8 => ∃ (v4 v11 : Option V), σ = [some (.ref p), some (.int n), some (.str (Str.ofString "abcdefghijklmnopqrstuvwxyz")), some (.int (sz : Int)), v4, some (.str (S bs)), some (.int (at_ : Int)), some (.int (bg : Int)), some (.int (st : Int)), some (.int (lot : Int)), some (.ref o), v11] ∧
        H8 o = some (.lst (((List.range i).map (NH.word bs at_ bg st lot)).map fun l => V.str (S l))) ∧ Held H8 p c ∧ Kp p H H8 ∧ Cel p o H8)
      ⟨none, none, rfl, upd_same, (pen7.same so).weak (by omega), k07.trans (Kp.same so), (Cel.of pen7 fo).kp (Kp.same so)⟩ ?_ ?_
    · rintro i σ H8 hi ⟨v4, v11, rfl, ho8, pen8, k8, off8⟩
      have len0 : (S bs).length ≤ sizeLine := by rw [SX.S_len]; exact Nat.le_trans (by omega : bs.length ≤ 8) (by decide)
      have lets_len : (Str.ofString "abcdefghijklmnopqrstuvwxyz").length ≤ sizeLine := by decide +kernel
      obtain ⟨m, hm⟩ : ∃ m : Nat, (if lot = 0 then 8 else i % (bs.length - at_ + 1)) = m := ⟨_, rfl⟩
      refine ⟨fun σ' H' => σ' = [some (.ref p), some (.int n), some (.str (Str.ofString "abcdefghijklmnopqrstuvwxyz")), some (.int (sz : Int)), some (.int (0 + (i : Int))), some (.str (S bs)), some (.int (at_ : Int)), some (.int (bg : Int)), some (.int (st : Int)), some (.int (lot : Int)), some (.ref o), some (.str (S ((bs.drop at_).take m)))] ∧ Same H8 H', ?_, ?_⟩
      · refine ⟨_, rfl, _, rfl, _, rfl, _, rfl, _, rfl, _, rfl, _, rfl, _, _, rfl, rfl, _, _, rfl, rfl, _, _, rfl, rfl, by omega, by show 2 ≤ sizeLine; decide, fun u2 fu2 => ?_⟩
        have eix : atI [V.int 8, .int ((0 + (i : Int)) % ((sz : Int) - (at_ : Int) + 1))] (lot : Int) = some (.int (m : Nat)) := by
          rcases (show lot = 0 ∨ lot = 1 by omega) with rfl | rfl
          · rw [← hm]
            rfl
          · have h1 : ((sz : Int) - (at_ : Int) + 1) = ((bs.length - at_ + 1 : Nat) : Int) := by omega
            rw [h1, Int.zero_add, ← Int.natCast_emod, ← hm]
            rfl
        refine ⟨_, rfl, u2, _, _, _, rfl, rfl, SqL.of upd_same, eix, _, _, rfl, rfl, _, rfl, _, rfl, len0, ?_⟩
        rw [cut_m (j := at_) (m := m) rfl (by omega) hat]
        exact ⟨rfl, same_new fu2⟩
      · rintro σ' H9 ⟨rfl, s9⟩
        have ho9 := s9 _ _ ho8
        have e5 : ((bg : Int) + (st : Int) * (0 + (i : Int))) % 26 = (((bg + st * i) % 26 : Nat) : Int) := by
          rw [Int.zero_add, ← Int.natCast_mul, ← Int.natCast_add]
          exact (Int.natCast_emod _ 26).symm
        refine ⟨_, rfl, Or.inl ⟨rfl, _, SqL.of ho9⟩, _, rfl, _, rfl, _, rfl, _, rfl, len0, ?_⟩
        rw [cut_t rfl hat]
        refine ⟨_, rfl, _, rfl, _, rfl, _, rfl, _, _, rfl, rfl, cb_l (by omega) (by omega), _, _, rfl, rfl, _, _, rfl, rfl, (by decide : (0 : Int) < 26), _, _, _, rfl, rfl, lets_len, at_lets e5 (Nat.mod_lt _ (by decide)), _, _, rfl, rfl, ?_, ?_⟩
        · rw [SX.S_len, List.length_take]
          exact Nat.le_trans (by show min at_ bs.length + 1 ≤ 64; omega) (by decide)
        have ec : S (bs.take at_) ++ (⟨#[97 + (bg + st * i) % 26]⟩ : Str) = S (bs.take at_ ++ [97 + (bg + st * i) % 26]) := SX.S_cat _ _
        rw [ec]
        refine ⟨_, rfl, _, _, rfl, rfl, ?_, ?_⟩
        · rw [SX.S_len, SX.S_len, List.length_append, List.length_take, List.length_take, List.length_drop]
          exact Nat.le_trans (by show min at_ bs.length + 1 + min m (bs.length - at_) ≤ 64; omega) (by decide)
        rw [SX.S_cat]
        have ew : bs.take at_ ++ [97 + (bg + st * i) % 26] ++ (bs.drop at_).take m = NH.word bs at_ bg st lot i := by rw [← hm]; rfl
        rw [ew]
        refine ⟨o, _, _, rfl, rfl, ho9, ?_, _, _, rfl, ?_, (pen8.same s9).put (off8.kp (Kp.same s9)), (k8.trans (Kp.same s9)).new fo0, (off8.kp (Kp.same s9)).put off8.ne.symm⟩
        · rw [List.length_map, List.length_map, List.length_range]
          exact Nat.lt_of_lt_of_le (by omega : i < 64) (by decide)
        · rw [upd_same, List.range_succ, List.map_append, List.map_append]
          rfl
    · rintro σ H8 ⟨v4, v11, rfl, ho8, pen8, k8, off8⟩
      refine ⟨_, rfl, hQ o _ H8 pen8 k8 fo0 ho8 (by simp) (fun z hz => ?_) (NH.all_unlike hat hst n hn)⟩
      obtain ⟨k, _, rfl⟩ := List.mem_map.mp hz
      exact NH.word_ok (by omega) hbc hat
end
end K43
set_option Elab.async false
set_option linter.all false
set_option maxRecDepth 100000
set_option maxHeartbeats 4000000
namespace K43
open PySem PySem.Spec PyProof.Rows L2
open C8 (Cal Mak Met pe_c pe_mk pe_mt pe_mt0)
/-- a day: unlike names of the order -/
structure DayOk (xs R : List Str) : Prop where
  ne : R ≠ []
  nd : R.Nodup
  sub : ∀ y ∈ R, y ∈ xs
  ln : R.length ≤ xs.length
theorem map_eraseIdx' {α β : Type} {g : α → β} : ∀ {xs : List α} {q : Nat}, (xs.map g).eraseIdx q = (xs.eraseIdx q).map g
  | [], _ => rfl
  | _ :: _, 0 => rfl
  | x :: xs, q + 1 => by simp [map_eraseIdx' (xs := xs) (q := q)]
theorem perm_eraseIdx {α : Type} : ∀ {xs : List α} {q : Nat} (h : q < xs.length), xs.Perm (xs[q] :: xs.eraseIdx q)
  | x :: xs, 0, _ => by simp
  | x :: xs, q + 1, h => by
    have hq : q < xs.length := by simpa using h
    simp only [List.getElem_cons_succ, List.eraseIdx_cons_succ]
    exact ((perm_eraseIdx hq).cons x).trans (List.Perm.swap _ _ _)
theorem Kp.free {h t : Addr} {H H' : Hp} {c : Nat} (k : Kp h H H') (pn : Held H' h c) (f : H' t = none) : H t = none := by
  cases e : H t with
  | none => rfl
  | some o =>
    by_cases z : t = h
    · rw [z] at f
      obtain ⟨l, ns, n, m, h1, _⟩ := pn
      rw [h1] at f
      cases f
    · rw [k.1 t o e z] at f
      cases f
theorem Kp.pin {h t : Addr} {H H' : Hp} {c : Nat} {xs : List V} (k : Kp h H H') (x : Held H h c) (p : PIN.PinT H t xs) : PIN.PinT H' t xs := by
  obtain ⟨od, e, r⟩ := p
  obtain ⟨l, ns, n, m, h1, _⟩ := x
  exact ⟨od, k.1 _ _ e (fun z => by rw [z, h1] at e; cases e), r⟩
theorem Kp.tupS {K : PySem.W.Frag} {h t : Addr} {H H' : Hp} {c : Nat} {xs : List V} (k : Kp h H H') (x : Held H h c) (e : H t = some (.tup xs)) : H' t = some (.tup xs) := by
  obtain ⟨l, ns, n, m, h1, _⟩ := x
  exact k.1 t _ e (ne_of e h1 (by intro z; cases z))
section
variable {P : Program} {w : World} {K : PySem.W.Frag} {mg : Str → Option Value} {base : Heap} {f C : Addr} {fd : FuncData}
def spDay : Sp := fun vs H Q _ => ∃ (h ot : Addr) (c : Nat) (xs : List Str), vs = [.ref h, .ref ot] ∧ Held H h (c + 20) ∧ PIN.PinT H ot (xs.map V.str) ∧ xs ≠ [] ∧ xs.Nodup ∧ xs.length ≤ 13 ∧
  ∀ (o : Addr) (R : List Str) (H' : Hp), Held H' h c → Kp h H H' → H o = none → H' o = some (.lst (R.map V.str)) → DayOk xs R → Q (.ref o) H'
theorem ok_day (F : Dn K d_l_day f fd) (bl : Bl mg) (bmin : mg "min" = none) (cD : CalD P w K mg base) : FnOk P w K mg base CX0 2 f fd ["_law_held_here", "_law_order"] spDay := by
  refine F.ok sc_l_day (fun vs H Q E h => ?_) (fun cdv A outer s H vs Q E hr h => ?_)
  · obtain ⟨h, ot, c, xs, rfl, _⟩ := h
    rfl
  · obtain ⟨h, ot, c, xs, rfl, hld, hot, xne, xnd, xlen, hQ⟩ := h
    refine ⟨_, PSs.nox (pss_cons (ps_set (i := 2) sc_l_day.nd rfl (.inl rfl) (pe_op op_add pe_int (pe_c cD hr (by decide) rfl (pa_cons (pv 0) (pa_cons (pe_callB call_len_seq rfl bl.len boot_len (pa_cons (pv 1) pa_nil)) pa_nil)))))
      (C8.pss_cut (ps_if (PW.pt (pw_and (pt_cmpR op_eq (pv 2) pe_int (nomark _)) (pw_and1 (pt_cmpR op_gt (pe_c cD hr (by decide) rfl (pa_cons (pv 0) (pa_cons pe_int pa_nil))) pe_int (nomark _)))))
        (pss_one (ps_set (i := 2) sc_l_day.nd rfl (.inl rfl) (pe_callB (call_min2 rfl) rfl bmin boot_min (pa_cons pe_int (pa_cons (pe_callB call_len_seq rfl bl.len boot_len (pa_cons (pv 1) pa_nil)) pa_nil))))) pss_nil)
      (pss_cons (ps_par (i := 3) (j := 4) rfl sc_l_day.nd rfl rfl (by decide) rfl rfl (pa_cons (pe_callTy call_list_of rfl bl.list boot_list (pa_cons (pv 1) pa_nil)) (pa_cons (pe_lst pa_nil) pa_nil)) rfl)
      (pss_cons (ps_for PassesOwn.never rfl (pi_range1 rfl bl.range (pa_cons (pv 2) pa_nil)) (pg_name (i := 5) sc_l_day.nd rfl (.inl rfl))
        (pss_one (ps_expr (pe_bm PySem.F.plainAttrs_list PySem.F.slot_list_append PySem.F.type_list_append mt_append (pv 4) (pa_cons (pe_bm PySem.F.plainAttrs_list PySem.F.slot_list_pop PySem.F.type_list_pop mt_popAt (pv 3) (pa_cons (pe_c cD hr (by decide) rfl (pa_cons (pv 0) (pa_cons (pe_callB call_len_seq rfl bl.len boot_len (pa_cons (pv 3) pa_nil)) pa_nil))) pa_nil)) pa_nil)))))
      (pss_one (ps_ret (pv 4))))))), ?_⟩
    have xpos : 0 < xs.length := List.length_pos_iff.mpr xne
    refine ⟨_, rfl, _, rfl, ot, _, rfl, .inr (hot.sq), h, c + 19, _, rfl, hld, by rw [List.length_map]; omega, by rw [List.length_map]; omega, fun r1 H1 a1 b1 held1 k1 => ⟨_, _, rfl, rfl, ?_⟩⟩
    rw [List.length_map] at b1
    have hot1 := k1.pin hld hot
    refine ⟨fun σ' H' => ∃ m : Nat, σ' = [some (.ref h), some (.ref ot), some (.int (m : Nat)), none, none, none] ∧ 1 ≤ m ∧ m ≤ xs.length ∧ Held H' h (c + 18) ∧ Kp h H H', ?_, ?_⟩
    · refine ⟨_, rfl, rfl, _, rfl, ?_⟩
      obtain ⟨k, rfl⟩ : ∃ k : Nat, r1 = k := ⟨r1.toNat, by omega⟩
      obtain ⟨m, hm⟩ : ∃ m : Nat, m = 1 + k := ⟨_, rfl⟩
      have hv : (fun i j => V.int (i + j)) 1 (k : Int) = V.int (m : Int) := by
        show V.int (1 + (k : Int)) = V.int (m : Int)
        rw [hm]; congr 1
      rw [hv]
      refine ite2 (fun _ => ?_) (fun _ => iteF ⟨m, rfl, by omega, by omega, held1.weak (by omega), k1⟩)
      refine ⟨_, rfl, h, c + 18, 4, rfl, held1, by decide, by decide, fun r2 H2 a2 b2 held2 k2 => ⟨_, _, rfl, rfl, _, rfl, ?_⟩⟩
      have hot2 := k2.pin held1 hot1
      refine ite2 (fun _ => ?_) (fun _ => ⟨m, rfl, by omega, by omega, held2, k1.trans k2⟩)
      refine ⟨_, rfl, ot, _, rfl, .inr (hot2.sq), _, _, rfl, ?_⟩
      rw [List.length_map]
      obtain ⟨m2, hm2, h21, h22⟩ : ∃ m2 : Nat, (if (xs.length : Int) < 2 then (xs.length : Int) else 2) = m2 ∧ 1 ≤ m2 ∧ m2 ≤ xs.length := by
        by_cases z : xs.length < 2
        · exact ⟨xs.length, if_pos (by omega), xpos, Nat.le_refl _⟩
        · exact ⟨2, if_neg (by omega), by decide, by omega⟩
      rw [hm2]
      exact ⟨m2, rfl, h21, h22, held2, k1.trans k2⟩
    rintro σ' H2 ⟨m, rfl, m1, mn, held2, k2⟩
    have hot2 := k2.pin hld hot
    refine ⟨_, rfl, ot, _, rfl, .inr (hot2.sq), fun ll fll => ⟨by show 0 ≤ sizeLine; decide, fun o fo => ⟨_, _, rfl, ?_⟩⟩⟩
    have sl := same_new (o := .lst (xs.map V.str)) fll
    have so := same_new (o := .lst []) fo
    have nlo : ll ≠ o := ne_of_none upd_same fo
    have fo2 : H2 o = none := sl.free fo
    have k4 : Kp h H (upd (upd H2 ll (.lst (xs.map V.str))) o (.lst [])) := k2.trans (Kp.same (sl.trans so))
    have fl0 : H ll = none := k2.free held2 fll
    have fo0 : H o = none := k2.free held2 fo2
    refine ⟨_, rfl, _, rfl, by omega, by omega, ?_⟩
    rw [Int.toNat_natCast]
    refine for_range (n := m) (fun i σ H5 => ∃ (L R : List Str) (v5 : Option V), σ = [some (.ref h), some (.ref ot), some (.int (m : Nat)), some (.ref ll), some (.ref o), v5] ∧ H5 ll = some (.lst (L.map V.str)) ∧ H5 o = some (.lst (R.map V.str)) ∧ (R ++ L).Perm xs ∧ R.length = i ∧ Held H5 h (c + 18 - i) ∧ Kp h H H5 ∧ Cel h ll H5 ∧ Cel h o H5)
      ⟨xs, [], _, rfl, by rw [upd_ne nlo]; exact upd_same, upd_same, List.Perm.refl _, rfl, held2.same (sl.trans so), k4, (Cel.of held2 fll).kp (Kp.same (sl.trans so)), (Cel.of held2 fo2).kp (Kp.same (sl.trans so))⟩ ?_ ?_
    · rintro i σ H5 hi ⟨L, R, v5, rfl, hL, hR, pm, rl, held5, k5, cl5, co5⟩
      have lenL : L.length = xs.length - i := by
        have := pm.length_eq
        rw [List.length_append] at this
        omega
      refine ⟨_, rfl, Or.inl ⟨rfl, _, SqL.of hR⟩, _, rfl, Or.inl ⟨rfl, _, SqL.of hL⟩, _, rfl, _, rfl, ll, _, rfl, .inl (SqL.of hL), h, c + 18 - (i + 1), _, rfl, held5.weak (by omega), by rw [List.length_map]; omega, by rw [List.length_map]; omega, fun r H6 a6 b6 held6 k6 => ?_⟩
      rw [List.length_map] at b6
      obtain ⟨q, rfl⟩ := Int.eq_ofNat_of_zero_le a6
      have hq : q < L.length := by omega
      have hL6 := k6.1 _ _ hL cl5.ne
      have hR6 := k6.1 _ _ hR co5.ne
      have cl6 := cl5.kp k6
      have co6 := co5.kp k6
      refine ⟨ll, _, _, q, .str L[q], rfl, rfl, hL6, by omega, by omega, ?_, ?_, ?_⟩
      · rw [List.length_map]
        unfold seqIndex?
        have z : ¬ ((q : Int) < 0) := by omega
        simp [hq, z]
      · rw [List.getElem?_map, List.getElem?_eq_getElem hq]
        rfl
      have hR7 : (upd H6 ll (.lst ((L.map V.str).eraseIdx q))) o = some (.lst (R.map V.str)) := by rw [upd_ne nlo.symm]; exact hR6
      refine ⟨o, _, _, rfl, rfl, hR7, ?_, L.eraseIdx q, R ++ [L[q]], _, rfl, ?_, ?_, ?_, by simp [rl], (held6.put cl6).put (co6.put cl6.ne.symm), ((k5.trans k6).new fl0).new fo0, (cl6.put cl6.ne.symm).put co6.ne.symm, (co6.put cl6.ne.symm).put co6.ne.symm⟩
      · rw [List.length_map, rl]
        exact Nat.lt_of_lt_of_le (by omega : i < 64) (by decide)
      · rw [upd_ne nlo, upd_same, map_eraseIdx']
      · rw [upd_same, List.map_append]
        rfl
      · have e1 : L.Perm (L[q] :: L.eraseIdx q) := perm_eraseIdx hq
        rw [List.append_assoc]
        exact (List.Perm.append_left R e1.symm).trans pm
    · rintro σ H5 ⟨L, R, v5, rfl, hL, hR, pm, rl, held5, k5, cl5, co5⟩
      have nd := pm.nodup_iff.mpr xnd
      refine ⟨_, rfl, hQ o R H5 (held5.weak (by omega)) k5 fo0 hR ⟨fun z => ?_, (List.nodup_append.mp nd).1, fun y hy => pm.mem_iff.mp (List.mem_append_left _ hy), by omega⟩⟩
      rw [z] at rl
      simp at rl
      omega
end
end K43
set_option Elab.async false
set_option linter.all false
set_option maxRecDepth 100000
set_option maxHeartbeats 4000000
/-! ST: len(set(xs)) of unlike texts, xs a list or a tuple. -/
namespace ST
open PySem PySem.Spec PyProof.Rows
theorem not_yet {xs : List Str} (hn : xs.Nodup) {i : Nat} (h : i < xs.length) : ((xs.take i).any (· == xs.getD i Str.empty)) = false := by
  have e : xs.getD i Str.empty = xs[i] := by rw [List.getD_eq_getElem?_getD, List.getElem?_eq_getElem h]; rfl
  rw [e, List.any_eq_false]
  intro x hx z
  obtain ⟨j, hj, ej⟩ := List.getElem_of_mem hx
  have hji : j < i := by rw [List.length_take] at hj; omega
  rw [List.getElem_take] at ej
  exact List.pairwise_iff_getElem.mp hn j i (by omega) h hji (ej.trans (beq_iff_eq.mp z))
theorem one_more (xs : List Str) {i : Nat} (h : i < xs.length) (k : Str) : ((xs.take i).any (· == k) || decide (k = xs.getD i Str.empty)) = (xs.take (i + 1)).any (· == k) := by
  have e : xs.getD i Str.empty = xs[i] := by rw [List.getD_eq_getElem?_getD, List.getElem?_eq_getElem h]; rfl
  rw [e, List.take_add_one, List.getElem?_eq_getElem h, List.any_append]
  congr 1
  show decide (k = xs[i]) = [xs[i]].any (· == k)
  rw [List.any_cons, List.any_nil, Bool.or_false, Bool.eq_iff_iff, decide_eq_true_eq, beq_iff_eq]
  exact ⟨Eq.symm, Eq.symm⟩
section
variable {prog : Program} {w : World} {A : Around} {R : Result → Shared → Prop} {I S : Addr} {fp wr : List Addr} {G : Array GenState → Array GenState → Prop} {n : Nat} {P : Nat → Value → Prop} {St : Nat → Shared → Prop}
/-- the set of the first i of them stands at S -/
abbrev Has (prog : Program) (w : World) (S : Addr) (xs : List Str) (i : Nat) (h : Heap) : Prop := h.SetOf (PySem.strKind prog w) S (fun k => (xs.take i).any (· == k)) i
theorem Has.to {xs : List Str} {i : Nat} {h h' : Heap} (x : Has prog w S xs i h) (k : ∀ o, h.get? S = some o → h'.get? S = some o) : Has prog w S xs i h' := by
  obtain ⟨o, es, ep, t, ho, r⟩ := x
  exact ⟨o, es, ep, t, k o ho, r⟩
theorem walk (W : WalksS prog w A.in1 I fp wr G n P St) (hf : S ∉ fp) {xs : List Str} (hn : xs.Nodup) (hl : xs.length = n) (hb : n + 1 < scanBound) (hv : ∀ i v, P i v → ∃ t, v = .str (xs.getD i Str.empty) t) :
    ∀ (r i : Nat) (s : Shared), i + r = n → St i s → Has prog w S xs i s.heap → (∀ s', Moved (S :: wr) G s s' → Has prog w S xs n s'.heap → R (.ok (.ret .none)) s') →
      codeAny (model prog w) A (.builtin "set.update.loop" ⟨[.ref S, .ref I], []⟩) R s := by
  have nw : S ∉ wr := fun z => hf (W.sub _ z)
  have up : ∀ b ∈ wr, b ∈ S :: wr := fun b z => List.mem_cons_of_mem _ z
  intro r
  induction r with
  | zero =>
    intro i s e st hs fin
    cases (show i = n from e)
    refine codeAny_builtin PyProof.Rows.F.entry_set_update_loop ?_; rw [Around.under_plainId PyProof.Rows.F.plain_set_update_loop _]
    show wpAny _ A.in1 (pyNext (.ref I) >>= _) _ _ s; refine wpAny_bind (W.done s _ _ st fun s' m => ?_)
    exact wpAny_pure (fin s' (m.mono up) (hs.to fun o => m.heap S o nw))
  | succ r ih =>
    intro i s e st hs fin
    have li : i < n := by omega
    refine codeAny_builtin PyProof.Rows.F.entry_set_update_loop ?_; rw [Around.under_plainId PyProof.Rows.F.plain_set_update_loop _]
    show wpAny _ A.in1 (pyNext (.ref I) >>= _) _ _ s; refine wpAny_bind (W.item i s _ _ li st fun v s' pv st' m => ?_)
    obtain ⟨t, rfl⟩ := hv i v pv
    have hs' := hs.to fun o => m.heap S o nw
    show wpAny _ A.in1 (holding [Value.str (xs.getD i Str.empty) t] (setAdd S (.str (xs.getD i Str.empty) t)) >>= _) _ _ s'; refine wpAny_bind (wpAny_holding ?_)
    unfold setAdd
    refine wpAny_holding (wpAny_bind ((PySem.strKind prog w).pyHash (k := xs.getD i Str.empty) (strKind_is _ _ _ _) ?_))
    refine wpAny_setAddHashed_of (knd := PySem.strKind prog w) (s := { s' with toks := s'.toks + 1 }) (strKind_is _ _ _ _) rfl hs' (by omega) fun h' but h2 => ?_
    have hs2 : Has prog w S xs (i + 1) h' := SetOf_congr h2 (fun k => one_more xs (by omega) k) (by
      have z : (xs.take i).any (· == xs.getD i Str.empty) = false := not_yet hn (by omega)
      show (if (xs.take i).any (· == xs.getD i Str.empty) = true then i else i + 1) = i + 1
      rw [z]; rfl)
    refine wpAny_pure ⟨plainId_quiet PyProof.Rows.F.plain_set_update_loop _, ih (i + 1) _ (by omega) (W.frame _ s' _ _ st' (Nat.le_succ _) fun b hb o eo => ?_) hs2 fun s2 m2 h3 => ?_⟩
    · rw [but.2 b (fun z : b = S => hf (z ▸ hb))]
      exact eo
    · refine fin s2 (Moved.trans W.gtrans ((m.mono up).then_heap (Nat.le_succ _) fun b o hb eo => ?_) m2) h3
      rw [but.2 b (fun z : b = S => hb (z ▸ List.mem_cons_self))]
      exact eo
end
/-- a new set -/
abbrev fresh (led : Bool) : Obj := { cls := .type "set", dict := none, data := .set #[] 0 (.fresh 0 0 led) }
section
variable {prog : Program} {w : World} {A : Around} {E : Value → Shared → Prop} {s : Shared}
/-- how the call of set ends -/
abbrev EndOf (prog : Program) (w : World) (xs : List Str) (s : Shared) (s2 : Shared) : Prop := ∃ h' tk, s2 = { s with heap := h', toks := tk } ∧ Has prog w s.heap.objs.size xs xs.length h' ∧ ∀ b o, s.heap.get? b = some o → h'.get? b = some o
set_option maxHeartbeats 8000000 in
/-- set(xs), given what __init__ does with the new set -/
theorem call_by {l : Addr} {xs : List Str} {Q : Value → Shared → Prop}
    (hi : ∀ led : Bool, wpAny (model prog w) A.in1.in1 (Builtin.«set.__init__» ⟨[.ref s.heap.objs.size, .ref l], []⟩)
      (fun fin s' => match fin with | .done f => wants (fun r s₂ => r = .none ∧ EndOf prog w xs s s₂) E (.ok f) s' | .again c' => c'.quiet = true ∧ codeAny (model prog w) A.in1 c' (wants (fun r s₂ => r = .none ∧ EndOf prog w xs s s₂) E) s')
      (fun e s' => wants (fun r s₂ => r = .none ∧ EndOf prog w xs s s₂) E (.error e) s') { s with heap := s.heap.push (fresh led) })
    (h : ∀ s2, EndOf prog w xs s s2 → Q (.ref s.heap.objs.size) s2) : wpAny (model prog w) A (call (.type "set") [.ref l]) Q E s := by
  obtain ⟨c0, t0, mro0⟩ := PySem.F.called_set.mro
  have made0 := PySem.F.called_set.made; have sub0 := PySem.F.called_set.sub
  refine wpAny_call (codeAny_of_tree ?_); show wpAny _ _ (callAny (.type "set") _) _ _ _
  refine wpAny_pure ⟨Code.quiet_builtin _ (by decide +kernel), codeAny_builtin PySem.F.entry_type_call ?_⟩; rw [Around.under_plain (weight_type_call_type "set" [.ref l] []) rfl]
  have nt0 := PySem.F.called_set.notType; have cc0 := PySem.F.called_set.canCreate; have ct0 := PySem.F.typeCall_set_1 (.ref l)
  (repeat (any_goals (first | assumption | wp_step)))
  refine codeAny_mono (code_set_new_1 (.ref l) (E := E) (Q₁ := fun ob s1 => ∃ led : Bool, ob = .ref s.heap.objs.size ∧ s1 = { s with heap := s.heap.push (fresh led) }) fun led => ⟨led, rfl, rfl⟩) fun r s1 hr => ?_
  match r, hr with
  | .error e, hr => exact hr
  | .ok .next, hr => exact hr.elim
  | .ok .brk, hr => exact hr.elim
  | .ok .cont, hr => exact hr.elim
  | .ok (.ret ob), hr =>
    obtain ⟨led, rfl, rfl⟩ := hr
    have at0 : (s.heap.push (fresh led)).get? s.heap.objs.size = some (fresh led) := Heap.get?_push_size _ rfl
    have ty0 : Shared.TypeIs { s with heap := s.heap.push (fresh led) } (.ref s.heap.objs.size) "set" := ⟨_, at0, rfl⟩
    have lo0 := PySem.F.called_set.init.lookup; have bi0 := PySem.F.called_set.init.bind (.ref s.heap.objs.size)
    (repeat (any_goals (first | assumption | wp_step)))
    refine codeAny_mono (codeAny_call_builtin (R := wants (fun r s₂ => r = .none ∧ EndOf prog w xs s s₂) E) PySem.F.called_set.init.plain PySem.F.entry_set_init (check_set_init_1 ty0 (hi led))) fun r2 s2 hr2 => ?_
    match r2, hr2 with
    | .error e, hr2 => exact hr2
    | .ok .next, hr2 => exact hr2.elim
    | .ok .brk, hr2 => exact hr2.elim
    | .ok .cont, hr2 => exact hr2.elim
    | .ok (.ret v), hr2 =>
      obtain ⟨rfl, en⟩ := hr2
      have q := h s2 en
      obtain ⟨h', tk, rfl, h1, h2⟩ := en
      (repeat (any_goals (first | assumption | wp_step)))
set_option maxHeartbeats 8000000 in
theorem call_tup {l : Addr} {items : Array Value} {xs : List Str} {Q : Value → Shared → Prop} (hh : A.handled = none) (hl : s.heap.IsTuple l items) (hi : PyProof.Rows.StrsAre items.toList xs) (hn : xs.Nodup) (hb : xs.length + 1 < scanBound)
    (h : ∀ s2, EndOf prog w xs s s2 → Q (.ref s.heap.objs.size) s2) : wpAny (model prog w) A (call (.type "set") [.ref l]) Q E s := by
  refine call_by (xs := xs) (fun led => ?_) h
  obtain ⟨ol, ho, hc, nl, hd⟩ := hl
  obtain ⟨cl, dc, dt, sl⟩ := ol
  simp only at hc hd
  subst hc; subst hd
  have o1 : (s.heap.push (fresh led)).get? l = some { cls := .type "tuple", dict := dc, data := .seq items nl, slots := sl } := Heap.get?_push_of_some _ ho
  have l1 : (s.heap.push (fresh led)).IsTuple l items := ⟨_, o1, rfl, nl, rfl⟩
  have at0 : (s.heap.push (fresh led)).get? s.heap.objs.size = some (fresh led) := Heap.get?_push_size _ rfl
  have u1 := PySem.F.sub_tuple_set; have u2 := PySem.F.sub_tuple_frozenset; have u3 : (Value.type "tuple" == Value.type "dict") = false := by decide
  unfold Builtin.«set.__init__» noKeywords Builtin.Frozenset.updateFrom; generalize hp : pyIter = pit
  wp_walk
  subst hp
  refine wpAny_pyIter_tuple l1 (wpAny_bind (wpAny_runValue ?_))
  have ls : l < s.heap.objs.size := Heap.lt_size ho
  have h3 : A.in1.in1.in1.handled = none := by simp [hh]
  have ne1 : l ≠ (s.heap.push (fresh led)).objs.size := by rw [Heap.size_push]; exact Nat.ne_of_lt (Nat.lt_succ_of_lt ls)
  have nf : s.heap.objs.size ∉ [(s.heap.push (fresh led)).objs.size, l] := by
    rw [Heap.size_push]
    intro z
    simp only [List.mem_cons, List.not_mem_nil, or_false] at z
    rcases z with z | z
    · exact Nat.ne_of_lt (Nat.lt_succ_self _) z
    · exact Nat.ne_of_gt ls z
  have sz : xs.length = items.size := by rw [← StrsAre.len_eq hi, Array.length_toList]
  refine walk ((Walks.tuple h3 _ l ne1 items).toS) nf hn sz (by omega) (fun i v hv => SS.strs_at hi i v (by rw [Array.getElem?_toList]; exact hv)) items.size 0 _ (by omega) ⟨⟨_, Heap.get?_push_size _ rfl, rfl, rfl⟩, l1.push _⟩ ?_ ?_
  · exact PyProof.Rows.SetOf_congr ((PyProof.Rows.setObjOf_fresh (knd := PySem.strKind prog w) led).setOf (Heap.get?_push_of_some _ at0) (by unfold scanBound; omega)) (fun _ => rfl) rfl
  · intro s' hm hs'
    obtain ⟨h', g', d', tk', os'⟩ := s'
    cases (show g' = s.gens from hm.gens); cases (show d' = s.drawn from hm.drawn); cases (show os' = s.os from hm.os)
    show wpAny _ _ _ _ _ _
    refine wpAny_pure ?_
    show wpAny _ _ (ret Value.none) _ _ _
    refine wpAny_pure ⟨rfl, h', tk', rfl, by rw [sz]; exact hs', fun b o e => ?_⟩
    have lb : b < s.heap.objs.size := Heap.lt_size e
    refine hm.heap b o (fun z => ?_) (Heap.get?_push_of_some _ (Heap.get?_push_of_some _ e))
    rw [Heap.size_push] at z
    simp only [List.mem_cons, List.not_mem_nil, or_false] at z
    rcases z with z | z
    · exact Nat.ne_of_lt lb z
    · exact Nat.ne_of_lt (Nat.lt_succ_of_lt lb) z
set_option maxHeartbeats 8000000 in
theorem call_lst {l : Addr} {items : Array Value} {xs : List Str} {Q : Value → Shared → Prop} (hh : A.handled = none) (hl : s.heap.IsList l items) (hi : PyProof.Rows.StrsAre items.toList xs) (hn : xs.Nodup) (hb : xs.length + 1 < scanBound)
    (h : ∀ s2, EndOf prog w xs s s2 → Q (.ref s.heap.objs.size) s2) : wpAny (model prog w) A (call (.type "set") [.ref l]) Q E s := by
  refine call_by (xs := xs) (fun led => ?_) h
  obtain ⟨ol, ho, hc, nl, hd⟩ := hl
  obtain ⟨cl, dc, dt, sl⟩ := ol
  simp only at hc hd
  subst hc; subst hd
  have o1 : (s.heap.push (fresh led)).get? l = some { cls := .type "list", dict := dc, data := .seq items nl, slots := sl } := Heap.get?_push_of_some _ ho
  have l1 : (s.heap.push (fresh led)).IsList l items := ⟨_, o1, rfl, nl, rfl⟩
  have at0 : (s.heap.push (fresh led)).get? s.heap.objs.size = some (fresh led) := Heap.get?_push_size _ rfl
  have u1 := PySem.F.sub_list_set; have u2 := PySem.F.sub_list_frozenset; have u3 : (Value.type "list" == Value.type "dict") = false := by decide
  unfold Builtin.«set.__init__» noKeywords Builtin.Frozenset.updateFrom; generalize hp : pyIter = pit
  wp_walk
  subst hp
  refine wpAny_pyIter_list l1 (wpAny_bind (wpAny_runValue ?_))
  have ls : l < s.heap.objs.size := Heap.lt_size ho
  have h3 : A.in1.in1.in1.handled = none := by simp [hh]
  have ne1 : l ≠ (s.heap.push (fresh led)).objs.size := by rw [Heap.size_push]; exact Nat.ne_of_lt (Nat.lt_succ_of_lt ls)
  have nf : s.heap.objs.size ∉ [(s.heap.push (fresh led)).objs.size, l] := by
    rw [Heap.size_push]
    intro z
    simp only [List.mem_cons, List.not_mem_nil, or_false] at z
    rcases z with z | z
    · exact Nat.ne_of_lt (Nat.lt_succ_self _) z
    · exact Nat.ne_of_gt ls z
  have sz : xs.length = items.size := by rw [← StrsAre.len_eq hi, Array.length_toList]
  refine walk ((Walks.list h3 _ l ne1 items).toS) nf hn sz (by omega) (fun i v hv => SS.strs_at hi i v (by rw [Array.getElem?_toList]; exact hv)) items.size 0 _ (by omega) ⟨⟨_, Heap.get?_push_size _ rfl, rfl, rfl⟩, l1.push _⟩ ?_ ?_
  · exact PyProof.Rows.SetOf_congr ((PyProof.Rows.setObjOf_fresh (knd := PySem.strKind prog w) led).setOf (Heap.get?_push_of_some _ at0) (by unfold scanBound; omega)) (fun _ => rfl) rfl
  · intro s' hm hs'
    obtain ⟨h', g', d', tk', os'⟩ := s'
    cases (show g' = s.gens from hm.gens); cases (show d' = s.drawn from hm.drawn); cases (show os' = s.os from hm.os)
    show wpAny _ _ _ _ _ _
    refine wpAny_pure ?_
    show wpAny _ _ (ret Value.none) _ _ _
    refine wpAny_pure ⟨rfl, h', tk', rfl, by rw [sz]; exact hs', fun b o e => ?_⟩
    have lb : b < s.heap.objs.size := Heap.lt_size e
    refine hm.heap b o (fun z => ?_) (Heap.get?_push_of_some _ (Heap.get?_push_of_some _ e))
    rw [Heap.size_push] at z
    simp only [List.mem_cons, List.not_mem_nil, or_false] at z
    rcases z with z | z
    · exact Nat.ne_of_lt lb z
    · exact Nat.ne_of_lt (Nat.lt_succ_of_lt lb) z
end
end ST
namespace ST
open PySem PySem.Spec PyProof.Rows L2
section
variable {X : Cx}
/-- len(set(xs)): unlike texts -/
def tLenSet (K : PySem.W.Frag) (ta : TE) : TE := fun σ H Q => ta σ H fun x H1 => ∃ (l : Addr) (xs : List Str), x = .ref l ∧ (SqL K H1 l (xs.map V.str) ∨ SqT K H1 l (xs.map V.str)) ∧ xs.Nodup ∧ xs.length < 64 ∧ Q (.int xs.length) H1
theorem pe_lenSet {a : Expr} {ta : TE} {p p2 q pos : Pos} (hc : X.calm = true) (hg : Gl X "len") (hm : X.mg "len" = none) (hg2 : Gl X "set") (hm2 : X.mg "set" = none) (ha : PE X a ta)
    (na : starEach [a] X.env = (false, eval a X.env) :: starEach [] X.env := by rfl) : PE X (.Call (.Name "len" p) [.Call (.Name "set" p2) [a] [] q] [] pos) (tLenSet X.K ta) := by
  refine ⟨fun pins s σ H Q I h => Call_ (ld_blt I hg hm boot_len (PyProof.Rows.callWith_builtin1 (PyProof.Rows.args_cons (Call_ (ld_blt I hg2 hm2 boot_set ?_)) rfl) rfl rfl))⟩
  refine PyProof.Rows.callWith_type1 (PyProof.Rows.args_cons (thn (ha.run pins s σ H _ I h) fun v s1 ⟨x, H1, I1, r1, z1⟩ => PyProof.Rows.args_nil ?_) na) na rfl
  obtain ⟨l, xs, rfl, hs, hn, h6, q1⟩ := z1
  cases r1
  have sb : xs.length + 1 < scanBound := by unfold scanBound; omega
  have fin : ∀ s2, EndOf X.prog X.w xs s1 s2 → wpAny (model X.prog X.w) X.A (spliced (backTo pos (starEach [] X.env))) (fun vs s₂ => wpAny (model X.prog X.w) X.A (call (.builtin "len") (Value.ref s1.heap.objs.size :: vs)) (EP X pins σ Q) X.xe s₂) X.xe s2 := by
    rintro _ ⟨h', tk, rfl, hS, hk⟩
    refine PyProof.Rows.args_nil ?_
    obtain ⟨o, es, ep, t, ho, ex, hd, _, _, _, hf, hn⟩ := hS
    have I2 : Inv X pins σ H1 { s1 with heap := h', toks := tk } := I1.kept hk
    exact call_len_set ho ex hd hf (by rw [hn]; omega) ⟨.int xs.length, H1, I2.tok _, ⟨_, by rw [hn]⟩, q1⟩
  rcases hs with hs | hs
  · obtain ⟨its, r, pl, hz⟩ := I1.list hs
    exact call_lst (I1.ok.hd hc) pl.isList (by simpa using strsAre_of r) hn sb fin
  · obtain ⟨its, r, pl, hz⟩ := I1.tuple hs
    exact call_tup (I1.ok.hd hc) pl (by simpa using strsAre_of r) hn sb fin
end
end ST
set_option Elab.async false
set_option linter.all false
set_option maxRecDepth 100000
set_option maxHeartbeats 4000000
namespace K43
open PySem PySem.Spec PyProof.Rows L2
open C8 (Cal Mak Met pe_c pe_mk pe_mt pe_mt0)
open SX (S)
/-- more of the module's names -/
structure Bl2 (mg : Str → Option Value) : Prop where
  str : mg "str" = none
  all : mg "all" = none
  tup : mg "tuple" = none
  set : mg "set" = none
  zip : mg "zip" = none
  min : mg "min" = none
  enum : mg "enumerate" = none
section
variable {P : Program} {w : World} {K : PySem.W.Frag} {mg : Str → Option Value} {base : Heap} {f C : Addr} {fd : FuncData}
def spBetween : Sp := fun vs H Q _ => ∃ n lo hi : Int, vs = [.int n, .int lo, .int hi] ∧ Q (.bl (decide (lo ≤ n ∧ n ≤ hi))) H
theorem ok_between (F : Dn K d_is_between f fd) (cW : CalW P w K mg base) : FnOk P w K mg base CX0 2 f fd ["thing", "low", "high"] spBetween := by
  refine F.ok sc_is_between (fun vs H Q E h => ?_) (fun cdv A outer s H vs Q E hr h => ?_)
  · obtain ⟨n, lo, hi, rfl, _⟩ := h
    rfl
  · obtain ⟨n, lo, hi, rfl, hQ⟩ := h
    refine ⟨_, PSs.nox (pss_one (ps_ret (pe_and (pe_c cW hr (by decide) rfl (pa_cons (pv 0) pa_nil)) (pe_one (pe_chain op_le op_le (pv 1) (pv 0) (pv 2)))))), ?_⟩
    refine ⟨_, rfl, n, rfl, true, rfl, iteT ?_⟩
    refine ⟨_, rfl, _, rfl, _, _, rfl, rfl, _, rfl, ?_⟩
    refine ite2 (fun h1 => ?_) (fun h1 => ?_)
    · have h1' : lo ≤ n := of_decide_eq_true h1
      refine ⟨_, rfl, _, _, rfl, rfl, ?_⟩
      have e : decide (n ≤ hi) = decide (lo ≤ n ∧ n ≤ hi) := decide_eq_decide.mpr ⟨fun z => ⟨h1', z⟩, fun z => z.2⟩
      show Q (.bl (decide (n ≤ hi))) H
      rw [e]
      exact hQ
    · have h1' : ¬ lo ≤ n := fun z => h1 (decide_eq_true z)
      have e : decide (lo ≤ n ∧ n ≤ hi) = false := decide_eq_false fun z => h1' z.1
      rw [e] at hQ
      exact hQ
abbrev CalB (P : Program) (w : World) (K : PySem.W.Frag) (mg : Str → Option Value) (base : Heap) : Prop := Cal P w K mg base 2 "is_between" spBetween []
/-- what is a name -/
def spName : Sp := fun vs H Q _ => ∃ l : List Nat, vs = [.str (S l)] ∧ NM.ok l ∧ ∀ H', Same H H' → Q (.bl true) H'
theorem ok_name (F : Dn K d_is_name f fd) (b : Bl mg) (b2 : Bl2 mg) (g : ∃ t, mg "LONGEST_NAME" = some (.int 8 t)) : FnOk P w K mg base CX0 1 f fd ["thing"] spName := by
  refine F.ok sc_is_name (fun vs H Q E h => ?_) (fun cdv A outer s H vs Q E hr h => ?_)
  · obtain ⟨l, rfl, _⟩ := h
    rfl
  · obtain ⟨l, rfl, ⟨l1, l8, lc⟩, hQ⟩ := h
    obtain ⟨t, g⟩ := g
    have hz : (S l).length ≤ sizeLine := by rw [SX.S_len]; exact Nat.le_trans l8 (by decide)
    refine ⟨_, PSs.nox (pss_cons (ps_if (PW.pt (pw_or (pt_not (pt_val (pe_callB call_isi rfl b.isi boot_isinstance (pa_cons (pv 0) (pa_cons (pe_bltn (v := .ty "str") rfl b2.str boot_str rfl) pa_nil)))))
        (pw_or1 (pt_not (pt_chain op_le op_le pe_int (pe_callB call_len_str rfl b.len boot_len (pa_cons (pv 0) pa_nil)) (pe_glob (v := .int 8) rfl g ⟨t, rfl⟩)))))) pss_never pss_nil)
      (pss_one (ps_ret (pe_callB (cr_all rfl) rfl b2.all boot_all (pa_cons (pe_lc (own := [("sign", 1)]) (g := gName 1) (tt := tYes) rfl sc_is_name.nd (pi_str (pv 0)) (blkOk_by (N := N_is_name) (sc := defScope s_is_name) (by decide +kernel))
          (fun _ _ _ _ _ => pg_name (i := 1) sc_is_name.nd rfl (Or.inl rfl)) (fun _ _ _ _ _ => pts_nil) (fun _ _ _ _ _ => pe_chain op_le_str op_le_str pe_str (pv 1) pe_str)) pa_nil))))), ?_⟩
    refine ⟨_, rfl, _, _, _, _, true, rfl, ClsV.ty _, TyX.base (TyOf.str _), kit_ty (by decide +kernel), true, rfl, iteF ?_⟩
    refine ⟨_, rfl, _, rfl, hz, _, _, rfl, rfl, _, rfl, ?_⟩
    rw [SX.S_len]
    refine ite2 (fun _ => ?_) (fun z => absurd (decide_eq_true (by omega)) z)
    refine ⟨_, _, rfl, rfl, _, rfl, ?_⟩
    have e8 : decide ((l.length : Int) ≤ 8) = true := decide_eq_true (by omega)
    rw [e8]
    refine iteF ?_
    refine ⟨_, rfl, _, rfl, fun D hD => lc_it walk_str (fun i H2 => H2 D = some (.lst ((List.replicate i true).map V.bl)) ∧ Same H H2) ⟨upd_same, same_new hD⟩ (fun _ _ _ _ => trivial) ?_ ?_⟩
    · rintro i x H2 H3 hi ⟨hd, sm⟩ ⟨rfl, c', hc', rfl⟩
      have hi' : i < l.length := by simpa [S] using hi
      have hmem : c' ∈ l := by
        have : l[i]? = some c' := by simpa [S] using hc'
        exact List.mem_of_getElem? this
      have hcc := lc c' hmem
      refine ⟨rfl, ?_⟩
      refine ⟨_, rfl, _, _, rfl, rfl, _, rfl, ?_⟩
      have ea : (!decide ((⟨#[c']⟩ : Str).cps.toList < (Str.ofString "a").cps.toList)) = true := by
        have e1 : (Str.ofString "a").cps.toList = [97] := by decide +kernel
        rw [e1]
        have : ¬ (([c'] : List Nat) < [97]) := by
          rw [List.cons_lt_cons_iff]
          rintro (z | ⟨z, z'⟩)
          · omega
          · exact absurd z' (by simp)
        simp [this]
      have ez : (!decide ((Str.ofString "z").cps.toList < (⟨#[c']⟩ : Str).cps.toList)) = true := by
        have e1 : (Str.ofString "z").cps.toList = [122] := by decide +kernel
        rw [e1]
        have : ¬ (([122] : List Nat) < [c']) := by
          rw [List.cons_lt_cons_iff]
          rintro (z | ⟨z, z'⟩)
          · omega
          · exact absurd z' (by simp)
        simp [this]
      rw [ea]
      refine iteT ⟨_, _, rfl, rfl, ?_⟩
      rw [ez]
      refine ⟨_, hd, ?_, ?_, ?_⟩
      · rw [List.length_map, List.length_replicate]
        exact Nat.lt_of_lt_of_le (by omega : i < 64) (by decide)
      · rw [upd_same]
        simp [List.replicate_succ']
      · intro a o e
        rw [upd_ne (ne_of_none e hD)]
        exact sm a o e
    · rintro H2 ⟨hd, sm⟩
      refine ⟨D, _, rfl, SqL.of hd, ?_⟩
      have e3 : (List.replicate (S l).cps.size true).all id = true := by simp
      rw [e3]
      exact hQ H2 sm

/-- an order: one to eight unlike names -/
structure Ord (xs : List Str) : Prop where
  ne : xs ≠ []
  l8 : xs.length ≤ 8
  nd : xs.Nodup
  nm : ∀ x ∈ xs, ∃ l, x = S l ∧ NM.ok l
abbrev CalN (P : Program) (w : World) (K : PySem.W.Frag) (mg : Str → Option Value) (base : Heap) : Prop := Cal P w K mg base 1 "is_name" spName []
def spOrder : Sp := fun vs H Q _ => ∃ (ot : Addr) (xs : List Str), vs = [.ref ot] ∧ PIN.PinT H ot (xs.map V.str) ∧ Ord xs ∧ ∀ H', Same H H' → Q (.bl true) H'
theorem ok_order (F : Dn K d_is_order f fd) (b : Bl mg) (b2 : Bl2 mg) (g : ∃ t, mg "MOST_NAMES" = some (.int 8 t)) (cN : CalN P w K mg base) : FnOk P w K mg base CX0 2 f fd ["thing"] spOrder := by
  refine F.ok sc_is_order (fun vs H Q E h => ?_) (fun cdv A outer s H vs Q E hr h => ?_)
  · obtain ⟨ot, xs, rfl, _⟩ := h
    rfl
  · obtain ⟨ot, xs, rfl, hot, ox, hQ⟩ := h
    obtain ⟨t, g⟩ := g
    have xpos : 0 < xs.length := List.length_pos_iff.mpr ox.ne
    have l8 := ox.l8
    refine ⟨_, PSs.nox (pss_cons (ps_if (PW.pt (pw_or (pt_not (pt_val (pe_callB call_isi rfl b.isi boot_isinstance (pa_cons (pv 0) (pa_cons (pe_bltn (v := .ty "tuple") rfl b2.tup boot_tuple rfl) pa_nil)))))
        (pw_or1 (pt_not (pt_chain op_le op_le pe_int (pe_callB call_len_seq rfl b.len boot_len (pa_cons (pv 0) pa_nil)) (pe_glob (v := .int 8) rfl g ⟨t, rfl⟩)))))) pss_never pss_nil)
      (pss_one (ps_ret (pe_and (pe_callB (cr_all rfl) rfl b2.all boot_all (pa_cons (pe_lc (own := [("name", 1)]) (g := gName 1) (tt := tYes) rfl sc_is_order.nd (pi_tup (pv 0)) (blkOk_by (N := N_is_order) (sc := defScope s_is_order) (by decide +kernel))
          (fun _ _ _ _ _ => pg_name (i := 1) sc_is_order.nd rfl (Or.inl rfl)) (fun _ _ _ _ _ => pts_nil) (fun _ _ _ _ _ => pe_c cN hr (by decide) rfl (pa_cons (pv 1) pa_nil))) pa_nil))
        (pe_one (pe_cmpR op_eq (ST.pe_lenSet rfl rfl b.len rfl b2.set (pv 0)) (pe_callB call_len_seq rfl b.len boot_len (pa_cons (pv 0) pa_nil)) (nomark _))))))), ?_⟩
    refine ⟨_, rfl, _, _, _, _, true, rfl, ClsV.ty _, hot.ty, kit_ty (by decide +kernel), true, rfl, iteF ?_⟩
    refine ⟨_, rfl, ot, _, rfl, .inr (hot.sq), _, _, rfl, rfl, _, rfl, ?_⟩
    rw [List.length_map]
    refine ite2 (fun _ => ?_) (fun z => absurd (decide_eq_true (by omega)) z)
    refine ⟨_, _, rfl, rfl, _, rfl, ?_⟩
    have e8 : decide ((xs.length : Int) ≤ 8) = true := decide_eq_true (by omega)
    rw [e8]
    refine iteF ?_
    refine ⟨_, rfl, ot, rfl, ⟨_, hot.sq⟩, fun D hD => lc_tup (fun i H2 => H2 D = some (.lst ((List.replicate i true).map V.bl)) ∧ Same H H2) ⟨upd_same, same_new hD⟩ (fun _ H2 _ z => (hot.same z.2).sq) ?_ ?_⟩
    · rintro i x H2 hx ⟨hd, sm⟩
      have hi' : i < xs.length := by
        have := (List.getElem?_eq_some_iff.mp hx).1
        simpa using this
      rw [List.getElem?_map] at hx
      obtain ⟨y, hy, rfl⟩ := Option.map_eq_some_iff.mp hx
      obtain ⟨l, rfl, hl⟩ := ox.nm y (List.mem_of_getElem? hy)
      refine ⟨rfl, ?_⟩
      refine ⟨_, rfl, l, rfl, hl, fun H3 s3 => ⟨_, s3 _ _ hd, ?_, ?_, ?_⟩⟩
      · rw [List.length_map, List.length_replicate]
        exact Nat.lt_of_lt_of_le (by omega : i < 64) (by decide)
      · rw [upd_same]
        simp [List.replicate_succ']
      · intro a o e
        rw [upd_ne (ne_of_none e hD)]
        exact s3 a o (sm a o e)
    · rintro H2 ⟨hd, sm⟩
      refine ⟨D, _, rfl, SqL.of hd, true, ?_, ?_⟩
      · have e3 : (List.replicate (xs.map V.str).length true).all id = true := by simp
        rw [e3]
      refine iteT ?_
      refine ⟨_, rfl, ot, xs, rfl, .inr ((hot.same sm).sq), ox.nd, by omega, _, rfl, ot, _, rfl, .inr ((hot.same sm).sq), ?_⟩
      rw [List.length_map]
      exact ⟨rfl, by simpa using hQ H2 sm⟩
/-- a rule by the least credit -/
def LeastR (H : Hp) (r ot : Addr) (xs : List Str) (g : Int) : Prop := H r = some (.tup [.str "least", .ref ot, .int g]) ∧ PIN.PinT H ot (xs.map V.str) ∧ Ord xs ∧ 0 ≤ g ∧ g ≤ 1000
theorem LeastR.ext {H H' : Hp} {r ot : Addr} {xs : List Str} {g : Int} (h : LeastR H r ot xs g) (e : ∀ a ys, H a = some (.tup ys) → H' a = some (.tup ys)) (e2 : ∀ a od ys, H a = some (.frz od (.tup ys)) → H' a = some (.frz od (.tup ys))) : LeastR H' r ot xs g := ⟨e _ _ h.1, h.2.1.ext e2, h.2.2⟩
def spRule : Sp := fun vs H Q _ => ∃ (r ot : Addr) (xs : List Str) (g : Int), vs = [.ref r] ∧ LeastR H r ot xs g ∧ ∀ H', Same H H' → Q (.bl true) H'
theorem ok_rule (F : Dn K d_is_rule f fd) (b : Bl mg) (b2 : Bl2 mg) (g : ∃ t, mg "MOST_GRAIN" = some (.int 1000 t)) (cO : Cal P w K mg base 2 "is_order" spOrder []) (cB : CalB P w K mg base) : FnOk P w K mg base CX0 3 f fd ["thing"] spRule := by
  refine F.ok sc_is_rule (fun vs H Q E h => ?_) (fun cdv A outer s H vs Q E hr h => ?_)
  · obtain ⟨r, ot, xs, gr, rfl, _⟩ := h
    rfl
  · obtain ⟨r, ot, xs, gr, rfl, ⟨hrr, hot, ox, g0, g1⟩, hQ⟩ := h
    obtain ⟨t, g⟩ := g
    refine ⟨_, PSs.nox (pss_cons (ps_if (PW.pt (pw_or (pt_not (pt_val (pe_callB call_isi rfl b.isi boot_isinstance (pa_cons (pv 0) (pa_cons (pe_bltn (v := .ty "tuple") rfl b2.tup boot_tuple rfl) pa_nil)))))
        (pw_or (pt_cmpR op_lt (pe_callB call_len_seq rfl b.len boot_len (pa_cons (pv 0) pa_nil)) pe_int (nomark _))
        (pw_or1 (pt_not (pt_val (pe_c cO hr (by decide) rfl (pa_cons (pe_ix ix_tup (pv 0) pe_int (fun _ _ => rfl)) pa_nil)))))))) pss_never pss_nil)
      (pss_cons (ps_if (pt_cmpR op_eq (pe_ix ix_tup (pv 0) pe_int (fun _ _ => rfl)) pe_str (nomark _)) (pss_one (ps_ret (pe_and (pe_cmpR op_eq (pe_callB call_len_seq rfl b.len boot_len (pa_cons (pv 0) pa_nil)) pe_int (nomark _))
        (pe_one (pe_c cB hr (by decide) rfl (pa_cons (pe_ix ix_tup (pv 0) pe_int (fun _ _ => rfl)) (pa_cons pe_int (pa_cons (pe_glob (v := .int 1000) rfl g ⟨t, rfl⟩) pa_nil)))))))) pss_nil) pss_never)), ?_⟩
    refine ⟨_, rfl, _, _, _, _, true, rfl, ClsV.ty _, TyX.base (TyOf.tup hrr), kit_ty (by decide +kernel), true, rfl, iteF ?_⟩
    refine ⟨_, rfl, r, _, rfl, .inr (SqT.of hrr), _, _, rfl, rfl, _, rfl, iteF ?_⟩
    refine ⟨_, rfl, r, _, _, _, rfl, rfl, SqT.of hrr, rfl, ot, xs, rfl, hot, ox, fun H2 s2 => ⟨true, rfl, iteF ?_⟩⟩
    have hrr2 := s2 _ _ hrr
    refine ⟨_, rfl, r, _, _, _, rfl, rfl, SqT.of hrr2, rfl, rfl, _, rfl, iteT ?_⟩
    refine ⟨_, rfl, r, _, rfl, .inr (SqT.of hrr2), rfl, true, rfl, iteT ?_⟩
    refine ⟨_, rfl, r, _, _, _, rfl, rfl, SqT.of hrr2, rfl, gr, 0, 1000, rfl, ?_⟩
    rw [decide_eq_true (show 0 ≤ gr ∧ gr ≤ 1000 from ⟨g0, g1⟩)]
    exact hQ H2 s2
end
end K43
set_option Elab.async false
set_option linter.all false
set_option maxRecDepth 100000
set_option maxHeartbeats 4000000
/-! LK: min(xs, key=lambda a: d[a]), xs a tuple of texts, d a dict of whole numbers that the lambda captures. -/
namespace LK
open PySem PySem.Spec PyProof.Rows L2
open LamX (Tabs ExtN TabB lam_make2)
/-- one parameter a, one captured name d -/
structure Lam1 (scope : Scope) (a d : Str) : Prop where
  kind : scope.kind = .function
  co : scope.isCoroutine = false
  gen : scope.isGenerator = false
  cell : ∀ y ∈ scope.names, y.2 ≠ .cell
  loc : scope.names.lookup a = some .local
  fre : scope.names.lookup d = some .free
  da : (a == ("__debug__" : Str)) = false
  dd : (d == ("__debug__" : Str)) = false
  dc : (d == ("__classdict__" : Str)) = false
section
variable {prog : Program} {w : World} {A : Around} {E : Value → Shared → Prop} {s : Shared}
/-- the lambda called with a text -/
theorem lam_get {f c' cc dd : Addr} {qual a d key : Str} {params : Arguments} {scope : Scope} {cl : List (Str × Addr)} {pm ctv : Value} {p1 p2 p3 : Pos} {vs : List (Key × Value)} {u : Value} {tk : Tok} {Q : Value → Shared → Prop} (L : Lam1 scope a d)
    (hdep : A.depth < recursionLimit) (hlim : s.heap.NoLimit) (hf : s.heap.get? f = some (PySem.W.kla_obj "<lambda>" qual params (.Subscript (.Name d p1) (.Name a p2) p3) scope cl pm c' ctv))
    (hc : ∃ (oc : Obj) (ws : Array Value) (t : Tok), s.heap.get? c' = some oc ∧ oc.data = .fields ws ∧ ws[1]? = some (.str qual t)) (hcl : cl.lookup d = some cc) (hcc : s.heap.IsCell cc (some (.ref dd)))
    (hD : s.heap.DictOf (mixKind prog w) dd vs) (hv : valueAt vs (Sum.inr key) = some u) (hs : NoSl (.Name a p2))
    (hb : bindArgs (PySem.W.kla_fn "<lambda>" qual params (.Subscript (.Name d p1) (.Name a p2) p3) scope cl pm (.ref c') ctv) ⟨[.str key tk], []⟩ = pure [(a, .str key tk)])
    (h : ∀ h' tk', (∀ b o, s.heap.get? b = some o → h'.get? b = some o) → s.toks ≤ tk' → Q u { s with heap := h', toks := tk' }) : wpAny (model prog w) A (call (.ref f) [.str key tk]) Q E s := by
  obtain ⟨oc, ws, t, hoc, hdc, hq⟩ := hc
  refine wpAny_call (PySem.W.kla_callFunE hdep hf rfl L.co L.gen rfl ⟨c', oc, ws, t, rfl, hoc, hdc, hq⟩ ?_)
  rw [hb]
  refine wpAny_pure (wpAny_newFunctionEnv L.cell (fun y hy => ?_) (fun h₁ hns hsb => ⟨hlim.fresh _ hsb, ?_⟩) L.kind)
  · cases List.mem_singleton.mp hy
    exact L.loc
  have kp : ∀ b o, s.heap.get? b = some o → h₁.get? b = some o := fun b o e => hsb.extBut b o (Nat.ne_of_lt (Heap.lt_size e)) (Heap.get?_push_of_some _ e)
  have D1 : h₁.DictOf (mixKind prog w) dd vs := by
    obtain ⟨o, r⟩ := hD
    obtain ⟨es, ep, ho, r⟩ := r
    exact ⟨o, es, ep, kp _ _ ho, r⟩
  have C1 : h₁.IsCell cc (some (.ref dd)) := by
    obtain ⟨o, ho, hd⟩ := hcc
    exact ⟨o, kp _ _ ho, hd⟩
  show codeAny _ _ (.expr _ (PySem.W.envX qual scope s.heap.objs.size f (.ref c') cl)) _ _
  refine PySem.W.kla_codeExpr (subD_of PySem.F.slot_dict_getitem.lookup hs ?_)
  refine wpAny_Name (wpAny_loadName_free L.kind L.fre hcl C1 ?_ L.dc) L.dd
  refine wpAny_Name (wpAny_loadName_local L.kind L.loc hns (v := .str key tk) ?_ ?_) L.da
  · show (List.lookup a [(a, Value.str key tk)]) = _
    rw [List.lookup_cons, beq_self_eq_true]
  · refine ⟨D1.typeIs, wpAny_getItem_of (k := Sum.inr key) (kV_is (k := Sum.inr key) (show RelV (kV (Sum.inr key)) (.str key tk) from ⟨tk, rfl⟩)) D1.mapOf hv ?_⟩
    exact h h₁ _ kp (by show s.toks ≤ s.toks + 1 + 1; omega)
end
theorem best_min (val : Nat → Int) : ∀ k, argBest (fun i j => decide (val i < val j)) k ≤ k ∧ ∀ j, j ≤ k → val (argBest (fun i j => decide (val i < val j)) k) ≤ val j ∧ (j < argBest (fun i j => decide (val i < val j)) k → val (argBest (fun i j => decide (val i < val j)) k) < val j)
  | 0 => ⟨Nat.le_refl _, fun j hj => by
    cases (show j = 0 by omega)
    exact ⟨Int.le_refl _, fun z => absurd z (by show ¬ 0 < 0; omega)⟩⟩
  | k + 1 => by
    obtain ⟨i1, i2⟩ := best_min val k
    show (if decide (val (k + 1) < val (argBest (fun i j => decide (val i < val j)) k)) = true then k + 1 else argBest (fun i j => decide (val i < val j)) k) ≤ k + 1 ∧ ∀ j, j ≤ k + 1 → val (if decide (val (k + 1) < val (argBest (fun i j => decide (val i < val j)) k)) = true then k + 1 else argBest (fun i j => decide (val i < val j)) k) ≤ val j ∧ (j < (if decide (val (k + 1) < val (argBest (fun i j => decide (val i < val j)) k)) = true then k + 1 else argBest (fun i j => decide (val i < val j)) k) → val (if decide (val (k + 1) < val (argBest (fun i j => decide (val i < val j)) k)) = true then k + 1 else argBest (fun i j => decide (val i < val j)) k) < val j)
    generalize argBest (fun i j => decide (val i < val j)) k = b at i1 i2
    by_cases c : val (k + 1) < val b
    · rw [if_pos (decide_eq_true c)]
      refine ⟨Nat.le_refl _, fun j hj => ?_⟩
      by_cases e : j = k + 1
      · subst e
        exact ⟨Int.le_refl _, fun z => absurd z (by omega)⟩
      · have := i2 j (by omega)
        exact ⟨by omega, fun _ => by omega⟩
    · rw [if_neg (by simpa using c)]
      refine ⟨by omega, fun j hj => ?_⟩
      by_cases e : j = k + 1
      · subst e
        exact ⟨by omega, fun z => absurd z (by omega)⟩
      · exact i2 j (by omega)
/-- y is the first of xs whose number is least -/
def IsMin (κ : Str → Int) (xs : List Str) (y : Str) : Prop := ∃ i : Nat, xs[i]? = some y ∧ ∀ (j : Nat) (z : Str), xs[j]? = some z → κ y ≤ κ z ∧ (j < i → κ y < κ z)
section
variable {X : Cx} {pins : List (Addr × Obj)} {σ : L2.St} {H : Hp} {s : Shared}
theorem call_min {E : Value → Shared → Prop} {Q : Value → Shared → Prop} {f c' cc dd l : Addr} {qual a d : Str} {params : Arguments} {scope : Scope} {cl : List (Str × Addr)} {pm ctv : Value} {p1 p2 p3 : Pos} {vs : List (Key × Value)} {xs : List Str} {κ : Str → Int} (L : Lam1 scope a d)
    (I : Inv X pins σ H s) (hr : Room 2 X.A) (hf : s.heap.get? f = some (PySem.W.kla_obj "<lambda>" qual params (.Subscript (.Name d p1) (.Name a p2) p3) scope cl pm c' ctv))
    (hc : ∃ (oc : Obj) (ws : Array Value) (t : Tok), s.heap.get? c' = some oc ∧ oc.data = .fields ws ∧ ws[1]? = some (.str qual t)) (hcl : cl.lookup d = some cc) (hcc : s.heap.IsCell cc (some (.ref dd)))
    (hD : s.heap.DictOf (mixKind X.prog X.w) dd vs) (hs : NoSl (.Name a p2)) (hl : SqT X.K H l (xs.map V.str)) (hne : xs ≠ []) (hv : ∀ y ∈ xs, ∃ t, valueAt vs (Sum.inr y) = some (.int (κ y) t))
    (hb : ∀ u, bindArgs (PySem.W.kla_fn "<lambda>" qual params (.Subscript (.Name d p1) (.Name a p2) p3) scope cl pm (.ref c') ctv) ⟨[u], []⟩ = pure [(a, u)])
    (h : ∀ y t s', IsMin κ xs y → Inv X pins σ H s' → Q (.str y t) s') : wpAny (model X.prog X.w) X.A (call (.builtin "min") [.ref l] [(Str.ofString "key", .ref f)]) Q E s := by
  obtain ⟨its, r, pl, hz⟩ := I.tuple hl
  have hlen : its.toArray.size = xs.length := by rw [List.size_toArray, ← r.length, List.length_map]
  have hpos : 0 < xs.length := List.length_pos_iff.mpr hne
  have at_ : ∀ (i : Nat) (v : Value), its.toArray[i]? = some v → ∃ y t, xs[i]? = some y ∧ v = .str y t := fun i v hi => by
    have hi2 : its[i]? = some v := by rw [← List.getElem?_toArray]; exact hi
    have hl2 : i < xs.length := by
      have := (List.getElem?_eq_some_iff.mp hi2).1
      rw [← r.length, List.length_map] at this
      exact this
    obtain ⟨u, hu, t, ht⟩ := r.get (i := i) (x := .str xs[i]) (by rw [List.getElem?_map, List.getElem?_eq_getElem hl2]; rfl)
    rw [hi2] at hu
    cases Option.some.inj hu
    exact ⟨xs[i], t, List.getElem?_eq_getElem hl2, ht⟩
  have ls : l < s.heap.objs.size := by
    obtain ⟨o, ho, _⟩ := id pl
    exact Heap.lt_size ho
  have ne1 : l ≠ s.heap.objs.size := Nat.ne_of_lt ls
  have sz2 : (s.heap.push { cls := .type "tuple_iterator", data := .fields #[.ref l, .int 0 0] }).objs.size = s.heap.objs.size + 1 := Heap.size_push ..
  refine call_min_walkK (wpAny_pyIter_tuple pl ?_)
  have W := (Walks.tuple (prog := X.prog) (w := X.w) (A := X.A.in1) (by simp [hr.hd]) s.heap.objs.size l ne1 its.toArray).toS
  refine ⟨s.heap.objs.size, _, _, _, _, _, _, fun s1 => ∃ h' tk, s1 = { s with heap := h', toks := tk } ∧ ∀ b o, s.heap.get? b = some o → h'.get? b = some o, fun i k _ => ∃ t, k = .int (κ (xs.getD i Str.empty)) t, fun i j => decide (κ (xs.getD i Str.empty) < κ (xs.getD j Str.empty)), rfl, W, ⟨⟨_, Heap.get?_push_size _ rfl, rfl, rfl⟩, pl.push _⟩, fun b hb => ?_, by rw [hlen]; exact hpos, ?_, ⟨_, s.toks, rfl, fun b o e => Heap.get?_push_of_some _ e⟩, fun v s' hP hJ => ?_⟩
  · show b < (s.heap.push { cls := .type "tuple_iterator", data := .fields #[.ref l, .int 0 0] }).objs.size
    rw [sz2]
    rcases List.mem_cons.mp hb with rfl | hb
    · exact Nat.lt_succ_self _
    · cases List.mem_singleton.mp hb
      exact Nat.lt_succ_of_lt ls
  · refine ⟨?_, fun i k s1 s2 hk _ => hk, ?_, ?_⟩
    · rintro _ s2 ⟨h', tk, rfl, hk⟩ hm
      refine ⟨s2.heap, s2.toks, hm.eq_with, fun b o e => hm.heap b o (fun z => ?_) (hk b o e)⟩
      have lb : b < s.heap.objs.size := Heap.lt_size e
      rcases List.mem_cons.mp z with z | z
      · rw [sz2] at z
        exact Nat.ne_of_lt (Nat.lt_succ_of_lt lb) z
      · cases List.mem_singleton.mp z
        exact Nat.lt_irrefl _ lb
    · rintro i v _ o Q' E' hi hP ⟨h', tk, rfl, hk⟩ hSt hS hq
      obtain ⟨y, t, hy, rfl⟩ := at_ i v hP
      obtain ⟨t2, hv2⟩ := hv y (List.mem_of_getElem? hy)
      obtain ⟨oc, ws, t3, c1, c2, c3⟩ := hc
      have hD1 : h'.DictOf (mixKind X.prog X.w) dd vs := by
        obtain ⟨o, es, ep, ho, r⟩ := hD
        exact ⟨o, es, ep, hk _ _ ho, r⟩
      have hcc1 : h'.IsCell cc (some (.ref dd)) := by
        obtain ⟨o, ho, hd⟩ := hcc
        exact ⟨o, hk _ _ ho, hd⟩
      refine lam_get (s := { s with heap := h', toks := tk }) L hr.in1.depth ((I.nolimit).keeps hk) (hk _ _ hf) ⟨oc, ws, t3, hk _ _ c1, c2, c3⟩ hcl hcc1 hD1 hv2 hs (hb _) fun h2 tk2 hk2 htk => ?_
      have ey : xs.getD i Str.empty = y := by rw [List.getD_eq_getElem?_getD, hy]; rfl
      refine hq _ { s with heap := h2, toks := tk2 } ⟨h2, tk2, rfl, fun b o e => hk2 b o (hk b o e)⟩ ?_ (hk2 _ _ hS) ⟨t2, by rw [ey]⟩ fun _ _ z => z
      exact W.frame (i + 1) { s with heap := h', toks := tk } h2 tk2 hSt htk fun b _ o e => hk2 b o e
    · intro i j ki kj s1 Q' E' _ hi hj hq
      exact CmpOf.ints_lt (prog := X.prog) (w := X.w) (A := X.A.in1) (P := fun i v => ∃ t, v = .int (κ (xs.getD i Str.empty)) t) (fun i => κ (xs.getD i Str.empty)) (fun i v h => h) i j ki kj s1 Q' E' hi hj hq
  · obtain ⟨h', tk, rfl, hk⟩ := hJ
    obtain ⟨b1, b2⟩ := best_min (fun i => κ (xs.getD i Str.empty)) (its.toArray.size - 1)
    obtain ⟨y, t, hy, rfl⟩ := at_ _ v hP
    refine h y t _ ⟨_, hy, fun j z hz => ?_⟩ (I.kept hk)
    have hj : j < xs.length := (List.getElem?_eq_some_iff.mp hz).1
    have ey : xs.getD (argBest (fun i j => decide (κ (xs.getD i Str.empty) < κ (xs.getD j Str.empty))) (its.toArray.size - 1)) Str.empty = y := by rw [List.getD_eq_getElem?_getD, hy]; rfl
    have ez : xs.getD j Str.empty = z := by rw [List.getD_eq_getElem?_getD, hz]; rfl
    have := b2 j (by omega)
    simp only [ey, ez] at this
    exact this
/-- what min(te, key=lambda a: d[a]) wants: the tuple, the dict at slot jd, the tables -/
def tMinK (K : PySem.W.Frag) (T : List (Addr × Str)) (jd : Nat) (t : TA) : TE := fun σ H Q => t σ H fun vs H0 => ∃ (l dd : Addr) (xs : List Str) (kvs : List (Key × V)) (κ : Str → Int), vs = [.ref l] ∧ SqT K H0 l (xs.map V.str) ∧ xs ≠ [] ∧ σ[jd]? = some (some (.ref dd)) ∧ H0 dd = some (.dK kvs) ∧
  (∀ y ∈ xs, valV kvs (Sum.inr y) = some (.int (κ y))) ∧ Tabs T H0 ∧ ∀ H1, ExtN H0 H1 → Tabs T H1 → ∀ y, IsMin κ xs y → Q (.str y) H1
theorem pe_minKey {T : List (Addr × Str)} {c P : Addr} {a d : Str} {params : Arguments} {scope : Scope} {p p1 p2 p3 lpos kpos pos : Pos} {e : Expr} {ta : TA} {jd : Nat} (hg : Gl X "min") (hm : X.mg "min" = none) (ha : PA X [e] ta) (hr : Room 2 X.A) (TB : TabB X.base X.mg c P) (hcode : X.env.code = .ref c)
    (hmT : (P, X.env.qual ++ "<lambda>") ∈ T) (hu : ∀ p ∈ T, p.1 = P → p.2 = X.env.qual ++ "<lambda>") (L : Lam1 scope a d) (hfree : ∀ y ∈ scope.names, y.2 = .free → X.env.scope.names.lookup y.1 = some .cell ∨ X.env.scope.names.lookup y.1 = some .free)
    (hN : X.N[jd]? = some d) (hd : X.env.scope.names.lookup d = some .cell) (hdef : defaultsOf params X.env = ([], [])) (hs : NoSl (.Name a p2))
    (hb : ∀ (q : Str) (cl : List (Str × Addr)) (pm cv ctv u : Value), bindArgs (PySem.W.kla_fn "<lambda>" q params (.Subscript (.Name d p1) (.Name a p2) p3) scope cl pm cv ctv) ⟨[u], []⟩ = pure [(a, u)])
    (he : backTo pos (starEach [e] X.env) = (false, eval e X.env) :: backTo pos (starEach [] X.env) := by rfl) (hpl : (backTo pos (starEach [e] X.env)).any (·.1) = false := by rfl) :
    PE X (.Call (.Name "min" p) [e] [⟨some "key", .Lambda params (.Subscript (.Name d p1) (.Name a p2) p3) scope lpos, kpos⟩] pos) (tMinK X.K T jd ta) := by
  refine ⟨fun pins s σ H Q I h => ?_⟩
  refine wpAny_Call_Name_kw (ld_blt I hg hm boot_min ?_)
  refine PyProof.Rows.callWith_kw (thn (ha.run pos pins s σ H (fun vs H0 => ∃ (l dd : Addr) (xs : List Str) (kvs : List (Key × V)) (κ : Str → Int), vs = [.ref l] ∧ SqT X.K H0 l (xs.map V.str) ∧ xs ≠ [] ∧ σ[jd]? = some (some (.ref dd)) ∧ H0 dd = some (.dK kvs) ∧
    (∀ y ∈ xs, valV kvs (Sum.inr y) = some (.int (κ y))) ∧ Tabs T H0 ∧ ∀ H1, ExtN H0 H1 → Tabs T H1 → ∀ y, IsMin κ xs y → Q (.str y) H1) I h) fun us s1 ⟨vs, H1, I1, r1, q1⟩ => ?_) he hpl
  obtain ⟨l, dd, xs, kvs, κ, rfl, hl, hne, hdd, hD, hv, hT, hQ⟩ := q1
  obtain ⟨u, rfl, ru⟩ := vals1 r1
  cases (show u = Value.ref l from ru)
  have hfr : ∀ y ∈ scope.names, y.2 = .free → ∃ c, X.env.cells.lookup y.1 = some c := fun y hy e => I.ok.has _ (hfree y hy e)
  show wpAny _ _ (evalAll ((do let v ← eval (.Lambda params (.Subscript (.Name d p1) (.Name a p2) p3) scope lpos) X.env; standAt pos; pure v) :: [])) _ _ s1
  refine wpAny_evalAll_cons (wpAny_bind (lam_make2 I1 TB hcode hmT hu hT hdef hfr fun f c' pm ctv H2 s2 I2 eN T2 hf hfn hff hco => ?_))
  refine wpAny_bind (wpAny_standAt (wpAny_pure (wpAny_evalAll_nil ?_)))
  obtain ⟨⟨oc, ws, t, hoc, hdc, hvc⟩, _, _⟩ := I2.hok c' _ hco
  have hl2 : SqT X.K H2 l (xs.map V.str) := by
    rcases hl with z | z
    · rcases z with z | ⟨o, z⟩
      · exact .inl (.inl (eN _ _ z fun _ q => by cases q))
      · exact .inl (.inr ⟨o, eN _ _ z fun _ q => by cases q⟩)
    · exact .inr z
  have hD2 : H2 dd = some (.dK kvs) := eN _ _ hD fun _ q => by cases q
  obtain ⟨m, hn, hlk⟩ := I2.loc
  obtain ⟨w', rw', look⟩ := hlk jd d (.ref dd) hN hdd (.inr (.inl hd))
  cases (show w' = Value.ref dd from rw')
  obtain ⟨cc, hcc, hcell⟩ : ∃ cc, X.env.cells.lookup d = some cc ∧ s2.heap.IsCell cc (some (.ref dd)) := by
    rcases look with ⟨z, _⟩ | ⟨_, cc, z1, z2⟩
    · have z' : X.env.scope.names.lookup d = some .local := z
      rw [hd] at z'
      cases z'
    · exact ⟨cc, z1, z2⟩
  have hcl : (cloFrom X.env.cells scope.names []).lookup d = some cc := by
    have hy : (d, NameKind.free) ∈ scope.names := PySem.mem_of_lookup L.fre
    obtain ⟨c2, h2⟩ := mem_lookup (cloFrom_has (cells := X.env.cells) (acc := []) hy)
    rcases cloFrom_mem (PySem.mem_of_lookup h2) with z | ⟨z1, z2⟩
    · cases z
    · rw [h2, z2, hcc]
      rfl
  obtain ⟨_, _, vs, rel, hDo⟩ := dk_of I2.hok hD2
  refine call_min (κ := κ) L I2 hr hf ⟨oc, ws, t, hoc, hdc, hvc⟩ hcl hcell hDo hs hl2 hne (fun y hy => ?_) (fun u => hb _ _ _ _ _ u) fun y t s3 hm I3 => ⟨.str y, H2, I3, ⟨t, rfl⟩, hQ H2 eN T2 y hm⟩
  obtain ⟨u, hu2, t2, ht2⟩ := RelO.some_of (v := .int (κ y)) (o := valueAt vs (Sum.inr y)) (by rw [← hv y hy]; exact rel.val (Sum.inr y))
  exact ⟨t2, by rw [hu2, ht2]⟩
end
end LK
set_option Elab.async false
set_option linter.all false
set_option maxRecDepth 100000
set_option maxHeartbeats 4000000
namespace K43
open PySem PySem.Spec PyProof.Rows L2
open C8 (Cal Mak Met pe_c pe_mk pe_mt pe_mt0)
open LamX (Tabs ExtN TabB)
open SX (S)
theorem inV_strs (x : Str) : ∀ R : List Str, inV (.str x) (R.map V.str) = decide (x ∈ R)
  | [] => rfl
  | y :: R => by
    have ih := inV_strs x R
    unfold inV at ih ⊢
    rw [List.map_cons, List.any_cons, ih]
    have e : eqV (.str y) (.str x) = decide (x = y) := by
      show decide (y = x) = decide (x = y)
      exact decide_eq_decide.mpr ⟨Eq.symm, Eq.symm⟩
    rw [e]
    simp [Bool.decide_or]
theorem flat_strs (R : List Str) : (R.map V.str).all flatV = true := by
  rw [List.all_eq_true]
  intro v hv
  obtain ⟨y, _, rfl⟩ := List.mem_map.mp hv
  rfl
/-- riders in a list or a tuple -/
def RdA (H : Hp) (rd : Addr) (R : List Str) : Prop := H rd = some (.lst (R.map V.str)) ∨ H rd = some (.tup (R.map V.str))
theorem RdA.same {H H' : Hp} {rd : Addr} {R : List Str} (h : RdA H rd R) (s : Same H H') : RdA H' rd R := h.imp (s _ _) (s _ _)
theorem RdA.sq {K : PySem.W.Frag} {H : Hp} {rd : Addr} {R : List Str} (h : RdA H rd R) : SqL K H rd (R.map V.str) ∨ SqT K H rd (R.map V.str) := h.imp SqL.of SqT.of
theorem RdA.extN {H H' : Hp} {rd : Addr} {R : List Str} (h : RdA H rd R) (e : ExtN H H') : RdA H' rd R := h.imp (fun z => e _ _ z fun _ q => by cases q) (fun z => e _ _ z fun _ q => by cases q)
section
variable {P : Program} {w : World} {K : PySem.W.Frag} {mg : Str → Option Value} {base : Heap} {f C : Addr} {fd : FuncData}
def spNo : Sp := fun vs H Q _ => ∃ (ot rd : Addr) (xs R : List Str), vs = [.ref ot, .ref rd] ∧ PIN.PinT H ot (xs.map V.str) ∧ RdA H rd R ∧ xs.length ≤ 13 ∧
  ∀ (t : Addr) (H' : Hp), Same H H' → H t = none → H' t = some (.tup ((xs.filter fun x => decide (x ∈ R)).map V.str)) → Q (.ref t) H'
theorem ok_no (F : Dn K d_names_of f fd) (b2 : Bl2 mg) : FnOk P w K mg base CX0 1 f fd ["order", "riders"] spNo := by
  refine F.ok sc_names_of (fun vs H Q E h => ?_) (fun cdv A outer s H vs Q E hr h => ?_)
  · obtain ⟨ot, rd, xs, R, rfl, _⟩ := h
    rfl
  · obtain ⟨ot, rd, xs, R, rfl, hot, hrd, l13, hQ⟩ := h
    refine ⟨_, PSs.nox (pss_one (ps_ret (pe_callTy call_tuple_of rfl b2.tup boot_tuple (pa_cons (pe_lc (own := [("name", 2)]) (g := gName 2) rfl sc_names_of.nd (pi_tup (pv 0)) (blkOk_by (N := N_names_of) (sc := defScope s_names_of) (by decide +kernel))
          (fun _ _ _ _ _ => pg_name (i := 2) sc_names_of.nd rfl (Or.inl rfl)) (fun _ _ _ _ _ => pts_one (pt_cmpR (r := rIn K false) op_in_seq (pv 2) (pv 1) (by rfl))) (fun _ _ _ _ _ => pv 2)) pa_nil)))), ?_⟩
    refine ⟨_, rfl, ot, rfl, ⟨_, hot.sq⟩, fun D hD => lc_tup (fun i H2 => H2 D = some (.lst (((xs.take i).filter fun x => decide (x ∈ R)).map V.str)) ∧ Same H H2) ⟨upd_same, same_new hD⟩ (fun _ H2 _ z => (hot.same z.2).sq) ?_ ?_⟩
    · rintro i x H2 hx ⟨hd, sm⟩
      have hi' : i < xs.length := by
        have := (List.getElem?_eq_some_iff.mp hx).1
        simpa using this
      rw [List.getElem?_map] at hx
      obtain ⟨y, hy, rfl⟩ := Option.map_eq_some_iff.mp hx
      have et : xs.take (i + 1) = xs.take i ++ [y] := by rw [List.take_succ, hy]; rfl
      refine ⟨rfl, ?_⟩
      refine ⟨_, rfl, _, rfl, rd, _, rfl, (hrd.same sm).sq, rfl, flat_strs R, _, rfl, ?_⟩
      simp only [Bool.false_eq_true, if_false]
      rw [inV_strs]
      refine ite2 (fun hm => ?_) (fun hm => ?_)
      · refine ⟨_, rfl, _, hd, ?_, ?_, ?_⟩
        · rw [List.length_map]
          refine Nat.lt_of_le_of_lt (List.length_filter_le _ _) ?_
          rw [List.length_take]
          exact Nat.lt_of_lt_of_le (by omega : min i xs.length < 64) (by decide)
        · rw [upd_same, et, List.filter_append, List.map_append]
          simp [hm]
        · intro a o e
          rw [upd_ne (ne_of_none e hD)]
          exact sm a o e
      · refine ⟨?_, sm⟩
        rw [et, List.filter_append]
        simp [hm, hd]
    · rintro H2 ⟨hd, sm⟩
      rw [List.length_map, List.take_length] at hd
      refine ⟨D, _, rfl, .inl ⟨SqL.of hd, fun l fl => hQ l _ (sm.trans (same_new fl)) ?_ upd_same⟩⟩
      exact sm.free fl
def spFm : Sp := fun vs H Q _ => ∃ (r ot : Addr) (xs : List Str) (g : Int), vs = [.ref r] ∧ LeastR H r ot xs g ∧
  ∀ (t : Addr) (H' : Hp), Same H H' → H t = none → H' t = some (.tup (xs.map fun _ => V.int 0)) → Q (.ref t) H'
theorem zs_take (xs : List Str) (i : Nat) (h : i < xs.length) : ((xs.take i).map fun _ => V.int 0) ++ [V.int 0] = (xs.take (i + 1)).map fun _ => V.int 0 := by
  rw [List.take_succ, List.getElem?_eq_getElem h, List.map_append]
  rfl
theorem ok_fm (F : Dn K d_first_memory f fd) (b2 : Bl2 mg) : FnOk P w K mg base CX0 1 f fd ["rule"] spFm := by
  refine F.ok sc_first_memory (fun vs H Q E h => ?_) (fun cdv A outer s H vs Q E hr h => ?_)
  · obtain ⟨r, ot, xs, g, rfl, _⟩ := h
    rfl
  · obtain ⟨r, ot, xs, g, rfl, ⟨hrr, hot, ox, g0, g1⟩, hQ⟩ := h
    have l8 := ox.l8
    refine ⟨_, PSs.nox (pss_cons (ps_if (pt_cmpR op_eq (pe_ix ix_tup (pv 0) pe_int (fun _ _ => rfl)) pe_str (nomark _)) (pss_one (ps_ret (pe_callTy call_tuple_of rfl b2.tup boot_tuple (pa_cons (pe_lc (own := [("name", 1)]) (g := gName 1) (tt := tYes) rfl sc_first_memory.nd (pi_tup (pe_ix ix_tup (pv 0) pe_int (fun _ _ => rfl))) (blkOk_by (N := N_first_memory) (sc := defScope s_first_memory) (by decide +kernel))
          (fun _ _ _ _ _ => pg_name (i := 1) sc_first_memory.nd rfl (Or.inl rfl)) (fun _ _ _ _ _ => pts_nil) (fun _ _ _ _ _ => pe_int)) pa_nil)))) pss_nil) pss_never), ?_⟩
    refine ⟨_, rfl, r, _, _, _, rfl, rfl, SqT.of hrr, rfl, rfl, _, rfl, iteT ?_⟩
    refine ⟨_, rfl, r, _, _, _, rfl, rfl, SqT.of hrr, rfl, ot, rfl, ⟨_, hot.sq⟩, fun D hD => lc_tup (fun i H2 => H2 D = some (.lst ((xs.take i).map fun _ => V.int 0)) ∧ Same H H2) ⟨upd_same, same_new hD⟩ (fun _ H2 _ z => (hot.same z.2).sq) ?_ ?_⟩
    · rintro i x H2 hx ⟨hd, sm⟩
      have hi' : i < xs.length := by
        have := (List.getElem?_eq_some_iff.mp hx).1
        simpa using this
      refine ⟨rfl, _, hd, ?_, ?_, ?_⟩
      · rw [List.length_map, List.length_take]
        exact Nat.lt_of_lt_of_le (by omega : min i xs.length < 64) (by decide)
      · rw [upd_same, zs_take xs i hi']
      · intro a o e
        rw [upd_ne (ne_of_none e hD)]
        exact sm a o e
    · rintro H2 ⟨hd, sm⟩
      rw [List.length_map, List.take_length] at hd
      exact ⟨D, _, rfl, .inl ⟨SqL.of hd, fun l fl => hQ l _ (sm.trans (same_new fl)) (sm.free fl) upd_same⟩⟩
end
end K43
set_option Elab.async false
set_option linter.all false
set_option maxRecDepth 100000
set_option maxHeartbeats 4000000
namespace K43
open PySem PySem.Spec PyProof.Rows L2
open C8 (Cal Mak Met pe_c pe_mk pe_mt pe_mt0)
open LamX (Tabs ExtN TabB)
open SX (S)
/-- the def's code is known -/
theorem okT {P : Program} {w : World} {K : PySem.W.Frag} {mg : Str → Option Value} {base : Heap} {x qual : Str} {params : Arguments} {body : List Stmt} {scope : Scope} {dvs : List V} {kws : List (Str × V)} {p : He.Defn} {fd : FuncData}
    {CX : CXT} {N ps : List Str} {k : Nat} {sp : Sp} (F : FunD K x qual params body scope dvs kws (He.fAd K p) fd) (S : FnScope N ps scope) (len : ∀ vs H Q E, sp vs H Q E → vs.length = ps.length)
    (hbody : ∀ (A : Around) (outer : List Env) (s : Shared) (H : Hp) (vs : List V) (Q : VK) (E : XK), Room k (A.deeper (envOfC qual scope s.heap.objs.size (He.fAd K p) (.ref (He.cT K p).1))) → sp vs H Q E →
      ∃ t, PSs (cxOf CX P w K mg base N qual scope (He.fAd K p) (.ref (He.cT K p).1) A outer s H E) body t ∧ t { nx := fun _ H' => Q .non H', rt := Q } (start N vs) H) : FnOk P w K mg base CX (k + 1) (He.fAd K p) fd ps sp := by
  obtain ⟨oc, od, dV, kV, doc, pm, an, cdv, ct, osl, rfl, lk, hcd, _, _⟩ := F.ex
  obtain ⟨c, rfl⟩ := He.codeIn_ref hcd
  have e : (He.cT K p).1 = c := He.codeOf_eq lk rfl
  rw [e] at hbody
  exact fn_of lk hcd S len fun A outer s H vs Q E hr hsp => hbody A outer s H vs Q E hr hsp
/-- the table of the lambda -/
def T0 (K : PySem.W.Frag) : List (Addr × Str) := [((He.cT K ("least_driver", none)).2, (envOfC d_least_driver.qual d_least_driver.scope 0 0 .none).qual ++ "<lambda>")]
/-- what counts of a credit, by the grain -/
def cnt (g c : Int) : Int := if g = 0 then c else (c * g).fdiv 840
/-- credits stand at a -/
def Crd (H : Hp) (a : Addr) (xs : List Str) (c : Str → Int) : Prop := H a = some (.tup (xs.map fun x => V.int (c x)))
section
variable {P : Program} {w : World} {K : PySem.W.Frag} {mg : Str → Option Value} {base : Heap} {f C : Addr} {fd : FuncData}
def spLd (K : PySem.W.Frag) : Sp := fun vs H Q _ => ∃ (r ot hd nt : Addr) (xs ns : List Str) (g : Int) (c : Str → Int), vs = [.ref r, .ref hd, .ref nt] ∧ LeastR H r ot xs g ∧ Crd H hd xs c ∧ H nt = some (.tup (ns.map V.str)) ∧ ns ≠ [] ∧ (∀ y ∈ ns, y ∈ xs) ∧ Tabs (T0 K) H ∧
  ∀ H1, ExtN H H1 → Tabs (T0 K) H1 → ∀ y, LK.IsMin (fun x => cnt g (c x)) ns y → Q (.str y) H1
theorem ok_ld (F : Dn K d_least_driver (He.fAd K ("least_driver", none)) fd) (b2 : Bl2 mg) (gp : ∃ t, mg "RIDE_PARTS" = some (.int 840 t)) (TB : TabB base mg (He.cT K ("least_driver", none)).1 (He.cT K ("least_driver", none)).2) :
    FnOk P w K mg base CX0 3 (He.fAd K ("least_driver", none)) fd ["rule", "held", "names"] (spLd K) := by
  refine okT F sc_least_driver (fun vs H Q E h => ?_) (fun A outer s H vs Q E hr h => ?_)
  · obtain ⟨r, ot, hd, nt, xs, ns, g, c, rfl, _⟩ := h
    rfl
  · obtain ⟨r, ot, hd, nt, xs, ns, g, c, rfl, lr, hc, hnt, nne, sub, tabs, hQ⟩ := h
    obtain ⟨hrr, hot, ox, g0, g1⟩ := id lr
    obtain ⟨t, gp⟩ := gp
    have hu := hu_of hr
    have l8 := ox.l8
    refine ⟨_, PSs.nox (pss_cons (ps_set (i := 3) sc_least_driver.nd rfl (.inl rfl) (pe_ix ix_tup (pv 0) pe_int (fun _ _ => rfl)))
      (pss_cons (ps_set (i := 6) sc_least_driver.nd rfl (.inr rfl) pe_dnewK)
      (pss_cons (ps_for PassesOwn.never rfl (RZ.pi_zipA rfl b2.zip (pa_cons (pe_ix ix_tup (pv 0) pe_int (fun _ _ => rfl)) (pa_cons (pv 1) pa_nil))) (pg_tup rfl (pgs_cons (pg_name (i := 4) sc_least_driver.nd rfl (.inl rfl)) (pgs_cons (pg_name (i := 5) sc_least_driver.nd rfl (.inl rfl)) pgs_nil)))
        (pss_one (ps_dput hu (pv 6) (pv 4) (pe_ifExp (pt_cmpR op_eq (pv 3) pe_int (nomark _)) (pv 5) (pe_op op_fdW (pe_op op_mul (pv 5) (pv 3)) (pe_glob (v := .int 840) rfl gp ⟨t, rfl⟩))) rfl)))
      (pss_one (ps_ret (LK.pe_minKey (T := T0 K) (jd := 6) rfl b2.min (pa_cons (pv 2) pa_nil) hr TB rfl (List.mem_singleton.mpr rfl) (fun p hp _ => by rw [List.mem_singleton.mp hp]; rfl) ⟨rfl, rfl, rfl, by decide +kernel, by decide +kernel, by decide +kernel, by decide +kernel, by decide +kernel, by decide +kernel⟩ (by show ∀ (y : Str × NameKind), y ∈ _ → y.2 = NameKind.free → List.lookup y.1 d_least_driver.scope.names = some .cell ∨ List.lookup y.1 d_least_driver.scope.names = some .free; decide +kernel) rfl rfl rfl (fun _ _ => rfl) (fun _ _ _ _ _ _ => rfl))))))), ?_⟩
    refine ⟨_, rfl, r, _, _, _, rfl, rfl, SqT.of hrr, rfl, fun dd fdd => ?_⟩
    have sd := same_new (o := .dK []) fdd
    refine ⟨_, rfl, r, _, _, _, rfl, rfl, SqT.of (sd _ _ hrr), rfl, _, rfl, ot, hd, _, _, rfl, .inr ⟨(hot.same sd).sq, SqT.of (sd _ _ hc), ?_⟩⟩
    refine RZ.for_zipT (by simp) (fun i σ H2 => ∃ (v4 v5 : Option V) (kvs : List (Key × V)), σ = [some (.ref r), some (.ref hd), some (.ref nt), some (.int g), v4, v5, some (.ref dd)] ∧ H2 dd = some (.dK kvs) ∧ kvs.length ≤ i ∧ (∀ (j : Nat) (x : Str), j < i → xs[j]? = some x → valV kvs (Sum.inr x) = some (.int (cnt g (c x)))) ∧ Same H H2)
      ⟨_, _, [], rfl, upd_same, Nat.le_refl _, fun j x hj => absurd hj (Nat.not_lt_zero _), sd⟩ (fun i σ H2 ⟨_, _, _, _, _, _, _, sm⟩ => ⟨(hot.same sm).sq, SqT.of (sm _ _ hc)⟩) ?_ ?_
    · rintro i x y T σ H2 hx hy ⟨v4, v5, kvs, rfl, hdd, hlen, hval, sm⟩ hT
      have hi' : i < xs.length := by
        have := (List.getElem?_eq_some_iff.mp hx).1
        simpa using this
      rw [List.getElem?_map] at hx hy
      obtain ⟨z, hz, rfl⟩ := Option.map_eq_some_iff.mp hx
      rw [hz] at hy
      cases hy
      have sT := same_new (o := .tup [V.str z, V.int (c z)]) hT
      refine ⟨T, _, rfl, SqT.of upd_same, rfl, _, _, rfl, _, _, rfl, rfl, ?_⟩
      have fin : ∀ v : V, v = .int (cnt g (c z)) → ∃ a H4, V.ref dd = .ref a ∧ DPut (upd H2 T (.tup [V.str z, V.int (c z)])) a (.str z) v H4 ∧ (∃ (v4 v5 : Option V) (kvs : List (Key × V)), [some (.ref r), some (.ref hd), some (.ref nt), some (.int g), some (V.str z), some (V.int (c z)), some (.ref dd)] = [some (.ref r), some (.ref hd), some (.ref nt), some (.int g), v4, v5, some (.ref dd)] ∧ H4 dd = some (.dK kvs) ∧ kvs.length ≤ i + 1 ∧ (∀ (j : Nat) (x : Str), j < i + 1 → xs[j]? = some x → valV kvs (Sum.inr x) = some (.int (cnt g (c x)))) ∧ Same H H4) := by
        rintro v rfl
        refine ⟨dd, _, rfl, DPut.k (k := Sum.inr z) (sT _ _ hdd) (Nat.lt_of_le_of_lt (by omega : kvs.length ≤ 8) (by decide)), _, _, _, rfl, upd_same, Nat.le_trans (length_putK _ _ _) (by omega), ?_, ?_⟩
        · intro j x hj hjx
          rw [valV_put]
          by_cases e : x = z
          · rw [e, if_pos rfl]
          · rw [if_neg (fun q => e (Sum.inr.inj q))]
            refine hval j x ?_ hjx
            rcases Nat.lt_succ_iff_lt_or_eq.mp hj with h | h
            · exact h
            · rw [h, hz] at hjx
              exact absurd (Option.some.inj hjx).symm e
        · intro a o e
          rw [upd_ne (ne_of_none e fdd)]
          exact sT a o (sm a o e)
      by_cases hg : g = 0
      · have z0 : decide (V.int g = V.int 0) = true := by simp [hg]
        refine ⟨_, rfl, rfl, _, rfl, ?_⟩
        rw [z0]
        refine iteT ⟨_, rfl, _, rfl, _, rfl, fin _ ?_⟩
        unfold cnt
        rw [if_pos hg]
      · have z0 : decide (V.int g = V.int 0) = false := by simp [hg]
        refine ⟨_, rfl, rfl, _, rfl, ?_⟩
        rw [z0]
        refine iteF ⟨_, rfl, _, rfl, _, _, rfl, rfl, cb_r (by omega) (by omega), _, _, rfl, rfl, ⟨by decide, by decide⟩, _, rfl, _, rfl, fin _ ?_⟩
        unfold cnt
        rw [if_neg hg]
    · rintro σ H2 ⟨v4, v5, kvs, rfl, hdd, hlen, hval, sm⟩
      refine ⟨_, rfl, nt, dd, ns, kvs, fun x => cnt g (c x), rfl, SqT.of (sm _ _ hnt), nne, rfl, hdd, fun y hy => ?_, tabs.ext sm, fun H1 e1 t1 y hy => hQ H1 ((ExtN.of sm).trans e1) t1 y hy⟩
      obtain ⟨j, hj, rfl⟩ := List.mem_iff_getElem.mp (sub y hy)
      exact hval j _ (by simpa using hj) (List.getElem?_eq_getElem hj)
end
end K43
set_option Elab.async false
set_option linter.all false
set_option maxRecDepth 100000
set_option maxHeartbeats 4000000
namespace K43
open PySem PySem.Spec PyProof.Rows L2
open C8 (Cal Mak Met pe_c pe_mk pe_mt pe_mt0)
open LamX (Tabs ExtN TabB)
open SX (S)
/-- credits behind a day -/
def nxt (R : List Str) (d : Str) (c : Str → Int) (x : Str) : Int := c x - (if x ∈ R then (840 : Int).fdiv (R.length : Int) else 0) + (if x = d then 840 else 0)
/-- who may drive -/
def Drv (g : Int) (c : Str → Int) (xs R : List Str) (y : Str) : Prop := LK.IsMin (fun x => cnt g (c x)) (xs.filter fun x => decide (x ∈ R)) y
theorem LeastR.extN {H H' : Hp} {r ot : Addr} {xs : List Str} {g : Int} (h : LeastR H r ot xs g) (e : ExtN H H') : LeastR H' r ot xs g := h.ext (fun a ys z => e _ _ z fun _ q => by cases q) (fun a od ys z => e _ _ z fun _ q => by cases q)
theorem LeastR.same {H H' : Hp} {r ot : Addr} {xs : List Str} {g : Int} (h : LeastR H r ot xs g) (e : Same H H') : LeastR H' r ot xs g := h.ext (fun a ys z => e _ _ z) (fun a od ys z => e _ _ z)
theorem Crd.extN {H H' : Hp} {a : Addr} {xs : List Str} {c : Str → Int} (h : Crd H a xs c) (e : ExtN H H') : Crd H' a xs c := e _ _ h fun _ q => by cases q
theorem Crd.same {H H' : Hp} {a : Addr} {xs : List Str} {c : Str → Int} (h : Crd H a xs c) (e : Same H H') : Crd H' a xs c := e _ _ h
section
variable {P : Program} {w : World} {K : PySem.W.Frag} {mg : Str → Option Value} {base : Heap} {f C : Addr} {fd : FuncData}
def spDb (K : PySem.W.Frag) : Sp := fun vs H Q _ => ∃ (r ot hd rd : Addr) (xs R : List Str) (g : Int) (c : Str → Int), vs = [.ref r, .ref hd, .ref rd] ∧ LeastR H r ot xs g ∧ Crd H hd xs c ∧ RdA H rd R ∧ DayOk xs R ∧ Tabs (T0 K) H ∧
  ∀ H1, ExtN H H1 → Tabs (T0 K) H1 → ∀ y, Drv g c xs R y → Q (.str y) H1
theorem ok_db (F : Dn K d_driver_by f fd) (cNo : Cal P w K mg base 1 "names_of" spNo []) (cLd : Cal P w K mg base 3 "least_driver" (spLd K) []) : FnOk P w K mg base CX0 4 f fd ["rule", "memory", "riders"] (spDb K) := by
  refine F.ok sc_driver_by (fun vs H Q E h => ?_) (fun cdv A outer s H vs Q E hr h => ?_)
  · obtain ⟨r, ot, hd, rd, xs, R, g, c, rfl, _⟩ := h
    rfl
  · obtain ⟨r, ot, hd, rd, xs, R, g, c, rfl, lr, hc, hrd, dy, tabs, hQ⟩ := h
    obtain ⟨hrr, hot, ox, g0, g1⟩ := id lr
    have l8 := ox.l8
    refine ⟨_, PSs.nox (pss_cons (ps_set (i := 3) sc_driver_by.nd rfl (.inl rfl) (pe_c cNo hr (by decide) rfl (pa_cons (pe_ix ix_tup (pv 0) pe_int (fun _ _ => rfl)) (pa_cons (pv 2) pa_nil))))
      (pss_cons (ps_if (pt_cmpR op_eq (pe_ix ix_tup (pv 0) pe_int (fun _ _ => rfl)) pe_str (nomark _)) (pss_one (ps_ret (pe_c cLd hr (by decide) rfl (pa_cons (pv 0) (pa_cons (pv 1) (pa_cons (pv 3) pa_nil)))))) pss_nil) pss_never)), ?_⟩
    refine ⟨_, rfl, r, _, _, _, rfl, rfl, SqT.of hrr, rfl, _, rfl, ot, rd, xs, R, rfl, hot, hrd, by omega, fun t H2 s2 ft ht => ?_⟩
    refine ⟨_, rfl, r, _, _, _, rfl, rfl, SqT.of (s2 _ _ hrr), rfl, rfl, _, rfl, iteT ?_⟩
    refine ⟨_, rfl, _, rfl, _, rfl, r, ot, hd, t, xs, _, g, c, rfl, lr.same s2, hc.same s2, ht, ?_, fun y hy => (List.mem_filter.mp hy).1, tabs.ext s2, fun H3 e3 t3 y hy => hQ H3 ((ExtN.of s2).trans e3) t3 y hy⟩
    intro z
    obtain ⟨y, hy⟩ := List.exists_mem_of_ne_nil R dy.ne
    have : y ∈ xs.filter fun x => decide (x ∈ R) := List.mem_filter.mpr ⟨dy.sub y hy, decide_eq_true hy⟩
    rw [z] at this
    cases this
def spPb : Sp := fun vs H Q _ => ∃ (ot hd rd : Addr) (xs R : List Str) (d : Str) (c : Str → Int), vs = [.ref ot, .ref hd, .ref rd, .str d] ∧ PIN.PinT H ot (xs.map V.str) ∧ xs.length ≤ 13 ∧ Crd H hd xs c ∧ RdA H rd R ∧ R ≠ [] ∧ R.length ≤ 13 ∧
  ∀ (t : Addr) (H' : Hp), Same H H' → H t = none → Crd H' t xs (nxt R d c) → Q (.ref t) H'
theorem ok_pb (F : Dn K d_parts_behind f fd) (b : Bl mg) (b2 : Bl2 mg) (gp : ∃ t, mg "RIDE_PARTS" = some (.int 840 t)) : FnOk P w K mg base CX0 1 f fd ["order", "held", "riders", "driver"] spPb := by
  refine F.ok sc_parts_behind (fun vs H Q E h => ?_) (fun cdv A outer s H vs Q E hr h => ?_)
  · obtain ⟨ot, hd, rd, xs, R, d, c, rfl, _⟩ := h
    rfl
  · obtain ⟨ot, hd, rd, xs, R, d, c, rfl, hot, l13, hc, hrd, rne, r13, hQ⟩ := h
    obtain ⟨t, gp⟩ := gp
    have rpos : 0 < R.length := List.length_pos_iff.mpr rne
    refine ⟨_, PSs.nox (pss_cons (ps_set (i := 4) sc_parts_behind.nd rfl (.inl rfl) (pe_lst pa_nil))
      (pss_cons (ps_for PassesOwn.never rfl (RZ.pi_zipA rfl b2.zip (pa_cons (pv 0) (pa_cons (pv 1) pa_nil))) (pg_tup rfl (pgs_cons (pg_name (i := 5) sc_parts_behind.nd rfl (.inl rfl)) (pgs_cons (pg_name (i := 6) sc_parts_behind.nd rfl (.inl rfl)) pgs_nil)))
        (C8.pss_cut (ps_set (i := 7) sc_parts_behind.nd rfl (.inl rfl) (pe_ifExp (pt_cmpR op_in_seq (pv 5) (pv 2) (by rfl)) (pe_op op_fdW (pe_glob (v := .int 840) rfl gp ⟨t, rfl⟩) (pe_callB call_len_seq rfl b.len boot_len (pa_cons (pv 2) pa_nil))) pe_int))
        (C8.pss_cut (ps_set (i := 8) sc_parts_behind.nd rfl (.inl rfl) (pe_ifExp (pt_cmpR op_eq (pv 5) (pv 3) (nomark _)) (pe_glob (v := .int 840) rfl gp ⟨t, rfl⟩) pe_int))
        (pss_one (ps_expr (pe_bm PySem.F.plainAttrs_list PySem.F.slot_list_append PySem.F.type_list_append mt_append (pv 4) (pa_cons (pe_op op_add (pe_op op_sub (pv 6) (pv 7)) (pv 8)) pa_nil)))))))
      (pss_one (ps_ret (pe_callTy call_tuple_of rfl b2.tup boot_tuple (pa_cons (pv 4) pa_nil)))))), ?_⟩
    refine ⟨by show 0 ≤ sizeLine; decide, fun o fo => ?_⟩
    have so := same_new (o := .lst []) fo
    refine ⟨_, rfl, _, rfl, ot, hd, _, _, rfl, .inr ⟨(hot.same so).sq, SqT.of (so _ _ hc), ?_⟩⟩
    refine RZ.for_zipT (by simp) (fun i σ H2 => ∃ (v5 v6 v7 v8 : Option V), σ = [some (.ref ot), some (.ref hd), some (.ref rd), some (.str d), some (.ref o), v5, v6, v7, v8] ∧ H2 o = some (.lst ((xs.take i).map fun x => V.int (nxt R d c x))) ∧ Same H H2)
      ⟨_, _, _, _, rfl, upd_same, so⟩ (fun i σ H2 ⟨_, _, _, _, _, _, sm⟩ => ⟨(hot.same sm).sq, SqT.of (sm _ _ hc)⟩) ?_ ?_
    · rintro i x y T σ H2 hx hy ⟨v5, v6, v7, v8, rfl, ho, sm⟩ hT
      have hi' : i < xs.length := by
        have := (List.getElem?_eq_some_iff.mp hx).1
        simpa using this
      rw [List.getElem?_map] at hx hy
      obtain ⟨z, hz, rfl⟩ := Option.map_eq_some_iff.mp hx
      rw [hz] at hy
      cases hy
      have et : xs.take (i + 1) = xs.take i ++ [z] := by rw [List.take_succ, hz]; rfl
      have sT := same_new (o := .tup [V.str z, V.int (c z)]) hT
      refine ⟨T, _, rfl, SqT.of upd_same, rfl, _, _, rfl, _, _, rfl, rfl, ?_⟩
      refine ⟨fun σ' H' => H' = upd H2 T (.tup [V.str z, V.int (c z)]) ∧ ∃ v8, σ' = [some (.ref ot), some (.ref hd), some (.ref rd), some (.str d), some (.ref o), some (.str z), some (.int (c z)), some (.int (if z ∈ R then (840 : Int).fdiv (R.length : Int) else 0)), v8], ?_, ?_⟩
      · refine ⟨_, rfl, _, rfl, rd, _, rfl, ((hrd.same sm).same sT).sq, rfl, flat_strs R, _, rfl, ?_⟩
        simp only [Bool.false_eq_true, if_false]
        rw [inV_strs]
        refine ite2 (fun hm => ?_) (fun hm => ?_)
        · refine ⟨_, rfl, rd, _, rfl, ((hrd.same sm).same sT).sq, _, _, rfl, rfl, ?_, rfl, v8, ?_⟩
          · rw [List.length_map]
            exact ⟨by omega, log_lt (n := 4) (by omega) (by decide) (by decide)⟩
          · rw [if_pos (of_decide_eq_true hm), List.length_map]
            rfl
        · refine ⟨rfl, v8, ?_⟩
          rw [if_neg (fun q => hm (decide_eq_true q))]
          rfl
      rintro σ' H' ⟨rfl, v8, rfl⟩
      refine ⟨fun σ' H' => H' = upd H2 T (.tup [V.str z, V.int (c z)]) ∧ σ' = [some (.ref ot), some (.ref hd), some (.ref rd), some (.str d), some (.ref o), some (.str z), some (.int (c z)), some (.int (if z ∈ R then (840 : Int).fdiv (R.length : Int) else 0)), some (.int (if z = d then 840 else 0))], ?_, ?_⟩
      · refine ⟨_, rfl, _, rfl, rfl, _, rfl, ?_⟩
        by_cases e : z = d
        · have z0 : decide (V.str z = V.str d) = true := by simp [e]
          rw [z0]
          refine iteT ⟨rfl, ?_⟩
          rw [if_pos e]
          rfl
        · have z0 : decide (V.str z = V.str d) = false := by simp [e]
          rw [z0]
          refine iteF ⟨rfl, ?_⟩
          rw [if_neg e]
          rfl
      rintro σ' H' ⟨rfl, rfl⟩
      refine ⟨_, rfl, Or.inl ⟨rfl, _, SqL.of (sT _ _ ho)⟩, _, rfl, _, rfl, _, _, rfl, rfl, _, rfl, _, _, rfl, rfl, o, _, _, rfl, rfl, sT _ _ ho, ?_, _, _, _, _, rfl, ?_, ?_⟩
      · rw [List.length_map, List.length_take]
        exact Nat.lt_of_lt_of_le (by omega : min i xs.length < 64) (by decide)
      · rw [upd_same, et, List.map_append]
        rfl
      · intro a u e
        rw [upd_ne (ne_of_none e fo)]
        exact sT a u (sm a u e)
    · rintro σ H2 ⟨v5, v6, v7, v8, rfl, ho, sm⟩
      rw [List.length_map, List.take_length] at ho
      exact ⟨_, rfl, o, _, rfl, .inl ⟨SqL.of ho, fun l fl => hQ l _ (sm.trans (same_new fl)) (sm.free fl) upd_same⟩⟩
def spMb (K : PySem.W.Frag) : Sp := fun vs H Q _ => ∃ (r ot hd rd : Addr) (xs R : List Str) (g : Int) (c : Str → Int), vs = [.ref r, .ref hd, .ref rd] ∧ LeastR H r ot xs g ∧ Crd H hd xs c ∧ RdA H rd R ∧ DayOk xs R ∧ Tabs (T0 K) H ∧
  ∀ (t : Addr) (H1 : Hp) (y : Str), ExtN H H1 → Tabs (T0 K) H1 → Drv g c xs R y → Crd H1 t xs (nxt R y c) → Q (.ref t) H1
theorem ok_mb (F : Dn K d_memory_behind f fd) (cDb : Cal P w K mg base 4 "driver_by" (spDb K) []) (cPb : Cal P w K mg base 1 "parts_behind" spPb []) : FnOk P w K mg base CX0 5 f fd ["rule", "memory", "riders"] (spMb K) := by
  refine F.ok sc_memory_behind (fun vs H Q E h => ?_) (fun cdv A outer s H vs Q E hr h => ?_)
  · obtain ⟨r, ot, hd, rd, xs, R, g, c, rfl, _⟩ := h
    rfl
  · obtain ⟨r, ot, hd, rd, xs, R, g, c, rfl, lr, hc, hrd, dy, tabs, hQ⟩ := h
    obtain ⟨hrr, hot, ox, g0, g1⟩ := id lr
    have l8 := ox.l8
    refine ⟨_, PSs.nox (pss_cons (ps_if (pt_cmpR op_eq (pe_ix ix_tup (pv 0) pe_int (fun _ _ => rfl)) pe_str (nomark _)) pss_never pss_nil)
      (pss_cons (ps_set (i := 3) sc_memory_behind.nd rfl (.inl rfl) (pe_c cDb hr (by decide) rfl (pa_cons (pv 0) (pa_cons (pv 1) (pa_cons (pv 2) pa_nil)))))
      (pss_cons (ps_if (pt_cmpR op_eq (pe_ix ix_tup (pv 0) pe_int (fun _ _ => rfl)) pe_str (nomark _)) (pss_one (ps_ret (pe_c cPb hr (by decide) rfl (pa_cons (pe_ix ix_tup (pv 0) pe_int (fun _ _ => rfl)) (pa_cons (pv 1) (pa_cons (pv 2) (pa_cons (pv 3) pa_nil))))))) pss_nil) pss_never))), ?_⟩
    refine ⟨_, rfl, r, _, _, _, rfl, rfl, SqT.of hrr, rfl, rfl, _, rfl, ?_⟩
    have z0 : decide (V.str "least" = V.str "rounds") = false := by decide +kernel
    rw [z0]
    refine iteF ?_
    refine ⟨_, rfl, _, rfl, _, rfl, r, ot, hd, rd, xs, R, g, c, rfl, lr, hc, hrd, dy, tabs, fun H2 e2 t2 y hy => ?_⟩
    have lr2 := lr.extN e2
    obtain ⟨hrr2, hot2, _⟩ := id lr2
    have hrd2 : RdA H2 rd R := hrd.extN e2
    refine ⟨_, rfl, r, _, _, _, rfl, rfl, SqT.of hrr2, rfl, rfl, _, rfl, iteT ?_⟩
    refine ⟨_, rfl, r, _, _, _, rfl, rfl, SqT.of hrr2, rfl, _, rfl, _, rfl, _, rfl, ot, hd, rd, xs, R, y, c, rfl, hot2, by omega, hc.extN e2, hrd2, dy.ne, by have := dy.ln; omega, fun t H3 s3 ft hcr => ?_⟩
    exact hQ t H3 y (e2.trans (ExtN.of s3)) (t2.ext s3) hy hcr
end
end K43
set_option Elab.async false
set_option linter.all false
set_option maxRecDepth 100000
set_option maxHeartbeats 4000000
namespace K43
open PySem PySem.Spec PyProof.Rows L2
open C8 (Cal Mak Met pe_c pe_mk pe_mt pe_mt0)
open LamX (Tabs ExtN TabB)
open SX (S)
/-- the fields of a Turns -/
def trF (r hd kp ps : Addr) : List (Str × V) := putF "past" (.ref ps) (putF "kept" (.ref kp) (putF "held" (.ref hd) (putF "rule" (.ref r) [])))
theorem f1 : ¬ (("rule" : Str) = "held") := by decide +kernel
theorem f2 : ¬ (("rule" : Str) = "kept") := by decide +kernel
theorem f3 : ¬ (("rule" : Str) = "past") := by decide +kernel
theorem f4 : ¬ (("held" : Str) = "kept") := by decide +kernel
theorem f5 : ¬ (("held" : Str) = "past") := by decide +kernel
theorem f6 : ¬ (("kept" : Str) = "past") := by decide +kernel
theorem trF_eq (r hd kp ps : Addr) : trF r hd kp ps = [(("rule" : Str), V.ref r), (("held" : Str), V.ref hd), (("kept" : Str), V.ref kp), (("past" : Str), V.ref ps)] := by
  unfold trF putF
  simp only [putF, if_neg f1, if_neg f2, if_neg f3, if_neg f4, if_neg f5, if_neg f6]
theorem tr_rule (r hd kp ps : Addr) : (trF r hd kp ps).lookup ("rule" : Str) = some (.ref r) := by
  unfold trF
  rw [lookup_putF, if_neg f3, lookup_putF, if_neg f2, lookup_putF, if_neg f1, lookup_putF, if_pos rfl]
theorem tr_held (r hd kp ps : Addr) : (trF r hd kp ps).lookup ("held" : Str) = some (.ref hd) := by
  unfold trF
  rw [lookup_putF, if_neg f5, lookup_putF, if_neg f4, lookup_putF, if_pos rfl]
theorem tr_kept (r hd kp ps : Addr) : (trF r hd kp ps).lookup ("kept" : Str) = some (.ref kp) := by
  unfold trF
  rw [lookup_putF, if_neg f6, lookup_putF, if_pos rfl]
theorem tr_past (r hd kp ps : Addr) : (trF r hd kp ps).lookup ("past" : Str) = some (.ref ps) := by
  unfold trF
  rw [lookup_putF, if_pos rfl]
theorem tr_no (r hd kp ps : Addr) {m : Str} (h1 : ¬ m = "rule") (h2 : ¬ m = "held") (h3 : ¬ m = "kept") (h4 : ¬ m = "past") : (trF r hd kp ps).lookup m = none := by
  unfold trF
  rw [lookup_putF, if_neg h4, lookup_putF, if_neg h3, lookup_putF, if_neg h2, lookup_putF, if_neg h1]
  all_goals rfl
theorem put_held (r hd kp ps hd' : Addr) : putF "held" (.ref hd') (trF r hd kp ps) = trF r hd' kp ps := by
  rw [trF_eq, trF_eq]
  simp only [putF, if_neg f1, if_pos]
theorem put_kept (r hd kp ps kp' : Addr) : putF "kept" (.ref kp') (trF r hd kp ps) = trF r hd kp' ps := by
  rw [trF_eq, trF_eq]
  simp only [putF, if_neg f2, if_neg f4, if_pos]
/-- a Turns by a rule, its credits twice, the past -/
def Tr (CT : Addr) (H : Hp) (tu r hd kp ps : Addr) : Prop := ∃ dx, H tu = some (.ins CT dx (trF r hd kp ps))
/-- what is known of the class -/
structure ClT (K : PySem.W.Frag) (CT : Addr) : Prop where
  cl : Cls K CT
  nr : NoAttr K CT "rule"
  nh : NoAttr K CT "held"
  nk : NoAttr K CT "kept"
  np : NoAttr K CT "past"
section
variable {P : Program} {w : World} {K : PySem.W.Frag} {mg : Str → Option Value} {base : Heap} {f C CT : Addr} {fd : FuncData}
def spTi (CT : Addr) : Sp := fun vs H Q _ => ∃ (p dx r ot : Addr) (xs : List Str) (g : Int), vs = [.ref p, .ref r] ∧ H p = some (.ins CT dx []) ∧ LeastR H r ot xs g ∧
  ∀ (H' : Hp) (hd kp ps : Addr), (∀ a o, a ≠ p → H a = some o → H' a = some o) → H ps = none → H' p = some (.ins CT dx (trF r hd kp ps)) → Crd H' hd xs (fun _ => 0) → Crd H' kp xs (fun _ => 0) → H' ps = some (.lst []) → Q .non H'
theorem ok_ti (F : Dn K d_Turns_init f fd) (b2 : Bl2 mg) (T : ClT K CT) (cR : Cal P w K mg base 3 "is_rule" spRule []) (cFm : Cal P w K mg base 1 "first_memory" spFm []) : FnOk P w K mg base CX0 4 f fd ["self", "rule"] (spTi CT) := by
  refine F.ok sc_Turns_init (fun vs H Q E h => ?_) (fun cdv A outer s H vs Q E hr h => ?_)
  · obtain ⟨p, dx, r, ot, xs, g, rfl, _⟩ := h
    rfl
  · obtain ⟨p, dx, r, ot, xs, g, rfl, hp, lr, hQ⟩ := h
    obtain ⟨hrr, hot, ox, g0, g1⟩ := id lr
    have l8 := ox.l8
    refine ⟨_, PSs.nox (pss_cons (ps_if (pt_not (pt_val (pe_c cR hr (by decide) rfl (pa_cons (pv 1) pa_nil)))) pss_never pss_nil)
      (pss_cons (ps_fld (pv 0) (pv 1) rfl)
      (pss_cons (ps_fld (pv 0) (pe_callTy call_tuple_of rfl b2.tup boot_tuple (pa_cons (pe_lc (own := [("name", 2)]) (g := gName 2) (tt := tYes) rfl sc_Turns_init.nd (pi_tup (pe_ix ix_tup (pv 1) pe_int (fun _ _ => rfl))) (blkOk_by (N := N_Turns_init) (sc := defScope s_Turns_init) (by decide +kernel))
          (fun _ _ _ _ _ => pg_name (i := 2) sc_Turns_init.nd rfl (Or.inl rfl)) (fun _ _ _ _ _ => pts_nil) (fun _ _ _ _ _ => pe_int)) pa_nil)) rfl)
      (pss_cons (ps_fld (pv 0) (pe_c cFm hr (by decide) rfl (pa_cons (pv 1) pa_nil)) rfl)
      (pss_one (ps_fld (pv 0) (pe_lst pa_nil) rfl)))))), ?_⟩
    refine ⟨_, rfl, r, ot, xs, g, rfl, lr, fun H1 s1 => ⟨true, rfl, iteF ?_⟩⟩
    refine ⟨_, rfl, _, rfl, p, CT, dx, _, rfl, s1 _ _ hp, T.cl, T.nr, by show 0 < 1000; decide, ?_⟩
    have tn : ∀ {a : Addr} {ys : List V} {H2 : Hp}, H2 p = some (.ins CT dx []) → H2 a = some (.tup ys) → a ≠ p := fun e1 e2 z => by rw [z, e1] at e2; cases e2
    have hrr1 : (upd H1 p (.ins CT dx (putF "rule" (.ref r) []))) r = some (.tup [.str "least", .ref ot, .int g]) := by rw [upd_ne (tn hp hrr)]; exact s1 _ _ hrr
    have nop : ot ≠ p := hot.ne hp (by intro _ _ z; cases z)
    have hot1 : PIN.PinT (upd H1 p (.ins CT dx (putF "rule" (.ref r) []))) ot (xs.map V.str) := (hot.same s1).ext fun b od ys e => by rw [upd_ne (ne_of e (s1 _ _ hp) (by intro z; cases z))]; exact e
    refine ⟨_, rfl, r, _, _, _, rfl, rfl, SqT.of hrr1, rfl, ot, rfl, ⟨_, hot1.sq⟩, fun D hD => lc_tup (fun i H2 => H2 D = some (.lst ((xs.take i).map fun _ => V.int 0)) ∧ Same (upd H1 p (.ins CT dx (putF "rule" (.ref r) []))) H2) ⟨upd_same, same_new hD⟩ (fun _ H2 _ z => (hot1.same z.2).sq) ?_ ?_⟩
    · rintro i x H2 hx ⟨hd, sm⟩
      have hi' : i < xs.length := by
        have := (List.getElem?_eq_some_iff.mp hx).1
        simpa using this
      refine ⟨rfl, _, hd, ?_, ?_, ?_⟩
      · rw [List.length_map, List.length_take]
        exact Nat.lt_of_lt_of_le (by omega : min i xs.length < 64) (by decide)
      · rw [upd_same, zs_take xs i hi']
      · intro a o e
        rw [upd_ne (ne_of_none e hD)]
        exact sm a o e
    · rintro H2 ⟨hd, sm⟩
      rw [List.length_map, List.take_length] at hd
      refine ⟨D, _, rfl, .inl ⟨SqL.of hd, fun hl fl => ?_⟩⟩
      have s3 := sm.trans (same_new (o := .tup (xs.map fun _ => V.int 0)) fl)
      have hp3 := s3 _ _ (upd_same : (upd H1 p (.ins CT dx (putF "rule" (.ref r) []))) p = _)
      refine ⟨_, rfl, p, CT, dx, _, rfl, hp3, T.cl, T.nh, by show 1 < 1000; decide, ?_⟩
      have nhl : hl ≠ p := fun z => by rw [z] at fl; rw [sm _ _ (upd_same : (upd H1 p (.ins CT dx (putF "rule" (.ref r) []))) p = _)] at fl; cases fl
      have key : ∀ (a : Addr) (ys : List V), a ≠ p → (upd H1 p (.ins CT dx (putF "rule" (.ref r) []))) a = some (.tup ys) → (upd (upd H2 hl (.tup (xs.map fun _ => V.int 0))) p (.ins CT dx (putF "held" (.ref hl) (putF "rule" (.ref r) [])))) a = some (.tup ys) := fun a ys na e => by
        rw [upd_ne na]
        exact s3 _ _ e
      refine ⟨_, rfl, r, ot, xs, g, rfl, ⟨key _ _ (tn hp hrr) hrr1, hot1.ext (fun b od ys e => by rw [upd_ne (ne_of e (upd_same : (upd H1 p (.ins CT dx (putF "rule" (.ref r) []))) p = _) (by intro z; cases z))]; exact s3 _ _ e), ox, g0, g1⟩, fun kl H4 s4 fk hk => ?_⟩
      have hp4 := s4 _ _ (upd_same : (upd (upd H2 hl (.tup (xs.map fun _ => V.int 0))) p (.ins CT dx (putF "held" (.ref hl) (putF "rule" (.ref r) [])))) p = _)
      have nkl : kl ≠ p := fun z => by rw [z, upd_same] at fk; cases fk
      refine ⟨_, rfl, p, CT, dx, _, rfl, hp4, T.cl, T.nk, by show (putF "held" (V.ref hl) (putF "rule" (V.ref r) [])).length < 1000; simp only [putF, if_neg f1]; show 2 < 1000; decide, ?_⟩
      refine ⟨by show 0 ≤ sizeLine; decide, fun pl fp => ?_⟩
      have npl : pl ≠ p := fun z => by rw [z, upd_same] at fp; cases fp
      have hp5 : (upd (upd H4 p (.ins CT dx (putF "kept" (.ref kl) (putF "held" (.ref hl) (putF "rule" (.ref r) []))))) pl (.lst [])) p = some (.ins CT dx (putF "kept" (.ref kl) (putF "held" (.ref hl) (putF "rule" (.ref r) [])))) := by
        rw [upd_ne npl.symm, upd_same]
      refine ⟨_, rfl, p, CT, dx, _, rfl, hp5, T.cl, T.np, by show (putF "kept" (V.ref kl) (putF "held" (V.ref hl) (putF "rule" (V.ref r) []))).length < 1000; simp only [putF, if_neg f1, if_neg f2, if_neg f4]; show 3 < 1000; decide, ?_⟩
      have back : ∀ a o, a ≠ p → H a = some o → H4 a = some o := fun a o na e => by
        refine s4 _ _ ?_
        rw [upd_ne na]
        refine s3 _ _ ?_
        rw [upd_ne na]
        exact s1 _ _ e
      rw [upd_ne npl] at fp
      have fpH : H pl = none := by
        cases e : H pl with
        | none => rfl
        | some o => rw [back pl o npl e] at fp; cases fp
      have npk : kl ≠ pl := ne_of_none hk fp
      have hhl4 : H4 hl = some (.tup (xs.map fun _ => V.int 0)) := s4 _ _ (by rw [upd_ne nhl, upd_same])
      have nph : hl ≠ pl := ne_of_none hhl4 fp
      refine hQ _ hl kl pl (fun a o na e => ?_) fpH upd_same ?_ ?_ ?_
      · have e4 := back a o na e
        rw [upd_ne na, upd_ne (ne_of_none e4 fp), upd_ne na]
        exact e4
      · show (upd _ p _) hl = _
        rw [upd_ne nhl, upd_ne nph, upd_ne nhl]
        exact hhl4
      · show (upd _ p _) kl = _
        rw [upd_ne nkl, upd_ne npk, upd_ne nkl]
        exact hk
      · rw [upd_ne npl, upd_same]
end
end K43
set_option Elab.async false
set_option linter.all false
set_option maxRecDepth 100000
set_option maxHeartbeats 4000000
namespace K43
open PySem PySem.Spec PyProof.Rows L2
open C8 (Cal Mak Met pe_c pe_mk pe_mt pe_mt0)
open LamX (Tabs ExtN TabB)
open SX (S)
theorem cut_strs (R : List Str) (i : Nat) (h : i ≤ R.length) : cutV (R.map V.str) none (some (i : Int)) = (R.take i).map V.str := by
  have z : ¬ ((i : Int) < 0) := by omega
  have z2 : ((i : Int) ≤ (R.length : Int)) := by omega
  unfold cutV HT.sIx
  simp [z, z2, Nat.min_eq_left h]
theorem min_same {κ : Str → Int} {ns : List Str} {y y' : Str} (h : LK.IsMin κ ns y) (h' : LK.IsMin κ ns y') : y = y' := by
  obtain ⟨i, hi, m⟩ := h
  obtain ⟨j, hj, m'⟩ := h'
  have a := m j y' hj
  have b := m' i y hi
  rcases Nat.lt_trichotomy i j with l | l | l
  · have := b.2 l
    omega
  · rw [l, hj] at hi
    exact (Option.some.inj hi).symm
  · have := a.2 l
    omega
section
variable {P : Program} {w : World} {K : PySem.W.Frag} {mg : Str → Option Value} {base : Heap} {f C CT : Addr} {fd : FuncData}
def spCk (CT : Addr) : Sp := fun vs H Q _ => ∃ (tu rd r ot hd kp ps : Addr) (xs R : List Str) (g : Int), vs = [.ref tu, .ref rd] ∧ Tr CT H tu r hd kp ps ∧ LeastR H r ot xs g ∧ H rd = some (.lst (R.map V.str)) ∧ DayOk xs R ∧ ∀ H', Same H H' → Q .non H'
theorem ok_ck (F : Dn K d_Turns_check_riders f fd) (b : Bl mg) (b2 : Bl2 mg) (T : ClT K CT) : FnOk P w K mg base CX0 1 f fd ["self", "riders"] (spCk CT) := by
  refine F.ok sc_Turns_check_riders (fun vs H Q E h => ?_) (fun cdv A outer s H vs Q E hr h => ?_)
  · obtain ⟨tu, rd, r, ot, hd, kp, ps, xs, R, g, rfl, _⟩ := h
    rfl
  · obtain ⟨tu, rd, r, ot, hd, kp, ps, xs, R, g, rfl, ⟨dx, htu⟩, lr, hrd, dy, hQ⟩ := h
    obtain ⟨hrr, hot, ox, g0, g1⟩ := id lr
    have rpos : 0 < R.length := List.length_pos_iff.mpr dy.ne
    refine ⟨_, PSs.nox (pss_cons (ps_if (pt_cmpR op_eq (pe_callB call_len_seq rfl b.len boot_len (pa_cons (pv 1) pa_nil)) pe_int (nomark _)) pss_never pss_nil)
      (pss_one (ps_for PassesOwn.never rfl (pi_enum rfl b2.enum (pa_cons (pv 1) pa_nil)) (pg_tup rfl (pgs_cons (pg_name (i := 2) sc_Turns_check_riders.nd rfl (.inl rfl)) (pgs_cons (pg_name (i := 3) sc_Turns_check_riders.nd rfl (.inl rfl)) pgs_nil)))
        (pss_one (ps_if (PW.pt (pw_or (pt_cmpR op_notIn_seq (pv 3) (pe_ix ix_tup (pe_fld (pv 0) rfl) pe_int (fun _ _ => rfl)) (by rfl)) (pw_or1 (pt_cmpR op_in_seq (pv 3) (pe_slice sl_list (pv 1) po_none (po_some (pv 2))) (by rfl))))) pss_never pss_nil))))), ?_⟩
    refine ⟨_, rfl, rd, _, rfl, .inl (SqL.of hrd), rfl, _, rfl, ?_⟩
    have z0 : decide (V.int ((R.map V.str).length : Nat) = V.int 0) = false := by
      rw [List.length_map]
      exact decide_eq_false fun q => by injection q with q; omega
    rw [z0]
    refine iteF ?_
    refine ⟨_, rfl, rd, _, rfl, SqL.of hrd, for_it walk_enum (fun i σ H2 => ∃ v2 v3 : Option V, σ = [some (.ref tu), some (.ref rd), v2, v3] ∧ Same H H2) ⟨_, _, rfl, fun _ _ e => e⟩ (fun i σ H2 _ ⟨_, _, _, sm⟩ => SqL.of (sm _ _ hrd)) ?_ ?_⟩
    · rintro i x σ H2 H3 hi ⟨v2, v3, rfl, sm⟩ ⟨Tp, x1, x2, rfl, hT, rfl, e1, e2⟩
      rw [List.length_map] at hi
      cases e1
      have e2 : (List.map V.str R)[i]? = some x2 := e2
      rw [List.getElem?_map] at e2
      obtain ⟨z, hz, rfl⟩ := Option.map_eq_some_iff.mp e2
      have sT := same_new (o := .tup [V.int (i : Nat), V.str z]) hT
      have s3 := sm.trans sT
      refine ⟨Tp, _, rfl, SqT.of upd_same, rfl, _, _, rfl, _, _, rfl, rfl, ?_⟩
      refine ⟨_, rfl, _, rfl, tu, CT, dx, _, _, rfl, s3 _ _ htu, T.cl, T.nr, tr_rule _ _ _ _, r, _, _, _, rfl, rfl, SqT.of (s3 _ _ hrr), rfl, ot, _, rfl, .inr ((hot.same s3).sq), rfl, flat_strs xs, _, rfl, ?_⟩
      rw [inV_strs, decide_eq_true (dy.sub z (List.mem_of_getElem? hz))]
      refine iteF ?_
      refine ⟨_, rfl, _, rfl, _, rfl, _, rfl, rd, _, rfl, SqL.of (s3 _ _ hrd), fun sl fsl => ?_⟩
      rw [cut_strs R i (by omega)]
      have s4 := s3.trans (same_new (o := .lst ((R.take i).map V.str)) fsl)
      refine ⟨sl, _, rfl, .inl (SqL.of upd_same), rfl, flat_strs _, _, rfl, ?_⟩
      have nin : ¬ z ∈ R.take i := fun hm => by
        obtain ⟨j, hj, e⟩ := List.mem_iff_getElem.mp hm
        rw [List.getElem_take] at e
        rw [List.length_take] at hj
        have e3 : R[j]? = R[i]? := by rw [hz, List.getElem?_eq_getElem (by omega), e]
        have := (List.getElem?_inj (by omega) dy.nd).mp e3
        omega
      simp only [Bool.false_eq_true, if_false]
      rw [inV_strs, decide_eq_false nin]
      exact iteF ⟨_, _, rfl, s4⟩
    · rintro σ H2 ⟨v2, v3, rfl, sm⟩
      exact hQ H2 sm
def spWho (K : PySem.W.Frag) (CT : Addr) : Sp := fun vs H Q _ => ∃ (tu rd r ot hd kp ps : Addr) (xs R : List Str) (g : Int) (c : Str → Int), vs = [.ref tu, .ref rd] ∧ Tr CT H tu r hd kp ps ∧ LeastR H r ot xs g ∧ Crd H kp xs c ∧ H rd = some (.lst (R.map V.str)) ∧ DayOk xs R ∧ Tabs (T0 K) H ∧
  ∀ H1, ExtN H H1 → Tabs (T0 K) H1 → ∀ y, Drv g c xs R y → Q (.str y) H1
theorem ok_who (F : Dn K d_Turns_who f fd) (T : ClT K CT) (mC : Met P w K mg base 1 CT "check_riders" (spCk CT) []) (cDb : Cal P w K mg base 4 "driver_by" (spDb K) []) : FnOk P w K mg base CX0 5 f fd ["self", "riders"] (spWho K CT) := by
  refine F.ok sc_Turns_who (fun vs H Q E h => ?_) (fun cdv A outer s H vs Q E hr h => ?_)
  · obtain ⟨tu, rd, r, ot, hd, kp, ps, xs, R, g, c, rfl, _⟩ := h
    rfl
  · obtain ⟨tu, rd, r, ot, hd, kp, ps, xs, R, g, c, rfl, tr, lr, hc, hrd, dy, tabs, hQ⟩ := h
    obtain ⟨dx, htu⟩ := id tr
    refine ⟨_, PSs.nox (pss_cons (ps_expr (pe_mt mC hr (by decide) (pv 0) (pa_cons (pv 1) pa_nil)))
      (pss_one (ps_ret (pe_c cDb hr (by decide) rfl (pa_cons (pe_fld (pv 0) rfl) (pa_cons (pe_fld (pv 0) rfl) (pa_cons (pv 1) pa_nil))))))), ?_⟩
    refine ⟨_, rfl, tu, dx, _, rfl, htu, tr_no _ _ _ _ (by decide +kernel) (by decide +kernel) (by decide +kernel) (by decide +kernel), _, rfl, tu, rd, r, ot, hd, kp, ps, xs, R, g, rfl, tr, lr, hrd, dy, fun H2 s2 => ?_⟩
    have htu2 := s2 _ _ htu
    refine ⟨_, rfl, tu, CT, dx, _, _, rfl, htu2, T.cl, T.nr, tr_rule _ _ _ _, _, rfl, tu, CT, dx, _, _, rfl, htu2, T.cl, T.nk, tr_kept _ _ _ _, _, rfl, r, ot, kp, rd, xs, R, g, c, rfl, lr.same s2, hc.same s2, .inl (s2 _ _ hrd), dy, tabs.ext s2, fun H3 e3 t3 y hy => hQ H3 ((ExtN.of s2).trans e3) t3 y hy⟩
/-- all is kept but the Turns, its past, the tables -/
def KpT (tu ps : Addr) (H H' : Hp) : Prop := ∀ b o, H b = some o → (∀ q, o ≠ .tbl q) → b ≠ tu → b ≠ ps → H' b = some o
def spRide (K : PySem.W.Frag) (CT : Addr) : Sp := fun vs H Q _ => ∃ (tu rd r ot hd kp ps : Addr) (xs R : List Str) (g : Int) (c : Str → Int) (past : List V), vs = [.ref tu, .ref rd] ∧ Tr CT H tu r hd kp ps ∧ LeastR H r ot xs g ∧ Crd H hd xs c ∧ Crd H kp xs c ∧ H rd = some (.lst (R.map V.str)) ∧ DayOk xs R ∧ Tabs (T0 K) H ∧
  H ps = some (.lst past) ∧ past.length ≤ 100000 ∧ rd ≠ ps ∧
  ∀ (H1 : Hp) (hd' kp' : Addr) (y : Str), KpT tu ps H H1 → Tabs (T0 K) H1 → Drv g c xs R y → Tr CT H1 tu r hd' kp' ps → Crd H1 hd' xs (nxt R y c) → Crd H1 kp' xs (nxt R y c) → H1 ps = some (.lst (past ++ [.str y])) → Q (.str y) H1
theorem ok_ride (F : Dn K d_Turns_ride f fd) (T : ClT K CT) (mW : Met P w K mg base 5 CT "who" (spWho K CT) []) (cPb : Cal P w K mg base 1 "parts_behind" spPb []) (cMb : Cal P w K mg base 5 "memory_behind" (spMb K) []) : FnOk P w K mg base CX0 6 f fd ["self", "riders"] (spRide K CT) := by
  refine F.ok sc_Turns_ride (fun vs H Q E h => ?_) (fun cdv A outer s H vs Q E hr h => ?_)
  · obtain ⟨tu, rd, r, ot, hd, kp, ps, xs, R, g, c, past, rfl, _⟩ := h
    rfl
  · obtain ⟨tu, rd, r, ot, hd, kp, ps, xs, R, g, c, past, rfl, tr, lr, hcd, hck, hrd, dy, tabs, hps, pl, nrp, hQ⟩ := h
    obtain ⟨dx, htu⟩ := id tr
    have l8 := lr.2.2.1.l8
    have r8 := dy.ln
    refine ⟨_, PSs.nox (pss_cons (ps_set (i := 2) sc_Turns_ride.nd rfl (.inl rfl) (pe_mt mW hr (by decide) (pv 0) (pa_cons (pv 1) pa_nil)))
      (pss_cons (ps_fld (pv 0) (pe_c cPb hr (by decide) rfl (pa_cons (pe_ix ix_tup (pe_fld (pv 0) rfl) pe_int (fun _ _ => rfl)) (pa_cons (pe_fld (pv 0) rfl) (pa_cons (pv 1) (pa_cons (pv 2) pa_nil))))) rfl)
      (pss_cons (ps_fld (pv 0) (pe_c cMb hr (by decide) rfl (pa_cons (pe_fld (pv 0) rfl) (pa_cons (pe_fld (pv 0) rfl) (pa_cons (pv 1) pa_nil)))) rfl)
      (pss_cons (ps_expr (pe_bm PySem.F.plainAttrs_list PySem.F.slot_list_append PySem.F.type_list_append mt_append (pe_fld (pv 0) rfl) (pa_cons (pv 2) pa_nil)))
      (pss_one (ps_ret (pv 2))))))), ?_⟩
    refine ⟨_, rfl, tu, dx, _, rfl, htu, tr_no _ _ _ _ (by decide +kernel) (by decide +kernel) (by decide +kernel) (by decide +kernel), _, rfl, tu, rd, r, ot, hd, kp, ps, xs, R, g, c, rfl, tr, lr, hck, hrd, dy, tabs, fun H2 e2 t2 y hy => ?_⟩
    have htu2 : H2 tu = some (.ins CT dx (trF r hd kp ps)) := e2 _ _ htu fun _ q => by cases q
    have hrd2 : H2 rd = some (.lst (R.map V.str)) := e2 _ _ hrd fun _ q => by cases q
    have hps2 : H2 ps = some (.lst past) := e2 _ _ hps fun _ q => by cases q
    have lr2 := lr.extN e2
    obtain ⟨hrr2, hot2, _⟩ := id lr2
    refine ⟨_, rfl, tu, CT, dx, _, _, rfl, htu2, T.cl, T.nr, tr_rule _ _ _ _, r, _, _, _, rfl, rfl, SqT.of hrr2, rfl, _, rfl, tu, CT, dx, _, _, rfl, htu2, T.cl, T.nh, tr_held _ _ _ _, _, rfl, _, rfl, ot, hd, rd, xs, R, y, c, rfl, hot2, by omega, hcd.extN e2, .inl hrd2, dy.ne, by omega, fun hd' H3 s3 fh hh => ?_⟩
    have len4 : ∀ a b c d : Addr, (trF a b c d).length < 1000 := fun a b c d => by rw [trF_eq]; show 4 < 1000; decide
    refine ⟨_, rfl, tu, CT, dx, _, rfl, s3 _ _ htu2, T.cl, T.nh, len4 _ _ _ _, ?_⟩
    rw [put_held]
    have nt : ∀ {a : Addr} {ys : List V}, H3 a = some (.tup ys) → a ≠ tu := fun e z => by rw [z, s3 _ _ htu2] at e; cases e
    have nl : ∀ {a : Addr} {ys : List V}, H3 a = some (.lst ys) → a ≠ tu := fun e z => by rw [z, s3 _ _ htu2] at e; cases e
    have lr4 : LeastR (upd H3 tu (.ins CT dx (trF r hd' kp ps))) r ot xs g := (lr2.same s3).ext (fun a ys e => by rw [upd_ne (nt e)]; exact e) (fun a od ys e => by rw [upd_ne (ne_of e (s3 _ _ htu2) (by intro z; cases z))]; exact e)
    have hck4 : Crd (upd H3 tu (.ins CT dx (trF r hd' kp ps))) kp xs c := by
      have := (hck.extN e2).same s3
      show (upd _ tu _) kp = _
      rw [upd_ne (nt this)]
      exact this
    have hrd4 : (upd H3 tu (.ins CT dx (trF r hd' kp ps))) rd = some (.lst (R.map V.str)) := by
      rw [upd_ne (nl (s3 _ _ hrd2))]
      exact s3 _ _ hrd2
    have tabs4 : Tabs (T0 K) (upd H3 tu (.ins CT dx (trF r hd' kp ps))) := by
      intro p hp
      obtain ⟨q, hq, tq, cq⟩ := (t2.ext s3) p hp
      refine ⟨q, ?_, tq, fun pos cv e => ?_⟩
      · rw [upd_ne (fun z => by rw [z, s3 _ _ htu2] at hq; cases hq)]
        exact hq
      · obtain ⟨c0, e1, e2⟩ := cq pos cv e
        refine ⟨c0, e1, ?_⟩
        rw [upd_ne (fun z => by rw [z, s3 _ _ htu2] at e2; cases e2)]
        exact e2
    refine ⟨_, rfl, tu, CT, dx, _, _, rfl, upd_same, T.cl, T.nr, tr_rule _ _ _ _, _, rfl, tu, CT, dx, _, _, rfl, upd_same, T.cl, T.nk, tr_kept _ _ _ _, _, rfl, r, ot, kp, rd, xs, R, g, c, rfl, lr4, hck4, .inl hrd4, dy, tabs4, fun kp' H5 y' e5 t5 hy' hk' => ?_⟩
    have ey := min_same hy hy'
    subst ey
    have htu5 : H5 tu = some (.ins CT dx (trF r hd' kp ps)) := e5 _ _ upd_same fun _ q => by cases q
    refine ⟨_, rfl, tu, CT, dx, _, rfl, htu5, T.cl, T.nk, len4 _ _ _ _, ?_⟩
    rw [put_kept]
    have nt5 : ∀ {a : Addr} {ys : List V}, H5 a = some (.tup ys) → a ≠ tu := fun e z => by rw [z, htu5] at e; cases e
    have hps4 : (upd H3 tu (.ins CT dx (trF r hd' kp ps))) ps = some (.lst past) := by
      rw [upd_ne (nl (s3 _ _ hps2))]
      exact s3 _ _ hps2
    have hps5 : H5 ps = some (.lst past) := e5 _ _ hps4 fun _ q => by cases q
    have npt : ps ≠ tu := fun z => by rw [z, htu5] at hps5; cases hps5
    have hps6 : (upd H5 tu (.ins CT dx (trF r hd' kp' ps))) ps = some (.lst past) := by rw [upd_ne npt]; exact hps5
    have hh5 : Crd H5 hd' xs (nxt R y c) := e5 _ _ (by rw [upd_ne (nt hh)]; exact hh) fun _ q => by cases q
    have ntp : ∀ {a : Addr} {ys : List V}, H5 a = some (.tup ys) → a ≠ ps := fun e z => by rw [z, hps5] at e; cases e
    refine ⟨_, rfl, tu, CT, dx, _, _, rfl, upd_same, T.cl, T.np, tr_past _ _ _ _, Or.inl ⟨rfl, _, SqL.of hps6⟩, _, rfl, ps, _, _, rfl, rfl, hps6, Nat.lt_of_le_of_lt pl (by decide), _, rfl, ?_⟩
    refine hQ _ hd' kp' y (fun b o e hn n1 n2 => ?_) (fun p hp => ?_) hy ⟨dx, by rw [upd_ne npt.symm, upd_same]⟩ ?_ ?_ upd_same
    · rw [upd_ne n2, upd_ne n1]
      refine e5 _ _ ?_ hn
      rw [upd_ne n1]
      exact s3 _ _ (e2 _ _ e hn)
    · obtain ⟨q, hq, tq, cq⟩ := t5 p hp
      refine ⟨q, ?_, tq, fun pos cv e => ?_⟩
      · rw [upd_ne (fun z => by rw [z, hps5] at hq; cases hq), upd_ne (fun z => by rw [z, htu5] at hq; cases hq)]
        exact hq
      · obtain ⟨c0, e1, e2⟩ := cq pos cv e
        refine ⟨c0, e1, ?_⟩
        rw [upd_ne (fun z => by rw [z, hps5] at e2; cases e2), upd_ne (fun z => by rw [z, htu5] at e2; cases e2)]
        exact e2
    · show (upd _ ps _) hd' = _
      rw [upd_ne (ntp hh5), upd_ne (nt5 hh5)]
      exact hh5
    · show (upd _ ps _) kp' = _
      rw [upd_ne (ntp hk'), upd_ne (nt5 hk')]
      exact hk'
end
end K43
set_option Elab.async false
set_option linter.all false
set_option maxRecDepth 100000
set_option maxHeartbeats 4000000
namespace K43
open PySem PySem.Spec PyProof.Rows L2
open C8 (Cal Mak Met pe_c pe_mk pe_mt pe_mt0)
open LamX (Tabs ExtN TabB)
open KM (pr)
/-- a dict over zip of two tuples of one length -/
theorem dc_zipT {K : PySem.W.Frag} {a b : Addr} {xs ys : List V} {g : TG} {tt : TT} {tk tv : TE} {vs : List Nat} {σ : L2.St} {H1 : Hp} {D : Addr} {Qd : Hp → Prop} (hl : xs.length = ys.length) (Pv : Nat → Hp → Prop) (h0 : Pv 0 (upd H1 D (.dK []))) (hq : ∀ i H, Pv i H → SqT K H a xs ∧ SqT K H b ys)
    (hs : ∀ (i : Nat) (x y : V) (T : Addr) (H : Hp), xs[i]? = some x → ys[i]? = some y → Pv i H → H T = none → g (.ref T) (wipe σ vs) (upd H T (.tup [x, y])) fun σ2 H2 => wipe σ2 vs = wipe σ vs ∧ tt σ2 H2 fun b H3 =>
      if b = true then tk σ2 H3 fun y H4 => tv σ2 H4 fun z H5 => ∃ kvs k, y = kV k ∧ H5 D = some (.dK kvs) ∧ kvs.length < sizeLine ∧ Pv (i + 1) (upd H5 D (.dK (putK kvs k z))) else Pv (i + 1) H3) (hd : ∀ H, Pv xs.length H → Qd H) :
    ∃ W : Nat → Nat → Hp → Prop, (∃ m, W 0 m (upd H1 D (.dK []))) ∧ ∀ i m H, W i m H →
      ((RZ.ItzT K a b).stop i H ∧ Qd H) ∨ ((RZ.ItzT K a b).go i H ∧ ∃ Nx : Hp → Prop, (∀ H', Nx H' → ∃ m', m' < m ∧ W (i + 1) m' H') ∧ ∀ x H', (RZ.ItzT K a b).yld i H x H' → g x (wipe σ vs) H' fun σ2 H2 => wipe σ2 vs = wipe σ vs ∧ tt σ2 H2 fun b H3 =>
        if b = true then tk σ2 H3 fun y H4 => tv σ2 H4 fun z H5 => ∃ kvs k, y = kV k ∧ H5 D = some (.dK kvs) ∧ kvs.length < sizeLine ∧ Nx (upd H5 D (.dK (putK kvs k z))) else Nx H3) := by
  refine ⟨fun i m H => m = xs.length - i ∧ i ≤ xs.length ∧ Pv i H, ⟨xs.length, rfl, Nat.zero_le _, h0⟩, ?_⟩
  rintro i m H ⟨rfl, hi, p⟩
  obtain ⟨qx, qy⟩ := hq i H p
  by_cases hlt : i < xs.length
  · have hx : xs[i]? = some xs[i] := List.getElem?_eq_getElem hlt
    have hlt2 : i < ys.length := by omega
    have hy : ys[i]? = some ys[i] := List.getElem?_eq_getElem hlt2
    refine .inr ⟨⟨xs, ys, _, _, qx, qy, hx, hy⟩, Pv (i + 1), fun H' p' => ⟨xs.length - (i + 1), by omega, rfl, hlt, p'⟩, fun v H' y => ?_⟩
    obtain ⟨T, x', y', rfl, hT, rfl, f1, f2⟩ := y
    exact hs i x' y' T H (f1 xs qx) (f2 ys qy) p hT
  · have e : i = xs.length := by omega
    subst e
    exact .inl ⟨⟨xs, ys, qx, qy, Or.inl (Nat.le_refl _)⟩, hd H p⟩
section
variable {P : Program} {w : World} {K : PySem.W.Frag} {mg : Str → Option Value} {base : Heap} {f C CT : Addr} {fd : FuncData}
def spSt (C CT : Addr) : Sp := fun vs H Q _ => ∃ (tu r ot hd kp ps : Addr) (xs : List Str) (g : Int) (c : Str → Int), vs = [.ref tu] ∧ Tr CT H tu r hd kp ps ∧ LeastR H r ot xs g ∧ Crd H hd xs c ∧
  ∀ (D : Addr) (H' : Hp) (kvs : List (Key × V)), Same H H' → H D = none → H' D = some (.dK kvs) → (∀ x ∈ xs, ∃ p, valV kvs (Sum.inr x) = some (.ref p) ∧ Sh C H' p (pr (Rat.divInt (c x) 840))) → Q (.ref D) H'
theorem ok_st (F : Dn K d_Turns_stands f fd) (b2 : Bl2 mg) (T : ClT K CT) (gp : ∃ t, mg "RIDE_PARTS" = some (.int 840 t)) (MS : MakS P w K mg base C) : FnOk P w K mg base CX0 4 f fd ["self"] (spSt C CT) := by
  refine F.ok sc_Turns_stands (fun vs H Q E h => ?_) (fun cdv A outer s H vs Q E hr h => ?_)
  · obtain ⟨tu, r, ot, hd, kp, ps, xs, g, c, rfl, _⟩ := h
    rfl
  · obtain ⟨tu, r, ot, hd, kp, ps, xs, g, c, rfl, ⟨dx, htu⟩, lr, hc, hQ⟩ := h
    obtain ⟨hrr, hot, ox, g0, g1⟩ := id lr
    obtain ⟨t, gp⟩ := gp
    have l8 := ox.l8
    refine ⟨_, PSs.nox (pss_one (ps_ret (pe_dc (own := [("name", 1), ("parts", 2)]) (g := gTup K 2 (gCons (gName 1) (gCons (gName 2) gNil))) (tt := tYes) rfl sc_Turns_stands.nd (RZ.pi_zipA rfl b2.zip (pa_cons (pe_ix ix_tup (pe_fld (pv 0) rfl) pe_int (fun _ _ => rfl)) (pa_cons (pe_fld (pv 0) rfl) pa_nil)))
      (blkOk_by (N := N_Turns_stands) (sc := defScope s_Turns_stands) (by decide +kernel)) (fun _ _ _ _ _ => pg_tup rfl (pgs_cons (pg_name (i := 1) sc_Turns_stands.nd rfl (.inl rfl)) (pgs_cons (pg_name (i := 2) sc_Turns_stands.nd rfl (.inl rfl)) pgs_nil))) (fun _ _ _ _ _ => pts_nil)
      (fun _ _ _ _ _ => pv 1) (fun _ _ _ _ _ => pe_mk MS hr (by decide) rfl (pa_cons (pv 2) (pa_cons (pe_glob (v := .int 840) rfl gp ⟨t, rfl⟩) pa_nil)))))), ?_⟩
    refine ⟨_, rfl, tu, CT, dx, _, _, rfl, htu, T.cl, T.nr, tr_rule _ _ _ _, r, _, _, _, rfl, rfl, SqT.of hrr, rfl, _, rfl, tu, CT, dx, _, _, rfl, htu, T.cl, T.nh, tr_held _ _ _ _, ot, hd, _, _, rfl, .inr ⟨hot.sq, SqT.of hc, fun D hD => ?_⟩⟩
    refine dc_zipT (by simp) (fun i H2 => ∃ kvs : List (Key × V), H2 D = some (.dK kvs) ∧ kvs.length ≤ i ∧ Same H H2 ∧ ∀ (j : Nat) (x : Str), j < i → xs[j]? = some x → ∃ p, valV kvs (Sum.inr x) = some (.ref p) ∧ Sh C H2 p (pr (Rat.divInt (c x) 840)))
      ⟨[], upd_same, Nat.le_refl _, same_new hD, fun j x hj => absurd hj (Nat.not_lt_zero _)⟩ (fun i H2 ⟨_, _, _, sm, _⟩ => ⟨(hot.same sm).sq, SqT.of (sm _ _ hc)⟩) ?_ ?_
    · rintro i x y Tp H2 hx hy ⟨kvs, hdd, hlen, sm, hval⟩ hT
      have hi' : i < xs.length := by
        have := (List.getElem?_eq_some_iff.mp hx).1
        simpa using this
      rw [List.getElem?_map] at hx hy
      obtain ⟨z, hz, rfl⟩ := Option.map_eq_some_iff.mp hx
      rw [hz] at hy
      cases hy
      have sT := same_new (o := .tup [V.str z, V.int (c z)]) hT
      refine ⟨Tp, _, rfl, SqT.of upd_same, rfl, _, _, rfl, _, _, rfl, rfl, rfl, ?_⟩
      refine ⟨_, rfl, _, rfl, ?_⟩
      intro q dq nq nd ne
      refine mk_in (n := 10) nq nd (by decide) (by decide) (by decide) (by decide) fun H3 s3 hq => ⟨rfl, ?_⟩
      have s23 := sT.trans s3
      have hD3 := s23 _ _ hdd
      have nqD : q ≠ D := fun e => by rw [e, sT _ _ hdd] at nq; cases nq
      refine ⟨kvs, Sum.inr z, rfl, hD3, Nat.lt_of_le_of_lt (by omega : kvs.length ≤ 8) (by decide), _, upd_same, Nat.le_trans (length_putK _ _ _) (by omega), ?_, ?_⟩
      · intro a o e
        rw [upd_ne (ne_of_none e hD)]
        exact s23 a o (sm a o e)
      · have keep : ∀ {p : Addr} {v : Int × Int} {o : HO}, Sh C H3 p v → Sh C (upd H3 D o) p v := fun {p v o} ⟨dp, hp⟩ => ⟨dp, by
          rw [upd_ne (fun e => by rw [e, hD3] at hp; cases hp)]
          exact hp⟩
        intro j x hj hjx
        rw [valV_put]
        by_cases e : x = z
        · rw [e, if_pos rfl]
          exact ⟨q, rfl, keep hq⟩
        · rw [if_neg (fun q => e (Sum.inr.inj q))]
          have hji : j < i := by
            rcases Nat.lt_succ_iff_lt_or_eq.mp hj with h | h
            · exact h
            · rw [h, hz] at hjx
              exact absurd (Option.some.inj hjx).symm e
          obtain ⟨p, hp1, hp2⟩ := hval j x hji hjx
          exact ⟨p, hp1, keep (hp2.keep s23)⟩
    · rintro H2 ⟨kvs, hdd, hlen, sm, hval⟩
      refine hQ D H2 kvs sm hD hdd fun x hx => ?_
      obtain ⟨j, hj, rfl⟩ := List.mem_iff_getElem.mp hx
      exact hval j _ (by simpa using hj) (List.getElem?_eq_getElem hj)
def spIb : Sp := fun vs H Q _ => ∃ (pt bt o1 o2 : Addr) (q u v : Int × Int), vs = [.ref pt, .ref bt] ∧ H pt = some (tupP q) ∧ H bt = some (.tup [.ref o1, .ref o2]) ∧ H o1 = some (tupP u) ∧ H o2 = some (tupP v) ∧ -(2 ^ 64) < q.1 ∧ q.1 < 2 ^ 64 ∧ -(2 ^ 64) < q.2 ∧ q.2 < 2 ^ 64 ∧
  q.1 * u.2 ≤ u.1 * q.2 ∧ 0 - q.1 * v.2 ≤ v.1 * q.2 ∧ Q (.bl true) H
theorem ok_ib (F : Dn K d_l_in_bound f fd) : FnOk P w K mg base CX0 1 f fd ["_law_pair_here", "_law_bound"] spIb := by
  refine F.ok sc_l_in_bound (fun vs H Q E h => ?_) (fun cdv A outer s H vs Q E hr h => ?_)
  · obtain ⟨pt, bt, o1, o2, q, u, v, rfl, _⟩ := h
    rfl
  · obtain ⟨pt, bt, o1, o2, q, u, v, rfl, hpt, hbt, ho1, ho2, a1, a2, a3, a4, i1, i2, hQ⟩ := h
    unfold tupP at hpt ho1 ho2
    refine ⟨_, PSs.nox (pss_cons (ps_asg (pv 1) (pg_tup rfl (pgs_cons (pg_name (i := 2) sc_l_in_bound.nd rfl (.inl rfl)) (pgs_cons (pg_name (i := 3) sc_l_in_bound.nd rfl (.inl rfl)) pgs_nil))))
      (pss_one (ps_ret (pe_and (pe_cmpR op_le (pe_op op_mul (pe_ix ix_tup (pv 0) pe_int (fun _ _ => rfl)) (pe_ix ix_tup (pv 2) pe_int (fun _ _ => rfl))) (pe_op op_mul (pe_ix ix_tup (pv 2) pe_int (fun _ _ => rfl)) (pe_ix ix_tup (pv 0) pe_int (fun _ _ => rfl))) (nomark _))
        (pe_one (pe_cmpR op_le (pe_op op_sub pe_int (pe_op op_mul (pe_ix ix_tup (pv 0) pe_int (fun _ _ => rfl)) (pe_ix ix_tup (pv 3) pe_int (fun _ _ => rfl)))) (pe_op op_mul (pe_ix ix_tup (pv 3) pe_int (fun _ _ => rfl)) (pe_ix ix_tup (pv 0) pe_int (fun _ _ => rfl))) (nomark _))))))), ?_⟩
    refine ⟨_, rfl, bt, _, rfl, SqT.of hbt, rfl, _, _, rfl, _, _, rfl, rfl, ?_⟩
    refine ⟨_, rfl, pt, _, _, _, rfl, rfl, SqT.of hpt, rfl, _, rfl, o1, _, _, _, rfl, rfl, SqT.of ho1, rfl, _, _, rfl, rfl, cb_l a1 a2, _, rfl, o1, _, _, _, rfl, rfl, SqT.of ho1, rfl, _, rfl, pt, _, _, _, rfl, rfl, SqT.of hpt, rfl, _, _, rfl, rfl, cb_r a3 a4, _, _, rfl, rfl, true, ?_, iteT ?_⟩
    · show V.bl (decide (q.1 * u.2 ≤ u.1 * q.2)) = V.bl true
      rw [decide_eq_true i1]
    refine ⟨_, rfl, pt, _, _, _, rfl, rfl, SqT.of hpt, rfl, _, rfl, o2, _, _, _, rfl, rfl, SqT.of ho2, rfl, _, _, rfl, rfl, cb_l a1 a2, _, _, rfl, rfl, _, rfl, o2, _, _, _, rfl, rfl, SqT.of ho2, rfl, _, rfl, pt, _, _, _, rfl, rfl, SqT.of hpt, rfl, _, _, rfl, rfl, cb_r a3 a4, _, _, rfl, rfl, ?_⟩
    show Q (V.bl (decide (0 - q.1 * v.2 ≤ v.1 * q.2))) H
    rw [decide_eq_true i2]
    exact hQ
end
end K43
set_option Elab.async false
set_option linter.all false
set_option maxRecDepth 100000
set_option maxHeartbeats 4000000
/-! ts.index(x) of a tuple of texts -/
namespace TI
open PySem PySem.Spec PyProof.Rows L2
def rIxOf (K : PySem.W.Frag) : V → List V → Hp → VK → Prop := fun x xs H Q => ∃ (a : Addr) (ys : List Str) (k : Str), x = .ref a ∧ xs = [.str k] ∧ SqT K H a (ys.map V.str) ∧ k ∈ ys ∧ Q (.int (ys.idxOf k : Nat)) H
theorem mt_tindex {X : Cx} : MtR X "tuple.index" (rIxOf X.K) := by
  intro pins s σ H x xs v us Q I rx rxs h
  obtain ⟨a, ys, k, rfl, rfl, hs, hk, q⟩ := h
  cases rx
  obtain ⟨u, rfl, ru⟩ := rxs.one
  obtain ⟨t, rfl⟩ := ru
  obtain ⟨its, rv, it, hlen⟩ := I.tuple hs
  exact PySem.SeqAt.tuple_index_strs (vs := its) it (Vals.strs rv) hk ⟨.int _, H, I.tok _, ⟨_, rfl⟩, q⟩
/-- len of a list or a tuple, where the reading must be named -/
def rLen (K : PySem.W.Frag) : List V → Hp → VK → Prop := fun xs H Q => ∃ (p : Addr) (ys : List V), xs = [V.ref p] ∧ (SqL K H p ys ∨ SqT K H p ys) ∧ Q (V.int (ys.length : Nat)) H
theorem call_lenK {X : Cx} : CallR X (.builtin "len") (rLen X.K) := call_len_seq
end TI
set_option Elab.async false
set_option linter.all false
set_option maxRecDepth 100000
set_option maxHeartbeats 4000000
/-! sets of names in their order, and what rounds may come to -/
namespace SM
open PySem
abbrev Ss := List (List Str)
def stp (P : Ss) (x : Str) : Ss := P ++ P.map (· ++ [x])
def subs (xs : List Str) : Ss := xs.foldl stp [[]]
theorem subs_snoc (xs : List Str) (x : Str) : subs (xs ++ [x]) = subs xs ++ (subs xs).map (· ++ [x]) := by
  unfold subs
  rw [List.foldl_append]
  rfl
def lstp (y : Str) (P : Ss) (x : Str) : Ss := if x = y then P.map (· ++ [x]) else P ++ P.map (· ++ [x])
def lsubs (y : Str) (xs : List Str) : Ss := xs.foldl (lstp y) [[]]
theorem lsubs_snoc (y : Str) (xs : List Str) (x : Str) : lsubs y (xs ++ [x]) = if x = y then (lsubs y xs).map (· ++ [x]) else lsubs y xs ++ (lsubs y xs).map (· ++ [x]) := by
  unfold lsubs
  rw [List.foldl_append]
  rfl
/-- to go by the last one -/
theorem snoc_rec {p : List Str → Prop} (h0 : p []) (h : ∀ xs x, p xs → p (xs ++ [x])) (xs : List Str) : p xs := by
  have : ∀ ys : List Str, p ys.reverse := fun ys => by
    induction ys with
    | nil => exact h0
    | cons y ys ih =>
      rw [List.reverse_cons]
      exact h _ _ ih
  have := this xs.reverse
  rwa [List.reverse_reverse] at this
theorem subs_len (xs : List Str) : (subs xs).length = 2 ^ xs.length := by
  refine snoc_rec (p := fun xs => (subs xs).length = 2 ^ xs.length) rfl (fun xs x ih => ?_) xs
  rw [subs_snoc, List.length_append, List.length_map, ih, List.length_append, Nat.pow_add]
  show _ = _ * 2
  omega
theorem lsubs_le (y : Str) (xs : List Str) : (lsubs y xs).length ≤ 2 ^ xs.length := by
  refine snoc_rec (p := fun xs => (lsubs y xs).length ≤ 2 ^ xs.length) (Nat.le_refl _) (fun xs x ih => ?_) xs
  rw [lsubs_snoc, List.length_append, Nat.pow_add]
  show _ ≤ _ * 2
  split
  · rw [List.length_map]
    omega
  · rw [List.length_append, List.length_map]
    omega
theorem sub_of (xs : List Str) : ∀ s ∈ subs xs, s.Sublist xs := by
  refine snoc_rec (p := fun xs => ∀ s ∈ subs xs, s.Sublist xs) (fun s hs => ?_) (fun xs x ih s hs => ?_) xs
  · rw [List.mem_singleton.mp hs]
    exact List.Sublist.refl _
  · rw [subs_snoc] at hs
    rcases List.mem_append.mp hs with h | h
    · exact (ih s h).trans (List.sublist_append_left _ _)
    · obtain ⟨t, ht, rfl⟩ := List.mem_map.mp h
      exact (ih t ht).append (List.Sublist.refl _)
theorem of_filter (p : Str → Bool) (xs : List Str) : xs.filter p ∈ subs xs := by
  refine snoc_rec (p := fun xs => xs.filter p ∈ subs xs) (List.mem_singleton.mpr rfl) (fun xs x ih => ?_) xs
  rw [subs_snoc, List.filter_append]
  by_cases h : p x = true
  · rw [show [x].filter p = [x] by simp [h]]
    exact List.mem_append_right _ (List.mem_map.mpr ⟨_, ih, rfl⟩)
  · rw [show [x].filter p = [] by simp [h], List.append_nil]
    exact List.mem_append_left _ ih
theorem subs_nd {xs : List Str} (nd : xs.Nodup) : (subs xs).Nodup := by
  refine snoc_rec (p := fun xs => xs.Nodup → (subs xs).Nodup) (fun _ => by simp [subs]) (fun xs x ih nd => ?_) xs nd
  obtain ⟨n1, _, n3⟩ := List.nodup_append.mp nd
  have nx : x ∉ xs := fun h => n3 x h x (List.mem_singleton.mpr rfl) rfl
  rw [subs_snoc, List.nodup_append]
  refine ⟨ih n1, ?_, ?_⟩
  · refine List.pairwise_map.mpr ((ih n1).imp fun h e => h ?_)
    exact List.append_cancel_right e
  · intro s hs t ht e
    obtain ⟨u, hu, rfl⟩ := List.mem_map.mp ht
    have := (sub_of xs s hs).subset (by rw [e]; exact List.mem_append_right _ (List.mem_singleton.mpr rfl) : x ∈ s)
    exact nx this
theorem filt_no {y : Str} {xs : List Str} (h : y ∉ xs) : (subs xs).filter (fun s => decide (y ∈ s)) = [] := by
  rw [List.filter_eq_nil_iff]
  intro s hs z
  exact h ((sub_of xs s hs).subset (of_decide_eq_true z))
/-- the law's sets are the program's that hold the name -/
theorem lsubs_eq {y : Str} {xs : List Str} (nd : xs.Nodup) : (y ∉ xs → lsubs y xs = subs xs) ∧ (y ∈ xs → lsubs y xs = (subs xs).filter fun s => decide (y ∈ s)) := by
  refine snoc_rec (p := fun xs => xs.Nodup → (y ∉ xs → lsubs y xs = subs xs) ∧ (y ∈ xs → lsubs y xs = (subs xs).filter fun s => decide (y ∈ s))) (fun _ => ⟨fun _ => rfl, fun h => nomatch h⟩) (fun xs x ih nd => ?_) xs nd
  obtain ⟨n1, _, n3⟩ := List.nodup_append.mp nd
  have nx : x ∉ xs := fun h => n3 x h x (List.mem_singleton.mpr rfl) rfl
  obtain ⟨a, b⟩ := ih n1
  rw [lsubs_snoc, subs_snoc]
  constructor
  · intro h
    have h1 : y ∉ xs := fun z => h (List.mem_append_left _ z)
    have h2 : ¬ x = y := fun z => h (List.mem_append_right _ (by rw [z]; exact List.mem_singleton.mpr rfl))
    rw [if_neg h2, a h1]
  · intro h
    by_cases e : x = y
    · subst e
      rw [if_pos rfl, a nx, List.filter_append, filt_no nx, List.nil_append]
      refine (List.filter_eq_self.mpr fun s hs => ?_).symm
      obtain ⟨u, _, rfl⟩ := List.mem_map.mp hs
      exact decide_eq_true (List.mem_append_right _ (List.mem_singleton.mpr rfl))
    · have h1 : y ∈ xs := by
        rcases List.mem_append.mp h with q | q
        · exact q
        · exact absurd (List.mem_singleton.mp q).symm e
      rw [if_neg e, b h1, List.filter_append, List.filter_map]
      congr 1
      congr 1
      refine List.filter_congr fun s _ => ?_
      show decide (y ∈ s) = decide (y ∈ s ++ [x])
      refine decide_eq_decide.mpr ⟨fun z => List.mem_append_left _ z, fun z => ?_⟩
      rcases List.mem_append.mp z with q | q
      · exact q
      · exact absurd (List.mem_singleton.mp q).symm e
/-- the sets of two and more that hold the name -/
def wsets (y : Str) (xs : List Str) : Ss := ((subs xs).filter fun s => decide (2 ≤ s.length)).filter fun s => decide (y ∈ s)
/-- a part of a ride for m -/
def un (n : Nat) : Int := (840 : Int).fdiv (n : Int)
theorem un_n {n : Nat} (h1 : 1 ≤ n) (h8 : n ≤ 8) : un n * n = 840 := by
  rcases (show n = 1 ∨ n = 2 ∨ n = 3 ∨ n = 4 ∨ n = 5 ∨ n = 6 ∨ n = 7 ∨ n = 8 by omega) with rfl | rfl | rfl | rfl | rfl | rfl | rfl | rfl <;> decide
theorem un_pos {n : Nat} (h1 : 1 ≤ n) (h8 : n ≤ 8) : 0 ≤ un n := by
  rcases (show n = 1 ∨ n = 2 ∨ n = 3 ∨ n = 4 ∨ n = 5 ∨ n = 6 ∨ n = 7 ∨ n = 8 by omega) with rfl | rfl | rfl | rfl | rfl | rfl | rfl | rfl <;> decide
/-- what a set may owe the name, and the name it -/
def upI (y : Str) (s : List Str) : Int := ((s.length : Int) - 1 - (s.idxOf y : Nat)) * un s.length
def dnI (y : Str) (s : List Str) : Int := (s.idxOf y : Nat) * un s.length
/-- what a set has come to amid its round -/
def amid (y : Str) (s : List Str) (k : Nat) : Int := (if s.idxOf y < k % s.length then 840 else 0) - ((k % s.length : Nat) : Int) * un s.length
theorem amid_le {y : Str} {s : List Str} {k : Nat} (hy : y ∈ s) (h8 : s.length ≤ 8) : amid y s k ≤ upI y s ∧ -dnI y s ≤ amid y s k := by
  have h1 : 1 ≤ s.length := List.length_pos_iff.mpr fun z => by rw [z] at hy; cases hy
  have hi := List.idxOf_lt_length_of_mem hy
  have hm := Nat.mod_lt k h1
  have e := un_n h1 h8
  have p := un_pos h1 h8
  unfold amid upI dnI
  generalize s.idxOf y = i at hi
  generalize k % s.length = m at hm
  generalize s.length = n at *
  generalize un n = u at *
  constructor
  · split
    · have : ((m : Int) - (i : Int) - 1) * u ≥ 0 := Int.mul_nonneg (by omega) p
      grind
    · have a : ((n : Int) - 1 - (i : Int)) * u ≥ 0 := Int.mul_nonneg (by omega) p
      have b : (m : Int) * u ≥ 0 := Int.mul_nonneg (by omega) p
      omega
  · split
    · have a : ((n : Int) - (m : Int)) * u ≥ 0 := Int.mul_nonneg (by omega) p
      have b : (i : Int) * u ≥ 0 := Int.mul_nonneg (by omega) p
      grind
    · have : ((i : Int) - (m : Int)) * u ≥ 0 := Int.mul_nonneg (by omega) p
      grind
theorem amid_step {y d : Str} {s : List Str} {k : Nat} (hy : y ∈ s) (nd : s.Nodup) (h8 : s.length ≤ 8) (hd : s[k % s.length]? = some d) : amid y s (k + 1) = amid y s k - un s.length + (if y = d then 840 else 0) := by
  have h1 : 1 ≤ s.length := List.length_pos_iff.mpr fun z => by rw [z] at hy; cases hy
  have hi := List.idxOf_lt_length_of_mem hy
  have hm := Nat.mod_lt k h1
  have e := un_n h1 h8
  have key : (y = d) ↔ s.idxOf y = k % s.length := by
    have ey : s[s.idxOf y]? = some y := by rw [List.getElem?_eq_getElem hi, List.getElem_idxOf]
    constructor
    · intro z
      rw [← z, ← ey] at hd
      exact ((List.getElem?_inj hm nd).mp hd).symm
    · intro z
      rw [z, hd] at ey
      exact (Option.some.inj ey).symm
  have m2 : (k + 1) % s.length = if k % s.length + 1 = s.length then 0 else k % s.length + 1 := by
    rw [Nat.add_mod]
    by_cases h : k % s.length + 1 = s.length
    · rw [if_pos h]
      by_cases h' : s.length = 1
      · rw [h', Nat.mod_one]
      · rw [Nat.mod_eq_of_lt (show 1 < s.length by omega), h, Nat.mod_self]
    · rw [if_neg h]
      by_cases h' : s.length = 1
      · omega
      · rw [Nat.mod_eq_of_lt (show 1 < s.length by omega), Nat.mod_eq_of_lt (by omega)]
  unfold amid
  rw [m2]
  have key2 : (if y = d then (840 : Int) else 0) = if s.idxOf y = k % s.length then 840 else 0 := by
    by_cases h : y = d
    · rw [if_pos h, if_pos (key.mp h)]
    · rw [if_neg h, if_neg fun z => h (key.mpr z)]
  rw [key2]
  generalize s.idxOf y = i at hi
  generalize k % s.length = m at hm
  generalize s.length = n at *
  generalize un n = u at *
  by_cases h : m + 1 = n
  · rw [if_pos h]
    have : (n : Int) = m + 1 := by omega
    split <;> split <;> split <;> grind
  · rw [if_neg h]
    have : ((m + 1 : Nat) : Int) = m + 1 := by omega
    split <;> split <;> split <;> grind
/-- sums -/
def sm (f : List Str → Int) (L : Ss) : Int := (L.map f).sum
theorem sm_cons (f : List Str → Int) (s : List Str) (L : Ss) : sm f (s :: L) = f s + sm f L := by simp [sm]
theorem sm_app (f : List Str → Int) (L M : Ss) : sm f (L ++ M) = sm f L + sm f M := by simp [sm]
theorem sm_le {f g : List Str → Int} : ∀ {L : Ss}, (∀ s ∈ L, f s ≤ g s) → sm f L ≤ sm g L
  | [], _ => Int.le_refl _
  | s :: L, h => by
    rw [sm_cons, sm_cons]
    have := h s List.mem_cons_self
    have := sm_le fun t ht => h t (List.mem_cons_of_mem s ht)
    omega
theorem sm_neg (f : List Str → Int) : ∀ L : Ss, sm (fun s => -f s) L = -sm f L
  | [] => rfl
  | s :: L => by rw [sm_cons, sm_cons, sm_neg f L]; omega
theorem sm_same {f g : List Str → Int} : ∀ {L : Ss}, (∀ s ∈ L, f s = g s) → sm f L = sm g L
  | [], _ => rfl
  | s :: L, h => by rw [sm_cons, sm_cons, h s List.mem_cons_self, sm_same fun t ht => h t (List.mem_cons_of_mem s ht)]
theorem sm_one {f g : List Str → Int} {s0 : List Str} {v : Int} : ∀ {L : Ss}, L.Nodup → s0 ∈ L → (∀ s ∈ L, s ≠ s0 → f s = g s) → f s0 = g s0 + v → sm f L = sm g L + v
  | [], _, h, _, _ => nomatch h
  | s :: L, nd, h, hs, h0 => by
    rw [sm_cons, sm_cons]
    obtain ⟨n1, n2⟩ := List.nodup_cons.mp nd
    rcases List.mem_cons.mp h with e | h
    · subst e
      rw [h0, sm_same fun t ht => hs t (List.mem_cons_of_mem _ ht) fun z => n1 (z ▸ ht)]
      omega
    · rw [hs s List.mem_cons_self fun z => n1 (z ▸ h), sm_one n2 h (fun t ht => hs t (List.mem_cons_of_mem _ ht)) h0]
      omega
theorem sm_filter {f : List Str → Int} {p : List Str → Bool} : ∀ {L : Ss}, (∀ s ∈ L, p s = false → f s = 0) → sm f (L.filter p) = sm f L
  | [], _ => rfl
  | s :: L, h => by
    have ih := sm_filter (L := L) fun t ht => h t (List.mem_cons_of_mem _ ht)
    by_cases e : p s = true
    · rw [List.filter_cons_of_pos e, sm_cons, sm_cons, ih]
    · have e' : p s = false := by simpa using e
      rw [List.filter_cons_of_neg (by simp [e']), sm_cons, ih, h s List.mem_cons_self e']
      omega
def UP (y : Str) (xs : List Str) : Int := sm (upI y) (wsets y xs)
def DN (y : Str) (xs : List Str) : Int := sm (dnI y) (wsets y xs)
theorem mem_w {y : Str} {xs s : List Str} : s ∈ wsets y xs ↔ s ∈ subs xs ∧ 2 ≤ s.length ∧ y ∈ s := by
  unfold wsets
  rw [List.mem_filter, List.mem_filter]
  exact ⟨fun ⟨⟨a, b⟩, c⟩ => ⟨a, of_decide_eq_true b, of_decide_eq_true c⟩, fun ⟨a, b, c⟩ => ⟨⟨a, decide_eq_true b⟩, decide_eq_true c⟩⟩
theorem w_nd {y : Str} {xs : List Str} (nd : xs.Nodup) : (wsets y xs).Nodup := ((subs_nd nd).filter _).filter _
theorem one_zero {y : Str} {s : List Str} (hy : y ∈ s) (h : s.length < 2) : s.idxOf y = 0 ∧ s.length = 1 := by
  have := List.idxOf_lt_length_of_mem hy
  omega
/-- the law's sums are the program's -/
theorem sm_law {y : Str} {xs : List Str} (nd : xs.Nodup) (hy : y ∈ xs) : sm (upI y) (lsubs y xs) = UP y xs ∧ sm (dnI y) (lsubs y xs) = DN y xs := by
  have e : wsets y xs = (lsubs y xs).filter fun s => decide (2 ≤ s.length) := by
    unfold wsets
    rw [(lsubs_eq nd).2 hy, List.filter_filter, List.filter_filter]
    exact List.filter_congr fun s _ => Bool.and_comm _ _
  have each : ∀ s ∈ lsubs y xs, decide (2 ≤ s.length) = false → s.idxOf y = 0 ∧ s.length = 1 := fun s hs h => by
    rw [(lsubs_eq nd).2 hy] at hs
    have := of_decide_eq_false h
    exact one_zero (of_decide_eq_true (List.mem_filter.mp hs).2) (by omega)
  unfold UP DN
  rw [e]
  refine ⟨(sm_filter fun s hs h => ?_).symm, (sm_filter fun s hs h => ?_).symm⟩
  · obtain ⟨h0, h1⟩ := each s hs h
    unfold upI
    rw [h0, h1]
    rfl
  · obtain ⟨h0, h1⟩ := each s hs h
    unfold dnI
    rw [h0]
    simp
/-- credits amid rounds -/
def Cr (xs : List Str) (rode : Ss) (c : Str → Int) : Prop := ∀ y ∈ xs, c y = sm (fun s => amid y s (rode.count s)) (wsets y xs)
theorem Cr.zero (xs : List Str) : Cr xs [] fun _ => 0 := fun y _ => by
  have : sm (fun s => amid y s (([] : Ss).count s)) (wsets y xs) = sm (fun _ => 0) (wsets y xs) := sm_same fun s _ => by
    show amid y s 0 = 0
    unfold amid
    simp
  rw [this]
  have z : ∀ L : Ss, sm (fun _ => 0) L = 0 := fun L => by
    induction L with
    | nil => rfl
    | cons s L ih => rw [sm_cons, ih]; rfl
  exact (z _).symm
theorem Cr.step {xs S : List Str} {rode : Ss} {c : Str → Int} {d : Str} (h : Cr xs rode c) (nd : xs.Nodup) (h8 : xs.length ≤ 8) (hS : S ∈ subs xs) (hd : S[rode.count S % S.length]? = some d) :
    Cr xs (rode ++ [S]) fun y => c y - (if y ∈ S then un S.length else 0) + if y = d then 840 else 0 := fun y hy => by
  have sl := sub_of xs S hS
  have dS : d ∈ S := List.mem_of_getElem? hd
  have cnt : ∀ s, (rode ++ [S]).count s = rode.count s + if s = S then 1 else 0 := fun s => by
    rw [List.count_append, List.count_singleton]
    congr 1
    by_cases e : s = S
    · subst e
      simp
    · have e2 : ¬ S = s := fun z => e z.symm
      simp [e, e2]
  show c y - _ + _ = _
  rw [h y hy]
  by_cases yS : y ∈ S
  · rw [if_pos yS]
    have S8 : S.length ≤ 8 := Nat.le_trans sl.length_le h8
    have st := amid_step (k := rode.count S) yS (nd.sublist sl) S8 hd
    by_cases l2 : 2 ≤ S.length
    · have := sm_one (f := fun s => amid y s ((rode ++ [S]).count s)) (g := fun s => amid y s (rode.count s)) (v := - un S.length + if y = d then 840 else 0) (w_nd nd) (mem_w.mpr ⟨hS, l2, yS⟩) (fun s _ ne => by
        show amid y s ((rode ++ [S]).count s) = _
        rw [cnt, if_neg ne]
        rfl) (by
        show amid y S ((rode ++ [S]).count S) = _
        rw [cnt, if_pos rfl, st]
        omega)
      rw [this]
      omega
    · obtain ⟨_, l1⟩ := one_zero yS (by omega)
      have yd : y = d := by
        match S, l1, yS, dS with
        | [z], _, yS, dS => rw [List.mem_singleton.mp yS, List.mem_singleton.mp dS]
      have : sm (fun s => amid y s ((rode ++ [S]).count s)) (wsets y xs) = sm (fun s => amid y s (rode.count s)) (wsets y xs) := sm_same fun s hs => by
        have ne : s ≠ S := fun z => by
          have := (mem_w.mp hs).2.1
          rw [z] at this
          omega
        show amid y s ((rode ++ [S]).count s) = _
        rw [cnt, if_neg ne]
        rfl
      rw [this, if_pos yd, l1]
      show _ - (840 : Int) + 840 = _
      omega
  · have yd : ¬ y = d := fun z => yS (by rw [z]; exact dS)
    rw [if_neg yS, if_neg yd]
    have : sm (fun s => amid y s ((rode ++ [S]).count s)) (wsets y xs) = sm (fun s => amid y s (rode.count s)) (wsets y xs) := sm_same fun s hs => by
      have ne : s ≠ S := fun z => yS (z ▸ (mem_w.mp hs).2.2)
      show amid y s ((rode ++ [S]).count s) = _
      rw [cnt, if_neg ne]
      rfl
    rw [this]
    omega
theorem Cr.bound {xs : List Str} {rode : Ss} {c : Str → Int} (h : Cr xs rode c) (h8 : xs.length ≤ 8) {y : Str} (hy : y ∈ xs) : c y ≤ UP y xs ∧ -DN y xs ≤ c y := by
  rw [h y hy]
  have each : ∀ s ∈ wsets y xs, amid y s (rode.count s) ≤ upI y s ∧ -dnI y s ≤ amid y s (rode.count s) := fun s hs => by
    obtain ⟨a, _, b⟩ := mem_w.mp hs
    exact amid_le b (Nat.le_trans (sub_of xs s a).length_le h8)
  refine ⟨sm_le fun s hs => (each s hs).1, ?_⟩
  unfold DN
  rw [← sm_neg]
  exact sm_le fun s hs => (each s hs).2
/-- sums of what is small are small -/
theorem sm_abs {f : List Str → Int} {b : Nat} : ∀ {L : Ss}, (∀ s ∈ L, (f s).natAbs ≤ b) → (sm f L).natAbs ≤ b * L.length
  | [], _ => Nat.zero_le _
  | s :: L, h => by
    rw [sm_cons, List.length_cons, Nat.mul_add, Nat.mul_one]
    have := h s List.mem_cons_self
    have := sm_abs fun t ht => h t (List.mem_cons_of_mem s ht)
    omega
theorem ud_small {y : Str} {s : List Str} (hy : y ∈ s) (h8 : s.length ≤ 8) : (upI y s).natAbs ≤ 840 ∧ (dnI y s).natAbs ≤ 840 := by
  have h1 : 1 ≤ s.length := List.length_pos_iff.mpr fun z => by rw [z] at hy; cases hy
  have hi := List.idxOf_lt_length_of_mem hy
  have e := un_n h1 h8
  have p := un_pos h1 h8
  unfold upI dnI
  generalize s.idxOf y = i at hi
  generalize s.length = n at *
  generalize un n = u at *
  have a : ((n : Int) - 1 - (i : Int)) * u ≥ 0 := Int.mul_nonneg (by omega) p
  have b : (i : Int) * u ≥ 0 := Int.mul_nonneg (by omega) p
  have c : ((n : Int) - 1 - (i : Int)) * u + (i : Int) * u = 840 - u := by grind
  omega
end SM
set_option Elab.async false
set_option linter.all false
set_option maxRecDepth 100000
set_option maxHeartbeats 4000000
namespace K43
open PySem PySem.Spec PyProof.Rows L2
open C8 (Cal Mak Met pe_c pe_mk pe_mt pe_mt0)
open SM (subs wsets)
/-- a tuple of names -/
abbrev NT (_ : Addr) (ns : List Str) : HO := .tup (ns.map V.str)
theorem nt_lst {a b : Addr} {ns : List Str} {xs : List V} {H : Hp} (e : H a = some (NT a ns)) (e2 : H b = some (.lst xs)) : a ≠ b := ne_of e e2 (by intro z; cases z)
/-- tuples of names stand in a list -/
def SetsL (H : Hp) (a : Addr) (ps : List (Addr × List Str)) : Prop := H a = some (.lst (ps.map fun p => V.ref p.1)) ∧ ∀ p ∈ ps, H p.1 = some (NT p.1 p.2)
theorem SetsL.same {H H' : Hp} {a : Addr} {ps : List (Addr × List Str)} (h : SetsL H a ps) (s : Same H H') : SetsL H' a ps := ⟨s _ _ h.1, fun p hp => s _ _ (h.2 p hp)⟩
theorem take_one {α : Type} {l : List α} {i : Nat} {x : α} (h : l[i]? = some x) : l.take (i + 1) = l.take i ++ [x] := by rw [List.take_succ, h]; rfl
theorem pow8 {n : Nat} (h : n ≤ 8) : 2 ^ n ≤ 256 := Nat.pow_le_pow_right (by decide) h
theorem line_of {n : Nat} (h : n ≤ 100000) : n ≤ sizeLine := by have := sizeLine_eq; omega
theorem line_lt {n : Nat} (h : n ≤ 100000) : n < sizeLine := by have := sizeLine_eq; omega
section
variable {P : Program} {w : World} {K : PySem.W.Frag} {mg : Str → Option Value} {base : Heap} {f C CT : Addr} {fd : FuncData}
def spSo : Sp := fun vs H Q _ => ∃ (ot : Addr) (xs : List Str), vs = [.ref ot] ∧ PIN.PinT H ot (xs.map V.str) ∧ xs.length ≤ 8 ∧
  ∀ (a : Addr) (H' : Hp) (ps : List (Addr × List Str)), Same H H' → H a = none → SetsL H' a ps → ps.map (·.2) = (subs xs).filter (fun s => decide (2 ≤ s.length)) → Q (.ref a) H'
theorem ok_so (F : Dn K d_sets_of f fd) (b : Bl mg) : FnOk P w K mg base CX0 1 f fd ["order"] spSo := by
  refine F.ok sc_sets_of (fun vs H Q E h => ?_) (fun cdv A outer s H vs Q E hr h => ?_)
  · obtain ⟨ot, xs, rfl, _⟩ := h
    rfl
  · obtain ⟨ot, xs, rfl, hot, l8, hQ⟩ := h
    refine ⟨_, PSs.nox (pss_cons (ps_set (i := 1) sc_sets_of.nd rfl (.inl rfl) (pe_lst (pa_cons (pe_tup pa_nil) pa_nil)))
      (pss_cons (ps_for PassesOwn.never rfl (pi_tup (pv 0)) (pg_name (i := 2) sc_sets_of.nd rfl (.inr rfl))
        (pss_one (ps_set (i := 1) sc_sets_of.nd rfl (.inl rfl) (pe_op op_cat (pv 1) (pe_lc (own := [("names", 3)]) (g := gName 3) (tt := tYes) rfl sc_sets_of.nd (pi_list (pv 1)) (blkOk_by (N := N_sets_of) (sc := defScope s_sets_of) (by decide +kernel))
          (fun _ _ _ _ _ => pg_name (i := 3) sc_sets_of.nd rfl (Or.inl rfl)) (fun _ _ _ _ _ => pts_nil) (fun _ _ _ _ _ => pe_op (r := rCatA K) op_catA (pv 3) (pe_tup (pa_cons (pv 2) pa_nil))))))))
      (pss_one (ps_ret (pe_lc (own := [("names", 3)]) (g := gName 3) rfl sc_sets_of.nd (pi_list (pv 1)) (blkOk_by (N := N_sets_of) (sc := defScope s_sets_of) (by decide +kernel))
          (fun _ _ _ _ _ => pg_name (i := 3) sc_sets_of.nd rfl (Or.inl rfl)) (fun _ _ _ _ _ => pts_one (pt_cmpR op_ge (pe_callB (r := TI.rLen K) TI.call_lenK rfl b.len boot_len (pa_cons (pv 3) pa_nil)) pe_int (nomark _))) (fun _ _ _ _ _ => pv 3)))))), ?_⟩
    refine ⟨by show 0 ≤ sizeLine; decide, fun e0 fe0 => ?_⟩
    refine ⟨by show 1 ≤ sizeLine; decide, fun l0 fl0 => ?_⟩
    have s0 := same_new (o := NT e0 []) fe0
    have s1 := same_new (o := .lst [.ref e0]) fl0
    have fl0' : H l0 = none := s0.free fl0
    refine ⟨_, rfl, ot, rfl, ⟨_, ((hot.same s0).same s1).sq⟩, for_tup (K := K) (xs := xs.map V.str) (fun i σ H' => ∃ (a : Addr) (ps : List (Addr × List Str)) (v : Option V), σ = [some (.ref ot), some (.ref a), v, none] ∧ SetsL H' a ps ∧ ps.map (·.2) = subs (xs.take i) ∧ Same H H' ∧ H a = none)
      ⟨l0, [(e0, [])], none, rfl, ⟨upd_same, fun p hp => by
        rw [List.mem_singleton] at hp
        subst hp
        exact s1 _ _ upd_same⟩, rfl, s0.trans s1, fl0'⟩ (fun i σ H' _ z => by obtain ⟨_, _, _, _, _, _, sm, _⟩ := z; exact (hot.same sm).sq) ?_ ?_⟩
    · rintro i v σ H2 hi ⟨a, ps, v2, rfl, hs, hps, sm, fa⟩
      rw [List.getElem?_map] at hi
      obtain ⟨z, hz, rfl⟩ := Option.map_eq_some_iff.mp hi
      have hil : i < xs.length := (List.getElem?_eq_some_iff.mp hz).1
      have psl : ps.length ≤ 256 := by
        have := congrArg List.length hps
        rw [List.length_map, SM.subs_len, List.length_take] at this
        rw [this]
        exact pow8 (by omega)
      refine ⟨_, rfl, _, rfl, a, rfl, ⟨_, SqL.of hs.1⟩, fun D hD => lc_list (fun j H' => ∃ qs : List (Addr × List Str), SetsL H' D qs ∧ qs.map (·.2) = ((ps.take j).map (·.2)).map (· ++ [z]) ∧ Same H2 H') ⟨[], ⟨upd_same, fun p hp => nomatch hp⟩, rfl, same_new hD⟩ (fun j H' _ y => by obtain ⟨_, _, _, s3⟩ := y; exact SqL.of (s3 _ _ hs.1)) ?_ ?_⟩
      · rintro j y H3 hy ⟨qs, hq, hqs, s3⟩
        rw [List.getElem?_map] at hy
        obtain ⟨p, hp, rfl⟩ := Option.map_eq_some_iff.mp hy
        have hpm := List.mem_of_getElem? hp
        have hjl : j < ps.length := (List.getElem?_eq_some_iff.mp hp).1
        have hpt := s3 _ _ (hs.2 p hpm)
        have qsl : qs.length ≤ 256 := by
          have := congrArg List.length hqs
          rw [List.length_map, List.length_map, List.length_map, List.length_take] at this
          omega
        have nD : ∀ {b : Addr} {o : HO}, H2 b = some o → b ≠ D := fun e => ne_of_none e hD
        -- what the end of a step needs
        have fin : ∀ (H4 : Hp) (t : Addr), Same H3 H4 → H4 t = some (NT t (p.2 ++ [z])) → ∃ acc, H4 D = some (.lst acc) ∧ acc.length < sizeLine ∧ ∃ qs : List (Addr × List Str), SetsL (upd H4 D (.lst (acc ++ [.ref t]))) D qs ∧ qs.map (·.2) = ((ps.take (j + 1)).map (·.2)).map (· ++ [z]) ∧ Same H2 (upd H4 D (.lst (acc ++ [.ref t]))) := fun H4 t s4 ht => by
          have hq4 := hq.same s4
          refine ⟨_, hq4.1, by rw [List.length_map]; exact line_lt (by omega), qs ++ [(t, p.2 ++ [z])], ⟨?_, fun q hm => ?_⟩, ?_, fun b o e => ?_⟩
          · rw [upd_same, List.map_append]
            rfl
          · have nq : q.1 ≠ D := by
              rcases List.mem_append.mp hm with h | h
              · exact nt_lst (hq4.2 q h) hq4.1
              · rw [List.mem_singleton] at h
                subst h
                exact nt_lst ht hq4.1
            rw [upd_ne nq]
            rcases List.mem_append.mp hm with h | h
            · exact hq4.2 q h
            · rw [List.mem_singleton] at h
              subst h
              exact ht
          · rw [take_one hp, List.map_append, hqs, List.map_append, List.map_append]
            rfl
          · rw [upd_ne (nD e)]
            exact s4 _ _ (s3 _ _ e)
        refine ⟨rfl, ?_⟩
        refine ⟨_, rfl, _, rfl, (show 1 ≤ sizeLine by decide), fun T fT => ?_⟩
        have sT := same_new (o := NT T [z]) fT
        have pl8 : p.2.length ≤ 8 := by
          have : p.2 ∈ subs (xs.take i) := by
            rw [← hps]
            exact List.mem_map.mpr ⟨p, hpm, rfl⟩
          have := (SM.sub_of _ _ this).length_le
          rw [List.length_take] at this
          omega
        refine ⟨p.1, T, p.2.map V.str, [V.str z], rfl, rfl, SqT.of (sT _ _ hpt), SqT.of upd_same, by rw [List.length_map]; exact line_of (by show p.2.length + 1 ≤ 100000; omega), fun e2 => ?_, fun _ e3 => (nomatch e3), fun _ _ t ft => ?_⟩
        · refine fin _ T sT ?_
          have e4 : p.2 = [] := List.map_eq_nil_iff.mp e2
          rw [e4, upd_same]
          rfl
        · exact fin _ t (sT.trans (same_new ft)) (by rw [upd_same]; simp [NT])
      · rintro H3 ⟨qs, hq, hqs, s3⟩
        rw [List.length_map, List.take_length] at hqs
        have hs3 := hs.same s3
        have qsl : qs.length ≤ 256 := by
          have := congrArg List.length hqs
          rw [List.length_map, List.length_map, List.length_map] at this
          omega
        refine ⟨a, D, _, _, rfl, rfl, hs3.1, hq.1, by rw [List.length_map, List.length_map]; exact line_of (by omega), fun l fl => ?_⟩
        have sl := same_new (o := .lst ((ps.map fun p => V.ref p.1) ++ qs.map fun p => V.ref p.1)) fl
        refine ⟨l, ps ++ qs, _, rfl, ⟨?_, fun p hp => ?_⟩, ?_, (sm.trans s3).trans sl, (sm.trans s3).free fl⟩
        · rw [upd_same, List.map_append]
        · rcases List.mem_append.mp hp with h | h
          · exact sl _ _ (hs3.2 p h)
          · exact sl _ _ (hq.2 p h)
        · rw [take_one hz, SM.subs_snoc, List.map_append, hqs, hps]
    · rintro σ H2 ⟨a, ps, v2, rfl, hs, hps, sm, fa⟩
      rw [List.length_map, List.take_length] at hps
      have psl : ps.length ≤ 256 := by
        have := congrArg List.length hps
        rw [List.length_map, SM.subs_len] at this
        rw [this]
        exact pow8 l8
      refine ⟨_, rfl, a, rfl, ⟨_, SqL.of hs.1⟩, fun D hD => lc_list (fun j H' => H' D = some (.lst (((ps.take j).filter fun p => decide (2 ≤ p.2.length)).map fun p => V.ref p.1)) ∧ Same H2 H') ⟨upd_same, same_new hD⟩ (fun j H' _ y => SqL.of (y.2 _ _ hs.1)) ?_ ?_⟩
      · rintro j y H3 hy ⟨hd, s3⟩
        rw [List.getElem?_map] at hy
        obtain ⟨p, hp, rfl⟩ := Option.map_eq_some_iff.mp hy
        have hpm := List.mem_of_getElem? hp
        have hjl : j < ps.length := (List.getElem?_eq_some_iff.mp hp).1
        have hpt := s3 _ _ (hs.2 p hpm)
        refine ⟨rfl, ?_⟩
        refine ⟨_, rfl, p.1, _, rfl, .inr (SqT.of hpt), _, _, rfl, rfl, _, rfl, ?_⟩
        refine ite2 (fun hm => ?_) (fun hm => ?_)
        · have h2 : 2 ≤ p.2.length := by have := of_decide_eq_true hm; rw [List.length_map] at this; omega
          refine ⟨_, rfl, _, hd, ?_, ?_, ?_⟩
          · rw [List.length_map]
            refine line_lt (Nat.le_trans (List.length_filter_le _ _) ?_)
            rw [List.length_take]
            omega
          · rw [upd_same, take_one hp, List.filter_append, List.map_append]
            simp [h2]
          · intro b o e
            rw [upd_ne (ne_of_none e hD)]
            exact s3 b o e
        · have h2 : ¬ 2 ≤ p.2.length := fun z => hm (decide_eq_true (by rw [List.length_map]; omega))
          refine ⟨?_, s3⟩
          rw [take_one hp, List.filter_append]
          simp [h2, hd]
      · rintro H3 ⟨hd, s3⟩
        rw [List.length_map, List.take_length] at hd
        refine hQ D H3 _ (sm.trans s3) (sm.free hD) ⟨hd, fun p hp => s3 _ _ (hs.2 p (List.mem_filter.mp hp).1)⟩ ?_
        rw [← hps, List.filter_map]
        rfl
end
end K43
set_option Elab.async false
set_option linter.all false
set_option maxRecDepth 100000
set_option maxHeartbeats 4000000
namespace K43
open PySem PySem.Spec PyProof.Rows L2
open C8 (Cal Mak Met pe_c pe_mk pe_mt pe_mt0)
def rListA (K : PySem.W.Frag) : List V → Hp → VK → Prop := fun xs H Q => ∃ p ys, xs = [.ref p] ∧ (SqL K H p ys ∨ SqT K H p ys) ∧ ∀ l, H l = none → Q (.ref l) (upd H l (.lst ys))
theorem call_listA {X : Cx} : CallR X (.type "list") (rListA X.K) := call_list_of
section
variable {P : Program} {w : World} {K : PySem.W.Frag} {mg : Str → Option Value} {base : Heap} {f C CT : Addr} {fd : FuncData}
/-- a rule by the least of two names or three -/
def spSm : Sp := fun vs H Q _ => ∃ (r ot : Addr) (xs : List Str) (g : Int), vs = [.ref r] ∧ LeastR H r ot xs g ∧ 2 ≤ xs.length ∧ xs.length ≤ 3 ∧ ∀ H', Same H H' → Q (.bl true) H'
theorem ok_sm (F : Dn K d_is_small_rule f fd) (b : Bl mg) (cR : Cal P w K mg base 3 "is_rule" spRule []) : FnOk P w K mg base CX0 5 f fd ["thing"] spSm := by
  refine F.ok sc_is_small_rule (fun vs H Q E h => ?_) (fun cdv A outer s H vs Q E hr h => ?_)
  · obtain ⟨_, _, _, _, rfl, _⟩ := h
    rfl
  · obtain ⟨r, ot, xs, g, rfl, lr, l2, l3, hQ⟩ := h
    refine ⟨_, PSs.nox (pss_one (ps_ret (pe_and (pe_c cR hr (by decide) rfl (pa_cons (pv 0) pa_nil)) (pe_one (pe_chain op_le op_le pe_int (pe_callB call_len_seq rfl b.len boot_len (pa_cons (pe_ix ix_tup (pv 0) pe_int (fun _ _ => rfl)) pa_nil)) pe_int))))), ?_⟩
    refine ⟨_, rfl, r, ot, xs, g, rfl, lr, fun H1 s1 => ⟨true, rfl, iteT ?_⟩⟩
    obtain ⟨hr1, ho1, _⟩ := lr.same s1
    refine ⟨_, rfl, r, _, _, _, rfl, rfl, SqT.of hr1, rfl, ot, _, rfl, .inr ho1.sq, ?_⟩
    rw [List.length_map]
    refine ⟨_, _, rfl, rfl, _, rfl, ?_⟩
    have e1 : decide ((2 : Int) ≤ (xs.length : Nat)) = true := decide_eq_true (by omega)
    have e2 : decide (((xs.length : Nat) : Int) ≤ 3) = true := decide_eq_true (by omega)
    rw [e1]
    refine iteT ⟨_, _, rfl, rfl, ?_⟩
    show Q (V.bl (decide (((xs.length : Nat) : Int) ≤ 3))) H1
    rw [e2]
    exact hQ H1 s1
/-- nothing is refused -/
def spCl : Sp := fun vs H Q _ => ∃ (r ot : Addr) (xs : List Str) (g : Int), vs = [.ref r] ∧ LeastR H r ot xs g ∧ 2 ≤ xs.length ∧ xs.length ≤ 3 ∧ ∀ H', Same H H' → Q .non H'
theorem ok_cl (F : Dn K d_check_least f fd) (cS : Cal P w K mg base 5 "is_small_rule" spSm []) : FnOk P w K mg base CX0 6 f fd ["rule"] spCl := by
  refine F.ok sc_check_least (fun vs H Q E h => ?_) (fun cdv A outer s H vs Q E hr h => ?_)
  · obtain ⟨_, _, _, _, rfl, _⟩ := h
    rfl
  · obtain ⟨r, ot, xs, g, rfl, lr, l2, l3, hQ⟩ := h
    refine ⟨_, PSs.nox (pss_one (ps_if (PW.pt (pw_or (pt_not (pt_val (pe_c cS hr (by decide) rfl (pa_cons (pv 0) pa_nil)))) (pw_or1 (pt_cmpR op_ne (pe_ix ix_tup (pv 0) pe_int (fun _ _ => rfl)) pe_str (nomark _))))) pss_never pss_nil)), ?_⟩
    refine ⟨_, rfl, r, ot, xs, g, rfl, lr, l2, l3, fun H1 s1 => ⟨true, rfl, ?_⟩⟩
    obtain ⟨hr1, ho1, _⟩ := lr.same s1
    refine ⟨_, rfl, r, _, _, _, rfl, rfl, SqT.of hr1, rfl, rfl, _, rfl, ?_⟩
    exact iteF (hQ H1 s1)
/-- lists of names stand in a list -/
def DaysL (H : Hp) (a : Addr) (qs : List (Addr × List Str)) : Prop := H a = some (.lst (qs.map fun p => V.ref p.1)) ∧ ∀ p ∈ qs, H p.1 = some (.lst (p.2.map V.str)) ∧ p.1 ≠ a
def spRo : Sp := fun vs H Q _ => ∃ (a : Addr) (ps : List (Addr × List Str)), vs = [.ref a] ∧ H a = some (.tup (ps.map fun p => V.ref p.1)) ∧ (∀ p ∈ ps, H p.1 = some (.tup (p.2.map V.str))) ∧ ps.length ≤ 90000 ∧
  ∀ (t : Addr) (H' : Hp) (qs : List (Addr × List Str)), Same H H' → H t = none → DaysL H' t qs → (∀ q ∈ qs, H q.1 = none) → qs.map (·.2) = ps.map (·.2) → Q (.ref t) H'
theorem ok_ro (F : Dn K d_row_of f fd) (b : Bl mg) : FnOk P w K mg base CX0 1 f fd ["sets"] spRo := by
  refine F.ok sc_row_of (fun vs H Q E h => ?_) (fun cdv A outer s H vs Q E hr h => ?_)
  · obtain ⟨a, ps, rfl, _⟩ := h
    rfl
  · obtain ⟨a, ps, rfl, ha, hs, pl, hQ⟩ := h
    refine ⟨_, PSs.nox (pss_one (ps_ret (pe_lc (own := [("names", 1)]) (g := gName 1) (tt := tYes) rfl sc_row_of.nd (pi_tup (pv 0)) (blkOk_by (N := N_row_of) (sc := defScope s_row_of) (by decide +kernel))
          (fun _ _ _ _ _ => pg_name (i := 1) sc_row_of.nd rfl (Or.inl rfl)) (fun _ _ _ _ _ => pts_nil) (fun _ _ _ _ _ => pe_callTy (r := rListA K) call_listA rfl b.list boot_list (pa_cons (pv 1) pa_nil))))), ?_⟩
    refine ⟨_, rfl, a, rfl, ⟨_, SqT.of ha⟩, fun D hD => lc_tup (fun j H' => ∃ qs : List (Addr × List Str), DaysL H' D qs ∧ (∀ q ∈ qs, H q.1 = none) ∧ qs.map (·.2) = (ps.take j).map (·.2) ∧ Same H H') ⟨[], ⟨upd_same, fun p hp => nomatch hp⟩, fun p hp => (nomatch hp), rfl, same_new hD⟩ (fun j H' _ z => by obtain ⟨_, _, _, _, s3⟩ := z; exact SqT.of (s3 _ _ ha)) ?_ ?_⟩
    · rintro j v H3 hy ⟨qs, hq, hn, hqs, s3⟩
      rw [List.getElem?_map] at hy
      obtain ⟨p, hp, rfl⟩ := Option.map_eq_some_iff.mp hy
      have hpm := List.mem_of_getElem? hp
      have hjl : j < ps.length := (List.getElem?_eq_some_iff.mp hp).1
      have hpt := s3 _ _ (hs p hpm)
      have ql : qs.length ≤ 90000 := by
        have := congrArg List.length hqs
        rw [List.length_map, List.length_map, List.length_take] at this
        omega
      refine ⟨rfl, ?_⟩
      refine ⟨_, rfl, p.1, _, rfl, .inr (SqT.of hpt), fun l fl => ?_⟩
      have sl := same_new (o := .lst (p.2.map V.str)) fl
      have hD3 := sl _ _ hq.1
      have nlD : l ≠ D := (ne_of_none hq.1 fl).symm
      have fl0 : H l = none := s3.free fl
      refine ⟨_, hD3, by rw [List.length_map]; exact line_lt (by omega), qs ++ [(l, p.2)], ⟨?_, fun q hm => ?_⟩, fun q hm => ?_, ?_, fun b o e => ?_⟩
      · rw [upd_same, List.map_append]
        rfl
      · rcases List.mem_append.mp hm with h | h
        · obtain ⟨h1, h3⟩ := hq.2 q h
          exact ⟨by rw [upd_ne h3]; exact sl _ _ h1, h3⟩
        · rw [List.mem_singleton] at h
          subst h
          exact ⟨by rw [upd_ne nlD, upd_same], nlD⟩
      · rcases List.mem_append.mp hm with h | h
        · exact hn q h
        · rw [List.mem_singleton] at h
          subst h
          exact fl0
      · rw [take_one hp, List.map_append, hqs, List.map_append]
        rfl
      · rw [upd_ne (ne_of_none e hD)]
        exact sl _ _ (s3 _ _ e)
    · rintro H3 ⟨qs, hq, hn, hqs, s3⟩
      rw [List.length_map, List.take_length] at hqs
      exact hQ D H3 qs s3 hD hq hn hqs
end
end K43
set_option Elab.async false
set_option linter.all false
set_option maxRecDepth 100000
set_option maxHeartbeats 4000000
/-! MT36: credits by the least stay within their bounds. -/
namespace K43
open PySem PySem.Spec PyProof.Rows L2
/-- a sum over a list -/
def Sm (f : Str → Int) : List Str → Int
  | [] => 0
  | x :: l => f x + Sm f l
theorem Sm_add (f g : Str → Int) : ∀ l, Sm (fun x => f x + g x) l = Sm f l + Sm g l
  | [] => rfl
  | x :: l => by
    show f x + g x + Sm (fun x => f x + g x) l = f x + Sm f l + (g x + Sm g l)
    rw [Sm_add f g l]
    omega
theorem Sm_mul (k : Int) (f : Str → Int) : ∀ l, Sm (fun x => k * f x) l = k * Sm f l
  | [] => by show (0 : Int) = k * 0; omega
  | x :: l => by
    show k * f x + Sm (fun x => k * f x) l = k * (f x + Sm f l)
    rw [Sm_mul k f l, Int.mul_add]
theorem Sm_le {f g : Str → Int} : ∀ {l : List Str}, (∀ x ∈ l, f x ≤ g x) → Sm f l ≤ Sm g l
  | [], _ => Int.le_refl _
  | x :: l, h => by
    show f x + Sm f l ≤ g x + Sm g l
    have h1 := h x (List.mem_cons_self ..)
    have h2 := Sm_le (f := f) (g := g) (l := l) fun y hy => h y (List.mem_cons_of_mem _ hy)
    omega
theorem Sm_congr {f g : Str → Int} {l : List Str} (h : ∀ x ∈ l, f x = g x) : Sm f l = Sm g l :=
  Int.le_antisymm (Sm_le fun x hx => Int.le_of_eq (h x hx)) (Sm_le fun x hx => Int.le_of_eq (h x hx).symm)
theorem Sm_zero : ∀ l, Sm (fun _ => 0) l = 0
  | [] => rfl
  | _ :: l => by show 0 + Sm (fun _ => 0) l = 0; rw [Sm_zero l]; rfl
theorem Sm_len : ∀ l : List Str, Sm (fun _ => 1) l = l.length
  | [] => rfl
  | x :: l => by
    show 1 + Sm (fun _ => 1) l = ((l.length + 1 : Nat) : Int)
    rw [Sm_len l]
    omega
theorem Sm_one (v : Str → Int) {d : Str} : ∀ {l : List Str}, l.Nodup → d ∈ l → Sm (fun x => if x = d then v x else 0) l = v d
  | [], _, h => by cases h
  | x :: l, nd, h => by
    have n1 := List.nodup_cons.mp nd
    show (if x = d then v x else 0) + Sm (fun x => if x = d then v x else 0) l = v d
    by_cases e : x = d
    · have z : Sm (fun x => if x = d then v x else 0) l = Sm (fun _ => 0) l := Sm_congr fun y hy => if_neg fun q => n1.1 (by rw [e, ← q]; exact hy)
      rw [if_pos e, z, Sm_zero, e]
      omega
    · rw [if_neg e, Sm_one v n1.2 (by rcases List.mem_cons.mp h with q | q; exact absurd q.symm e; exact q)]
      omega
theorem Sm_mem {l : List Str} (nd : l.Nodup) : ∀ {R : List Str}, R.Nodup → (∀ y ∈ R, y ∈ l) → Sm (fun x => if x ∈ R then 1 else 0) l = R.length
  | [], _, _ => by
    have : Sm (fun x => if x ∈ ([] : List Str) then 1 else 0) l = Sm (fun _ => 0) l := Sm_congr fun y _ => if_neg (by simp)
    rw [this, Sm_zero]
    rfl
  | y :: R, rn, h => by
    have n1 := List.nodup_cons.mp rn
    have e : Sm (fun x => if x ∈ y :: R then 1 else 0) l = Sm (fun x => (if x = y then 1 else 0) + (if x ∈ R then 1 else 0)) l := Sm_congr fun x _ => by
      by_cases e : x = y
      · have : ¬ x ∈ R := by rw [e]; exact n1.1
        simp [e, n1.1]
      · simp [e]
    rw [e, Sm_add, Sm_one (fun _ => 1) nd (h y (List.mem_cons_self ..)), Sm_mem nd n1.2 fun z hz => h z (List.mem_cons_of_mem _ hz)]
    show 1 + (R.length : Int) = ((R.length + 1 : Nat) : Int)
    omega
/-- what p picks of f -/
def pk (p : Str → Bool) (f : Str → Int) (x : Str) : Int := if p x = true then f x else 0
theorem core {G W n m r A B U cd : Int} (hG : 0 ≤ G) (hW : 0 ≤ W) (hr : 1 ≤ r) (h1 : 2 * (G * B) ≤ 840 * (G + W) * ((m - 1) * (n - (m - 1)))) (h2 : 2 * (G * U) ≤ 840 * (G + W) * ((m + r) * (n - (m + r))))
    (h3 : A = B + cd) (h4 : G * A + r * (G * cd - 840 * W) ≤ G * U) : 2 * (G * A) ≤ 840 * (G + W) * (m * (n - m)) - 840 * (G * r) := by
  have p1 : 0 ≤ r * (840 * (G + W) * ((m - 1) * (n - (m - 1))) - 2 * (G * B)) := Int.mul_nonneg (by omega) (by omega)
  have p5 : 0 ≤ W * (r * (r - 1)) := Int.mul_nonneg hW (Int.mul_nonneg (by omega) (by omega))
  have e : (r + 1) * (840 * (G + W) * (m * (n - m)) - 840 * (G * r)) - (r + 1) * (2 * (G * A)) = r * (840 * (G + W) * ((m - 1) * (n - (m - 1))) - 2 * (G * B)) + (840 * (G + W) * ((m + r) * (n - (m + r))) - 2 * (G * U)) + 2 * (G * U - (G * A + r * (G * cd - 840 * W))) + 840 * (W * (r * (r - 1))) := by
    subst h3
    grind
  have : (r + 1) * (2 * (G * A)) ≤ (r + 1) * (840 * (G + W) * (m * (n - m)) - 840 * (G * r)) := by omega
  exact Int.le_of_mul_le_mul_left this (by omega)
/-- the bound of every set -/
structure Iv (G W : Int) (xs : List Str) (c : Str → Int) : Prop where
  z : Sm c xs = 0
  b : ∀ p : Str → Bool, 2 * (G * Sm (pk p c) xs) ≤ 840 * (G + W) * (Sm (pk p fun _ => 1) xs * ((xs.length : Int) - Sm (pk p fun _ => 1) xs))
theorem Sm_nonneg {f : Str → Int} {l : List Str} (h : ∀ x ∈ l, 0 ≤ f x) : 0 ≤ Sm f l := by
  have := Sm_le (f := fun _ => 0) (g := f) (l := l) h
  rwa [Sm_zero] at this
theorem part {k : Nat} (h1 : 1 ≤ k) (h8 : k ≤ 8) : ∃ q : Int, (840 : Int).fdiv (k : Int) = q ∧ 0 ≤ q ∧ (k : Int) * q = 840 ∧ (2 ≤ k → q ≤ 420) := by
  have : k = 1 ∨ k = 2 ∨ k = 3 ∨ k = 4 ∨ k = 5 ∨ k = 6 ∨ k = 7 ∨ k = 8 := by omega
  rcases this with rfl | rfl | rfl | rfl | rfl | rfl | rfl | rfl
  · exact ⟨840, by decide, by decide, by decide, by decide⟩
  · exact ⟨420, by decide, by decide, by decide, by decide⟩
  · exact ⟨280, by decide, by decide, by decide, by decide⟩
  · exact ⟨210, by decide, by decide, by decide, by decide⟩
  · exact ⟨168, by decide, by decide, by decide, by decide⟩
  · exact ⟨140, by decide, by decide, by decide, by decide⟩
  · exact ⟨120, by decide, by decide, by decide, by decide⟩
  · exact ⟨105, by decide, by decide, by decide, by decide⟩
theorem Iv.step {G W : Int} {xs R : List Str} {c : Str → Int} {d : Str} (I : Iv G W xs c) (hG : 0 ≤ G) (hW : 0 ≤ W) (nd : xs.Nodup) (l8 : xs.length ≤ 8) (dy : DayOk xs R) (hd : d ∈ R) (hm : ∀ i ∈ R, G * c d ≤ G * c i + 840 * W) : Iv G W xs (nxt R d c) := by
  have rpos : 1 ≤ R.length := List.length_pos_iff.mpr dy.ne
  obtain ⟨q, eq, q0, kq, q2⟩ := part rpos (by have := dy.ln; omega)
  have hdx := dy.sub d hd
  have hk := Sm_mem nd dy.nd dy.sub
  have nx : ∀ x, nxt R d c x = c x + (-q) * (if x ∈ R then 1 else 0) + 840 * (if x = d then 1 else 0) := fun x => by
    unfold nxt
    rw [eq]
    by_cases h1 : x ∈ R <;> by_cases h2 : x = d
    · rw [if_pos h1, if_pos h2, if_pos h1, if_pos h2]; omega
    · rw [if_pos h1, if_neg h2, if_pos h1, if_neg h2]; omega
    · rw [if_neg h1, if_pos h2, if_neg h1, if_pos h2]; omega
    · rw [if_neg h1, if_neg h2, if_neg h1, if_neg h2]; omega
  refine ⟨?_, fun p => ?_⟩
  · have e : Sm (nxt R d c) xs = Sm (fun x => (c x + (-q) * (if x ∈ R then 1 else 0)) + 840 * (if x = d then 1 else 0)) xs := Sm_congr fun x _ => nx x
    rw [e, Sm_add, Sm_add, Sm_mul, Sm_mul, hk, I.z, Sm_one (fun _ => 1) nd hdx]
    have : -q * (R.length : Int) = -(R.length * q) := by rw [Int.neg_mul, Int.mul_comm]
    omega
  · obtain ⟨m, hmm⟩ : ∃ m, m = Sm (pk p fun _ => 1) xs := ⟨_, rfl⟩
    obtain ⟨n, hn⟩ : ∃ n : Int, n = (xs.length : Int) := ⟨_, rfl⟩
    obtain ⟨A, hA⟩ : ∃ A, A = Sm (pk p c) xs := ⟨_, rfl⟩
    obtain ⟨j, hj⟩ : ∃ j, j = Sm (pk p fun x => if x ∈ R then 1 else 0) xs := ⟨_, rfl⟩
    obtain ⟨r, hr⟩ : ∃ r, r = Sm (pk (fun x => !p x) fun x => if x ∈ R then 1 else 0) xs := ⟨_, rfl⟩
    have hIp := I.b p
    rw [← hmm, ← hn, ← hA] at hIp
    rw [← hmm, ← hn]
    have j0 : 0 ≤ j := by rw [hj]; exact Sm_nonneg fun x _ => by simp only [pk]; split <;> (try split) <;> decide
    have r0 : 0 ≤ r := by rw [hr]; exact Sm_nonneg fun x _ => by simp only [pk]; split <;> (try split) <;> decide
    have jr : j + r = R.length := by
      rw [hj, hr, ← hk, ← Sm_add]
      exact Sm_congr fun x _ => by simp only [pk]; rcases Bool.eq_false_or_eq_true (p x) with hpx | hpx <;> simp [hpx]
    have eA : Sm (pk p (nxt R d c)) xs = A + (-q) * j + 840 * Sm (pk p fun x => if x = d then 1 else 0) xs := by
      rw [hA, hj, ← Sm_mul, ← Sm_mul, ← Sm_add, ← Sm_add]
      refine Sm_congr fun x _ => ?_
      simp only [pk]
      cases p x
      · simp
      · simp only [if_true]
        exact nx x
    have nqj : -q * j = -(q * j) := Int.neg_mul _ _
    have qj0 : 0 ≤ q * j := Int.mul_nonneg q0 j0
    cases hp : p d with
    | false =>
      have z : Sm (pk p fun x => if x = d then 1 else 0) xs = 0 := by
        have : Sm (pk p fun x => if x = d then 1 else 0) xs = Sm (fun _ => 0) xs := Sm_congr fun x _ => by
          simp only [pk]
          by_cases e : x = d
          · rw [e, hp]; rfl
          · simp [e]
        rw [this, Sm_zero]
      have le : Sm (pk p (nxt R d c)) xs ≤ A := by rw [eA, z]; omega
      have := Int.mul_le_mul_of_nonneg_left le hG
      omega
    | true =>
      have z : Sm (pk p fun x => if x = d then 1 else 0) xs = 1 := by
        have : Sm (pk p fun x => if x = d then 1 else 0) xs = Sm (fun x => if x = d then 1 else 0) xs := Sm_congr fun x _ => by
          simp only [pk]
          by_cases e : x = d
          · rw [e, hp]; rfl
          · simp [e]
        rw [this, Sm_one (fun _ => 1) nd hdx]
      have qk : q * (j + r) = 840 := by rw [jr, Int.mul_comm]; exact kq
      rw [Int.mul_add] at qk
      have eA' : Sm (pk p (nxt R d c)) xs = A + q * r := by rw [eA, z]; omega
      rw [eA']
      by_cases r1 : r = 0
      · rw [r1, Int.mul_zero, Int.add_zero]
        exact hIp
      · have j1 : 1 ≤ j := by
          have : Sm (pk p fun x => if x = d then 1 else 0) xs ≤ j := by
            rw [hj]
            refine Sm_le fun x _ => ?_
            simp only [pk]
            cases p x
            · simp
            · by_cases e : x = d
              · simp [e, hd]
              · simp only [if_true, e, if_false]
                split <;> decide
          omega
        have k2 : 2 ≤ R.length := by omega
        have q420 := q2 k2
        -- the two other sets
        have hB := I.b fun x => p x && !decide (x = d)
        have hU := I.b fun x => p x || decide (x ∈ R)
        have eB : Sm (pk (fun x => p x && !decide (x = d)) c) xs = A - c d := by
          have : A = Sm (pk (fun x => p x && !decide (x = d)) c) xs + Sm (fun x => if x = d then c x else 0) xs := by
            rw [hA, ← Sm_add]
            refine Sm_congr fun x _ => ?_
            simp only [pk]
            by_cases e : x = d
            · simp [e, hp]
            · simp [e]
          rw [Sm_one c nd hdx] at this
          omega
        have eB1 : Sm (pk (fun x => p x && !decide (x = d)) fun _ => 1) xs = m - 1 := by
          have : m = Sm (pk (fun x => p x && !decide (x = d)) fun _ => 1) xs + Sm (fun x => if x = d then 1 else 0) xs := by
            rw [hmm, ← Sm_add]
            refine Sm_congr fun x _ => ?_
            simp only [pk]
            by_cases e : x = d
            · simp [e, hp]
            · simp [e]
          rw [Sm_one (fun _ => 1) nd hdx] at this
          omega
        have eU1 : Sm (pk (fun x => p x || decide (x ∈ R)) fun _ => 1) xs = m + r := by
          rw [hmm, hr, ← Sm_add]
          refine Sm_congr fun x _ => ?_
          simp only [pk]
          rcases Bool.eq_false_or_eq_true (p x) with hpx | hpx <;> simp [hpx]
        have eU : Sm (pk (fun x => p x || decide (x ∈ R)) c) xs = A + Sm (pk (fun x => !p x && decide (x ∈ R)) c) xs := by
          rw [hA, ← Sm_add]
          refine Sm_congr fun x _ => ?_
          simp only [pk]
          rcases Bool.eq_false_or_eq_true (p x) with hpx | hpx <;> simp [hpx]
        have hT : r * (G * c d - 840 * W) ≤ G * Sm (pk (fun x => !p x && decide (x ∈ R)) c) xs := by
          rw [hr, Int.mul_comm, ← Sm_mul, ← Sm_mul]
          refine Sm_le fun x _ => ?_
          simp only [pk]
          rcases Bool.eq_false_or_eq_true (p x) with hpx | hpx
          · simp [hpx]
          · by_cases e : x ∈ R
            · have := hm x e
              simp [hpx, e]
              omega
            · simp [hpx, e]
        rw [eB, eB1, ← hn] at hB
        rw [eU, eU1, ← hn] at hU
        have c1 := core (A := A) (cd := c d) hG hW (by omega : 1 ≤ r) hB hU (by omega) (by rw [Int.mul_add]; omega)
        have p6 : 0 ≤ (G * r) * (420 - q) := Int.mul_nonneg (Int.mul_nonneg hG r0) (by omega)
        have e6 : 2 * (G * (A + q * r)) = 2 * (G * A) + 840 * (G * r) - 2 * ((G * r) * (420 - q)) := by grind
        omega
theorem Iv.init {G W : Int} {xs : List Str} (hG : 0 ≤ G) (hW : 0 ≤ W) : Iv G W xs fun _ => 0 := by
  refine ⟨Sm_zero xs, fun p => ?_⟩
  have z : Sm (pk p fun _ => 0) xs = 0 := by
    have : Sm (pk p fun _ => 0) xs = Sm (fun _ => 0) xs := Sm_congr fun x _ => by simp only [pk]; split <;> rfl
    rw [this, Sm_zero]
  rw [z, Int.mul_zero, Int.mul_zero]
  have m0 : 0 ≤ Sm (pk p fun _ => 1) xs := Sm_nonneg fun x _ => by simp only [pk]; split <;> decide
  have mn : Sm (pk p fun _ => 1) xs ≤ xs.length := by
    rw [← Sm_len xs]
    exact Sm_le fun x _ => by simp only [pk]; split <;> decide
  exact Int.mul_nonneg (by omega) (Int.mul_nonneg m0 (by omega))
/-- one name -/
theorem Iv.one {G W : Int} {xs : List Str} {c : Str → Int} {x : Str} (I : Iv G W xs c) (nd : xs.Nodup) (hx : x ∈ xs) : 2 * (G * c x) ≤ 840 * (G + W) * ((xs.length : Int) - 1) ∧ 2 * (G * -c x) ≤ 840 * (G + W) * ((xs.length : Int) - 1) := by
  constructor
  · have h := I.b fun y => decide (y = x)
    have e1 : Sm (pk (fun y => decide (y = x)) c) xs = c x := by
      rw [← Sm_one c nd hx]
      exact Sm_congr fun y _ => by simp only [pk]; simp
    have e2 : Sm (pk (fun y => decide (y = x)) fun _ => 1) xs = 1 := by
      have : Sm (pk (fun y => decide (y = x)) fun _ => 1) xs = Sm (fun y => if y = x then 1 else 0) xs := Sm_congr fun y _ => by simp only [pk]; simp
      rw [this, Sm_one (fun _ => 1) nd hx]
    rw [e1, e2, Int.one_mul] at h
    exact h
  · have h := I.b fun y => !decide (y = x)
    have e1 : Sm (pk (fun y => !decide (y = x)) c) xs = -c x := by
      have : Sm c xs = Sm (pk (fun y => !decide (y = x)) c) xs + Sm (fun y => if y = x then c y else 0) xs := by
        rw [← Sm_add]
        exact Sm_congr fun y _ => by simp only [pk]; by_cases e : y = x <;> simp [e]
      rw [Sm_one c nd hx, I.z] at this
      omega
    have e2 : Sm (pk (fun y => !decide (y = x)) fun _ => 1) xs = (xs.length : Int) - 1 := by
      have : Sm (fun _ => 1) xs = Sm (pk (fun y => !decide (y = x)) fun _ => 1) xs + Sm (fun y => if y = x then 1 else 0) xs := by
        rw [← Sm_add]
        exact Sm_congr fun y _ => by simp only [pk]; by_cases e : y = x <;> simp [e]
      rw [Sm_one (fun _ => 1) nd hx, Sm_len] at this
      omega
    rw [e1, e2] at h
    have e3 : ((xs.length : Int) - 1) * ((xs.length : Int) - ((xs.length : Int) - 1)) = (xs.length : Int) - 1 := by
      have : (xs.length : Int) - ((xs.length : Int) - 1) = 1 := by omega
      rw [this, Int.mul_one]
    rw [e3] at h
    exact h
/-- G and W by the grain -/
def gG (g : Int) : Int := if g = 0 then 1 else g
def gW (g : Int) : Int := if g = 0 then 0 else 1
theorem least_of {g : Int} (g0 : 0 ≤ g) {a b : Int} (h : cnt g a ≤ cnt g b) : gG g * a ≤ gG g * b + 840 * gW g := by
  unfold cnt at h
  unfold gG gW
  by_cases e : g = 0
  · rw [if_pos e, if_pos e] at *
    omega
  · rw [if_neg e, if_neg e] at *
    rw [Int.fdiv_eq_ediv_of_nonneg _ (by decide), Int.fdiv_eq_ediv_of_nonneg _ (by decide)] at h
    have e1 := Int.mul_comm a g
    have e2 := Int.mul_comm b g
    rw [e1, e2] at h
    omega
theorem Iv.ride {g : Int} {xs R : List Str} {c : Str → Int} {y : Str} (g0 : 0 ≤ g) (I : Iv (gG g) (gW g) xs c) (nd : xs.Nodup) (l8 : xs.length ≤ 8) (dy : DayOk xs R) (h : Drv g c xs R y) : Iv (gG g) (gW g) xs (nxt R y c) := by
  obtain ⟨i, hi, m⟩ := h
  have hy := List.mem_filter.mp (List.mem_of_getElem? hi)
  refine I.step (by unfold gG; split <;> omega) (by unfold gW; split <;> omega) nd l8 dy (of_decide_eq_true hy.2) fun z hz => least_of g0 ?_
  have hz2 : z ∈ xs.filter fun x => decide (x ∈ R) := List.mem_filter.mpr ⟨dy.sub z hz, decide_eq_true hz⟩
  obtain ⟨j, hj, e⟩ := List.mem_iff_getElem.mp hz2
  exact (m j z (by rw [List.getElem?_eq_getElem hj, e])).1
end K43
set_option Elab.async false
set_option linter.all false
set_option maxRecDepth 100000
set_option maxHeartbeats 4000000
namespace K43
open PySem PySem.Spec PyProof.Rows L2
/-- what credits rides come to -/
inductive Rch (g : Int) (xs : List Str) : (Str → Int) → Prop
  | zero : Rch g xs (fun _ => 0)
  | step {c : Str → Int} {R : List Str} {y : Str} : Rch g xs c → DayOk xs R → Drv g c xs R y → Rch g xs (nxt R y c)
/-- alike on the names -/
def Ag (xs : List Str) (c d : Str → Int) : Prop := ∀ x ∈ xs, c x = d x
theorem Ag.symm {xs : List Str} {c d : Str → Int} (h : Ag xs c d) : Ag xs d c := fun x hx => (h x hx).symm
theorem Ag.trans {xs : List Str} {c d e : Str → Int} (h : Ag xs c d) (k : Ag xs d e) : Ag xs c e := fun x hx => (h x hx).trans (k x hx)
theorem min_one {κ : Str → Int} {l : List Str} {y z : Str} (h : LK.IsMin κ l y) (k : LK.IsMin κ l z) : y = z := by
  obtain ⟨i, hi, h1⟩ := h
  obtain ⟨j, hj, k1⟩ := k
  rcases Nat.lt_trichotomy i j with q | q | q
  · have a := (k1 i y hi).2 q
    have b := (h1 j z hj).1
    omega
  · subst q
    rw [hi] at hj
    exact Option.some.inj hj
  · have a := (h1 j z hj).2 q
    have b := (k1 i y hi).1
    omega
theorem min_congr {κ κ' : Str → Int} {l : List Str} {y : Str} (e : ∀ x ∈ l, κ x = κ' x) (h : LK.IsMin κ l y) : LK.IsMin κ' l y := by
  obtain ⟨i, hi, h1⟩ := h
  refine ⟨i, hi, fun j z hj => ?_⟩
  rw [← e y (List.mem_of_getElem? hi), ← e z (List.mem_of_getElem? hj)]
  exact h1 j z hj
theorem drv_one {g : Int} {c : Str → Int} {xs R : List Str} {y z : Str} (h : Drv g c xs R y) (k : Drv g c xs R z) : y = z := min_one h k
theorem drv_ag {g : Int} {c d : Str → Int} {xs R : List Str} {y : Str} (a : Ag xs c d) (h : Drv g c xs R y) : Drv g d xs R y :=
  min_congr (fun x hx => by rw [a x (List.mem_filter.mp hx).1]) h
theorem drv_mem {g : Int} {c : Str → Int} {xs R : List Str} {y : Str} (h : Drv g c xs R y) : y ∈ xs ∧ y ∈ R := by
  obtain ⟨i, hi, _⟩ := h
  obtain ⟨h1, h2⟩ := List.mem_filter.mp (List.mem_of_getElem? hi)
  exact ⟨h1, of_decide_eq_true h2⟩
theorem nxt_ag {xs R : List Str} {y : Str} {c d : Str → Int} (a : Ag xs c d) : Ag xs (nxt R y c) (nxt R y d) := fun x hx => by
  unfold nxt
  rw [a x hx]
/-- the riders in their order -/
abbrev ino (xs R : List Str) : List Str := xs.filter fun x => decide (x ∈ R)
theorem ino_mem {xs R : List Str} (dy : DayOk xs R) (x : Str) : x ∈ ino xs R ↔ x ∈ R :=
  ⟨fun h => of_decide_eq_true (List.mem_filter.mp h).2, fun h => List.mem_filter.mpr ⟨dy.sub x h, decide_eq_true h⟩⟩
theorem ino_len {xs R : List Str} (nd : xs.Nodup) (dy : DayOk xs R) : (ino xs R).length = R.length := by
  have p : (ino xs R).Perm R := (List.perm_ext_iff_of_nodup (nd.sublist List.filter_sublist) dy.nd).mpr fun x => ino_mem dy x
  exact p.length_eq
theorem ino_idem {xs R : List Str} (dy : DayOk xs R) : ino xs (ino xs R) = ino xs R := by
  unfold ino
  exact List.filter_congr fun x hx => decide_eq_decide.mpr (ino_mem dy x)
theorem drv_ino {g : Int} {c : Str → Int} {xs R : List Str} {y : Str} (dy : DayOk xs R) (h : Drv g c xs R y) : Drv g c xs (ino xs R) y := by
  unfold Drv at h ⊢
  rw [show (xs.filter fun x => decide (x ∈ ino xs R)) = ino xs R from ino_idem dy]
  exact h
theorem nxt_ino {xs R : List Str} {y : Str} {c : Str → Int} (nd : xs.Nodup) (dy : DayOk xs R) (x : Str) : nxt (ino xs R) y c x = nxt R y c x := by
  unfold nxt
  rw [ino_len nd dy]
  by_cases h : x ∈ R
  · rw [if_pos h, if_pos ((ino_mem dy x).mpr h)]
  · rw [if_neg h, if_neg (fun z => h ((ino_mem dy x).mp z))]
/-- one alone -/
theorem nxt_alone {g : Int} {xs R : List Str} {y : Str} {c : Str → Int} (dy : DayOk xs R) (h : Drv g c xs R y) (l1 : R.length = 1) (x : Str) : nxt R y c x = c x := by
  obtain ⟨z, rfl⟩ := List.length_eq_one_iff.mp l1
  have := (drv_mem h).2
  rw [List.mem_singleton.mp this]
  unfold nxt
  by_cases e : x = z
  · subst e
    rw [if_pos (List.mem_singleton.mpr rfl), if_pos rfl]
    show c x - (840 : Int).fdiv 1 + 840 = c x
    rw [show (840 : Int).fdiv 1 = 840 by decide]
    omega
  · rw [if_neg (fun q => e (List.mem_singleton.mp q)), if_neg e]
    omega
theorem ino_day {xs R : List Str} (nd : xs.Nodup) (dy : DayOk xs R) : DayOk xs (ino xs R) := by
  refine ⟨fun z => ?_, nd.sublist List.filter_sublist, fun y hy => (List.mem_filter.mp hy).1, List.length_filter_le _ _⟩
  have := ino_len nd dy
  rw [z] at this
  exact dy.ne (List.length_eq_zero_iff.mp this.symm)
/-- what stands while rides go on -/
structure Rg (g : Int) (xs : List Str) (c : Str → Int) : Prop where
  iv : Iv (gG g) (gW g) xs c
  m : ∀ x ∈ xs, ∃ z : Int, c x = 140 * z
theorem fare_140 {k : Nat} (h1 : 1 ≤ k) (h3 : k ≤ 3) : ∃ z : Int, (840 : Int).fdiv (k : Int) = 140 * z := by
  match k, h1, h3 with
  | 1, _, _ => exact ⟨6, by decide⟩
  | 2, _, _ => exact ⟨3, by decide⟩
  | 3, _, _ => exact ⟨2, by decide⟩
  | k + 4, _, h => exact absurd h (by omega)
theorem Rg.zero {g : Int} {xs : List Str} (g0 : 0 ≤ g) : Rg g xs (fun _ => 0) := ⟨Iv.init (by unfold gG; split <;> omega) (by unfold gW; split <;> omega), fun x _ => ⟨0, rfl⟩⟩
theorem Rg.step {g : Int} {xs R : List Str} {c : Str → Int} {y : Str} (g0 : 0 ≤ g) (nd : xs.Nodup) (l3 : xs.length ≤ 3) (r : Rg g xs c) (dy : DayOk xs R) (h : Drv g c xs R y) : Rg g xs (nxt R y c) := by
  refine ⟨Iv.ride g0 r.iv nd (by omega) dy h, fun x hx => ?_⟩
  obtain ⟨z, hz⟩ := r.m x hx
  obtain ⟨k, hk⟩ := fare_140 (List.length_pos_iff.mpr dy.ne) (Nat.le_trans dy.ln l3)
  unfold nxt
  rw [hz, hk]
  refine ⟨z - (if x ∈ R then k else 0) + (if x = y then 6 else 0), ?_⟩
  split <;> split <;> omega
theorem Rch.rg {g : Int} {xs : List Str} (g0 : 0 ≤ g) (nd : xs.Nodup) (l3 : xs.length ≤ 3) {c : Str → Int} (h : Rch g xs c) : Rg g xs c := by
  induction h with
  | zero => exact Rg.zero g0
  | step _ dy d ih => exact ih.step g0 nd l3 dy d
/-- in sixths, small -/
theorem Rg.sixth {g : Int} {xs : List Str} {c : Str → Int} (g0 : 0 ≤ g) (nd : xs.Nodup) (l3 : xs.length ≤ 3) (r : Rg g xs c) {x : Str} (hx : x ∈ xs) : ∃ z : Int, c x = 140 * z ∧ -12 ≤ z ∧ z ≤ 12 := by
  obtain ⟨z, hz⟩ := r.m x hx
  obtain ⟨h1, h2⟩ := r.iv.one nd hx
  refine ⟨z, hz, ?_⟩
  have l1 : (xs.length : Int) - 1 ≤ 2 := by omega
  have l0 : 0 ≤ (xs.length : Int) - 1 := by
    have := List.length_pos_iff.mpr (List.ne_nil_of_mem hx)
    omega
  by_cases e : g = 0
  · have eG : gG g = 1 := by unfold gG; rw [if_pos e]
    have eW : gW g = 0 := by unfold gW; rw [if_pos e]
    rw [eG, eW] at h1 h2
    omega
  · have eG : gG g = g := by unfold gG; rw [if_neg e]
    have eW : gW g = 1 := by unfold gW; rw [if_neg e]
    rw [eG, eW] at h1 h2
    have g1 : 1 ≤ g := by omega
    have b : 840 * (g + 1) * ((xs.length : Int) - 1) ≤ 840 * (g + 1) * 2 := Int.mul_le_mul_of_nonneg_left l1 (by omega)
    have b1 : g * c x ≤ 840 * (g + 1) := by omega
    have b2 : g * -c x ≤ 840 * (g + 1) := by omega
    have b3 : g * c x ≤ g * 1680 := by omega
    have b4 : g * -c x ≤ g * 1680 := by omega
    have c1 := Int.le_of_mul_le_mul_left b3 (by omega)
    have c2 := Int.le_of_mul_le_mul_left b4 (by omega)
    omega
/-! ### how many there are -/
def allL (r : Nat) : Nat → List (List Nat)
  | 0 => [[]]
  | n + 1 => (List.range r).flatMap fun v => (allL r n).map fun l => v :: l
theorem allL_len (r : Nat) : ∀ n, (allL r n).length = r ^ n
  | 0 => rfl
  | n + 1 => by
    have ih := allL_len r n
    have : ∀ k : Nat, ((List.range k).flatMap fun v => (allL r n).map fun l => v :: l).length = k * r ^ n := fun k => by
      induction k with
      | zero => simp
      | succ k ihk => rw [List.range_succ, List.flatMap_append, List.length_append, ihk, Nat.succ_mul]; simp [ih]
    show ((List.range r).flatMap fun v => (allL r n).map fun l => v :: l).length = r ^ (n + 1)
    rw [this r, Nat.pow_succ, Nat.mul_comm]
theorem allL_mem {r : Nat} : ∀ {l : List Nat}, (∀ v ∈ l, v < r) → l ∈ allL r l.length
  | [], _ => List.mem_singleton.mpr rfl
  | v :: l, h => List.mem_flatMap.mpr ⟨v, List.mem_range.mpr (h v List.mem_cons_self), List.mem_map.mpr ⟨l, allL_mem fun w hw => h w (List.mem_cons_of_mem _ hw), rfl⟩⟩
theorem few_of {α : Type} [DecidableEq α] {l m : List α} (nd : l.Nodup) (h : ∀ x ∈ l, x ∈ m) : l.length ≤ m.length := by
  induction l generalizing m with
  | nil => exact Nat.zero_le _
  | cons x l ih =>
    obtain ⟨n1, n2⟩ := List.nodup_cons.mp nd
    have hx := h x List.mem_cons_self
    have e := ih (m := m.erase x) n2 fun y hy => (List.mem_erase_of_ne (fun e => n1 (by rw [← e]; exact hy))).mpr (h y (List.mem_cons_of_mem _ hy))
    rw [List.length_erase_of_mem hx] at e
    have := List.length_pos_of_mem hx
    rw [List.length_cons]
    omega
/-- rows of credits, each once: not more than so many -/
theorem few_rows {g : Int} {xs : List Str} (g0 : 0 ≤ g) (nd : xs.Nodup) (l3 : xs.length ≤ 3) {cs : List (Str → Int)} (hn : (cs.map fun c => xs.map c).Nodup) (h : ∀ c ∈ cs, Rg g xs c) : cs.length ≤ 15625 := by
  let enc : (Str → Int) → List Nat := fun c => xs.map fun x => ((c x).fdiv 140 + 12).toNat
  have sx : ∀ c ∈ cs, ∀ x ∈ xs, ∃ z : Int, c x = 140 * z ∧ -12 ≤ z ∧ z ≤ 12 := fun c hc x hx => (h c hc).sixth g0 nd l3 hx
  have fd : ∀ z : Int, (140 * z).fdiv 140 = z := fun z => Int.mul_fdiv_cancel_left z (by decide)
  have n2 : (cs.map enc).Nodup := by
    rw [List.nodup_iff_pairwise_ne, List.pairwise_map] at hn ⊢
    refine hn.imp_of_mem fun {c d} hc hd ne e => ne ?_
    refine List.map_congr_left fun x hx => ?_
    have e1 : ((c x).fdiv 140 + 12).toNat = ((d x).fdiv 140 + 12).toNat := by
      have := List.map_inj_left.mp e x hx
      exact this
    obtain ⟨z, hz, z1, z2⟩ := sx c hc x hx
    obtain ⟨v, hv, v1, v2⟩ := sx d hd x hx
    rw [hz, hv, fd, fd] at e1
    omega
  have sub : ∀ l ∈ cs.map enc, l ∈ allL 25 xs.length := fun l hl => by
    obtain ⟨c, hc, rfl⟩ := List.mem_map.mp hl
    have := allL_mem (r := 25) (l := enc c) fun v hv => by
      obtain ⟨x, hx, rfl⟩ := List.mem_map.mp hv
      obtain ⟨z, hz, z1, z2⟩ := sx c hc x hx
      rw [hz, fd]
      omega
    have el : (enc c).length = xs.length := List.length_map _
    rw [el] at this
    exact this
  have := few_of n2 sub
  rw [List.length_map, allL_len] at this
  have p : 25 ^ xs.length ≤ 25 ^ 3 := Nat.pow_le_pow_right (by decide) l3
  have e3 : 25 ^ 3 = 15625 := by decide
  omega
end K43
set_option Elab.async false
set_option linter.all false
set_option maxRecDepth 100000
set_option maxHeartbeats 4000000
/-! DTD: {k: v} with a tuple as its key. -/
namespace DTD
open PySem PySem.Spec PyProof.Rows L2
section
variable {X : Cx}
def tDisp1 (tk tv : TE) : TE := fun σ H Q => ∀ p, H p = none → tk σ (upd H p (.dT [])) fun x H1 => tv σ H1 fun y H2 => ∃ (b : Addr) (k : List Key), x = .ref b ∧ H2 b = some (.tup (k.map kV)) ∧ H2 p = some (.dT []) ∧ Q (.ref p) (upd H2 p (.dT [(k, y)]))
theorem pe_disp1 {k v : Expr} {tk tv : TE} {pos : Pos} (hu : X.A.units < cLine) (hk : PE X k tk) (hv : PE X v tv) : PE X (.Dict [some k] [v] pos) (tDisp1 tk tv) := by
  refine ⟨fun pins s σ H Q I q => ?_⟩
  have hn := I.hok.fresh (Nat.le_refl s.heap.objs.size)
  have I1 := I.laid (a := s.heap.objs.size) (o := .dT []) (h' := s.heap.push { cls := .type "dict", data := .dict #[] }) (t' := s.toks) (fun _ _ q => Heap.get?_push_of_some _ q) (Nat.le_refl _) (dt_empty s.heap I.big)
  rw [arm_eval_Dict, zip_pairTrees [some k] [v] X.env pos rfl rfl, dictDisplay_pairs (pairTrees [some k] [v] X.env pos) (fun z => by have := congrArg List.length z; rw [pairTrees_length [some k] [v] X.env pos rfl rfl] at this; cases this) (by rw [pairTrees_length [some k] [v] X.env pos rfl rfl]; show 1 < 17; decide)]
  refine wpAny_bind (wpAny_standAt (wpAny_bind (wpAny_subDictH (knd := tupleKind (mixKind X.prog X.w)) (Q := fun d s' => wpAny (model X.prog X.w) X.A (pure (Value.ref d)) _ X.xe s') hu (by rw [pairTrees_length [some k] [v] X.env pos rfl rfl]; show 1 ≤ 15; decide) ?_)))
  refine pairTrees_cons_walk (thn (hk.run pins _ σ _ _ I1 (q _ hn)) fun u s1 ⟨x, H1, I2, rx, q1⟩ => thn (hv.run pins s1 σ H1 _ I2 q1) fun w2 s2 ⟨y, H2, I3, ry, b, ks, ex, hb, hp, q2⟩ => pairTrees_nil_walk ?_)
  subst ex
  obtain rfl : u = Value.ref b := rx
  obtain ⟨z, hd, xs, rel, dd⟩ := dt_of I3.hok hp
  cases rel
  refine ⟨[(ks, b, w2)], ⟨rfl, rfl, key_of I3.hok hb, trivial⟩, dd, fun h' tk dd' hs => wpAny_pure ⟨.ref s.heap.objs.size, _, ?_, rfl, q2⟩⟩
  obtain ⟨o, es, ep, h1, h2, h3, h4, h5, h6⟩ := dd'
  have nb : b ≠ s.heap.objs.size := fun e => by rw [e, hp] at hb; cases hb
  refine d_write I3 (by rw [hp]; exact True.intro) hs ⟨o, h1⟩ ⟨by rw [sizeLine_eq]; show 1 ≤ 16777216; decide, hd, _, .cons ⟨rfl, ?_, ry⟩ .nil, o, es, ep, h1, h2, h3, h4, h6⟩
  rw [upd_ne nb]
  exact hb
end
end DTD
set_option Elab.async false
set_option linter.all false
set_option maxRecDepth 100000
set_option maxHeartbeats 4000000
namespace K43
open PySem PySem.Spec PyProof.Rows L2
open C8 (Cal Mak Met pe_c pe_mk pe_mt pe_mt0)
open LamX (Tabs ExtN TabB)
open SM (subs)
/-- a row: credits, where they stand, the tuple of what led there -/
structure Rw where
  c : Str → Int
  q : Addr
  a : Addr
  ts : List Addr
def ky (xs : List Str) (c : Str → Int) : List Key := xs.map fun x => (Sum.inl (c x) : Key)
def kvR (xs : List Str) (rows : List Rw) : List (List Key × V) := rows.map fun r => (ky xs r.c, V.ref r.a)
theorem ky_kV (xs : List Str) (c : Str → Int) : (ky xs c).map kV = xs.map fun x => V.int (c x) := by
  unfold ky
  rw [List.map_map]
  rfl
theorem ky_ag {xs : List Str} {c d : Str → Int} : ky xs c = ky xs d ↔ Ag xs c d := by
  unfold ky Ag
  rw [List.map_inj_left]
  exact ⟨fun h x hx => Sum.inl.inj (h x hx), fun h x hx => by rw [h x hx]⟩
theorem map_ag {xs : List Str} {c d : Str → Int} : xs.map c = xs.map d ↔ Ag xs c d := List.map_inj_left
theorem kvR_none {xs : List Str} {rows : List Rw} {c : Str → Int} (h : ∀ r ∈ rows, ¬ Ag xs r.c c) : valV (kvR xs rows) (ky xs c) = none := by
  induction rows with
  | nil => rfl
  | cons r rows ih =>
    show valV ((ky xs r.c, V.ref r.a) :: kvR xs rows) (ky xs c) = none
    rw [valV_neg (fun e => h r List.mem_cons_self (ky_ag.mp e))]
    exact ih fun s hs => h s (List.mem_cons_of_mem _ hs)
theorem kvR_at {xs : List Str} {rows : List Rw} {r : Rw} (nd : (rows.map fun r => xs.map r.c).Nodup) (hr : r ∈ rows) : valV (kvR xs rows) (ky xs r.c) = some (.ref r.a) := by
  induction rows with
  | nil => cases hr
  | cons s rows ih =>
    obtain ⟨n1, n2⟩ := List.nodup_cons.mp nd
    show valV ((ky xs s.c, V.ref s.a) :: kvR xs rows) (ky xs r.c) = _
    rcases List.mem_cons.mp hr with rfl | hr
    · exact valV_pos rfl
    · rw [valV_neg (fun e => n1 (List.mem_map.mpr ⟨r, hr, (map_ag.mpr (ky_ag.mp e)).symm⟩))]
      exact ih n2 hr
/-- a row stands -/
def RwOk (H : Hp) (xs : List Str) (r : Rw) : Prop := Crd H r.q xs r.c ∧ H r.a = some (.tup (r.ts.map V.ref)) ∧ ∀ t ∈ r.ts, ∃ N : List Str, H t = some (.tup (N.map V.str)) ∧ DayOk xs N
theorem RwOk.tup {H H' : Hp} {xs : List Str} {r : Rw} (h : RwOk H xs r) (k : ∀ b vs, H b = some (.tup vs) → H' b = some (.tup vs)) : RwOk H' xs r :=
  ⟨k _ _ h.1, k _ _ h.2.1, fun t ht => let ⟨N, e, dy⟩ := h.2.2 t ht; ⟨N, k _ _ e, dy⟩⟩
theorem tabs_dT {T : List (Addr × Str)} {H : Hp} {l : Addr} {xs ys : List (List Key × V)} (t : Tabs T H) (hl : H l = some (.dT xs)) : Tabs T (upd H l (.dT ys)) := by
  intro p hp
  obtain ⟨q, hq, tq, cq⟩ := t p hp
  refine ⟨q, by rw [upd_ne fun z => by rw [z, hl] at hq; cases hq]; exact hq, tq, fun pos cv e => ?_⟩
  obtain ⟨c0, e1, e2⟩ := cq pos cv e
  exact ⟨c0, e1, by rw [upd_ne fun z => by rw [z, hl] at e2; cases e2]; exact e2⟩
theorem tabs_lst {T : List (Addr × Str)} {H : Hp} {l : Addr} {xs ys : List V} (t : Tabs T H) (hl : H l = some (.lst xs)) : Tabs T (upd H l (.lst ys)) := by
  intro p hp
  obtain ⟨q, hq, tq, cq⟩ := t p hp
  refine ⟨q, by rw [upd_ne fun z => by rw [z, hl] at hq; cases hq]; exact hq, tq, fun pos cv e => ?_⟩
  obtain ⟨c0, e1, e2⟩ := cq pos cv e
  exact ⟨c0, e1, by rw [upd_ne fun z => by rw [z, hl] at e2; cases e2]; exact e2⟩
/-- what stands while rows are found -/
structure BQ (K : PySem.W.Frag) (g : Int) (xs : List Str) (r ot D W : Addr) (rows : List Rw) (H : Hp) : Prop where
  lr : LeastR H r ot xs g
  dd : H D = some (.dT (kvR xs rows))
  w : H W = some (.lst (rows.map fun r => V.ref r.q))
  ok : ∀ r ∈ rows, RwOk H xs r
  tb : Tabs (T0 K) H
/-- what is so of rows -/
structure RF (g : Int) (xs : List Str) (rows : List Rw) : Prop where
  nd : (rows.map fun r => xs.map r.c).Nodup
  rg : ∀ r ∈ rows, Rg g xs r.c
  tl : ∀ r ∈ rows, r.ts.length + 1 ≤ rows.length
/-- what follows c is there -/
def Clz (g : Int) (xs : List Str) (rows : List Rw) (c : Str → Int) (Ns : List (List Str)) : Prop := ∀ N ∈ Ns, ∀ y, Drv g c xs N y → ∃ r ∈ rows, Ag xs r.c (nxt N y c)
abbrev SS (xs : List Str) : List (List Str) := (subs xs).filter fun s => decide (2 ≤ s.length)
theorem Clz.mono {g : Int} {xs : List Str} {rows rows' : List Rw} {c : Str → Int} {Ns : List (List Str)} (h : Clz g xs rows c Ns) (s : ∀ r ∈ rows, r ∈ rows') : Clz g xs rows' c Ns := fun N hN y hy => let ⟨r, hr, a⟩ := h N hN y hy; ⟨r, s r hr, a⟩
theorem ss_day {xs N : List Str} (nd : xs.Nodup) (h : N ∈ SS xs) : DayOk xs N := by
  obtain ⟨h1, h2⟩ := List.mem_filter.mp h
  have sl := SM.sub_of xs N h1
  have l2 : 2 ≤ N.length := of_decide_eq_true h2
  exact ⟨fun z => by rw [z] at l2; exact absurd l2 (by decide), nd.sublist sl, fun y hy => sl.subset hy, sl.length_le⟩
/-- all that is reached is there -/
theorem all_there {g : Int} {xs : List Str} {rows : List Rw} (nd : xs.Nodup) (h0 : ∃ r ∈ rows, Ag xs r.c fun _ => 0) (cl : ∀ r ∈ rows, Clz g xs rows r.c (SS xs)) {c : Str → Int} (h : Rch g xs c) : ∃ r ∈ rows, Ag xs r.c c := by
  induction h with
  | zero => exact h0
  | @step c R y hc dy hd ih =>
    obtain ⟨r, hr, a⟩ := ih
    by_cases l1 : R.length = 1
    · exact ⟨r, hr, fun x hx => by rw [nxt_alone dy hd l1 x]; exact a x hx⟩
    · have l2 : 2 ≤ R.length := by have := List.length_pos_iff.mpr dy.ne; omega
      have hN : ino xs R ∈ SS xs := List.mem_filter.mpr ⟨SM.of_filter _ _, decide_eq_true (by rw [ino_len nd dy]; exact l2)⟩
      obtain ⟨r2, hr2, a2⟩ := cl r hr _ hN y (drv_ag a.symm (drv_ino dy hd))
      exact ⟨r2, hr2, a2.trans fun x hx => by rw [nxt_ino nd dy x]; exact nxt_ag a x hx⟩
section
variable {P : Program} {w : World} {K : PySem.W.Frag} {mg : Str → Option Value} {base : Heap} {f C CT : Addr} {fd : FuncData}
variable {g : Int} {xs : List Str} {r ot D W : Addr} {rows : List Rw} {H H' : Hp}
theorem BQ.extN (m : BQ K g xs r ot D W rows H) (e : ExtN H H') (t : Tabs (T0 K) H') : BQ K g xs r ot D W rows H' :=
  ⟨m.lr.extN e, e _ _ m.dd fun _ q => (nomatch q), e _ _ m.w fun _ q => (nomatch q), fun s hs => (m.ok s hs).tup fun b vs h => e _ _ h fun _ q => (nomatch q), t⟩
theorem BQ.same (m : BQ K g xs r ot D W rows H) (e : Same H H') : BQ K g xs r ot D W rows H' := m.extN (ExtN.of e) (m.tb.ext e)
theorem BQ.add (m : BQ K g xs r ot D W rows H) {s : Rw} (ok : RwOk H xs s) : BQ K g xs r ot D W (rows ++ [s]) (upd (upd H D (.dT (kvR xs rows ++ [(ky xs s.c, V.ref s.a)]))) W (.lst ((rows.map fun r => V.ref r.q) ++ [V.ref s.q]))) := by
  have nDW : D ≠ W := ne_of m.dd m.w (by intro z; cases z)
  have k : ∀ b vs, H b = some (.tup vs) → (upd (upd H D (.dT (kvR xs rows ++ [(ky xs s.c, V.ref s.a)]))) W (.lst ((rows.map fun r => V.ref r.q) ++ [V.ref s.q]))) b = some (.tup vs) := fun b vs e => by
    rw [upd_ne (ne_of e m.w (by intro z; cases z)), upd_ne (ne_of e m.dd (by intro z; cases z))]
    exact e
  have w1 : (upd H D (.dT (kvR xs rows ++ [(ky xs s.c, V.ref s.a)]))) W = some (.lst (rows.map fun r => V.ref r.q)) := by rw [upd_ne nDW.symm]; exact m.w
  refine ⟨m.lr.ext (fun a ys z => k _ _ z) (fun a od ys z => by rw [upd_ne (ne_of z m.w (by intro q; cases q)), upd_ne (ne_of z m.dd (by intro q; cases q))]; exact z), ?_, ?_, fun s' hs => ?_, tabs_lst (tabs_dT m.tb m.dd) w1⟩
  · rw [upd_ne nDW, upd_same]
    unfold kvR
    rw [List.map_append]
    rfl
  · rw [upd_same, List.map_append]
    rfl
  · rcases List.mem_append.mp hs with h | h
    · exact (m.ok s' h).tup k
    · rw [List.mem_singleton.mp h]
      exact ok.tup k
theorem RF.add {s : Rw} (h : RF g xs rows) (new : ∀ r ∈ rows, ¬ Ag xs r.c s.c) (rg : Rg g xs s.c) (tl : s.ts.length ≤ rows.length) : RF g xs (rows ++ [s]) := by
  refine ⟨?_, fun r hr => ?_, fun r hr => ?_⟩
  · rw [List.map_append, List.nodup_append]
    refine ⟨h.nd, by simp, fun a ha b hb e => ?_⟩
    obtain ⟨r, hr, rfl⟩ := List.mem_map.mp ha
    have hb := List.mem_singleton.mp hb
    rw [hb] at e
    exact new r hr (map_ag.mp e)
  · rcases List.mem_append.mp hr with q | q
    · exact h.rg r q
    · rw [List.mem_singleton.mp q]
      exact rg
  · rw [List.length_append]
    show _ + 1 ≤ rows.length + 1
    rcases List.mem_append.mp hr with q | q
    · have := h.tl r q
      omega
    · rw [List.mem_singleton.mp q]
      omega
theorem RF.few (h : RF g xs rows) (g0 : 0 ≤ g) (nd : xs.Nodup) (l3 : xs.length ≤ 3) : rows.length ≤ 15625 := by
  have := few_rows (cs := rows.map (·.c)) g0 nd l3 (by rw [List.map_map]; exact h.nd) (fun c hc => by obtain ⟨r, hr, rfl⟩ := List.mem_map.mp hc; exact h.rg r hr)
  rwa [List.length_map] at this
theorem SetsL.extN {a : Addr} {ps : List (Addr × List Str)} (h : SetsL H a ps) (e : ExtN H H') : SetsL H' a ps := ⟨e _ _ h.1 fun _ q => (nomatch q), fun p hp => e _ _ (h.2 p hp) fun _ q => (nomatch q)⟩
/-- all rows there are -/
structure Full (g : Int) (xs : List Str) (rows : List Rw) : Prop extends RF g xs rows where
  h0 : ∃ r ∈ rows, Ag xs r.c fun _ => 0
  cl : ∀ r ∈ rows, Clz g xs rows r.c (SS xs)
def spRt (K : PySem.W.Frag) : Sp := fun vs H Q _ => ∃ (r ot : Addr) (xs : List Str) (g : Int), vs = [.ref r] ∧ LeastR H r ot xs g ∧ 2 ≤ xs.length ∧ xs.length ≤ 3 ∧ Tabs (T0 K) H ∧
  ∀ (D : Addr) (rows : List Rw) (H' : Hp), ExtN H H' → Tabs (T0 K) H' → H D = none → H' D = some (.dT (kvR xs rows)) → (∀ s ∈ rows, RwOk H' xs s) → Full g xs rows → Q (.ref D) H'
theorem ok_rt (F : Dn K d_rows_to f fd) (b : Bl mg) (cFm : Cal P w K mg base 1 "first_memory" spFm []) (cSo : Cal P w K mg base 1 "sets_of" spSo []) (cMb : Cal P w K mg base 5 "memory_behind" (spMb K) []) : FnOk P w K mg base CX0 6 f fd ["rule"] (spRt K) := by
  refine F.ok sc_rows_to (fun vs H Q E h => ?_) (fun cdv A outer s H vs Q E hr h => ?_)
  · obtain ⟨_, _, _, _, rfl, _⟩ := h
    rfl
  · obtain ⟨r, ot, xs, g, rfl, lr, l2, l3, tabs, hQ⟩ := h
    have hu := hu_of hr
    have ox := lr.2.2.1
    have g0 := lr.2.2.2.1
    have nd := ox.nd
    refine ⟨_, PSs.nox (pss_cons (ps_set (i := 1) sc_rows_to.nd rfl (.inl rfl) (pe_c cFm hr (by decide) rfl (pa_cons (pv 0) pa_nil)))
      (pss_cons (ps_set (i := 2) sc_rows_to.nd rfl (.inl rfl) (DTD.pe_disp1 (Nat.lt_of_succ_lt hu) (pv 1) (pe_tup pa_nil)))
      (pss_cons (ps_set (i := 3) sc_rows_to.nd rfl (.inl rfl) (pe_lst (pa_cons (pv 1) pa_nil)))
      (pss_cons (ps_set (i := 4) sc_rows_to.nd rfl (.inl rfl) pe_int)
      (pss_cons (ps_while PassesOwn.never (pt_cmpR op_lt (pv 4) (pe_callB call_len_seq rfl b.len boot_len (pa_cons (pv 3) pa_nil)) (nomark _))
        (pss_cons (ps_set (i := 5) sc_rows_to.nd rfl (.inl rfl) (pe_ix ix_list (pv 3) (pv 4) (fun _ _ => rfl)))
        (pss_cons (ps_for PassesOwn.never rfl (pi_list (pe_c cSo hr (by decide) rfl (pa_cons (pe_ix ix_tup (pv 0) pe_int (fun _ _ => rfl)) pa_nil))) (pg_name (i := 6) sc_rows_to.nd rfl (.inl rfl))
          (pss_cons (ps_set (i := 7) sc_rows_to.nd rfl (.inl rfl) (pe_c cMb hr (by decide) rfl (pa_cons (pv 0) (pa_cons (pv 5) (pa_cons (pv 6) pa_nil)))))
          (pss_one (ps_if (pt_cmp (pc_dnotin hu (pv 7) (pv 2)))
            (pss_cons (ps_dput hu (pv 2) (pv 7) (pe_op op_catA (pe_dget hu (pv 2) (pv 5) (fun _ _ => rfl)) (pe_tup (pa_cons (pv 6) pa_nil))) rfl)
            (pss_one (ps_expr (pe_bm PySem.F.plainAttrs_list PySem.F.slot_list_append PySem.F.type_list_append mt_append (pv 3) (pa_cons (pv 7) pa_nil))))) pss_nil))))
        (pss_one (ps_aug (i := 4) sc_rows_to.nd rfl (.inl rfl) pe_int ip_add)))))
      (pss_one (ps_ret (pv 2)))))))), ?_⟩
    refine ⟨_, rfl, r, ot, xs, g, rfl, lr, fun q0 H1 s1 fq hq => ?_⟩
    refine fun D fD => ?_
    refine ⟨_, rfl, by show 0 ≤ sizeLine; decide, fun e0 fe => ?_⟩
    have sD := same_new (o := .dT []) fD
    have se := same_new (o := .tup []) fe
    have hqD := se _ _ (sD _ _ hq)
    have hDe : (upd (upd H1 D (.dT [])) e0 (.tup [])) D = some (.dT []) := se _ _ upd_same
    have hee : (upd (upd H1 D (.dT [])) e0 (.tup [])) e0 = some (.tup []) := upd_same
    have s2 := (s1.trans sD).trans se
    have fD0 : H D = none := s1.free fD
    generalize upd (upd H1 D (.dT [])) e0 (.tup []) = H2 at hqD hDe hee s2 ⊢
    refine ⟨q0, ky xs fun _ => 0, rfl, by rw [ky_kV]; exact hqD, hDe, ?_⟩
    refine ⟨_, rfl, by show 1 ≤ sizeLine; decide, fun W fW => ?_⟩
    have nDW : D ≠ W := fun z => by rw [← z, upd_same] at fW; cases fW
    have fW2 : H2 W = none := by rw [upd_ne nDW.symm] at fW; exact fW
    have fW0 : H W = none := s2.free fW2
    have e3 : ExtN H (upd (upd H2 D (.dT [(ky xs fun _ => 0, .ref e0)])) W (.lst [.ref q0])) := fun b o hb hn => by
      rw [upd_ne (ne_of_none hb fW0), upd_ne (ne_of_none hb fD0)]
      exact s2 _ _ hb
    have t3 : Tabs (T0 K) (upd (upd H2 D (.dT [(ky xs fun _ => 0, .ref e0)])) W (.lst [.ref q0])) := (tabs_dT (tabs.ext s2) hDe).ext (same_new fW)
    have bq3 : BQ K g xs r ot D W [⟨fun _ => 0, q0, e0, []⟩] (upd (upd H2 D (.dT [(ky xs fun _ => 0, .ref e0)])) W (.lst [.ref q0])) := by
      have k : ∀ b vs, H2 b = some (.tup vs) → (upd (upd H2 D (.dT [(ky xs fun _ => 0, .ref e0)])) W (.lst [.ref q0])) b = some (.tup vs) := fun b vs e => by
        rw [upd_ne (ne_of_none e fW2), upd_ne (ne_of e hDe (by intro z; cases z))]
        exact e
      refine ⟨lr.extN e3, by rw [upd_ne nDW, upd_same]; rfl, upd_same, fun s hs => ?_, t3⟩
      rw [List.mem_singleton.mp hs]
      exact ⟨k _ _ hqD, k _ _ hee, fun t ht => nomatch ht⟩
    have rf3 : RF g xs [⟨fun _ => 0, q0, e0, []⟩] := ⟨by simp, fun s hs => by rw [List.mem_singleton.mp hs]; exact Rg.zero g0, fun s hs => by rw [List.mem_singleton.mp hs]; exact Nat.le_refl _⟩
    generalize upd (upd H2 D (.dT [(ky xs fun _ => 0, .ref e0)])) W (.lst [.ref q0]) = H3 at e3 bq3 ⊢
    refine while_by (fun σ H' => ∃ (i : Nat) (v5 v6 v7 : Option V) (rows : List Rw), σ = [some (.ref r), some (.ref q0), some (.ref D), some (.ref W), some (.int (i : Int)), v5, v6, v7] ∧ BQ K g xs r ot D W rows H' ∧ RF g xs rows ∧ ExtN H H' ∧ (∃ s ∈ rows, Ag xs s.c fun _ => 0) ∧ i ≤ rows.length ∧ ∀ j s, j < i → rows[j]? = some s → Clz g xs rows s.c (SS xs))
      (fun σ _ => match σ with | [_, _, _, _, some (.int i), _, _, _] => (15625 - i).toNat | _ => 0) ⟨0, _, _, _, _, rfl, bq3, rf3, e3, ⟨_, List.mem_singleton.mpr rfl, fun _ _ => rfl⟩, Nat.zero_le _, fun j s hj => absurd hj (Nat.not_lt_zero _)⟩ ?_ ?_
    · rintro σ H4 ⟨i, v5, v6, v7, rows, rfl, bq, rf, eN, h0, il, cl⟩
      have few := rf.few g0 nd l3
      refine ⟨_, rfl, _, rfl, W, _, rfl, .inl (SqL.of bq.w), _, _, rfl, rfl, _, rfl, ?_⟩
      rw [List.length_map]
      refine ite2 (fun c1 => ?_) (fun c1 => ?_)
      · have ilt : i < rows.length := by have := of_decide_eq_true c1; omega
        obtain ⟨r0, hr0⟩ : ∃ r0, rows[i]? = some r0 := ⟨_, List.getElem?_eq_getElem ilt⟩
        refine ⟨_, rfl, _, rfl, W, _, _, _, rfl, rfl, SqL.of bq.w, atI_nat (by rw [List.getElem?_map, hr0]; rfl), ?_⟩
        refine ⟨_, rfl, r, _, _, _, rfl, rfl, SqT.of bq.lr.1, rfl, ot, xs, rfl, bq.lr.2.1, by omega, fun sa H5 ps s5 fsa hs hps => ?_⟩
        have fsaW : sa ≠ W := (ne_of_none bq.w fsa).symm
        have hr0m := List.mem_of_getElem? hr0
        refine ⟨sa, rfl, ⟨_, SqL.of hs.1⟩, for_list (K := K) (xs := ps.map fun p => V.ref p.1) (fun k σ H' => ∃ (v6 v7 : Option V) (rows' : List Rw), σ = [some (.ref r), some (.ref q0), some (.ref D), some (.ref W), some (.int (i : Int)), some (.ref r0.q), v6, v7] ∧ BQ K g xs r ot D W rows' H' ∧ RF g xs rows' ∧ ExtN H H' ∧ rows <+: rows' ∧ SetsL H' sa ps ∧ Clz g xs rows' r0.c ((ps.take k).map (·.2)))
          ⟨_, _, rows, rfl, bq.same s5, rf, eN.trans (ExtN.of s5), List.prefix_refl _, hs, fun N hN => by simp at hN⟩ (fun k σ H' _ z => by obtain ⟨_, _, _, _, _, _, _, _, z, _⟩ := z; exact SqL.of z.1) ?_ ?_⟩
        · rintro k v σ H6 hv ⟨v6, v7, rows', rfl, bq6, rf6, e6, pre, hs6, cls⟩
          rw [List.getElem?_map] at hv
          obtain ⟨p, hp, rfl⟩ := Option.map_eq_some_iff.mp hv
          have hpm := List.mem_of_getElem? hp
          have hN : p.2 ∈ SS xs := by show p.2 ∈ (subs xs).filter fun s => decide (2 ≤ s.length); rw [← hps]; exact List.mem_map.mpr ⟨p, hpm, rfl⟩
          have dy := ss_day nd hN
          have r0m : r0 ∈ rows' := pre.subset hr0m
          have few6 := rf6.few g0 nd l3
          refine ⟨_, rfl, _, rfl, _, rfl, r, ot, r0.q, p.1, xs, p.2, g, r0.c, rfl, bq6.lr, (bq6.ok r0 r0m).1, .inr (hs6.2 p hpm), dy, bq6.tb, fun t H7 y e7 t7 hy hc => ?_⟩
          have bq7 := bq6.extN e7 t7
          have hs7 := hs6.extN e7
          have hct : H7 t = some (.tup ((ky xs (nxt p.2 y r0.c)).map kV)) := by rw [ky_kV]; exact hc
          have et : (ps.take (k + 1)).map (·.2) = (ps.take k).map (·.2) ++ [p.2] := by rw [take_one hp, List.map_append]; rfl
          refine ⟨_, rfl, _, rfl, D, _, rfl, DGet.t bq7.dd hct, ?_⟩
          by_cases there : ∃ s ∈ rows', Ag xs s.c (nxt p.2 y r0.c)
          · obtain ⟨s', hs', ag⟩ := there
            have ev : valV (kvR xs rows') (ky xs (nxt p.2 y r0.c)) = some (.ref s'.a) := by
              rw [← ky_ag.mpr ag]
              exact kvR_at rf6.nd hs'
            rw [ev]
            refine ⟨_, rfl, iteF ?_⟩
            refine ⟨_, _, rows', rfl, bq7, rf6, e6.trans e7, pre, hs7, fun N hN' y' hy' => ?_⟩
            rw [et] at hN'
            rcases List.mem_append.mp hN' with h | h
            · exact cls N h y' hy'
            · have h := List.mem_singleton.mp h
              subst h
              rw [drv_one hy' hy]
              exact ⟨s', hs', ag⟩
          · have nw : ∀ s ∈ rows', ¬ Ag xs s.c (nxt p.2 y r0.c) := fun s hs z => there ⟨s, hs, z⟩
            rw [kvR_none nw]
            refine ⟨_, rfl, iteT ?_⟩
            have hk0 : H7 r0.q = some (.tup ((ky xs r0.c).map kV)) := by rw [ky_kV]; exact (bq7.ok r0 r0m).1
            have dg := DGet.t bq7.dd hk0
            rw [kvR_at rf6.nd r0m] at dg
            refine ⟨_, rfl, _, rfl, D, _, rfl, dg, ?_⟩
            refine ⟨_, rfl, by show 1 ≤ sizeLine; decide, fun tp ftp => ?_⟩
            have stp := same_new (o := .tup [.ref p.1]) ftp
            have htl := rf6.tl r0 r0m
            have fin : ∀ (na : Addr) (H8 : Hp), Same H7 H8 → H8 na = some (.tup ((r0.ts ++ [p.1]).map V.ref)) →
                ∃ (v6 v7 : Option V) (rows'' : List Rw), [some (.ref r), some (.ref q0), some (.ref D), some (.ref W), some (.int (i : Int)), some (.ref r0.q), some (.ref p.1), some (.ref t)] = [some (.ref r), some (.ref q0), some (.ref D), some (.ref W), some (.int (i : Int)), some (.ref r0.q), v6, v7] ∧
                  BQ K g xs r ot D W rows'' (upd (upd H8 D (.dT (kvR xs rows' ++ [(ky xs (nxt p.2 y r0.c), V.ref na)]))) W (.lst ((rows'.map fun r => V.ref r.q) ++ [V.ref t]))) ∧ RF g xs rows'' ∧ ExtN H (upd (upd H8 D (.dT (kvR xs rows' ++ [(ky xs (nxt p.2 y r0.c), V.ref na)]))) W (.lst ((rows'.map fun r => V.ref r.q) ++ [V.ref t]))) ∧ rows <+: rows'' ∧
                  SetsL (upd (upd H8 D (.dT (kvR xs rows' ++ [(ky xs (nxt p.2 y r0.c), V.ref na)]))) W (.lst ((rows'.map fun r => V.ref r.q) ++ [V.ref t]))) sa ps ∧ Clz g xs rows'' r0.c ((ps.take (k + 1)).map (·.2)) := fun na H8 s8 hna => by
              have bq8 := bq7.same s8
              have hs8 := hs7.same s8
              have ok8 : RwOk H8 xs ⟨nxt p.2 y r0.c, t, na, r0.ts ++ [p.1]⟩ := by
                refine ⟨s8 _ _ hc, hna, fun z hz => ?_⟩
                rcases List.mem_append.mp hz with h | h
                · exact (bq8.ok r0 r0m).2.2 z h
                · rw [List.mem_singleton.mp h]
                  exact ⟨p.2, hs8.2 p hpm, dy⟩
              refine ⟨_, _, rows' ++ [⟨nxt p.2 y r0.c, t, na, r0.ts ++ [p.1]⟩], rfl, bq8.add ok8, rf6.add nw ((rf6.rg r0 r0m).step g0 nd l3 dy hy) (by rw [List.length_append]; exact htl), fun b o hb hn => ?_, pre.trans (List.prefix_append _ _), ⟨?_, fun z hz => ?_⟩, fun N hN' y' hy' => ?_⟩
              · rw [upd_ne (ne_of_none hb fW0), upd_ne (ne_of_none hb fD0)]
                exact ((e6.trans e7).trans (ExtN.of s8)) _ _ hb hn
              · rw [upd_ne fsaW, upd_ne (ne_of hs8.1 bq8.dd (by intro z; cases z))]
                exact hs8.1
              · rw [upd_ne (ne_of (hs8.2 z hz) bq8.w (by intro z; cases z)), upd_ne (ne_of (hs8.2 z hz) bq8.dd (by intro z; cases z))]
                exact hs8.2 z hz
              · rw [et] at hN'
                rcases List.mem_append.mp hN' with h | h
                · obtain ⟨s', h1, h2⟩ := cls N h y' hy'
                  exact ⟨s', List.mem_append_left _ h1, h2⟩
                · have h := List.mem_singleton.mp h
                  subst h
                  rw [drv_one hy' hy]
                  exact ⟨_, List.mem_append_right _ (List.mem_singleton.mpr rfl), fun _ _ => rfl⟩
            have put : ∀ (na : Addr) (H8 : Hp), Same H7 H8 → H8 na = some (.tup ((r0.ts ++ [p.1]).map V.ref)) → DPut H8 D (.ref t) (.ref na) (upd H8 D (.dT (kvR xs rows' ++ [(ky xs (nxt p.2 y r0.c), V.ref na)]))) ∧ (upd H8 D (.dT (kvR xs rows' ++ [(ky xs (nxt p.2 y r0.c), V.ref na)]))) W = some (.lst (rows'.map fun r => V.ref r.q)) := fun na H8 s8 hna => by
              have bq8 := bq7.same s8
              refine ⟨?_, by rw [upd_ne nDW.symm]; exact bq8.w⟩
              have z := DPut.t (v := .ref na) bq8.dd (s8 _ _ hct) (by unfold kvR; rw [List.length_map]; exact line_lt (by omega))
              rw [putK_new _ (kvR_none nw)] at z
              exact z
            have wl : (rows'.map fun r => V.ref r.q).length < sizeLine := by rw [List.length_map]; exact line_lt (by omega)
            refine ⟨r0.a, tp, r0.ts.map V.ref, [.ref p.1], rfl, rfl, SqT.of (stp _ _ (bq7.ok r0 r0m).2.1), SqT.of upd_same, by rw [List.length_map]; exact line_of (by show r0.ts.length + 1 ≤ _; omega), fun z0 => ?_, fun _ z1 => (nomatch z1), fun _ _ na fna => ?_⟩
            · have z2 : r0.ts = [] := List.map_eq_nil_iff.mp z0
              have hna : (upd H7 tp (.tup [.ref p.1])) tp = some (.tup ((r0.ts ++ [p.1]).map V.ref)) := by rw [upd_same, z2]; rfl
              obtain ⟨p1, p2⟩ := put tp _ stp hna
              exact ⟨_, rfl, _, rfl, D, _, rfl, p1, _, rfl, Or.inl ⟨rfl, _, SqL.of p2⟩, _, rfl, W, _, _, rfl, rfl, p2, wl, fin tp _ stp hna⟩
            · have sna := same_new (o := .tup (r0.ts.map V.ref ++ [.ref p.1])) fna
              have s8 := stp.trans sna
              have hna : (upd (upd H7 tp (.tup [.ref p.1])) na (.tup (r0.ts.map V.ref ++ [.ref p.1]))) na = some (.tup ((r0.ts ++ [p.1]).map V.ref)) := by rw [upd_same, List.map_append]; rfl
              obtain ⟨p1, p2⟩ := put na _ s8 hna
              exact ⟨_, rfl, _, rfl, D, _, rfl, p1, _, rfl, Or.inl ⟨rfl, _, SqL.of p2⟩, _, rfl, W, _, _, rfl, rfl, p2, wl, fin na _ s8 hna⟩
        · rintro σ H6 ⟨v6, v7, rows', rfl, bq6, rf6, e6, pre, hs6, cls⟩
          rw [List.length_map, List.take_length, hps] at cls
          have few6 := rf6.few g0 nd l3
          refine ⟨_, rfl, _, _, rfl, rfl, ⟨i + 1, _, _, _, rows', rfl, bq6, rf6, e6, ?_, by have := pre.length_le; omega, fun j s hj hs => ?_⟩, ?_⟩
          · obtain ⟨s, hs, a⟩ := h0
            exact ⟨s, pre.subset hs, a⟩
          · by_cases e : j = i
            · subst e
              have e2 : rows'[j]? = some r0 := by
                obtain ⟨tl, rfl⟩ := pre
                rw [List.getElem?_append_left ilt]
                exact hr0
              rw [e2] at hs
              cases hs
              exact cls
            · have jl : j < rows.length := by omega
              have e2 : rows[j]? = some s := by
                obtain ⟨tl, rfl⟩ := pre
                rw [List.getElem?_append_left jl] at hs
                exact hs
              exact (cl j s (by omega) e2).mono fun z hz => pre.subset hz
          · show (15625 - ((i : Int) + 1)).toNat < (15625 - (i : Int)).toNat
            omega
      · have ie : i = rows.length := by
          have : ¬ (i : Int) < (rows.length : Nat) := fun z => c1 (decide_eq_true z)
          omega
        refine ⟨_, rfl, hQ D rows H4 eN bq.tb fD0 bq.dd bq.ok ⟨rf, h0, fun s hs => ?_⟩⟩
        obtain ⟨j, hj, e⟩ := List.mem_iff_getElem.mp hs
        exact cl j s (by omega) (by rw [List.getElem?_eq_getElem hj, e])
    · rintro σ H2 Q1 Q2 hm ⟨v, hv, u, hu, p, ys, e1, e2, a1, a2, e3, e4, k, hk, q⟩
      exact ⟨v, hv, u, hu, p, ys, e1, e2, a1, a2, e3, e4, k, hk, hm _ _ q⟩
end
end K43
set_option Elab.async false
set_option linter.all false
set_option maxRecDepth 100000
set_option maxHeartbeats 4000000
/-! MXL: max and min of a list of whole numbers. -/
namespace MXL
open PySem PySem.Spec PyProof.Rows L2
theorem vals_its : ∀ {ns : List Int} {its : List Value}, Vals (ns.map V.int) its → ∃ ps : List (Int × Tok), ps.map (·.1) = ns ∧ its = ps.map fun p => Value.int p.1 p.2
  | [], _, r => by
    cases r
    exact ⟨[], rfl, rfl⟩
  | n :: ns, _, r => by
    rw [List.map_cons] at r
    cases r with
    | @cons a b as bs h t =>
      obtain ⟨ps, e1, e2⟩ := vals_its t
      obtain ⟨tk, rfl⟩ := h
      exact ⟨(n, tk) :: ps, by rw [List.map_cons, e1], by rw [List.map_cons, e2]⟩
theorem num_at {ps : List (Int × Tok)} {i : Nat} {x : Int} (h : (ps.map (·.1))[i]? = some x) : numAt ps.toArray i = x := by
  rw [List.getElem?_map] at h
  obtain ⟨p, hp, rfl⟩ := Option.map_eq_some_iff.mp h
  unfold numAt
  simp [hp]
section
variable {X : Cx}
def rMaxI (K : PySem.W.Frag) : List V → Hp → VK → Prop := fun vs H Q => ∃ (p : Addr) (ns : List Int), vs = [.ref p] ∧ SqL K H p (ns.map V.int) ∧ ns ≠ [] ∧ ∀ m ∈ ns, (∀ x ∈ ns, x ≤ m) → Q (.int m) H
def rMinI (K : PySem.W.Frag) : List V → Hp → VK → Prop := fun vs H Q => ∃ (p : Addr) (ns : List Int), vs = [.ref p] ∧ SqL K H p (ns.map V.int) ∧ ns ≠ [] ∧ ∀ m ∈ ns, (∀ x ∈ ns, m ≤ x) → Q (.int m) H
theorem call_maxI (hc : X.calm = true) : CallR X (.builtin "max") (rMaxI X.K) := by
  intro pins s σ H vs us Q I r h
  obtain ⟨p, ns, rfl, hs, ne, q⟩ := h
  obtain ⟨its, rv, hl, _⟩ := I.list hs
  rw [Vals.ref1 r]
  obtain ⟨ps, e1, rfl⟩ := vals_its rv
  have ei : intItems ps.toArray = (ps.map fun p => Value.int p.1 p.2).toArray := by simp [intItems]
  have pl : 0 < ps.length := by
    cases ps with
    | nil => exact absurd e1.symm ne
    | cons _ _ => simp
  refine max_intList (xs := ps.toArray) (I.ok.hd hc) (by rw [ei]; exact hl.isList) (by simpa using pl) fun v h' tk e k => ?_
  have ef : (fun i j => decide (numAt ps.toArray i > numAt ps.toArray j)) = fun i j => decide (-(numAt ps.toArray i) < -(numAt ps.toArray j)) := by
    funext i j
    exact decide_eq_decide.mpr (by omega)
  rw [ef] at e
  obtain ⟨b1, b2⟩ := LK.best_min (fun i => -(numAt ps.toArray i)) (ps.toArray.size - 1)
  generalize argBest (fun i j => decide (-(numAt ps.toArray i) < -(numAt ps.toArray j))) (ps.toArray.size - 1) = z at e b1 b2
  have zl : z < ps.length := by
    have : ps.toArray.size = ps.length := by simp
    omega
  rw [ei] at e
  have e' : some (Value.int (ps[z]).1 (ps[z]).2) = some v := by simpa [zl] using e
  cases e'
  have at_ : ∀ i (hi : i < ps.length), numAt ps.toArray i = (ps[i]).1 := fun i hi => num_at (by rw [List.getElem?_map, List.getElem?_eq_getElem hi]; rfl)
  refine ⟨.int (ps[z]).1, H, I.kept k, ⟨_, rfl⟩, q _ (by rw [← e1]; exact List.mem_map.mpr ⟨_, List.getElem_mem zl, rfl⟩) fun x hx => ?_⟩
  rw [← e1] at hx
  obtain ⟨y, hy, rfl⟩ := List.mem_map.mp hx
  obtain ⟨i, hi, rfl⟩ := List.mem_iff_getElem.mp hy
  have := (b2 i (by have : ps.toArray.size = ps.length := by simp
                    omega)).1
  rw [at_ i hi, at_ z zl] at this
  omega
theorem call_minI (hc : X.calm = true) : CallR X (.builtin "min") (rMinI X.K) := by
  intro pins s σ H vs us Q I r h
  obtain ⟨p, ns, rfl, hs, ne, q⟩ := h
  obtain ⟨its, rv, hl, _⟩ := I.list hs
  rw [Vals.ref1 r]
  obtain ⟨ps, e1, rfl⟩ := vals_its rv
  have ei : intItems ps.toArray = (ps.map fun p => Value.int p.1 p.2).toArray := by simp [intItems]
  have pl : 0 < ps.length := by
    cases ps with
    | nil => exact absurd e1.symm ne
    | cons _ _ => simp
  refine min_intList (xs := ps.toArray) (I.ok.hd hc) (by rw [ei]; exact hl.isList) (by simpa using pl) fun v h' tk e k => ?_
  obtain ⟨b1, b2⟩ := LK.best_min (fun i => numAt ps.toArray i) (ps.toArray.size - 1)
  generalize argBest (fun i j => decide (numAt ps.toArray i < numAt ps.toArray j)) (ps.toArray.size - 1) = z at e b1 b2
  have zl : z < ps.length := by
    have : ps.toArray.size = ps.length := by simp
    omega
  rw [ei] at e
  have e' : some (Value.int (ps[z]).1 (ps[z]).2) = some v := by simpa [zl] using e
  cases e'
  have at_ : ∀ i (hi : i < ps.length), numAt ps.toArray i = (ps[i]).1 := fun i hi => num_at (by rw [List.getElem?_map, List.getElem?_eq_getElem hi]; rfl)
  refine ⟨.int (ps[z]).1, H, I.kept k, ⟨_, rfl⟩, q _ (by rw [← e1]; exact List.mem_map.mpr ⟨_, List.getElem_mem zl, rfl⟩) fun x hx => ?_⟩
  rw [← e1] at hx
  obtain ⟨y, hy, rfl⟩ := List.mem_map.mp hx
  obtain ⟨i, hi, rfl⟩ := List.mem_iff_getElem.mp hy
  have := (b2 i (by have : ps.toArray.size = ps.length := by simp
                    omega)).1
  rw [at_ i hi, at_ z zl] at this
  exact this
end
end MXL
set_option Elab.async false
set_option linter.all false
set_option maxRecDepth 100000
set_option maxHeartbeats 4000000
/-! LATE: a thing made by an expression and locked at once, for as long as the def goes on (the iterable of a comprehension that makes its own dict). -/
namespace LATE
open PySem PySem.Spec PyProof.Rows L2
variable {X : Cx}
def tLate (te : TE) : TE := fun σ H Q => te σ H fun x H1 => ∃ d u, H1 d = some u ∧ Mut (some u) ∧ ∀ od, Q x (upd H1 d (.frz od u))
theorem pe_late {e : Expr} {te : TE} (h : PE X e te) : PE X e (tLate te) := by
  refine ⟨fun pins s σ H Q I hw => ?_⟩
  refine thn (h.run pins s σ H _ I hw) fun v s1 ⟨x, H1, I1, r, d, u, hd, mu, q⟩ => ?_
  obtain ⟨od, I2⟩ := I1.lock hd mu
  exact ⟨x, _, I2, r, q od⟩
end LATE
set_option Elab.async false
set_option linter.all false
set_option maxRecDepth 100000
set_option maxHeartbeats 4000000
/-! sorted(xs), xs a list of data at any depth -/
namespace SRT
open PySem PySem.Spec PyProof.Rows L2
/-- p stands not behind q -/
def leD (p q : V × PyData) : Bool := !PySem.W.dataLt q.2 p.2
/-- the sorted list -/
def srt (xs : List V) (ds : List PyData) : List V := ((xs.zip ds).mergeSort leD).map Prod.fst
theorem len_of {K : PySem.W.Frag} {H : Hp} : ∀ {xs : List V} {ds : List PyData}, DpAll K H xs ds → xs.length = ds.length
  | _, _, .nil => rfl
  | _, _, .cons _ t => congrArg (· + 1) (len_of t)
theorem srt_perm {xs : List V} {ds : List PyData} (h : xs.length = ds.length) : (srt xs ds).Perm xs := by
  unfold srt
  refine ((List.mergeSort_perm _ _).map Prod.fst).trans ?_
  rw [List.map_fst_zip (by omega)]
theorem vals_each : ∀ {xs : List V} {us : List Value} {ds : List PyData}, Vals xs us → xs.length = ds.length → PySem.W.EachIs (fun v (b : V × PyData) => RelV b.1 v) us (xs.zip ds)
  | [], _, [], .nil, _ => .nil
  | x :: xs, _, d :: ds, .cons r rs, h => .cons r (vals_each rs (by simpa using h))
theorem each_vals : ∀ {us : List Value} {bs : List (V × PyData)}, PySem.W.EachIs (fun v (b : V × PyData) => RelV b.1 v) us bs → Vals (bs.map Prod.fst) us
  | _, _, .nil => .nil
  | _, _, .cons r rs => .cons r (each_vals rs)
def rSortedD (K : PySem.W.Frag) : List V → Hp → VK → Prop := fun vs H Q => ∃ (a : Addr) (xs : List V) (ds : List PyData), vs = [V.ref a] ∧ (SqL K H a xs ∨ SqT K H a xs) ∧ DpAll K H xs ds ∧ PySem.W.AllAlike ds ∧ PySem.W.Sortable ds ∧ (∀ d ∈ ds, d.depth ≤ 60) ∧
  ∀ p : Addr, H p = none → Q (.ref p) (upd H p (.lst (srt xs ds)))
/-! sorted of a tuple -/
section
variable {prog : Program} {w : World} {A : Around} {E : Value → Shared → Prop} {s : Shared} {κ : KeyKind}
theorem gather_tup {b : Addr} {us : List Value} {R : List Value → Shared → Prop} (ht : s.heap.IsTuple b us.toArray) (hz : us.length ≤ sizeLine)
    (h : R us { s with heap := (s.heap.push (seqObj "list" #[] 0)).update s.heap.objs.size (Obj.mapSeq (· ++ us.toArray)) }) : wpAny (model prog w) A (collect (.ref b)) R E s := by
  obtain ⟨ob, e1, e2, k, e3⟩ := id ht
  have e4 : (s.heap.push (seqObj "list" #[] 0)).get? b = some ob := Heap.get?_push_of_some _ e1
  have em : (s.heap.push (seqObj "list" #[] 0)).get? s.heap.objs.size = some (seqObj "list" #[] 0) := Heap.get?_push_size _ rfl
  unfold collect
  refine wpAny_bind (wpAny_runValue (codeAny_builtin entry_proto_collect' ?_))
  show wpAny _ _ (do again (.builtin "list.__iadd__" ⟨[← newList [], .ref b], []⟩)) _ _ s
  refine wpAny_bind (wpAny_newList (wpAny_pure ⟨Code.quiet_builtin _ (by decide +kernel), codeAny_builtin entry_list_iadd' ?_⟩))
  show wpAny _ _ (Builtin.List.listExtendWith (.ref s.heap.objs.size) (.ref b) (.ref s.heap.objs.size)) _ _ { s with heap := s.heap.push (seqObj "list" #[] 0) }
  unfold Builtin.List.listExtendWith
  refine wpAny_bind (wpAny_typeOf (T := "tuple") ⟨ob, e4, e2⟩ ?_)
  have et : (Value.type "tuple" == Value.type "tuple") = true := by rfl
  rw [if_pos (by rw [et]; simp)]
  refine wpAny_bind (listItems_at e4 e3 (wpAny_bind (listItems_at em rfl ?_)))
  rw [if_neg (by simp)]
  refine wpAny_bind (listUpdate_at em rfl ?_ (Nat.zero_le _) (by simp only [Array.size_append, List.size_toArray, List.length_nil]; omega))
  refine wpAny_pure ?_
  show wpAny (model prog w) A (load s.heap.objs.size >>= fun o => match o.data with | .seq xs _ => pure xs.toList | _ => unsupported "internal:collect") R E _
  refine wpAny_bind (wpAny_load (get?_update_seq em _) ?_)
  show wpAny _ _ (pure ((#[] : Array Value) ++ us.toArray).toList) R E _
  have e5 : ((#[] : Array Value) ++ us.toArray).toList = us := by simp
  rw [e5]
  exact wpAny_pure h
theorem sorted_tupV {b : Addr} {us : List Value} {R : Value → Shared → Prop} (ht : s.heap.IsTuple b us.toArray) (hz : us.length ≤ sizeLine)
    (S : PySem.W.SortsAt prog w A.in1.in1 { s with heap := PySem.W.sortingHeap (PySem.W.copyHeap s.heap us) (s.heap.objs.size + 1) us } κ us)
    (h : R (.ref (s.heap.objs.size + 1)) { s with heap := sortedAll s.heap us (PySem.W.sortVals κ false us us).toArray }) : wpAny (model prog w) A (call (.builtin "sorted") [.ref b]) R E s := by
  refine Calls.call_function_entry kind_sorted plain_sorted entry_sorted (args_sorted1 _) ?_
  unfold Builtin.«sorted»
  refine wpAny_bind (m := checkCount "sorted" 1 1 _) (wpAny_pure (wpAny_bind (gather_tup ht hz (wpAny_bind (wpAny_newList ?_ hz)))))
  have e : ((s.heap.push (seqObj "list" #[] 0)).update s.heap.objs.size (Obj.mapSeq (· ++ us.toArray))).objs.size = s.heap.objs.size + 1 := (Heap.size_update ..).trans (size_push' ..)
  show wpAny _ _ _ _ _ { s with heap := PySem.W.copyHeap s.heap us }
  rw [e]
  refine wpAny_bind (wpAny_holding (wpAny_call_entry slot_list_sort ⟨_, PySem.W.copyHeap_at s.heap us, rfl⟩ entry_list_sort ?_ (args_list_sort _)))
  exact PySem.W.list_sort_vals (s := { s with heap := PySem.W.copyHeap s.heap us }) (PySem.W.copyHeap_at s.heap us) S hz ⟨_, rfl, wpAny_pure ⟨_, rfl, h⟩⟩
end
section
variable {X : Cx} {pins : List (Addr × Obj)} {σ : L2.St} {H : Hp} {s : Shared}
theorem reads_each (I : Inv X pins σ H s) : ∀ {ds : List PyData} {vs : List V} {us : List Value}, DpAll X.K H vs ds → Vals vs us → PySem.W.EachIs (fun v d => ∃ as, Reads s.heap v d as) us ds
  | [], _, _, h, r => by
    cases h
    cases r
    exact .nil
  | d :: ds, _, _, h, r => by
    cases h with
    | cons h1 h2 =>
      cases r with
      | cons r1 r2 => exact .cons (Dp.reads I d _ _ h1 r1) (reads_each I h2 r2)
theorem cr_sortedD (hu : X.A.units + 64 < cLine) : CallR X (.builtin "sorted") (rSortedD X.K) := by
  intro pins s σ H vs us Q I r h
  obtain ⟨a, xs, ds, rfl, hs, hd, al, so, dp, q⟩ := h
  rw [Vals.ref1 r]
  have ln := len_of hd
  have main : ∀ its : List Value, Vals xs its → xs.length ≤ sizeLine → ∃ κ : KeyKind, PySem.W.SortsAt X.prog X.w X.A.in1.in1 { s with heap := PySem.W.sortingHeap (PySem.W.copyHeap s.heap its) (s.heap.objs.size + 1) its } κ its ∧
      EP X pins σ Q (.ref (s.heap.objs.size + 1)) { s with heap := sortedAll s.heap its (PySem.W.sortVals κ false its its).toArray } := fun its rv hz => by
    have e := reads_each I hd rv
    have e2 : PySem.W.EachIs (fun v d => ∃ as, Reads (PySem.W.sortingHeap (PySem.W.copyHeap s.heap its) (s.heap.objs.size + 1) its) v d as) its ds := e.mono fun v d ⟨as, h⟩ => ⟨as, Reads.keeps (fun b o z => PySem.W.sorting_copy_old z) h⟩
    have S := PySem.W.SortsAt.data (prog := X.prog) (w := X.w) (A := X.A.in1.in1) (s := { s with heap := PySem.W.sortingHeap (PySem.W.copyHeap s.heap its) (s.heap.objs.size + 1) its }) e2 al so (fun d hd => by have := dp d hd; show X.A.units + 1 + 1 + d.depth < cLine; omega)
    refine ⟨_, S, ?_⟩
    have ek : PySem.W.EachIs (fun v (b : V × PyData) => (PySem.W.dataKind (PySem.W.sortingHeap (PySem.W.copyHeap s.heap its) (s.heap.objs.size + 1) its) ds).keyOf v = some (PySem.W.keyToks b.2)) its (xs.zip ds) := by
      have f := PySem.W.each_keys al e2
      have mz : (xs.zip ds).map Prod.snd = ds := List.map_snd_zip (by omega)
      rw [← mz] at f
      have f' := PySem.W.each_of_map (fun b : V × PyData => b.2) f
      rw [mz] at f'
      exact f'
    have eo := PySem.W.sortVals_each (κ := PySem.W.dataKind (PySem.W.sortingHeap (PySem.W.copyHeap s.heap its) (s.heap.objs.size + 1) its) ds) (rev := false) (fun b : V × PyData => PySem.W.keyToks b.2) (vals_each rv ln) ek
    have vo := each_vals eo
    generalize PySem.W.sortVals _ false its its = out at vo ⊢
    obtain ⟨ep, he'⟩ := PyProof.Rows.sortedAll_at s.heap its out.toArray
    have hlen : (srt xs ds).length ≤ sizeLine := by rw [(srt_perm ln).length_eq]; exact hz
    exact ⟨.ref _, upd H (s.heap.objs.size + 1) (.lst (srt xs ds)), I.laid (t' := s.toks) (fun _ _ => PyProof.Rows.sortedAll_old) (Nat.le_succ _) ⟨hlen, out, ep, vo, he'⟩, rfl, q _ (I.hok.fresh (Nat.le_succ _))⟩
  rcases hs with hs | hs
  · obtain ⟨its, rv, hl, hz⟩ := I.list hs
    obtain ⟨κ, S, k⟩ := main its rv hz
    exact PySem.W.sorted_vals hl.isList S (by rw [← rv.length]; exact hz) k
  · obtain ⟨its, rv, hl, hz⟩ := I.tuple hs
    obtain ⟨κ, S, k⟩ := main its rv hz
    exact sorted_tupV hl (by rw [← rv.length]; exact hz) S k
/-- texts -/
def leS (x y : Str) : Prop := ¬ y.cps.toList < x.cps.toList
theorem dpS {H : Hp} : ∀ xs : List Str, DpAll X.K H (xs.map V.str) (xs.map PyData.str)
  | [] => .nil
  | x :: xs => .cons (.str x) (dpS xs)
theorem srtS (xs : List Str) : ∃ ys : List Str, srt (xs.map V.str) (xs.map PyData.str) = ys.map V.str ∧ ys.Perm xs ∧ ys.Pairwise leS := by
  have tot := PySem.W.sortLe_total (listOrd itemOrd) false (fun p : V × PyData => PySem.W.keyToks p.2)
  have pw := PySem.W.sort_pairwise tot ((xs.map V.str).zip (xs.map PyData.str))
  have pm := List.mergeSort_perm ((xs.map V.str).zip (xs.map PyData.str)) leD
  have mem : ∀ p ∈ ((xs.map V.str).zip (xs.map PyData.str)).mergeSort leD, ∃ x, p = (V.str x, PyData.str x) := fun p hp => by
    have := pm.mem_iff.mp hp
    rw [List.zip_map'] at this
    obtain ⟨x, _, e⟩ := List.mem_map.mp this
    exact ⟨x, e.symm⟩
  have pw' : (((xs.map V.str).zip (xs.map PyData.str)).mergeSort leD).Pairwise fun a b => leD a b = true := pw
  unfold srt
  generalize ((xs.map V.str).zip (xs.map PyData.str)).mergeSort leD = L at pm mem pw'
  have : ∃ ys : List Str, L = ys.map fun x => (V.str x, PyData.str x) := by
    clear pm pw'
    induction L with
    | nil => exact ⟨[], rfl⟩
    | cons p L ih =>
      obtain ⟨x, e⟩ := mem p List.mem_cons_self
      obtain ⟨ys, e2⟩ := ih fun q hq => mem q (List.mem_cons_of_mem _ hq)
      exact ⟨x :: ys, by rw [e, e2]; rfl⟩
  obtain ⟨ys, rfl⟩ := this
  refine ⟨ys, ?_, ?_, ?_⟩
  · rw [List.map_map]
    rfl
  · have p2 := pm.map fun p : V × PyData => match p.1 with | .str x => x | _ => ""
    rw [List.map_map, List.zip_map', List.map_map] at p2
    simpa [Function.comp_def] using p2
  · refine (List.pairwise_map.mp pw').imp fun {a b} h => ?_
    have h' : (!PySem.W.dataLt (.str b) (.str a)) = true := h
    rw [PySem.W.dataLt_str] at h'
    simpa [leS] using h'
/-- sorted of texts, a list or a tuple -/
def rSortedTx (K : PySem.W.Frag) : List V → Hp → VK → Prop := fun vs H Q => ∃ (a : Addr) (xs : List Str), vs = [V.ref a] ∧ (SqL K H a (xs.map V.str) ∨ SqT K H a (xs.map V.str)) ∧
  ∀ (ys : List Str) (p : Addr), ys.Perm xs → ys.Pairwise leS → H p = none → Q (.ref p) (upd H p (.lst (ys.map V.str)))
theorem cr_sortedTx (hu : X.A.units + 64 < cLine) : CallR X (.builtin "sorted") (rSortedTx X.K) := by
  intro pins s σ H vs us Q I r h
  obtain ⟨a, xs, rfl, hs, q⟩ := h
  obtain ⟨ys, e, pm, pw⟩ := srtS xs
  refine cr_sortedD hu pins s σ H _ us Q I r ⟨a, _, xs.map PyData.str, rfl, hs, dpS xs, fun d h1 d' h2 => ?_, .inr fun d h1 => ?_, fun d h1 => ?_, fun p fp => ?_⟩
  · obtain ⟨x, _, rfl⟩ := List.mem_map.mp h1
    obtain ⟨y, _, rfl⟩ := List.mem_map.mp h2
    rfl
  · obtain ⟨x, _, rfl⟩ := List.mem_map.mp h1
    refine ⟨fun z => ?_, fun l z => ?_⟩ <;> cases z
  · obtain ⟨x, _, rfl⟩ := List.mem_map.mp h1
    show 0 ≤ 60
    decide
  · rw [e]
    exact q ys p pm pw fp
end
end SRT
set_option Elab.async false
set_option linter.all false
set_option maxRecDepth 100000
set_option maxHeartbeats 4000000
namespace K43
open PySem PySem.Spec PyProof.Rows L2
open C8 (Cal Mak Met pe_c pe_mk pe_mt pe_mt0)
open LamX (Tabs ExtN TabB)
open KM (pr)
open SM (subs)
/-- a tuple of whole numbers, as data -/
def tI (k : List Int) : PyData := .tuple (k.map PyData.int)
theorem dp_is {K : PySem.W.Frag} {H : Hp} : ∀ k : List Int, DpAll K H (k.map V.int) (k.map PyData.int)
  | [] => .nil
  | n :: k => .cons (.int n) (dp_is k)
theorem dp_tI {K : PySem.W.Frag} {H : Hp} : ∀ {es : List (Addr × List Int)}, (∀ e ∈ es, H e.1 = some (.tup (e.2.map V.int))) → DpAll K H (es.map fun e => V.ref e.1) (es.map fun e => tI e.2)
  | [], _ => .nil
  | e :: es, h => .cons (.tup (SqT.of (h e List.mem_cons_self)) (dp_is e.2)) (dp_tI fun x hx => h x (List.mem_cons_of_mem _ hx))
theorem dep_is : ∀ k : List Int, PyData.depthAll (k.map PyData.int) = 0
  | [] => rfl
  | n :: k => by simp [PyData.depthAll, PyData.depth, dep_is k]
theorem alike_is : ∀ k l : List Int, PySem.W.alikeAll (k.map PyData.int) (l.map PyData.int) = true
  | [], [] => by simp [PySem.W.alikeAll]
  | [], _ :: _ => by simp [PySem.W.alikeAll]
  | _ :: _, [] => by simp [PySem.W.alikeAll]
  | a :: k, b :: l => by simp [PySem.W.alikeAll, PySem.W.alike, alike_is k l]
/-- sorted, of tuples of whole numbers -/
def rSortT (K : PySem.W.Frag) : List V → Hp → VK → Prop := fun vs H Q => ∃ (a : Addr) (es : List (Addr × List Int)), vs = [V.ref a] ∧ SqL K H a (es.map fun e => V.ref e.1) ∧ (∀ e ∈ es, H e.1 = some (.tup (e.2.map V.int)) ∧ e.2 ≠ []) ∧
  ∀ (es' : List (Addr × List Int)) (p : Addr), es'.Perm es → H p = none → Q (.ref p) (upd H p (.lst (es'.map fun e => V.ref e.1)))
theorem perm_map {α β : Type} (g : α → β) : ∀ {l : List β} {es : List α}, l.Perm (es.map g) → ∃ es' : List α, es'.Perm es ∧ l = es'.map g := fun {l es} p => by
  generalize hm : es.map g = m at p
  induction p generalizing es with
  | nil => exact ⟨[], by rw [List.map_eq_nil_iff.mp hm], rfl⟩
  | @cons x l1 l2 _ ih =>
    cases es with
    | nil => cases hm
    | cons e es =>
      rw [List.map_cons] at hm
      injection hm with h1 h2
      obtain ⟨es', p', rfl⟩ := ih h2
      exact ⟨e :: es', p'.cons e, by rw [List.map_cons, h1]⟩
  | @swap x y l =>
    match es, hm with
    | a :: b :: es, hm =>
      rw [List.map_cons, List.map_cons] at hm
      injection hm with h1 h2
      injection h2 with h2 h3
      exact ⟨b :: a :: es, List.Perm.swap a b es, by rw [List.map_cons, List.map_cons, h1, h2, h3]⟩
  | @trans l1 l2 l3 _ _ ih1 ih2 =>
    obtain ⟨e2, p2, e2'⟩ := ih2 hm
    obtain ⟨e1, p1, e1'⟩ := ih1 e2'.symm
    exact ⟨e1, p1.trans p2, e1'⟩
theorem cr_sortT {X : Cx} (hu : X.A.units + 64 < cLine) : CallR X (.builtin "sorted") (rSortT X.K) := by
  intro pins s σ H vs us Q I r hh
  obtain ⟨a, es, rfl, hs, hp, q⟩ := hh
  have ln : (es.map fun e => V.ref e.1).length = (es.map fun e => tI e.2).length := by rw [List.length_map, List.length_map]
  obtain ⟨es', pm, ee⟩ := perm_map (fun e : Addr × List Int => V.ref e.1) (SRT.srt_perm ln)
  refine SRT.cr_sortedD hu pins s σ H _ us Q I r ⟨a, _, es.map fun e => tI e.2, rfl, .inl hs, dp_tI fun e he => (hp e he).1, fun d h1 d' h2 => ?_, .inl fun d h1 => ?_, fun d h1 => ?_, fun p fp => ?_⟩
  · obtain ⟨x, _, rfl⟩ := List.mem_map.mp h1
    obtain ⟨y, _, rfl⟩ := List.mem_map.mp h2
    show PySem.W.alike (.tuple _) (.tuple _) = true
    simp only [PySem.W.alike]
    exact alike_is x.2 y.2
  · obtain ⟨x, hx, rfl⟩ := List.mem_map.mp h1
    obtain ⟨y, ys, e⟩ : ∃ y ys, x.2 = y :: ys := by
      cases hz : x.2 with
      | nil => exact absurd hz (hp x hx).2
      | cons y ys => exact ⟨y, ys, rfl⟩
    exact ⟨.int y, ys.map .int, by unfold tI; rw [e]; rfl⟩
  · obtain ⟨x, _, rfl⟩ := List.mem_map.mp h1
    have : (tI x.2).depth = 1 := by simp [tI, PyData.depth, dep_is]
    omega
  · rw [ee]
    exact q es' p pm fp
def rTupK (K : PySem.W.Frag) : List V → Hp → VK → Prop := fun xs H Q => ∃ p ys, xs = [.ref p] ∧ ((SqL K H p ys ∧ ∀ l, H l = none → Q (.ref l) (upd H l (.tup ys))) ∨ (SqT K H p ys ∧ Q (.ref p) H))
theorem call_tupK {X : Cx} : CallR X (.type "tuple") (rTupK X.K) := call_tuple_of
section
variable {P : Program} {w : World} {K : PySem.W.Frag} {mg : Str → Option Value} {base : Heap} {f C CT : Addr} {fd : FuncData}
/-- a table of credits in sixths -/
def TabL (H : Hp) (l : Addr) (es : List (Addr × List Int)) : Prop := H l = some (.lst (es.map fun e => V.ref e.1)) ∧ ∀ e ∈ es, H e.1 = some (.tup (e.2.map V.int))
def six (xs : List Str) (c : Str → Int) : List Int := xs.map fun x => (c x).fdiv 140
def spRe (K : PySem.W.Frag) : Sp := fun vs H Q _ => ∃ (r ot : Addr) (xs : List Str) (g : Int), vs = [.ref r] ∧ LeastR H r ot xs g ∧ 2 ≤ xs.length ∧ xs.length ≤ 3 ∧ Tabs (T0 K) H ∧
  ∀ (l : Addr) (es : List (Addr × List Int)) (H' : Hp), ExtN H H' → Tabs (T0 K) H' → TabL H' l es → (∀ c, Rch g xs c → ∃ e ∈ es, e.2 = six xs c) → Q (.ref l) H'
theorem ok_re (F : Dn K d_reached f fd) (b : Bl mg) (b2 : Bl2 mg) (bs : mg "sorted" = none) (gp : ∃ t, mg "SIXTH" = some (.int 140 t)) (cCl : Cal P w K mg base 6 "check_least" spCl []) (cRt : Cal P w K mg base 6 "rows_to" (spRt K) []) : FnOk P w K mg base CX0 7 f fd ["rule"] (spRe K) := by
  refine F.ok sc_reached (fun vs H Q E h => ?_) (fun cdv A outer s H vs Q E hr h => ?_)
  · obtain ⟨_, _, _, _, rfl, _⟩ := h
    rfl
  · obtain ⟨r, ot, xs, g, rfl, lr, l2, l3, tabs, hQ⟩ := h
    obtain ⟨tk, gp⟩ := gp
    have hu64 : (A.deeper (envOfC d_reached.qual d_reached.scope s.heap.objs.size f cdv)).units + 64 < cLine := by have := hr.un; omega
    have ox := lr.2.2.1
    have g0 := lr.2.2.2.1
    have nd := ox.nd
    refine ⟨_, PSs.nox (pss_cons (ps_expr (pe_c cCl hr (by decide) rfl (pa_cons (pv 0) pa_nil)))
      (pss_one (ps_ret (pe_callB (cr_sortT hu64) rfl bs boot_sorted (pa_cons (pe_lc (own := [("held", 1)]) (g := gName 1) (tt := tYes) (te := tCB (rTupK K) (tCons (tLc (iTup K (tVar 1)) (gName 2) tYes (tOp (rI CDivN fun i j => .int (i.fdiv j)) (tVar 2) (tC (.int 140))) [2]) tNil)) rfl sc_reached.nd (pi_keys (LATE.pe_late (pe_c cRt hr (by decide) rfl (pa_cons (pv 0) pa_nil)))) (blkOk_by (N := N_reached) (sc := defScope s_reached) (by decide +kernel))
          (fun _ _ _ _ _ => pg_name (i := 1) sc_reached.nd rfl (Or.inl rfl)) (fun _ _ _ _ _ => pts_nil)
          (fun _ _ _ _ _ => pe_callTy (r := rTupK K) call_tupK rfl b2.tup boot_tuple (pa_cons (pe_lc (own := [("parts", 2)]) (g := gName 2) (tt := tYes) rfl sc_reached.nd (pi_tup (pv 1)) (blkOk_by (N := N_reached) (sc := { kind := .function, names := [((".0" : Str), .local), ("held", .local), ("tuple", .globalImplicit)], isGenerator := false, isCoroutine := false }) (by decide +kernel)) (fun _ _ _ _ _ => pg_name (i := 2) sc_reached.nd rfl (Or.inl rfl)) (fun _ _ _ _ _ => pts_nil) (fun _ _ _ _ _ => pe_op op_fdivN (pv 2) (pe_glob (v := .int 140) rfl gp ⟨tk, rfl⟩))) pa_nil))) pa_nil))))), ?_⟩
    refine ⟨_, rfl, r, ot, xs, g, rfl, lr, l2, l3, fun H1 s1 => ?_⟩
    refine ⟨_, rfl, r, ot, xs, g, rfl, lr.same s1, l2, l3, tabs.ext s1, fun D rows H2 e2 t2 fD hD ok full => ?_⟩
    refine ⟨D, _, hD, trivial, fun od => ?_⟩
    have few := full.few g0 nd l3
    have kl : (kvR xs rows).length = rows.length := by unfold kvR; rw [List.length_map]
    have hD3 : (upd H2 D (.frz od (.dT (kvR xs rows)))) D = some (.frz od (.dT (kvR xs rows))) := upd_same
    have k3 : ∀ b o, H2 b = some o → b ≠ D → (upd H2 D (.frz od (.dT (kvR xs rows)))) b = some o := fun b o e n => by rw [upd_ne n]; exact e
    have t3 : Tabs (T0 K) (upd H2 D (.frz od (.dT (kvR xs rows)))) := by
      intro p hp
      obtain ⟨q, hq, tq, cq⟩ := t2 p hp
      refine ⟨q, k3 _ _ hq (fun z => by rw [z, hD] at hq; cases hq), tq, fun pos cv e => ?_⟩
      obtain ⟨c0, e1, e2⟩ := cq pos cv e
      exact ⟨c0, e1, k3 _ _ e2 (fun z => by rw [z, hD] at e2; cases e2)⟩
    generalize upd H2 D (.frz od (.dT (kvR xs rows))) = H3 at hD3 k3 t3 ⊢
    refine ⟨D, od, rfl, .inr ⟨_, hD3, fun L hL => lc_it walk_keysT (fun i H' => ∃ es : List (Addr × List Int), H' L = some (.lst (es.map fun e => V.ref e.1)) ∧ (∀ e ∈ es, H' e.1 = some (.tup (e.2.map V.int))) ∧ es.map (·.2) = (rows.take i).map (fun r => six xs r.c) ∧ Same H3 H')
      ⟨[], upd_same, fun e he => (nomatch he), rfl, same_new hL⟩ (fun i H' _ z => by obtain ⟨_, _, _, _, sm⟩ := z; exact sm _ _ hD3) ?_ ?_⟩⟩
    · rintro i x H4 H5 hi ⟨es, hL4, hes, ees, sm⟩ ⟨rfl, k, v, q, hk, rfl, hq⟩
      unfold kvR at hk
      rw [List.getElem?_map] at hk
      obtain ⟨r0, hr0, e0⟩ := Option.map_eq_some_iff.mp hk
      cases e0
      rw [ky_kV] at hq
      have r0m := List.mem_of_getElem? hr0
      have rg := full.rg r0 r0m
      have il := (List.getElem?_eq_some_iff.mp hr0).1
      refine ⟨rfl, ?_⟩
      refine ⟨_, rfl, q, rfl, ⟨_, SqT.of hq⟩, fun M hM => lc_tup (fun j H6 => H6 M = some (.lst ((six (xs.take j) r0.c).map V.int)) ∧ Same H5 H6) ⟨upd_same, same_new hM⟩ (fun j H6 _ z => SqT.of (z.2 _ _ hq)) ?_ ?_⟩
      · rintro j y H6 hy ⟨hM6, s6⟩
        rw [List.getElem?_map] at hy
        obtain ⟨z, hz, rfl⟩ := Option.map_eq_some_iff.mp hy
        have jl := (List.getElem?_eq_some_iff.mp hz).1
        obtain ⟨zz, e1, e2, e3⟩ := rg.sixth g0 nd l3 (List.mem_of_getElem? hz)
        refine ⟨rfl, _, rfl, _, _, rfl, rfl, ⟨by decide, by decide⟩, ?_⟩
        refine ⟨_, hM6, by rw [List.length_map]; unfold six; rw [List.length_map, List.length_take]; exact line_lt (by omega), ?_, fun b o e => ?_⟩
        · rw [upd_same]
          unfold six
          rw [take_one hz, List.map_append, List.map_append]
          rfl
        · rw [upd_ne (ne_of_none e hM)]
          exact s6 _ _ e
      · rintro H6 ⟨hM6, s6⟩
        rw [List.length_map, List.take_length] at hM6
        refine ⟨M, _, rfl, .inl ⟨SqL.of hM6, fun t ft => ?_⟩⟩
        have st := same_new (o := .tup ((six xs r0.c).map V.int)) ft
        have s56 := s6.trans st
        have hL6 := s56 _ _ hL4
        have ntL : t ≠ L := (ne_of_none (s6 _ _ hL4) ft).symm
        refine ⟨_, hL6, ?_, es ++ [(t, six xs r0.c)], ?_, fun e he => ?_, ?_, fun b o e => ?_⟩
        · rw [List.length_map]
          have := congrArg List.length ees
          rw [List.length_map, List.length_map, List.length_take] at this
          exact line_lt (by omega)
        · rw [upd_same, List.map_append]
          rfl
        · rcases List.mem_append.mp he with h | h
          · have h1 := s56 _ _ (hes e h)
            rw [upd_ne (ne_of h1 hL6 (by intro z; cases z))]
            exact h1
          · rw [List.mem_singleton.mp h, upd_ne ntL]
            exact upd_same
        · rw [List.map_append, ees, take_one hr0, List.map_append]
          rfl
        · rw [upd_ne (ne_of_none e hL)]
          exact s56 _ _ (sm _ _ e)
    · rintro H4 ⟨es, hL4, hes, ees, sm⟩
      rw [kl, List.take_length] at ees
      refine ⟨L, es, rfl, SqL.of hL4, fun e he => ⟨hes e he, fun z => ?_⟩, fun es' p pm fp => ?_⟩
      · have h1 : e.2 ∈ rows.map (fun r => six xs r.c) := by rw [← ees]; exact List.mem_map.mpr ⟨e, he, rfl⟩
        obtain ⟨r0, _, e0⟩ := List.mem_map.mp h1
        rw [z] at e0
        have := congrArg List.length e0
        unfold six at this
        rw [List.length_map] at this
        have : xs.length = 0 := this
        omega
      · have sp := same_new (o := .lst (es'.map fun e => V.ref e.1)) fp
        refine hQ p es' _ (fun b o hb hn => sp _ _ (sm _ _ (k3 _ _ (e2 _ _ (s1 _ _ hb) hn) (ne_of_none (s1 _ _ hb) fD)))) ((t3.ext sm).ext sp) ⟨upd_same, fun e he => sp _ _ (hes e (pm.subset he))⟩ fun c hc => ?_
        obtain ⟨r0, hr0, ag⟩ := all_there nd full.h0 full.cl hc
        have h1 : six xs r0.c ∈ es.map (·.2) := by rw [ees]; exact List.mem_map.mpr ⟨r0, hr0, rfl⟩
        obtain ⟨e, he, e0⟩ := List.mem_map.mp h1
        refine ⟨e, pm.symm.subset he, e0.trans ?_⟩
        unfold six
        exact List.map_congr_left fun x hx => by rw [ag x hx]
end
end K43
set_option Elab.async false
set_option linter.all false
set_option maxRecDepth 100000
set_option maxHeartbeats 4000000
namespace K43
open PySem PySem.Spec PyProof.Rows L2
open C8 (Cal Mak Met pe_c pe_mk pe_mt pe_mt0)
open LamX (Tabs ExtN TabB)
open KM (pr)
theorem idx_at {y : Str} : ∀ {xs : List Str}, y ∈ xs → xs[xs.idxOf y]? = some y
  | x :: xs, h => by
    by_cases e : x = y
    · subst e
      simp [List.idxOf_cons]
    · have h2 : y ∈ xs := (List.mem_cons.mp h).resolve_left fun z => e z.symm
      have := idx_at h2
      have e2 : (x == y) = false := by simpa using e
      rw [List.idxOf_cons, e2]
      exact this
/-- what a row's tuples are -/
theorem row_ps {H : Hp} {xs : List Str} : ∀ {ts : List Addr}, (∀ t ∈ ts, ∃ N : List Str, H t = some (.tup (N.map V.str)) ∧ DayOk xs N) → ∃ ps : List (Addr × List Str), ps.map (·.1) = ts ∧ ∀ p ∈ ps, H p.1 = some (.tup (p.2.map V.str)) ∧ DayOk xs p.2
  | [], _ => ⟨[], rfl, fun p hp => nomatch hp⟩
  | t :: ts, h => by
    obtain ⟨N, e, dy⟩ := h t List.mem_cons_self
    obtain ⟨ps, e1, e2⟩ := row_ps fun x hx => h x (List.mem_cons_of_mem _ hx)
    refine ⟨(t, N) :: ps, by rw [List.map_cons, e1], fun p hp => ?_⟩
    rcases List.mem_cons.mp hp with rfl | hp
    · exact ⟨e, dy⟩
    · exact e2 p hp
section
variable {P : Program} {w : World} {K : PySem.W.Frag} {mg : Str → Option Value} {base : Heap} {f C CT : Addr} {fd : FuncData}
/-- no ride leads beyond -/
def Top (g : Int) (xs : List Str) (y : Str) (ow : Bool) (m : Int) : Prop := ∀ c, Rch g xs c → if ow = true then c y ≤ m else m ≤ c y
def spFa (K : PySem.W.Frag) (C : Addr) : Sp := fun vs H Q _ => ∃ (r ot : Addr) (xs : List Str) (g : Int) (y : Str) (ow : Bool), vs = [.ref r, .str y, .bl ow] ∧ LeastR H r ot xs g ∧ 2 ≤ xs.length ∧ xs.length ≤ 3 ∧ y ∈ xs ∧ Tabs (T0 K) H ∧
  ∀ (t sh l : Addr) (m : Int) (qs : List (Addr × List Str)) (H' : Hp), ExtN H H' → Tabs (T0 K) H' → H' t = some (.tup [.ref sh, .ref l]) → Sh C H' sh (pr (Rat.divInt m 840)) → DaysL H' l qs → (∀ q ∈ qs, DayOk xs q.2) → qs.length ≤ 15625 → Top g xs y ow m → -1680 ≤ m → m ≤ 1680 → Q (.ref t) H'
theorem ok_fa (F : Dn K d_farthest f fd) (b : Bl mg) (b2 : Bl2 mg) (bM : mg "max" = none) (gp : ∃ t, mg "RIDE_PARTS" = some (.int 840 t)) (MS : MakS P w K mg base C) (cCl : Cal P w K mg base 6 "check_least" spCl []) (cRt : Cal P w K mg base 6 "rows_to" (spRt K) []) (cRo : Cal P w K mg base 1 "row_of" spRo []) : FnOk P w K mg base CX0 7 f fd ["rule", "name", "owed"] (spFa K C) := by
  refine F.ok sc_farthest (fun vs H Q E h => ?_) (fun cdv A outer s H vs Q E hr h => ?_)
  · obtain ⟨_, _, _, _, _, _, rfl, _⟩ := h
    rfl
  · obtain ⟨r, ot, xs, g, y, ow, rfl, lr, l2, l3, hy, tabs, hQ⟩ := h
    obtain ⟨tk, gp⟩ := gp
    have hu := hu_of hr
    have ox := lr.2.2.1
    have g0 := lr.2.2.2.1
    have nd := ox.nd
    refine ⟨_, PSs.nox (pss_cons (ps_expr (pe_c cCl hr (by decide) rfl (pa_cons (pv 0) pa_nil)))
      (pss_cons (ps_if (pt_cmpR op_notIn_seq (pv 1) (pe_ix ix_tup (pv 0) pe_int (fun _ _ => rfl)) (by rfl)) pss_never pss_nil)
      (pss_cons (ps_set (i := 3) sc_farthest.nd rfl (.inr rfl) (PIN.pe_ixP (pe_ix ix_tup (pv 0) pe_int (fun _ _ => rfl)) (pa_cons (pv 1) pa_nil)))
      (pss_cons (ps_set (i := 4) sc_farthest.nd rfl (.inr rfl) (LATE.pe_late (pe_c cRt hr (by decide) rfl (pa_cons (pv 0) pa_nil))))
      (pss_cons (ps_setLc (i := 5) (own := [("held", 8)]) (g := gName 8) (tt := tYes) rfl sc_farthest.nd rfl rfl (sw_true rfl rfl rfl (by decide +kernel)) (pi_keys (pv 4)) (blkOk_by (N := N_farthest) (sc := defScope s_farthest) (by decide +kernel))
          (fun _ _ _ _ _ => pg_name (i := 8) sc_farthest.nd rfl (Or.inl rfl)) (fun _ _ _ _ _ => pts_nil) (fun _ _ _ _ _ => pe_ix (r := rIxT K) ix_tup (pv 8) (pv 3) (fun _ _ => rfl)))
      (C8.pss_cut (ps_set (i := 6) sc_farthest.nd rfl (.inr rfl) (pe_ifExp (pt_val (pv 2)) (pe_callB (MXL.call_maxI rfl) rfl bM boot_max (pa_cons (pv 5) pa_nil)) (pe_callB (MXL.call_minI rfl) rfl b2.min boot_min (pa_cons (pv 5) pa_nil))))
      (pss_cons (ps_set (i := 7) sc_farthest.nd rfl (.inl rfl) (pe_ix ix_list (pe_lc (own := [("held", 8)]) (g := gName 8) rfl sc_farthest.nd (pi_keys (pv 4)) (blkOk_by (N := N_farthest) (sc := defScope s_farthest) (by decide +kernel))
          (fun _ _ _ _ _ => pg_name (i := 8) sc_farthest.nd rfl (Or.inl rfl)) (fun _ _ _ _ _ => pts_one (pt_cmpR op_eq (pe_ix (r := rIxT K) ix_tup (pv 8) (pv 3) (fun _ _ => rfl)) (pv 6) (nomark _))) (fun _ _ _ _ _ => pe_dget hu (pv 4) (pv 8) (fun _ _ => rfl))) pe_int (fun _ _ => rfl)))
      (pss_one (ps_ret (pe_tup (pa_cons (pe_mk MS hr (by decide) rfl (pa_cons (pv 6) (pa_cons (pe_glob (v := .int 840) rfl gp ⟨tk, rfl⟩) pa_nil))) (pa_cons (pe_c cRo hr (by decide) rfl (pa_cons (pv 7) pa_nil)) pa_nil)))))))))))), ?_⟩
    refine ⟨_, rfl, r, ot, xs, g, rfl, lr, l2, l3, fun H1 s1 => ?_⟩
    have lr1 := lr.same s1
    obtain ⟨hr1, ho1, _⟩ := id lr1
    refine ⟨_, rfl, _, rfl, r, _, _, _, rfl, rfl, SqT.of hr1, rfl, ot, _, rfl, .inr ho1.sq, rfl, flat_strs xs, _, rfl, ?_⟩
    rw [inV_strs, decide_eq_true hy]
    refine iteF ?_
    refine ⟨_, rfl, r, _, _, _, rfl, rfl, SqT.of hr1, rfl, ot, xs, rfl, ho1, _, rfl, y, rfl, ho1, hy, ?_⟩
    refine ⟨_, rfl, r, ot, xs, g, rfl, lr1, l2, l3, tabs.ext s1, fun D rows H2 e2 t2 fD hD ok full => ?_⟩
    refine ⟨D, _, hD, trivial, fun od => ?_⟩
    have few := full.few g0 nd l3
    have kl : (kvR xs rows).length = rows.length := by unfold kvR; rw [List.length_map]
    have hD3 : (upd H2 D (.frz od (.dT (kvR xs rows)))) D = some (.frz od (.dT (kvR xs rows))) := upd_same
    have k3 : ∀ b o, H2 b = some o → b ≠ D → (upd H2 D (.frz od (.dT (kvR xs rows)))) b = some o := fun b o e n => by rw [upd_ne n]; exact e
    have t3 : Tabs (T0 K) (upd H2 D (.frz od (.dT (kvR xs rows)))) := by
      intro p hp
      obtain ⟨q, hq, tq, cq⟩ := t2 p hp
      refine ⟨q, k3 _ _ hq (fun z => by rw [z, hD] at hq; cases hq), tq, fun pos cv e => ?_⟩
      obtain ⟨c0, e1, e2⟩ := cq pos cv e
      exact ⟨c0, e1, k3 _ _ e2 (fun z => by rw [z, hD] at e2; cases e2)⟩
    have eH3 : ExtN H (upd H2 D (.frz od (.dT (kvR xs rows)))) := fun b o hb hn => k3 _ _ (e2 _ _ (s1 _ _ hb) hn) (ne_of_none (s1 _ _ hb) fD)
    have ok3 : ∀ s ∈ rows, RwOk (upd H2 D (.frz od (.dT (kvR xs rows)))) xs s := fun s hs => (ok s hs).tup fun b vs e => k3 _ _ e (ne_of e hD (by intro z; cases z))
    generalize upd H2 D (.frz od (.dT (kvR xs rows))) = H3 at hD3 t3 eH3 ok3 ⊢
    clear k3 t2 e2 hD ok
    have at_y : ∀ c : Str → Int, (xs.map fun x => V.int (c x))[xs.idxOf y]? = some (V.int (c y)) := fun c => by
      rw [List.getElem?_map, idx_at hy]
      rfl
    refine ⟨_, rfl, D, od, rfl, .inr ⟨_, hD3, fun L hL => lc_it walk_keysT (fun i H' => H' L = some (.lst (((rows.take i).map fun r => r.c y).map V.int)) ∧ Same H3 H')
      ⟨upd_same, same_new hL⟩ (fun i H' _ z => z.2 _ _ hD3) ?_ ?_⟩⟩
    · rintro i x H4 H5 hi ⟨hL4, sm⟩ ⟨rfl, k, v, q, hk, rfl, hq⟩
      unfold kvR at hk
      rw [List.getElem?_map] at hk
      obtain ⟨r0, hr0, e0⟩ := Option.map_eq_some_iff.mp hk
      cases e0
      rw [ky_kV] at hq
      refine ⟨rfl, _, rfl, _, rfl, q, _, _, _, rfl, rfl, SqT.of hq, atI_nat (at_y r0.c), ?_⟩
      refine ⟨_, hL4, by rw [List.length_map, List.length_map, List.length_take]; exact line_lt (by omega), ?_, fun b o e => ?_⟩
      · rw [upd_same, take_one hr0, List.map_append, List.map_append]
        rfl
      · rw [upd_ne (ne_of_none e hL)]
        exact sm _ _ e
    rintro H4 ⟨hL4, s4⟩
    rw [kl, List.take_length] at hL4
    obtain ⟨rz, hrz, agz⟩ := full.h0
    have rne : (rows.map fun r => r.c y) ≠ [] := fun z => by
      rw [List.map_eq_nil_iff.mp z] at hrz
      cases hrz
    -- the best
    refine ⟨fun σ' H' => ∃ m : Int, H' = H4 ∧ σ' = [some (.ref r), some (.str y), some (.bl ow), some (.int (xs.idxOf y : Nat)), some (.ref D), some (.ref L), some (.int m), none, none] ∧ (∃ r0 ∈ rows, r0.c y = m) ∧ ∀ r0 ∈ rows, if ow = true then r0.c y ≤ m else m ≤ r0.c y, ?_, ?_⟩
    · refine ⟨_, rfl, ow, rfl, ?_⟩
      cases ow with
      | true =>
        refine iteT ⟨_, rfl, L, _, rfl, SqL.of hL4, rne, fun m hm hb => ⟨m, rfl, rfl, ?_, fun r0 hr0 => ?_⟩⟩
        · obtain ⟨r0, h1, h2⟩ := List.mem_map.mp hm
          exact ⟨r0, h1, h2⟩
        · rw [if_pos rfl]
          exact hb _ (List.mem_map.mpr ⟨r0, hr0, rfl⟩)
      | false =>
        refine iteF ⟨_, rfl, L, _, rfl, SqL.of hL4, rne, fun m hm hb => ⟨m, rfl, rfl, ?_, fun r0 hr0 => ?_⟩⟩
        · obtain ⟨r0, h1, h2⟩ := List.mem_map.mp hm
          exact ⟨r0, h1, h2⟩
        · rw [if_neg (by decide)]
          exact hb _ (List.mem_map.mpr ⟨r0, hr0, rfl⟩)
    rintro σ' H5 ⟨m, rfl, rfl, ⟨rb, hrb, eb⟩, best⟩
    have hD4 := s4 _ _ hD3
    -- the first of those that lead there
    refine ⟨_, rfl, D, od, rfl, .inr ⟨_, hD4, fun M hM => lc_it walk_keysT (fun i H' => H' M = some (.lst (((rows.take i).filter fun r => decide (r.c y = m)).map fun r => V.ref r.a)) ∧ Same H5 H')
      ⟨upd_same, same_new hM⟩ (fun i H' _ z => z.2 _ _ hD4) ?_ ?_⟩⟩
    · rintro i x H6 H7 hi ⟨hM6, sm⟩ ⟨rfl, k, v, q, hk, rfl, hq⟩
      unfold kvR at hk
      rw [List.getElem?_map] at hk
      obtain ⟨r0, hr0, e0⟩ := Option.map_eq_some_iff.mp hk
      cases e0
      have hq2 := hq
      rw [ky_kV] at hq
      have r0m := List.mem_of_getElem? hr0
      have dg : DGet H7 D (.ref q) (some (.ref r0.a)) := .inr ⟨_, ky xs r0.c, q, .inr ⟨od, sm _ _ hD4⟩, rfl, hq2, (kvR_at full.nd r0m).symm⟩
      refine ⟨rfl, _, rfl, _, rfl, q, _, _, _, rfl, rfl, SqT.of hq, atI_nat (at_y r0.c), _, rfl, rfl, _, rfl, ?_⟩
      by_cases e : r0.c y = m
      · have z0 : decide (V.int (r0.c y) = V.int m) = true := by simp [e]
        rw [z0]
        refine iteT ⟨_, rfl, _, rfl, D, _, rfl, dg, ?_⟩
        refine ⟨_, hM6, ?_, ?_, fun b o e => ?_⟩
        · rw [List.length_map]
          have h1 := List.length_filter_le (fun r : Rw => decide (r.c y = m)) (rows.take i)
          rw [List.length_take] at h1
          exact line_lt (by omega)
        · rw [upd_same, take_one hr0, List.filter_append, List.map_append]
          simp [e]
        · rw [upd_ne (ne_of_none e hM)]
          exact sm _ _ e
      · have z0 : decide (V.int (r0.c y) = V.int m) = false := by simp [e]
        rw [z0]
        refine iteF ⟨?_, sm⟩
        rw [take_one hr0, List.filter_append]
        simpa [e] using hM6
    rintro H6 ⟨hM6, s6⟩
    rw [kl, List.take_length] at hM6
    obtain ⟨r0, fs, ef⟩ : ∃ r0 fs, (rows.filter fun r => decide (r.c y = m)) = r0 :: fs := by
      cases z : (rows.filter fun r => decide (r.c y = m)) with
      | nil =>
        have : rb ∈ rows.filter fun r => decide (r.c y = m) := List.mem_filter.mpr ⟨hrb, decide_eq_true eb⟩
        rw [z] at this
        cases this
      | cons a b => exact ⟨a, b, rfl⟩
    have r0m : r0 ∈ rows := by
      have : r0 ∈ rows.filter fun r => decide (r.c y = m) := by rw [ef]; exact List.mem_cons_self
      exact (List.mem_filter.mp this).1
    rw [ef] at hM6
    refine ⟨M, _, _, _, rfl, rfl, SqL.of hM6, atI_nat (j := 0) rfl, ?_⟩
    have s36 := s4.trans s6
    obtain ⟨_, ha0, hts⟩ := (ok3 r0 r0m).tup fun b vs e => s36 _ _ e
    obtain ⟨ps, e1, e2⟩ := row_ps hts
    have tl := full.tl r0 r0m
    refine ⟨_, rfl, ?_⟩
    intro sh dsh nsh ndsh nne
    refine mk_in (n := 10) nsh ndsh (by decide) (by decide) (by decide) (by decide) fun H7 s7 hsh => ⟨rfl, ?_⟩
    have hA : H7 r0.a = some (.tup (ps.map fun p => V.ref p.1)) := by
      rw [s7 _ _ ha0, ← e1, List.map_map]
      rfl
    have pl : ps.length = r0.ts.length := by rw [← e1, List.length_map]
    refine ⟨_, rfl, r0.a, ps, rfl, hA, fun p hp => s7 _ _ (e2 p hp).1, by omega, fun l H8 qs s8 fl dl hn eqs => ?_⟩
    refine ⟨by show 2 ≤ sizeLine; decide, fun t ft => ?_⟩
    have st := same_new (o := .tup [.ref sh, .ref l]) ft
    have s38 := ((s36.trans s7).trans s8).trans st
    have ql : qs.length = ps.length := by
      have := congrArg List.length eqs
      rwa [List.length_map, List.length_map] at this
    obtain ⟨z, ez, z1, z2⟩ := (full.rg rb hrb).sixth g0 nd l3 hy
    refine hQ t sh l m qs _ (fun b o hb hn2 => s38 _ _ (eH3 _ _ hb hn2)) (t3.ext s38) upd_same (hsh.keep (s8.trans st)) ⟨st _ _ dl.1, fun q hq => ⟨st _ _ (dl.2 q hq).1, (dl.2 q hq).2⟩⟩ (fun q hq => ?_) (by omega) (fun c hc => ?_) (by omega) (by omega)
    · have h1 : q.2 ∈ ps.map (·.2) := by rw [← eqs]; exact List.mem_map.mpr ⟨q, hq, rfl⟩
      obtain ⟨p, hp, e⟩ := List.mem_map.mp h1
      rw [← e]
      exact (e2 p hp).2
    · obtain ⟨r1, hr1, ag⟩ := all_there nd full.h0 full.cl hc
      have := best r1 hr1
      rw [ag y hy] at this
      exact this
end
end K43
set_option Elab.async false
set_option linter.all false
set_option maxRecDepth 100000
set_option maxHeartbeats 4000000
/-! KB: what a call by keywords binds, for a def without keyword-only parameters. -/
namespace KW
open PySem PySem.Spec PyProof.Rows L2
section
variable {K : PySem.W.Frag} {x qual : Str} {params : Arguments} {body : List Stmt} {scope : Scope} {dvs : List V} {kws : List (Str × V)} {f : Addr} {fd : FuncData} {ps : List Str}
theorem kb1 (F : FunD K x qual params body scope dvs kws f fd) (n : Nat) (ks : List Str) (g : {α : Type} → List α → List α → List α → List α) (hd : dvs ≠ [])
    (hrel : ∀ {vs ds zs : List V} {us its ws : List Value}, Vals vs us → Vals ds its → Vals zs ws → Vals (g vs ds zs) (g us its ws))
    (h : ∀ (T : Addr) (kV doc pm : Value) (an : Option Addr) (cdv ct : Value) (us its ws : List Value), us.length = n → its.length = dvs.length → ws.length = ks.length →
      ∃ k, bindArgs (PySem.W.fnOf x qual params body scope (.ref T) kV doc pm an cdv ct) ⟨us, ks.zip ws⟩ = seqItems? (.ref T) >>= k ∧ k (some its.toArray) = pure (ps.zip (g us its ws))) :
    ∃ its : List Value, KBn K fd ps n ks (fun us ws => g us its ws) (fun vs zs => g vs dvs zs) := by
  obtain ⟨oc, od, dV, kV, doc, pm, an, cdv, ct, osl, rfl, lk, hcd, hD, hK⟩ := F.ex
  rcases hD with ⟨e, _⟩ | ⟨_, T, o, its, m, rfl, lT, oT, rT⟩
  · exact absurd e hd
  · refine ⟨its, ⟨fun s us ws X l1 l2 => ?_, fun r1 r2 => hrel r1 rT r2⟩⟩
    obtain ⟨k, e1, e2⟩ := h T kV doc pm an cdv ct us its ws l1 rT.length.symm l2
    refine BindsTo.of_looks fun M => ?_
    rw [e1]
    exact looks_items X lT oT (.of_pure e2)
theorem kb0 (F : FunD K x qual params body scope [] kws f fd) (n : Nat) (ks : List Str) (g : {α : Type} → List α → List α → List α)
    (hrel : ∀ {vs zs : List V} {us ws : List Value}, Vals vs us → Vals zs ws → Vals (g vs zs) (g us ws))
    (h : ∀ (kV doc pm : Value) (an : Option Addr) (cdv ct : Value) (us ws : List Value), us.length = n → ws.length = ks.length →
      bindArgs (PySem.W.fnOf x qual params body scope .none kV doc pm an cdv ct) ⟨us, ks.zip ws⟩ = pure (ps.zip (g us ws))) :
    KBn K fd ps n ks (fun us ws => g us ws) (fun vs zs => g vs zs) := by
  obtain ⟨oc, od, dV, kV, doc, pm, an, cdv, ct, osl, rfl, lk, hcd, hD, hK⟩ := F.ex
  rcases hD with ⟨_, rfl⟩ | ⟨e, _⟩
  · exact ⟨fun s us ws X l1 l2 => .of_eq (h kV doc pm an cdv ct us ws l1 l2), fun r1 r2 => hrel r1 r2⟩
  · exact absurd rfl e
end
end KW
set_option Elab.async false
set_option linter.all false
set_option maxRecDepth 100000
set_option maxHeartbeats 4000000
namespace K43
open PySem PySem.Spec PyProof.Rows L2
open C8 (Cal Mak Met pe_c pe_mk pe_mt pe_mt0)
open LamX (Tabs ExtN TabB)
open KM (pr)
open SX (S)
theorem tabs_kp {T : List (Addr × Str)} {h : Addr} {H H' : Hp} {c : Nat} (t : Tabs T H) (k : Kp h H H') (x : Held H h c) : Tabs T H' := by
  obtain ⟨l, ns, n, m, h1, _⟩ := x
  intro p hp
  obtain ⟨q, hq, tq, cq⟩ := t p hp
  refine ⟨q, k.1 _ _ hq (fun z => by rw [z, h1] at hq; cases hq), tq, fun pos cv e => ?_⟩
  obtain ⟨c0, e1, e2⟩ := cq pos cv e
  exact ⟨c0, e1, k.1 _ _ e2 (fun z => by rw [z, h1] at e2; cases e2)⟩
theorem ord_of {zs : List (List Nat)} (h0 : 0 < zs.length) (h8 : zs.length ≤ 8) (ok : ∀ z ∈ zs, NM.ok z) (pw : zs.Pairwise (· ≠ ·)) : Ord (zs.map S) := by
  refine ⟨fun z => ?_, by rw [List.length_map]; exact h8, ?_, fun x hx => ?_⟩
  · have := congrArg List.length z
    rw [List.length_map] at this
    simp at this
    rw [this] at h0
    exact absurd h0 (by decide)
  · exact List.pairwise_map.mpr (pw.imp fun h e => h (SX.S_inj e))
  · obtain ⟨z, hz, rfl⟩ := List.mem_map.mp hx
    exact ⟨z, rfl, ok z hz⟩
theorem at4 {a b c d : V} {r : Int} (h0 : 0 ≤ r) (h1 : r < 4) : ∃ v, atI [a, b, c, d] r = some v ∧ (v = a ∨ v = b ∨ v = c ∨ v = d) := by
  rcases (show r = 0 ∨ r = 1 ∨ r = 2 ∨ r = 3 by omega) with rfl | rfl | rfl | rfl
  · exact ⟨a, rfl, .inl rfl⟩
  · exact ⟨b, rfl, .inr (.inl rfl)⟩
  · exact ⟨c, rfl, .inr (.inr (.inl rfl))⟩
  · exact ⟨d, rfl, .inr (.inr (.inr rfl))⟩
section
variable {P : Program} {w : World} {K : PySem.W.Frag} {mg : Str → Option Value} {base : Heap} {f C CT : Addr} {fd : FuncData}
/-- a rule is drawn -/
def spLe : Sp := fun vs H Q _ => ∃ (h : Addr) (c : Nat), vs = [.ref h, .int 3] ∧ Held H h (c + 200) ∧
  ∀ (r ot : Addr) (xs : List Str) (g : Int) (H' : Hp), Held H' h c → Kp h H H' → LeastR H' r ot xs g → 2 ≤ xs.length → xs.length ≤ 3 → Q (.ref r) H'
theorem ok_le (F : Dn K d_l_least f fd) (b2 : Bl2 mg) (cD : CalD P w K mg base) (cNm : Cal P w K mg base 2 "_law_names" spNames []) : FnOk P w K mg base CX0 3 f fd ["_law_held_here", "_law_most"] spLe := by
  refine F.ok sc_l_least (fun vs H Q E h => ?_) (fun cdv A outer s H vs Q E hr h => ?_)
  · obtain ⟨_, _, rfl, _⟩ := h
    rfl
  · obtain ⟨h, c, rfl, held, hQ⟩ := h
    refine ⟨_, PSs.nox (pss_cons (ps_set (i := 2) sc_l_least.nd rfl (.inl rfl) (pe_callTy PIN.call_tupP rfl b2.tup boot_tuple (pa_cons (pe_c cNm hr (by decide) rfl (pa_cons (pv 0) (pa_cons (pe_op op_add pe_int (pe_c cD hr (by decide) rfl (pa_cons (pv 0) (pa_cons (pe_op op_sub (pv 1) pe_int) pa_nil)))) pa_nil))) pa_nil)))
      (pss_cons (ps_set (i := 3) sc_l_least.nd rfl (.inl rfl) (pe_ix ix_list (pe_lst (pa_cons pe_int (pa_cons pe_int (pa_cons (pe_op op_add pe_int (pe_c cD hr (by decide) rfl (pa_cons (pv 0) (pa_cons pe_int pa_nil)))) (pa_cons (pe_op op_add pe_int (pe_c cD hr (by decide) rfl (pa_cons (pv 0) (pa_cons pe_int pa_nil)))) pa_nil))))) (pe_c cD hr (by decide) rfl (pa_cons (pv 0) (pa_cons pe_int pa_nil))) (fun _ _ => rfl)))
      (pss_one (ps_ret (pe_tup (pa_cons pe_str (pa_cons (pv 2) (pa_cons (pv 3) pa_nil)))))))), ?_⟩
    refine ⟨_, rfl, _, rfl, _, rfl, _, _, rfl, rfl, h, c + 199, 2, rfl, held, by decide, by decide, fun m H1 m0 m2 held1 k1 => ?_⟩
    obtain ⟨k, rfl⟩ : ∃ k : Nat, m = k := ⟨m.toNat, by omega⟩
    refine ⟨_, _, rfl, rfl, h, c + 100, 2 + k, rfl, held1.weak (by omega), by omega, fun o zs H2 held2 k2 fo ho zl zok zpw => ?_⟩
    refine ⟨o, _, rfl, SqL.of ho, fun ot od fot hcl hdn => ?_⟩
    have sot := same_new (o := .frz od (.tup (zs.map fun l => V.str (S l)))) fot
    have hot : PIN.PinT (upd H2 ot (.frz od (.tup (zs.map fun l => V.str (S l))))) ot ((zs.map S).map V.str) := ⟨od, by rw [upd_same, List.map_map]; rfl, hcl, hdn⟩
    have held3 := held2.same sot
    have k3 := (k1.trans k2).trans (Kp.same sot)
    generalize upd H2 ot (.frz od (.tup (zs.map fun l => V.str (S l)))) = H3 at hot held3 k3 ⊢
    have ox : Ord (zs.map S) := ord_of (by omega) (by omega) zok zpw
    refine ⟨_, rfl, h, c + 99, 12, rfl, held3.weak (by omega), by decide, by decide, fun g1 H4 a1 b1 held4 k4 => ⟨_, _, rfl, rfl, ?_⟩⟩
    refine ⟨_, rfl, h, c + 98, 1000, rfl, held4.weak (by omega), by decide, by decide, fun g2 H5 a2 b2 held5 k5 => ⟨_, _, rfl, rfl, ?_⟩⟩
    refine ⟨by show 4 ≤ sizeLine; decide, fun u fu => ?_⟩
    have su := same_new (o := .lst [V.int 0, V.int 0, V.int (1 + g1), V.int (1 + g2)]) fu
    have hu : (upd H5 u (.lst [V.int 0, V.int 0, V.int (1 + g1), V.int (1 + g2)])) u = some (.lst [V.int 0, V.int 0, V.int (1 + g1), V.int (1 + g2)]) := upd_same
    have cu := (Cel.of held5 fu).kp (Kp.same su)
    refine ⟨_, rfl, h, c + 97, 4, rfl, (held5.same su).weak (by omega), by decide, by decide, fun g3 H6 a3 b3 held6 k6 => ?_⟩
    have hu6 := k6.1 _ _ hu cu.ne
    obtain ⟨v, hv, hv4⟩ := at4 (a := V.int 0) (b := V.int 0) (c := V.int (1 + g1)) (d := V.int (1 + g2)) a3 b3
    obtain ⟨g, rfl, g0, g9⟩ : ∃ g : Int, v = .int g ∧ 0 ≤ g ∧ g ≤ 1000 := by
      rcases hv4 with rfl | rfl | rfl | rfl
      · exact ⟨_, rfl, by decide, by decide⟩
      · exact ⟨_, rfl, by decide, by decide⟩
      · exact ⟨_, rfl, by omega, by omega⟩
      · exact ⟨_, rfl, by omega, by omega⟩
    refine ⟨u, _, _, _, rfl, rfl, SqL.of hu6, hv, ?_⟩
    have hot6 := k6.pin (held5.same su) ((k5.pin held4 (k4.pin held3 hot)).same su)
    refine ⟨_, rfl, _, rfl, by show 3 ≤ sizeLine; decide, fun r fr => ?_⟩
    have sr := same_new (o := .tup [.str "least", .ref ot, .int g]) fr
    exact hQ r ot (zs.map S) g _ ((held6.same sr).weak (by omega)) (((((k3.trans k4).trans k5).trans (Kp.same su)).trans k6).trans (Kp.same sr)) ⟨upd_same, hot6.same sr, ox, g0, g9⟩ (by rw [List.length_map]; omega) (by rw [List.length_map]; omega)
end
end K43
set_option Elab.async false
set_option linter.all false
set_option maxRecDepth 100000
set_option maxHeartbeats 4000000
namespace K43
open PySem PySem.Spec PyProof.Rows L2
open LamX (Tabs ExtN TabB)
open KM (pr)
theorem pr_840 {m m' : Int} (h : m ≤ m') : (pr (Rat.divInt m 840)).1 * (pr (Rat.divInt m' 840)).2 ≤ (pr (Rat.divInt m' 840)).1 * (pr (Rat.divInt m 840)).2 := by
  have e0 : (840 : Int) ≠ 0 := by decide
  rw [← KM.low_eq (t := m) e0, ← KM.low_eq (t := m') e0]
  have p1 := KM.low_pos (t := m) e0
  have p2 := KM.low_pos (t := m') e0
  have a1 := KM.low_top (t := m) (b := 840)
  have a2 := KM.low_bot (t := m) (b := 840)
  have b1 := KM.low_top (t := m') (b := 840)
  have b2 := KM.low_bot (t := m') (b := 840)
  generalize KM.sg m 840 = s at a1 a2
  generalize KM.sg m' 840 = u at b1 b2
  generalize (KM.low m 840).1 = x at a1 ⊢
  generalize (KM.low m 840).2 = y at a2 p1 ⊢
  generalize (KM.low m' 840).1 = z at b1 ⊢
  generalize (KM.low m' 840).2 = v at b2 p2 ⊢
  have sp : 0 < s := by
    rcases Int.lt_or_le 0 s with q | q
    · exact q
    · have := Int.mul_nonneg (Int.neg_nonneg_of_nonpos q) (Int.le_of_lt p1)
      rw [Int.neg_mul] at this
      omega
  have up : 0 < u := by
    rcases Int.lt_or_le 0 u with q | q
    · exact q
    · have := Int.mul_nonneg (Int.neg_nonneg_of_nonpos q) (Int.le_of_lt p2)
      rw [Int.neg_mul] at this
      omega
  have su : 0 < s * u := Int.mul_pos sp up
  refine Int.le_of_mul_le_mul_left (a := s * u) ?_ su
  have e1 : s * u * (x * v) = (s * x) * (u * v) := by grind
  have e2 : s * u * (z * y) = (u * z) * (s * y) := by grind
  rw [e1, e2, a1, b2, b1, a2]
  exact Int.mul_le_mul_of_nonneg_right h (by decide)
theorem six_tab : ∀ k : Fin 25, (pr (Rat.divInt (140 * ((k.val : Int) - 12)) 840)).1 * ((6 : Int).fdiv (pr (Rat.divInt (140 * ((k.val : Int) - 12)) 840)).2) = (k.val : Int) - 12 := by decide +kernel
theorem six_val {z : Int} (h1 : -12 ≤ z) (h2 : z ≤ 12) : (pr (Rat.divInt (140 * z) 840)).1 * ((6 : Int).fdiv (pr (Rat.divInt (140 * z) 840)).2) = z := by
  have := six_tab ⟨(z + 12).toNat, by omega⟩
  have e : (((z + 12).toNat : Nat) : Int) - 12 = z := by omega
  simp only [e] at this
  exact this
theorem sz_840 {m : Int} (h1 : -1680 ≤ m) (h2 : m ≤ 1680) : KM.Sz 60 (Rat.divInt m 840) := KM.sz_of_low (by decide) (Nat.lt_of_lt_of_le (by omega : m.natAbs < 2 ^ 17) (by decide)) (by decide)
/-- the ends of one name -/
structure En where
  a : Addr
  o1 : Addr
  o2 : Addr
  m1 : Int
  m2 : Int
structure EnOk (H : Hp) (g : Int) (xs : List Str) (y : Str) (e : En) : Prop where
  a : H e.a = some (.tup [.ref e.o1, .ref e.o2])
  u : H e.o1 = some (tupP (pr (Rat.divInt e.m1 840)))
  v : H e.o2 = some (tupP (0 - (pr (Rat.divInt e.m2 840)).1, (pr (Rat.divInt e.m2 840)).2))
  t1 : Top g xs y true e.m1
  t2 : Top g xs y false e.m2
theorem EnOk.tup {H H' : Hp} {g : Int} {xs : List Str} {y : Str} {e : En} (h : EnOk H g xs y e) (k : ∀ b vs, H b = some (.tup vs) → H' b = some (.tup vs)) : EnOk H' g xs y e := ⟨k _ _ h.a, k _ _ h.u, k _ _ h.v, h.t1, h.t2⟩
structure Ends (H : Hp) (g : Int) (xs : List Str) (el : Addr) (es : List En) (i : Nat) : Prop where
  l : H el = some (.lst (es.map fun e => V.ref e.a))
  n : es.length = i
  e : ∀ (j : Nat) (e : En) (y : Str), es[j]? = some e → xs[j]? = some y → EnOk H g xs y e
theorem Ends.mv {H H' : Hp} {g : Int} {xs : List Str} {el : Addr} {es : List En} {i : Nat} (h : Ends H g xs el es i) (k : ∀ b vs, H b = some (.tup vs) → H' b = some (.tup vs)) (l : ∀ vs, H el = some (.lst vs) → H' el = some (.lst vs)) : Ends H' g xs el es i :=
  ⟨l _ h.l, h.n, fun j e y a b => (h.e j e y a b).tup k⟩
theorem TabL.mv {H H' : Hp} {l : Addr} {es : List (Addr × List Int)} (h : TabL H l es) (k : ∀ b vs, H b = some (.tup vs) → H' b = some (.tup vs)) (kl : ∀ vs, H l = some (.lst vs) → H' l = some (.lst vs)) : TabL H' l es := ⟨kl _ h.1, fun e he => k _ _ (h.2 e he)⟩
structure Days (H : Hp) (xs : List Str) (dl : Addr) (qs : List (Addr × List Str)) : Prop where
  l : H dl = some (.lst (qs.map fun q => V.ref q.1))
  e : ∀ q ∈ qs, H q.1 = some (.lst (q.2.map V.str)) ∧ DayOk xs q.2
theorem Days.mv {H H' : Hp} {xs : List Str} {dl : Addr} {qs : List (Addr × List Str)} (h : Days H xs dl qs) (l : ∀ vs, H dl = some (.lst vs) → H' dl = some (.lst vs)) (k : ∀ q ∈ qs, ∀ vs, H q.1 = some (.lst vs) → H' q.1 = some (.lst vs)) : Days H' xs dl qs := ⟨l _ h.l, fun q hq => ⟨k q hq _ (h.e q hq).1, (h.e q hq).2⟩⟩
theorem Held.extN {H H' : Hp} {h : Addr} {n : Nat} (x : Held H h n) (e : ExtN H H') : Held H' h n := by
  obtain ⟨l, ns, a, b, h1, h2, h3⟩ := x
  exact ⟨l, ns, a, b, e _ _ h1 (fun _ q => nomatch q), e _ _ h2 (fun _ q => nomatch q), h3⟩
theorem kp_tup {h : Addr} {H H' : Hp} {n : Nat} (k : Kp h H H') (x : Held H h n) : ∀ b vs, H b = some (.tup vs) → H' b = some (.tup vs) := fun b vs e => k.1 _ _ e fun z => by
  obtain ⟨l, ns, a, b, h1, _⟩ := x
  rw [z, h1] at e
  cases e
theorem kp_lst {h : Addr} {H H' : Hp} {n : Nat} (k : Kp h H H') (x : Held H h n) : ∀ b vs, H b = some (.lst vs) → H' b = some (.lst vs) := fun b vs e => k.1 _ _ e fun z => by
  obtain ⟨l, ns, a, b, h1, _⟩ := x
  rw [z, h1] at e
  cases e
theorem kp_frz {h : Addr} {H H' : Hp} {n : Nat} (k : Kp h H H') (x : Held H h n) : ∀ b od vs, H b = some (.frz od (.tup vs)) → H' b = some (.frz od (.tup vs)) := fun b od vs e => k.1 _ _ e fun z => by
  obtain ⟨l, ns, a, b, h1, _⟩ := x
  rw [z, h1] at e
  cases e
/-- what stands ahead of the ends -/
structure B0 (K : PySem.W.Frag) (g : Int) (xs : List Str) (h r ot tl : Addr) (ts : List (Addr × List Int)) (n : Nat) (H : Hp) : Prop where
  held : Held H h n
  lr : LeastR H r ot xs g
  tab : TabL H tl ts
  tb : Tabs (T0 K) H
section
variable {K : PySem.W.Frag} {g : Int} {xs : List Str} {h r ot tl : Addr} {ts : List (Addr × List Int)} {n n' : Nat} {H H' : Hp}
theorem B0.ext (b : B0 K g xs h r ot tl ts n H) (e : ExtN H H') (t : Tabs (T0 K) H') : B0 K g xs h r ot tl ts n H' :=
  ⟨Held.extN b.held e, b.lr.extN e, b.tab.mv (fun _ _ z => e _ _ z fun _ q => nomatch q) (fun _ z => e _ _ z fun _ q => nomatch q), t⟩
theorem B0.same (b : B0 K g xs h r ot tl ts n H) (s : Same H H') : B0 K g xs h r ot tl ts n H' := b.ext (ExtN.of s) (b.tb.ext s)
theorem B0.kp (b : B0 K g xs h r ot tl ts n H) (k : Kp h H H') (hh : Held H' h n') : B0 K g xs h r ot tl ts n' H' :=
  ⟨hh, b.lr.ext (kp_tup k b.held) (kp_frz k b.held), b.tab.mv (kp_tup k b.held) (kp_lst k b.held tl), tabs_kp b.tb k b.held⟩
theorem B0.weak (b : B0 K g xs h r ot tl ts n H) (le : n' ≤ n) : B0 K g xs h r ot tl ts n' H := ⟨b.held.weak le, b.lr, b.tab, b.tb⟩
end
theorem Cel.extN {H H' : Hp} {h D : Addr} (x : Cel h D H) (e : ExtN H H') : Cel h D H' := by
  obtain ⟨la, n, m, h1, h2, h3⟩ := x
  exact ⟨la, n, m, e _ _ h1 (fun _ q => nomatch q), h2, h3⟩
theorem B0.put {K : PySem.W.Frag} {g : Int} {xs : List Str} {h r ot tl el : Addr} {ts : List (Addr × List Int)} {n : Nat} {H : Hp} {vs ws : List V} (b : B0 K g xs h r ot tl ts n H) (hel : H el = some (.lst vs)) (ce : Cel h el H) (ne : tl ≠ el) : B0 K g xs h r ot tl ts n (upd H el (.lst ws)) := by
  have kt : ∀ b ys, H b = some (.tup ys) → (upd H el (.lst ws)) b = some (.tup ys) := fun a ys e => by rw [upd_ne (ne_of e hel (by intro z; cases z))]; exact e
  exact ⟨b.held.put ce, b.lr.ext kt (fun a od ys e => by rw [upd_ne (ne_of e hel (by intro z; cases z))]; exact e), b.tab.mv kt (fun _ e => by rw [upd_ne ne]; exact e), tabs_lst b.tb hel⟩
/-- what stands while rides go on -/
structure B1 (K : PySem.W.Frag) (CT : Addr) (g : Int) (xs : List Str) (h r ot tl el dl tu hd kp ps : Addr) (ts : List (Addr × List Int)) (es : List En) (qs : List (Addr × List Str)) (c : Str → Int) (past : List V) (n : Nat) (H : Hp) : Prop where
  b : B0 K g xs h r ot tl ts n H
  en : Ends H g xs el es xs.length
  da : Days H xs dl qs
  tr : Tr CT H tu r hd kp ps
  ch : Crd H hd xs c
  ck : Crd H kp xs c
  pa : H ps = some (.lst past)
  ce : Cel h ps H
  nt : tl ≠ ps
  ne : el ≠ ps
  nd : dl ≠ ps
  nq : ∀ q ∈ qs, q.1 ≠ ps
section
variable {K : PySem.W.Frag} {CT : Addr} {g : Int} {xs : List Str} {h r ot tl el dl tu hd kp ps : Addr} {ts : List (Addr × List Int)} {es : List En} {qs : List (Addr × List Str)} {c : Str → Int} {past : List V} {n : Nat} {H H' : Hp}
theorem B1.same (b : B1 K CT g xs h r ot tl el dl tu hd kp ps ts es qs c past n H) (s : Same H H') : B1 K CT g xs h r ot tl el dl tu hd kp ps ts es qs c past n H' := by
  obtain ⟨dx, htu⟩ := b.tr
  exact ⟨b.b.same s, b.en.mv (fun _ _ z => s _ _ z) (fun _ z => s _ _ z), b.da.mv (fun _ z => s _ _ z) (fun _ _ _ z => s _ _ z), ⟨dx, s _ _ htu⟩, s _ _ b.ch, s _ _ b.ck, s _ _ b.pa, b.ce.kp (Kp.same s), b.nt, b.ne, b.nd, b.nq⟩
theorem B1.ride {hd' kp' : Addr} {c' : Str → Int} {past' : List V} (b : B1 K CT g xs h r ot tl el dl tu hd kp ps ts es qs c past n H) (k : KpT tu ps H H') (tb : Tabs (T0 K) H') (tr : Tr CT H' tu r hd' kp' ps) (ch : Crd H' hd' xs c') (ck : Crd H' kp' xs c') (pa : H' ps = some (.lst past')) :
    B1 K CT g xs h r ot tl el dl tu hd' kp' ps ts es qs c' past' n H' := by
  obtain ⟨dx, htu⟩ := b.tr
  have kt : ∀ b vs, H b = some (.tup vs) → H' b = some (.tup vs) := fun a vs e => k _ _ e (fun _ q => nomatch q) (fun z => by rw [z, htu] at e; cases e) (fun z => by rw [z, b.pa] at e; cases e)
  have kf : ∀ b od vs, H b = some (.frz od (.tup vs)) → H' b = some (.frz od (.tup vs)) := fun a od vs e => k _ _ e (fun _ q => nomatch q) (fun z => by rw [z, htu] at e; cases e) (fun z => by rw [z, b.pa] at e; cases e)
  have kl : ∀ b, b ≠ ps → ∀ vs, H b = some (.lst vs) → H' b = some (.lst vs) := fun a na vs e => k _ _ e (fun _ q => nomatch q) (fun z => by rw [z, htu] at e; cases e) na
  obtain ⟨la, n0, m0, hc1, hc2, hc3⟩ := b.ce
  obtain ⟨l, ns, n1, m1, h1, h2, h3⟩ := b.b.held
  rw [h1] at hc1
  have el := hd_inj (Option.some.inj hc1)
  subst el
  have hh' : H' h = some (.dK (hd0 l n1 m1)) := k _ _ h1 (fun _ q => nomatch q) (fun z => by rw [z, htu] at h1; cases h1) hc3
  have hl' : H' l = some (.lst (ns.map V.int)) := kl l hc2 _ h2
  exact ⟨⟨⟨l, ns, n1, m1, hh', hl', h3⟩, b.b.lr.ext kt kf, b.b.tab.mv kt (kl _ b.nt), tb⟩, b.en.mv kt (kl _ b.ne), b.da.mv (kl _ b.nd) (fun q hq => kl _ (b.nq q hq)), tr, ch, ck, pa, ⟨l, n1, m1, hh', hc2, hc3⟩, b.nt, b.ne, b.nd, b.nq⟩
end
end K43
set_option Elab.async false
set_option linter.all false
set_option maxRecDepth 100000
set_option maxHeartbeats 4000000
namespace K43
open PySem PySem.Spec PyProof.Rows L2
open C8 (Cal Mak Met pe_c pe_mk pe_mt pe_mt0)
open LamX (Tabs ExtN TabB)
open KM (pr)
theorem lay_is : ∀ k : List Int, PyData.canLayAll0 (k.map PyData.int) = true
  | [] => rfl
  | n :: k => by simp [PyData.canLayAll0, PyData.canLay0, lay_is k]
theorem sh_tI (k : List Int) : SeqAt.shaped (tI k) = true := by
  have h1 := lay_is k
  have h2 := dep_is k
  simp [SeqAt.shaped, tI, PyData.canLay0, PyData.depth, h1, h2]
theorem lay_tI : ∀ ks : List (List Int), PyData.canLayAll0 (ks.map tI) = true ∧ PyData.depthAll (ks.map tI) ≤ 1
  | [] => ⟨rfl, by simp [PyData.depthAll]⟩
  | k :: ks => by
    obtain ⟨h1, h2⟩ := lay_tI ks
    have h3 := lay_is k
    refine ⟨by simp [PyData.canLayAll0, PyData.canLay0, tI, h1, h3], ?_⟩
    have e : (tI k).depth = 1 := by simp [tI, PyData.depth, dep_is]
    rw [List.map_cons, PyData.depthAll]
    omega
theorem sh_tIs (ks : List (List Int)) : SeqAt.shaped (.list (ks.map tI)) = true := by
  obtain ⟨h1, h2⟩ := lay_tI ks
  have h3 : PyData.depthAll (ks.map tI) + 1 ≤ 64 := by omega
  simp [SeqAt.shaped, PyData.canLay0, PyData.depth, h1]
  omega
theorem eq_tI (k : List Int) : PyData.eqv (tI k) (tI k) = true := PySem.W.eqv_refl_alike _ (by
  show PySem.W.alike (.tuple _) (.tuple _) = true
  simp only [PySem.W.alike]
  exact alike_is k k)
section
variable {P : Program} {w : World} {K : PySem.W.Frag} {mg : Str → Option Value} {base : Heap} {f C CT : Addr} {fd : FuncData}
def spLaw (K : PySem.W.Frag) : Sp := fun vs H Q _ => ∃ (a : Addr) (ns : List Int), vs = [.ref a] ∧ SqL K H a (ns.map V.int) ∧ ns.length ≤ 63 ∧ Tabs (T0 K) H ∧ ∀ H', Q (.bl true) H'
theorem ok_law (F : Dn K d_law f fd) (bl : Bl mg) (b2 : Bl2 mg) (cH : Cal P w K mg base 1 "_law_held" (spHeld K) []) (cD : CalD P w K mg base) (cLe : Cal P w K mg base 3 "_law_least" spLe []) (cRe : Cal P w K mg base 7 "reached" (spRe K) []) (cFa : Cal P w K mg base 7 "farthest" (spFa K C) []) (cF1 : Cal P w K mg base 7 "farthest" (spFa K C) [.bl true]) (cP : Cal P w K mg base 1 "_law_pair" (spPair C) []) (cDy : Cal P w K mg base 2 "_law_day" spDay []) (cI : Cal P w K mg base 1 "_law_in_bound" spIb [])
    (MT : Mak P w K mg base 4 "Turns" CT (spTi CT) []) (mR : Met P w K mg base 6 CT "ride" (spRide K CT) []) (mS : Met P w K mg base 4 CT "stands" (spSt C CT) []) :
    FnOk P w K mg base CX0 8 f fd ["_law_script"] (spLaw K) := by
  refine F.ok sc_law (fun vs H Q E h => ?_) (fun cdv A outer s H vs Q E hr h => ?_)
  · obtain ⟨a, ns, rfl, _⟩ := h
    rfl
  · obtain ⟨a, ns, rfl, hS, hlen, tabs, hQ⟩ := h
    have hu := hu_of hr
    have hu64 : (A.deeper (envOfC d_law.qual d_law.scope s.heap.objs.size f cdv)).units + 64 < cLine := by have := hr.un; omega
    have hu65 : (A.deeper (envOfC d_law.qual d_law.scope s.heap.objs.size f cdv)).units + 65 < cLine := by have := hr.un; omega
    refine ⟨_, PSs.nox (pss_cons (ps_set (i := 1) sc_law.nd rfl (.inr rfl) (pe_c cH hr (by decide) rfl (pa_cons (pv 0) pa_nil)))
      (pss_cons (ps_set (i := 2) sc_law.nd rfl (.inl rfl) (pe_c cLe hr (by decide) rfl (pa_cons (pv 1) (pa_cons pe_int pa_nil))))
      (pss_cons (ps_set (i := 3) sc_law.nd rfl (.inr rfl) (pe_ix ix_tup (pv 2) pe_int (fun _ _ => rfl)))
      (pss_cons (ps_set (i := 4) sc_law.nd rfl (.inl rfl) (pe_c cRe hr (by decide) rfl (pa_cons (pv 2) pa_nil)))
      (pss_cons (ps_set (i := 5) sc_law.nd rfl (.inr rfl) (pe_lst pa_nil))
      (pss_cons (ps_for PassesOwn.never rfl (pi_tup (pv 3)) (pg_name (i := 6) sc_law.nd rfl (.inl rfl))
        (pss_cons (ps_par (i := 7) (j := 8) rfl sc_law.nd rfl rfl (by decide) rfl rfl
            (pa_cons (pe_c cP hr (by decide) rfl (pa_cons (pe_ix ix_tup (pe_c cF1 hr (by decide) rfl (pa_cons (pv 2) (pa_cons (pv 6) pa_nil))) pe_int (fun _ _ => rfl)) pa_nil))
            (pa_cons (pe_c cP hr (by decide) rfl (pa_cons (pe_ix ix_tup (pe_c cFa hr (by decide) rfl (pa_cons (pv 2) (pa_cons (pv 6) (pa_cons pe_bl pa_nil)))) pe_int (fun _ _ => rfl)) pa_nil)) pa_nil)) rfl)
        (pss_one (ps_expr (pe_bm PySem.F.plainAttrs_list PySem.F.slot_list_append PySem.F.type_list_append mt_append (pv 5) (pa_cons (pe_tup (pa_cons (pv 7) (pa_cons (pe_tup (pa_cons (pe_op op_sub pe_int (pe_ix ix_tup (pv 8) pe_int (fun _ _ => rfl))) (pa_cons (pe_ix ix_tup (pv 8) pe_int (fun _ _ => rfl)) pa_nil))) pa_nil))) pa_nil))))))
      (pss_cons (ps_setLc (i := 9) (own := [("_law_turn", 14)]) (g := gName 14) (tt := tYes) rfl sc_law.nd rfl rfl (sw_true rfl rfl rfl (by decide +kernel)) (pi_range1 rfl bl.range (pa_cons (pe_op op_add pe_int (pe_c cD hr (by decide) rfl (pa_cons (pv 1) (pa_cons pe_int pa_nil)))) pa_nil)) (blkOk_by (N := N_law) (sc := defScope s_law) (by decide +kernel))
          (fun _ _ _ _ _ => pg_name (i := 14) sc_law.nd rfl (Or.inl rfl)) (fun _ _ _ _ _ => pts_nil) (fun _ _ _ _ _ => pe_c cDy hr (by decide) rfl (pa_cons (pv 1) (pa_cons (pv 3) pa_nil))))
      (C8.pss_cut (ps_if (pt_cmpR op_eq (pe_c cD hr (by decide) rfl (pa_cons (pv 1) (pa_cons pe_int pa_nil))) pe_int (nomark _))
          (pss_one (ps_set (i := 9) sc_law.nd rfl (.inl rfl) (pe_op op_cat (pe_ix ix_tup (pe_c cFa hr (by decide) rfl (pa_cons (pv 2) (pa_cons (pe_ix ix_tup (pv 3) (pe_c cD hr (by decide) rfl (pa_cons (pv 1) (pa_cons (pe_callB call_len_seq rfl bl.len boot_len (pa_cons (pv 3) pa_nil)) pa_nil))) (fun _ _ => rfl)) (pa_cons (pe_cmpR op_eq (pe_c cD hr (by decide) rfl (pa_cons (pv 1) (pa_cons pe_int pa_nil))) pe_int (nomark _)) pa_nil)))) pe_int (fun _ _ => rfl)) (pv 9)))) pss_nil)
      (pss_cons (ps_set (i := 10) sc_law.nd rfl (.inl rfl) (pe_mk MT hr (by decide) rfl (pa_cons (pv 2) pa_nil)))
      (pss_cons (ps_for PassesOwn.never rfl (pi_list (pv 9)) (pg_name (i := 11) sc_law.nd rfl (.inl rfl))
        (pss_cons (ps_expr (pe_mt mR hr (by decide) (pv 10) (pa_cons (pe_callTy call_list_of rfl bl.list boot_list (pa_cons (pv 11) pa_nil)) pa_nil)))
        (pss_cons (ps_set (i := 12) sc_law.nd rfl (.inr rfl) (pe_mt0 mS hr (by decide) (pv 10)))
        (pss_cons (ps_set (i := 13) sc_law.nd rfl (.inr rfl) (pe_lc (own := [("_law_name", 6)]) (g := gName 6) (tt := tYes) rfl sc_law.nd (pi_tup (pv 3)) (blkOk_by (N := N_law) (sc := defScope s_law) (by decide +kernel))
            (fun _ _ _ _ _ => pg_name (i := 6) sc_law.nd rfl (Or.inl rfl)) (fun _ _ _ _ _ => pts_nil) (fun _ _ _ _ _ => pe_c cP hr (by decide) rfl (pa_cons (pe_dget hu (pv 12) (pv 6) (fun _ _ => rfl)) pa_nil))))
        (pss_cons (ps_if (pt_cmpR (op_neD hu64) (pe_lc (own := [("_law_k", 15)]) (g := gName 15) rfl sc_law.nd (pi_range1 rfl bl.range (pa_cons (pe_callB call_len_seq rfl bl.len boot_len (pa_cons (pv 3) pa_nil)) pa_nil)) (blkOk_by (N := N_law) (sc := defScope s_law) (by decide +kernel))
              (fun _ _ _ _ _ => pg_name (i := 15) sc_law.nd rfl (Or.inl rfl)) (fun _ _ _ _ _ => pts_one (pt_not (pt_val (pe_c cI hr (by decide) rfl (pa_cons (pe_ix (r := rIxL K) ix_list (pv 13) (pv 15) (fun _ _ => rfl)) (pa_cons (pe_ix (r := rIxL K) ix_list (pv 5) (pv 15) (fun _ _ => rfl)) pa_nil)))))) (fun _ _ _ _ _ => pv 15))
            (pe_lst pa_nil) (nomark _)) pss_never pss_nil)
        (pss_one (ps_if (pt_cmpR (op_notInD hu65) (pe_callTy call_tuple_of rfl b2.tup boot_tuple (pa_cons (pe_lc (own := [("_law_top", 16), ("_law_bottom", 17)]) (g := gTup K 2 (gCons (gName 16) (gCons (gName 17) gNil))) (tt := tYes) rfl sc_law.nd (pi_list (pv 13)) (blkOk_by (N := N_law) (sc := defScope s_law) (by decide +kernel))
              (fun _ _ _ _ _ => pg_tup rfl (pgs_cons (pg_name (i := 16) sc_law.nd rfl (.inl rfl)) (pgs_cons (pg_name (i := 17) sc_law.nd rfl (.inl rfl)) pgs_nil))) (fun _ _ _ _ _ => pts_nil) (fun _ _ _ _ _ => pe_op op_mul (pv 16) (pe_op op_fdivN pe_int (pv 17)))) pa_nil)) (pv 4) (by rfl)) pss_never pss_nil)))))))
      (pss_one (ps_ret pe_bl)))))))))))), ?_⟩
    refine ⟨_, rfl, a, ns, rfl, hS, hlen, fun h H1 s1 f1 held1 => ?_⟩
    have t1 := tabs.ext s1
    refine ⟨_, rfl, h, 800000000, rfl, held1.weak (by decide), fun r ot xs g H2 held2 k2 lr l2 l3 => ?_⟩
    have t2 := tabs_kp t1 k2 held1
    refine ⟨_, rfl, r, _, _, _, rfl, rfl, SqT.of lr.1, rfl, ?_⟩
    refine ⟨_, rfl, r, ot, xs, g, rfl, lr, l2, l3, t2, fun tl ts H3 e3 t3 tab cov => ?_⟩
    have ox := lr.2.2.1
    have g0 := lr.2.2.2.1
    have nd := ox.nd
    have b3 : B0 K g xs h r ot tl ts 800000000 H3 := ⟨Held.extN held2 e3, lr.extN e3, tab, t3⟩
    clear lr t2 held2 held1 t1 tabs
    refine ⟨by show 0 ≤ sizeLine; decide, fun el fel => ?_⟩
    have b4 := b3.same (same_new (o := .lst []) fel)
    have en4 : Ends (upd H3 el (.lst [])) g xs el [] 0 := ⟨upd_same, rfl, fun j e y z => by simp at z⟩
    have ce4 : Cel h el (upd H3 el (.lst [])) := (Cel.of b3.held fel).kp (Kp.same (same_new fel))
    have ntl : tl ≠ el := ne_of_none tab.1 fel
    generalize upd H3 el (.lst []) = H4 at b4 en4 ce4 ⊢
    -- the ends
    refine ⟨_, rfl, ot, rfl, ⟨_, b4.lr.2.1.sq⟩, for_tup (K := K) (xs := xs.map V.str) (fun i σ H' => ∃ (v6 v7 v8 : Option V) (es : List En), σ = [some (.ref a), some (.ref h), some (.ref r), some (.ref ot), some (.ref tl), some (.ref el), v6, v7, v8, none, none, none, none, none, none, none, none, none] ∧ B0 K g xs h r ot tl ts 800000000 H' ∧ Ends H' g xs el es i ∧ Cel h el H')
      ⟨_, _, _, [], rfl, b4, en4, ce4⟩ (fun i σ H' _ z => by obtain ⟨_, _, _, _, _, z, _⟩ := z; exact z.lr.2.1.sq) ?_ ?_⟩
    · rintro i v σ H5 hv ⟨v6, v7, v8, es, rfl, b5, en5, ce5⟩
      rw [List.getElem?_map] at hv
      obtain ⟨y, hy, rfl⟩ := Option.map_eq_some_iff.mp hv
      have hyx := List.mem_of_getElem? hy
      have il := (List.getElem?_eq_some_iff.mp hy).1
      refine ⟨_, rfl, _, rfl, r, ot, xs, g, y, true, rfl, b5.lr, l2, l3, hyx, b5.tb, fun t1 sh1 d1 m1 q1 H6 e6 t6 ht1 hsh1 _ _ _ top1 lo1 hi1 => ?_⟩
      have b6 := b5.ext e6 t6
      refine ⟨t1, _, _, _, rfl, rfl, SqT.of ht1, rfl, sh1, _, rfl, hsh1, fun o1 H7 s7 f7 ho1 => ?_⟩
      have b7 := b6.same s7
      refine ⟨_, rfl, _, rfl, r, ot, xs, g, y, false, rfl, b7.lr, l2, l3, hyx, b7.tb, fun t2 sh2 d2 m2 q2 H8 e8 t8 ht2 hsh2 _ _ _ top2 lo2 hi2 => ?_⟩
      have b8 := b7.ext e8 t8
      refine ⟨t2, _, _, _, rfl, rfl, SqT.of ht2, rfl, sh2, _, rfl, hsh2, fun o2 H9 s9 f9 ho2 => ?_⟩
      have b9 := b8.same s9
      have e59 : ExtN H5 H9 := ((e6.trans (ExtN.of s7)).trans e8).trans (ExtN.of s9)
      have en9 := en5.mv (H' := H9) (fun _ _ z => e59 _ _ z fun _ q => nomatch q) (fun _ z => e59 _ _ z fun _ q => nomatch q)
      have ce9 := Cel.extN ce5 e59
      have ho19 : H9 o1 = some (tupP (pr (Rat.divInt m1 840))) := (e8.trans (ExtN.of s9)) _ _ ho1 fun _ q => nomatch q
      unfold tupP at ho2
      refine ⟨_, _, rfl, ?_⟩
      refine ⟨_, rfl, Or.inl ⟨rfl, _, SqL.of en9.l⟩, _, rfl, ?_⟩
      refine ⟨_, rfl, o2, _, _, _, rfl, rfl, SqT.of ho2, rfl, _, _, rfl, rfl, _, rfl, o2, _, _, _, rfl, rfl, SqT.of ho2, rfl, by show 2 ≤ sizeLine; decide, fun v2 fv => ?_⟩
      have sv := same_new (o := .tup [V.int (0 - (pr (Rat.divInt m2 840)).1), V.int (pr (Rat.divInt m2 840)).2]) fv
      have hv2 : (upd H9 v2 (.tup [V.int (0 - (pr (Rat.divInt m2 840)).1), V.int (pr (Rat.divInt m2 840)).2])) v2 = some (.tup [V.int (0 - (pr (Rat.divInt m2 840)).1), V.int (pr (Rat.divInt m2 840)).2]) := upd_same
      refine ⟨by show 2 ≤ sizeLine; decide, fun ea fea => ?_⟩
      have sa := same_new (o := .tup [V.ref o1, V.ref v2]) fea
      have s10 := sv.trans sa
      have hea : (upd (upd H9 v2 (.tup [V.int (0 - (pr (Rat.divInt m2 840)).1), V.int (pr (Rat.divInt m2 840)).2])) ea (.tup [V.ref o1, V.ref v2])) ea = some (.tup [V.ref o1, V.ref v2]) := upd_same
      have hv3 := sa _ _ hv2
      have en10 := en9.mv (H' := upd (upd H9 v2 (.tup [V.int (0 - (pr (Rat.divInt m2 840)).1), V.int (pr (Rat.divInt m2 840)).2])) ea (.tup [V.ref o1, V.ref v2])) (fun _ _ z => s10 _ _ z) (fun _ z => s10 _ _ z)
      have b10 := b9.same s10
      have ce10 := ce9.kp (Kp.same s10)
      have ho110 := s10 _ _ ho19
      generalize upd (upd H9 v2 (.tup [V.int (0 - (pr (Rat.divInt m2 840)).1), V.int (pr (Rat.divInt m2 840)).2])) ea (.tup [V.ref o1, V.ref v2]) = H10 at hea hv3 en10 b10 ce10 ho110 ⊢
      have kt : ∀ b ys, H10 b = some (.tup ys) → (upd H10 el (.lst (es.map (fun e => V.ref e.a) ++ [V.ref ea]))) b = some (.tup ys) := fun b ys e => by rw [upd_ne (ne_of e en10.l (by intro z; cases z))]; exact e
      refine ⟨el, _, _, rfl, rfl, en10.l, by rw [List.length_map, en10.n]; exact line_lt (by omega), _, _, _, es ++ [⟨ea, o1, v2, m1, m2⟩], rfl, b10.put en10.l ce10 ntl, ⟨?_, by rw [List.length_append, en10.n]; rfl, fun j e y' hj hy' => ?_⟩, ce10.put ce10.ne.symm⟩
      · rw [upd_same, List.map_append]
        rfl
      · by_cases hji : j < es.length
        · rw [List.getElem?_append_left hji] at hj
          exact (en10.e j e y' hj hy').tup kt
        · rw [List.getElem?_append_right (by omega)] at hj
          have j0 : j - es.length = 0 := by
            have := (List.getElem?_eq_some_iff.mp hj).1
            rw [List.length_singleton] at this
            omega
          rw [j0] at hj
          cases (Option.some.inj hj : (⟨ea, o1, v2, m1, m2⟩ : En) = e)
          have ej : j = i := by have := en10.n; omega
          rw [ej, hy] at hy'
          cases hy'
          exact ⟨kt _ _ hea, kt _ _ ho110, kt _ _ hv3, top1, top2⟩
    rintro σ H5 ⟨v6, v7, v8, es, rfl, b5, en5, ce5⟩
    rw [List.length_map] at en5
    -- the days
    refine ⟨_, rfl, h, 799999999, 51, rfl, b5.held.weak (by decide), by decide, by decide, fun m H6 m0 m1 held6 k6 => ?_⟩
    obtain ⟨k, rfl⟩ : ∃ k : Nat, m = k := ⟨m.toNat, by omega⟩
    have b6 := b5.kp k6 held6
    have en6 := en5.mv (kp_tup k6 b5.held) (kp_lst k6 b5.held el)
    refine ⟨_, _, rfl, rfl, _, rfl, by omega, by omega, ?_⟩
    have ek : (10 + (k : Int)).toNat = 10 + k := by omega
    rw [ek]
    intro D hD
    have nDe : el ≠ D := ne_of_none en6.l hD
    refine lc_range (n := 10 + k) (fun i H' => ∃ qs : List (Addr × List Str), qs.length = i ∧ Days H' xs D qs ∧ (∀ q ∈ qs, q.1 ≠ D) ∧ Held H' h (799999999 - 20 * i) ∧ Kp h H6 H' ∧ Cel h D H') ?_ ?_ ?_
    · exact ⟨[], rfl, ⟨upd_same, fun q hq => nomatch hq⟩, fun q hq => (nomatch hq), b6.held.same (same_new hD), Kp.same (same_new hD), (Cel.of b6.held hD).kp (Kp.same (same_new hD))⟩
    · rintro i Ha hi ⟨qs, ql, da, nq, helda, ka, offa⟩
      have ba := b6.kp ka helda
      refine ⟨rfl, ?_⟩
      refine ⟨_, rfl, _, rfl, h, ot, 799999999 - 20 * (i + 1), xs, rfl, helda.weak (by omega), ba.lr.2.1, ox.ne, nd, by omega, fun o R Hb heldb kb fo hR dyo => ?_⟩
      have hDb := kb.1 _ _ da.l offa.ne
      have offb := offa.kp kb
      have noD : o ≠ D := (ne_of_none da.l fo).symm
      refine ⟨_, hDb, by rw [List.length_map, ql]; exact line_lt (by omega), qs ++ [(o, R)], by simp [ql], ⟨?_, fun q hq => ?_⟩, fun q hq => ?_, heldb.put offb, (ka.trans kb).new hD, offb.put offb.ne.symm⟩
      · rw [upd_same, List.map_append]
        rfl
      · rcases List.mem_append.mp hq with hq | hq
        · obtain ⟨e1, dy'⟩ := da.e q hq
          refine ⟨?_, dy'⟩
          rw [upd_ne (nq q hq)]
          exact kp_lst kb helda _ _ e1
        · rw [List.mem_singleton.mp hq]
          refine ⟨?_, dyo⟩
          rw [upd_ne noD]
          exact hR
      · rcases List.mem_append.mp hq with hq | hq
        · exact nq q hq
        · rw [List.mem_singleton.mp hq]
          exact noD
    rintro Ha ⟨qs, ql, da, nq, helda, ka, offa⟩
    have ba := (b6.kp ka helda).weak (by omega : 700000000 ≤ 799999999 - 20 * (10 + k))
    have ena := en6.mv (kp_tup ka b6.held) (kp_lst ka b6.held el)
    -- a row ahead of them
    refine ⟨fun σ' H' => ∃ (dl : Addr) (qs : List (Addr × List Str)), σ' = [some (.ref a), some (.ref h), some (.ref r), some (.ref ot), some (.ref tl), some (.ref el), v6, v7, v8, some (.ref dl), none, none, none, none, none, none, none, none] ∧ B0 K g xs h r ot tl ts 600000000 H' ∧ Ends H' g xs el es xs.length ∧ Days H' xs dl qs ∧ qs.length ≤ 16000, ?_, ?_⟩
    · refine ⟨_, rfl, h, 699999999, 2, rfl, ba.held.weak (by decide), by decide, by decide, fun r1 Hb x1 x2 heldb kb => ⟨rfl, _, rfl, ?_⟩⟩
      have bb := ba.kp kb heldb
      have enb := ena.mv (kp_tup kb ba.held) (kp_lst kb ba.held el)
      have dab := da.mv (kp_lst kb ba.held D) (fun q _ => kp_lst kb ba.held q.1)
      refine ite2 (fun _ => ?_) (fun _ => ⟨D, qs, rfl, bb.weak (by decide), enb, dab, by omega⟩)
      refine ⟨_, rfl, _, rfl, _, rfl, _, rfl, ot, _, rfl, .inr bb.lr.2.1.sq, h, 699999998, _, rfl, bb.held.weak (by decide), by rw [List.length_map]; omega, by rw [List.length_map]; omega, fun r2 Hc x3 x4 heldc kc => ?_⟩
      rw [List.length_map] at x4
      have bc := bb.kp kc heldc
      have enc := enb.mv (kp_tup kc bb.held) (kp_lst kc bb.held el)
      have dac := dab.mv (kp_lst kc bb.held D) (fun q _ => kp_lst kc bb.held q.1)
      obtain ⟨y, hy, hat⟩ := pick V.str x3 x4
      refine ⟨ot, _, _, _, rfl, rfl, bc.lr.2.1.sq, hat, ?_⟩
      refine ⟨_, rfl, h, 699999997, 2, rfl, bc.held.weak (by decide), by decide, by decide, fun r3 Hd x5 x6 heldd kd => ⟨rfl, ?_⟩⟩
      have bd := bc.kp kd heldd
      have en_d := enc.mv (kp_tup kd bc.held) (kp_lst kd bc.held el)
      have dad := dac.mv (kp_lst kd bc.held D) (fun q _ => kp_lst kd bc.held q.1)
      refine ⟨r, ot, xs, g, y, decide (V.int r3 = V.int 0), rfl, bd.lr, l2, l3, hy, bd.tb, fun t sh l m' q' He ee te ht hsh dl' dq ql' _ _ _ => ?_⟩
      have be := bd.ext ee te
      have ene := en_d.mv (H' := He) (fun _ _ z => ee _ _ z fun _ q => nomatch q) (fun _ z => ee _ _ z fun _ q => nomatch q)
      have dae := dad.mv (H' := He) (fun _ z => ee _ _ z fun _ q => nomatch q) (fun _ _ _ z => ee _ _ z fun _ q => nomatch q)
      refine ⟨t, _, _, _, rfl, rfl, SqT.of ht, rfl, _, rfl, l, D, _, _, rfl, rfl, dl'.1, dae.l, by rw [List.length_map, List.length_map]; exact line_of (by omega), fun nl fnl => ?_⟩
      have sn := same_new (o := .lst (q'.map (fun p => V.ref p.1) ++ qs.map fun q => V.ref q.1)) fnl
      refine ⟨nl, q' ++ qs, rfl, (be.same sn).weak (by decide), ene.mv (fun _ _ z => sn _ _ z) (fun _ z => sn _ _ z), ⟨by rw [upd_same, List.map_append], fun q hq => ?_⟩, by rw [List.length_append]; omega⟩
      rcases List.mem_append.mp hq with hq | hq
      · exact ⟨sn _ _ (dl'.2 q hq).1, dq q hq⟩
      · exact ⟨sn _ _ (dae.e q hq).1, (dae.e q hq).2⟩
    rintro σ' Hb ⟨dl, qs2, rfl, bb, enb, dab, ql2⟩
    clear da ena ba nq ql helda ka offa
    -- the Turns
    refine ⟨_, rfl, ?_⟩
    intro tu dx ntu ndx nne
    have lift : ∀ b o, Hb b = some o → (upd (upd Hb dx (.own tu)) tu (.ins CT dx [])) b = some o := fun b o e => by
      rw [upd_ne (ne_of_none e ntu), upd_ne (ne_of_none e ndx)]
      exact e
    refine ⟨tu, dx, r, ot, xs, g, rfl, upd_same, bb.lr.same lift, fun Hc hd kp ps back fps htu hcd hck hps => ⟨rfl, ?_⟩⟩
    have s34 : Same Hb Hc := fun b o e => back b o (ne_of_none e ntu) (lift b o e)
    have fps' : Hb ps = none := by
      cases e : Hb ps with
      | none => rfl
      | some o => rw [lift ps o e] at fps; cases fps
    have Bc : B1 K CT g xs h r ot tl el dl tu hd kp ps ts es qs2 (fun _ => 0) [] 600000000 Hc :=
      ⟨bb.same s34, enb.mv (fun _ _ z => s34 _ _ z) (fun _ z => s34 _ _ z), dab.mv (fun _ z => s34 _ _ z) (fun _ _ _ z => s34 _ _ z), ⟨dx, htu⟩, hcd, hck, hps, (Cel.of bb.held fps').kp (Kp.same s34), ne_of_none bb.tab.1 fps', ne_of_none enb.l fps', ne_of_none dab.l fps', fun q hq => ne_of_none (dab.e q hq).1 fps'⟩
    clear bb enb dab s34 htu hcd hck hps fps fps' back lift
    refine ⟨_, rfl, dl, rfl, ⟨_, SqL.of Bc.da.l⟩, for_list (K := K) (xs := qs2.map fun q => V.ref q.1) (fun i σ H' => ∃ (v11 v12 v13 : Option V) (hd kp : Addr) (c : Str → Int) (past : List V), σ = [some (.ref a), some (.ref h), some (.ref r), some (.ref ot), some (.ref tl), some (.ref el), v6, v7, v8, some (.ref dl), some (.ref tu), v11, v12, v13, none, none, none, none] ∧
      B1 K CT g xs h r ot tl el dl tu hd kp ps ts es qs2 c past 600000000 H' ∧ past.length = i ∧ Rch g xs c)
      ⟨_, _, _, hd, kp, _, [], rfl, Bc, rfl, .zero⟩ (fun i σ H' _ z => by obtain ⟨_, _, _, _, _, _, _, _, z, _⟩ := z; exact SqL.of z.da.l) ?_ ?_⟩
    · rintro i v σ Hd hv ⟨v11, v12, v13, hd, kp, c, past, rfl, Bd, pl, rch⟩
      rw [List.getElem?_map] at hv
      obtain ⟨q0, hq0, rfl⟩ := Option.map_eq_some_iff.mp hv
      have il := (List.getElem?_eq_some_iff.mp hq0).1
      obtain ⟨hq, dy⟩ := Bd.da.e q0 (List.mem_of_getElem? hq0)
      obtain ⟨dx2, htu2⟩ := id Bd.tr
      refine ⟨_, rfl, tu, dx2, _, rfl, htu2, tr_no _ _ _ _ (by decide +kernel) (by decide +kernel) (by decide +kernel) (by decide +kernel), _, rfl, q0.1, _, rfl, .inl (SqL.of hq), fun lz flz => ?_⟩
      have sl2 := same_new (o := .lst (q0.2.map V.str)) flz
      have Be := Bd.same sl2
      refine ⟨tu, lz, r, ot, hd, kp, ps, xs, q0.2, g, c, past, rfl, Be.tr, Be.b.lr, Be.ch, Be.ck, upd_same, dy, Be.b.tb, Be.pa, by omega, (ne_of_none Bd.pa flz).symm, fun Hh hd' kp' y kT tb1 drv tr1 ch1 ck1 pa1 => ?_⟩
      have Bh := Be.ride kT tb1 tr1 ch1 ck1 pa1
      have rch' := Rch.step rch dy drv
      have rg := rch'.rg g0 nd l3
      generalize nxt q0.2 y c = c' at Bh rch' rg ch1 ck1
      -- the stands
      obtain ⟨dx3, htu3⟩ := id tr1
      refine ⟨_, rfl, tu, dx3, _, rfl, htu3, tr_no _ _ _ _ (by decide +kernel) (by decide +kernel) (by decide +kernel) (by decide +kernel), tu, r, ot, hd', kp', ps, xs, g, _, rfl, tr1, Bh.b.lr, ch1, fun SD Hi kvs si fSD hSD hval => ?_⟩
      have Bi := Bh.same si
      refine ⟨_, rfl, ot, rfl, ⟨_, Bi.b.lr.2.1.sq⟩, fun D hD => lc_tup (fun j H' => ∃ os : List Addr, H' D = some (.lst (os.map V.ref)) ∧ os.length = j ∧ (∀ (k : Nat) (o : Addr) (x : Str), os[k]? = some o → xs[k]? = some x → H' o = some (tupP (pr (Rat.divInt (c' x) 840)))) ∧ Same Hi H')
        ⟨[], upd_same, rfl, fun k o x z => by simp at z, same_new hD⟩ (fun _ H' _ z => by obtain ⟨_, _, _, _, z⟩ := z; exact (Bi.b.lr.2.1.same z).sq) ?_ ?_⟩
      · rintro j x Hj hx ⟨os, hDj, ol, ho, sj⟩
        rw [List.getElem?_map] at hx
        obtain ⟨z, hz, rfl⟩ := Option.map_eq_some_iff.mp hx
        have hzx := List.mem_of_getElem? hz
        have jl := (List.getElem?_eq_some_iff.mp hz).1
        obtain ⟨pz, hv1, hv2⟩ := hval z hzx
        have dg : DGet Hj SD (.str z) (some (.ref pz)) := by
          have := DGet.k (k := Sum.inr z) (sj _ _ hSD)
          rw [hv1] at this
          exact this
        refine ⟨rfl, ?_⟩
        refine ⟨_, rfl, _, rfl, SD, _, rfl, dg, pz, _, rfl, hv2.keep sj, fun pt Hk sk fk hpt => ?_⟩
        have hDk := sk _ _ hDj
        refine ⟨_, hDk, by rw [List.length_map]; exact line_lt (by omega), os ++ [pt], ?_, by rw [List.length_append, ol]; rfl, fun k o x ho' hx' => ?_, fun b o e => ?_⟩
        · rw [upd_same, List.map_append]
          rfl
        · have keep : ∀ {b : Addr} {vs : List V}, Hk b = some (.tup vs) → (upd Hk D (.lst (os.map V.ref ++ [V.ref pt]))) b = some (.tup vs) := fun e => by
            rw [upd_ne (ne_of e hDk (by intro z; cases z))]
            exact e
          by_cases kl : k < os.length
          · rw [List.getElem?_append_left kl] at ho'
            exact keep (sk _ _ (ho k o x ho' hx'))
          · rw [List.getElem?_append_right (by omega)] at ho'
            have k0 : k - os.length = 0 := by
              have := (List.getElem?_eq_some_iff.mp ho').1
              rw [List.length_singleton] at this
              omega
            rw [k0] at ho'
            cases (Option.some.inj ho' : pt = o)
            have ek : k = j := by omega
            rw [ek, hz] at hx'
            cases hx'
            exact keep hpt
        · rw [upd_ne (ne_of_none e hD)]
          exact sk _ _ (sj _ _ e)
      rintro Hj ⟨os, hDj, ol, ho, sj⟩
      rw [List.length_map] at ol
      have Bj := Bi.same sj
      have one : ∀ {k : Nat} {x : Str}, xs[k]? = some x → ∃ o, os[k]? = some o := fun {k x} hx => ⟨_, List.getElem?_eq_getElem (by have := (List.getElem?_eq_some_iff.mp hx).1; omega)⟩
      have bnd : ∀ x ∈ xs, -1680 ≤ c' x ∧ c' x ≤ 1680 := fun x hx => by
        obtain ⟨z, e, z1, z2⟩ := rg.sixth g0 nd l3 hx
        omega
      have b64 : ∀ x ∈ xs, -(2 ^ 64) < (pr (Rat.divInt (c' x) 840)).1 ∧ (pr (Rat.divInt (c' x) 840)).1 < 2 ^ 64 ∧ -(2 ^ 64) < (pr (Rat.divInt (c' x) 840)).2 ∧ (pr (Rat.divInt (c' x) 840)).2 < 2 ^ 64 ∧ 0 < (pr (Rat.divInt (c' x) 840)).2 ∧ (pr (Rat.divInt (c' x) 840)).2.natAbs < 1073741824 := fun x hx => by
        obtain ⟨h1, h2⟩ := bnd x hx
        have z : KM.Sz 20 (Rat.divInt (c' x) 840) := KM.sz_of_low (by decide) (Nat.lt_of_lt_of_le (by omega : (c' x).natAbs < 2 ^ 17) (by decide)) (by decide)
        have s1 : (pr (Rat.divInt (c' x) 840)).1.natAbs < 2 ^ 20 := z.1
        have s2 : (pr (Rat.divInt (c' x) 840)).2.natAbs < 2 ^ 20 := by
          show ((Rat.divInt (c' x) 840).den : Int).natAbs < 2 ^ 20
          rw [Int.natAbs_natCast]
          exact z.2
        have p := KM.pr_bot (Rat.divInt (c' x) 840)
        omega
      -- within the ends
      refine ⟨_, rfl, ot, _, rfl, .inr Bj.b.lr.2.1.sq, _, rfl, by omega, by rw [List.length_map]; omega, ?_⟩
      rw [List.length_map, Int.toNat_natCast]
      intro E2 hE2
      refine lc_range (n := xs.length) (fun j H' => H' E2 = some (.lst []) ∧ Same Hj H') ⟨upd_same, same_new hE2⟩ ?_ ?_
      · rintro j Hk jl ⟨hek, sk⟩
        obtain ⟨x, hx⟩ : ∃ x, xs[j]? = some x := ⟨_, List.getElem?_eq_getElem jl⟩
        have hxx := List.mem_of_getElem? hx
        obtain ⟨o, hoj⟩ := one hx
        obtain ⟨e, hej⟩ : ∃ e, es[j]? = some e := ⟨_, List.getElem?_eq_getElem (by have := Bj.en.n; omega)⟩
        have Bk := Bj.same sk
        have ek := Bk.en.e j e x hej hx
        obtain ⟨q1, q2, q3, q4, _, _⟩ := b64 x hxx
        have tp1 : c' x ≤ e.m1 := by
          have := ek.t1 c' rch'
          rw [if_pos rfl] at this
          exact this
        have tp2 : e.m2 ≤ c' x := by
          have := ek.t2 c' rch'
          rw [if_neg (by decide)] at this
          exact this
        refine ⟨rfl, ?_⟩
        refine ⟨_, rfl, _, rfl, D, _, _, _, rfl, rfl, SqL.of (sk _ _ hDj), (by rw [Int.zero_add]; exact atI_nat (by rw [List.getElem?_map, hoj]; rfl)), _, rfl, _, rfl, el, _, _, _, rfl, rfl, SqL.of Bk.en.l, (by rw [Int.zero_add]; exact atI_nat (by rw [List.getElem?_map, hej]; rfl)), o, e.a, e.o1, e.o2, _, _, _, rfl, sk _ _ (ho j o x hoj hx), ek.a, ek.u, ek.v, q1, q2, q3, q4, pr_840 tp1, ?_, true, rfl, iteF ⟨hek, sk⟩⟩
        have := pr_840 tp2
        show 0 - (pr (Rat.divInt (c' x) 840)).1 * (pr (Rat.divInt e.m2 840)).2 ≤ (0 - (pr (Rat.divInt e.m2 840)).1) * (pr (Rat.divInt (c' x) 840)).2
        rw [Int.sub_mul, Int.zero_mul]
        omega
      rintro Hk ⟨hek, sk⟩
      refine ⟨by show 0 ≤ sizeLine; decide, fun e fe => ?_⟩
      have se := same_new (o := .lst []) fe
      refine ⟨.list [], .list [], Dp.lst (SqL.of (se _ _ hek)) .nil, Dp.lst (SqL.of upd_same) .nil, by decide, by decide, _, rfl, ?_⟩
      have z : (!PyData.eqv (.list []) (.list [])) = false := by simp [PyData.eqv, PyData.eqvAll]
      rw [z]
      refine iteF ?_
      have s2 := sk.trans se
      generalize upd Hk e (.lst []) = Hl at s2
      clear z hek se sk
      -- in the table
      refine ⟨_, rfl, D, rfl, ⟨_, SqL.of (s2 _ _ hDj)⟩, fun T hT => lc_list (K := K) (xs := os.map V.ref) (fun j H' => H' T = some (.lst ((six (xs.take j) c').map V.int)) ∧ Same Hl H') ⟨upd_same, same_new hT⟩ (fun j H' _ z => SqL.of (z.2 _ _ (s2 _ _ hDj))) ?_ ?_⟩
      · rintro j v Hm hv ⟨hTm, sm⟩
        rw [List.getElem?_map] at hv
        obtain ⟨o, hoj, rfl⟩ := Option.map_eq_some_iff.mp hv
        have jl := (List.getElem?_eq_some_iff.mp hoj).1
        obtain ⟨x, hx⟩ : ∃ x, xs[j]? = some x := ⟨_, List.getElem?_eq_getElem (by omega)⟩
        have hxx := List.mem_of_getElem? hx
        obtain ⟨q1, q2, q3, q4, q5, q6⟩ := b64 x hxx
        obtain ⟨zz, ez, z1, z2⟩ := rg.sixth g0 nd l3 hxx
        have hom := sm _ _ (s2 _ _ (ho j o x hoj hx))
        unfold tupP at hom
        refine ⟨o, _, rfl, SqT.of hom, rfl, _, _, rfl, _, _, rfl, rfl, rfl, ?_⟩
        refine ⟨_, rfl, _, rfl, _, _, rfl, rfl, ⟨by omega, q6⟩, _, _, rfl, rfl, cb_l q1 q2, ?_⟩
        refine ⟨_, hTm, by rw [List.length_map]; unfold six; rw [List.length_map, List.length_take]; exact line_lt (by omega), ?_, fun b o e => ?_⟩
        · rw [upd_same]
          unfold six
          have e9 : (pr (Rat.divInt (c' x) 840)).1 * ((6 : Int).fdiv (pr (Rat.divInt (c' x) 840)).2) = (c' x).fdiv 140 := by rw [ez, six_val z1 z2, Int.mul_fdiv_cancel_left zz (by decide)]
          rw [take_one hx, List.map_append, List.map_append]
          show some (HO.lst (_ ++ [V.int ((pr (Rat.divInt (c' x) 840)).1 * ((6 : Int).fdiv (pr (Rat.divInt (c' x) 840)).2))])) = some (HO.lst (_ ++ [V.int ((c' x).fdiv 140)]))
          rw [e9]
        · rw [upd_ne (ne_of_none e hT)]
          exact sm _ _ e
      rintro Hm ⟨hTm, sm⟩
      rw [List.length_map, ol, List.take_length] at hTm
      refine ⟨T, _, rfl, .inl ⟨SqL.of hTm, fun tp ftp => ?_⟩⟩
      have stp := same_new (o := .tup ((six xs c').map V.int)) ftp
      have s3 := (s2.trans sm).trans stp
      have Bn := Bj.same s3
      obtain ⟨e0, he0, ee0⟩ := cov c' rch'
      refine ⟨_, rfl, tI (six xs c'), (ts.map (·.2)).map tI, Dp.tup (SqT.of upd_same) (dp_is _), Dp.lst (SqL.of Bn.b.tab.1) (by rw [List.map_map]; exact dp_tI Bn.b.tab.2), sh_tI _, sh_tIs _, _, rfl, ?_⟩
      have any : (((ts.map (·.2)).map tI).any fun z => PyData.eqv z (tI (six xs c'))) = true := by
        rw [List.any_eq_true]
        refine ⟨tI (six xs c'), List.mem_map.mpr ⟨six xs c', List.mem_map.mpr ⟨e0, he0, ee0⟩, rfl⟩, eq_tI _⟩
      rw [any]
      refine iteF ?_
      exact ⟨_, _, _, hd', kp', c', _, rfl, Bn, by rw [List.length_append, pl]; rfl, rch'⟩
    · rintro σ Hd ⟨v11, v12, v13, hd, kp, c, past, rfl, Bd, pl, rch⟩
      exact hQ Hd
end
end K43
set_option Elab.async false
set_option linter.all false
set_option maxRecDepth 100000
set_option maxHeartbeats 0
namespace K43
open PySem PySem.Spec PyProof.Rows L2
open C8 (Cal Mak Met pe_c pe_mk pe_mt pe_mt0)
def fa : List He.Fa := [.glo "is_whole", .glo "is_between", .glo "is_name", .glo "is_order", .glo "is_rule", .glo "is_small_rule", .glo "sets_of", .glo "row_of", .glo "common_part", .glo "names_of", .glo "first_memory", .glo "least_driver", .glo "driver_by", .glo "parts_behind", .glo "memory_behind", .glo "check_least", .glo "rows_to", .glo "reached", .glo "farthest", .glo "_law_held", .glo "_law_draw", .glo "_law_names", .glo "_law_pair", .glo "_law_day", .glo "_law_in_bound", .glo "_law_least", .glo "law", .free "isinstance", .free "int", .free "bool", .free "abs", .free "list", .free "range", .free "len", .free "str", .free "all", .free "tuple", .free "set", .free "zip", .free "min", .free "enumerate", .free "max", .free "sorted", .glo "Share", .cls "Share", .mkr "Share", .glo "Turns", .cls "Turns", .mkr "Turns", .noat "Share" "top", .noat "Share" "bottom", .noat "Turns" "rule", .noat "Turns" "held", .noat "Turns" "kept", .noat "Turns" "past", .meth "Turns" "check_riders", .meth "Turns" "who", .meth "Turns" "ride", .meth "Turns" "stands", .int "LONGEST_NAME" 8, .int "MOST_NAMES" 8, .int "MOST_GRAIN" 1000, .int "RIDE_PARTS" 840, .int "SIXTH" 140]
def xk (K : PySem.W.Frag) : Bool := (fun K => GX.isB K (He.ga K "Share")) K
abbrev R : PySem.W.OpenRow := PySem.W.OpenLaw.row PySem.Challenge.rw_rideturns_k43_whole_no_row_leads_farther
def tf : List He.Defn := [("least_driver", none)]
abbrev hk : PySem.W.Hook := He.hookX 6 fa fn [] tf xk
def ob (s : PySem.W.SharedT) : He.AlX := He.obsX 6 fa fn [] tf xk (HandSHeadRun.getT s)
theorem ob_eq (s : PySem.W.SharedT) : ob s = hk.obs s.abs := He.obsX_eq (HandSHeadRun.getT_eq s)
abbrev loose : List Str := [("_wall" : Str), ("NoKind" : Str), ("Nought" : Str), ("NoName" : Str), ("NoRule" : Str), ("LONGEST_NAME" : Str), ("is_whole" : Str), ("is_between" : Str), ("is_name" : Str), ("MOST_NAMES" : Str), ("MOST_GRAIN" : Str), ("is_order" : Str), ("is_rule" : Str), ("is_small_rule" : Str), ("sets_of" : Str), ("row_of" : Str), ("common_part" : Str), ("Share" : Str), ("RIDE_PARTS" : Str), ("names_of" : Str), ("first_memory" : Str), ("least_driver" : Str), ("driver_by" : Str), ("parts_behind" : Str), ("line_behind" : Str), ("rounds_behind" : Str), ("memory_behind" : Str), ("Turns" : Str), ("SIXTH" : Str), ("check_least" : Str), ("rows_to" : Str), ("reached" : Str), ("farthest" : Str), ("_law_held" : Str), ("_law_draw" : Str), ("_law_names" : Str), ("_law_pair" : Str), ("_law_day" : Str), ("_law_in_bound" : Str), ("_law_least" : Str)]
theorem run_ (w : World) : HandSHeadRun.RunEq R (PySem.W.view R.prog [47]) hk ob 8000 loose w := by
  intro os
  kernel_rfl
theorem cal_of {P : Program} {w : World} {K : PySem.W.Frag} {mg : Str → Option Value} {base : Heap} {f : Addr} {fd : FuncData} {ps : List Str} {k : Nat} {x : Str} {sp : Sp} (F : FnOk P w K mg base CX0 k f fd ps sp) (g : mg x = some (.ref f)) (kp : PySem.W.keepIn K (.ref f) = true) (b : Binds K fd ps []) : Cal P w K mg base k x sp [] :=
  ⟨f, fd, ps, [], F, g, kp, b, .nil⟩
theorem met_of {P : Program} {w : World} {K : PySem.W.Frag} {mg : Str → Option Value} {base : Heap} {f C : Addr} {fd : FuncData} {ps : List Str} {k : Nat} {m : Str} {sp : Sp} (c : Cls K C) (h : Meth K C m f) (F : FnOk P w K mg base CX0 k f fd ps sp) (b : Binds K fd ps []) : Met P w K mg base k C m sp [] :=
  ⟨f, fd, ps, [], c, h, F, b, .nil⟩
theorem facts {P : Program} {w : World} {K : PySem.W.Frag} {h h0 : Heap} {mg : Str → Option Value} {f : Addr} (X : K.In h) (G : h.Ns mainGlobals mg) (hfa : mg ("law" : Str) = some (.ref f)) (c : He.SaysX fa fn [] tf xk w h0 K) :
    ∃ fd : FuncData, (∀ (s : Shared) (v : Value), BindsTo s fd ⟨[v], []⟩ [("_law_script", v)]) ∧ ∀ base : Heap, K.In base → base.Ns mainGlobals mg → LamX.TabB base mg (He.cT K ("least_driver", none)).1 (He.cT K ("least_driver", none)).2 → FnOk P w K mg base CX0 8 f fd ["_law_script"] (spLaw K) := by
  have d := c.t.d
  have x := c.more
  have gl : ∀ (i : Nat) (x : Str), fa[i]? = some (.glo x) → mg x = some (.ref (He.ga K x)) := fun i x e => He.glo_ok X G (d.fact i e)
  have fr : ∀ (i : Nat) (x : Str), fa[i]? = some (.free x) → mg x = none := fun i x e => He.free_ok X G (d.fact i e)
  have me : ∀ (i : Nat) (C m : Str), fa[i]? = some (.meth C m) → Meth K (He.ga K C) m (He.ma K (He.ga K C) m) := fun i C m e => He.meth_ok (d.fact i e)
  have gl_is_whole := gl 0 "is_whole" rfl
  have gl_is_between := gl 1 "is_between" rfl
  have gl_is_name := gl 2 "is_name" rfl
  have gl_is_order := gl 3 "is_order" rfl
  have gl_is_rule := gl 4 "is_rule" rfl
  have gl_is_small_rule := gl 5 "is_small_rule" rfl
  have gl_sets_of := gl 6 "sets_of" rfl
  have gl_row_of := gl 7 "row_of" rfl
  have gl_common_part := gl 8 "common_part" rfl
  have gl_names_of := gl 9 "names_of" rfl
  have gl_first_memory := gl 10 "first_memory" rfl
  have gl_least_driver := gl 11 "least_driver" rfl
  have gl_driver_by := gl 12 "driver_by" rfl
  have gl_parts_behind := gl 13 "parts_behind" rfl
  have gl_memory_behind := gl 14 "memory_behind" rfl
  have gl_check_least := gl 15 "check_least" rfl
  have gl_rows_to := gl 16 "rows_to" rfl
  have gl_reached := gl 17 "reached" rfl
  have gl_farthest := gl 18 "farthest" rfl
  have gl__law_held := gl 19 "_law_held" rfl
  have gl__law_draw := gl 20 "_law_draw" rfl
  have gl__law_names := gl 21 "_law_names" rfl
  have gl__law_pair := gl 22 "_law_pair" rfl
  have gl__law_day := gl 23 "_law_day" rfl
  have gl__law_in_bound := gl 24 "_law_in_bound" rfl
  have gl__law_least := gl 25 "_law_least" rfl
  have gl_law := gl 26 "law" rfl
  have fr_isinstance := fr 27 "isinstance" rfl
  have fr_int := fr 28 "int" rfl
  have fr_bool := fr 29 "bool" rfl
  have fr_abs := fr 30 "abs" rfl
  have fr_list := fr 31 "list" rfl
  have fr_range := fr 32 "range" rfl
  have fr_len := fr 33 "len" rfl
  have fr_str := fr 34 "str" rfl
  have fr_all := fr 35 "all" rfl
  have fr_tuple := fr 36 "tuple" rfl
  have fr_set := fr 37 "set" rfl
  have fr_zip := fr 38 "zip" rfl
  have fr_min := fr 39 "min" rfl
  have fr_enumerate := fr 40 "enumerate" rfl
  have fr_max := fr 41 "max" rfl
  have fr_sorted := fr 42 "sorted" rfl
  have gl_Share := gl 43 "Share" rfl
  have cls_Share := He.cls_ok (d.fact 44 (f := .cls "Share") rfl)
  have mk_Share := He.mkr_ok (d.fact 45 (f := .mkr "Share") rfl)
  have gl_Turns := gl 46 "Turns" rfl
  have cls_Turns := He.cls_ok (d.fact 47 (f := .cls "Turns") rfl)
  have mk_Turns := He.mkr_ok (d.fact 48 (f := .mkr "Turns") rfl)
  have no_Share_top := He.noat_ok (d.fact 49 (f := .noat "Share" "top") rfl)
  have no_Share_bottom := He.noat_ok (d.fact 50 (f := .noat "Share" "bottom") rfl)
  have no_Turns_rule := He.noat_ok (d.fact 51 (f := .noat "Turns" "rule") rfl)
  have no_Turns_held := He.noat_ok (d.fact 52 (f := .noat "Turns" "held") rfl)
  have no_Turns_kept := He.noat_ok (d.fact 53 (f := .noat "Turns" "kept") rfl)
  have no_Turns_past := He.noat_ok (d.fact 54 (f := .noat "Turns" "past") rfl)
  have me_Turns_check_riders := me 55 "Turns" "check_riders" rfl
  have me_Turns_who := me 56 "Turns" "who" rfl
  have me_Turns_ride := me 57 "Turns" "ride" rfl
  have me_Turns_stands := me 58 "Turns" "stands" rfl
  have val_LONGEST_NAME := He.int_ok X G (d.fact 59 (f := .int "LONGEST_NAME" 8) rfl)
  have val_MOST_NAMES := He.int_ok X G (d.fact 60 (f := .int "MOST_NAMES" 8) rfl)
  have val_MOST_GRAIN := He.int_ok X G (d.fact 61 (f := .int "MOST_GRAIN" 1000) rfl)
  have val_RIDE_PARTS := He.int_ok X G (d.fact 62 (f := .int "RIDE_PARTS" 840) rfl)
  have val_SIXTH := He.int_ok X G (d.fact 63 (f := .int "SIXTH" 140) rfl)
  obtain ⟨fd_is_whole, D_is_whole⟩ := d.def_ 5 (d := d_is_whole) rfl
  obtain ⟨fd_is_between, D_is_between⟩ := d.def_ 6 (d := d_is_between) rfl
  obtain ⟨fd_is_name, D_is_name⟩ := d.def_ 7 (d := d_is_name) rfl
  obtain ⟨fd_is_order, D_is_order⟩ := d.def_ 8 (d := d_is_order) rfl
  obtain ⟨fd_is_rule, D_is_rule⟩ := d.def_ 9 (d := d_is_rule) rfl
  obtain ⟨fd_is_small_rule, D_is_small_rule⟩ := d.def_ 10 (d := d_is_small_rule) rfl
  obtain ⟨fd_sets_of, D_sets_of⟩ := d.def_ 11 (d := d_sets_of) rfl
  obtain ⟨fd_row_of, D_row_of⟩ := d.def_ 12 (d := d_row_of) rfl
  obtain ⟨fd_common_part, D_common_part⟩ := d.def_ 13 (d := d_common_part) rfl
  obtain ⟨fd_Share_init, D_Share_init⟩ := d.def_ 14 (d := d_Share_init) rfl
  obtain ⟨fd_names_of, D_names_of⟩ := d.def_ 24 (d := d_names_of) rfl
  obtain ⟨fd_first_memory, D_first_memory⟩ := d.def_ 25 (d := d_first_memory) rfl
  obtain ⟨fd_least_driver, D_least_driver⟩ := d.def_ 26 (d := d_least_driver) rfl
  obtain ⟨fd_driver_by, D_driver_by⟩ := d.def_ 27 (d := d_driver_by) rfl
  obtain ⟨fd_parts_behind, D_parts_behind⟩ := d.def_ 28 (d := d_parts_behind) rfl
  obtain ⟨fd_memory_behind, D_memory_behind⟩ := d.def_ 31 (d := d_memory_behind) rfl
  obtain ⟨fd_Turns_init, D_Turns_init⟩ := d.def_ 32 (d := d_Turns_init) rfl
  obtain ⟨fd_Turns_check_riders, D_Turns_check_riders⟩ := d.def_ 35 (d := d_Turns_check_riders) rfl
  obtain ⟨fd_Turns_who, D_Turns_who⟩ := d.def_ 36 (d := d_Turns_who) rfl
  obtain ⟨fd_Turns_ride, D_Turns_ride⟩ := d.def_ 37 (d := d_Turns_ride) rfl
  obtain ⟨fd_Turns_stands, D_Turns_stands⟩ := d.def_ 38 (d := d_Turns_stands) rfl
  obtain ⟨fd_check_least, D_check_least⟩ := d.def_ 41 (d := d_check_least) rfl
  obtain ⟨fd_rows_to, D_rows_to⟩ := d.def_ 42 (d := d_rows_to) rfl
  obtain ⟨fd_reached, D_reached⟩ := d.def_ 43 (d := d_reached) rfl
  obtain ⟨fd_farthest, D_farthest⟩ := d.def_ 44 (d := d_farthest) rfl
  obtain ⟨fd_l_held, D_l_held⟩ := d.def_ 45 (d := d_l_held) rfl
  obtain ⟨fd_l_draw, D_l_draw⟩ := d.def_ 46 (d := d_l_draw) rfl
  obtain ⟨fd_l_names, D_l_names⟩ := d.def_ 47 (d := d_l_names) rfl
  obtain ⟨fd_l_pair, D_l_pair⟩ := d.def_ 48 (d := d_l_pair) rfl
  obtain ⟨fd_l_day, D_l_day⟩ := d.def_ 49 (d := d_l_day) rfl
  obtain ⟨fd_l_in_bound, D_l_in_bound⟩ := d.def_ 50 (d := d_l_in_bound) rfl
  obtain ⟨fd_l_least, D_l_least⟩ := d.def_ 51 (d := d_l_least) rfl
  obtain ⟨fd_law, D_law⟩ := d.def_ 52 (d := d_law) rfl
  have e := hfa.symm.trans gl_law
  cases e
  have bL := FunD.bindsA (ps := ["_law_script"]) D_law fun _ _ _ _ _ _ us hl => match us, hl with | [_], _ => rfl
  refine ⟨fd_law, fun s v => bL s [v] rfl, fun base _ _ TB => ?_⟩
  have b_is_whole : Binds K fd_is_whole ["thing"] [] := D_is_whole.bindsN fun _ _ _ _ _ _ us hl => match us, hl with | [_], _ => rfl
  have b_is_between : Binds K fd_is_between ["thing", "low", "high"] [] := D_is_between.bindsN fun _ _ _ _ _ _ us hl => match us, hl with | [_, _, _], _ => rfl
  have b_is_name : Binds K fd_is_name ["thing"] [] := D_is_name.bindsN fun _ _ _ _ _ _ us hl => match us, hl with | [_], _ => rfl
  have b_is_order : Binds K fd_is_order ["thing"] [] := D_is_order.bindsN fun _ _ _ _ _ _ us hl => match us, hl with | [_], _ => rfl
  have b_is_rule : Binds K fd_is_rule ["thing"] [] := D_is_rule.bindsN fun _ _ _ _ _ _ us hl => match us, hl with | [_], _ => rfl
  have b_is_small_rule : Binds K fd_is_small_rule ["thing"] [] := D_is_small_rule.bindsN fun _ _ _ _ _ _ us hl => match us, hl with | [_], _ => rfl
  have b_sets_of : Binds K fd_sets_of ["order"] [] := D_sets_of.bindsN fun _ _ _ _ _ _ us hl => match us, hl with | [_], _ => rfl
  have b_row_of : Binds K fd_row_of ["sets"] [] := D_row_of.bindsN fun _ _ _ _ _ _ us hl => match us, hl with | [_], _ => rfl
  have b_common_part : Binds K fd_common_part ["one", "other"] [] := D_common_part.bindsN fun _ _ _ _ _ _ us hl => match us, hl with | [_, _], _ => rfl
  have b_Share_init : Binds K fd_Share_init ["self", "top", "bottom"] [] := by
    obtain ⟨ds, h1, h2⟩ := D_Share_init.binds1 (ps := ["self", "top", "bottom"]) 3 1 (List.cons_ne_nil _ _) rfl (fun T kV doc pm an cdv ct us its hl h1 => match us, hl, its, h1 with | [_, _, _], _, [_], _ => ⟨_, rfl, rfl⟩)
    cases h1
    exact h2
  obtain ⟨ds1_Share_init, v1_Share_init, b1_Share_init⟩ := D_Share_init.binds1 (ps := ["self", "top", "bottom"]) 2 0 (List.cons_ne_nil _ _) rfl (fun T kV doc pm an cdv ct us its hl h1 => match us, hl, its, h1 with | [_, _], _, [_], _ => ⟨_, rfl, rfl⟩)
  have b_names_of : Binds K fd_names_of ["order", "riders"] [] := D_names_of.bindsN fun _ _ _ _ _ _ us hl => match us, hl with | [_, _], _ => rfl
  have b_first_memory : Binds K fd_first_memory ["rule"] [] := D_first_memory.bindsN fun _ _ _ _ _ _ us hl => match us, hl with | [_], _ => rfl
  have b_least_driver : Binds K fd_least_driver ["rule", "held", "names"] [] := D_least_driver.bindsN fun _ _ _ _ _ _ us hl => match us, hl with | [_, _, _], _ => rfl
  have b_driver_by : Binds K fd_driver_by ["rule", "memory", "riders"] [] := D_driver_by.bindsN fun _ _ _ _ _ _ us hl => match us, hl with | [_, _, _], _ => rfl
  have b_parts_behind : Binds K fd_parts_behind ["order", "held", "riders", "driver"] [] := D_parts_behind.bindsN fun _ _ _ _ _ _ us hl => match us, hl with | [_, _, _, _], _ => rfl
  have b_memory_behind : Binds K fd_memory_behind ["rule", "memory", "riders"] [] := D_memory_behind.bindsN fun _ _ _ _ _ _ us hl => match us, hl with | [_, _, _], _ => rfl
  have b_Turns_init : Binds K fd_Turns_init ["self", "rule"] [] := D_Turns_init.bindsN fun _ _ _ _ _ _ us hl => match us, hl with | [_, _], _ => rfl
  have b_Turns_check_riders : Binds K fd_Turns_check_riders ["self", "riders"] [] := D_Turns_check_riders.bindsN fun _ _ _ _ _ _ us hl => match us, hl with | [_, _], _ => rfl
  have b_Turns_who : Binds K fd_Turns_who ["self", "riders"] [] := D_Turns_who.bindsN fun _ _ _ _ _ _ us hl => match us, hl with | [_, _], _ => rfl
  have b_Turns_ride : Binds K fd_Turns_ride ["self", "riders"] [] := D_Turns_ride.bindsN fun _ _ _ _ _ _ us hl => match us, hl with | [_, _], _ => rfl
  have b_Turns_stands : Binds K fd_Turns_stands ["self"] [] := D_Turns_stands.bindsN fun _ _ _ _ _ _ us hl => match us, hl with | [_], _ => rfl
  have b_check_least : Binds K fd_check_least ["rule"] [] := D_check_least.bindsN fun _ _ _ _ _ _ us hl => match us, hl with | [_], _ => rfl
  have b_rows_to : Binds K fd_rows_to ["rule"] [] := D_rows_to.bindsN fun _ _ _ _ _ _ us hl => match us, hl with | [_], _ => rfl
  have b_reached : Binds K fd_reached ["rule"] [] := D_reached.bindsN fun _ _ _ _ _ _ us hl => match us, hl with | [_], _ => rfl
  have b_farthest : Binds K fd_farthest ["rule", "name", "owed"] [] := by
    obtain ⟨ds, h1, h2⟩ := D_farthest.binds1 (ps := ["rule", "name", "owed"]) 3 1 (List.cons_ne_nil _ _) rfl (fun T kV doc pm an cdv ct us its hl h1 => match us, hl, its, h1 with | [_, _, _], _, [_], _ => ⟨_, rfl, rfl⟩)
    cases h1
    exact h2
  obtain ⟨ds1_farthest, v1_farthest, b1_farthest⟩ := D_farthest.binds1 (ps := ["rule", "name", "owed"]) 2 0 (List.cons_ne_nil _ _) rfl (fun T kV doc pm an cdv ct us its hl h1 => match us, hl, its, h1 with | [_, _], _, [_], _ => ⟨_, rfl, rfl⟩)
  have b_l_held : Binds K fd_l_held ["_law_script"] [] := D_l_held.bindsN fun _ _ _ _ _ _ us hl => match us, hl with | [_], _ => rfl
  have b_l_draw : Binds K fd_l_draw ["_law_held_here", "_law_many"] [] := D_l_draw.bindsN fun _ _ _ _ _ _ us hl => match us, hl with | [_, _], _ => rfl
  have b_l_names : Binds K fd_l_names ["_law_held_here", "_law_many"] [] := D_l_names.bindsN fun _ _ _ _ _ _ us hl => match us, hl with | [_, _], _ => rfl
  have b_l_pair : Binds K fd_l_pair ["_law_share"] [] := D_l_pair.bindsN fun _ _ _ _ _ _ us hl => match us, hl with | [_], _ => rfl
  have b_l_day : Binds K fd_l_day ["_law_held_here", "_law_order"] [] := D_l_day.bindsN fun _ _ _ _ _ _ us hl => match us, hl with | [_, _], _ => rfl
  have b_l_in_bound : Binds K fd_l_in_bound ["_law_pair_here", "_law_bound"] [] := D_l_in_bound.bindsN fun _ _ _ _ _ _ us hl => match us, hl with | [_, _], _ => rfl
  have b_l_least : Binds K fd_l_least ["_law_held_here", "_law_most"] [] := D_l_least.bindsN fun _ _ _ _ _ _ us hl => match us, hl with | [_, _], _ => rfl
  have b_law : Binds K fd_law ["_law_script"] [] := D_law.bindsN fun _ _ _ _ _ _ us hl => match us, hl with | [_], _ => rfl
  unfold xk GX.isB at x
  simp only [Bool.and_eq_true, decide_eq_true_eq] at x
  obtain ⟨y1, y2, y3, y4⟩ := x
  have IC : IsC K (He.ga K "Share") := ⟨He.eqO_ok y1, He.eqO_ok y2, y3, y4, by unfold PySem.W.kitOne; rw [if_pos (beq_self_eq_true _)]⟩
  have B : Bl mg := ⟨fr_isinstance, fr_int, fr_bool, fr_abs, fr_list, fr_range, fr_len⟩
  have B2 : Bl2 mg := ⟨fr_str, fr_all, fr_tuple, fr_set, fr_zip, fr_min, fr_enumerate⟩
  have T : Cl K mg (He.ga K "Share") := ⟨cls_Share, no_Share_top, no_Share_bottom, gl_Share⟩
  have TT : ClT K (He.ga K "Turns") := ⟨cls_Turns, no_Turns_rule, no_Turns_held, no_Turns_kept, no_Turns_past⟩
  have cW : CalW P w K mg base := cal_of (ok_whole D_is_whole B) gl_is_whole D_is_whole.kp b_is_whole
  have cBt : CalB P w K mg base := cal_of (ok_between D_is_between cW) gl_is_between D_is_between.kp b_is_between
  have cNa : CalN P w K mg base := cal_of (ok_name D_is_name B B2 val_LONGEST_NAME) gl_is_name D_is_name.kp b_is_name
  have cOr := cal_of (P := P) (w := w) (base := base) (ok_order D_is_order B B2 val_MOST_NAMES cNa) gl_is_order D_is_order.kp b_is_order
  have cRu := cal_of (P := P) (w := w) (base := base) (ok_rule D_is_rule B B2 val_MOST_GRAIN cOr cBt) gl_is_rule D_is_rule.kp b_is_rule
  have cSm := cal_of (P := P) (w := w) (base := base) (ok_sm D_is_small_rule B cRu) gl_is_small_rule D_is_small_rule.kp b_is_small_rule
  have cCl := cal_of (P := P) (w := w) (base := base) (ok_cl D_check_least cSm) gl_check_least D_check_least.kp b_check_least
  have cG : CalG P w K mg base := cal_of (ok_gcd D_common_part B) gl_common_part D_common_part.kp b_common_part
  have MS : MakS P w K mg base (He.ga K "Share") := ⟨_, _, _, _, mk_Share, ok_init D_Share_init cW cG T, T.g, b_Share_init, .nil⟩
  have cNo := cal_of (P := P) (w := w) (base := base) (ok_no D_names_of B2) gl_names_of D_names_of.kp b_names_of
  have cFm := cal_of (P := P) (w := w) (base := base) (ok_fm D_first_memory B2) gl_first_memory D_first_memory.kp b_first_memory
  have cLd := cal_of (P := P) (w := w) (base := base) (ok_ld D_least_driver B2 val_RIDE_PARTS TB) gl_least_driver D_least_driver.kp b_least_driver
  have cDb := cal_of (P := P) (w := w) (base := base) (ok_db D_driver_by cNo cLd) gl_driver_by D_driver_by.kp b_driver_by
  have cPb := cal_of (P := P) (w := w) (base := base) (ok_pb D_parts_behind B B2 val_RIDE_PARTS) gl_parts_behind D_parts_behind.kp b_parts_behind
  have cMb := cal_of (P := P) (w := w) (base := base) (ok_mb D_memory_behind cDb cPb) gl_memory_behind D_memory_behind.kp b_memory_behind
  have cSo := cal_of (P := P) (w := w) (base := base) (ok_so D_sets_of B) gl_sets_of D_sets_of.kp b_sets_of
  have cRo := cal_of (P := P) (w := w) (base := base) (ok_ro D_row_of B) gl_row_of D_row_of.kp b_row_of
  have cRt := cal_of (P := P) (w := w) (base := base) (ok_rt D_rows_to B cFm cSo cMb) gl_rows_to D_rows_to.kp b_rows_to
  have cRe := cal_of (P := P) (w := w) (base := base) (ok_re D_reached B B2 fr_sorted val_SIXTH cCl cRt) gl_reached D_reached.kp b_reached
  have FF := ok_fa (P := P) (w := w) (base := base) D_farthest B B2 fr_max val_RIDE_PARTS MS cCl cRt cRo
  have cFa := cal_of FF gl_farthest D_farthest.kp b_farthest
  have cF1 : Cal P w K mg base 7 "farthest" (spFa K (He.ga K "Share")) [.bl true] := ⟨_, _, _, _, FF, gl_farthest, D_farthest.kp, b1_farthest, v1_farthest⟩
  have MT : Mak P w K mg base 4 "Turns" (He.ga K "Turns") (spTi (He.ga K "Turns")) [] := ⟨_, _, _, _, mk_Turns, ok_ti D_Turns_init B2 TT cRu cFm, gl_Turns, b_Turns_init, .nil⟩
  have mC := met_of (P := P) (w := w) (base := base) TT.cl me_Turns_check_riders (ok_ck D_Turns_check_riders B B2 TT) b_Turns_check_riders
  have mW := met_of TT.cl me_Turns_who (ok_who D_Turns_who TT mC cDb) b_Turns_who
  have mR := met_of TT.cl me_Turns_ride (ok_ride D_Turns_ride TT mW cPb cMb) b_Turns_ride
  have mS := met_of TT.cl me_Turns_stands (ok_st D_Turns_stands B2 TT val_RIDE_PARTS MS) b_Turns_stands
  have cH := cal_of (P := P) (w := w) (base := base) (ok_held D_l_held B) gl__law_held D_l_held.kp b_l_held
  have cD : CalD P w K mg base := cal_of (ok_draw D_l_draw B) gl__law_draw D_l_draw.kp b_l_draw
  have cNm := cal_of (P := P) (w := w) (base := base) (ok_names D_l_names B cD) gl__law_names D_l_names.kp b_l_names
  have cP := cal_of (P := P) (w := w) (base := base) (ok_pair D_l_pair B T IC) gl__law_pair D_l_pair.kp b_l_pair
  have cDy := cal_of (P := P) (w := w) (base := base) (ok_day D_l_day B fr_min cD) gl__law_day D_l_day.kp b_l_day
  have cI := cal_of (P := P) (w := w) (base := base) (ok_ib D_l_in_bound) gl__law_in_bound D_l_in_bound.kp b_l_in_bound
  have cLe := cal_of (P := P) (w := w) (base := base) (ok_le D_l_least B2 cD cNm) gl__law_least D_l_least.kp b_l_least
  exact ok_law D_law B B2 cH cD cLe cRe cFa cF1 cP cDy cI MT mR mS
end K43
open PySem PySem.W PySem.Calls PyProof.Rows
set_option maxRecDepth 100000 in
set_option maxHeartbeats 0 in
theorem PySem.Challenge.cw_rideturns_k43_whole_no_row_leads_farther_holds : PySem.Challenge.rw_rideturns_k43_whole_no_row_leads_farther.Holds := by
  w_on; o_law
  refine HandSHeadRun.head_any (r := OpenLaw.row PySem.Challenge.rw_rideturns_k43_whole_no_row_leads_farther) (q := view (OpenLaw.row PySem.Challenge.rw_rideturns_k43_whole_no_row_leads_farther).prog [47]) (H := K43.hk) (ob := K43.ob) (M := 8000) (loose := K43.loose) (d := HandSHeadRun.topDef (OpenLaw.row PySem.Challenge.rw_rideturns_k43_whole_no_row_leads_farther).prog 47) (kwd := []) K43.ob_eq
    (by kernel_rfl) (fun s => by kernel_rfl) K43.run_ (by kernel_rfl) (by kernel_rfl) (by kernel_rfl) (by rfl) (by first | assumption | decide +kernel) (by decide +kernel) ⟨rfl, rfl, rfl, rfl, rfl, by decide +kernel⟩ ?hw ?hc
  case hw => w_witness2
  case hc =>
    refine LamX.walk_ofTsE (l := PySem.Challenge.rw_rideturns_k43_whole_no_row_leads_farther) (n := 63) (k := 8) (x := "_law_script") (CX := fun _ => L2.CX0) rfl (by decide) (by kernel_rfl) ⟨rfl, by decide, by decide⟩ ?F (fun _ _ _ _ _ z => z)
    intro w mg fa h Y G hmg0
    obtain ⟨K, KX, c⟩ := Y
    have hmg : mg ("law" : PySem.Str) = some (.ref fa) := by
      have e : (HandSHeadRun.topDef (OpenLaw.row PySem.Challenge.rw_rideturns_k43_whole_no_row_leads_farther).prog 47).name = ("law" : PySem.Str) := by kernel_rfl
      rw [← e]
      exact hmg0
    obtain ⟨fd, hb, hF⟩ := K43.facts (P := (PySem.Challenge.rw_rideturns_k43_whole_no_row_leads_farther).prog) (w := w) KX G hmg c
    refine ⟨K, KX, fd, [He.cT K ("least_driver", none)], K43.spLaw K, fun p hp => ?_, fun p hp => ?_, fun p hp => ?_, hb, fun H a ns hl _ hT hS => ⟨a, ns, rfl, hS, hl, fun p hp => ?_, fun _ => rfl⟩, fun base k1 k2 TB => hF base k1 k2 (TB _ (List.mem_singleton.mpr rfl))⟩
    · rw [List.mem_singleton.mp hp]
      exact c.empty _ (List.mem_singleton.mpr rfl)
    · rw [List.mem_singleton.mp hp]
      exact c.out _ (List.mem_singleton.mpr rfl)
    · rw [List.mem_singleton.mp hp]
      exact PySem.W.codeHd_of_K KX (c.hd _ (List.mem_singleton.mpr rfl))
    · rw [List.mem_singleton.mp hp]
      exact LamX.TabS.nil (hT _ (List.mem_singleton.mpr rfl))
