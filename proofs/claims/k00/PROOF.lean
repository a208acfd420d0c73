import PyProof.Rows.All
import Wide.All
import OpenK.AllK
import Wide.FinOn
import PyProof.EqAt
import PyProof.EqKinds
import PyProof.TupleCall
import KE.KLam
import KE.KExcIs
import HandS.ForMost
import HandS.Exc
import HandS.ExcInit
import HandS.Flow
import HandS.Wide
import HandS.Codes
import HandS.IsInst
import HandS.Defaults
import HandS.Lambda
import HandS.EndTab
import HandS.HeadWalk
import HandS.Head0
import HandS.Head1
import HandS.Head2
import HandS.HeadEnd
import HandS.HeadHook1
import HandS.HeadHook2
import HandS.HeadHook3
import HandS.HeadHook4
import HandS.MakeKwOnly
import HandS.ExcField
import HandS.Nested
import HandS.RaiseMore
import KE.KNestM
import PySem.Challenge.RW_spoilorder_k00_errors_with_any_values
set_option Elab.async false
set_option linter.all false
set_option maxRecDepth 100000
set_option maxHeartbeats 0
namespace KZ
open PySem PySem.Spec PyProof.Rows L2
/-! ## the text by its places -/
def topAt (i : Nat) : Stmt := PySem.Challenge.pw_spoilorder_k00_errors_with_any_values.main.body.getD i (.Pass ⟨0, 0, 0, 0⟩)

abbrev s36 : Stmt := topAt 36 -- _law_jar
abbrev s37 : Stmt := topAt 37 -- _law_take
abbrev s38 : Stmt := topAt 38 -- _law_of
abbrev s39 : Stmt := topAt 39 -- _law_odd
abbrev s40 : Stmt := topAt 40 -- _law_makers
abbrev s41 : Stmt := topAt 41 -- _law_named
abbrev s42 : Stmt := topAt 42 -- _law_marks
abbrev s43 : Stmt := topAt 43 -- _law_kept
abbrev s44 : Stmt := topAt 44 -- _law_right
abbrev s45 : Stmt := topAt 45 -- law
abbrev mkInit (i : Nat) : Stmt := inClass (topAt (i + 2)) 0
/-- the errors, each with the name of its argument -/
def errs : List (Str × Str) := [((("BadShop" : Str)), ("value" : Str)), ((("NoCheck" : Str)), ("value" : Str)), ((("BadLog" : Str)), ("value" : Str)), ((("BadFilling" : Str)), ("value" : Str)), ((("NoThing" : Str)), ("value" : Str)), ((("BadWorld" : Str)), ("value" : Str)), ((("BadMany" : Str)), ("value" : Str)), ((("NoWorker" : Str)), ("value" : Str)), ((("NoItem" : Str)), ("value" : Str)), ((("BadOrder" : Str)), ("value" : Str)), ((("OtherItems" : Str)), ("value" : Str)), ((("TooMany" : Str)), ("number" : Str)), ((("NotFailing" : Str)), ("value" : Str)), ((("BadText" : Str)), ("line" : Str)), ((("NoWorld" : Str)), ("value" : Str)), ((("BadHeld" : Str)), ("value" : Str)), ((("NoLetter" : Str)), ("value" : Str)), ((("NotTold" : Str)), ("value" : Str)), ((("NoSample" : Str)), ("value" : Str)), ((("BadItems" : Str)), ("value" : Str)), ((("BadWorkers" : Str)), ("value" : Str)), ((("Full" : Str)), ("value" : Str)), ((("BadRuns" : Str)), ("value" : Str)), ((("BadTrials" : Str)), ("value" : Str)), ((("BadQuestion" : Str)), ("value" : Str)), ((("BadMost" : Str)), ("value" : Str)), ((("BadPrices" : Str)), ("value" : Str)), ((("BadOutcome" : Str)), ("value" : Str)), ((("NoEvent" : Str)), ("value" : Str)), ((("BadChecks" : Str)), ("value" : Str)), ((("NothingToUndo" : Str)), ("value" : Str)), ((("BadOffers" : Str)), ("value" : Str)), ((("BadLine" : Str)), ("value" : Str))]
/-! ## what the head tells of an error's class -/
/-- the class's own object, as a Bool -/
def oexB (K : PySem.W.Frag) (C : Addr) : Bool := match K.lookup C with
  | some ⟨.type ty, _, .cls cd, sl⟩ => (match cd.mro, sl.toList with
    | .ref B :: bm, [_, _, _, _, some (.builtin n), _] => ty == "type" && (B == C && (n == "ValueError.__new__" && (!cd.hasDel && (cd.hasDict && PySem.HandSPX.refsVE bm))))
    | _, _ => false)
  | _ => false
def bi (n : String) : Option (Option Value) := some (some (.builtin n))
/-- all that isinstance, making and reading ask of the class x with the field f -/
def errB (K : PySem.W.Frag) (x f : Str) : Bool :=
  let C := He.ga K x
  oexB K C && (He.eqO (PySem.W.findIn K (.ref C) "__setattr__") (bi "object.__setattr__") && (decide (PySem.W.subIn K (.ref C) (.type "BaseException") = some true) &&
  (decide (PySem.W.typeIn K (.ref C) = some (.type "type")) && (PySem.W.keepIn K (.ref C) && (He.eqO (PySem.W.findIn K (.ref C) f) (some none) &&
  (He.eqO (PySem.W.findIn K (.ref C) "__init__") (some (some (.ref (He.ma K C "__init__")))) && (decide (PySem.W.typeIn K (.ref (He.ma K C "__init__")) = some (.type "function")) &&
  (He.eqO (PySem.W.findIn K (.ref C) "__getattribute__") (bi "BaseException.__getattribute__") && (He.eqO (PySem.W.findIn K (.ref C) "__getattr__") (some none) &&
  (He.eqO (PySem.W.findIn K (.ref C) "__class__") (bi "object.__class__") && (decide (PySem.W.mroIn K C (.type "object") = some true) &&
  (decide (PySem.W.kitOne K (.ref C) (.type "ValueError") = some true) && (decide (PySem.W.kitOne K (.ref C) (.ref (He.ga K "SpoilError")) = some true) && PySem.W.hasDictIn K C)))))))))))))
/-- which error is an instance of which -/
def pairsB (K : PySem.W.Frag) : Bool := errs.all fun p => errs.all fun q => decide (PySem.W.kitOne K (.ref (He.ga K p.1)) (.ref (He.ga K q.1)) = some (decide (p.1 = q.1)))
def more (K : PySem.W.Frag) : Bool := (errs.all fun p => errB K p.1 p.2) && (pairsB K &&
  (He.eqO (PySem.W.specialIn K (.builtin "object.__class__") "__get__") (bi "getset_descriptor.__get__") && decide (PySem.W.takesIn K (.builtin "object.__class__") = some true)))
def defD (i : Nat) (x : Str) : He.DefD := ⟨(x, none), x, x, defArgs (topAt i), defBody (topAt i), defScope (topAt i), [], []⟩
def iniD (i : Nat) (x : Str) : He.DefD := ⟨(x, some "__init__"), "__init__", x ++ ".__init__", defArgs (mkInit i), defBody (mkInit i), defScope (mkInit i), [], []⟩

def fn : List He.DefD := [defD 36 "_law_jar", defD 37 "_law_take", defD 38 "_law_of", defD 39 "_law_odd", defD 40 "_law_makers", defD 41 "_law_named", defD 42 "_law_marks", defD 43 "_law_kept", defD 44 "_law_right", defD 45 "law"]
def fa : List He.Fa := [.glo "_law_jar", .glo "_law_take", .glo "_law_of", .glo "_law_odd", .glo "_law_makers", .glo "_law_named", .glo "_law_marks", .glo "_law_kept", .glo "_law_right", .glo "law", .glo "SpoilError", .free "len", .free "int", .free "abs", .free "range", .free "repr", .free "isinstance", .free "ValueError", .free "max", .free "min", .free "all"]
abbrev ORow : PySem.W.OpenRow := PySem.W.OpenLaw.row PySem.Challenge.rw_spoilorder_k00_errors_with_any_values
def looseA : List Str := ["__name__", "SpoilError", "BadShop", "NoCheck", "BadLog", "BadFilling", "NoThing", "BadWorld", "BadMany", "NoWorker", "NoItem", "BadOrder", "OtherItems", "TooMany", "NotFailing", "BadText", "NoWorld", "BadHeld"]
def looseB : List Str := ["NoLetter", "NotTold", "NoSample", "BadItems", "BadWorkers", "Full", "BadRuns", "BadTrials", "BadQuestion", "BadMost", "BadPrices", "BadOutcome", "NoEvent", "BadChecks", "NothingToUndo", "BadOffers", "BadLine", "_law_jar", "_law_take", "_law_of", "_law_odd", "_law_makers", "_law_named", "_law_marks", "_law_kept", "_law_right"]
end KZ
namespace PySem
namespace KZx
open PySem.W PySem.Calls PyProof.Rows PySem.HandSPX
section
variable {prog : Program} {w : World} {A : Around} {E : Value → Shared → Prop} {R : Result → Shared → Prop} {hp : Heap} {gs : Array GenState} {dr : Drawn} {tk : Nat} {os : OsState}
variable {nm q : Str} {C N : Addr} {bs bm bmB : List Value} {hdct : Bool} {sn : List Str} {sub : List Value} {ab : Bool} {col : Option Bool} {dd : Option Addr} {k0 k1 k2 k3 k5 : Option Value} {B newId initId : String}
abbrev ClsO (nm q : Str) (C N : Addr) (bs bm : List Value) (hdct : Bool) (sn : List Str) (sub : List Value) (ab : Bool) (col : Option Bool) (dd : Option Addr) (k0 k1 k2 k3 k5 : Option Value) (newId : String) := excClassObj nm q C N bs bm hdct sn sub ab col dd k0 k1 k2 k3 k5 newId
/-- C's __new__ with keywords beside -/
theorem newK (F : ExcBaseFacts B newId initId bmB) (same : ∀ X : String, bm.contains (.type X) = bmB.contains (.type X)) {rest : List Value} {kw : List (Str × Value)}
    (cls : hp.get? C = some (ClsO nm q C N bs bm hdct sn sub ab col dd k0 k1 k2 k3 k5 newId))
    (fin : R (.ok (.ret (.ref (hp.objs.size + 1)))) ⟨(hp.push (kdv_tup rest)).push (excO C hp.objs.size), gs, dr, tk, os⟩) (short : rest.length ≤ sizeLine) :
    codeAny (model prog w) A (.builtin newId ⟨.ref C :: rest, kw⟩) R ⟨hp, gs, dr, tk, os⟩ := by
  have e0 := F.ends
  have inB : (Value.ref C :: bm).contains (.type B) = true := by rw [List.contains_cons, same, F.hasB, Bool.or_true]
  have inA : (Value.ref C :: bm).contains (.type "AttributeError") = false := by rw [List.contains_cons, same, F.noAttr]; rfl
  have inN : (Value.ref C :: bm).contains (.type "NameError") = false := by rw [List.contains_cons, same, F.noName]; rfl
  refine codeAny_builtinAt F.entry ?_
  unfold Builtin.«BaseException.__new__»
  refine wpAt_bind ?_
  show wpAt _ _ _ (stack >>= _) _ _ _
  refine wpAt_bind (wpAt_stack fun up under => wpAt_of_wpAny ?_)
  wp_walk
  refine wpAt_of_wpAny ?_
  rw [F.owner]
  repeat (first | with_reducible refine wpAny_madeHere_exc F.canon cls ?_ | with_reducible refine wpAny_loadPart_at cls ?_ | (with_reducible refine wpAny_isSubtype_exc cls ?_; first | rw [inB] | rw [inA] | rw [inN]) | wp_step)
  show R _ _
  rw [Heap.size_push]
  exact fin
theorem checkK (F : ExcBaseFacts B newId initId bmB) (same : ∀ X : String, bm.contains (.type X) = bmB.contains (.type X)) {rest : List Value} {kw : List (Str × Value)} {Q : Unit → Shared → Prop}
    (cls : hp.get? C = some (ClsO nm q C N bs bm hdct sn sub ab col dd k0 k1 k2 k3 k5 newId)) (fin : Q () ⟨hp, gs, dr, tk, os⟩) : wpAny (model prog w) A (checkBuiltinCall newId ⟨.ref C :: rest, kw⟩) Q E ⟨hp, gs, dr, tk, os⟩ := by
  have inB : (Value.ref C :: bm).contains (.type B) = true := by rw [List.contains_cons, same, F.hasB, Bool.or_true]
  have e1 := F.noStar
  simp only [checkBuiltinCall, F.newKind, F.newSplit, F.newRow]
  repeat (first | refine wpAny_loadPart_at cls ?_ | (refine wpAny_isSubtype_exc cls ?_; rw [inB]) | refine wpAny_staticBase_exc cls ?_ | refine wpAny_madeBy_exc cls ?_ | simp only [bne_self_eq_false, Bool.false_eq_true, if_false] | wp_step)
  exact fin
theorem typeCallK (F : ExcBaseFacts B newId initId bmB) (same : ∀ X : String, bm.contains (.type X) = bmB.contains (.type X)) {rest : List Value} {kw : List (Str × Value)} {fI : Addr} {Q : Fin → Shared → Prop}
    (cls : hp.get? C = some (ClsO nm q C N bs bm hdct sn sub ab col dd k0 k1 k2 k3 k5 newId))
    (ini : W.Looks (model prog w) hp (typeLookup (.ref C) "__init__") (some (.ref fI))) (bnd : ∀ self, W.Looks (model prog w) hp (bindSpecial (.ref fI) self) (.ref fI, [self])) (short : rest.length ≤ sizeLine)
    (fin : codeAny (model prog w) A (.call (.ref fI) ⟨.ref (hp.objs.size + 1) :: rest, kw⟩)
      (fun r s' => match r with | .ok (.ret v) => v = .none ∧ Q (.done (.ret (.ref (hp.objs.size + 1)))) s' | .ok _ => False | .error e => E e s')
      ⟨(hp.push (W.kdv_tup rest)).push (excO C hp.objs.size), gs, dr, tk, os⟩) :
    wpAny (model prog w) A (Builtin.«type.__call__» ⟨.ref C :: rest, kw⟩) Q E ⟨hp, gs, dr, tk, os⟩ := by
  repeat (first | with_reducible refine wpAny_loadPart_at cls ?_ | with_reducible refine wpAny_madeBy_exc cls ?_ | wp_step)
  refine codeAny_call_builtin_code (Code.quiet_builtin _ F.quiet) (checkK F same cls ?_)
  refine newK F same cls ?_ short
  show wpAny _ _ _ _ _ _
  have stay : ∀ b o, hp.get? b = some o → ((hp.push (W.kdv_tup rest)).push (excO C hp.objs.size)).get? b = some o := fun b o e => Heap.get?_push_of_some _ (Heap.get?_push_of_some _ e)
  have cls1 := stay _ _ cls
  have here : ((hp.push (W.kdv_tup rest)).push (excO C hp.objs.size)).get? (hp.objs.size + 1) = some (excO C hp.objs.size) := by heap_get
  have inC : (Value.ref C :: bm).contains (.ref C) = true := by simp
  have ini1 := ini.keeps stay
  have bnd1 := (bnd (.ref (hp.objs.size + 1))).keeps stay
  unfold isInstance
  repeat (first | with_reducible refine wpAny_loadPart_at here ?_ | (with_reducible refine wpAny_isSubtype_exc cls1 ?_; rw [inC]) | wp_step)
  show wpAny _ _ (typeLookup (.ref C) _) _ _ _
  refine ini1.at ?_
  refine wpAny_holding (wpAny_bind (bnd1.at ?_))
  refine wpAny_bind (wpAny_call (codeAny_mono fin fun r s' z => ?_))
  rcases r with e | (v | _ | _ | _) <;> first | exact z | exact z.elim | skip
  obtain ⟨rfl, z⟩ := z
  first
    | exact wpAny_pure (wpAny_pure z)
    | (wp_walk; exact z)
/-- C(.., k = ..) for an exception class with its own __init__ -/
theorem callK (F : ExcBaseFacts B newId initId bmB) (same : ∀ X : String, bm.contains (.type X) = bmB.contains (.type X)) {rest : List Value} {kw : List (Str × Value)} {fI : Addr}
    (cls : hp.get? C = some (ClsO nm q C N bs bm hdct sn sub ab col dd k0 k1 k2 k3 k5 newId))
    (ini : W.Looks (model prog w) hp (typeLookup (.ref C) "__init__") (some (.ref fI))) (bnd : ∀ self, W.Looks (model prog w) hp (bindSpecial (.ref fI) self) (.ref fI, [self])) (short : rest.length ≤ sizeLine)
    (fin : codeAny (model prog w) (A.under (.builtin "type.__call__" ⟨.ref C :: rest, kw⟩)) (.call (.ref fI) ⟨.ref (hp.objs.size + 1) :: rest, kw⟩) (W.InitBack (hp.objs.size + 1) R)
      ⟨(hp.push (W.kdv_tup rest)).push (excO C hp.objs.size), gs, dr, tk, os⟩) :
    codeAny (model prog w) A (.call (.ref C) ⟨rest, kw⟩) R ⟨hp, gs, dr, tk, os⟩ := by
  have e1 := tc_lookup
  have e2 := tc_bind (.ref C)
  have ofT : (⟨hp, gs, dr, tk, os⟩ : Shared).TypeIs (.ref C) "type" := ⟨_, cls, rfl⟩
  refine codeAny_of_tree ?_
  show wpAny _ _ (callAny (.ref C) _) _ _ _
  repeat (any_goals (first | assumption | with_reducible refine wpAny_loadPart_at cls ?_ | wp_step))
  refine ⟨rfl, ?_⟩
  refine codeAny_call_builtin_at (Code.quiet_builtin _ (by decide +kernel)) entry_typeCall (wpAny_check_type_call_sub cls (typeCallK F same cls ini bnd short ?_))
  refine codeAny_mono fin fun r s' z => ?_
  rcases r with e | (v | _ | _ | _) <;> exact z
end
end KZx
end PySem
namespace KZ
open PySem PySem.Spec PyProof.Rows L2
/-- what an error's own __init__ promises: its one field -/
def spIni (C : Addr) (f : Str) : Sp := fun vs H Q _ => ∃ (a : Addr) (v : V), vs = [.ref a, v] ∧ H a = some (exo a C none) ∧
  ∀ d, H d = none → d ≠ a → Q .non (upd (upd H d (exd d [(f, v)])) a (exo a C (some d)))
/-- an error of the package: its class at C, its field f -/
structure Er (P : Program) (w : World) (K : PySem.W.Frag) (mg : Str → Option Value) (base : Heap) (x f : Str) (C : Addr) : Prop where
  gC : mg x = some (.ref C)
  ox : OexC K C
  no : PySem.W.findIn K (.ref C) f = some none
  ga : PySem.W.findIn K (.ref C) "__getattribute__" = some (some (.builtin "BaseException.__getattribute__"))
  gg : PySem.W.findIn K (.ref C) "__getattr__" = some none
  hdC : PySem.W.hasDictIn K C = true
  gc : PySem.W.findIn K (.ref C) "__class__" = some (some (.builtin "object.__class__"))
  mo : PySem.W.mroIn K C (.type "object") = some true
  sg : PySem.W.specialIn K (.builtin "object.__class__") "__get__" = some (some (.builtin "getset_descriptor.__get__"))
  tk : PySem.W.takesIn K (.builtin "object.__class__") = some true
  ini : ∃ (fI : Addr) (fd : FuncData), PySem.W.findIn K (.ref C) "__init__" = some (some (.ref fI)) ∧ PySem.W.typeIn K (.ref fI) = some (.type "function") ∧ FnOk P w K mg base CX0 1 fI fd ["self", f] (spIni C f) ∧
    (∀ (s : Shared) (a u : Value), BindsTo s fd ⟨[a, u], []⟩ [("self", a), (f, u)]) ∧ (∀ (s : Shared) (a u : Value), BindsTo s fd ⟨[a], [(f, u)]⟩ [("self", a), (f, u)])
/-- the new error at a, its dict at d -/
def mkH (C : Addr) (f : Str) (v : V) (H : Hp) (a d : Addr) : Hp := upd (upd H d (exd d [(f, v)])) a (exo a C (some d))
def tMk (C : Addr) (f : Str) (te : TE) : TE := fun σ H Q => te σ H fun v H1 => ∀ a d, H1 a = none → H1 d = none → d ≠ a → Q (.ref a) (mkH C f v H1 a d)
theorem mkH_eq {C : Addr} {f : Str} {v : V} {H : Hp} {a d : Addr} (h : d ≠ a) : upd (upd (upd H a (exo a C none)) d (exd d [(f, v)])) a (exo a C (some d)) = mkH C f v H a d := by
  funext b
  unfold mkH
  by_cases hb : b = a
  · rw [hb, upd_same, upd_same]
  · rw [upd_ne hb, upd_ne hb]
    by_cases hd : b = d
    · rw [hd, upd_same, upd_same]
    · rw [upd_ne hd, upd_ne hd, upd_ne hb]
section
variable {X : Cx} {x f : Str} {C : Addr}
/-- C(..) run: us and kw bind to self and f -/
theorem run_er {pins : List (Addr × Obj)} {σ : L2.St} {H : Hp} {s : Shared} {Q : VK} {v : V} {u : Value} {us : List Value} {kw : List (Str × Value)} (E : Er X.prog X.w X.K X.mg X.base x f C) (hr : Room 2 X.A) (I : Inv X pins σ H s) (r : RelV v u) (hus : us.length ≤ 1)
    (hu : us = [u] ∧ kw = [] ∨ us = [] ∧ kw = [(f, u)]) (h : ∀ a d, H a = none → H d = none → d ≠ a → Q (.ref a) (mkH C f v H a d)) :
    wpAny (model X.prog X.w) X.A (call (.ref C) us kw) (EP X pins σ Q) X.xe s := by
  obtain ⟨fI, fd, iC, tI, F, b1, b2⟩ := E.ini
  obtain ⟨nm, q, N, bs, bm, sn, sub, ab, col, dd, k0, k1, k2, k3, k5, hC, hbm⟩ := E.ox.cls
  obtain ⟨hp, g, dr, tk, os⟩ := s
  have hsz : hp.objs.size ≤ hp.objs.size + 1 := Nat.le_succ _
  have hn : H (hp.objs.size + 1) = none := I.hok.fresh hsz
  have kk : ∀ b o, hp.get? b = some o → ((hp.push (PySem.W.kdv_tup us)).push (PySem.HandSPX.excO C hp.objs.size)).get? b = some o := fun b o e => Heap.get?_push_of_some _ (Heap.get?_push_of_some _ e)
  have hget : ((hp.push (PySem.W.kdv_tup us)).push (PySem.HandSPX.excO C hp.objs.size)).get? (hp.objs.size + 1) = some (PySem.HandSPX.excO C hp.objs.size) := by heap_get
  have I2 : Inv X pins σ (upd H (hp.objs.size + 1) (exo (hp.objs.size + 1) C none)) ⟨(hp.push (PySem.W.kdv_tup us)).push (PySem.HandSPX.excO C hp.objs.size), g, dr, tk, os⟩ :=
    I.laid (t' := tk) (a := hp.objs.size + 1) (o := exo (hp.objs.size + 1) C none) (h' := (hp.push (PySem.W.kdv_tup us)).push (PySem.HandSPX.excO C hp.objs.size)) kk hsz (exo_ok hget)
  have hsp : spIni C f [.ref (hp.objs.size + 1), v] (upd H (hp.objs.size + 1) (exo (hp.objs.size + 1) C none)) (fun v' H2 => v' = .non ∧ Q (.ref (hp.objs.size + 1)) H2) (fun _ _ _ => False) := by
    refine ⟨hp.objs.size + 1, v, rfl, upd_same, fun d hd ne => ⟨rfl, ?_⟩⟩
    rw [mkH_eq ne]
    rw [upd_ne ne] at hd
    exact h _ d hn hd ne
  have hus2 : us.length ≤ sizeLine := by rw [sizeLine_eq]; omega
  have bnd : BindsTo (⟨(hp.push (PySem.W.kdv_tup us)).push (PySem.HandSPX.excO C hp.objs.size), g, dr, tk, os⟩ : Shared) fd ⟨Value.ref (hp.objs.size + 1) :: us, kw⟩ ((["self", f] : List Str).zip [Value.ref (hp.objs.size + 1), u]) := by
    rcases hu with ⟨e1, e2⟩ | ⟨e1, e2⟩
    · subst e1 e2
      exact b1 _ _ _
    · subst e1 e2
      exact b2 _ _ _
  refine wpAny_call (KZx.callK PySem.F.excBase_ValueError (fun Y => PySem.HandSPX.refsVE_contains Y bm hbm) (I.kIn _ _ hC) (PySem.W.looks_findIn I.kIn iC) (fun self => PySem.W.bind_fn I.kIn self tI) hus2
    (codeAny_mono (F.run _ X.stack _ _ ⟨Value.ref (hp.objs.size + 1) :: us, kw⟩ [Value.ref (hp.objs.size + 1), u] _ _ (fun _ _ _ => False) (hr.make C us kw) (I2.env0.make C us kw) bnd (show Vals [V.ref (hp.objs.size + 1), v] [Value.ref (hp.objs.size + 1), u] from .cons rfl (.cons r .nil)) hsp) fun r' s' hq' => ?_))
  cases r' with
  | error er => exact (show Passes CX0 X (fun _ _ _ => False) from pass0) pins σ _ _ er s' I2 hq'
  | ok fl =>
    cases fl with
    | ret u' =>
      obtain ⟨v', H', I3, rv, ev, q3⟩ := I2.after hq'
      subst ev
      exact ⟨rv, ⟨V.ref (hp.objs.size + 1), H', I3, rfl, q3⟩⟩
    | next => exact False.elim hq'
    | brk => exact False.elim hq'
    | cont => exact False.elim hq'
/-- x(e) -/
theorem pe_er {e : Expr} {te : TE} {p pos : Pos} (E : Er X.prog X.w X.K X.mg X.base x f C) (hr : Room 2 X.A) (hg : Gl X x) (he : PE X e te) (hdb : (x == ("__debug__" : Str)) = false)
    (hs : starEach [e] X.env = (false, eval e X.env) :: starEach [] X.env := by rfl) (hpl : (backTo pos (starEach [] X.env)).any (·.1) = false := by rfl) :
    PE X (.Call (.Name x p) [e] [] pos) (tMk C f te) := by
  refine ⟨fun pins s σ H Q I h => ?_⟩
  refine wpAny_Call_Name_kw (ld_glob I hg E.gC ?_ hdb)
  refine PySem.W.callWith_K (h₀ := X.base) I.ok.mod.kin E.ox.kC ?_ hs hpl
  rw [hs]
  show wpAny _ _ (spliced ((false, eval e X.env) :: backTo pos (starEach [] X.env))) _ _ s
  refine Calls.spliced_cons (thn (he.run pins s σ H _ I h) fun u s1 ⟨v, H1, I1, r1, q1⟩ => ?_)
  refine Calls.spliced_nil ⟨I1.kIn, ?_⟩
  exact run_er E hr I1 r1 (Nat.le_refl 1) (.inl ⟨rfl, rfl⟩) q1
/-- x(f = e): the keywords' reading -/
def tMkK (C : Addr) (f : Str) (tk : TA) : TE := fun σ H Q => tk σ H fun zs H1 => ∃ v, zs = [v] ∧ ∀ a d, H1 a = none → H1 d = none → d ≠ a → Q (.ref a) (mkH C f v H1 a d)
theorem pe_erK {e : Expr} {tk : TA} {p pos kp : Pos} (E : Er X.prog X.w X.K X.mg X.base x f C) (hr : Room 2 X.A) (hg : Gl X x) (hkw : PK X [⟨some f, e, kp⟩] tk) (hdb : (x == ("__debug__" : Str)) = false)
    (hall : (backToKw pos (keywordEach [⟨some f, e, kp⟩] X.env)).all (·.1.isSome) = true := by rfl) (hks : (backToKw pos (keywordEach [⟨some f, e, kp⟩] X.env)).filterMap (·.1) = [f] := by rfl)
    (hpl : ((backTo pos (starEach [] X.env)).any (·.1) || (backToKw pos (keywordEach [⟨some f, e, kp⟩] X.env)).any (·.1.isNone)) = false := by rfl) :
    PE X (.Call (.Name x p) [] [⟨some f, e, kp⟩] pos) (tMkK C f tk) := by
  refine ⟨fun pins s σ H Q I h => ?_⟩
  refine wpAny_Call_Name_kw (ld_glob I hg E.gC ?_ hdb)
  refine PySem.W.callWith_KW0 (h₀ := X.base) I.ok.mod.kin E.ox.kC hall ?_ hpl
  refine thn (hkw.run pos pins s σ H _ I h) fun ws s2 ⟨zs, H2, I2, rz, v, ez, q2⟩ => ⟨I2.kIn, ?_⟩
  subst ez
  rw [hks]
  cases rz with
  | cons rv rn =>
    cases rn
    exact run_er E hr I2 rv (Nat.zero_le 1) (.inr ⟨rfl, rfl⟩) q2
/-- isinstance(e, c), e an error of the package -/
def rIsE2 (P : Program) (w : World) (K : PySem.W.Frag) (mg : Str → Option Value) (base : Heap) : List V → Hp → VK → Prop := fun xs H Q => ∃ (a C d : Addr) (x f : Str) (fs : List (Str × V)) (c : V) (cv : Value) (b : Bool), xs = [.ref a, c] ∧ Er P w K mg base x f C ∧
  H a = some (exo a C (some d)) ∧ H d = some (exd d fs) ∧ (∀ u, RelV c u → u = cv) ∧ PySem.W.kitOne K (.ref C) cv = some b ∧ Q (.bl b) H
theorem call_isE2 {X : Cx} : CallR X (.builtin "isinstance") (rIsE2 X.prog X.w X.K X.mg X.base) := by
  intro pins s σ H xs us Q I r h
  obtain ⟨a, C, d, x, f, fs, c, cv, b, rfl, E, ea, ed, hcv, e, q⟩ := h
  obtain ⟨u1, u2, rfl, r1, r2⟩ := vals2 r
  cases (show u1 = Value.ref a from r1)
  have e2 := hcv _ r2
  subst e2
  obtain ⟨t1, ho⟩ := exo_at I.hok ea
  obtain ⟨mA, hns, _⟩ := exd_at I.hok ed
  obtain ⟨od, hd, _⟩ := lookIn_ns hns
  have hcl : (PySem.W.clsIn X.K C).isSome = true := by
    obtain ⟨cd, hc, _⟩ := PySem.W.any_some E.hdC
    rw [hc]
    rfl
  have J : PySem.W.InstAt s.heap a { cls := .ref C, dict := some d, data := .fields #[.ref t1, .none, .none, .none, .bool false, .none] } C (some od) := ⟨ho, rfl, rfl, hd⟩
  exact PySem.W.kia_one (PySem.W.kitx_exc hcl E.ga E.gg E.ox.exC E.gc E.sg E.tk E.mo) I.kIn J e (fun z => nomatch z) fun tk => ⟨.bl b, H, I.kept (t' := tk) fun _ _ z => z, rfl, q⟩
/-- e.f of such an error -/
def tEf (P : Program) (w : World) (K : PySem.W.Frag) (mg : Str → Option Value) (base : Heap) (f : Str) (te : TE) : TE := fun σ H Q => te σ H fun x H1 => ∃ (a C d : Addr) (n : Str) (fs : List (Str × V)) (v : V), x = .ref a ∧ Er P w K mg base n f C ∧
  H1 a = some (exo a C (some d)) ∧ H1 d = some (exd d fs) ∧ fs.lookup f = some v ∧ Q v H1
theorem pe_ef {X : Cx} {f : Str} {e : Expr} {te : TE} {pos : Pos} (he : PE X e te) (hb : attributeBase e f X.env (eval e X.env) = eval e X.env := by rfl) : PE X (.Attribute e f pos) (tEf X.prog X.w X.K X.mg X.base f te) := by
  refine ⟨fun pins s σ H Q I h => ?_⟩
  refine attr_of hb (thn (he.run pins s σ H _ I h) fun u s1 hh => ?_)
  obtain ⟨x, H1, I1, rx, a, C, d, n, fs, v, ex, E, ea, ed, l, q⟩ := hh
  subst ex
  obtain rfl : u = Value.ref a := rx
  obtain ⟨t1, ho⟩ := exo_at I1.hok ea
  obtain ⟨mA, hns, hr⟩ := exd_at I1.hok ed
  obtain ⟨od, hd, hl⟩ := lookIn_ns hns
  obtain ⟨u, hu, ru⟩ := RelO.some_of (v := v) (o := mA f) (by rw [← l]; exact hr f)
  have J : PySem.W.InstAt s1.heap a { cls := .ref C, dict := some d, data := .fields #[.ref t1, .none, .none, .none, .bool false, .none] } C (some od) := ⟨ho, rfl, rfl, hd⟩
  exact HandSPX.exc_get I1.kIn J E.ga E.gg E.ox.exC (PySem.W.findObj_own E.hdC E.no rfl (by rw [hl, hu])) (handed_of ru) ⟨v, H1, I1.tok _, ru, q⟩
end
end KZ
namespace KZ
open PySem PySem.Spec PyProof.Rows L2 LamX NdefX
/-- a lambda's function object, of no captured name -/
def LamO (f c' : Addr) (q : Str) (params : Arguments) (body : Expr) (scope : Scope) : HO := .ext fun h => ∃ pm ctv : Value, h.get? f = some (PySem.W.kla_obj "<lambda>" q params body scope [] pm c' ctv)
theorem lamO_tbl {f c' : Addr} {q : Str} {params : Arguments} {body : Expr} {scope : Scope} (ps : Array Value) : LamO f c' q params body scope ≠ .tbl ps := fun z => by
  unfold LamO at z
  cases z
theorem lamO_ok {P : Program} {w : World} {H : Hp} {h : Heap} {f c' : Addr} {q : Str} {params : Arguments} {body : Expr} {scope : Scope} {pm ctv : Value} (e : h.get? f = some (PySem.W.kla_obj "<lambda>" q params body scope [] pm c' ctv)) : ObjOk P w H h f (LamO f c' q params body scope) :=
  ⟨⟨pm, ctv, e⟩, ⟨_, e⟩, fun h1 h2 z st => by
    obtain ⟨p, t, z⟩ := z
    exact ⟨p, t, st _ z⟩⟩
theorem lamO_at {P : Program} {w : World} {H : Hp} {h : Heap} {f c' : Addr} {q : Str} {params : Arguments} {body : Expr} {scope : Scope} (hok : HOk P w H h) (e : H f = some (LamO f c' q params body scope)) : ∃ pm ctv : Value, h.get? f = some (PySem.W.kla_obj "<lambda>" q params body scope [] pm c' ctv) := by
  obtain ⟨z, _, _⟩ := hok f _ e
  exact z
section
variable {X : Cx}
/-- a lambda is made -/
def tLm (T : List (Addr × Str)) (q : Str) (params : Arguments) (body : Expr) (scope : Scope) : TE := fun _ H Q => Tabs T H ∧ ∀ (f c' : Addr) (H1 : Hp), ExtN H H1 → (∀ b, H1 b = none → H b = none) → Tabs T H1 → H f = none → H1 f = some (LamO f c' q params body scope) → H1 c' = some (CodeO c' q) → Q (.ref f) H1
theorem pe_lm {T : List (Addr × Str)} {c P : Addr} {q : Str} {params : Arguments} {body : Expr} {scope : Scope} {pos : Pos} (TB : TabB X.base X.mg c P) (hcode : X.env.code = .ref c) (eq : X.env.qual ++ "<lambda>" = q)
    (hm : (P, q) ∈ T) (hu : ∀ p ∈ T, p.1 = P → p.2 = q) (hdef : defaultsOf params X.env = ([], [])) (hfree : ∀ y ∈ scope.names, y.2 ≠ .free) (hcl : cloFrom X.env.cells scope.names [] = []) :
    PE X (.Lambda params body scope pos) (tLm T q params body scope) := by
  refine ⟨fun pins s σ H Q I h => ?_⟩
  subst eq
  obtain ⟨hT, h⟩ := h
  obtain ⟨ps, hP, ht, ha⟩ := hT _ hm
  have cells : ∀ y ∈ scope.names, y.2 = .free → ∃ c, X.env.cells.lookup y.1 = some c := fun y hy e => absurd e (hfree y hy)
  refine PySem.W.kla_eval hdef ?_
  have bP : s.heap.BuiltinsAt X.mg P := TB.bm.keeps I.bk
  have hP' : s.heap.get? P = some { cls := .none, data := .fields ps } := I.hok P _ hP
  have clo := closure_ok cells
  rw [hcl] at clo
  cases hc : codeAmong pos ps.toList with
  | none =>
    refine PySem.W.kla_makeFunction (mg := X.mg) (c := c) (P := P) (ps := ps) clo I.ok.glob (I.mod.glob.keeps I.bk) hcode (TB.code.keeps I.bk) hP' ht hc TB.gP bP fun c' ctv h' tk hx hge hlt hrec htb => ?_
    obtain ⟨c2, oc, vs, t, e2, hoc, hd, hv⟩ := hrec
    cases e2
    have nC : H c' = none := I.hok.fresh hge
    have I1 := inv_table (t' := tk) (more := #[rawInt pos.line, rawInt pos.col, .ref c']) (h' := h') I hP (fun b o hb e => hx b o hb e) htb hge ⟨oc, vs, t, hoc, hd, hv⟩
    have nF := I1.hok.fresh (Nat.le_refl _)
    have I2 := I1.laid (t' := tk) (a := h'.objs.size) (o := LamO h'.objs.size c' (X.env.qual ++ "<lambda>") params body scope) (h' := h'.push (PySem.W.kla_obj "<lambda>" (X.env.qual ++ "<lambda>") params body scope [] ((X.mg "__name__").getD .none) c' ctv)) (fun b u e => Heap.get?_push_of_some _ e) (Nat.le_refl _) (lamO_ok (Heap.get?_push_size _ rfl))
    have hE : ExtN H (upd (upd H P (.tbl (ps ++ #[rawInt pos.line, rawInt pos.col, .ref c']))) c' (CodeO c' (X.env.qual ++ "<lambda>"))) := fun b o e n => by
      rw [upd_ne (ne_of_none e nC), upd_ne (fun z => n ps (Option.some.inj (e.symm.trans (by rw [z]; exact hP))))]
      exact e
    have eL : (ps ++ #[rawInt pos.line, rawInt pos.col, .ref c']).toList = ps.toList ++ [rawInt pos.line, rawInt pos.col, .ref c'] := by simp
    have T1 : Tabs T (upd (upd H P (.tbl (ps ++ #[rawInt pos.line, rawInt pos.col, .ref c']))) c' (CodeO c' (X.env.qual ++ "<lambda>"))) := fun p hp => by
      by_cases hb : p.1 = P
      · rw [hu p hp hb, hb]
        refine ⟨_, by rw [upd_ne (ne_of_none hP nC), upd_same], by rw [eL]; exact PySem.TriplesOk_snoc _ _ _ _ ht, fun p' cv hcv => ?_⟩
        rw [eL] at hcv
        rcases among_app _ ht hcv with z | z
        · obtain ⟨c0, e1, e2⟩ := ha p' cv z
          exact ⟨c0, e1, hE _ _ e2 codeO_ne⟩
        · exact ⟨c', z, upd_same⟩
      · obtain ⟨ps', a1, a2, a3⟩ := hT p hp
        refine ⟨ps', by rw [upd_ne (ne_of_none a1 nC), upd_ne hb]; exact a1, a2, fun p' cv hcv => ?_⟩
        obtain ⟨c0, e1, e2⟩ := a3 p' cv hcv
        exact ⟨c0, e1, hE _ _ e2 codeO_ne⟩
    refine ⟨.ref h'.objs.size, _, I2, rfl, h h'.objs.size c' _ (fun b o e n => ?_) (fun b e => upd_none (upd_none (upd_none e))) (T1.ext fun b o e => ?_) (I.hok.fresh (Nat.le_trans hge (Nat.le_of_lt hlt))) upd_same ?_⟩
    · have e1 := hE b o e n
      exact (upd_ne (ne_of_none e1 nF)).trans e1
    · exact (upd_ne (ne_of_none e nF)).trans e
    · exact (upd_ne (Nat.ne_of_lt hlt)).trans upd_same
  | some cv =>
    obtain ⟨c', e, hco⟩ := ha pos cv hc
    subst e
    refine PySem.W.kla_makeFunctionHit (mg := X.mg) (c := c) (P := P) (ps := ps) clo I.ok.glob (I.mod.glob.keeps I.bk) hcode (TB.code.keeps I.bk) hP' ht hc bP fun ctv h' tk hx hsz => ?_
    have I1 : Inv X pins σ H { s with heap := h', toks := tk } := I.kept hx
    have nF : H h'.objs.size = none := I1.hok.fresh (Nat.le_refl _)
    have I2 := I1.laid (t' := tk) (a := h'.objs.size) (o := LamO h'.objs.size c' (X.env.qual ++ "<lambda>") params body scope) (h' := h'.push (PySem.W.kla_obj "<lambda>" (X.env.qual ++ "<lambda>") params body scope [] ((X.mg "__name__").getD .none) c' ctv)) (fun b u e => Heap.get?_push_of_some _ e) (Nat.le_refl _) (lamO_ok (Heap.get?_push_size _ rfl))
    refine ⟨.ref h'.objs.size, _, I2, rfl, h h'.objs.size c' _ (fun b o e n => ?_) (fun b e => upd_none e) (hT.ext fun b o e => ?_) nF upd_same ?_⟩
    · exact (upd_ne (ne_of_none e nF)).trans e
    · exact (upd_ne (ne_of_none e nF)).trans e
    · exact (upd_ne (ne_of_none hco nF)).trans hco
end
/-- what stands for the lambda in the layer of nested defs -/
def nf (q : Str) (params : Arguments) (scope : Scope) (c' : Addr) : NF := ⟨"<lambda>", q, params, [], scope, [], c'⟩
section
variable {P : Program} {w : World} {K : PySem.W.Frag} {mg : Str → Option Value} {base : Heap} {N ps : List Str} {q : Str} {params : Arguments} {body : Expr} {scope : Scope} {k : Nat} {sp : Sp}
/-- a lambda keeps a promise: its body, walked -/
structure LOk (P : Program) (w : World) (K : PySem.W.Frag) (mg : Str → Option Value) (base : Heap) (k : Nat) (q : Str) (params : Arguments) (body : Expr) (scope : Scope) (ps : List Str) (sp : Sp) : Prop where
  run : ∀ (A : Around) (outer : List Env) (s : Shared) (H : Hp) (f c' : Addr) (us : List Value) (vs : List V) (Q : VK) (E : XK), Room k A → Env0 P w K mg base A outer s H → H f = some (LamO f c' q params body scope) → H c' = some (CodeO c' q) →
    Vals vs us → vs.length = ps.length → sp vs H Q E → codeAny (model P w) A (.call (.ref f) ⟨us, []⟩) (CR CX0 outer P w H s Q E) s
theorem lok_of (S : NScope N ps [] scope) (hb : ∀ (pm cv ctv : Value) (us : List Value), us.length = ps.length → bindArgs (PySem.W.kla_fn "<lambda>" q params body scope [] pm cv ctv) ⟨us, []⟩ = pure (ps.zip us))
    (hbody : ∀ (A : Around) (outer : List Env) (s : Shared) (H : Hp) (f c' : Addr) (vs : List V) (Q : VK) (E : XK), Room k (A.deeper (envF (nf q params scope c') f s.heap.objs.size)) → vs.length = ps.length → sp vs H Q E →
      ∃ t, PE (ncx CX0 P w K mg base N (nf q params scope c') f A outer s H E) body t ∧ t (startF N vs []) H Q) :
    LOk P w K mg base (k + 1) q params body scope ps sp := by
  refine ⟨fun A outer s H f c' us vs Q E hr e0 hf hc r hl hsp => ?_⟩
  have lim : s.heap.NoLimit := e0.mod.nolimit.keeps fun b o e => (e0.bs b o e).1
  obtain ⟨pm, ctv, ho⟩ := lamO_at e0.hok hf
  refine PySem.W.kla_callFunE hr.depth ho rfl S.co S.gen rfl (codeO_at e0.hok hc) ?_
  rw [hb pm (.ref c') ctv us (by rw [← r.length]; exact hl)]
  refine wpAny_pure (wpAny_newFunctionEnv S.nocell (fun ⟨n, _⟩ hy => S.par n (List.of_mem_zip hy).1) (fun h₁ hns hsb => ⟨lim.fresh _ hsb, ?_⟩) S.kind)
  show codeAny _ _ (.expr body (envF (nf q params scope c') f s.heap.objs.size)) _ _
  have kp : ∀ b o, s.heap.get? b = some o → h₁.get? b = some o := fun b o e => hsb.extBut b o (Nat.ne_of_lt (Heap.lt_size e)) (Heap.get?_push_of_some _ e)
  obtain ⟨t, ht, hq⟩ := hbody A outer s H f c' vs Q E (hr.deeper _) hl hsp
  have noC : ∀ (y : Str) (c : Addr), (nf q params scope c').cl.lookup y = some c → False := fun y c e => by cases (show (none : Option Addr) = some c from e)
  have C0 : CellsAt (nf q params scope c').cl [] [] s.heap H := ⟨rfl, fun y c e => (noC y c e).elim, fun x y c e => (noC x c e).elim, fun i y e => by cases (show (none : Option Str) = some y from by simpa using e)⟩
  have I : Inv (ncx CX0 P w K mg base N (nf q params scope c') f A outer s H E) [] (startF N vs []) H { s with heap := h₁, toks := s.toks + (ps.zip us).length } := inv_startN (F := nf q params scope c') S hr.hd e0 hl r C0 hns kp
  refine PySem.W.kla_codeExpr (wpAny_mono (ht.run [] _ (startF N vs []) H Q I hq) (fun v s' hs => ?_) fun e s' hs => hs)
  obtain ⟨v', H', J, rv, q'⟩ := hs
  exact ⟨v', H', J.os, J.bare, J.base, J.hok, rv, q'⟩
end
section
variable {X : Cx}
theorem lamAt {pins : List (Addr × Obj)} {σ : L2.St} {H : Hp} {s : Shared} {f c' : Addr} {q : Str} {params : Arguments} {body : Expr} {scope : Scope} (I : Inv X pins σ H s) (e : H f = some (LamO f c' q params body scope)) : PySem.W.FnAt f s.heap := by
  obtain ⟨pm, ctv, ho⟩ := lamO_at I.hok e
  exact ⟨_, none, _, #[], ho⟩
/-- fe(e), fe giving a function of one of the lambdas that keep promises (ok) -/
def tCl (ok : Str → Arguments → Expr → Scope → Sp → Prop) (tf t : TE) : TE := fun σ H Q => tf σ H fun y H1 => ∃ (f c' : Addr) (q : Str) (params : Arguments) (body : Expr) (scope : Scope) (sp : Sp), y = .ref f ∧ ok q params body scope sp ∧
  H1 f = some (LamO f c' q params body scope) ∧ t σ H1 fun v H2 => H2 f = some (LamO f c' q params body scope) ∧ H2 c' = some (CodeO c' q) ∧ sp [v] H2 Q E0
theorem pe_cl {ok : Str → Arguments → Expr → Scope → Sp → Prop} {k : Nat} {fe e : Expr} {tf t : TE} {pos : Pos} (hok : ∀ q params body scope sp, ok q params body scope sp → ∃ x, LOk X.prog X.w X.K X.mg X.base k q params body scope [x] sp) (hr : Room k X.A) (hf : PE X fe tf) (ha : PE X e t)
    (ht : eval (.Call fe [e] [] pos) X.env = (do callWith pos (← eval fe X.env) [] (backTo pos (starEach [e] X.env)) (backToKw pos (keywordEach [] X.env))) := by rfl)
    (he : starEach [e] X.env = (false, eval e X.env) :: starEach [] X.env := by rfl) (hpl : (backTo pos (starEach [] X.env)).any (·.1) = false := by rfl) : PE X (.Call fe [e] [] pos) (tCl ok tf t) := by
  refine ⟨fun pins s σ H Q I h => ?_⟩
  refine Call_ (thn (hf.run pins s σ H _ I h) fun u s1 ⟨y, H1, I1, ry, f, c', q, params, body, scope, sp, ey, hk, hl, q1⟩ => ?_) ht
  subst ey
  obtain rfl : u = Value.ref f := ry
  obtain ⟨x, L⟩ := hok _ _ _ _ _ hk
  refine PySem.W.callWith_F (first := []) (lamAt I1 hl) ?_ he hpl
  rw [he]
  show wpAny _ _ (spliced ((false, eval e X.env) :: backTo pos (starEach [] X.env))) _ _ s1
  refine Calls.spliced_cons (thn (ha.run pins s1 σ H1 _ I1 q1) fun v s2 ⟨y2, H2, I2, r2, e1, e2, hsp⟩ => ?_)
  refine Calls.spliced_nil ⟨lamAt I2 e1, ?_⟩
  show wpAny _ _ (call (.ref f) [v]) _ _ _
  refine wpAny_call (codeAny_mono (L.run X.A X.stack s2 H2 f c' [v] [y2] Q E0 hr I2.env0 e1 e2 (.cons r2 .nil) rfl hsp) fun r s' hq => ?_)
  cases r with
  | error e => exact (show Passes CX0 X E0 from pass0) pins σ _ _ e s' I2 hq
  | ok fl =>
    cases fl with
    | ret u => exact I2.after hq
    | next => exact False.elim hq
    | brk => exact False.elim hq
    | cont => exact False.elim hq
end
end KZ
namespace KZ
open PySem PySem.Spec PyProof.Rows L2
/-! ## data that the law draws: what stands in the heap, apart from the jar at J -/
def Sc : V → PyData → Prop
  | .non, .none => True
  | .bl b, .bool c => b = c
  | .int i, .int j => i = j
  | .str x, .str y => x = y
  | _, _ => False
def Dat (J : Addr) (H : Hp) : Nat → V → PyData → Prop
  | 0, v, d => Sc v d
  | n + 1, v, d => Dat J H n v d ∨ ∃ a : Addr, v = .ref a ∧ a ≠ J ∧
      ((∃ xs ds, H a = some (.tup xs) ∧ d = .tuple ds ∧ Paired (Dat J H n) xs ds) ∨ (∃ xs ds, H a = some (.lst xs) ∧ d = .list ds ∧ Paired (Dat J H n) xs ds) ∨
       (H a = some (.dK []) ∧ d = .dict []) ∨ ∃ (k : Str) (x : V) (e : PyData), H a = some (.dK [(Sum.inr k, x)]) ∧ d = .dict [(.str k, e)] ∧ Dat J H n x e)
/-- what the data lean on stays: all but the jar and the tables -/
def Ext (J : Addr) (H H' : Hp) : Prop := ∀ b o, H b = some o → b ≠ J → (∀ ps, o ≠ .tbl ps) → H' b = some o
theorem Ext.refl (J : Addr) (H : Hp) : Ext J H H := fun _ _ e _ _ => e
theorem Ext.trans {J : Addr} {H H1 H2 : Hp} (a : Ext J H H1) (b : Ext J H1 H2) : Ext J H H2 := fun c o e h n => b c o (a c o e h n) h n
theorem Ext.new {J : Addr} {H H' : Hp} {a : Addr} {o : HO} (x : Ext J H H') (h : H' a = none) : Ext J H (upd H' a o) := fun b u e n t => by
  have e' := x b u e n t
  rw [upd_ne (ne_of_none e' h)]
  exact e'
theorem Ext.jar {J : Addr} {H H' : Hp} {o : HO} (x : Ext J H H') : Ext J H (upd H' J o) := fun b u e n t => by
  rw [upd_ne n]
  exact x b u e n t
theorem Paired.imp {α β : Type} {F G : α → β → Prop} : ∀ {l : List α} {m : List β}, Paired F l m → (∀ a b, F a b → G a b) → Paired G l m
  | _, _, .nil, _ => .nil
  | _, _, .cons r t, f => .cons (f _ _ r) (Paired.imp t f)
theorem Dat.ext {J : Addr} {H H' : Hp} (x : Ext J H H') : ∀ {n : Nat} {v : V} {d : PyData}, Dat J H n v d → Dat J H' n v d
  | 0, _, _, h => h
  | n + 1, v, d, h => by
    rcases h with h | ⟨a, e, nj, h⟩
    · exact .inl (Dat.ext x h)
    · refine .inr ⟨a, e, nj, ?_⟩
      rcases h with ⟨xs, ds, h1, h2, h3⟩ | ⟨xs, ds, h1, h2, h3⟩ | ⟨h1, h2⟩ | ⟨k, y, z, h1, h2, h3⟩
      · exact .inl ⟨xs, ds, x a _ h1 nj (fun ps z => by cases z), h2, Paired.imp h3 fun _ _ => Dat.ext x⟩
      · exact .inr (.inl ⟨xs, ds, x a _ h1 nj (fun ps z => by cases z), h2, Paired.imp h3 fun _ _ => Dat.ext x⟩)
      · exact .inr (.inr (.inl ⟨x a _ h1 nj (fun ps z => by cases z), h2⟩))
      · exact .inr (.inr (.inr ⟨k, y, z, x a _ h1 nj (fun ps z => by cases z), h2, Dat.ext x h3⟩))
theorem Dat.up {J : Addr} {H : Hp} {v : V} {d : PyData} : ∀ {n m : Nat}, n ≤ m → Dat J H n v d → Dat J H m v d
  | n, 0, h, x => by
    have e : n = 0 := Nat.le_zero.mp h
    rw [e] at x
    exact x
  | n, m + 1, h, x => by
    by_cases e : n = m + 1
    · rw [e] at x
      exact x
    · exact .inl (Dat.up (Nat.le_of_lt_succ (Nat.lt_of_le_of_ne h e)) x)
/-! ### what repr asks -/
/-- the written part holds sys's table of modules: a dict -/
def SysD (K : PySem.W.Frag) : Prop := ∃ o, K.lookup sysModules = some o ∧ o.cls = .type "dict"
theorem reads_all {P : Program} {w : World} {J : Addr} {H : Hp} {h : Heap} (sy : ∃ o, h.get? sysModules = some o ∧ o.cls = .type "dict") (hok : HOk P w H h) : ∀ {n : Nat} {v : V} {d : PyData} {u : Value}, Dat J H n v d → RelV v u → ∃ as, Reads h u d as ∧ sysModules ∉ as
  | 0, v, d, u, x, r => by
    cases v <;> cases d <;> first | exact False.elim x | skip
    · cases (show u = Value.none from r)
      exact ⟨[], .none, by simp⟩
    · cases (show u = Value.bool _ from r)
      cases (show _ = _ from x)
      exact ⟨[], .bool _, by simp⟩
    · obtain ⟨t, rfl⟩ := (show ∃ t, u = Value.int _ t from r)
      cases (show _ = _ from x)
      exact ⟨[], .int _ _, by simp⟩
    · obtain ⟨t, rfl⟩ := (show ∃ t, u = Value.str _ t from r)
      cases (show _ = _ from x)
      exact ⟨[], .str _ _, by simp⟩
  | n + 1, v, d, u, x, r => by
    have many : ∀ {xs : List V} {ds : List PyData} {us : List Value}, Paired (Dat J H n) xs ds → Vals xs us → ∃ as, ReadsAll h us ds as ∧ sysModules ∉ as := by
      intro xs ds us p
      induction p generalizing us with
      | nil => intro rv; cases rv; exact ⟨[], .nil, by simp⟩
      | cons a t ih =>
        intro rv
        cases rv with
        | cons ra rt =>
          obtain ⟨as, h1, h2⟩ := reads_all sy hok a ra
          obtain ⟨bs, h3, h4⟩ := ih rt
          exact ⟨as ++ bs, .cons h1 h3, by simp [h2, h4]⟩
    rcases x with x | ⟨a, e, nj, x⟩
    · exact reads_all sy hok x r
    · subst e
      obtain rfl : u = Value.ref a := r
      rcases x with ⟨xs, ds, h1, h2, h3⟩ | ⟨xs, ds, h1, h2, h3⟩ | ⟨h1, h2⟩ | ⟨k, y, z, h1, h2, h3⟩
      · subst h2
        obtain ⟨_, its, rv, o, g1, g2, m, g3⟩ := (show ObjOk P w H h a (.tup xs) from hok a _ h1)
        obtain ⟨as, q1, q2⟩ := many h3 rv
        exact ⟨as, .tuple g1 g2 g3 (by simpa using q1), q2⟩
      · subst h2
        obtain ⟨_, its, m, rv, g1⟩ := (show ObjOk P w H h a (.lst xs) from hok a _ h1)
        obtain ⟨as, q1, q2⟩ := many h3 rv
        obtain ⟨o, e1, e2⟩ := sy
        have na : sysModules ≠ a := fun z => by
          rw [z, g1] at e1
          rw [← Option.some.inj e1] at e2
          have e3 : Value.type "list" = Value.type "dict" := e2
          injection e3 with e4
          exact absurd e4 (by decide)
        exact ⟨a :: as, .list g1 rfl rfl (by simpa using q1), by simp [q2, na]⟩
      · subst h2
        obtain ⟨_, nm, vs, kv, o, es, ep, g1, g2, g3, g4, g5, g6⟩ := (show ObjOk P w H h a (.dK []) from hok a _ h1)
        cases kv
        have ee : es.toList = [] := by
          cases e : es.toList with
          | nil => rfl
          | cons q l => rw [e] at g5; cases g5
        have na : sysModules ≠ a := fun z => by
          rw [← z] at nm
          simp at nm
        exact ⟨a :: [] ++ [], .dict g1 g2.1 g3 (by rw [ee]; exact .nil) (by rw [ee]; exact .nil), by simp [na]⟩
      · subst h2
        obtain ⟨_, nm, vs, kv, o, es, ep, g1, g2, g3, g4, g5, g6⟩ := (show ObjOk P w H h a (.dK [(Sum.inr k, y)]) from hok a _ h1)
        cases kv with
        | @cons _ q _ qs r1 r2 =>
          cases r2
          obtain ⟨q1, q2⟩ := q
          obtain ⟨e1, ry⟩ := r1
          dsimp only at e1 ry
          subst e1
          have na : sysModules ≠ a := fun z => by
            rw [← z] at nm
            simp at nm
          cases ee : es.toList with
          | nil => rw [ee] at g5; cases g5
          | cons en l =>
            rw [ee] at g5
            cases g5 with
            | cons k1 k2 k3 =>
              cases k3
              obtain ⟨as, f1, f2⟩ := reads_all sy hok h3 ry
              have kk : ∃ t, en.key = Value.str k t := Value.isStrOf_shape (x := k) (v := en.key) k1
              obtain ⟨t, kk⟩ := kk
              refine ⟨a :: [] ++ as, .dict g1 g2.1 g3 (by rw [ee]; show ReadsAll h [en.key] [.str k] []; rw [kk]; exact .cons (as := []) (bs := []) (.str k t) .nil) (by
                rw [ee]
                show ReadsAll h [en.val] [z] as
                rw [k2]
                have q := ReadsAll.cons f1 (ReadsAll.nil (h := h))
                rw [List.append_nil] at q
                exact q), by simp [na, f2]⟩
/-- what is plain enough to be shown -/
def Fine (n : Nat) (d : PyData) : Prop := d.showable = true ∧ d.depth ≤ n + 2 ∧ d.shown.length ≤ 40 + 10 * n
def rRep : List V → Hp → VK → Prop := fun xs H Q => ∃ (J : Addr) (n : Nat) (v : V) (d : PyData), xs = [v] ∧ n ≤ 20 ∧ Dat J H n v d ∧ Fine n d ∧ Q (.str d.shown) H
theorem call_rep {X : Cx} (hg : X.A.guards = some []) (hu : X.A.units + 30 < cLine) (sy : SysD X.K) : CallR X (.builtin "repr") rRep := by
  intro pins s σ H xs us Q I r h
  obtain ⟨J, n, v, d, rfl, hn, x, ⟨f1, f2, f3⟩, q⟩ := h
  obtain ⟨u, rfl, ru⟩ := vals1 r
  obtain ⟨o, so, sc⟩ := sy
  obtain ⟨as, R, ns⟩ := reads_all ⟨o, I.kIn _ _ so, sc⟩ I.hok x ru
  have small : d.shown.length ≤ sizeLine := by rw [sizeLine_eq]; omega
  have big : ∀ a : Addr, u = .ref a → wpAny (model X.prog X.w) X.A (call (.builtin "repr") [u]) (EP X pins σ Q) X.xe s := fun a e => by
    subst e
    exact repr_of_reads' R f1 (fun _ => ns) hg (by omega) (fun _ _ e => e) (fun h' u tk hk => ⟨.str d.shown, H, I.kept hk, ⟨_, rfl⟩, q⟩) small
  cases R with
  | none => exact PySem.P.repr_of_none ⟨.str _, H, I.tok _, ⟨_, rfl⟩, q⟩
  | bool b => exact PySem.P.repr_of_bool ⟨.str _, H, I.tok _, ⟨_, rfl⟩, q⟩
  | int i t => exact PySem.P.repr_of_int (by simpa [PyData.showable] using f1) ⟨.str _, H, I.tok _, ⟨_, rfl⟩, q⟩
  | str y t => exact PySem.P.repr_of_str ⟨.str _, H, I.tok _, ⟨_, rfl⟩, q⟩ small
  | list h1 h2 h3 h4 => exact big _ rfl
  | tuple h1 h2 h3 h4 => exact big _ rfl
  | dict h1 h2 h3 h4 h5 => exact big _ rfl
/-! ### wrapping -/
theorem strLen_app (x y : Str) : (x ++ y).length = x.length + y.length := strLen_append x y
theorem fine_tup1 {n : Nat} {d : PyData} (f : Fine n d) : Fine (n + 1) (.tuple [d]) := by
  obtain ⟨f1, f2, f3⟩ := f
  refine ⟨by simp [PyData.showable, PyData.showableAll, f1], ?_, ?_⟩
  · simp only [PyData.depth, PyData.depthAll]
    omega
  · have e := PyProof.Rows.shownLen_tuple1 d
    omega
theorem fine_lst1 {n : Nat} {d : PyData} (f : Fine n d) : Fine (n + 1) (.list [d]) := by
  obtain ⟨f1, f2, f3⟩ := f
  refine ⟨by simp [PyData.showable, PyData.showableAll, f1], ?_, ?_⟩
  · simp only [PyData.depth, PyData.depthAll]
    omega
  · have e := PyProof.Rows.shownLen_list1 d
    omega
theorem fine_tup2 {n : Nat} {d : PyData} (f : Fine n d) : Fine (n + 1) (.tuple [d, .int 0]) := by
  obtain ⟨f1, f2, f3⟩ := f
  refine ⟨by simp [PyData.showable, PyData.showableAll, f1], ?_, ?_⟩
  · simp only [PyData.depth, PyData.depthAll]
    omega
  · have e : (PyData.tuple [d, .int 0]).shown = (("(" : Str) ++ (d.shown ++ ((", " : Str) ++ (PyData.int 0).shown))) ++ (")" : Str) := rfl
    rw [e]
    simp only [strLen_app]
    have e1 : (("(" : Str)).length = 1 := by decide
    have e2 : ((", " : Str)).length = 2 := by decide
    have e3 : ((")" : Str)).length = 1 := by decide
    have e4 : ((PyData.int 0).shown).length = 1 := by decide
    omega
theorem fine_dct {n : Nat} {d : PyData} (f : Fine n d) : Fine (n + 1) (.dict [(.str "a", d)]) := by
  obtain ⟨f1, f2, f3⟩ := f
  refine ⟨by simp [PyData.showable, PyData.showableKv, f1], ?_, ?_⟩
  · simp only [PyData.depth, PyData.depthKv]
    omega
  · have e : (PyData.dict [(.str "a", d)]).shown = (("{" : Str) ++ (((PyData.str "a").shown ++ (": " : Str)) ++ d.shown)) ++ ("}" : Str) := rfl
    rw [e]
    simp only [strLen_app]
    have e1 : (("{" : Str)).length = 1 := by decide
    have e2 : ((": " : Str)).length = 2 := by decide
    have e3 : (("}" : Str)).length = 1 := by decide
    have e4 : ((PyData.str "a").shown).length = 3 := by decide +kernel
    omega
theorem Fine.up {n m : Nat} {d : PyData} (f : Fine n d) (h : n ≤ m) : Fine m d := ⟨f.1, by have := f.2.1; omega, by have := f.2.2; omega⟩
end KZ
namespace KZ
open PySem PySem.Spec PyProof.Rows L2
/-! ## the jar -/
/-- all but the jar stays -/
def Kp (J : Addr) (H H' : Hp) : Prop := ∀ b o, H b = some o → b ≠ J → H' b = some o
theorem Kp.refl (J : Addr) (H : Hp) : Kp J H H := fun _ _ e _ => e
theorem Kp.trans {J : Addr} {H H1 H2 : Hp} (a : Kp J H H1) (b : Kp J H1 H2) : Kp J H H2 := fun c o e h => b c o (a c o e h) h
theorem Kp.new {J : Addr} {H H' : Hp} {a : Addr} {o : HO} (x : Kp J H H') (h : H' a = none) : Kp J H (upd H' a o) := fun b u e n => by
  have e' := x b u e n
  rw [upd_ne (ne_of_none e' h)]
  exact e'
theorem Kp.jar {J : Addr} {H H' : Hp} {o : HO} (x : Kp J H H') : Kp J H (upd H' J o) := fun b u e n => by
  rw [upd_ne n]
  exact x b u e n
theorem Kp.ext {J : Addr} {H H' : Hp} (x : Kp J H H') : Ext J H H' := fun b o e n _ => x b o e n
/-- the jar: three numbers, so many draws made of it -/
def Jar (J : Addr) (H : Hp) (c : Nat) : Prop := ∃ m s k : Int, H J = some (.lst [.int m, .int s, .int k]) ∧ 0 ≤ m ∧ m < 2 ^ 1000 ∧ 0 ≤ s ∧ s < 2 ^ 61 ∧ 0 ≤ k ∧ k ≤ (c : Int)
theorem Jar.up {J : Addr} {H : Hp} {c d : Nat} (h : c ≤ d) : Jar J H c → Jar J H d := fun ⟨m, s, k, e, a1, a2, a3, a4, a5, a6⟩ => ⟨m, s, k, e, a1, a2, a3, a4, a5, by omega⟩
theorem Jar.new {J : Addr} {H : Hp} {c : Nat} {a : Addr} {o : HO} (h : H a = none) : Jar J H c → Jar J (upd H a o) c := fun ⟨m, s, k, e, r⟩ => ⟨m, s, k, by rw [upd_ne (ne_of_none e h)]; exact e, r⟩
theorem Jar.ne {J : Addr} {H : Hp} {c : Nat} {a : Addr} (h : H a = none) (j : Jar J H c) : a ≠ J := fun z => by
  obtain ⟨m, s, k, e, _⟩ := j
  rw [z, e] at h
  cases h
/-- _law_take(jar, many): a number below many -/
def spTake : Sp := fun vs H Q _ => ∃ (J : Addr) (many : Int) (c : Nat), vs = [.ref J, .int many] ∧ Jar J H c ∧ c < 100000 ∧ 0 < many ∧ many < 1000000 ∧
  ∀ (r : Int) (H' : Hp), 0 ≤ r → r < many → Kp J H H' → Jar J H' (c + 1) → Q (.int r) H'
structure TxTk (mg : Str → Option Value) : Prop where
  int : mg "int" = none
theorem sc37 : FnScope ["_law_jar_here", "_law_many", "_law_digit", "_law_prime", "_law_made"] ["_law_jar_here", "_law_many"] (defScope s37) := ⟨rfl, rfl, rfl, by decide +kernel, rfl, by decide +kernel, by decide +kernel⟩
theorem prime_at {k : Int} (h : 0 ≤ k) : ∃ p : Int, atI ([2147483647, 2147483629, 2147483587, 2147483579, 2147483563].map V.int) (k % 5) = some (.int p) ∧ 0 < p := by
  have h0 : 0 ≤ k % 5 := Int.emod_nonneg _ (by decide)
  have h1 : k % 5 < 5 := Int.emod_lt_of_pos _ (by decide)
  generalize k % 5 = r at h0 h1
  have : r = 0 ∨ r = 1 ∨ r = 2 ∨ r = 3 ∨ r = 4 := by omega
  rcases this with e | e | e | e | e <;> subst e
  · exact ⟨2147483647, rfl, by decide⟩
  · exact ⟨2147483629, rfl, by decide⟩
  · exact ⟨2147483587, rfl, by decide⟩
  · exact ⟨2147483579, rfl, by decide⟩
  · exact ⟨2147483563, rfl, by decide⟩
section
variable {P : Program} {w : World} {K : PySem.W.Frag} {mg : Str → Option Value} {base : Heap}
abbrev Fd (K : PySem.W.Frag) (i : Nat) (x : Str) (f : Addr) (fd : FuncData) : Prop := FunD K x x (defArgs (topAt i)) (defBody (topAt i)) (defScope (topAt i)) [] [] f fd
theorem ok_take {f : Addr} {fd : FuncData} (F : Fd K 37 "_law_take" f fd) (gi : mg "int" = none) : FnOk P w K mg base CX0 1 f fd ["_law_jar_here", "_law_many"] spTake := by
  refine F.ok sc37 (fun vs H Q E h => ?_) (fun cdv A outer s H vs Q E hr h => ?_)
  · obtain ⟨J, many, c, rfl, _⟩ := h
    rfl
  · obtain ⟨J, many, c, rfl, ⟨m, z, k, hJ, m0, m1, z0, z1, k0, k1⟩, hc, hm0, hm1, q⟩ := h
    refine ⟨_, pss_cons (ps_if (pt_cmpR op_gt (pe_ix ix_list (pv 0) pe_int (fun _ _ => rfl)) pe_int (nomark _))
        (pss_cons (ps_set (i := 2) sc37.nd rfl (Or.inl rfl) (pe_op op_mod (pe_callTy call_int1 (by rfl) gi (by decide +kernel) (pa_cons (pe_ix ix_list (pv 0) pe_int (fun _ _ => rfl)) pa_nil)) (pv 1)))
          (pss_cons (ps_asg (pe_op op_fdivW (pe_ix ix_list (pv 0) pe_int (fun _ _ => rfl)) (pv 1)) (pg_sub (pv 0) pe_int set_list)) (pss_one (ps_ret (pv 2)))))
        pss_nil)
      (pss_cons (ps_asg (pe_op op_add (pe_ix ix_list (pv 0) pe_int (fun _ _ => rfl)) pe_int) (pg_sub (pv 0) pe_int set_list))
      (pss_cons (ps_set (i := 3) sc37.nd rfl (Or.inl rfl) (pe_ix ix_list (pe_lst (pa_cons pe_int (pa_cons pe_int (pa_cons pe_int (pa_cons pe_int (pa_cons pe_int pa_nil)))))) (pe_op op_mod (pe_callTy call_int1 (by rfl) gi (by decide +kernel) (pa_cons (pe_ix ix_list (pv 0) pe_int (fun _ _ => rfl)) pa_nil)) pe_int) (fun _ _ => rfl)))
      (pss_cons (ps_set (i := 4) sc37.nd rfl (Or.inl rfl) (pe_op op_mod (pe_callTy call_int1 (by rfl) gi (by decide +kernel) (pa_cons (pe_op op_pow (pe_op op_add (pe_op op_add (pe_ix ix_list (pv 0) pe_int (fun _ _ => rfl)) (pe_op op_mul (pe_op op_mul pe_int (pe_ix ix_list (pv 0) pe_int (fun _ _ => rfl))) (pe_ix ix_list (pv 0) pe_int (fun _ _ => rfl)))) pe_int) pe_int) pa_nil)) (pv 3)))
      (pss_cons (ps_set (i := 4) sc37.nd rfl (Or.inl rfl) (pe_op op_mod (pe_callTy call_int1 (by rfl) gi (by decide +kernel) (pa_cons (pe_op op_mul (pv 4) (pe_op op_add (pe_op op_mod (pe_callTy call_int1 (by rfl) gi (by decide +kernel) (pa_cons (pv 4) pa_nil)) pe_int) (pe_op op_mul pe_int (pe_ix ix_list (pv 0) pe_int (fun _ _ => rfl))))) pa_nil)) pe_int))
      (pss_one (ps_ret (pe_op op_mod (pe_callTy call_int1 (by rfl) gi (by decide +kernel) (pa_cons (pe_op op_fdiv (pv 4) pe_int) pa_nil)) (pv 1)))))))), ?_⟩
    refine ⟨_, rfl, J, _, 0, _, rfl, rfl, SqL.of hJ, rfl, _, _, rfl, rfl, _, rfl, ?_⟩
    refine ite2 (fun hgt => ?_) (fun hgt => ?_)
    · -- a digit of what is left
      have hmp : (0 : Int) < many := hm0
      refine ⟨_, rfl, J, _, 0, _, rfl, rfl, SqL.of hJ, rfl, .inl ⟨_, rfl, _, rfl, _, _, rfl, rfl, hmp, ?_⟩⟩
      have hdv : CDivW m many := by
        refine wide_div hmp (b := 20) ?_ (by decide) (by decide)
        have e20 : (2 : Nat) ^ 20 = 1048576 := by decide
        omega
      refine ⟨_, rfl, J, _, 0, _, rfl, rfl, SqL.of hJ, rfl, _, rfl, _, _, rfl, rfl, hdv, ?_⟩
      refine ⟨_, rfl, J, _, 0, 0, rfl, rfl, hJ, rfl, ?_⟩
      refine ⟨_, rfl, ?_⟩
      refine q _ _ (Int.emod_nonneg _ (by omega)) (Int.emod_lt_of_pos _ hmp) (Kp.refl J H).jar ⟨m / many, z, k, upd_same, Int.ediv_nonneg m0 (by omega), ?_, z0, z1, k0, by omega⟩
      exact Int.lt_of_le_of_lt (Int.ediv_le_self _ m0) m1
    · have hjl : ∀ (p : Addr) (o : HO), upd H J (.lst [.int m, .int z, .int (k + 1)]) p = none → upd (upd H J (.lst [.int m, .int z, .int (k + 1)])) p o J = some (.lst [.int m, .int z, .int (k + 1)]) := fun p o hp => by
        rw [upd_ne (ne_of_none upd_same hp), upd_same]
      refine ⟨_, rfl, J, _, 2, _, rfl, rfl, SqL.of hJ, rfl, _, _, rfl, rfl, ?_⟩
      refine ⟨_, rfl, J, _, 2, 2, rfl, rfl, hJ, rfl, ?_⟩
      refine ⟨by decide, fun p hp => ?_⟩
      have hJ2 := hjl p (.lst ([2147483647, 2147483629, 2147483587, 2147483579, 2147483563].map V.int)) hp
      obtain ⟨pr, hpr, pr0⟩ := prime_at (k := k + 1) (by omega)
      have hp5 : (0 : Int) < 5 := by decide
      refine ⟨_, rfl, J, _, 2, _, rfl, rfl, SqL.of hJ2, rfl, .inl ⟨_, rfl, _, _, rfl, rfl, hp5, p, _, _, _, rfl, rfl, SqL.of upd_same, hpr, ?_⟩⟩
      have ck : (0 : Int) ≤ k + 1 ∧ k + 1 < 200000 := ⟨by omega, by omega⟩
      have c1 : CMul 99881 (k + 1) := .inl ⟨by decide, by decide⟩
      have c2 : CMul (99881 * (k + 1)) (k + 1) := .inr ⟨by omega, by omega⟩
      have sq : 0 ≤ 99881 * (k + 1) * (k + 1) ∧ 99881 * (k + 1) * (k + 1) ≤ 99881 * 200000 * 200000 := by
        have h1 : 0 ≤ (k + 1) * (k + 1) := Int.mul_nonneg ck.1 ck.1
        have h2 : (k + 1) * (k + 1) ≤ 200000 * 200000 := Int.mul_le_mul (by omega) (by omega) ck.1 (by decide)
        rw [Int.mul_assoc]
        constructor <;> omega
      have c3 : CPow (z + 99881 * (k + 1) * (k + 1) + 73) 3 := by
        refine ⟨by decide, by decide, ?_⟩
        have e61 : (2 : Int) ^ 61 = 2305843009213693952 := by decide
        have e64 : (2 : Nat) ^ 64 = 18446744073709551616 := by decide
        omega
      refine ⟨_, rfl, J, _, 1, _, rfl, rfl, SqL.of hJ2, rfl, _, rfl, J, _, 2, _, rfl, rfl, SqL.of hJ2, rfl, _, _, rfl, rfl, c1, _, rfl, J, _, 2, _, rfl, rfl, SqL.of hJ2, rfl, _, _, rfl, rfl, c2, _, _, rfl, rfl, _, _, rfl, rfl, _, _, rfl, rfl, c3, .inl ⟨_, rfl, ?_⟩⟩
      refine ⟨_, rfl, _, _, rfl, rfl, pr0, ?_⟩
      have h9 : (0 : Int) < 10009 := by decide
      have c4 : CMul 97 (k + 1) := .inl ⟨by decide, by decide⟩
      have hbig : (0 : Int) < 2305843009213693907 := by decide
      have c6 : CDiv ((z + 99881 * (k + 1) * (k + 1) + 73) ^ (3 : Int).toNat % pr * ((z + 99881 * (k + 1) * (k + 1) + 73) ^ (3 : Int).toNat % pr % 10009 + 97 * (k + 1)) % 2305843009213693907) 89 := ⟨by decide, by decide⟩
      have c5 : ∀ md : Int, CMul md (md % 10009 + 97 * (k + 1)) := fun md => by
        have b0 := Int.emod_nonneg md (show (10009 : Int) ≠ 0 by decide)
        have b1 := Int.emod_lt_of_pos md h9
        have e64 : (2 : Int) ^ 64 = 18446744073709551616 := by decide
        exact .inr ⟨by omega, by omega⟩
      refine ⟨_, rfl, _, rfl, .inl ⟨_, rfl, _, _, rfl, rfl, h9, _, rfl, J, _, 2, _, rfl, rfl, SqL.of hJ2, rfl, _, _, rfl, rfl, c4, _, _, rfl, rfl, _, _, rfl, rfl, c5 _, .inl ⟨_, rfl, _, _, rfl, rfl, hbig, ?_⟩⟩⟩
      refine ⟨_, rfl, _, _, rfl, rfl, c6, .inl ⟨_, rfl, _, rfl, _, _, rfl, rfl, hm0, ?_⟩⟩
      refine q _ _ (Int.emod_nonneg _ (by omega)) (Int.emod_lt_of_pos _ hm0) (((Kp.refl J H).jar).new hp) ⟨m, z, k + 1, hJ2, m0, m1, z0, z1, by omega, by omega⟩
/-! ## an item drawn of a list -/
theorem sc38 : FnScope ["_law_jar_here", "_law_some"] ["_law_jar_here", "_law_some"] (defScope s38) := ⟨rfl, rfl, rfl, by decide +kernel, rfl, by decide +kernel, by decide +kernel⟩
/-- _law_of(jar, some): one of the items -/
def spOf : Sp := fun vs H Q _ => ∃ (J l : Addr) (xs : List V) (c : Nat), vs = [.ref J, .ref l] ∧ Jar J H c ∧ c < 100000 ∧ l ≠ J ∧ H l = some (.lst xs) ∧ xs ≠ [] ∧ xs.length < 100000 ∧
  ∀ (i : Nat) (v : V) (H' : Hp), xs[i]? = some v → Kp J H H' → Jar J H' (c + 1) → Q v H'
theorem ok_of {f fT : Addr} {fd fdT : FuncData} (F : Fd K 38 "_law_of" f fd) (FT : Fd K 37 "_law_take" fT fdT) (gT : mg "_law_take" = some (.ref fT)) (gi : mg "int" = none) (gl : mg "len" = none) : FnOk P w K mg base CX0 2 f fd ["_law_jar_here", "_law_some"] spOf := by
  have GT : FnOk P w K mg base CX0 1 fT fdT ["_law_jar_here", "_law_many"] spTake := ok_take FT gi
  have bT : Binds K fdT ["_law_jar_here", "_law_many"] [] := FT.bindsN fun _ _ _ _ _ _ us hl => match us, hl with | [_, _], _ => rfl
  refine F.ok sc38 (fun vs H Q E h => ?_) (fun cdv A outer s H vs Q E hr h => ?_)
  · obtain ⟨J, l, xs, c, rfl, _⟩ := h
    rfl
  · obtain ⟨J, l, xs, c, rfl, hJ, hc, nl, hl, ne, hlen, q⟩ := h
    refine ⟨_, pss_one (ps_ret (pe_ix ix_list (pv 1) (pe_call GT hr rfl gT FT.kp bT .nil pass0 (pa_cons (pv 0) (pa_cons (pe_callB call_len_seq (by rfl) gl PySem.boot_len (pa_cons (pv 1) pa_nil)) pa_nil))) (fun _ _ => rfl))), ?_⟩
    have hpos : 0 < xs.length := List.length_pos_iff.mpr ne
    refine ⟨_, rfl, _, rfl, _, rfl, l, _, rfl, .inl (SqL.of hl), J, (xs.length : Int), c, rfl, hJ, hc, by omega, by omega, fun r H' r0 r1 kp j' => ?_⟩
    obtain ⟨i, rfl⟩ := Int.eq_ofNat_of_zero_le r0
    have hi : i < xs.length := by omega
    have hx : xs[i]? = some xs[i] := by simp [hi]
    exact ⟨l, xs, _, _, rfl, rfl, SqL.of (kp l _ hl nl), atI_nat hx, q i _ H' hx kp j'⟩
end
end KZ
namespace KZ
open PySem PySem.Spec PyProof.Rows L2
/-! ## a value of any kind -/
def Any (J : Addr) (H : Hp) (n : Nat) (v : V) : Prop := ∃ d, Dat J H n v d ∧ Fine n d
theorem Any.kp {J : Addr} {H H' : Hp} {n : Nat} {v : V} (k : Kp J H H') : Any J H n v → Any J H' n v := fun ⟨d, x, f⟩ => ⟨d, x.ext k.ext, f⟩
theorem Any.up {J : Addr} {H : Hp} {n m : Nat} {v : V} (h : n ≤ m) : Any J H n v → Any J H m v := fun ⟨d, x, f⟩ => ⟨d, x.up h, f.up h⟩
theorem any_non {J : Addr} {H : Hp} : Any J H 0 .non := ⟨.none, trivial, by decide, by decide, by decide⟩
theorem any_bl {J : Addr} {H : Hp} (b : Bool) : Any J H 0 (.bl b) := ⟨.bool b, rfl, by cases b <;> decide, by cases b <;> decide, by cases b <;> decide⟩
theorem any_int {J : Addr} {H : Hp} {i : Int} (h1 : i.natAbs.log2 < 1920) (h2 : (PyData.int i).shown.length ≤ 40) : Any J H 0 (.int i) := ⟨.int i, rfl, by simpa [PyData.showable] using h1, by simp [PyData.depth], by simpa using h2⟩
theorem any_str {J : Addr} {H : Hp} {x : Str} (h2 : (PyData.str x).shown.length ≤ 40) : Any J H 0 (.str x) := ⟨.str x, rfl, by simp [PyData.showable], by simp [PyData.depth], by simpa using h2⟩
theorem any_tup0 {J : Addr} {H : Hp} {a : Addr} (nj : a ≠ J) (h : H a = some (.tup [])) : Any J H 1 (.ref a) := ⟨.tuple [], .inr ⟨a, rfl, nj, .inl ⟨[], [], h, rfl, .nil⟩⟩, by decide, by decide, by decide⟩
theorem any_lst0 {J : Addr} {H : Hp} {a : Addr} (nj : a ≠ J) (h : H a = some (.lst [])) : Any J H 1 (.ref a) := ⟨.list [], .inr ⟨a, rfl, nj, .inr (.inl ⟨[], [], h, rfl, .nil⟩)⟩, by decide, by decide, by decide⟩
theorem any_dct0 {J : Addr} {H : Hp} {a : Addr} (nj : a ≠ J) (h : H a = some (.dK [])) : Any J H 1 (.ref a) := ⟨.dict [], .inr ⟨a, rfl, nj, .inr (.inr (.inl ⟨h, rfl⟩))⟩, by decide, by decide, by decide⟩
theorem any_tup1 {J : Addr} {H : Hp} {a : Addr} {n : Nat} {v : V} (nj : a ≠ J) (h : H a = some (.tup [v])) : Any J H n v → Any J H (n + 1) (.ref a) := fun ⟨d, x, f⟩ =>
  ⟨.tuple [d], .inr ⟨a, rfl, nj, .inl ⟨[v], [d], h, rfl, .cons x .nil⟩⟩, fine_tup1 f⟩
theorem any_lst1 {J : Addr} {H : Hp} {a : Addr} {n : Nat} {v : V} (nj : a ≠ J) (h : H a = some (.lst [v])) : Any J H n v → Any J H (n + 1) (.ref a) := fun ⟨d, x, f⟩ =>
  ⟨.list [d], .inr ⟨a, rfl, nj, .inr (.inl ⟨[v], [d], h, rfl, .cons x .nil⟩)⟩, fine_lst1 f⟩
theorem dat_zero {J : Addr} {H : Hp} : ∀ n, Dat J H n (.int 0) (.int 0)
  | 0 => rfl
  | n + 1 => .inl (dat_zero n)
theorem any_tup2 {J : Addr} {H : Hp} {a : Addr} {n : Nat} {v : V} (nj : a ≠ J) (h : H a = some (.tup [v, .int 0])) : Any J H n v → Any J H (n + 1) (.ref a) := fun ⟨d, x, f⟩ =>
  ⟨.tuple [d, .int 0], .inr ⟨a, rfl, nj, .inl ⟨[v, .int 0], [d, .int 0], h, rfl, .cons x (.cons (dat_zero n) .nil)⟩⟩, fine_tup2 f⟩
theorem any_dct {J : Addr} {H : Hp} {a : Addr} {n : Nat} {v : V} (nj : a ≠ J) (h : H a = some (.dK [(Sum.inr "a", v)])) : Any J H n v → Any J H (n + 1) (.ref a) := fun ⟨d, x, f⟩ =>
  ⟨.dict [(.str "a", d)], .inr ⟨a, rfl, nj, .inr (.inr (.inr ⟨"a", v, d, h, rfl, x⟩))⟩, fine_dct f⟩
theorem any_pair {J : Addr} {H : Hp} {a : Addr} {d e : PyData} {v u : V} (nj : a ≠ J) (h : H a = some (.tup [v, u])) (h1 : Sc v d) (h2 : Sc u e) (f : Fine 1 (.tuple [d, e])) : Any J H 1 (.ref a) :=
  ⟨.tuple [d, e], .inr ⟨a, rfl, nj, .inl ⟨[v, u], [d, e], h, rfl, .cons h1 (.cons h2 .nil)⟩⟩, f⟩
/-- a new object: what is known behind it -/
theorem new_facts {J : Addr} {H : Hp} {c : Nat} {p : Addr} {o : HO} (hp : H p = none) (j : Jar J H c) : upd H p o p = some o ∧ Kp J H (upd H p o) ∧ Jar J (upd H p o) c ∧ p ≠ J :=
  ⟨upd_same, (Kp.refl J H).new hp, j.new hp, j.ne hp⟩
theorem new_dict {J : Addr} {H : Hp} {c : Nat} {p : Addr} {o u : HO} (hp : H p = none) (j : Jar J H c) : upd (upd H p o) p u p = some u ∧ Kp J H (upd (upd H p o) p u) ∧ Jar J (upd (upd H p o) p u) c ∧ p ≠ J := by
  rw [upd_upd]
  exact new_facts hp j
def spOdd : Sp := fun vs H Q _ => ∃ (J : Addr) (c : Nat), vs = [.ref J] ∧ Jar J H c ∧ c + 6 < 100000 ∧ ∀ (v : V) (H' : Hp), Kp J H H' → Jar J H' (c + 6) → Any J H' 7 v → Q v H'
theorem sc39 : FnScope ["_law_jar_here", "_law_some", "_law_found", "_law_turn"] ["_law_jar_here"] (defScope s39) := ⟨rfl, rfl, rfl, by decide +kernel, rfl, by decide +kernel, by decide +kernel⟩
section
variable {P : Program} {w : World} {K : PySem.W.Frag} {mg : Str → Option Value} {base : Heap}
theorem ok_odd {f fO fT : Addr} {fd fdO fdT : FuncData} (F : Fd K 39 "_law_odd" f fd) (FO : Fd K 38 "_law_of" fO fdO) (FT : Fd K 37 "_law_take" fT fdT) (gO : mg "_law_of" = some (.ref fO)) (gT : mg "_law_take" = some (.ref fT)) (gi : mg "int" = none) (gl : mg "len" = none) (gr : mg "range" = none) :
    FnOk P w K mg base CX0 3 f fd ["_law_jar_here"] spOdd := by
  have GO : FnOk P w K mg base CX0 2 fO fdO ["_law_jar_here", "_law_some"] spOf := ok_of FO FT gT gi gl
  have bO : Binds K fdO ["_law_jar_here", "_law_some"] [] := FO.bindsN fun _ _ _ _ _ _ us hl => match us, hl with | [_, _], _ => rfl
  refine F.ok sc39 (fun vs H Q E h => ?_) (fun cdv A outer s H vs Q E hr h => ?_)
  · obtain ⟨J, c, rfl, _⟩ := h
    rfl
  · obtain ⟨J, c, rfl, hJ, hc, q⟩ := h
    refine ⟨_, PSs.nox (pss_cons (ps_set (i := 1) sc39.nd rfl (Or.inl rfl) (pe_lst (pa_cons pe_non (pa_cons pe_bl (pa_cons pe_bl (pa_cons pe_int (pa_cons pe_int (pa_cons (pe_un un_neg pe_int) (pa_cons (pe_op op_pow pe_int pe_int) (pa_cons pe_str (pa_cons pe_str (pa_cons pe_str (pa_cons pe_str (pa_cons pe_str
          (pa_cons (pe_tup pa_nil) (pa_cons (pe_lst pa_nil) (pa_cons pe_dnewK (pa_cons (pe_tup (pa_cons pe_str pa_nil)) (pa_cons (pe_lst (pa_cons pe_int pa_nil)) (pa_cons (pe_disp (pps_cons pe_str pe_int pps_nil) rfl rfl (by simp) (by decide)) pa_nil))))))))))))))))))))
      (pss_cons (ps_set (i := 2) sc39.nd rfl (Or.inl rfl) (pe_call GO hr rfl gO FO.kp bO .nil pass0 (pa_cons (pv 0) (pa_cons (pe_op op_cat (pv 1) (pe_lst (pa_cons (pe_tup (pa_cons pe_str (pa_cons pe_int pa_nil))) (pa_cons (pe_tup (pa_cons pe_str (pa_cons pe_str pa_nil))) (pa_cons (pe_tup (pa_cons (pe_tup (pa_cons pe_str (pa_cons pe_int pa_nil))) pa_nil)) (pa_cons pe_str pa_nil)))))) pa_nil))))
      (pss_cons (ps_for PassesOwn.never rfl (pi_range1 rfl gr (pa_cons (pe_call GO hr rfl gO FO.kp bO .nil pass0 (pa_cons (pv 0) (pa_cons (pe_lst (pa_cons pe_int (pa_cons pe_int (pa_cons pe_int (pa_cons pe_int (pa_cons pe_int (pa_cons pe_int (pa_cons pe_int pa_nil)))))))) pa_nil))) pa_nil)) (pg_name (i := 3) sc39.nd rfl (Or.inl rfl))
          (pss_one (ps_set (i := 2) sc39.nd rfl (Or.inl rfl) (pe_call GO hr rfl gO FO.kp bO .nil pass0 (pa_cons (pv 0) (pa_cons (pe_lst (pa_cons (pe_tup (pa_cons (pv 2) pa_nil)) (pa_cons (pe_lst (pa_cons (pv 2) pa_nil)) (pa_cons (pe_disp (pps_cons pe_str (pv 2) pps_nil) rfl rfl (by simp) (by decide)) (pa_cons (pe_tup (pa_cons (pv 2) (pa_cons pe_int pa_nil))) pa_nil))))) pa_nil))))))
      (pss_one (ps_ret (pv 2)))))), ?_⟩
    -- the list of the plain ones
    refine ⟨1, rfl, 10, 17, rfl, rfl, ⟨by decide, by decide, by decide⟩, ?_⟩
    refine ⟨by decide, fun p1 n1 => ?_⟩
    obtain ⟨e1, k1, j1, m1⟩ := new_facts (o := .tup []) n1 hJ
    generalize upd H p1 (.tup []) = H1 at e1 k1 j1 ⊢
    refine ⟨by decide, fun p2 n2 => ?_⟩
    obtain ⟨e2, k2, j2, m2⟩ := new_facts (o := .lst []) n2 j1
    generalize upd H1 p2 (.lst []) = H2 at e2 k2 j2 ⊢
    intro p3 n3
    obtain ⟨e3, k3, j3, m3⟩ := new_facts (o := .dK []) n3 j2
    generalize upd H2 p3 (.dK []) = H3 at e3 k3 j3 ⊢
    refine ⟨by decide, fun p4 n4 => ?_⟩
    obtain ⟨e4, k4, j4, m4⟩ := new_facts (o := .tup [.str "a"]) n4 j3
    generalize upd H3 p4 (.tup [.str "a"]) = H4 at e4 k4 j4 ⊢
    refine ⟨by decide, fun p5 n5 => ?_⟩
    obtain ⟨e5, k5, j5, m5⟩ := new_facts (o := .lst [.int 1]) n5 j4
    generalize upd H4 p5 (.lst [.int 1]) = H5 at e5 k5 j5 ⊢
    intro p6 n6
    refine ⟨upd_same, [(Sum.inr "a", .int 1)], rfl, by decide, ?_⟩
    obtain ⟨e6, k6, j6, m6⟩ := new_dict (o := .dK []) (u := .dK (mergeK [] [(Sum.inr "a", .int 1)])) n6 j5
    generalize upd (upd H5 p6 (.dK [])) p6 (.dK (mergeK [] [(Sum.inr "a", .int 1)])) = H6 at e6 k6 j6 ⊢
    have e6' : H6 p6 = some (.dK [(Sum.inr "a", .int 1)]) := e6
    refine ⟨(by show (18 : Nat) ≤ sizeLine; decide), fun p7 n7 => ?_⟩
    have big : (PyData.int ((10 : Int) ^ (17 : Int).toNat)).shown.length ≤ 40 := by decide +kernel
    have big2 : ((10 : Int) ^ (17 : Int).toNat).natAbs.log2 < 1920 := by decide +kernel
    obtain ⟨e7, k7, j7, m7⟩ := new_facts (o := .lst [.non, .bl true, .bl false, .int 0, .int 1, .int (-1), .int (10 ^ (17 : Int).toNat), .str "", .str "a", .str "A", .str "pass", .str "skip", .ref p1, .ref p2, .ref p3, .ref p4, .ref p5, .ref p6]) n7 j6
    generalize upd H6 p7 _ = H7 at e7 k7 j7 ⊢
    -- the further ones
    refine ⟨_, rfl, _, rfl, by decide, fun p8 n8 => ?_⟩
    obtain ⟨e8, k8, j8, m8⟩ := new_facts (o := .tup [.str "a", .int 1]) n8 j7
    generalize upd H7 p8 (.tup [.str "a", .int 1]) = H8 at e8 k8 j8 ⊢
    refine ⟨by decide, fun p9 n9 => ?_⟩
    obtain ⟨e9, k9, j9, m9⟩ := new_facts (o := .tup [.str "fresh", .str "p"]) n9 j8
    generalize upd H8 p9 (.tup [.str "fresh", .str "p"]) = H9 at e9 k9 j9 ⊢
    refine ⟨by decide, fun p10 n10 => ?_⟩
    obtain ⟨e10, k10, j10, m10⟩ := new_facts (o := .tup [.str "a", .int 1]) n10 j9
    generalize upd H9 p10 (.tup [.str "a", .int 1]) = H10 at e10 k10 j10 ⊢
    refine ⟨(by show (1 : Nat) ≤ sizeLine; decide), fun p11 n11 => ?_⟩
    obtain ⟨e11, k11, j11, m11⟩ := new_facts (o := .tup [.ref p10]) n11 j10
    generalize upd H10 p11 (.tup [.ref p10]) = H11 at e11 k11 j11 ⊢
    refine ⟨(by show (4 : Nat) ≤ sizeLine; decide), fun p12 n12 => ?_⟩
    obtain ⟨e12, k12, j12, m12⟩ := new_facts (o := .lst [.ref p8, .ref p9, .ref p11, .str "ninesigns"]) n12 j11
    generalize upd H11 p12 _ = H12 at e12 k12 j12 ⊢
    have e7' := (k8.trans (k9.trans (k10.trans (k11.trans k12)))) _ _ e7 m7
    refine ⟨p7, p12, _, _, rfl, rfl, e7', e12, (by show (18 : Nat) + 4 ≤ sizeLine; decide), fun p13 n13 => ?_⟩
    obtain ⟨e13, k13, j13, m13⟩ := new_facts (o := .lst ([.non, .bl true, .bl false, .int 0, .int 1, .int (-1), .int (10 ^ (17 : Int).toNat), .str "", .str "a", .str "A", .str "pass", .str "skip", .ref p1, .ref p2, .ref p3, .ref p4, .ref p5, .ref p6] ++ [.ref p8, .ref p9, .ref p11, .str "ninesigns"])) n13 j12
    generalize upd H12 p13 _ = H13 at e13 k13 j13 ⊢
    have K12 := k13
    have K11 := k12.trans K12
    have K10 := k11.trans K11
    have K9 := k10.trans K10
    have K8 := k9.trans K9
    have K7 := k8.trans K8
    have K6 := k7.trans K7
    have K5 := k6.trans K6
    have K4 := k5.trans K5
    have K3 := k4.trans K4
    have K2 := k3.trans K3
    have K1 := k2.trans K2
    have K0 := k1.trans K1
    have all : ∀ v ∈ (([.non, .bl true, .bl false, .int 0, .int 1, .int (-1), .int (10 ^ (17 : Int).toNat), .str "", .str "a", .str "A", .str "pass", .str "skip", .ref p1, .ref p2, .ref p3, .ref p4, .ref p5, .ref p6] : List V) ++ [.ref p8, .ref p9, .ref p11, .str "ninesigns"]), Any J H13 2 v := by
      intro v hv
      simp only [List.cons_append, List.nil_append, List.mem_cons, List.not_mem_nil, or_false] at hv
      rcases hv with h | h | h | h | h | h | h | h | h | h | h | h | h | h | h | h | h | h | h | h | h | h <;> subst h
      · exact any_non.up (by decide)
      · exact (any_bl true).up (by decide)
      · exact (any_bl false).up (by decide)
      · exact (any_int (by decide) (by decide +kernel)).up (by decide)
      · exact (any_int (by decide) (by decide +kernel)).up (by decide)
      · exact (any_int (by decide) (by decide +kernel)).up (by decide)
      · exact (any_int big2 big).up (by decide)
      · exact (any_str (by decide +kernel)).up (by decide)
      · exact (any_str (by decide +kernel)).up (by decide)
      · exact (any_str (by decide +kernel)).up (by decide)
      · exact (any_str (by decide +kernel)).up (by decide)
      · exact (any_str (by decide +kernel)).up (by decide)
      · exact (any_tup0 m1 (K1 _ _ e1 m1)).up (by decide)
      · exact (any_lst0 m2 (K2 _ _ e2 m2)).up (by decide)
      · exact (any_dct0 m3 (K3 _ _ e3 m3)).up (by decide)
      · exact (any_tup1 m4 (K4 _ _ e4 m4) (any_str (by decide +kernel))).up (by decide)
      · exact (any_lst1 m5 (K5 _ _ e5 m5) (any_int (by decide) (by decide +kernel))).up (by decide)
      · exact (any_dct m6 (K6 _ _ e6' m6) (any_int (by decide) (by decide +kernel))).up (by decide)
      · exact (any_pair m8 (K8 _ _ e8 m8) (d := .str "a") (e := .int 1) rfl rfl ⟨by decide, by decide, by decide +kernel⟩).up (by decide)
      · exact (any_pair m9 (K9 _ _ e9 m9) (d := .str "fresh") (e := .str "p") rfl rfl ⟨by decide, by decide, by decide +kernel⟩).up (by decide)
      · exact any_tup1 m11 (K11 _ _ e11 m11) (any_pair m10 (K10 _ _ e10 m10) (d := .str "a") (e := .int 1) rfl rfl ⟨by decide, by decide, by decide +kernel⟩)
      · exact (any_str (by decide +kernel)).up (by decide)
    refine ⟨J, p13, _, c, rfl, j13, by omega, m13, e13, by simp, (by show (22 : Nat) < 100000; decide), fun i v H14 hx kp j14 => ?_⟩
    have A : Any J H14 2 v := (all v (List.mem_of_getElem? hx)).kp kp
    have K14 : Kp J H H14 := K0.trans kp
    -- wrapped so many times
    refine ⟨_, rfl, by decide, fun p15 n15 => ?_⟩
    obtain ⟨e15, k15, j15, m15⟩ := new_facts (o := .lst [.int 0, .int 0, .int 0, .int 0, .int 1, .int 2, .int 4]) n15 j14
    generalize upd H14 p15 (.lst [.int 0, .int 0, .int 0, .int 0, .int 1, .int 2, .int 4]) = H15 at e15 k15 j15 ⊢
    refine ⟨J, p15, _, c + 1, rfl, j15, by omega, m15, e15, by simp, by decide, fun i2 r H16 hx2 kp2 j16 => ?_⟩
    have hr2 : ∃ j : Int, r = .int j ∧ 0 ≤ j ∧ j ≤ 4 := by
      have hm := List.mem_of_getElem? hx2
      simp only [List.mem_cons, List.not_mem_nil, or_false] at hm
      rcases hm with h | h | h | h | h | h | h <;> exact ⟨_, h, by decide, by decide⟩
    obtain ⟨j, rfl, hj0, hj4⟩ := hr2
    refine ⟨j, rfl, by omega, by omega, for_range (lo := 0) (n := j.toNat) (fun i σ H' => ∃ (l v : V) (t : Option V), σ = [some (.ref J), some l, some v, t] ∧ Kp J H H' ∧ Jar J H' (c + 2 + i) ∧ Any J H' (2 + i) v ∧ i ≤ 4)
      ⟨_, v, none, rfl, K14.trans (k15.trans kp2), j16, (A.kp k15).kp kp2, Nat.zero_le _⟩ ?_ ?_⟩
    · rintro i σ H' hi ⟨l, v, t, rfl, kk, jj, aa, i4⟩
      have i3 : i < 4 := by omega
      refine ⟨_, rfl, _, rfl, (by show (1 : Nat) ≤ sizeLine; decide), fun q1 n1 => ?_⟩
      obtain ⟨e1, k1, j1, m1⟩ := new_facts (o := .tup [v]) n1 jj
      generalize upd H' q1 (.tup [v]) = G1 at e1 k1 j1 ⊢
      refine ⟨_, rfl, (by show (1 : Nat) ≤ sizeLine; decide), fun q2 n2 => ?_⟩
      obtain ⟨e2, k2, j2, m2⟩ := new_facts (o := .lst [v]) n2 j1
      generalize upd G1 q2 (.lst [v]) = G2 at e2 k2 j2 ⊢
      intro q3 n3
      refine ⟨_, rfl, upd_same, [(Sum.inr "a", v)], rfl, (by show (1 : Nat) ≤ 15; decide), ?_⟩
      obtain ⟨e3, k3, j3, m3⟩ := new_dict (o := .dK []) (u := .dK (mergeK [] [(Sum.inr "a", v)])) n3 j2
      generalize upd (upd G2 q3 (.dK [])) q3 (.dK (mergeK [] [(Sum.inr "a", v)])) = G3 at e3 k3 j3 ⊢
      have e3' : G3 q3 = some (.dK [(Sum.inr "a", v)]) := e3
      refine ⟨_, rfl, (by show (2 : Nat) ≤ sizeLine; decide), fun q4 n4 => ?_⟩
      obtain ⟨e4, k4, j4, m4⟩ := new_facts (o := .tup [v, .int 0]) n4 j3
      generalize upd G3 q4 (.tup [v, .int 0]) = G4 at e4 k4 j4 ⊢
      refine ⟨(by show (4 : Nat) ≤ sizeLine; decide), fun q5 n5 => ?_⟩
      obtain ⟨e5, k5, j5, m5⟩ := new_facts (o := .lst [.ref q1, .ref q2, .ref q3, .ref q4]) n5 j4
      generalize upd G4 q5 (.lst [.ref q1, .ref q2, .ref q3, .ref q4]) = G5 at e5 k5 j5 ⊢
      have L4 := k5
      have L3 := k4.trans L4
      have L2 := k3.trans L3
      have L1 := k2.trans L2
      have L0 := k1.trans L1
      have av := aa.kp L0
      refine ⟨J, q5, _, c + 2 + i, rfl, j5, by omega, m5, e5, by simp, (by show (4 : Nat) < 100000; decide), fun i2 y G6 hx kp j6 => ?_⟩
      have ay : Any J G5 (2 + i + 1) y := by
        have hm := List.mem_of_getElem? hx
        simp only [List.mem_cons, List.not_mem_nil, or_false] at hm
        rcases hm with h | h | h | h <;> subst h
        · exact any_tup1 m1 (L1 _ _ e1 m1) av
        · exact any_lst1 m2 (L2 _ _ e2 m2) av
        · exact any_dct m3 (L3 _ _ e3' m3) av
        · exact any_tup2 m4 (L4 _ _ e4 m4) av
      exact ⟨l, y, _, rfl, kk.trans (L0.trans kp), j6, ay.kp kp, by omega⟩
    · rintro σ H' ⟨l, v, t, rfl, kk, jj, aa, i4⟩
      exact ⟨_, rfl, q v H' kk (jj.up (by omega)) (aa.up (by omega))⟩
end
end KZ
namespace KZ
open PySem PySem.Spec PyProof.Rows L2 LamX NdefX
/-! ## the errors' own __init__ -/
def iA (f : Str) (p1 p2 : Pos) : Arguments := { posonlyargs := [], args := [{ arg := "self", annotation := none, pos := p1 }, { arg := f, annotation := none, pos := p2 }], vararg := none, kwonlyargs := [], kw_defaults := [], kwarg := none, defaults := [] }
def iB (f : Str) (q1 q2 q3 q4 : Pos) : List Stmt := [.Assign [.Attribute (.Name "self" q1) f q2] (.Name f q3) q4]
def iS (f : Str) : Scope := { kind := .function, names := [("self", .local), (f, .local)], isGenerator := false, isCoroutine := false, more := [] }
def iniB (st : Stmt) (f : Str) : Bool := match defArgs st, defBody st, defScope st with
  | ⟨[], [⟨a, none, _⟩, ⟨b, none, _⟩], none, [], [], none, []⟩, [.Assign [.Attribute (.Name s _) g _] (.Name v _) _], ⟨.function, names, false, false, []⟩ =>
    decide (a = "self") && (decide (b = f) && (decide (s = "self") && (decide (g = f) && (decide (v = f) && decide (names = (iS f).names)))))
  | _, _, _ => false
theorem iniB_ok {st : Stmt} {f : Str} (h : iniB st f = true) : ∃ p1 p2 q1 q2 q3 q4, defArgs st = iA f p1 p2 ∧ defBody st = iB f q1 q2 q3 q4 ∧ defScope st = iS f := by
  unfold iniB at h
  split at h
  · rename_i a p1 b p2 s q1 g q2 v q3 q4 names e1 e2 e3
    simp only [Bool.and_eq_true, decide_eq_true_eq] at h
    obtain ⟨h1, h2, h3, h4, h5, h6⟩ := h
    subst h1 h2 h3 h4 h5 h6
    exact ⟨p1, p2, q1, q2, q3, q4, e1, e2, e3⟩
  · cases h
theorem ini_all : ((List.range 33).all fun i => match errs[i]? with | some p => iniB (mkInit i) p.2 | none => false) = true := by decide +kernel
theorem errs_len : errs.length = 33 := by decide +kernel
theorem errs_lt {i : Nat} {p : Str × Str} (h : errs[i]? = some p) : i < 33 := by
  have q := (List.getElem?_eq_some_iff.mp h).1
  rw [errs_len] at q
  exact q
theorem ini_at {i : Nat} {p : Str × Str} (h : errs[i]? = some p) : iniB (mkInit i) p.2 = true := by
  have q := List.all_eq_true.mp ini_all i (List.mem_range.mpr (errs_lt h))
  rw [h] at q
  exact q
theorem errs_fld : (errs.all fun p => decide (p.2 = "value") || (decide (p.2 = "number") || decide (p.2 = "line"))) = true := by decide +kernel
theorem fld_of {i : Nat} {p : Str × Str} (h : errs[i]? = some p) : p.2 = "value" ∨ p.2 = "number" ∨ p.2 = "line" := by
  have q := List.all_eq_true.mp errs_fld p (List.mem_of_getElem? h)
  simpa only [Bool.or_eq_true, decide_eq_true_eq] using q
section
variable {P : Program} {w : World} {K : PySem.W.Frag} {mg : Str → Option Value} {base : Heap}
theorem scIni {f : Str} (hf : f = "value" ∨ f = "number" ∨ f = "line") : FnScope ["self", f] ["self", f] (iS f) := by
  rcases hf with h | h | h <;> subst h <;> exact ⟨rfl, rfl, rfl, by decide +kernel, rfl, by decide +kernel, by decide +kernel⟩
theorem ok_ini {x f : Str} {C fI : Addr} {fd : FuncData} {st : Stmt} (hf : f = "value" ∨ f = "number" ∨ f = "line") (hi : iniB st f = true) (F : FunD K "__init__" (x ++ ".__init__") (defArgs st) (defBody st) (defScope st) [] [] fI fd)
    (ox : OexC K C) (no : PySem.W.findIn K (.ref C) f = some none) : FnOk P w K mg base CX0 1 fI fd ["self", f] (spIni C f) ∧
      (∀ (s : Shared) (a u : Value), BindsTo s fd ⟨[a, u], []⟩ [("self", a), (f, u)]) ∧ (∀ (s : Shared) (a u : Value), BindsTo s fd ⟨[a], [(f, u)]⟩ [("self", a), (f, u)]) := by
  obtain ⟨p1, p2, q1, q2, q3, q4, e1, e2, e3⟩ := iniB_ok hi
  rw [e1, e2, e3] at F
  refine ⟨F.ok (scIni hf) (fun vs H Q E h => ?_) (fun cdv A outer s H vs Q E hr h => ?_), fun s a u => ?_, fun s a u => ?_⟩
  · obtain ⟨a, v, rfl, _⟩ := h
    rfl
  · obtain ⟨a, v, rfl, ea, k⟩ := h
    have v0 : Vis (iS f) "self" := .inl rfl
    have v1 : Vis (iS f) f := by rcases hf with h | h | h <;> subst h <;> exact .inl rfl
    have d1 : (f == ("__debug__" : Str)) = false := by rcases hf with h | h | h <;> subst h <;> decide
    have d2 : (f == ("__classdict__" : Str)) = false := by rcases hf with h | h | h <;> subst h <;> decide
    refine ⟨_, pss_one (ps_ost (pe_var (i := 0) rfl v0) (pe_var (i := 1) rfl v1 d1 d2)), ?_⟩
    exact ⟨_, rfl, _, rfl, a, C, rfl, ox, no, .inl ⟨ea, fun dx n ne => k dx n ne⟩⟩
  · obtain ⟨oc, od, dV, kV, doc, pm, an, cdv, ct, osl, rfl, lk, hcd, hD, hK⟩ := F.ex
    rcases hD with ⟨_, rfl⟩ | ⟨e, _⟩
    · rcases hf with h | h | h <;> subst h <;> exact .of_eq rfl
    · exact absurd rfl e
  · obtain ⟨oc, od, dV, kV, doc, pm, an, cdv, ct, osl, rfl, lk, hcd, hD, hK⟩ := F.ex
    rcases hD with ⟨_, rfl⟩ | ⟨e, _⟩
    · rcases hf with h | h | h <;> subst h <;> exact .of_eq rfl
    · exact absurd rfl e
/-! ## the lambdas' promises -/
def spLam (C : Addr) (f : Str) : Sp := fun vs H Q _ => ∃ v : V, vs = [v] ∧ ∀ a d, H a = none → H d = none → d ≠ a → Q (.ref a) (mkH C f v H a d)
def lA (p : Pos) : Arguments := { posonlyargs := [], args := [{ arg := "_law_it", annotation := none, pos := p }], vararg := none, kwonlyargs := [], kw_defaults := [], kwarg := none, defaults := [] }
def lS (x : Str) : Scope := { kind := .function, names := [("_law_it", .local), (x, .globalImplicit)], isGenerator := false, isCoroutine := false, more := [] }
/-- the text of the lambda for the error x: by position, or by the name f -/
def LamTx (x f : Str) (params : Arguments) (body : Expr) (scope : Scope) : Prop := ∃ p0 p1 p2 p3 : Pos, params = lA p0 ∧ scope = lS x ∧
  (body = .Call (.Name x p1) [.Name "_law_it" p2] [] p3 ∨ ∃ kp, body = .Call (.Name x p1) [] [⟨some f, .Name "_law_it" p2, kp⟩] p3)
theorem scLam (x : Str) : NScope ["_law_it"] ["_law_it"] [] (lS x) := by
  refine ⟨rfl, rfl, rfl, by decide, rfl, fun y hy => ?_, fun y hy => ?_, fun y hy => ?_, fun y hy => by simp at hy⟩
  · have e : y = "_law_it" := by simpa using hy
    subst e
    rfl
  · simp only [lS, List.mem_cons, List.not_mem_nil, or_false] at hy
    rcases hy with h | h <;> subst h <;> exact fun z => by cases z
  · simp only [lS, List.mem_cons, List.not_mem_nil, or_false] at hy
    rcases hy with h | h <;> subst h <;> exact fun z => by cases z
theorem lok {x f : Str} {C : Addr} {q : Str} {params : Arguments} {body : Expr} {scope : Scope} (E : Er P w K mg base x f C) (hx : (x == ("_law_it" : Str)) = false) (hd : (x == ("__debug__" : Str)) = false) (T : LamTx x f params body scope) :
    LOk P w K mg base 3 q params body scope ["_law_it"] (spLam C f) := by
  obtain ⟨p0, p1, p2, p3, rfl, rfl, hb⟩ := T
  refine lok_of (N := ["_law_it"]) (scLam x) (fun pm cv ctv us hl => ?_) (fun A outer s H ff c' vs Q E' hr hl h => ?_)
  · match us, hl with
    | [_], _ => rfl
  · obtain ⟨v, rfl, k⟩ := h
    have gl : (lS x).names.lookup x = some .globalImplicit := by
      show (match x == ("_law_it" : Str) with | true => some NameKind.local | false => (match x == x with | true => some NameKind.globalImplicit | false => none)) = some NameKind.globalImplicit
      rw [hx, beq_self_eq_true]
    have vis : Vis (lS x) "_law_it" := .inl rfl
    rcases hb with hb | ⟨kp, hb⟩
    · subst hb
      refine ⟨_, pe_er (X := ncx CX0 P w K mg base ["_law_it"] (nf q (lA p0) (lS x) c') ff A outer s H E') E hr gl (pe_var (i := 0) rfl vis) hd, ?_⟩
      exact ⟨_, rfl, k⟩
    · subst hb
      refine ⟨_, pe_erK (X := ncx CX0 P w K mg base ["_law_it"] (nf q (lA p0) (lS x) c') ff A outer s H E') E hr gl (pk_cons (pe_var (i := 0) rfl vis) pk_nil) hd, ?_⟩
      exact ⟨_, rfl, v, rfl, k⟩
end
end KZ
namespace KZ
open PySem PySem.Spec PyProof.Rows L2 LamX NdefX
/-! ## the two lists of lambdas -/
/-- at l, in H': the first k of the lambdas; H: ahead of them -/
def Mk33 (T : List (Addr × Str)) (H : Hp) (l : Addr) (k : Nat) (H' : Hp) : Prop := ∃ fs : List V, H' l = some (.lst fs) ∧ fs.length = k ∧ k ≤ 33 ∧ ExtN H H' ∧ (∀ b, H' b = none → H b = none) ∧ Tabs T H' ∧ H l = none ∧
  ∀ (i : Nat) (x f : Str), i < k → errs[i]? = some (x, f) → ∃ (fa c' : Addr) (q : Str) (params : Arguments) (body : Expr) (scope : Scope), fs[i]? = some (.ref fa) ∧ LamTx x f params body scope ∧ H' fa = some (LamO fa c' q params body scope) ∧ H' c' = some (CodeO c' q)
def spMks (T : List (Addr × Str)) : Sp := fun vs H Q _ => vs = [] ∧ Tabs T H ∧ ∀ (l : Addr) (H' : Hp), Mk33 T H l 33 H' → Q (.ref l) H'
theorem lamO_lst {f c' : Addr} {q : Str} {params : Arguments} {body : Expr} {scope : Scope} (xs : List V) : LamO f c' q params body scope ≠ .lst xs := fun z => by
  unfold LamO at z
  cases z
theorem codeO_lst {c : Addr} {q : Str} (xs : List V) : CodeO c q ≠ .lst xs := fun z => by
  unfold CodeO at z
  cases z
theorem tabs_lst {T : List (Addr × Str)} {H : Hp} {l : Addr} {xs ys : List V} (hl : H l = some (.lst xs)) (t : Tabs T H) : Tabs T (upd H l (.lst ys)) := fun p hp => by
  obtain ⟨ps, h1, h2, h3⟩ := t p hp
  refine ⟨ps, by rw [upd_ne (ne_of h1 hl (fun z => by cases z))]; exact h1, h2, fun pos cv hc => ?_⟩
  obtain ⟨c, e1, e2⟩ := h3 pos cv hc
  exact ⟨c, e1, by rw [upd_ne (ne_of e2 hl (codeO_lst xs))]; exact e2⟩
theorem tabs_new {T : List (Addr × Str)} {H : Hp} {l : Addr} {o : HO} (hl : H l = none) (t : Tabs T H) : Tabs T (upd H l o) := t.ext fun b u e => by
  rw [upd_ne (ne_of_none e hl)]
  exact e
theorem mk33_one {T : List (Addr × Str)} {H H1 : Hp} {l ff c' : Addr} {q x f : Str} {params : Arguments} {body : Expr} {scope : Scope} (hk : errs[0]? = some (x, f)) (tx : LamTx x f params body scope) (eN : ExtN H H1) (nn : ∀ b, H1 b = none → H b = none) (T1 : Tabs T H1) (a0 : H ff = none)
    (a1 : H1 ff = some (LamO ff c' q params body scope)) (a2 : H1 c' = some (CodeO c' q)) (nl : H1 l = none) : Mk33 T H l 1 (upd H1 l (.lst [.ref ff])) := by
  refine ⟨[.ref ff], upd_same, rfl, by decide, fun b o e n => ?_, fun b e => ?_, tabs_new nl T1, nn l nl, fun i x' f' hi he => ?_⟩
  · have e' := eN b o e n
    rw [upd_ne (ne_of_none e' nl)]
    exact e'
  · exact nn b (upd_none e)
  · have i0 : i = 0 := by omega
    subst i0
    rw [hk] at he
    cases he
    exact ⟨ff, c', q, params, body, scope, rfl, tx, by rw [upd_ne (ne_of_none a1 nl)]; exact a1, by rw [upd_ne (ne_of_none a2 nl)]; exact a2⟩
theorem app_step {K : PySem.W.Frag} {T : List (Addr × Str)} {H H' : Hp} {l : Addr} {k : Nat} {q x f : Str} {params : Arguments} {body : Expr} {scope : Scope} {D : Ends} {σ : L2.St} (hk : errs[k]? = some (x, f)) (tx : LamTx x f params body scope) (j : Mk33 T H l k H') (hσ : σ[0]? = some (some (.ref l)))
    (nx : ∀ H'', Mk33 T H l (k + 1) H'' → D.nx σ H'') : tDrop (tBM K "list" rAppend (tVar 0) (tCons (tLm T q params body scope) tNil)) D σ H' := by
  obtain ⟨fs, hl, len, k33, eN, nn, t, l0, all⟩ := j
  have klt := errs_lt hk
  refine ⟨_, hσ, .inl ⟨rfl, _, SqL.of hl⟩, t, fun ff c' H1 eN1 nn1 T1 a0 a1 a2 => ⟨l, fs, _, rfl, rfl, eN1 _ _ hl (fun ps z => by cases z), ?_, nx _ ?_⟩⟩
  · rw [len, sizeLine_eq]
    omega
  · have hl1 := eN1 _ _ hl (fun ps z => by cases z)
    refine ⟨fs ++ [.ref ff], upd_same, by rw [List.length_append, len]; rfl, by omega, fun b o e n => ?_, fun b e => nn b (nn1 b (upd_none e)), tabs_lst hl1 T1, l0, fun i x' f' hi he => ?_⟩
    · rw [upd_ne (ne_of_none e l0)]
      exact eN1 _ _ (eN b o e n) n
    · by_cases hik : i < k
      · obtain ⟨fa, c2, q2, p2, b2, s2, g1, g2, g3, g4⟩ := all i x' f' hik he
        have g3' := eN1 _ _ g3 lamO_tbl
        have g4' := eN1 _ _ g4 codeO_ne
        refine ⟨fa, c2, q2, p2, b2, s2, by rw [List.getElem?_append_left (by omega)]; exact g1, g2, ?_, ?_⟩
        · rw [upd_ne (ne_of g3' hl1 (lamO_lst fs))]
          exact g3'
        · rw [upd_ne (ne_of g4' hl1 (codeO_lst fs))]
          exact g4'
      · have ik : i = k := by omega
        subst ik
        rw [hk] at he
        cases he
        refine ⟨ff, c', q, params, body, scope, by rw [← len]; simp, tx, ?_, ?_⟩
        · rw [upd_ne (ne_of a1 hl1 (lamO_lst fs))]
          exact a1
        · rw [upd_ne (ne_of a2 hl1 (codeO_lst fs))]
          exact a2
section
variable {P : Program} {w : World} {K : PySem.W.Frag} {mg : Str → Option Value} {base : Heap}
theorem sc40 : FnScope ["_law_some"] [] (defScope s40) := ⟨rfl, rfl, rfl, by decide +kernel, rfl, by decide +kernel, by decide +kernel⟩
theorem ok40 {T : List (Addr × Str)} {f c Pt : Addr} {oc : Value} {od an : Option Addr} {osl : Array (Option Value)} {dV kV doc pm ct : Value} (lk : K.lookup f = some ⟨oc, od, .func (PySem.W.fnOf "_law_makers" "_law_makers" (defArgs s40) (defBody s40) (defScope s40) dV kV doc pm an (.ref c) ct), osl⟩) (hcd : PySem.W.codeIn K (.ref c) "_law_makers" = true)
    (TB : TabB base mg c Pt) (hm : (Pt, (("_law_makers" : Str) ++ ".<locals>.") ++ "<lambda>") ∈ T) (hu : ∀ p ∈ T, p.1 = Pt → p.2 = (("_law_makers" : Str) ++ ".<locals>.") ++ "<lambda>") :
    FnOk P w K mg base CX0 1 f (PySem.W.fnOf "_law_makers" "_law_makers" (defArgs s40) (defBody s40) (defScope s40) dV kV doc pm an (.ref c) ct) [] (spMks T) := by
  refine fn_of lk hcd sc40 (fun vs H Q E h => ?_) (fun A outer s H vs Q E hr h => ?_)
  · obtain ⟨rfl, _⟩ := h
    rfl
  · obtain ⟨rfl, hT, k⟩ := h
    refine ⟨_, (pss_cons (ps_set (i := 0) sc40.nd rfl (Or.inl rfl) (pe_lst (pa_cons (pe_lm TB rfl rfl hm hu (by rfl) (by decide) (by rfl)) pa_nil)))
      (pss_cons (ps_expr (pe_bm PySem.F.plainAttrs_list PySem.F.slot_list_append PySem.F.type_list_append mt_append (pv 0) (pa_cons (pe_lm TB rfl rfl hm hu (by rfl) (by decide) (by rfl)) pa_nil)))
      (pss_cons (ps_expr (pe_bm PySem.F.plainAttrs_list PySem.F.slot_list_append PySem.F.type_list_append mt_append (pv 0) (pa_cons (pe_lm TB rfl rfl hm hu (by rfl) (by decide) (by rfl)) pa_nil)))
      (pss_cons (ps_expr (pe_bm PySem.F.plainAttrs_list PySem.F.slot_list_append PySem.F.type_list_append mt_append (pv 0) (pa_cons (pe_lm TB rfl rfl hm hu (by rfl) (by decide) (by rfl)) pa_nil)))
      (pss_cons (ps_expr (pe_bm PySem.F.plainAttrs_list PySem.F.slot_list_append PySem.F.type_list_append mt_append (pv 0) (pa_cons (pe_lm TB rfl rfl hm hu (by rfl) (by decide) (by rfl)) pa_nil)))
      (pss_cons (ps_expr (pe_bm PySem.F.plainAttrs_list PySem.F.slot_list_append PySem.F.type_list_append mt_append (pv 0) (pa_cons (pe_lm TB rfl rfl hm hu (by rfl) (by decide) (by rfl)) pa_nil)))
      (pss_cons (ps_expr (pe_bm PySem.F.plainAttrs_list PySem.F.slot_list_append PySem.F.type_list_append mt_append (pv 0) (pa_cons (pe_lm TB rfl rfl hm hu (by rfl) (by decide) (by rfl)) pa_nil)))
      (pss_cons (ps_expr (pe_bm PySem.F.plainAttrs_list PySem.F.slot_list_append PySem.F.type_list_append mt_append (pv 0) (pa_cons (pe_lm TB rfl rfl hm hu (by rfl) (by decide) (by rfl)) pa_nil)))
      (pss_cons (ps_expr (pe_bm PySem.F.plainAttrs_list PySem.F.slot_list_append PySem.F.type_list_append mt_append (pv 0) (pa_cons (pe_lm TB rfl rfl hm hu (by rfl) (by decide) (by rfl)) pa_nil)))
      (pss_cons (ps_expr (pe_bm PySem.F.plainAttrs_list PySem.F.slot_list_append PySem.F.type_list_append mt_append (pv 0) (pa_cons (pe_lm TB rfl rfl hm hu (by rfl) (by decide) (by rfl)) pa_nil)))
      (pss_cons (ps_expr (pe_bm PySem.F.plainAttrs_list PySem.F.slot_list_append PySem.F.type_list_append mt_append (pv 0) (pa_cons (pe_lm TB rfl rfl hm hu (by rfl) (by decide) (by rfl)) pa_nil)))
      (pss_cons (ps_expr (pe_bm PySem.F.plainAttrs_list PySem.F.slot_list_append PySem.F.type_list_append mt_append (pv 0) (pa_cons (pe_lm TB rfl rfl hm hu (by rfl) (by decide) (by rfl)) pa_nil)))
      (pss_cons (ps_expr (pe_bm PySem.F.plainAttrs_list PySem.F.slot_list_append PySem.F.type_list_append mt_append (pv 0) (pa_cons (pe_lm TB rfl rfl hm hu (by rfl) (by decide) (by rfl)) pa_nil)))
      (pss_cons (ps_expr (pe_bm PySem.F.plainAttrs_list PySem.F.slot_list_append PySem.F.type_list_append mt_append (pv 0) (pa_cons (pe_lm TB rfl rfl hm hu (by rfl) (by decide) (by rfl)) pa_nil)))
      (pss_cons (ps_expr (pe_bm PySem.F.plainAttrs_list PySem.F.slot_list_append PySem.F.type_list_append mt_append (pv 0) (pa_cons (pe_lm TB rfl rfl hm hu (by rfl) (by decide) (by rfl)) pa_nil)))
      (pss_cons (ps_expr (pe_bm PySem.F.plainAttrs_list PySem.F.slot_list_append PySem.F.type_list_append mt_append (pv 0) (pa_cons (pe_lm TB rfl rfl hm hu (by rfl) (by decide) (by rfl)) pa_nil)))
      (pss_cons (ps_expr (pe_bm PySem.F.plainAttrs_list PySem.F.slot_list_append PySem.F.type_list_append mt_append (pv 0) (pa_cons (pe_lm TB rfl rfl hm hu (by rfl) (by decide) (by rfl)) pa_nil)))
      (pss_cons (ps_expr (pe_bm PySem.F.plainAttrs_list PySem.F.slot_list_append PySem.F.type_list_append mt_append (pv 0) (pa_cons (pe_lm TB rfl rfl hm hu (by rfl) (by decide) (by rfl)) pa_nil)))
      (pss_cons (ps_expr (pe_bm PySem.F.plainAttrs_list PySem.F.slot_list_append PySem.F.type_list_append mt_append (pv 0) (pa_cons (pe_lm TB rfl rfl hm hu (by rfl) (by decide) (by rfl)) pa_nil)))
      (pss_cons (ps_expr (pe_bm PySem.F.plainAttrs_list PySem.F.slot_list_append PySem.F.type_list_append mt_append (pv 0) (pa_cons (pe_lm TB rfl rfl hm hu (by rfl) (by decide) (by rfl)) pa_nil)))
      (pss_cons (ps_expr (pe_bm PySem.F.plainAttrs_list PySem.F.slot_list_append PySem.F.type_list_append mt_append (pv 0) (pa_cons (pe_lm TB rfl rfl hm hu (by rfl) (by decide) (by rfl)) pa_nil)))
      (pss_cons (ps_expr (pe_bm PySem.F.plainAttrs_list PySem.F.slot_list_append PySem.F.type_list_append mt_append (pv 0) (pa_cons (pe_lm TB rfl rfl hm hu (by rfl) (by decide) (by rfl)) pa_nil)))
      (pss_cons (ps_expr (pe_bm PySem.F.plainAttrs_list PySem.F.slot_list_append PySem.F.type_list_append mt_append (pv 0) (pa_cons (pe_lm TB rfl rfl hm hu (by rfl) (by decide) (by rfl)) pa_nil)))
      (pss_cons (ps_expr (pe_bm PySem.F.plainAttrs_list PySem.F.slot_list_append PySem.F.type_list_append mt_append (pv 0) (pa_cons (pe_lm TB rfl rfl hm hu (by rfl) (by decide) (by rfl)) pa_nil)))
      (pss_cons (ps_expr (pe_bm PySem.F.plainAttrs_list PySem.F.slot_list_append PySem.F.type_list_append mt_append (pv 0) (pa_cons (pe_lm TB rfl rfl hm hu (by rfl) (by decide) (by rfl)) pa_nil)))
      (pss_cons (ps_expr (pe_bm PySem.F.plainAttrs_list PySem.F.slot_list_append PySem.F.type_list_append mt_append (pv 0) (pa_cons (pe_lm TB rfl rfl hm hu (by rfl) (by decide) (by rfl)) pa_nil)))
      (pss_cons (ps_expr (pe_bm PySem.F.plainAttrs_list PySem.F.slot_list_append PySem.F.type_list_append mt_append (pv 0) (pa_cons (pe_lm TB rfl rfl hm hu (by rfl) (by decide) (by rfl)) pa_nil)))
      (pss_cons (ps_expr (pe_bm PySem.F.plainAttrs_list PySem.F.slot_list_append PySem.F.type_list_append mt_append (pv 0) (pa_cons (pe_lm TB rfl rfl hm hu (by rfl) (by decide) (by rfl)) pa_nil)))
      (pss_cons (ps_expr (pe_bm PySem.F.plainAttrs_list PySem.F.slot_list_append PySem.F.type_list_append mt_append (pv 0) (pa_cons (pe_lm TB rfl rfl hm hu (by rfl) (by decide) (by rfl)) pa_nil)))
      (pss_cons (ps_expr (pe_bm PySem.F.plainAttrs_list PySem.F.slot_list_append PySem.F.type_list_append mt_append (pv 0) (pa_cons (pe_lm TB rfl rfl hm hu (by rfl) (by decide) (by rfl)) pa_nil)))
      (pss_cons (ps_expr (pe_bm PySem.F.plainAttrs_list PySem.F.slot_list_append PySem.F.type_list_append mt_append (pv 0) (pa_cons (pe_lm TB rfl rfl hm hu (by rfl) (by decide) (by rfl)) pa_nil)))
      (pss_cons (ps_expr (pe_bm PySem.F.plainAttrs_list PySem.F.slot_list_append PySem.F.type_list_append mt_append (pv 0) (pa_cons (pe_lm TB rfl rfl hm hu (by rfl) (by decide) (by rfl)) pa_nil)))
      (pss_cons (ps_expr (pe_bm PySem.F.plainAttrs_list PySem.F.slot_list_append PySem.F.type_list_append mt_append (pv 0) (pa_cons (pe_lm TB rfl rfl hm hu (by rfl) (by decide) (by rfl)) pa_nil)))
      (pss_one (ps_ret (pv 0)))))))))))))))))))))))))))))))))))), ?_⟩
    refine ⟨hT, fun f0 c0 H1 eN nn T1 a0 a1 a2 => ⟨(by show (1 : Nat) ≤ sizeLine; decide), fun l nl => ?_⟩⟩
    have j1 : Mk33 T H l 1 (upd H1 l (.lst [.ref f0])) := mk33_one (x := "BadShop") (f := "value") rfl ⟨_, _, _, _, rfl, rfl, .inl rfl⟩ eN nn T1 a0 a1 a2 nl
    generalize upd H1 l (.lst [.ref f0]) = G1 at j1 ⊢
    refine app_step (k := 1) (x := "NoCheck") (f := "value") rfl ⟨_, _, _, _, rfl, rfl, .inl rfl⟩ j1 rfl (fun G2 j2 => ?_)
    refine app_step (k := 2) (x := "BadLog") (f := "value") rfl ⟨_, _, _, _, rfl, rfl, .inl rfl⟩ j2 rfl (fun G3 j3 => ?_)
    refine app_step (k := 3) (x := "BadFilling") (f := "value") rfl ⟨_, _, _, _, rfl, rfl, .inl rfl⟩ j3 rfl (fun G4 j4 => ?_)
    refine app_step (k := 4) (x := "NoThing") (f := "value") rfl ⟨_, _, _, _, rfl, rfl, .inl rfl⟩ j4 rfl (fun G5 j5 => ?_)
    refine app_step (k := 5) (x := "BadWorld") (f := "value") rfl ⟨_, _, _, _, rfl, rfl, .inl rfl⟩ j5 rfl (fun G6 j6 => ?_)
    refine app_step (k := 6) (x := "BadMany") (f := "value") rfl ⟨_, _, _, _, rfl, rfl, .inl rfl⟩ j6 rfl (fun G7 j7 => ?_)
    refine app_step (k := 7) (x := "NoWorker") (f := "value") rfl ⟨_, _, _, _, rfl, rfl, .inl rfl⟩ j7 rfl (fun G8 j8 => ?_)
    refine app_step (k := 8) (x := "NoItem") (f := "value") rfl ⟨_, _, _, _, rfl, rfl, .inl rfl⟩ j8 rfl (fun G9 j9 => ?_)
    refine app_step (k := 9) (x := "BadOrder") (f := "value") rfl ⟨_, _, _, _, rfl, rfl, .inl rfl⟩ j9 rfl (fun G10 j10 => ?_)
    refine app_step (k := 10) (x := "OtherItems") (f := "value") rfl ⟨_, _, _, _, rfl, rfl, .inl rfl⟩ j10 rfl (fun G11 j11 => ?_)
    refine app_step (k := 11) (x := "TooMany") (f := "number") rfl ⟨_, _, _, _, rfl, rfl, .inl rfl⟩ j11 rfl (fun G12 j12 => ?_)
    refine app_step (k := 12) (x := "NotFailing") (f := "value") rfl ⟨_, _, _, _, rfl, rfl, .inl rfl⟩ j12 rfl (fun G13 j13 => ?_)
    refine app_step (k := 13) (x := "BadText") (f := "line") rfl ⟨_, _, _, _, rfl, rfl, .inl rfl⟩ j13 rfl (fun G14 j14 => ?_)
    refine app_step (k := 14) (x := "NoWorld") (f := "value") rfl ⟨_, _, _, _, rfl, rfl, .inl rfl⟩ j14 rfl (fun G15 j15 => ?_)
    refine app_step (k := 15) (x := "BadHeld") (f := "value") rfl ⟨_, _, _, _, rfl, rfl, .inl rfl⟩ j15 rfl (fun G16 j16 => ?_)
    refine app_step (k := 16) (x := "NoLetter") (f := "value") rfl ⟨_, _, _, _, rfl, rfl, .inl rfl⟩ j16 rfl (fun G17 j17 => ?_)
    refine app_step (k := 17) (x := "NotTold") (f := "value") rfl ⟨_, _, _, _, rfl, rfl, .inl rfl⟩ j17 rfl (fun G18 j18 => ?_)
    refine app_step (k := 18) (x := "NoSample") (f := "value") rfl ⟨_, _, _, _, rfl, rfl, .inl rfl⟩ j18 rfl (fun G19 j19 => ?_)
    refine app_step (k := 19) (x := "BadItems") (f := "value") rfl ⟨_, _, _, _, rfl, rfl, .inl rfl⟩ j19 rfl (fun G20 j20 => ?_)
    refine app_step (k := 20) (x := "BadWorkers") (f := "value") rfl ⟨_, _, _, _, rfl, rfl, .inl rfl⟩ j20 rfl (fun G21 j21 => ?_)
    refine app_step (k := 21) (x := "Full") (f := "value") rfl ⟨_, _, _, _, rfl, rfl, .inl rfl⟩ j21 rfl (fun G22 j22 => ?_)
    refine app_step (k := 22) (x := "BadRuns") (f := "value") rfl ⟨_, _, _, _, rfl, rfl, .inl rfl⟩ j22 rfl (fun G23 j23 => ?_)
    refine app_step (k := 23) (x := "BadTrials") (f := "value") rfl ⟨_, _, _, _, rfl, rfl, .inl rfl⟩ j23 rfl (fun G24 j24 => ?_)
    refine app_step (k := 24) (x := "BadQuestion") (f := "value") rfl ⟨_, _, _, _, rfl, rfl, .inl rfl⟩ j24 rfl (fun G25 j25 => ?_)
    refine app_step (k := 25) (x := "BadMost") (f := "value") rfl ⟨_, _, _, _, rfl, rfl, .inl rfl⟩ j25 rfl (fun G26 j26 => ?_)
    refine app_step (k := 26) (x := "BadPrices") (f := "value") rfl ⟨_, _, _, _, rfl, rfl, .inl rfl⟩ j26 rfl (fun G27 j27 => ?_)
    refine app_step (k := 27) (x := "BadOutcome") (f := "value") rfl ⟨_, _, _, _, rfl, rfl, .inl rfl⟩ j27 rfl (fun G28 j28 => ?_)
    refine app_step (k := 28) (x := "NoEvent") (f := "value") rfl ⟨_, _, _, _, rfl, rfl, .inl rfl⟩ j28 rfl (fun G29 j29 => ?_)
    refine app_step (k := 29) (x := "BadChecks") (f := "value") rfl ⟨_, _, _, _, rfl, rfl, .inl rfl⟩ j29 rfl (fun G30 j30 => ?_)
    refine app_step (k := 30) (x := "NothingToUndo") (f := "value") rfl ⟨_, _, _, _, rfl, rfl, .inl rfl⟩ j30 rfl (fun G31 j31 => ?_)
    refine app_step (k := 31) (x := "BadOffers") (f := "value") rfl ⟨_, _, _, _, rfl, rfl, .inl rfl⟩ j31 rfl (fun G32 j32 => ?_)
    refine app_step (k := 32) (x := "BadLine") (f := "value") rfl ⟨_, _, _, _, rfl, rfl, .inl rfl⟩ j32 rfl (fun G33 j33 => ?_)
    exact ⟨_, rfl, k l G33 j33⟩
theorem sc41 : FnScope ["_law_some"] [] (defScope s41) := ⟨rfl, rfl, rfl, by decide +kernel, rfl, by decide +kernel, by decide +kernel⟩
theorem ok41 {T : List (Addr × Str)} {f c Pt : Addr} {oc : Value} {od an : Option Addr} {osl : Array (Option Value)} {dV kV doc pm ct : Value} (lk : K.lookup f = some ⟨oc, od, .func (PySem.W.fnOf "_law_named" "_law_named" (defArgs s41) (defBody s41) (defScope s41) dV kV doc pm an (.ref c) ct), osl⟩) (hcd : PySem.W.codeIn K (.ref c) "_law_named" = true)
    (TB : TabB base mg c Pt) (hm : (Pt, (("_law_named" : Str) ++ ".<locals>.") ++ "<lambda>") ∈ T) (hu : ∀ p ∈ T, p.1 = Pt → p.2 = (("_law_named" : Str) ++ ".<locals>.") ++ "<lambda>") :
    FnOk P w K mg base CX0 1 f (PySem.W.fnOf "_law_named" "_law_named" (defArgs s41) (defBody s41) (defScope s41) dV kV doc pm an (.ref c) ct) [] (spMks T) := by
  refine fn_of lk hcd sc41 (fun vs H Q E h => ?_) (fun A outer s H vs Q E hr h => ?_)
  · obtain ⟨rfl, _⟩ := h
    rfl
  · obtain ⟨rfl, hT, k⟩ := h
    refine ⟨_, (pss_cons (ps_set (i := 0) sc41.nd rfl (Or.inl rfl) (pe_lst (pa_cons (pe_lm TB rfl rfl hm hu (by rfl) (by decide) (by rfl)) pa_nil)))
      (pss_cons (ps_expr (pe_bm PySem.F.plainAttrs_list PySem.F.slot_list_append PySem.F.type_list_append mt_append (pv 0) (pa_cons (pe_lm TB rfl rfl hm hu (by rfl) (by decide) (by rfl)) pa_nil)))
      (pss_cons (ps_expr (pe_bm PySem.F.plainAttrs_list PySem.F.slot_list_append PySem.F.type_list_append mt_append (pv 0) (pa_cons (pe_lm TB rfl rfl hm hu (by rfl) (by decide) (by rfl)) pa_nil)))
      (pss_cons (ps_expr (pe_bm PySem.F.plainAttrs_list PySem.F.slot_list_append PySem.F.type_list_append mt_append (pv 0) (pa_cons (pe_lm TB rfl rfl hm hu (by rfl) (by decide) (by rfl)) pa_nil)))
      (pss_cons (ps_expr (pe_bm PySem.F.plainAttrs_list PySem.F.slot_list_append PySem.F.type_list_append mt_append (pv 0) (pa_cons (pe_lm TB rfl rfl hm hu (by rfl) (by decide) (by rfl)) pa_nil)))
      (pss_cons (ps_expr (pe_bm PySem.F.plainAttrs_list PySem.F.slot_list_append PySem.F.type_list_append mt_append (pv 0) (pa_cons (pe_lm TB rfl rfl hm hu (by rfl) (by decide) (by rfl)) pa_nil)))
      (pss_cons (ps_expr (pe_bm PySem.F.plainAttrs_list PySem.F.slot_list_append PySem.F.type_list_append mt_append (pv 0) (pa_cons (pe_lm TB rfl rfl hm hu (by rfl) (by decide) (by rfl)) pa_nil)))
      (pss_cons (ps_expr (pe_bm PySem.F.plainAttrs_list PySem.F.slot_list_append PySem.F.type_list_append mt_append (pv 0) (pa_cons (pe_lm TB rfl rfl hm hu (by rfl) (by decide) (by rfl)) pa_nil)))
      (pss_cons (ps_expr (pe_bm PySem.F.plainAttrs_list PySem.F.slot_list_append PySem.F.type_list_append mt_append (pv 0) (pa_cons (pe_lm TB rfl rfl hm hu (by rfl) (by decide) (by rfl)) pa_nil)))
      (pss_cons (ps_expr (pe_bm PySem.F.plainAttrs_list PySem.F.slot_list_append PySem.F.type_list_append mt_append (pv 0) (pa_cons (pe_lm TB rfl rfl hm hu (by rfl) (by decide) (by rfl)) pa_nil)))
      (pss_cons (ps_expr (pe_bm PySem.F.plainAttrs_list PySem.F.slot_list_append PySem.F.type_list_append mt_append (pv 0) (pa_cons (pe_lm TB rfl rfl hm hu (by rfl) (by decide) (by rfl)) pa_nil)))
      (pss_cons (ps_expr (pe_bm PySem.F.plainAttrs_list PySem.F.slot_list_append PySem.F.type_list_append mt_append (pv 0) (pa_cons (pe_lm TB rfl rfl hm hu (by rfl) (by decide) (by rfl)) pa_nil)))
      (pss_cons (ps_expr (pe_bm PySem.F.plainAttrs_list PySem.F.slot_list_append PySem.F.type_list_append mt_append (pv 0) (pa_cons (pe_lm TB rfl rfl hm hu (by rfl) (by decide) (by rfl)) pa_nil)))
      (pss_cons (ps_expr (pe_bm PySem.F.plainAttrs_list PySem.F.slot_list_append PySem.F.type_list_append mt_append (pv 0) (pa_cons (pe_lm TB rfl rfl hm hu (by rfl) (by decide) (by rfl)) pa_nil)))
      (pss_cons (ps_expr (pe_bm PySem.F.plainAttrs_list PySem.F.slot_list_append PySem.F.type_list_append mt_append (pv 0) (pa_cons (pe_lm TB rfl rfl hm hu (by rfl) (by decide) (by rfl)) pa_nil)))
      (pss_cons (ps_expr (pe_bm PySem.F.plainAttrs_list PySem.F.slot_list_append PySem.F.type_list_append mt_append (pv 0) (pa_cons (pe_lm TB rfl rfl hm hu (by rfl) (by decide) (by rfl)) pa_nil)))
      (pss_cons (ps_expr (pe_bm PySem.F.plainAttrs_list PySem.F.slot_list_append PySem.F.type_list_append mt_append (pv 0) (pa_cons (pe_lm TB rfl rfl hm hu (by rfl) (by decide) (by rfl)) pa_nil)))
      (pss_cons (ps_expr (pe_bm PySem.F.plainAttrs_list PySem.F.slot_list_append PySem.F.type_list_append mt_append (pv 0) (pa_cons (pe_lm TB rfl rfl hm hu (by rfl) (by decide) (by rfl)) pa_nil)))
      (pss_cons (ps_expr (pe_bm PySem.F.plainAttrs_list PySem.F.slot_list_append PySem.F.type_list_append mt_append (pv 0) (pa_cons (pe_lm TB rfl rfl hm hu (by rfl) (by decide) (by rfl)) pa_nil)))
      (pss_cons (ps_expr (pe_bm PySem.F.plainAttrs_list PySem.F.slot_list_append PySem.F.type_list_append mt_append (pv 0) (pa_cons (pe_lm TB rfl rfl hm hu (by rfl) (by decide) (by rfl)) pa_nil)))
      (pss_cons (ps_expr (pe_bm PySem.F.plainAttrs_list PySem.F.slot_list_append PySem.F.type_list_append mt_append (pv 0) (pa_cons (pe_lm TB rfl rfl hm hu (by rfl) (by decide) (by rfl)) pa_nil)))
      (pss_cons (ps_expr (pe_bm PySem.F.plainAttrs_list PySem.F.slot_list_append PySem.F.type_list_append mt_append (pv 0) (pa_cons (pe_lm TB rfl rfl hm hu (by rfl) (by decide) (by rfl)) pa_nil)))
      (pss_cons (ps_expr (pe_bm PySem.F.plainAttrs_list PySem.F.slot_list_append PySem.F.type_list_append mt_append (pv 0) (pa_cons (pe_lm TB rfl rfl hm hu (by rfl) (by decide) (by rfl)) pa_nil)))
      (pss_cons (ps_expr (pe_bm PySem.F.plainAttrs_list PySem.F.slot_list_append PySem.F.type_list_append mt_append (pv 0) (pa_cons (pe_lm TB rfl rfl hm hu (by rfl) (by decide) (by rfl)) pa_nil)))
      (pss_cons (ps_expr (pe_bm PySem.F.plainAttrs_list PySem.F.slot_list_append PySem.F.type_list_append mt_append (pv 0) (pa_cons (pe_lm TB rfl rfl hm hu (by rfl) (by decide) (by rfl)) pa_nil)))
      (pss_cons (ps_expr (pe_bm PySem.F.plainAttrs_list PySem.F.slot_list_append PySem.F.type_list_append mt_append (pv 0) (pa_cons (pe_lm TB rfl rfl hm hu (by rfl) (by decide) (by rfl)) pa_nil)))
      (pss_cons (ps_expr (pe_bm PySem.F.plainAttrs_list PySem.F.slot_list_append PySem.F.type_list_append mt_append (pv 0) (pa_cons (pe_lm TB rfl rfl hm hu (by rfl) (by decide) (by rfl)) pa_nil)))
      (pss_cons (ps_expr (pe_bm PySem.F.plainAttrs_list PySem.F.slot_list_append PySem.F.type_list_append mt_append (pv 0) (pa_cons (pe_lm TB rfl rfl hm hu (by rfl) (by decide) (by rfl)) pa_nil)))
      (pss_cons (ps_expr (pe_bm PySem.F.plainAttrs_list PySem.F.slot_list_append PySem.F.type_list_append mt_append (pv 0) (pa_cons (pe_lm TB rfl rfl hm hu (by rfl) (by decide) (by rfl)) pa_nil)))
      (pss_cons (ps_expr (pe_bm PySem.F.plainAttrs_list PySem.F.slot_list_append PySem.F.type_list_append mt_append (pv 0) (pa_cons (pe_lm TB rfl rfl hm hu (by rfl) (by decide) (by rfl)) pa_nil)))
      (pss_cons (ps_expr (pe_bm PySem.F.plainAttrs_list PySem.F.slot_list_append PySem.F.type_list_append mt_append (pv 0) (pa_cons (pe_lm TB rfl rfl hm hu (by rfl) (by decide) (by rfl)) pa_nil)))
      (pss_cons (ps_expr (pe_bm PySem.F.plainAttrs_list PySem.F.slot_list_append PySem.F.type_list_append mt_append (pv 0) (pa_cons (pe_lm TB rfl rfl hm hu (by rfl) (by decide) (by rfl)) pa_nil)))
      (pss_cons (ps_expr (pe_bm PySem.F.plainAttrs_list PySem.F.slot_list_append PySem.F.type_list_append mt_append (pv 0) (pa_cons (pe_lm TB rfl rfl hm hu (by rfl) (by decide) (by rfl)) pa_nil)))
      (pss_one (ps_ret (pv 0)))))))))))))))))))))))))))))))))))), ?_⟩
    refine ⟨hT, fun f0 c0 H1 eN nn T1 a0 a1 a2 => ⟨(by show (1 : Nat) ≤ sizeLine; decide), fun l nl => ?_⟩⟩
    have j1 : Mk33 T H l 1 (upd H1 l (.lst [.ref f0])) := mk33_one (x := "BadShop") (f := "value") rfl ⟨_, _, _, _, rfl, rfl, .inr ⟨_, rfl⟩⟩ eN nn T1 a0 a1 a2 nl
    generalize upd H1 l (.lst [.ref f0]) = G1 at j1 ⊢
    refine app_step (k := 1) (x := "NoCheck") (f := "value") rfl ⟨_, _, _, _, rfl, rfl, .inr ⟨_, rfl⟩⟩ j1 rfl (fun G2 j2 => ?_)
    refine app_step (k := 2) (x := "BadLog") (f := "value") rfl ⟨_, _, _, _, rfl, rfl, .inr ⟨_, rfl⟩⟩ j2 rfl (fun G3 j3 => ?_)
    refine app_step (k := 3) (x := "BadFilling") (f := "value") rfl ⟨_, _, _, _, rfl, rfl, .inr ⟨_, rfl⟩⟩ j3 rfl (fun G4 j4 => ?_)
    refine app_step (k := 4) (x := "NoThing") (f := "value") rfl ⟨_, _, _, _, rfl, rfl, .inr ⟨_, rfl⟩⟩ j4 rfl (fun G5 j5 => ?_)
    refine app_step (k := 5) (x := "BadWorld") (f := "value") rfl ⟨_, _, _, _, rfl, rfl, .inr ⟨_, rfl⟩⟩ j5 rfl (fun G6 j6 => ?_)
    refine app_step (k := 6) (x := "BadMany") (f := "value") rfl ⟨_, _, _, _, rfl, rfl, .inr ⟨_, rfl⟩⟩ j6 rfl (fun G7 j7 => ?_)
    refine app_step (k := 7) (x := "NoWorker") (f := "value") rfl ⟨_, _, _, _, rfl, rfl, .inr ⟨_, rfl⟩⟩ j7 rfl (fun G8 j8 => ?_)
    refine app_step (k := 8) (x := "NoItem") (f := "value") rfl ⟨_, _, _, _, rfl, rfl, .inr ⟨_, rfl⟩⟩ j8 rfl (fun G9 j9 => ?_)
    refine app_step (k := 9) (x := "BadOrder") (f := "value") rfl ⟨_, _, _, _, rfl, rfl, .inr ⟨_, rfl⟩⟩ j9 rfl (fun G10 j10 => ?_)
    refine app_step (k := 10) (x := "OtherItems") (f := "value") rfl ⟨_, _, _, _, rfl, rfl, .inr ⟨_, rfl⟩⟩ j10 rfl (fun G11 j11 => ?_)
    refine app_step (k := 11) (x := "TooMany") (f := "number") rfl ⟨_, _, _, _, rfl, rfl, .inr ⟨_, rfl⟩⟩ j11 rfl (fun G12 j12 => ?_)
    refine app_step (k := 12) (x := "NotFailing") (f := "value") rfl ⟨_, _, _, _, rfl, rfl, .inr ⟨_, rfl⟩⟩ j12 rfl (fun G13 j13 => ?_)
    refine app_step (k := 13) (x := "BadText") (f := "line") rfl ⟨_, _, _, _, rfl, rfl, .inr ⟨_, rfl⟩⟩ j13 rfl (fun G14 j14 => ?_)
    refine app_step (k := 14) (x := "NoWorld") (f := "value") rfl ⟨_, _, _, _, rfl, rfl, .inr ⟨_, rfl⟩⟩ j14 rfl (fun G15 j15 => ?_)
    refine app_step (k := 15) (x := "BadHeld") (f := "value") rfl ⟨_, _, _, _, rfl, rfl, .inr ⟨_, rfl⟩⟩ j15 rfl (fun G16 j16 => ?_)
    refine app_step (k := 16) (x := "NoLetter") (f := "value") rfl ⟨_, _, _, _, rfl, rfl, .inr ⟨_, rfl⟩⟩ j16 rfl (fun G17 j17 => ?_)
    refine app_step (k := 17) (x := "NotTold") (f := "value") rfl ⟨_, _, _, _, rfl, rfl, .inr ⟨_, rfl⟩⟩ j17 rfl (fun G18 j18 => ?_)
    refine app_step (k := 18) (x := "NoSample") (f := "value") rfl ⟨_, _, _, _, rfl, rfl, .inr ⟨_, rfl⟩⟩ j18 rfl (fun G19 j19 => ?_)
    refine app_step (k := 19) (x := "BadItems") (f := "value") rfl ⟨_, _, _, _, rfl, rfl, .inr ⟨_, rfl⟩⟩ j19 rfl (fun G20 j20 => ?_)
    refine app_step (k := 20) (x := "BadWorkers") (f := "value") rfl ⟨_, _, _, _, rfl, rfl, .inr ⟨_, rfl⟩⟩ j20 rfl (fun G21 j21 => ?_)
    refine app_step (k := 21) (x := "Full") (f := "value") rfl ⟨_, _, _, _, rfl, rfl, .inr ⟨_, rfl⟩⟩ j21 rfl (fun G22 j22 => ?_)
    refine app_step (k := 22) (x := "BadRuns") (f := "value") rfl ⟨_, _, _, _, rfl, rfl, .inr ⟨_, rfl⟩⟩ j22 rfl (fun G23 j23 => ?_)
    refine app_step (k := 23) (x := "BadTrials") (f := "value") rfl ⟨_, _, _, _, rfl, rfl, .inr ⟨_, rfl⟩⟩ j23 rfl (fun G24 j24 => ?_)
    refine app_step (k := 24) (x := "BadQuestion") (f := "value") rfl ⟨_, _, _, _, rfl, rfl, .inr ⟨_, rfl⟩⟩ j24 rfl (fun G25 j25 => ?_)
    refine app_step (k := 25) (x := "BadMost") (f := "value") rfl ⟨_, _, _, _, rfl, rfl, .inr ⟨_, rfl⟩⟩ j25 rfl (fun G26 j26 => ?_)
    refine app_step (k := 26) (x := "BadPrices") (f := "value") rfl ⟨_, _, _, _, rfl, rfl, .inr ⟨_, rfl⟩⟩ j26 rfl (fun G27 j27 => ?_)
    refine app_step (k := 27) (x := "BadOutcome") (f := "value") rfl ⟨_, _, _, _, rfl, rfl, .inr ⟨_, rfl⟩⟩ j27 rfl (fun G28 j28 => ?_)
    refine app_step (k := 28) (x := "NoEvent") (f := "value") rfl ⟨_, _, _, _, rfl, rfl, .inr ⟨_, rfl⟩⟩ j28 rfl (fun G29 j29 => ?_)
    refine app_step (k := 29) (x := "BadChecks") (f := "value") rfl ⟨_, _, _, _, rfl, rfl, .inr ⟨_, rfl⟩⟩ j29 rfl (fun G30 j30 => ?_)
    refine app_step (k := 30) (x := "NothingToUndo") (f := "value") rfl ⟨_, _, _, _, rfl, rfl, .inr ⟨_, rfl⟩⟩ j30 rfl (fun G31 j31 => ?_)
    refine app_step (k := 31) (x := "BadOffers") (f := "value") rfl ⟨_, _, _, _, rfl, rfl, .inr ⟨_, rfl⟩⟩ j31 rfl (fun G32 j32 => ?_)
    refine app_step (k := 32) (x := "BadLine") (f := "value") rfl ⟨_, _, _, _, rfl, rfl, .inr ⟨_, rfl⟩⟩ j32 rfl (fun G33 j33 => ?_)
    exact ⟨_, rfl, k l G33 j33⟩
end
end KZ
namespace KZ
open PySem PySem.Spec PyProof.Rows L2
/-! ## which error it is, and what it keeps -/
/-- the name of the i-th error -/
def nmE (i : Nat) : Str := (errs.getD i ("", "")).1
def clE (K : PySem.W.Frag) (i : Nat) : Addr := He.ga K (nmE i)
/-- an error of the package stands at a -/
structure Err (P : Program) (w : World) (K : PySem.W.Frag) (mg : Str → Option Value) (base : Heap) (i : Nat) (f : Str) (v : V) (H : Hp) (a : Addr) : Prop where
  at_ : errs[i]? = some (nmE i, f)
  er : Er P w K mg base (nmE i) f (clE K i)
  ob : ∃ d, H a = some (exo a (clE K i) (some d)) ∧ H d = some (exd d [(f, v)])
def marksL (i : Nat) : List V := (List.range 33).map fun j => V.bl (decide (j = i))
def Sm (H H' : Hp) : Prop := ∀ b o, H b = some o → H' b = some o
def spMarks (P : Program) (w : World) (K : PySem.W.Frag) (mg : Str → Option Value) (base : Heap) : Sp := fun vs H Q _ => ∃ (a : Addr) (i : Nat) (f : Str) (v : V), vs = [.ref a] ∧ Err P w K mg base i f v H a ∧ ∀ (l : Addr) (H' : Hp), Sm H H' → H' l = some (.lst (marksL i)) → Q (.ref l) H'
theorem marksL_get {i k : Nat} (h : k < 33) : (marksL i)[k]? = some (V.bl (decide (k = i))) := by
  unfold marksL
  rw [List.getElem?_map, List.getElem?_range h]
  rfl
theorem marksL_len (i : Nat) : (marksL i).length = 33 := by
  unfold marksL
  rw [List.length_map, List.length_range]
section
variable {P : Program} {w : World} {K : PySem.W.Frag} {mg : Str → Option Value} {base : Heap}
theorem is_reads {i k : Nat} {f : Str} {v : V} {H : Hp} {a : Addr} {b : Bool} {Q : VK} (e : Err P w K mg base i f v H a) (pr : PySem.W.kitOne K (.ref (clE K i)) (.ref (clE K k)) = some b) (q : Q (.bl b) H) :
    rIsE2 P w K mg base [.ref a, .ref (clE K k)] H Q := by
  obtain ⟨d, h1, h2⟩ := e.ob
  exact ⟨a, clE K i, d, nmE i, f, _, .ref (clE K k), .ref (clE K k), b, rfl, e.er, h1, h2, fun u r => r, pr, q⟩
theorem Err.sm {i : Nat} {f : Str} {v : V} {H H' : Hp} {a : Addr} (s : Sm H H') (e : Err P w K mg base i f v H a) : Err P w K mg base i f v H' a := ⟨e.at_, e.er, e.ob.elim fun d h => ⟨d, s _ _ h.1, s _ _ h.2⟩⟩
/-- at l: the first k of the marks -/
def MkAt (i : Nat) (H : Hp) (l : Addr) (k : Nat) (H' : Hp) : Prop := H' l = some (.lst ((marksL i).take k)) ∧ Sm H H' ∧ H l = none
theorem mark_step {i k : Nat} {f : Str} {v : V} {H H' : Hp} {a l : Addr} {D : Ends} {σ : L2.St} (hk : k < 33) (pr : ∀ i k, i < 33 → k < 33 → PySem.W.kitOne K (.ref (clE K i)) (.ref (clE K k)) = some (decide (k = i))) (hi : i < 33) (e : Err P w K mg base i f v H a) (j : MkAt i H l k H')
    (h0 : σ[0]? = some (some (.ref a))) (h1 : σ[1]? = some (some (.ref l))) (nx : ∀ H'', MkAt i H l (k + 1) H'' → D.nx σ H'') :
    tDrop (tBM K "list" rAppend (tVar 1) (tCons (tCB (rIsE2 P w K mg base) (tCons (tVar 0) (tCons (tC (.ref (clE K k))) tNil))) tNil)) D σ H' := by
  obtain ⟨hl, sm, l0⟩ := j
  obtain ⟨d, g1, g2⟩ := (e.sm sm).ob
  refine ⟨_, h1, .inl ⟨rfl, _, SqL.of hl⟩, _, h0, a, clE K i, d, nmE i, f, _, .ref (clE K k), .ref (clE K k), _, rfl, e.er, g1, g2, fun u r => r, pr i k hi hk, ?_⟩
  refine ⟨l, _, _, rfl, rfl, hl, ?_, nx _ ⟨?_, fun b o q => ?_, l0⟩⟩
  · rw [List.length_take, marksL_len, sizeLine_eq]
    omega
  · rw [upd_same, List.take_succ, marksL_get hk]
    rfl
  · rw [upd_ne (ne_of_none q l0)]
    exact sm b o q
theorem sc42 : FnScope ["_law_thing", "_law_found"] ["_law_thing"] (defScope s42) := ⟨rfl, rfl, rfl, by decide +kernel, rfl, by decide +kernel, by decide +kernel⟩
theorem ok_marks {f : Addr} {fd : FuncData} (F : Fd K 42 "_law_marks" f fd) (gi : mg "isinstance" = none) (G : ∀ k, k < 33 → mg (nmE k) = some (.ref (clE K k))) (pr : ∀ i k, i < 33 → k < 33 → PySem.W.kitOne K (.ref (clE K i)) (.ref (clE K k)) = some (decide (k = i))) :
    FnOk P w K mg base CX0 1 f fd ["_law_thing"] (spMarks P w K mg base) := by

  have G0 : mg "BadShop" = some (.ref (clE K 0)) := G 0 (by decide)
  have G1 : mg "NoCheck" = some (.ref (clE K 1)) := G 1 (by decide)
  have G2 : mg "BadLog" = some (.ref (clE K 2)) := G 2 (by decide)
  have G3 : mg "BadFilling" = some (.ref (clE K 3)) := G 3 (by decide)
  have G4 : mg "NoThing" = some (.ref (clE K 4)) := G 4 (by decide)
  have G5 : mg "BadWorld" = some (.ref (clE K 5)) := G 5 (by decide)
  have G6 : mg "BadMany" = some (.ref (clE K 6)) := G 6 (by decide)
  have G7 : mg "NoWorker" = some (.ref (clE K 7)) := G 7 (by decide)
  have G8 : mg "NoItem" = some (.ref (clE K 8)) := G 8 (by decide)
  have G9 : mg "BadOrder" = some (.ref (clE K 9)) := G 9 (by decide)
  have G10 : mg "OtherItems" = some (.ref (clE K 10)) := G 10 (by decide)
  have G11 : mg "TooMany" = some (.ref (clE K 11)) := G 11 (by decide)
  have G12 : mg "NotFailing" = some (.ref (clE K 12)) := G 12 (by decide)
  have G13 : mg "BadText" = some (.ref (clE K 13)) := G 13 (by decide)
  have G14 : mg "NoWorld" = some (.ref (clE K 14)) := G 14 (by decide)
  have G15 : mg "BadHeld" = some (.ref (clE K 15)) := G 15 (by decide)
  have G16 : mg "NoLetter" = some (.ref (clE K 16)) := G 16 (by decide)
  have G17 : mg "NotTold" = some (.ref (clE K 17)) := G 17 (by decide)
  have G18 : mg "NoSample" = some (.ref (clE K 18)) := G 18 (by decide)
  have G19 : mg "BadItems" = some (.ref (clE K 19)) := G 19 (by decide)
  have G20 : mg "BadWorkers" = some (.ref (clE K 20)) := G 20 (by decide)
  have G21 : mg "Full" = some (.ref (clE K 21)) := G 21 (by decide)
  have G22 : mg "BadRuns" = some (.ref (clE K 22)) := G 22 (by decide)
  have G23 : mg "BadTrials" = some (.ref (clE K 23)) := G 23 (by decide)
  have G24 : mg "BadQuestion" = some (.ref (clE K 24)) := G 24 (by decide)
  have G25 : mg "BadMost" = some (.ref (clE K 25)) := G 25 (by decide)
  have G26 : mg "BadPrices" = some (.ref (clE K 26)) := G 26 (by decide)
  have G27 : mg "BadOutcome" = some (.ref (clE K 27)) := G 27 (by decide)
  have G28 : mg "NoEvent" = some (.ref (clE K 28)) := G 28 (by decide)
  have G29 : mg "BadChecks" = some (.ref (clE K 29)) := G 29 (by decide)
  have G30 : mg "NothingToUndo" = some (.ref (clE K 30)) := G 30 (by decide)
  have G31 : mg "BadOffers" = some (.ref (clE K 31)) := G 31 (by decide)
  have G32 : mg "BadLine" = some (.ref (clE K 32)) := G 32 (by decide)
  refine F.ok sc42 (fun vs H Q E h => ?_) (fun cdv A outer s H vs Q E hr h => ?_)
  · obtain ⟨a, i, f, v, rfl, _⟩ := h
    rfl
  · obtain ⟨a, i, ff, v, rfl, e, k⟩ := h
    have hi : i < 33 := errs_lt e.at_
    refine ⟨_, (pss_cons (ps_set (i := 1) sc42.nd rfl (Or.inl rfl) (pe_lst (pa_cons (pe_callB call_isE2 (by rfl) gi PyProof.Rows.boot_isinstance (pa_cons (pv 0) (pa_cons (pe_glob (v := .ref (clE K 0)) rfl G0 rfl) pa_nil))) pa_nil)))
      (pss_cons (ps_expr (pe_bm PySem.F.plainAttrs_list PySem.F.slot_list_append PySem.F.type_list_append mt_append (pv 1) (pa_cons (pe_callB call_isE2 (by rfl) gi PyProof.Rows.boot_isinstance (pa_cons (pv 0) (pa_cons (pe_glob (v := .ref (clE K 1)) rfl G1 rfl) pa_nil))) pa_nil)))
      (pss_cons (ps_expr (pe_bm PySem.F.plainAttrs_list PySem.F.slot_list_append PySem.F.type_list_append mt_append (pv 1) (pa_cons (pe_callB call_isE2 (by rfl) gi PyProof.Rows.boot_isinstance (pa_cons (pv 0) (pa_cons (pe_glob (v := .ref (clE K 2)) rfl G2 rfl) pa_nil))) pa_nil)))
      (pss_cons (ps_expr (pe_bm PySem.F.plainAttrs_list PySem.F.slot_list_append PySem.F.type_list_append mt_append (pv 1) (pa_cons (pe_callB call_isE2 (by rfl) gi PyProof.Rows.boot_isinstance (pa_cons (pv 0) (pa_cons (pe_glob (v := .ref (clE K 3)) rfl G3 rfl) pa_nil))) pa_nil)))
      (pss_cons (ps_expr (pe_bm PySem.F.plainAttrs_list PySem.F.slot_list_append PySem.F.type_list_append mt_append (pv 1) (pa_cons (pe_callB call_isE2 (by rfl) gi PyProof.Rows.boot_isinstance (pa_cons (pv 0) (pa_cons (pe_glob (v := .ref (clE K 4)) rfl G4 rfl) pa_nil))) pa_nil)))
      (pss_cons (ps_expr (pe_bm PySem.F.plainAttrs_list PySem.F.slot_list_append PySem.F.type_list_append mt_append (pv 1) (pa_cons (pe_callB call_isE2 (by rfl) gi PyProof.Rows.boot_isinstance (pa_cons (pv 0) (pa_cons (pe_glob (v := .ref (clE K 5)) rfl G5 rfl) pa_nil))) pa_nil)))
      (pss_cons (ps_expr (pe_bm PySem.F.plainAttrs_list PySem.F.slot_list_append PySem.F.type_list_append mt_append (pv 1) (pa_cons (pe_callB call_isE2 (by rfl) gi PyProof.Rows.boot_isinstance (pa_cons (pv 0) (pa_cons (pe_glob (v := .ref (clE K 6)) rfl G6 rfl) pa_nil))) pa_nil)))
      (pss_cons (ps_expr (pe_bm PySem.F.plainAttrs_list PySem.F.slot_list_append PySem.F.type_list_append mt_append (pv 1) (pa_cons (pe_callB call_isE2 (by rfl) gi PyProof.Rows.boot_isinstance (pa_cons (pv 0) (pa_cons (pe_glob (v := .ref (clE K 7)) rfl G7 rfl) pa_nil))) pa_nil)))
      (pss_cons (ps_expr (pe_bm PySem.F.plainAttrs_list PySem.F.slot_list_append PySem.F.type_list_append mt_append (pv 1) (pa_cons (pe_callB call_isE2 (by rfl) gi PyProof.Rows.boot_isinstance (pa_cons (pv 0) (pa_cons (pe_glob (v := .ref (clE K 8)) rfl G8 rfl) pa_nil))) pa_nil)))
      (pss_cons (ps_expr (pe_bm PySem.F.plainAttrs_list PySem.F.slot_list_append PySem.F.type_list_append mt_append (pv 1) (pa_cons (pe_callB call_isE2 (by rfl) gi PyProof.Rows.boot_isinstance (pa_cons (pv 0) (pa_cons (pe_glob (v := .ref (clE K 9)) rfl G9 rfl) pa_nil))) pa_nil)))
      (pss_cons (ps_expr (pe_bm PySem.F.plainAttrs_list PySem.F.slot_list_append PySem.F.type_list_append mt_append (pv 1) (pa_cons (pe_callB call_isE2 (by rfl) gi PyProof.Rows.boot_isinstance (pa_cons (pv 0) (pa_cons (pe_glob (v := .ref (clE K 10)) rfl G10 rfl) pa_nil))) pa_nil)))
      (pss_cons (ps_expr (pe_bm PySem.F.plainAttrs_list PySem.F.slot_list_append PySem.F.type_list_append mt_append (pv 1) (pa_cons (pe_callB call_isE2 (by rfl) gi PyProof.Rows.boot_isinstance (pa_cons (pv 0) (pa_cons (pe_glob (v := .ref (clE K 11)) rfl G11 rfl) pa_nil))) pa_nil)))
      (pss_cons (ps_expr (pe_bm PySem.F.plainAttrs_list PySem.F.slot_list_append PySem.F.type_list_append mt_append (pv 1) (pa_cons (pe_callB call_isE2 (by rfl) gi PyProof.Rows.boot_isinstance (pa_cons (pv 0) (pa_cons (pe_glob (v := .ref (clE K 12)) rfl G12 rfl) pa_nil))) pa_nil)))
      (pss_cons (ps_expr (pe_bm PySem.F.plainAttrs_list PySem.F.slot_list_append PySem.F.type_list_append mt_append (pv 1) (pa_cons (pe_callB call_isE2 (by rfl) gi PyProof.Rows.boot_isinstance (pa_cons (pv 0) (pa_cons (pe_glob (v := .ref (clE K 13)) rfl G13 rfl) pa_nil))) pa_nil)))
      (pss_cons (ps_expr (pe_bm PySem.F.plainAttrs_list PySem.F.slot_list_append PySem.F.type_list_append mt_append (pv 1) (pa_cons (pe_callB call_isE2 (by rfl) gi PyProof.Rows.boot_isinstance (pa_cons (pv 0) (pa_cons (pe_glob (v := .ref (clE K 14)) rfl G14 rfl) pa_nil))) pa_nil)))
      (pss_cons (ps_expr (pe_bm PySem.F.plainAttrs_list PySem.F.slot_list_append PySem.F.type_list_append mt_append (pv 1) (pa_cons (pe_callB call_isE2 (by rfl) gi PyProof.Rows.boot_isinstance (pa_cons (pv 0) (pa_cons (pe_glob (v := .ref (clE K 15)) rfl G15 rfl) pa_nil))) pa_nil)))
      (pss_cons (ps_expr (pe_bm PySem.F.plainAttrs_list PySem.F.slot_list_append PySem.F.type_list_append mt_append (pv 1) (pa_cons (pe_callB call_isE2 (by rfl) gi PyProof.Rows.boot_isinstance (pa_cons (pv 0) (pa_cons (pe_glob (v := .ref (clE K 16)) rfl G16 rfl) pa_nil))) pa_nil)))
      (pss_cons (ps_expr (pe_bm PySem.F.plainAttrs_list PySem.F.slot_list_append PySem.F.type_list_append mt_append (pv 1) (pa_cons (pe_callB call_isE2 (by rfl) gi PyProof.Rows.boot_isinstance (pa_cons (pv 0) (pa_cons (pe_glob (v := .ref (clE K 17)) rfl G17 rfl) pa_nil))) pa_nil)))
      (pss_cons (ps_expr (pe_bm PySem.F.plainAttrs_list PySem.F.slot_list_append PySem.F.type_list_append mt_append (pv 1) (pa_cons (pe_callB call_isE2 (by rfl) gi PyProof.Rows.boot_isinstance (pa_cons (pv 0) (pa_cons (pe_glob (v := .ref (clE K 18)) rfl G18 rfl) pa_nil))) pa_nil)))
      (pss_cons (ps_expr (pe_bm PySem.F.plainAttrs_list PySem.F.slot_list_append PySem.F.type_list_append mt_append (pv 1) (pa_cons (pe_callB call_isE2 (by rfl) gi PyProof.Rows.boot_isinstance (pa_cons (pv 0) (pa_cons (pe_glob (v := .ref (clE K 19)) rfl G19 rfl) pa_nil))) pa_nil)))
      (pss_cons (ps_expr (pe_bm PySem.F.plainAttrs_list PySem.F.slot_list_append PySem.F.type_list_append mt_append (pv 1) (pa_cons (pe_callB call_isE2 (by rfl) gi PyProof.Rows.boot_isinstance (pa_cons (pv 0) (pa_cons (pe_glob (v := .ref (clE K 20)) rfl G20 rfl) pa_nil))) pa_nil)))
      (pss_cons (ps_expr (pe_bm PySem.F.plainAttrs_list PySem.F.slot_list_append PySem.F.type_list_append mt_append (pv 1) (pa_cons (pe_callB call_isE2 (by rfl) gi PyProof.Rows.boot_isinstance (pa_cons (pv 0) (pa_cons (pe_glob (v := .ref (clE K 21)) rfl G21 rfl) pa_nil))) pa_nil)))
      (pss_cons (ps_expr (pe_bm PySem.F.plainAttrs_list PySem.F.slot_list_append PySem.F.type_list_append mt_append (pv 1) (pa_cons (pe_callB call_isE2 (by rfl) gi PyProof.Rows.boot_isinstance (pa_cons (pv 0) (pa_cons (pe_glob (v := .ref (clE K 22)) rfl G22 rfl) pa_nil))) pa_nil)))
      (pss_cons (ps_expr (pe_bm PySem.F.plainAttrs_list PySem.F.slot_list_append PySem.F.type_list_append mt_append (pv 1) (pa_cons (pe_callB call_isE2 (by rfl) gi PyProof.Rows.boot_isinstance (pa_cons (pv 0) (pa_cons (pe_glob (v := .ref (clE K 23)) rfl G23 rfl) pa_nil))) pa_nil)))
      (pss_cons (ps_expr (pe_bm PySem.F.plainAttrs_list PySem.F.slot_list_append PySem.F.type_list_append mt_append (pv 1) (pa_cons (pe_callB call_isE2 (by rfl) gi PyProof.Rows.boot_isinstance (pa_cons (pv 0) (pa_cons (pe_glob (v := .ref (clE K 24)) rfl G24 rfl) pa_nil))) pa_nil)))
      (pss_cons (ps_expr (pe_bm PySem.F.plainAttrs_list PySem.F.slot_list_append PySem.F.type_list_append mt_append (pv 1) (pa_cons (pe_callB call_isE2 (by rfl) gi PyProof.Rows.boot_isinstance (pa_cons (pv 0) (pa_cons (pe_glob (v := .ref (clE K 25)) rfl G25 rfl) pa_nil))) pa_nil)))
      (pss_cons (ps_expr (pe_bm PySem.F.plainAttrs_list PySem.F.slot_list_append PySem.F.type_list_append mt_append (pv 1) (pa_cons (pe_callB call_isE2 (by rfl) gi PyProof.Rows.boot_isinstance (pa_cons (pv 0) (pa_cons (pe_glob (v := .ref (clE K 26)) rfl G26 rfl) pa_nil))) pa_nil)))
      (pss_cons (ps_expr (pe_bm PySem.F.plainAttrs_list PySem.F.slot_list_append PySem.F.type_list_append mt_append (pv 1) (pa_cons (pe_callB call_isE2 (by rfl) gi PyProof.Rows.boot_isinstance (pa_cons (pv 0) (pa_cons (pe_glob (v := .ref (clE K 27)) rfl G27 rfl) pa_nil))) pa_nil)))
      (pss_cons (ps_expr (pe_bm PySem.F.plainAttrs_list PySem.F.slot_list_append PySem.F.type_list_append mt_append (pv 1) (pa_cons (pe_callB call_isE2 (by rfl) gi PyProof.Rows.boot_isinstance (pa_cons (pv 0) (pa_cons (pe_glob (v := .ref (clE K 28)) rfl G28 rfl) pa_nil))) pa_nil)))
      (pss_cons (ps_expr (pe_bm PySem.F.plainAttrs_list PySem.F.slot_list_append PySem.F.type_list_append mt_append (pv 1) (pa_cons (pe_callB call_isE2 (by rfl) gi PyProof.Rows.boot_isinstance (pa_cons (pv 0) (pa_cons (pe_glob (v := .ref (clE K 29)) rfl G29 rfl) pa_nil))) pa_nil)))
      (pss_cons (ps_expr (pe_bm PySem.F.plainAttrs_list PySem.F.slot_list_append PySem.F.type_list_append mt_append (pv 1) (pa_cons (pe_callB call_isE2 (by rfl) gi PyProof.Rows.boot_isinstance (pa_cons (pv 0) (pa_cons (pe_glob (v := .ref (clE K 30)) rfl G30 rfl) pa_nil))) pa_nil)))
      (pss_cons (ps_expr (pe_bm PySem.F.plainAttrs_list PySem.F.slot_list_append PySem.F.type_list_append mt_append (pv 1) (pa_cons (pe_callB call_isE2 (by rfl) gi PyProof.Rows.boot_isinstance (pa_cons (pv 0) (pa_cons (pe_glob (v := .ref (clE K 31)) rfl G31 rfl) pa_nil))) pa_nil)))
      (pss_cons (ps_expr (pe_bm PySem.F.plainAttrs_list PySem.F.slot_list_append PySem.F.type_list_append mt_append (pv 1) (pa_cons (pe_callB call_isE2 (by rfl) gi PyProof.Rows.boot_isinstance (pa_cons (pv 0) (pa_cons (pe_glob (v := .ref (clE K 32)) rfl G32 rfl) pa_nil))) pa_nil)))
      (pss_one (ps_ret (pv 1)))))))))))))))))))))))))))))))))))), ?_⟩
    obtain ⟨d, g1, g2⟩ := e.ob
    refine ⟨_, rfl, a, clE K i, d, nmE i, ff, _, .ref (clE K 0), .ref (clE K 0), _, rfl, e.er, g1, g2, fun u r => r, pr i 0 hi (by decide), ?_⟩
    refine ⟨(by show (1 : Nat) ≤ sizeLine; decide), fun l nl => ?_⟩
    have j1 : MkAt i H l 1 (upd H l (.lst [.bl (decide (0 = i))])) := ⟨by rw [upd_same]; rfl, fun b o q => by rw [upd_ne (ne_of_none q nl)]; exact q, nl⟩
    generalize upd H l (.lst [.bl (decide (0 = i))]) = G1 at j1 ⊢
    refine mark_step (k := 1) (by decide) pr hi e j1 rfl rfl (fun G2 j2 => ?_)
    refine mark_step (k := 2) (by decide) pr hi e j2 rfl rfl (fun G3 j3 => ?_)
    refine mark_step (k := 3) (by decide) pr hi e j3 rfl rfl (fun G4 j4 => ?_)
    refine mark_step (k := 4) (by decide) pr hi e j4 rfl rfl (fun G5 j5 => ?_)
    refine mark_step (k := 5) (by decide) pr hi e j5 rfl rfl (fun G6 j6 => ?_)
    refine mark_step (k := 6) (by decide) pr hi e j6 rfl rfl (fun G7 j7 => ?_)
    refine mark_step (k := 7) (by decide) pr hi e j7 rfl rfl (fun G8 j8 => ?_)
    refine mark_step (k := 8) (by decide) pr hi e j8 rfl rfl (fun G9 j9 => ?_)
    refine mark_step (k := 9) (by decide) pr hi e j9 rfl rfl (fun G10 j10 => ?_)
    refine mark_step (k := 10) (by decide) pr hi e j10 rfl rfl (fun G11 j11 => ?_)
    refine mark_step (k := 11) (by decide) pr hi e j11 rfl rfl (fun G12 j12 => ?_)
    refine mark_step (k := 12) (by decide) pr hi e j12 rfl rfl (fun G13 j13 => ?_)
    refine mark_step (k := 13) (by decide) pr hi e j13 rfl rfl (fun G14 j14 => ?_)
    refine mark_step (k := 14) (by decide) pr hi e j14 rfl rfl (fun G15 j15 => ?_)
    refine mark_step (k := 15) (by decide) pr hi e j15 rfl rfl (fun G16 j16 => ?_)
    refine mark_step (k := 16) (by decide) pr hi e j16 rfl rfl (fun G17 j17 => ?_)
    refine mark_step (k := 17) (by decide) pr hi e j17 rfl rfl (fun G18 j18 => ?_)
    refine mark_step (k := 18) (by decide) pr hi e j18 rfl rfl (fun G19 j19 => ?_)
    refine mark_step (k := 19) (by decide) pr hi e j19 rfl rfl (fun G20 j20 => ?_)
    refine mark_step (k := 20) (by decide) pr hi e j20 rfl rfl (fun G21 j21 => ?_)
    refine mark_step (k := 21) (by decide) pr hi e j21 rfl rfl (fun G22 j22 => ?_)
    refine mark_step (k := 22) (by decide) pr hi e j22 rfl rfl (fun G23 j23 => ?_)
    refine mark_step (k := 23) (by decide) pr hi e j23 rfl rfl (fun G24 j24 => ?_)
    refine mark_step (k := 24) (by decide) pr hi e j24 rfl rfl (fun G25 j25 => ?_)
    refine mark_step (k := 25) (by decide) pr hi e j25 rfl rfl (fun G26 j26 => ?_)
    refine mark_step (k := 26) (by decide) pr hi e j26 rfl rfl (fun G27 j27 => ?_)
    refine mark_step (k := 27) (by decide) pr hi e j27 rfl rfl (fun G28 j28 => ?_)
    refine mark_step (k := 28) (by decide) pr hi e j28 rfl rfl (fun G29 j29 => ?_)
    refine mark_step (k := 29) (by decide) pr hi e j29 rfl rfl (fun G30 j30 => ?_)
    refine mark_step (k := 30) (by decide) pr hi e j30 rfl rfl (fun G31 j31 => ?_)
    refine mark_step (k := 31) (by decide) pr hi e j31 rfl rfl (fun G32 j32 => ?_)
    refine mark_step (k := 32) (by decide) pr hi e j32 rfl rfl (fun G33 j33 => ?_)
    obtain ⟨q1, q2, q3⟩ := j33
    rw [List.take_of_length_le (by rw [marksL_len]; exact Nat.le_refl _)] at q1
    exact ⟨_, rfl, k l G33 q2 q1⟩
/-- _law_kept(thing): the very value -/
def spKept (P : Program) (w : World) (K : PySem.W.Frag) (mg : Str → Option Value) (base : Heap) : Sp := fun vs H Q _ => ∃ (a : Addr) (i : Nat) (f : Str) (v : V), vs = [.ref a] ∧ Err P w K mg base i f v H a ∧ Q v H
theorem sc43 : FnScope ["_law_thing"] ["_law_thing"] (defScope s43) := ⟨rfl, rfl, rfl, by decide +kernel, rfl, by decide +kernel, by decide +kernel⟩
theorem fld_tab : ((List.range 33).all fun i => match errs[i]? with | some p => decide (p.2 = if i = 11 then "number" else if i = 13 then "line" else "value") | none => false) = true := by decide +kernel
theorem fld_at {i : Nat} {x f : Str} (h : errs[i]? = some (x, f)) : f = if i = 11 then "number" else if i = 13 then "line" else "value" := by
  have q := List.all_eq_true.mp fld_tab i (List.mem_range.mpr (errs_lt h))
  rw [h] at q
  exact of_decide_eq_true q
theorem ok_kept {f : Addr} {fd : FuncData} (F : Fd K 43 "_law_kept" f fd) (gi : mg "isinstance" = none) (G : ∀ k, k < 33 → mg (nmE k) = some (.ref (clE K k))) (pr : ∀ i k, i < 33 → k < 33 → PySem.W.kitOne K (.ref (clE K i)) (.ref (clE K k)) = some (decide (k = i))) :
    FnOk P w K mg base CX0 1 f fd ["_law_thing"] (spKept P w K mg base) := by
  have G11 : mg "TooMany" = some (.ref (clE K 11)) := G 11 (by decide)
  have G13 : mg "BadText" = some (.ref (clE K 13)) := G 13 (by decide)
  refine F.ok sc43 (fun vs H Q E h => ?_) (fun cdv A outer s H vs Q E hr h => ?_)
  · obtain ⟨a, i, f, v, rfl, _⟩ := h
    rfl
  · obtain ⟨a, i, ff, v, rfl, e, k⟩ := h
    have hi : i < 33 := errs_lt e.at_
    have hf := fld_at e.at_
    have er := e.er
    obtain ⟨d, g1, g2⟩ := e.ob
    refine ⟨_, pss_cons (ps_if (pt_val (pe_callB call_isE2 (by rfl) gi PyProof.Rows.boot_isinstance (pa_cons (pv 0) (pa_cons (pe_glob (v := .ref (clE K 11)) rfl G11 rfl) pa_nil)))) (pss_one (ps_ret (pe_ef (pv 0)))) pss_nil)
      (pss_one (ps_ret (pe_ifExp (pt_val (pe_callB call_isE2 (by rfl) gi PyProof.Rows.boot_isinstance (pa_cons (pv 0) (pa_cons (pe_glob (v := .ref (clE K 13)) rfl G13 rfl) pa_nil)))) (pe_ef (pv 0)) (pe_ef (pv 0))))), ?_⟩
    refine ⟨_, rfl, a, clE K i, d, nmE i, ff, _, .ref (clE K 11), .ref (clE K 11), _, rfl, er, g1, g2, fun u r => r, pr i 11 hi (by decide), _, rfl, ?_⟩
    refine ite2 (fun h11 => ?_) (fun h11 => ?_)
    · have e11 : 11 = i := of_decide_eq_true h11
      subst e11
      rw [if_pos rfl] at hf
      subst hf
      exact ⟨_, rfl, a, clE K 11, d, nmE 11, _, v, rfl, er, g1, g2, by simp [List.lookup], k⟩
    · have n11 : ¬ i = 11 := fun z => h11 (decide_eq_true z.symm)
      rw [if_neg n11] at hf
      refine ⟨_, rfl, a, clE K i, d, nmE i, ff, _, .ref (clE K 13), .ref (clE K 13), _, rfl, er, g1, g2, fun u r => r, pr i 13 hi (by decide), _, rfl, ?_⟩
      refine ite2 (fun h13 => ?_) (fun h13 => ?_)
      · have e13 : 13 = i := of_decide_eq_true h13
        subst e13
        rw [if_pos rfl] at hf
        subst hf
        exact ⟨_, rfl, a, clE K 13, d, nmE 13, _, v, rfl, er, g1, g2, by simp [List.lookup], k⟩
      · have n13 : ¬ i = 13 := fun z => h13 (decide_eq_true z.symm)
        rw [if_neg n13] at hf
        subst hf
        exact ⟨_, rfl, a, clE K i, d, nmE i, _, v, rfl, er, g1, g2, by simp [List.lookup], k⟩
end
end KZ
namespace KZ
open PySem PySem.Spec PyProof.Rows L2 LamX NdefX
/-! ## a def that is called where no repr runs -/
structure FnG (P : Program) (w : World) (K : PySem.W.Frag) (mg : Str → Option Value) (base : Heap) (k : Nat) (f : Addr) (fd : FuncData) (ps : List Str) (sp : Sp) : Prop where
  len : ∀ vs H Q E, sp vs H Q E → vs.length = ps.length
  run : ∀ (A : Around) (outer : List Env) (s : Shared) (H : Hp) (args : Args) (us : List Value) (vs : List V) (Q : VK) (E : XK), A.guards = some [] → Room k A → Env0 P w K mg base A outer s H → BindsTo s fd args (ps.zip us) → Vals vs us → sp vs H Q E →
    codeAny (model P w) A (.call (.ref f) args) (CR CX0 outer P w H s Q E) s
section
variable {P : Program} {w : World} {K : PySem.W.Frag} {mg : Str → Option Value} {base : Heap}
theorem fnG_of {k : Nat} {x qual : Str} {params : Arguments} {body : List Stmt} {scope : Scope} {f : Addr} {fd : FuncData} {N ps : List Str} {sp : Sp} (F : FunD K x qual params body scope [] [] f fd) (S : FnScope N ps scope) (len : ∀ vs H Q E, sp vs H Q E → vs.length = ps.length)
    (hbody : ∀ (cdv : Value) (A : Around) (outer : List Env) (s : Shared) (H : Hp) (vs : List V) (Q : VK) (E : XK), A.guards = some [] → Room k (A.deeper (envOfC qual scope s.heap.objs.size f cdv)) → sp vs H Q E →
      ∃ t, PSs (cxOf CX0 P w K mg base N qual scope f cdv A outer s H E) body t ∧ t { nx := fun _ H' => Q .non H', rt := Q } (L2.start N vs) H) : FnG P w K mg base (k + 1) f fd ps sp := by
  obtain ⟨oc, od, dV, kV, doc, pm, an, cdv, ct, osl, rfl, lk, hcd, hD, hK⟩ := F.ex
  refine ⟨len, fun A outer s H args us vs Q E hg hr e0 hb r hsp => ?_⟩
  have hl := len _ _ _ _ hsp
  exact run_ofS lk hcd S hr e0 hb r hl fun hr' => hbody cdv A outer s H vs Q E hg hr' hsp
theorem deeper_guards {A : Around} {env : Env} (h : A.guards = some []) : (A.deeper env).guards = some [] := h
theorem pe_callG {X : Cx} {k : Nat} {f : Addr} {fd : FuncData} {ps : List Str} {sp : Sp} {x : Str} {p pos : Pos} {e : Expr} {es : List Expr} {t : TA} (F : FnG X.prog X.w X.K X.mg X.base k f fd ps sp) (hA : X.A.guards = some []) (hr : Room k X.A) (hg : Gl X x) (hm : X.mg x = some (.ref f))
    (hk : PySem.W.keepIn X.K (.ref f) = true) (hb : Binds X.K fd ps []) (ha : PA X (e :: es) t) (hdb : (x == ("__debug__" : Str)) = false := by decide) (he : starEach (e :: es) X.env = (false, eval e X.env) :: starEach es X.env := by rfl)
    (hpl : (backTo pos (starEach es X.env)).any (·.1) = false := by rfl) : PE X (.Call (.Name x p) (e :: es) [] pos) (tCall sp [] E0 t) := by
  refine ⟨fun pins s σ H Q I h => ?_⟩
  refine wpAny_Call_Name_kw (ld_glob I hg hm ?_ hdb)
  refine PySem.W.callWith_K (h₀ := X.base) I.ok.mod.kin hk (thn (ha.run pos pins s σ H _ I h) fun us s1 ⟨vs, H1, I1, r, q⟩ => ⟨I1.kIn, ?_⟩) he hpl
  show wpAny _ _ (call (.ref f) us) _ _ _
  have q' : sp vs H1 Q E0 := by
    have z : sp (vs ++ []) H1 Q E0 := q
    rw [List.append_nil] at z
    exact z
  have hl : us.length = ps.length := by rw [← r.length]; exact F.len _ _ _ _ q'
  have bt : BindsTo s1 fd ⟨us, []⟩ (ps.zip us) := by
    have z := hb s1 us I1.kIn (by simpa using hl)
    rw [List.append_nil] at z
    exact z
  refine wpAny_call (codeAny_mono (F.run X.A X.stack s1 H1 ⟨us, []⟩ us vs Q E0 hA hr I1.env0 bt r q') fun r' s' hq => ?_)
  cases r' with
  | error er => exact (show Passes CX0 X E0 from pass0) pins σ _ _ er s' I1 hq
  | ok fl =>
    cases fl with
    | ret u => exact I1.after hq
    | next => exact False.elim hq
    | brk => exact False.elim hq
    | cont => exact False.elim hq
end
end KZ
namespace KZ
open PySem PySem.Spec PyProof.Rows L2 LamX NdefX
/-! ## one jar: every error, three values of any kind each -/
def LamsAt (J : Addr) (H : Hp) (l : Addr) : Prop := l ≠ J ∧ ∃ fs : List V, H l = some (.lst fs) ∧ fs.length = 33 ∧ ∀ (i : Nat) (f : Str), errs[i]? = some (nmE i, f) →
  ∃ (fa c' : Addr) (q : Str) (params : Arguments) (body : Expr) (scope : Scope), fs[i]? = some (.ref fa) ∧ LamTx (nmE i) f params body scope ∧ fa ≠ J ∧ c' ≠ J ∧ H fa = some (LamO fa c' q params body scope) ∧ H c' = some (CodeO c' q)
theorem LamsAt.kp {J l : Addr} {H H' : Hp} (k : Kp J H H') (h : LamsAt J H l) : LamsAt J H' l := by
  obtain ⟨n, fs, e, len, all⟩ := h
  refine ⟨n, fs, k _ _ e n, len, fun i f hi => ?_⟩
  obtain ⟨fa, c', q, params, body, scope, g1, g2, g3, g4, g5, g6⟩ := all i f hi
  exact ⟨fa, c', q, params, body, scope, g1, g2, g3, g4, k _ _ g5 g3, k _ _ g6 g4⟩
theorem jar_lam {J : Addr} {H : Hp} {c : Nat} (j : Jar J H c) {b : Addr} {o : HO} (e : H b = some o) (h : ∀ xs, o ≠ .lst xs) : b ≠ J := by
  obtain ⟨m, s, k, e2, _⟩ := j
  exact ne_of e e2 (h _)
theorem lams_of {T : List (Addr × Str)} {J l : Addr} {c : Nat} {H H' : Hp} (m : Mk33 T H l 33 H') (j : Jar J H' c) (n : l ≠ J) : LamsAt J H' l := by
  obtain ⟨fs, h1, h2, h3, h4, h5, h6, h7, all⟩ := m
  refine ⟨n, fs, h1, h2, fun i f hi => ?_⟩
  obtain ⟨fa, c', q, params, body, scope, g1, g2, g3, g4⟩ := all i _ _ (errs_lt hi) hi
  exact ⟨fa, c', q, params, body, scope, g1, g2, jar_lam j g3 lamO_lst, jar_lam j g4 codeO_lst, g3, g4⟩
theorem nm_at {i : Nat} {p : Str × Str} (h : errs[i]? = some p) : errs[i]? = some (nmE i, p.2) := by
  have e : nmE i = p.1 := by
    unfold nmE
    rw [List.getD_eq_getElem?_getD, h]
    rfl
  rw [h, e]
theorem at_lt {i : Nat} (h : i < 33) : ∃ f, errs[i]? = some (nmE i, f) := by
  have hl : i < errs.length := by rw [errs_len]; exact h
  exact ⟨_, nm_at (List.getElem?_eq_getElem hl)⟩
theorem Sm.kp {J : Addr} {H H' : Hp} (s : Sm H H') : Kp J H H' := fun b o e _ => s b o e
theorem Sm.trans {H H1 H2 : Hp} (a : Sm H H1) (b : Sm H1 H2) : Sm H H2 := fun c o e => b c o (a c o e)
theorem Sm.new {H H' : Hp} {a : Addr} {o : HO} (x : Sm H H') (h : H' a = none) : Sm H (upd H' a o) := fun b u e => by
  have e' := x b u e
  rw [upd_ne (ne_of_none e' h)]
  exact e'
theorem Sm.jar {J : Addr} {H H' : Hp} {c : Nat} (s : Sm H H') (j : Jar J H c) : Jar J H' c := by
  obtain ⟨m, z, k, e, r⟩ := j
  exact ⟨m, z, k, s _ _ e, r⟩
theorem sm_mk {C : Addr} {f : Str} {v : V} {H : Hp} {a d : Addr} (na : H a = none) (nd : H d = none) (ne : d ≠ a) : Sm H (mkH C f v H a d) := fun b o e => by
  unfold mkH
  rw [upd_ne (ne_of_none e na), upd_ne (ne_of_none e nd)]
  exact e
theorem tabs_kp {T : List (Addr × Str)} {J : Addr} {H H' : Hp} {c : Nat} (j : Jar J H c) (k : Kp J H H') (t : Tabs T H) : Tabs T H' := fun p hp => by
  obtain ⟨ps, h1, h2, h3⟩ := t p hp
  refine ⟨ps, k _ _ h1 (jar_lam j h1 fun xs z => by cases z), h2, fun pos cv hc => ?_⟩
  obtain ⟨cc, e1, e2⟩ := h3 pos cv hc
  exact ⟨cc, e1, k _ _ e2 (jar_lam j e2 codeO_lst)⟩
/-- what holds between two values -/
structure Mid (T : List (Addr × Str)) (J l1 l2 : Addr) (H0 : Hp) (c : Nat) (H : Hp) : Prop where
  a1 : LamsAt J H l1
  a2 : LamsAt J H l2
  j : Jar J H c
  x : Ext J H0 H
  t : Tabs T H
theorem Mid.kp {T : List (Addr × Str)} {J l1 l2 : Addr} {H0 H H' : Hp} {c d : Nat} (m : Mid T J l1 l2 H0 c H) (k : Kp J H H') (j : Jar J H' d) : Mid T J l1 l2 H0 d H' := ⟨m.a1.kp k, m.a2.kp k, j, m.x.trans k.ext, tabs_kp m.j k m.t⟩
def spRight (T : List (Addr × Str)) : Sp := fun vs H Q _ => ∃ (J : Addr) (c : Nat), vs = [.ref J] ∧ Jar J H c ∧ c ≤ 1000 ∧ Tabs T H ∧ ∀ H', Jar J H' (c + 600) → Ext J H H' → Tabs T H' → Q (.bl true) H'
theorem sc44 : FnScope ["_law_jar_here", "_law_plain", "_law_named_here", "_law_at", "_law_turn", "_law_thing", "_law_made", "_law_spot"] ["_law_jar_here"] (defScope s44) := ⟨rfl, rfl, rfl, by decide +kernel, rfl, by decide +kernel, by decide +kernel⟩
theorem names_ok : (errs.all fun p => (p.1 == ("_law_it" : Str)) == false && (p.1 == ("__debug__" : Str)) == false) = true := by decide +kernel
theorem name_at {i : Nat} {f : Str} (h : errs[i]? = some (nmE i, f)) : (nmE i == ("_law_it" : Str)) = false ∧ (nmE i == ("__debug__" : Str)) = false := by
  have q := List.all_eq_true.mp names_ok _ (List.mem_of_getElem? h)
  simpa using q
def okL (K : PySem.W.Frag) : Str → Arguments → Expr → Scope → Sp → Prop := fun q params body scope sp => ∃ (i : Nat) (f : Str), errs[i]? = some (nmE i, f) ∧ LamTx (nmE i) f params body scope ∧ sp = spLam (clE K i) f
section
variable {P : Program} {w : World} {K : PySem.W.Frag} {mg : Str → Option Value} {base : Heap}
theorem dp_bools {H : Hp} : ∀ bs : List Bool, DpAll K H (bs.map V.bl) (bs.map PyData.bool)
  | [] => .nil
  | b :: r => .cons (.bl b) (dp_bools r)
theorem can_bools : ∀ bs : List Bool, PyData.canLayAll0 (bs.map PyData.bool) = true
  | [] => rfl
  | b :: r => by
    show (PyData.canLay0 (.bool b) && PyData.canLayAll0 (r.map PyData.bool)) = true
    rw [can_bools r]
    rfl
theorem depth_bools : ∀ bs : List Bool, PyData.depthAll (bs.map PyData.bool) = 0
  | [] => rfl
  | b :: r => by
    show max (PyData.depth (.bool b)) (PyData.depthAll (r.map PyData.bool)) = 0
    rw [depth_bools r]
    rfl
theorem marks_bools (i : Nat) : marksL i = ((List.range 33).map fun j => decide (j = i)).map V.bl := by
  unfold marksL
  rw [List.map_map]
  rfl
theorem marks_eq {H : Hp} {a b : Addr} (i : Nat) (ha : H a = some (.lst (marksL i))) (hb : H b = some (.lst (marksL i))) {Q : VK} (q : Q (.bl false) H) : rNeD K (.ref a) (.ref b) H Q := by
  rw [marks_bools] at ha hb
  have cl : PyData.canLay0 (.list (((List.range 33).map fun j => decide (j = i)).map PyData.bool)) = true := by
    show PyData.canLayAll0 _ = true
    exact can_bools _
  have sh : SeqAt.shaped (.list (((List.range 33).map fun j => decide (j = i)).map PyData.bool)) = true := by
    unfold SeqAt.shaped
    rw [cl, Bool.true_and]
    refine decide_eq_true ?_
    show PyData.depthAll _ + 1 ≤ 64
    rw [depth_bools]
    decide
  refine ⟨_, _, .lst (SqL.of ha) (dp_bools _), .lst (SqL.of hb) (dp_bools _), sh, sh, ?_⟩
  rw [SeqAt.eqv_refl _ cl]
  exact q
theorem ok_right {T : List (Addr × Str)} {f fO fM fN fK fP : Addr} {fd fdO fdM fdN fdK fdP : FuncData} (F : Fd K 44 "_law_right" f fd)
    (GO : FnOk P w K mg base CX0 3 fO fdO ["_law_jar_here"] spOdd) (bO : Binds K fdO ["_law_jar_here"] []) (kO : PySem.W.keepIn K (.ref fO) = true) (gO : mg "_law_odd" = some (.ref fO))
    (GM : FnOk P w K mg base CX0 1 fM fdM [] (spMks T)) (bM : Binds K fdM [] []) (kM : PySem.W.keepIn K (.ref fM) = true) (gM : mg "_law_makers" = some (.ref fM))
    (GN : FnOk P w K mg base CX0 1 fN fdN [] (spMks T)) (bN : Binds K fdN [] []) (kN : PySem.W.keepIn K (.ref fN) = true) (gN : mg "_law_named" = some (.ref fN))
    (GK : FnOk P w K mg base CX0 1 fK fdK ["_law_thing"] (spMarks P w K mg base)) (bK : Binds K fdK ["_law_thing"] []) (kK : PySem.W.keepIn K (.ref fK) = true) (gK : mg "_law_marks" = some (.ref fK))
    (GP : FnOk P w K mg base CX0 1 fP fdP ["_law_thing"] (spKept P w K mg base)) (bP : Binds K fdP ["_law_thing"] []) (kP : PySem.W.keepIn K (.ref fP) = true) (gP : mg "_law_kept" = some (.ref fP))
    (er : ∀ i f, errs[i]? = some (nmE i, f) → Er P w K mg base (nmE i) f (clE K i)) (kS : ∀ i, i < 33 → PySem.W.kitOne K (.ref (clE K i)) (.ref (He.ga K "SpoilError")) = some true) (kV : ∀ i, i < 33 → PySem.W.kitOne K (.ref (clE K i)) (.type "ValueError") = some true)
    (gS : mg "SpoilError" = some (.ref (He.ga K "SpoilError"))) (gV : mg "ValueError" = none) (gi : mg "isinstance" = none) (grp : mg "repr" = none) (gl : mg "len" = none) (gr : mg "range" = none) (sy : SysD K) :
    FnG P w K mg base 4 f fd ["_law_jar_here"] (spRight T) := by
  refine fnG_of F sc44 (fun vs H Q E h => ?_) (fun cdv A outer s H vs Q E hg hr h => ?_)
  · obtain ⟨J, c, rfl, _⟩ := h
    rfl
  · obtain ⟨J, c, rfl, hJ, hc, hT, q⟩ := h
    have hr1 := hr.mono (show 1 ≤ 3 by decide)
    have hgA := deeper_guards (env := envOfC "_law_right" (defScope (topAt 44)) s.heap.objs.size f cdv) hg
    have huA : (A.deeper (envOfC "_law_right" (defScope (topAt 44)) s.heap.objs.size f cdv)).units + 30 < cLine := by have := hr.un; omega
    have hu64 : (A.deeper (envOfC "_law_right" (defScope (topAt 44)) s.heap.objs.size f cdv)).units + 64 < cLine := by have := hr.un; omega
    have hok : ∀ q params body scope sp, okL K q params body scope sp → ∃ x, LOk P w K mg base 3 q params body scope [x] sp := fun q params body scope sp ⟨i, f, h1, h2, h3⟩ => by
      subst h3
      obtain ⟨n1, n2⟩ := name_at h1
      exact ⟨"_law_it", lok (er i f h1) n1 n2 h2⟩
    refine ⟨_, PSs.nox (pss_cons (ps_par (i := 1) (j := 2) rfl sc44.nd rfl rfl (by decide) rfl rfl (pa_cons (pe_call0 GM hr1 rfl gM kM bM .nil pass0) (pa_cons (pe_call0 GN hr1 rfl gN kN bN .nil pass0) pa_nil)) (by rfl))
      (pss_cons (ps_for PassesOwn.never rfl (pi_range1 rfl gr (pa_cons (pe_callB call_len_seq (by rfl) gl PySem.boot_len (pa_cons (pv 1) pa_nil)) pa_nil)) (pg_name (i := 3) sc44.nd rfl (Or.inr rfl))
        (pss_one (ps_for PassesOwn.never rfl (pi_range1 rfl gr (pa_cons pe_int pa_nil)) (pg_name (i := 4) sc44.nd rfl (Or.inl rfl))
          (pss_cons (ps_set (i := 5) sc44.nd rfl (Or.inl rfl) (pe_call GO hr rfl gO kO bO .nil pass0 (pa_cons (pv 0) pa_nil)))
          (pss_one (ps_for PassesOwn.never rfl (pi_tup (pe_tup (pa_cons (pe_cl hok hr (pe_ix ix_list (pv 1) (pv 3) (fun _ _ => rfl)) (pv 5)) (pa_cons (pe_cl hok hr (pe_ix ix_list (pv 2) (pv 3) (fun _ _ => rfl)) (pv 5)) pa_nil)))) (pg_name (i := 6) sc44.nd rfl (Or.inl rfl))
            (pss_cons (ps_if (pt_cmpR (op_neD hu64) (pe_call GK hr1 rfl gK kK bK .nil pass0 (pa_cons (pv 6) pa_nil)) (pe_lc (own := [("_law_spot", 7)]) (g := gName 7) (tt := tYes) rfl sc44.nd (pi_range1 rfl gr (pa_cons (pe_callB call_len_seq (by rfl) gl PySem.boot_len (pa_cons (pv 1) pa_nil)) pa_nil))
                (blkOk_by (N := ["_law_jar_here", "_law_plain", "_law_named_here", "_law_at", "_law_turn", "_law_thing", "_law_made", "_law_spot"]) (sc := defScope s44) (by decide +kernel)) (fun _ _ _ _ _ => pg_name (i := 7) sc44.nd rfl (Or.inl rfl)) (fun _ _ _ _ _ => pts_nil) (fun _ _ _ _ _ => pe_cmpR op_eq (pv 7) (pv 3) (nomark _))) (nomark _)) (pss_one (ps_ret pe_bl)) pss_nil)
            (pss_cons (ps_if (pt_cmpR op_ne (pe_callB (call_rep hgA huA sy) (by rfl) grp PyProof.Rows.boot_repr (pa_cons (pe_call GP hr1 rfl gP kP bP .nil pass0 (pa_cons (pv 6) pa_nil)) pa_nil)) (pe_callB (call_rep hgA huA sy) (by rfl) grp PyProof.Rows.boot_repr (pa_cons (pv 5) pa_nil)) (nomark _)) (pss_one (ps_ret pe_bl)) pss_nil)
            (pss_one (ps_if (PW.pt (pw_or (pt_not (pt_val (pe_callB call_isE2 (by rfl) gi PyProof.Rows.boot_isinstance (pa_cons (pv 6) (pa_cons (pe_glob (v := .ref (He.ga K "SpoilError")) rfl gS rfl) pa_nil))))) (pw_or1 (pt_not (pt_val (pe_callB call_isE2 (by rfl) gi PyProof.Rows.boot_isinstance (pa_cons (pv 6) (pa_cons (pe_bltn (v := .ty "ValueError") rfl gV PyProof.Rows.Boot.«ValueError» rfl) pa_nil)))))))) (pss_one (ps_ret pe_bl)) pss_nil))))))))))
      (pss_one (ps_ret pe_bl)))), ?_⟩
    refine ⟨rfl, hT, fun l1 H1 m1 => ?_⟩
    have t1 : Tabs T H1 := by
      obtain ⟨fs, h1, h2, h3, h4, h5, h6, h7, all⟩ := m1
      exact h6
    have eN1 : ExtN H H1 := by
      obtain ⟨fs, h1, h2, h3, h4, h5, h6, h7, all⟩ := m1
      exact h4
    have n1 : l1 ≠ J := by
      obtain ⟨fs, h1, h2, h3, h4, h5, h6, h7, all⟩ := m1
      exact hJ.ne h7
    have j1 : Jar J H1 c := by
      obtain ⟨m, z, k, e, r⟩ := hJ
      exact ⟨m, z, k, eN1 _ _ e (fun ps z => by cases z), r⟩
    refine ⟨rfl, t1, fun l2 H2 m2 => ⟨_, _, rfl, ?_⟩⟩
    have t2 : Tabs T H2 := by
      obtain ⟨fs, h1, h2, h3, h4, h5, h6, h7, all⟩ := m2
      exact h6
    have eN2 : ExtN H1 H2 := by
      obtain ⟨fs, h1, h2, h3, h4, h5, h6, h7, all⟩ := m2
      exact h4
    have n2 : l2 ≠ J := by
      obtain ⟨fs, h1, h2, h3, h4, h5, h6, h7, all⟩ := m2
      exact j1.ne h7
    have j2 : Jar J H2 c := by
      obtain ⟨m, z, k, e, r⟩ := j1
      exact ⟨m, z, k, eN2 _ _ e (fun ps z => by cases z), r⟩
    have la1 : LamsAt J H2 l1 := by
      obtain ⟨n, fs, e, len, all⟩ := lams_of m1 j1 n1
      refine ⟨n, fs, eN2 _ _ e (fun ps z => by cases z), len, fun i f hi => ?_⟩
      obtain ⟨fa, c', q, params, body, scope, g1, g2, g3, g4, g5, g6⟩ := all i f hi
      exact ⟨fa, c', q, params, body, scope, g1, g2, g3, g4, eN2 _ _ g5 lamO_tbl, eN2 _ _ g6 codeO_ne⟩
    have mid0 : Mid T J l1 l2 H c H2 := ⟨la1, lams_of m2 j2 n2, j2, fun b o e _ n => eN2 b o (eN1 b o e n) n, t2⟩
    clear la1 m1 m2 t1 t2 eN1 eN2 j1 j2
    obtain ⟨_, fs1, e1, len1, _⟩ := mid0.a1
    refine ⟨_, rfl, l1, fs1, rfl, .inl (SqL.of e1), (fs1.length : Int), rfl, by rw [len1]; decide, by rw [len1]; decide, for_range (lo := 0) (n := ((fs1.length : Int)).toNat)
      (fun i σ H' => ∃ a3 a4 a5 a6 : Option V, σ = [some (.ref J), some (.ref l1), some (.ref l2), a3, a4, a5, a6, none] ∧ Mid T J l1 l2 H (c + 18 * i) H') ⟨_, _, _, _, rfl, mid0⟩ ?_ ?_⟩
    · rintro i σ H3 hi ⟨a3, a4, a5, a6, rfl, mid⟩
      have i33 : i < 33 := by rw [len1] at hi; exact hi
      obtain ⟨f, hat⟩ := at_lt i33
      refine ⟨3, rfl, by decide, by decide, for_range (lo := 0) (n := (3 : Int).toNat)
        (fun k σ H' => ∃ a4 a5 a6 : Option V, σ = [some (.ref J), some (.ref l1), some (.ref l2), some (.int (0 + (i : Int))), a4, a5, a6, none] ∧ Mid T J l1 l2 H (c + 18 * i + 6 * k) H') ⟨_, _, _, rfl, mid⟩ ?_ ?_⟩
      · rintro k σ H4 hk ⟨a4, a5, a6, rfl, mk⟩
        have k3 : k < 3 := hk
        refine ⟨_, rfl, J, c + 18 * i + 6 * k, rfl, mk.j, by omega, fun v H5 kp jj any => ?_⟩
        have md := mk.kp kp jj
        obtain ⟨d, dat, fine⟩ := any
        -- both ways to make it
        obtain ⟨_, fs, e, len, all⟩ := md.a1
        obtain ⟨fa, c', qq, params, body, scope, g1, g2, g3, g4, g5, g6⟩ := all i f hat
        have at1 : atI fs (0 + (i : Int)) = some (.ref fa) := by rw [Int.zero_add]; exact atI_nat g1
        refine ⟨_, rfl, _, rfl, l1, fs, _, _, rfl, rfl, SqL.of e, at1, fa, c', qq, params, body, scope, spLam (clE K i) f, rfl, ⟨i, f, hat, g2, rfl⟩, g5, _, rfl, g5, g6, v, rfl, fun ea ed na nd ne => ?_⟩
        have sm1 := sm_mk (C := clE K i) (f := f) (v := v) na nd ne
        have err1 : Err P w K mg base i f v (mkH (clE K i) f v H5 ea ed) ea := ⟨hat, er i f hat, ed, upd_same, by unfold mkH; rw [upd_ne ne, upd_same]⟩
        generalize mkH (clE K i) f v H5 ea ed = H6 at sm1 err1 ⊢
        have md6 := md.kp sm1.kp (sm1.jar md.j)
        obtain ⟨_, fs2, e2, len2, all2⟩ := md6.a2
        obtain ⟨fa2, c2, qq2, params2, body2, scope2, u1, u2, u3, u4, u5, u6⟩ := all2 i f hat
        have at2 : atI fs2 (0 + (i : Int)) = some (.ref fa2) := by rw [Int.zero_add]; exact atI_nat u1
        refine ⟨_, rfl, _, rfl, l2, fs2, _, _, rfl, rfl, SqL.of e2, at2, fa2, c2, qq2, params2, body2, scope2, spLam (clE K i) f, rfl, ⟨i, f, hat, u2, rfl⟩, u5, _, rfl, u5, u6, v, rfl, fun ea2 ed2 na2 nd2 ne2 => ?_⟩
        have sm2 := sm_mk (C := clE K i) (f := f) (v := v) na2 nd2 ne2
        have err2 : Err P w K mg base i f v (mkH (clE K i) f v H6 ea2 ed2) ea2 := ⟨hat, er i f hat, ed2, upd_same, by unfold mkH; rw [upd_ne ne2, upd_same]⟩
        generalize mkH (clE K i) f v H6 ea2 ed2 = H7 at sm2 err2 ⊢
        refine ⟨(by show (2 : Nat) ≤ sizeLine; decide), fun tp ntp => ?_⟩
        have sm3 : Sm H7 (upd H7 tp (.tup [.ref ea, .ref ea2])) := Sm.new (H := H7) (H' := H7) (fun b o e => e) ntp
        have etp : upd H7 tp (.tup [.ref ea, .ref ea2]) tp = some (.tup [.ref ea, .ref ea2]) := upd_same
        generalize upd H7 tp (.tup [.ref ea, .ref ea2]) = H8 at sm3 etp ⊢
        have sm58 := (sm1.trans sm2).trans sm3
        have r1 := (err1.sm sm2).sm sm3
        have r2 := err2.sm sm3
        have dat8 : Dat J H8 7 v d := dat.ext (Kp.ext sm58.kp)
        have md8 := md.kp sm58.kp (sm58.jar md.j)
        refine ⟨tp, rfl, ⟨_, SqT.of etp⟩, for_tup (K := K) (a := tp) (xs := [.ref ea, .ref ea2])
          (fun _ σ H' => ∃ a6 : Option V, σ = [some (.ref J), some (.ref l1), some (.ref l2), some (.int (0 + (i : Int))), some (.int (0 + (k : Int))), some v, a6, none] ∧ Sm H8 H') ⟨_, rfl, fun b o e => e⟩ (fun _ σ H' _ ⟨_, _, sm⟩ => SqT.of (sm _ _ etp)) ?_ ?_⟩
        · rintro n x σ H9 hx ⟨a6, rfl, sm⟩
          have hx2 : ∃ am, x = .ref am ∧ Err P w K mg base i f v H8 am := by
            have hm := List.mem_of_getElem? hx
            simp only [List.mem_cons, List.not_mem_nil, or_false] at hm
            rcases hm with h | h <;> subst h
            · exact ⟨_, rfl, r1⟩
            · exact ⟨_, rfl, r2⟩
          obtain ⟨am, rfl, r8⟩ := hx2
          have r9 := r8.sm sm
          -- just one of the marks is set
          refine ⟨_, rfl, am, i, f, v, rfl, r9, fun lm Hm smm hlm => ?_⟩
          have s8m := sm.trans smm
          obtain ⟨_, fsm, em, lenm, _⟩ := md8.a1.kp s8m.kp
          refine ⟨_, rfl, l1, fsm, rfl, .inl (SqL.of em), (fsm.length : Int), rfl, by rw [lenm]; decide, by rw [lenm]; decide, fun D nD => lc_range (lo := 0) (n := ((fsm.length : Int)).toNat)
            (fun n H' => H' D = some (.lst ((marksL i).take n)) ∧ Sm Hm H') ⟨by rw [upd_same]; rfl, Sm.new (H := Hm) (H' := Hm) (fun b o e => e) nD⟩ ?_ ?_⟩
          · rintro n H' hn ⟨hD, sD⟩
            have n33 : n < 33 := by rw [lenm] at hn; exact hn
            refine ⟨rfl, ?_⟩
            refine ⟨_, rfl, _, rfl, rfl, (marksL i).take n, hD, ?_, ?_, fun b o e => ?_⟩
            · rw [List.length_take, marksL_len, sizeLine_eq]
              omega
            · rw [upd_same, List.take_succ, marksL_get n33]
              have ed : decide (V.int (0 + (n : Int)) = V.int (0 + (i : Int))) = decide (n = i) := by
                by_cases z : n = i
                · rw [decide_eq_true z, z, decide_eq_true rfl]
                · rw [decide_eq_false z, decide_eq_false (fun y => z (by injection y with y; omega))]
              show some (HO.lst ((marksL i).take n ++ [V.bl (decide (V.int (0 + (n : Int)) = V.int (0 + (i : Int))))])) = _
              rw [ed]
              rfl
            · rw [upd_ne (fun z => by rw [z] at e; exact ne_of_none e nD rfl)]
              exact sD b o e
          · rintro H' ⟨hD, sD⟩
            have hD2 : H' D = some (.lst (marksL i)) := by
              rw [hD, List.take_of_length_le]
              rw [marksL_len, lenm]
              decide
            have hlm2 := sD _ _ hlm
            show rNeD K (.ref lm) (.ref D) H' _
            refine marks_eq i hlm2 hD2 ⟨_, rfl, iteF ?_⟩
            -- it keeps the very value
            have s8' := s8m.trans sD
            have r10 := r8.sm s8'
            have dat9 : Dat J H' 7 v d := dat8.ext (Kp.ext s8'.kp)
            refine ⟨_, rfl, am, i, f, v, rfl, r10, J, 7, v, d, rfl, by decide, dat9, fine, _, rfl, J, 7, v, d, rfl, by decide, dat9, fine, rfl, _, rfl, iteNS rfl ?_⟩
            -- it is of both classes
            obtain ⟨dd, b1, b2⟩ := r10.ob
            refine ⟨_, rfl, am, clE K i, dd, nmE i, f, _, .ref (He.ga K "SpoilError"), .ref (He.ga K "SpoilError"), _, rfl, er i f hat, b1, b2, fun u r => r, kS i i33, _, rfl, iteF ?_⟩
            refine ⟨_, rfl, am, clE K i, dd, nmE i, f, _, .ty "ValueError", .type "ValueError", _, rfl, er i f hat, b1, b2, fun u r => r, kV i i33, _, rfl, iteF ?_⟩
            exact ⟨_, rfl, s8'⟩
        · rintro σ H9 ⟨a6, rfl, sm⟩
          exact ⟨_, _, _, rfl, md8.kp sm.kp ((sm.jar md8.j).up (by omega))⟩
      · rintro σ H4 ⟨a4, a5, a6, rfl, mk⟩
        have e : c + 18 * i + 6 * (3 : Int).toNat = c + 18 * (i + 1) := by show c + 18 * i + 6 * 3 = _; omega
        rw [e] at mk
        exact ⟨_, _, _, _, rfl, mk⟩
    · rintro σ H3 ⟨a3, a4, a5, a6, rfl, mid⟩
      rw [len1] at mid
      exact q H3 (mid.j.up (by show c + 18 * 33 ≤ c + 600; omega)) mid.x mid.t
end
end KZ
namespace KZ
open PySem PySem.Spec PyProof.Rows L2 LamX NdefX
/-! ## the jar of a cell, the law -/
theorem op_powB {X : Cx} : OpR X (binaryOp .Pow) (rI (fun i j => i = 10 ^ (60 : Int).toNat ∧ j = 5) fun i j => .int (i ^ j.toNat)) := opI fun i j t u s Q E hc q => by
  obtain ⟨rfl, rfl⟩ := hc
  exact PySem.AutoIntOps.pow_4 (by decide) (by decide) (by decide +kernel) (by decide +kernel) (by decide +kernel) q
def spJar (K : PySem.W.Frag) : Sp := fun vs H Q _ => ∃ (a : Addr) (ns : List Int) (k : Nat), vs = [.ref a, .int (k : Int)] ∧ SqL K H a (ns.map V.int) ∧ ns.length ≤ 63 ∧ k ≤ 100 ∧ ∀ (J : Addr) (H' : Hp), H J = none → Sm H H' → Jar J H' 0 → Q (.ref J) H'
theorem sc36 : FnScope ["_law_script", "_law_k", "_law_cell", "_law_mine"] ["_law_script", "_law_k"] (defScope s36) := ⟨rfl, rfl, rfl, by decide +kernel, rfl, by decide +kernel, by decide +kernel⟩
theorem mine_lt {a : Int} (b : Int) (hb : b = 0 ∨ b = 1) (h : 0 ≤ a) : 0 ≤ a % (10 ^ (60 : Int).toNat) ^ (5 : Int).toNat * b ∧ a % (10 ^ (60 : Int).toNat) ^ (5 : Int).toNat * b < 2 ^ 1000 := by
  have p0 : (0 : Int) < (10 ^ (60 : Int).toNat) ^ (5 : Int).toNat := by decide +kernel
  have p1 : ((10 : Int) ^ (60 : Int).toNat) ^ (5 : Int).toNat < 2 ^ 1000 := by decide +kernel
  have q0 := Int.emod_nonneg a (show ((10 : Int) ^ (60 : Int).toNat) ^ (5 : Int).toNat ≠ 0 by omega)
  have q1 := Int.emod_lt_of_pos a p0
  rcases hb with h | h <;> subst h
  · rw [Int.mul_zero]
    exact ⟨by decide, by decide +kernel⟩
  · rw [Int.mul_one]
    exact ⟨q0, by omega⟩
section
variable {P : Program} {w : World} {K : PySem.W.Frag} {mg : Str → Option Value} {base : Heap}
theorem ok_jar {f : Addr} {fd : FuncData} (F : Fd K 36 "_law_jar" f fd) (gl : mg "len" = none) (gi : mg "int" = none) (ga : mg "abs" = none) : FnOk P w K mg base CX0 1 f fd ["_law_script", "_law_k"] (spJar K) := by
  refine F.ok sc36 (fun vs H Q E h => ?_) (fun cdv A outer s H vs Q E hr h => ?_)
  · obtain ⟨a, ns, k, rfl, _⟩ := h
    rfl
  · obtain ⟨a, ns, k, rfl, hS, hl, hk, q⟩ := h
    refine ⟨_, pss_cons (ps_set (i := 2) sc36.nd rfl (Or.inl rfl) (pe_ifExp (pt_cmpR op_lt (pv 1) (pe_callB call_len_seq (by rfl) gl PySem.boot_len (pa_cons (pv 0) pa_nil)) (nomark _)) (pe_ix ix_list (pv 0) (pv 1) (fun _ _ => rfl)) (pe_op op_add (pe_op op_mul pe_int (pv 1)) pe_int)))
      (pss_cons (ps_set (i := 3) sc36.nd rfl (Or.inl rfl) (pe_op op_mul (pe_op op_mod (pe_callTy call_int1 (by rfl) gi (by decide +kernel) (pa_cons (pe_callB call_abs (by rfl) ga PyProof.Rows.boot_abs (pa_cons (pv 2) pa_nil)) pa_nil)) (pe_op op_powB (pe_op op_pow pe_int pe_int) pe_int))
          (pe_callTy call_int1 (by rfl) gi (by decide +kernel) (pa_cons (pe_cmpR op_ge (pe_callB call_abs (by rfl) ga PyProof.Rows.boot_abs (pa_cons (pv 2) pa_nil)) (pe_op op_pow pe_int pe_int) (nomark _)) pa_nil))))
      (pss_one (ps_ret (pe_lst (pa_cons (pv 3) (pa_cons (pe_op op_mod (pe_callTy call_int1 (by rfl) gi (by decide +kernel) (pa_cons (pe_op op_add (pe_op op_add (pe_op op_mul (pe_op op_mod (pe_callTy call_int1 (by rfl) gi (by decide +kernel) (pa_cons (pv 2) pa_nil)) pe_int) pe_int) (pe_op op_mul (pe_op op_mul pe_int (pv 1)) (pv 1))) pe_int) pa_nil)) pe_int) (pa_cons pe_int pa_nil))))))), ?_⟩
    -- whatever the cell is
    have c60 : CPow 10 60 := ⟨by decide, by decide, by decide⟩
    have c18 : CPow 10 18 := ⟨by decide, by decide, by decide⟩
    have pp : (0 : Int) < (10 ^ (60 : Int).toNat) ^ (5 : Int).toNat := by decide +kernel
    have m1 : (0 : Int) < 2305843009213693951 := by decide
    have m2 : (0 : Int) < 2305843009213693921 := by decide
    have cm : ∀ x : Int, CMul x 70901 := fun x => .inr ⟨by decide, by decide⟩
    have c8 : CMul 8543 (k : Int) := .inl ⟨by decide, by decide⟩
    have c9 : CMul (8543 * (k : Int)) (k : Int) := .inr ⟨by omega, by omega⟩
    have cb : ∀ (x : Int) (b : Bool), CMul x (if b = true then 1 else 0) := fun x b => by cases b <;> exact .inr ⟨by decide, by decide⟩
    have b01 : ∀ b : Bool, (if b = true then (1 : Int) else 0) = 0 ∨ (if b = true then (1 : Int) else 0) = 1 := fun b => by cases b <;> simp
    have ab : ∀ z : Int, 0 ≤ if z < 0 then -z else z := fun z => by split <;> omega
    refine ⟨_, rfl, _, rfl, a, _, rfl, .inl hS, _, _, rfl, rfl, _, rfl, ?_⟩
    have fin : ∀ (J : Addr) (H' : Hp) (x y : Int), H J = none → 0 ≤ x ∧ x < 2 ^ 1000 → H' = upd H J (.lst [.int x, .int (y % 2305843009213693921), .int 0]) → Q (.ref J) H' := fun J H' x y nJ hx e => by
      subst e
      have y0 := Int.emod_nonneg y (show (2305843009213693921 : Int) ≠ 0 by decide)
      have y1 := Int.emod_lt_of_pos y m2
      have e61 : (2 : Int) ^ 61 = 2305843009213693952 := by decide
      exact q J _ nJ (Sm.new (H := H) (H' := H) (fun b o e => e) nJ) ⟨x, _, 0, upd_same, hx.1, hx.2, y0, by omega, Int.le_refl 0, Int.le_refl 0⟩
    refine ite2 (fun h => ?_) (fun h => ?_)
    · have hlt : (k : Int) < ((ns.map V.int).length : Int) := of_decide_eq_true h
      have hk2 : k < ns.length := by rw [List.length_map] at hlt; omega
      have hz : (ns.map V.int)[k]? = some (.int ns[k]) := by simp [hk2]
      refine ⟨_, rfl, _, rfl, a, _, _, _, rfl, rfl, hS, atI_nat hz, ?_⟩
      generalize ns[k] = z
      refine ⟨_, rfl, z, rfl, .inl ⟨_, rfl, 10, 60, rfl, rfl, c60, _, _, rfl, rfl, ⟨rfl, rfl⟩, _, _, rfl, rfl, pp, _, rfl, z, rfl, 10, 18, rfl, rfl, c18, _, _, rfl, rfl, .inr ⟨_, rfl, _, _, rfl, rfl, cb _ _, ?_⟩⟩⟩
      exact ⟨_, rfl, _, rfl, .inl ⟨_, rfl, _, _, rfl, rfl, m1, _, _, rfl, rfl, cm _, _, rfl, _, _, rfl, rfl, c8, _, rfl, _, _, rfl, rfl, c9, _, _, rfl, rfl, _, _, rfl, rfl, .inl ⟨_, rfl, _, _, rfl, rfl, m2, (by show (3 : Nat) ≤ sizeLine; decide), fun J nJ => fin J _ _ _ nJ (mine_lt _ (b01 _) (ab z)) rfl⟩⟩⟩
    · refine ⟨_, rfl, _, _, rfl, rfl, .inl ⟨by decide, by decide⟩, _, _, rfl, rfl, ?_⟩
      generalize hz : (31 : Int) * (k : Int) + 17 = z
      refine ⟨_, rfl, z, hz ▸ rfl, .inl ⟨_, rfl, 10, 60, rfl, rfl, c60, _, _, rfl, rfl, ⟨rfl, rfl⟩, _, _, rfl, rfl, pp, _, rfl, z, hz ▸ rfl, 10, 18, rfl, rfl, c18, _, _, rfl, rfl, .inr ⟨_, rfl, _, _, rfl, rfl, cb _ _, ?_⟩⟩⟩
      exact ⟨_, rfl, _, rfl, .inl ⟨_, rfl, _, _, rfl, rfl, m1, _, _, rfl, rfl, cm _, _, rfl, _, _, rfl, rfl, c8, _, rfl, _, _, rfl, rfl, c9, _, _, rfl, rfl, _, _, rfl, rfl, .inl ⟨_, rfl, _, _, rfl, rfl, m2, (by show (3 : Nat) ≤ sizeLine; decide), fun J nJ => fin J _ _ _ nJ (mine_lt _ (b01 _) (ab z)) rfl⟩⟩⟩
end
end KZ
namespace KZ
open PySem PySem.Spec PyProof.Rows L2 LamX NdefX
/-! ## the law's own call, where no repr runs -/
/-- what is tracked at the entry: the tables Ts, and the script at a unless K has it -/
def H00 (K : PySem.W.Frag) (Ts : List Addr) (a : Addr) (ob : Obj) (xs : List V) : Hp := fun b => if b ∈ Ts then some (.tbl #[]) else if b = a ∧ K.lookup a = none then some (.frz ob (.lst xs)) else none
theorem h00_tab {K : PySem.W.Frag} {Ts : List Addr} {a b : Addr} {ob : Obj} {xs : List V} (h : b ∈ Ts) : H00 K Ts a ob xs b = some (.tbl #[]) := if_pos h
theorem h00_of {K : PySem.W.Frag} {Ts : List Addr} {a b : Addr} {ob : Obj} {xs : List V} {u : HO} (h : H00 K Ts a ob xs b = some u) : (b ∈ Ts ∧ u = .tbl #[]) ∨ (b ∉ Ts ∧ b = a ∧ K.lookup a = none ∧ u = .frz ob (.lst xs)) := by
  unfold H00 at h
  by_cases h1 : b ∈ Ts
  · rw [if_pos h1] at h
    exact .inl ⟨h1, (Option.some.inj h).symm⟩
  · rw [if_neg h1] at h
    by_cases h2 : b = a ∧ K.lookup a = none
    · rw [if_pos h2] at h
      exact .inr ⟨h1, h2.1, h2.2, (Option.some.inj h).symm⟩
    · rw [if_neg h2] at h
      cases h
theorem h00_script {K : PySem.W.Frag} {Ts : List Addr} {a : Addr} {ob : Obj} {xs : List V} (h1 : a ∉ Ts) (h2 : K.lookup a = none) : H00 K Ts a ob xs a = some (.frz ob (.lst xs)) := by
  unfold H00
  rw [if_neg h1, if_pos ⟨rfl, h2⟩]
abbrev emptyT : Obj := { cls := .none, data := .fields #[] }
theorem law_G {P : Program} {w : World} {K : PySem.W.Frag} {mg mb : Str → Option Value} {k : Nat} {fa a : Addr} {cs : List (Addr × Addr)} {fd : FuncData} {x : Str} {sp : Sp} {s : Shared} {vs : List Value} {ns : List Int} (KX : K.In s.heap)
    (gG : s.heap.Ns mainGlobals mg) (gB : s.heap.Ns builtinsNs mb) (bb : ∀ y : Str, y ≠ "__name__" → mb y = bootBuiltins y) (nl : s.heap.NoLimit) (g0 : s.gens = #[]) (eT : ∀ p ∈ cs, s.heap.get? p.2 = some emptyT) (kT : ∀ p ∈ cs, K.lookup p.2 = none)
    (cT : ∀ p ∈ cs, PySem.W.CodeHd s.heap p.1 p.2) (gM : ∃ (bm : Addr) (ob : Obj), mg "__builtins__" = some (.ref bm) ∧ bm ≠ builtinsNs ∧ s.heap.get? bm = some ob ∧ ob.cls = .type "module" ∧ ob.dict = some builtinsNs ∧ ob.data = .plain)
    (sc : s.heap.get? a = some { cls := .type "list", data := .seq vs.toArray }) (iv : IntsAre vs ns) (short : ns.length ≤ sizeLine) (hr : Room k callerA)
    (F : ∀ base : Heap, K.In base → base.Ns mainGlobals mg → (∀ p ∈ cs, TabB base mg p.1 p.2) → FnG P w K mg base k fa fd [x] sp) (bnd : ∀ (t : Shared) (u : Value), BindsTo t fd ⟨[u], []⟩ [(x, u)])
    (says : ∀ H : Hp, (∀ p ∈ cs, H p.2 = some (.tbl #[])) → SqL K H a (ns.map V.int) → sp [.ref a] H (fun v _ => v = .bl true) fun _ _ _ => False) :
    codeAny (model P w) callerA (.call (.ref fa) ⟨[.ref a], []⟩) (fun r s' => r = .ok (.ret (.bool true)) ∧ OldK s.heap s'.heap ∧ s'.os = s.os ∧ AllBare s'.gens) s := by
  have valsOk := vals_ints iv
  have lenEq := iv.length
  let Ts : List Addr := cs.map (·.2)
  have tabAt : ∀ b ∈ Ts, s.heap.get? b = some emptyT := fun b hb => by
    obtain ⟨p, hp, rfl⟩ := List.mem_map.mp hb
    exact eT p hp
  have inT : ∀ p ∈ cs, p.2 ∈ Ts := fun p hp => List.mem_map_of_mem hp
  have aOut : a ∉ Ts := fun z => by
    have y := tabAt a z
    rw [sc] at y
    cases y
  let H := H00 K Ts a { cls := .type "list", data := .seq vs.toArray } (ns.map V.int)
  have hH : ∀ p ∈ cs, H p.2 = some (.tbl #[]) := fun p hp => h00_tab (inT p hp)
  -- neither a dict nor a code object nor a module is tracked
  have loose : ∀ {b : Addr} {o : Obj}, s.heap.get? b = some o → (∀ l n, o.data ≠ .seq l n) → o.data ≠ .fields #[] → H b = none := fun {b o} e h1 h2 => by
    cases q : H b with
    | none => rfl
    | some u =>
      rcases h00_of q with ⟨y, _⟩ | ⟨_, y, _⟩
      · rw [tabAt b y] at e
        cases e
        exact (h2 rfl).elim
      · rw [y, sc] at e
        cases e
        exact (h1 _ _ rfl).elim
  have still : ∀ {b : Addr} {m : Str → Option Value}, s.heap.Ns b m → (hidT s.heap H).Ns b m := fun {b m} z => by
    obtain ⟨o, es, ep, e, d, r⟩ := z
    exact ⟨o, es, ep, hidT_get e (loose e (fun l n y => by rw [d] at y; cases y) (fun y => by rw [d] at y; cases y)), d, r⟩
  have KB : K.In (hidT s.heap H) := fun b o e => hidT_get (KX b o e) (by
    cases q : H b with
    | none => rfl
    | some u =>
      rcases h00_of q with ⟨y, _⟩ | ⟨_, y, y2, _⟩
      · obtain ⟨p, hp, rfl⟩ := List.mem_map.mp y
        rw [kT p hp] at e
        cases e
      · rw [y, y2] at e
        cases e)
  have MB : L2.Mod K mg (hidT s.heap H) := by
    obtain ⟨mc, y1, y2⟩ := nl
    exact ⟨KB, still gG, ⟨mb, still gB, bb⟩, ⟨mc, still y1, y2⟩⟩
  have TB : ∀ p ∈ cs, TabB (hidT s.heap H) mg p.1 p.2 := fun p hp => by
    have ep := eT p hp
    refine ⟨?_, ?_, fun z => ?_⟩
    · obtain ⟨o, us, file, tf, flags, tg, inF, text, tt, e, y1, y2, y3, rest⟩ := cT p hp
      exact ⟨o, us, file, tf, flags, tg, inF, text, tt, hidT_get e (loose e (fun l n y => by rw [y2] at y; cases y) (fun y => by rw [y2] at y; cases y; simp at y3)), y1, y2, y3, rest⟩
    · obtain ⟨bm, ob, y1, y2, y3, y4, y5, y6⟩ := gM
      have ng : bm ≠ mainGlobals := fun q => by
        obtain ⟨o, es, en, e, d, _⟩ := gG
        rw [← q, y3] at e
        cases e
        rw [y6] at d
        cases d
      have np : bm ≠ p.2 := fun q => by
        rw [← q, y3] at ep
        cases ep
        cases y6
      exact ⟨bm, ob, y1, y2, ng, np, hidT_get y3 (loose y3 (fun l n y => by rw [y6] at y; cases y) (fun y => by rw [y6] at y; cases y)), y4, y5, y6⟩
    · obtain ⟨o, es, en, e, d, _⟩ := gG
      rw [z, ep] at e
      cases e
      cases d
  have okH : HOk P w H s.heap := fun b u q => by
    rcases h00_of q with ⟨y, e⟩ | ⟨_, y, _, e⟩
    · subst e
      exact tabAt b y
    · subst e y
      exact ⟨sc, by rw [List.length_map]; exact short, vs, _, valsOk, sc⟩
  have scL : SqL K H a (ns.map V.int) := by
    cases q : K.lookup a with
    | none => exact .inl (.inr ⟨_, h00_script aOut q⟩)
    | some o =>
      have e := KX a o q
      rw [sc] at e
      cases e
      exact .inr ⟨_, vs.toArray, _, q, rfl, rfl, rfl, by rw [List.size_toArray, lenEq]; exact short, by simpa using valsOk⟩
  have E0' : Env0 P w K mg (hidT s.heap H) callerA [] s H := ⟨rfl, MB, fun b o e => of_hidT e, Nat.le_of_eq (hidT_size _ _), trivial, fun b hb => absurd (show b ∈ ([] : List Addr) from hb) (by simp), okH, .of_eq g0⟩
  refine codeAny_mono ((F _ KB (still gG) TB).run callerA [] s H ⟨[.ref a], []⟩ [.ref a] [.ref a] _ _ rfl hr E0' (bnd s (.ref a)) (.cons rfl .nil) (says H hH scL)) fun r s' h => ?_
  cases r with
  | error e => exact False.elim h
  | ok fl =>
    cases fl with
    | next => exact False.elim h
    | brk => exact False.elim h
    | cont => exact False.elim h
    | ret u =>
      obtain ⟨v, H', os, bare, un, ok', rv, ev⟩ := h
      have ev : v = .bl true := ev
      subst ev
      obtain rfl : u = Value.bool true := rv
      have stays : ∀ b o, b ∉ Ts → s.heap.get? b = some o → s'.heap.get? b = some o := fun b o nb e => by
        cases q : H b with
        | none => exact un.keep b o e q (fun z => absurd (show b ∈ ([] : List Addr) from z) (by simp)) (by simp)
        | some u =>
          rcases h00_of q with ⟨y, _⟩ | ⟨_, y, _, eu⟩
          · exact absurd y nb
          · subst eu
            obtain ⟨e1, _⟩ := okH b _ q
            obtain ⟨e2, _⟩ := ok' b _ (un.frzs b _ _ q)
            rw [e] at e1
            cases e1
            exact e2
      have grows : ∀ p ∈ cs, ∃ more : Array Value, s'.heap.get? p.2 = some { cls := .none, data := .fields more } := fun p hp => by
        obtain ⟨more, z⟩ := un.tbls p.2 #[] (hH p hp)
        exact ⟨_, ok' p.2 _ z⟩
      refine ⟨rfl, ⟨fun b o e => ?_, fun b o e => ?_⟩, os, bare⟩
      · by_cases hb : b ∈ Ts
        · obtain ⟨p, hp, rfl⟩ := List.mem_map.mp hb
          obtain ⟨more, hm⟩ := grows p hp
          have e' : s.heap.get? p.2 = some o := e
          rw [eT p hp] at e'
          cases e'
          exact .inr (.inl ⟨((cT p hp).tab (eT p hp)).isCodeTable, rfl, #[], more, rfl, by rw [Array.empty_append]; exact hm⟩)
        · exact .inl (stays b o hb e)
      · by_cases hb : b ∈ Ts
        · obtain ⟨p, hp, rfl⟩ := List.mem_map.mp hb
          obtain ⟨more, hm⟩ := grows p hp
          exact ⟨_, hm⟩
        · exact ⟨o, stays b o hb e⟩
/-- what the law's promise stands on, at the head's heap -/
def AtG (l : PySem.W.OpenLaw) (w : World) (K : PySem.W.Frag) (k n : Nat) (x : Str) (mg : Str → Option Value) (fa : Addr) (h : Heap) : Prop :=
  ∃ (fd : FuncData) (cs : List (Addr × Addr)) (sp : Sp), (∀ p ∈ cs, h.get? p.2 = some emptyT) ∧ (∀ p ∈ cs, K.lookup p.2 = none) ∧ (∀ p ∈ cs, PySem.W.CodeHd h p.1 p.2) ∧ (∀ (t : Shared) (u : Value), BindsTo t fd ⟨[u], []⟩ [(x, u)]) ∧
    (∀ (H : Hp) (a : Addr) (ns : List Int), ns.length ≤ n → (∀ p ∈ cs, H p.2 = some (.tbl #[])) → SqL K H a (ns.map V.int) → sp [.ref a] H (fun v _ => v = .bl true) fun _ _ _ => False) ∧
    ∀ base : Heap, K.In base → base.Ns mainGlobals mg → (∀ p ∈ cs, TabB base mg p.1 p.2) → FnG l.prog w K mg base k fa fd [x] sp
theorem walk_G {l : PySem.W.OpenLaw} {n k : Nat} {q : Program} {loose : List Str} {XP : (Str → Option Value) → Heap → Prop} {YP : World → Heap → Prop} {d : DefRec} {x : Str} (hn : l.most = some n) (hn2 : n ≤ sizeLine) (hdf : d.params.defaults = []) (hr : Room k callerA)
    (F : ∀ (w : World) (mg : Str → Option Value) (fa : Addr) (h : Heap), YP w h → h.Ns mainGlobals mg → mg d.name = some (.ref fa) → ∃ K : PySem.W.Frag, K.In h ∧ AtG l w K k n x mg fa h) :
    PySem.W.WalkO q loose XP YP l.row.toRowW d [] (fun f vs => PySem.call f vs) := by
  refine Att.attach_callB hn hdf fun w s₀ s mg mb fa o pm cd doc a vs ns G Y ho hd hcd gL hobj hints hlen _ g0 => ?_
  obtain ⟨K, KX, fd, cs, sp, h1, h2, h3, h4, h5, h6⟩ := F w mg fa _ Y G.T.g gL
  exact law_G KX G.T.g G.T.b G.T.builtins G.T.nolimit g0 h1 h2 h3 G.T.bmain hobj hints (Nat.le_trans hlen hn2) hr h6 h4 fun H => h5 H a ns hlen
end KZ
namespace KZ
open PySem PySem.Spec PyProof.Rows L2 LamX NdefX
/-! ## the law -/
theorem sql_turn {K : PySem.W.Frag} {J a : Addr} {xs : List V} {H H1 H2 : Hp} (h : SqL K H a xs) (nJ : H J = none) (sm : Sm H H1) (x : Ext J H1 H2) : SqL K H2 a xs := by
  rcases h with (h | ⟨o, h⟩) | h
  · exact .inl (.inl (x _ _ (sm _ _ h) (ne_of_none h nJ) (fun ps z => by cases z)))
  · exact .inl (.inr ⟨o, x _ _ (sm _ _ h) (ne_of_none h nJ) (fun ps z => by cases z)⟩)
  · exact .inr h
theorem tabs_sm {T : List (Addr × Str)} {H H' : Hp} (s : Sm H H') (t : Tabs T H) : Tabs T H' := t.ext s
def spLaw (K : PySem.W.Frag) (T : List (Addr × Str)) : Sp := fun vs H Q _ => ∃ (a : Addr) (ns : List Int), vs = [.ref a] ∧ SqL K H a (ns.map V.int) ∧ ns.length ≤ 63 ∧ Tabs T H ∧ ∀ H', Q (.bl true) H'
theorem sc45 : FnScope ["_law_script", "_law_k", "_law_jar_here", "_law_turn"] ["_law_script"] (defScope s45) := ⟨rfl, rfl, rfl, by decide +kernel, rfl, by decide +kernel, by decide +kernel⟩
section
variable {P : Program} {w : World} {K : PySem.W.Frag} {mg : Str → Option Value} {base : Heap}
theorem ok_law {T : List (Addr × Str)} {f fJ fR : Addr} {fd fdJ fdR : FuncData} (F : Fd K 45 "law" f fd) (GJ : FnOk P w K mg base CX0 1 fJ fdJ ["_law_script", "_law_k"] (spJar K)) (bJ : Binds K fdJ ["_law_script", "_law_k"] []) (kJ : PySem.W.keepIn K (.ref fJ) = true) (gJ : mg "_law_jar" = some (.ref fJ))
    (GR : FnG P w K mg base 4 fR fdR ["_law_jar_here"] (spRight T)) (bR : Binds K fdR ["_law_jar_here"] []) (kR : PySem.W.keepIn K (.ref fR) = true) (gR : mg "_law_right" = some (.ref fR)) (gr : mg "range" = none) (gx : mg "max" = none) (gn : mg "min" = none) (gl : mg "len" = none) (gA : mg "all" = none) :
    FnG P w K mg base 5 f fd ["_law_script"] (spLaw K T) := by
  refine fnG_of F sc45 (fun vs H Q E h => ?_) (fun cdv A outer s H vs Q E hg hr h => ?_)
  · obtain ⟨a, ns, rfl, _⟩ := h
    rfl
  · obtain ⟨a, ns, rfl, hS, hl, hT, q⟩ := h
    have hr1 := hr.mono (show 1 ≤ 4 by decide)
    have hgA := deeper_guards (env := envOfC "law" (defScope (topAt 45)) s.heap.objs.size f cdv) hg
    refine ⟨_, PSs.nox (pss_cons (ps_for PassesOwn.never rfl (pi_range1 rfl gr (pa_cons (pe_callB (call_max2 rfl) (by rfl) gx PyProof.Rows.boot_max (pa_cons pe_int (pa_cons (pe_callB (call_min2 rfl) (by rfl) gn PyProof.Rows.boot_min (pa_cons pe_int (pa_cons (pe_callB call_len_seq (by rfl) gl PySem.boot_len (pa_cons (pv 0) pa_nil)) pa_nil))) pa_nil))) pa_nil)) (pg_name (i := 1) sc45.nd rfl (Or.inl rfl))
        (pss_cons (ps_set (i := 2) sc45.nd rfl (Or.inr rfl) (pe_call GJ hr1 rfl gJ kJ bJ .nil pass0 (pa_cons (pv 0) (pa_cons (pv 1) pa_nil))))
        (pss_one (ps_if (pt_not (pt_val (pe_callB (cr_all rfl) (by rfl) gA PyProof.Rows.boot_all (pa_cons (pe_lc (own := [("_law_turn", 3)]) (g := gName 3) (tt := tYes) rfl sc45.nd (pi_range1 rfl gr (pa_cons pe_int pa_nil))
            (blkOk_by (N := ["_law_script", "_law_k", "_law_jar_here", "_law_turn"]) (sc := defScope s45) (by decide +kernel)) (fun _ _ _ _ _ => pg_name (i := 3) sc45.nd rfl (Or.inl rfl)) (fun _ _ _ _ _ => pts_nil) (fun _ _ _ _ _ => pe_callG GR hgA hr rfl gR kR bR (pa_cons (pv 2) pa_nil))) pa_nil)))) (pss_one (ps_ret pe_bl)) pss_nil))))
      (pss_one (ps_ret pe_bl))), ?_⟩
    refine ⟨_, rfl, a, _, rfl, .inl hS, _, _, rfl, _, _, rfl, ?_⟩
    have nlen : (ns.map V.int).length = ns.length := List.length_map ..
    rw [nlen]
    have lo : ∀ m : Int, 0 ≤ m → 1 ≤ (if (if m < 3 then m else 3) > 1 then (if m < 3 then m else 3) else 1) ∧ (if (if m < 3 then m else 3) > 1 then (if m < 3 then m else 3) else 1) ≤ 3 := fun m hm => by
      by_cases h3 : m < 3
      · rw [if_pos h3]
        by_cases h1 : m > 1
        · rw [if_pos h1]
          omega
        · rw [if_neg h1]
          omega
      · rw [if_neg h3]
        decide
    obtain ⟨lo1, lo3⟩ := lo (ns.length : Int) (by omega)
    generalize (if (if (ns.length : Int) < 3 then (ns.length : Int) else 3) > 1 then (if (ns.length : Int) < 3 then (ns.length : Int) else 3) else 1) = m at lo1 lo3 ⊢
    refine ⟨m, rfl, by omega, by omega, for_range (lo := 0) (n := m.toNat) (fun i σ H' => ∃ a1 a2 : Option V, σ = [some (.ref a), a1, a2, none] ∧ SqL K H' a (ns.map V.int) ∧ Tabs T H') ⟨_, _, rfl, hS, hT⟩ ?_ ?_⟩
    · rintro i σ H1 hi ⟨a1, a2, rfl, hS1, hT1⟩
      refine ⟨_, rfl, _, rfl, a, ns, i, (by rw [Int.zero_add]; rfl), hS1, hl, by omega, fun J H2 nJ sm jar => ?_⟩
      have t2 := tabs_sm sm hT1
      refine ⟨1, rfl, by decide, by decide, fun D nD => lc_range (lo := 0) (n := (1 : Int).toNat) (fun n H' => (n = 0 → Sm H2 H') ∧ (0 < n → H' D = some (.lst [.bl true]) ∧ Ext J H2 H' ∧ Tabs T H')  ∧ (n = 0 → H' D = some (.lst [])))
        ⟨fun _ => Sm.new (H := H2) (H' := H2) (fun b o e => e) nD, fun z => absurd z (by decide), fun _ => upd_same⟩ ?_ ?_⟩
      · rintro n H3 hn ⟨h0, _, hD⟩
        have n0 : n = 0 := by
          have : n < 1 := hn
          omega
        subst n0
        have sm3 := h0 rfl
        refine ⟨rfl, ?_⟩
        refine ⟨_, rfl, J, 0, rfl, sm3.jar jar, by decide, tabs_sm sm3 t2, fun H4 j4 x4 t4 => ?_⟩
        have nDJ : D ≠ J := jar.ne nD
        have hD4 := x4 _ _ (hD rfl) nDJ (fun ps z => by cases z)
        refine ⟨[], hD4, by decide, fun z => absurd z (by decide), fun _ => ⟨upd_same, fun b o e n t => ?_, tabs_lst hD4 t4⟩, fun z => absurd z (by decide)⟩
        rw [upd_ne (ne_of_none e nD)]
        exact x4 _ _ (sm3 _ _ e) n t
      · rintro H3 ⟨_, h1, _⟩
        obtain ⟨hD, x3, t3⟩ := h1 (by decide)
        refine ⟨D, [true], rfl, SqL.of hD, _, rfl, iteF ?_⟩
        exact ⟨_, _, rfl, sql_turn hS1 nJ sm x3, t3⟩
    · rintro σ H1 ⟨a1, a2, rfl, hS1, hT1⟩
      exact q H1
end
end KZ
namespace KZ
open PySem PySem.Spec PyProof.Rows L2 LamX NdefX
/-! ## the head: what the top leaves, by names -/
def pM : He.Defn := ("_law_makers", none)
def pN : He.Defn := ("_law_named", none)
def sysB (K : PySem.W.Frag) : Bool := match K.lookup sysModules with
  | some ⟨.type c, _, _, _⟩ => decide (c = "dict")
  | _ => false
def moreZ (K : PySem.W.Frag) : Bool := more K && (sysB K && decide ((He.cT K pM).2 ≠ (He.cT K pN).2))
def fnE : List He.DefD := (List.range 33).map fun i => iniD i (nmE i)
def faN : List He.Fa := (List.range 33).map fun i => .glo (nmE i)
def tabsZ : List He.Defn := [pM, pN]
def frZ (g : Addr → Option Obj) : PySem.W.Frag := He.frT g (sysModules :: He.asD g 5)
def obsZ (g : Addr → Option Obj) : He.AlX := (He.obsT (fa ++ faN) (fn ++ fnE) [] (frZ g), moreZ (frZ g) && He.tabsB g tabsZ (frZ g))
abbrev SaysZ (w : World) (h : Heap) (K : PySem.W.Frag) : Prop := He.SaysX (fa ++ faN) (fn ++ fnE) [] tabsZ moreZ w h K
theorem saysZ_of {w : World} {h : Heap} (e : obsZ h.get? = He.valX (fn ++ fnE) [] w) : SaysZ w h (frZ h.get?) := by
  have one : He.obsT (fa ++ faN) (fn ++ fnE) [] (frZ h.get?) = He.valT (fn ++ fnE) [] w := congrArg (fun z : He.AlX => z.1) e
  have two : (moreZ (frZ h.get?) && He.tabsB h.get? tabsZ (frZ h.get?)) = true := congrArg (fun z : He.AlX => z.2) e
  obtain ⟨mo, tb⟩ := He.ba two
  have each : ∀ p ∈ tabsZ, PySem.W.codeHdIn (frZ h.get?) (He.cT (frZ h.get?) p).1 (He.cT (frZ h.get?) p).2 = true ∧ ∃ o, h.get? (He.cT (frZ h.get?) p).2 = some o ∧ He.emptyTab o = true := fun p hp => by
    obtain ⟨y1, y2⟩ := He.ba (List.all_eq_true.mp tb p hp)
    cases q : h.get? (He.cT (frZ h.get?) p).2 with
    | none =>
      rw [q] at y2
      cases y2
    | some o =>
      rw [q] at y2
      exact ⟨y1, o, rfl, y2⟩
  refine ⟨one, mo, fun p hp => (each p hp).1, fun p hp => ?_, fun p hp => ?_⟩
  · obtain ⟨_, o, q, z⟩ := each p hp
    exact He.frT_none q z
  · obtain ⟨_, o, q, z⟩ := each p hp
    rw [q, He.emptyTab_eq z]
def hkZ : PySem.W.Hook where
  α := He.AlX
  obs := fun s => obsZ s.heap.get?
  val := fun w => He.valX (fn ++ fnE) [] w
  says := fun w h => ∃ K : PySem.W.Frag, K.In h ∧ SaysZ w h K
  of := fun _ _ e => ⟨_, He.frT_in, saysZ_of e⟩
  keeps := fun _ _ _ ⟨K, y, c⟩ st => ⟨K, PySem.W.Frag.In.keeps y st, ⟨c.t, c.more, c.hd, c.out, fun p hp => st _ _ (c.empty p hp)⟩⟩
def obZ (s : PySem.W.SharedT) : He.AlX := obsZ (HandSHeadRun.getT s)
theorem obZ_eq (s : PySem.W.SharedT) : obZ s = hkZ.obs s.abs := by
  have e : HandSHeadRun.getT s = s.abs.heap.get? := funext fun a => HandSHeadRun.getT_eq s a
  show obsZ (HandSHeadRun.getT s) = obsZ s.abs.heap.get?
  rw [e]
theorem runZ (w : World) : HandSHeadRun.RunEq ORow (PySem.W.view ORow.prog [45]) hkZ obZ 9500 (looseA ++ looseB) w := by
  intro os
  kernel_rfl
/-! ## the facts -/
theorem oexB_ok {K : PySem.W.Frag} {C : Addr} (h : oexB K C = true) : ∃ nm q N bs bm sn sub ab col dd k0 k1 k2 k3 k5, K.lookup C = some (excClassObj nm q C N bs bm true sn sub ab col dd k0 k1 k2 k3 k5 "ValueError.__new__") ∧ PySem.HandSPX.refsVE bm = true := by
  unfold oexB at h
  split at h
  · rename_i ty dd cd sl e
    split at h
    · rename_i B bm k0 k1 k2 k3 n k5 e1 e2
      simp only [Bool.and_eq_true, beq_iff_eq, Bool.not_eq_true'] at h
      obtain ⟨y1, y2, y3, y4, y5, y6⟩ := h
      subst y1 y2 y3
      obtain ⟨nm, bs, mro, ns, qn, hd, sn, sub, ab, col, del⟩ := cd
      dsimp only at e1 y4 y5
      subst e1 y4 y5
      have sl' : sl = #[k0, k1, k2, k3, some (.builtin "ValueError.__new__"), k5] := by
        have z := congrArg List.toArray e2
        simpa using z
      subst sl'
      exact ⟨nm, qn, ns, bs, bm, sn, sub, ab, col, dd, k0, k1, k2, k3, k5, e, y6⟩
    · cases h
  · cases h
theorem nm_pairs : ((List.range 33).all fun i => (List.range 33).all fun k => decide (decide (nmE i = nmE k) = decide (k = i))) = true := by decide +kernel
theorem nm_dec {i k : Nat} (hi : i < 33) (hk : k < 33) : decide (nmE i = nmE k) = decide (k = i) :=
  of_decide_eq_true (List.all_eq_true.mp (List.all_eq_true.mp nm_pairs i (List.mem_range.mpr hi)) k (List.mem_range.mpr hk))
structure ErrF (K : PySem.W.Frag) (x f : Str) : Prop where
  ox : OexC K (He.ga K x)
  no : PySem.W.findIn K (.ref (He.ga K x)) f = some none
  iC : PySem.W.findIn K (.ref (He.ga K x)) "__init__" = some (some (.ref (He.ma K (He.ga K x) "__init__")))
  tI : PySem.W.typeIn K (.ref (He.ma K (He.ga K x) "__init__")) = some (.type "function")
  ga : PySem.W.findIn K (.ref (He.ga K x)) "__getattribute__" = some (some (.builtin "BaseException.__getattribute__"))
  gg : PySem.W.findIn K (.ref (He.ga K x)) "__getattr__" = some none
  gc : PySem.W.findIn K (.ref (He.ga K x)) "__class__" = some (some (.builtin "object.__class__"))
  mo : PySem.W.mroIn K (He.ga K x) (.type "object") = some true
  kV : PySem.W.kitOne K (.ref (He.ga K x)) (.type "ValueError") = some true
  kS : PySem.W.kitOne K (.ref (He.ga K x)) (.ref (He.ga K "SpoilError")) = some true
  hd : PySem.W.hasDictIn K (He.ga K x) = true
theorem errB_ok {K : PySem.W.Frag} {x f : Str} (h : errB K x f = true) : ErrF K x f := by
  unfold errB at h
  dsimp only at h
  obtain ⟨y1, h⟩ := He.ba h
  obtain ⟨y2, h⟩ := He.ba h
  obtain ⟨y3, h⟩ := He.ba h
  obtain ⟨y4, h⟩ := He.ba h
  obtain ⟨y5, h⟩ := He.ba h
  obtain ⟨y6, h⟩ := He.ba h
  obtain ⟨y7, h⟩ := He.ba h
  obtain ⟨y8, h⟩ := He.ba h
  obtain ⟨y9, h⟩ := He.ba h
  obtain ⟨y10, h⟩ := He.ba h
  obtain ⟨y11, h⟩ := He.ba h
  obtain ⟨y12, h⟩ := He.ba h
  obtain ⟨y13, h⟩ := He.ba h
  obtain ⟨y14, y15⟩ := He.ba h
  exact ⟨⟨oexB_ok y1, He.eqO_ok y2, of_decide_eq_true y3, of_decide_eq_true y4, y5⟩, He.eqO_ok y6, He.eqO_ok y7, of_decide_eq_true y8, He.eqO_ok y9, He.eqO_ok y10, He.eqO_ok y11, of_decide_eq_true y12, of_decide_eq_true y13, of_decide_eq_true y14, y15⟩
abbrev qM : Str := (("_law_makers" : Str) ++ ".<locals>.") ++ "<lambda>"
abbrev qN : Str := (("_law_named" : Str) ++ ".<locals>.") ++ "<lambda>"
theorem sys_ok {K : PySem.W.Frag} (h : sysB K = true) : SysD K := by
  unfold sysB at h
  split at h
  · rename_i c d dt sl e
    exact ⟨_, e, congrArg Value.type (of_decide_eq_true h)⟩
  · cases h
theorem fnE_at {i : Nat} (h : i < 33) : iniD i (nmE i) ∈ fn ++ fnE := List.mem_append_right _ (List.mem_map.mpr ⟨i, List.mem_range.mpr h, rfl⟩)
theorem faN_at {i : Nat} (h : i < 33) : He.Fa.glo (nmE i) ∈ fa ++ faN := List.mem_append_right _ (List.mem_map.mpr ⟨i, List.mem_range.mpr h, rfl⟩)
theorem facts {w : World} {mg : Str → Option Value} {fL : Addr} {h : Heap} {K : PySem.W.Frag} (X : K.In h) (G : h.Ns mainGlobals mg) (hL : mg "law" = some (.ref fL)) (c : SaysZ w h K) : AtG PySem.Challenge.rw_spoilorder_k00_errors_with_any_values w K 5 63 "_law_script" mg fL h := by
  have cd := c.t.d
  obtain ⟨mo, mo2⟩ := He.ba c.more
  obtain ⟨sy, ne⟩ := He.ba mo2
  have ne := of_decide_eq_true ne
  obtain ⟨eb, mo3⟩ := He.ba mo
  obtain ⟨pb, mo4⟩ := He.ba mo3
  obtain ⟨sg, tk⟩ := He.ba mo4
  have er : ∀ i, i < 33 → ∀ f, errs[i]? = some (nmE i, f) → ErrF K (nmE i) f := fun i hi f he => errB_ok (List.all_eq_true.mp eb _ (List.mem_of_getElem? he))
  have pr : ∀ i k, i < 33 → k < 33 → PySem.W.kitOne K (.ref (clE K i)) (.ref (clE K k)) = some (decide (k = i)) := fun i k hi hk => by
    obtain ⟨f1, e1⟩ := at_lt hi
    obtain ⟨f2, e2⟩ := at_lt hk
    have z := of_decide_eq_true (List.all_eq_true.mp (List.all_eq_true.mp pb _ (List.mem_of_getElem? e1)) _ (List.mem_of_getElem? e2))
    rw [← nm_dec hi hk]
    exact z
  have gE : ∀ k, k < 33 → mg (nmE k) = some (.ref (clE K k)) := fun k hk => He.glo_ok X G (cd.facts (faN_at hk))
  obtain ⟨fd36, F36⟩ := cd.def_ 0 (d := defD 36 "_law_jar") rfl
  have g36 := He.glo_ok X G (cd.fact 0 (f := .glo "_law_jar") rfl)
  obtain ⟨fd37, F37⟩ := cd.def_ 1 (d := defD 37 "_law_take") rfl
  have g37 := He.glo_ok X G (cd.fact 1 (f := .glo "_law_take") rfl)
  obtain ⟨fd38, F38⟩ := cd.def_ 2 (d := defD 38 "_law_of") rfl
  have g38 := He.glo_ok X G (cd.fact 2 (f := .glo "_law_of") rfl)
  obtain ⟨fd39, F39⟩ := cd.def_ 3 (d := defD 39 "_law_odd") rfl
  have g39 := He.glo_ok X G (cd.fact 3 (f := .glo "_law_odd") rfl)
  obtain ⟨fd40, F40⟩ := cd.def_ 4 (d := defD 40 "_law_makers") rfl
  have g40 := He.glo_ok X G (cd.fact 4 (f := .glo "_law_makers") rfl)
  obtain ⟨fd41, F41⟩ := cd.def_ 5 (d := defD 41 "_law_named") rfl
  have g41 := He.glo_ok X G (cd.fact 5 (f := .glo "_law_named") rfl)
  obtain ⟨fd42, F42⟩ := cd.def_ 6 (d := defD 42 "_law_marks") rfl
  have g42 := He.glo_ok X G (cd.fact 6 (f := .glo "_law_marks") rfl)
  obtain ⟨fd43, F43⟩ := cd.def_ 7 (d := defD 43 "_law_kept") rfl
  have g43 := He.glo_ok X G (cd.fact 7 (f := .glo "_law_kept") rfl)
  obtain ⟨fd44, F44⟩ := cd.def_ 8 (d := defD 44 "_law_right") rfl
  have g44 := He.glo_ok X G (cd.fact 8 (f := .glo "_law_right") rfl)
  obtain ⟨fd45, F45⟩ := cd.def_ 9 (d := defD 45 "law") rfl
  have g45 := He.glo_ok X G (cd.fact 9 (f := .glo "law") rfl)
  have gS := He.glo_ok X G (cd.fact 10 (f := .glo "SpoilError") rfl)
  have z_len := He.free_ok X G (cd.fact 11 (f := .free "len") rfl)
  have z_int := He.free_ok X G (cd.fact 12 (f := .free "int") rfl)
  have z_abs := He.free_ok X G (cd.fact 13 (f := .free "abs") rfl)
  have z_range := He.free_ok X G (cd.fact 14 (f := .free "range") rfl)
  have z_repr := He.free_ok X G (cd.fact 15 (f := .free "repr") rfl)
  have z_isinstance := He.free_ok X G (cd.fact 16 (f := .free "isinstance") rfl)
  have z_ValueError := He.free_ok X G (cd.fact 17 (f := .free "ValueError") rfl)
  have z_max := He.free_ok X G (cd.fact 18 (f := .free "max") rfl)
  have z_min := He.free_ok X G (cd.fact 19 (f := .free "min") rfl)
  have z_all := He.free_ok X G (cd.fact 20 (f := .free "all") rfl)
  have e := hL.symm.trans g45
  cases e
  refine ⟨fd45, [He.cT K pM, He.cT K pN], spLaw K [((He.cT K pM).2, qM), ((He.cT K pN).2, qN)], fun p hp => ?_, fun p hp => ?_, fun p hp => ?_, fun t u => ?_, fun H a ns hl hT hS => ?_, fun base XB GB TB => ?_⟩
  · simp only [List.mem_cons, List.not_mem_nil, or_false] at hp
    rcases hp with hp | hp <;> subst hp
    · exact c.empty pM (by simp [tabsZ])
    · exact c.empty pN (by simp [tabsZ])
  · simp only [List.mem_cons, List.not_mem_nil, or_false] at hp
    rcases hp with hp | hp <;> subst hp
    · exact c.out pM (by simp [tabsZ])
    · exact c.out pN (by simp [tabsZ])
  · simp only [List.mem_cons, List.not_mem_nil, or_false] at hp
    rcases hp with hp | hp <;> subst hp
    · exact PySem.W.codeHd_of_K X (c.hd pM (by simp [tabsZ]))
    · exact PySem.W.codeHd_of_K X (c.hd pN (by simp [tabsZ]))
  · exact FunD.bindsA (ps := ["_law_script"]) F45 (fun _ _ _ _ _ _ us hl => match us, hl with | [_], _ => rfl) t [u] rfl
  · refine ⟨a, ns, rfl, hS, hl, fun p hp => ?_, fun _ => rfl⟩
    simp only [List.mem_cons, List.not_mem_nil, or_false] at hp
    rcases hp with hp | hp <;> subst hp
    · exact TabS.nil (hT (He.cT K pM) (by simp))
    · exact TabS.nil (hT (He.cT K pN) (by simp))
  · have erB : ∀ i f, errs[i]? = some (nmE i, f) → Er PySem.Challenge.rw_spoilorder_k00_errors_with_any_values.prog w K mg base (nmE i) f (clE K i) := fun i f he => by
      have hi := errs_lt he
      have ef := er i hi f he
      obtain ⟨fd, FI⟩ := cd.defs (fnE_at hi)
      obtain ⟨o1, o2, o3⟩ := ok_ini (P := PySem.Challenge.rw_spoilorder_k00_errors_with_any_values.prog) (w := w) (mg := mg) (base := base) (fld_of he) (ini_at he) FI ef.ox ef.no
      exact ⟨gE i hi, ef.ox, ef.no, ef.ga, ef.gg, ef.hd, ef.gc, ef.mo, He.eqO_ok sg, of_decide_eq_true tk, ⟨_, fd, ef.iC, ef.tI, o1, o2, o3⟩⟩
    have tbM := TB (He.cT K pM) (by simp)
    have tbN := TB (He.cT K pN) (by simp)
    have mem1 : ((He.cT K pM).2, qM) ∈ [((He.cT K pM).2, qM), ((He.cT K pN).2, qN)] := List.mem_cons_self
    have mem2 : ((He.cT K pN).2, qN) ∈ [((He.cT K pM).2, qM), ((He.cT K pN).2, qN)] := List.mem_cons_of_mem _ List.mem_cons_self
    have uni1 : ∀ p ∈ [((He.cT K pM).2, qM), ((He.cT K pN).2, qN)], p.1 = (He.cT K pM).2 → p.2 = qM := fun p hp e => by
      simp only [List.mem_cons, List.not_mem_nil, or_false] at hp
      rcases hp with hp | hp <;> subst hp
      · rfl
      · exact absurd e.symm ne
    have uni2 : ∀ p ∈ [((He.cT K pM).2, qM), ((He.cT K pN).2, qN)], p.1 = (He.cT K pN).2 → p.2 = qN := fun p hp e => by
      simp only [List.mem_cons, List.not_mem_nil, or_false] at hp
      rcases hp with hp | hp <;> subst hp
      · exact absurd e ne
      · rfl
    have b40 : Binds K fd40 [] [] := F40.bindsN fun _ _ _ _ _ _ us hl => match us, hl with | [], _ => rfl
    have b41 : Binds K fd41 [] [] := F41.bindsN fun _ _ _ _ _ _ us hl => match us, hl with | [], _ => rfl
    have k40 := F40.kp
    have k41 := F41.kp
    have ok1 : FnOk PySem.Challenge.rw_spoilorder_k00_errors_with_any_values.prog w K mg base CX0 1 (He.ga K "_law_makers") fd40 [] (spMks [((He.cT K pM).2, qM), ((He.cT K pN).2, qN)]) := by
      obtain ⟨oc, od, dV, kV, doc, pm, an, cdv, ct, osl, e1, lk, hcd, _, _⟩ := F40.ex
      obtain ⟨cc, rfl⟩ := He.codeIn_ref hcd
      subst e1
      have ec : (He.cT K pM).1 = cc := He.codeOf_eq (p := pM) lk rfl
      rw [ec] at tbM
      exact ok40 lk hcd tbM mem1 uni1
    have ok2 : FnOk PySem.Challenge.rw_spoilorder_k00_errors_with_any_values.prog w K mg base CX0 1 (He.ga K "_law_named") fd41 [] (spMks [((He.cT K pM).2, qM), ((He.cT K pN).2, qN)]) := by
      obtain ⟨oc, od, dV, kV, doc, pm, an, cdv, ct, osl, e1, lk, hcd, _, _⟩ := F41.ex
      obtain ⟨cc, rfl⟩ := He.codeIn_ref hcd
      subst e1
      have ec : (He.cT K pN).1 = cc := He.codeOf_eq (p := pN) lk rfl
      rw [ec] at tbN
      exact ok41 lk hcd tbN mem2 uni2
    have b36 : Binds K fd36 ["_law_script", "_law_k"] [] := F36.bindsN fun _ _ _ _ _ _ us hl => match us, hl with | [_, _], _ => rfl
    have b39 : Binds K fd39 ["_law_jar_here"] [] := F39.bindsN fun _ _ _ _ _ _ us hl => match us, hl with | [_], _ => rfl
    have b42 : Binds K fd42 ["_law_thing"] [] := F42.bindsN fun _ _ _ _ _ _ us hl => match us, hl with | [_], _ => rfl
    have b43 : Binds K fd43 ["_law_thing"] [] := F43.bindsN fun _ _ _ _ _ _ us hl => match us, hl with | [_], _ => rfl
    have b44 : Binds K fd44 ["_law_jar_here"] [] := F44.bindsN fun _ _ _ _ _ _ us hl => match us, hl with | [_], _ => rfl
    have okO := ok_odd (P := PySem.Challenge.rw_spoilorder_k00_errors_with_any_values.prog) (w := w) (mg := mg) (base := base) F39 F38 F37 g38 g37 z_int z_len z_range
    have okK := ok_marks (P := PySem.Challenge.rw_spoilorder_k00_errors_with_any_values.prog) (w := w) (mg := mg) (base := base) F42 z_isinstance gE pr
    have okP := ok_kept (P := PySem.Challenge.rw_spoilorder_k00_errors_with_any_values.prog) (w := w) (mg := mg) (base := base) F43 z_isinstance gE pr
    have okR := ok_right F44 okO b39 F39.kp g39 ok1 b40 k40 g40 ok2 b41 k41 g41 okK b42 F42.kp g42 okP b43 F43.kp g43 erB (fun i hi => by
      obtain ⟨f, he⟩ := at_lt hi
      exact (er i hi f he).kS) (fun i hi => by
      obtain ⟨f, he⟩ := at_lt hi
      exact (er i hi f he).kV) gS z_ValueError z_isinstance z_repr z_len z_range (sys_ok sy)
    have okJ := ok_jar (P := PySem.Challenge.rw_spoilorder_k00_errors_with_any_values.prog) (w := w) (mg := mg) (base := base) F36 z_len z_int z_abs
    exact ok_law F45 okJ b36 F36.kp g36 okR b44 F44.kp g44 z_range z_max z_min z_len z_all
end KZ
open PySem PySem.W PySem.Calls PyProof.Rows
set_option maxRecDepth 100000 in
set_option maxHeartbeats 0 in
theorem PySem.Challenge.cw_spoilorder_k00_errors_with_any_values_holds : PySem.Challenge.rw_spoilorder_k00_errors_with_any_values.Holds := by
  w_on; o_law
  refine HandSHeadRun.head_any (r := OpenLaw.row PySem.Challenge.rw_spoilorder_k00_errors_with_any_values) (q := view (OpenLaw.row PySem.Challenge.rw_spoilorder_k00_errors_with_any_values).prog [45]) (H := KZ.hkZ) (ob := KZ.obZ) (M := 9500) (loose := KZ.looseA ++ KZ.looseB) (d := HandSHeadRun.topDef (OpenLaw.row PySem.Challenge.rw_spoilorder_k00_errors_with_any_values).prog 45) (kwd := []) KZ.obZ_eq
    (by kernel_rfl) (fun s => by kernel_rfl) KZ.runZ (by kernel_rfl) (by kernel_rfl) (by kernel_rfl) (by rfl) (by first | assumption | decide +kernel) (by decide +kernel) ⟨rfl, rfl, rfl, rfl, rfl, by decide +kernel⟩ ?hw ?hc
  case hw => w_witness2
  case hc =>
    refine KZ.walk_G (l := PySem.Challenge.rw_spoilorder_k00_errors_with_any_values) (n := 63) (k := 5) (x := "_law_script") rfl (by decide) (by kernel_rfl) ⟨rfl, by decide, by decide⟩ ?F
    intro w mg fa h Y G hmg0
    obtain ⟨K, KX, c⟩ := Y
    have hmg : mg ("law" : PySem.Str) = some (.ref fa) := by
      have e : (HandSHeadRun.topDef (OpenLaw.row PySem.Challenge.rw_spoilorder_k00_errors_with_any_values).prog 45).name = ("law" : PySem.Str) := by kernel_rfl
      rw [← e]
      exact hmg0
    exact ⟨K, KX, KZ.facts KX G hmg c⟩
