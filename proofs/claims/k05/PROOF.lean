import PyProof.Rows.All
import Wide.All
import OpenK.AllK
import Wide.FinOn
import PyProof.EqAt
import PyProof.EqKinds
import PyProof.TupleCall
import KE.KLam
import KE.KExcIs
import KE.KNestM
import HandS.ForMost
import HandS.Exc
import HandS.ExcInit
import HandS.Flow
import HandS.Wide
import HandS.Codes
import HandS.IsInst
import HandS.Defaults
import HandS.Lambda
import HandS.EndTab
import HandS.HeadWalk
import HandS.Head0
import HandS.Head1
import HandS.Head2
import HandS.HeadEnd
import HandS.HeadHook1
import HandS.HeadHook2
import HandS.HeadHook3
import HandS.HeadHook4
import HandS.MakeKwOnly
import HandS.ExcField
import HandS.Nested
import HandS.RaiseMore
import HandS.SortOrd
import HandS.SortRule
import HandS.TupLe
import HandS.TupAny
import HandS.Property
import HandS.Conv
import HandS.Style
import HandS.Strs
import HandS.DictTup
import HandS.DictComp
import HandS.ListItems
import KE.SortData
import KE.KDictKeyed
import KE.KDictItemsList
import KE.KIndexOf
import KE.DataEq
import HandS.TupSets
import HandS.Zip
import KE.KDictPairs
import HandS.TupMul
import KE.KRevSl
import HandS.SetFor
import KE.GoesSet
import HandS.SetBool
import HandS.Iter
import KE.GoesNew
import PySem.Challenge.RW_spoilorder_k05_letters_in_their_order
set_option Elab.async false
set_option linter.all false
set_option maxRecDepth 100000
set_option maxHeartbeats 0
namespace PySem
end PySem
namespace KZ
open PySem PySem.Spec PyProof.Rows L2
/-- what an error's own __init__ promises: its one field -/
def spIni (C : Addr) (f : Str) : Sp := fun vs H Q _ => ∃ (a : Addr) (v : V), vs = [.ref a, v] ∧ H a = some (exo a C none) ∧
  ∀ d, H d = none → d ≠ a → Q .non (upd (upd H d (exd d [(f, v)])) a (exo a C (some d)))
/-- an error of the package: its class at C, its field f -/
structure Er (P : Program) (w : World) (K : PySem.W.Frag) (mg : Str → Option Value) (base : Heap) (x f : Str) (C : Addr) : Prop where
  gC : mg x = some (.ref C)
  ox : OexC K C
  no : PySem.W.findIn K (.ref C) f = some none
  ga : PySem.W.findIn K (.ref C) "__getattribute__" = some (some (.builtin "BaseException.__getattribute__"))
  gg : PySem.W.findIn K (.ref C) "__getattr__" = some none
  hdC : PySem.W.hasDictIn K C = true
  gc : PySem.W.findIn K (.ref C) "__class__" = some (some (.builtin "object.__class__"))
  mo : PySem.W.mroIn K C (.type "object") = some true
  sg : PySem.W.specialIn K (.builtin "object.__class__") "__get__" = some (some (.builtin "getset_descriptor.__get__"))
  tk : PySem.W.takesIn K (.builtin "object.__class__") = some true
  ini : ∃ (fI : Addr) (fd : FuncData), PySem.W.findIn K (.ref C) "__init__" = some (some (.ref fI)) ∧ PySem.W.typeIn K (.ref fI) = some (.type "function") ∧ FnOk P w K mg base CX0 1 fI fd ["self", f] (spIni C f) ∧
    (∀ (s : Shared) (a u : Value), BindsTo s fd ⟨[a, u], []⟩ [("self", a), (f, u)]) ∧ (∀ (s : Shared) (a u : Value), BindsTo s fd ⟨[a], [(f, u)]⟩ [("self", a), (f, u)])
/-- the new error at a, its dict at d -/
def mkH (C : Addr) (f : Str) (v : V) (H : Hp) (a d : Addr) : Hp := upd (upd H d (exd d [(f, v)])) a (exo a C (some d))
end KZ
namespace KZ
open PySem PySem.Spec PyProof.Rows L2 LamX NdefX
end KZ
namespace KZ
open PySem PySem.Spec PyProof.Rows L2
/-! ## data that the law draws: what stands in the heap, apart from the jar at J -/
def Sc : V → PyData → Prop
  | .non, .none => True
  | .bl b, .bool c => b = c
  | .int i, .int j => i = j
  | .str x, .str y => x = y
  | _, _ => False
def Dat (J : Addr) (H : Hp) : Nat → V → PyData → Prop
  | 0, v, d => Sc v d
  | n + 1, v, d => Dat J H n v d ∨ ∃ a : Addr, v = .ref a ∧ a ≠ J ∧
      ((∃ xs ds, H a = some (.tup xs) ∧ d = .tuple ds ∧ Paired (Dat J H n) xs ds) ∨ (∃ xs ds, H a = some (.lst xs) ∧ d = .list ds ∧ Paired (Dat J H n) xs ds) ∨
       (H a = some (.dK []) ∧ d = .dict []) ∨ ∃ (k : Str) (x : V) (e : PyData), H a = some (.dK [(Sum.inr k, x)]) ∧ d = .dict [(.str k, e)] ∧ Dat J H n x e)
/-- what the data lean on stays: all but the jar and the tables -/
def Ext (J : Addr) (H H' : Hp) : Prop := ∀ b o, H b = some o → b ≠ J → (∀ ps, o ≠ .tbl ps) → H' b = some o
theorem Ext.refl (J : Addr) (H : Hp) : Ext J H H := fun _ _ e _ _ => e
theorem Ext.trans {J : Addr} {H H1 H2 : Hp} (a : Ext J H H1) (b : Ext J H1 H2) : Ext J H H2 := fun c o e h n => b c o (a c o e h n) h n
theorem Ext.new {J : Addr} {H H' : Hp} {a : Addr} {o : HO} (x : Ext J H H') (h : H' a = none) : Ext J H (upd H' a o) := fun b u e n t => by
  have e' := x b u e n t
  rw [upd_ne (ne_of_none e' h)]
  exact e'
theorem Ext.jar {J : Addr} {H H' : Hp} {o : HO} (x : Ext J H H') : Ext J H (upd H' J o) := fun b u e n t => by
  rw [upd_ne n]
  exact x b u e n t
theorem Paired.imp {α β : Type} {F G : α → β → Prop} : ∀ {l : List α} {m : List β}, Paired F l m → (∀ a b, F a b → G a b) → Paired G l m
  | _, _, .nil, _ => .nil
  | _, _, .cons r t, f => .cons (f _ _ r) (Paired.imp t f)
theorem Dat.ext {J : Addr} {H H' : Hp} (x : Ext J H H') : ∀ {n : Nat} {v : V} {d : PyData}, Dat J H n v d → Dat J H' n v d
  | 0, _, _, h => h
  | n + 1, v, d, h => by
    rcases h with h | ⟨a, e, nj, h⟩
    · exact .inl (Dat.ext x h)
    · refine .inr ⟨a, e, nj, ?_⟩
      rcases h with ⟨xs, ds, h1, h2, h3⟩ | ⟨xs, ds, h1, h2, h3⟩ | ⟨h1, h2⟩ | ⟨k, y, z, h1, h2, h3⟩
      · exact .inl ⟨xs, ds, x a _ h1 nj (fun ps z => by cases z), h2, Paired.imp h3 fun _ _ => Dat.ext x⟩
      · exact .inr (.inl ⟨xs, ds, x a _ h1 nj (fun ps z => by cases z), h2, Paired.imp h3 fun _ _ => Dat.ext x⟩)
      · exact .inr (.inr (.inl ⟨x a _ h1 nj (fun ps z => by cases z), h2⟩))
      · exact .inr (.inr (.inr ⟨k, y, z, x a _ h1 nj (fun ps z => by cases z), h2, Dat.ext x h3⟩))
theorem Dat.up {J : Addr} {H : Hp} {v : V} {d : PyData} : ∀ {n m : Nat}, n ≤ m → Dat J H n v d → Dat J H m v d
  | n, 0, h, x => by
    have e : n = 0 := Nat.le_zero.mp h
    rw [e] at x
    exact x
  | n, m + 1, h, x => by
    by_cases e : n = m + 1
    · rw [e] at x
      exact x
    · exact .inl (Dat.up (Nat.le_of_lt_succ (Nat.lt_of_le_of_ne h e)) x)
/-! ### what repr asks -/
/-- the written part holds sys's table of modules: a dict -/
def SysD (K : PySem.W.Frag) : Prop := ∃ o, K.lookup sysModules = some o ∧ o.cls = .type "dict"
/-- what is plain enough to be shown -/
def Fine (n : Nat) (d : PyData) : Prop := d.showable = true ∧ d.depth ≤ n + 2 ∧ d.shown.length ≤ 40 + 10 * n
/-! ### wrapping -/
theorem Fine.up {n m : Nat} {d : PyData} (f : Fine n d) (h : n ≤ m) : Fine m d := ⟨f.1, by have := f.2.1; omega, by have := f.2.2; omega⟩
end KZ
namespace KZ
open PySem PySem.Spec PyProof.Rows L2
/-! ## the jar -/
/-- all but the jar stays -/
def Kp (J : Addr) (H H' : Hp) : Prop := ∀ b o, H b = some o → b ≠ J → H' b = some o
theorem Kp.refl (J : Addr) (H : Hp) : Kp J H H := fun _ _ e _ => e
theorem Kp.trans {J : Addr} {H H1 H2 : Hp} (a : Kp J H H1) (b : Kp J H1 H2) : Kp J H H2 := fun c o e h => b c o (a c o e h) h
theorem Kp.new {J : Addr} {H H' : Hp} {a : Addr} {o : HO} (x : Kp J H H') (h : H' a = none) : Kp J H (upd H' a o) := fun b u e n => by
  have e' := x b u e n
  rw [upd_ne (ne_of_none e' h)]
  exact e'
theorem Kp.jar {J : Addr} {H H' : Hp} {o : HO} (x : Kp J H H') : Kp J H (upd H' J o) := fun b u e n => by
  rw [upd_ne n]
  exact x b u e n
theorem Kp.ext {J : Addr} {H H' : Hp} (x : Kp J H H') : Ext J H H' := fun b o e n _ => x b o e n
/-- the jar: three numbers, so many draws made of it -/
def Jar (J : Addr) (H : Hp) (c : Nat) : Prop := ∃ m s k : Int, H J = some (.lst [.int m, .int s, .int k]) ∧ 0 ≤ m ∧ m < 2 ^ 1000 ∧ 0 ≤ s ∧ s < 2 ^ 61 ∧ 0 ≤ k ∧ k ≤ (c : Int)
theorem Jar.up {J : Addr} {H : Hp} {c d : Nat} (h : c ≤ d) : Jar J H c → Jar J H d := fun ⟨m, s, k, e, a1, a2, a3, a4, a5, a6⟩ => ⟨m, s, k, e, a1, a2, a3, a4, a5, by omega⟩
theorem Jar.new {J : Addr} {H : Hp} {c : Nat} {a : Addr} {o : HO} (h : H a = none) : Jar J H c → Jar J (upd H a o) c := fun ⟨m, s, k, e, r⟩ => ⟨m, s, k, by rw [upd_ne (ne_of_none e h)]; exact e, r⟩
theorem Jar.ne {J : Addr} {H : Hp} {c : Nat} {a : Addr} (h : H a = none) (j : Jar J H c) : a ≠ J := fun z => by
  obtain ⟨m, s, k, e, _⟩ := j
  rw [z, e] at h
  cases h
/-- _law_take(jar, many): a number below many -/
def spTake : Sp := fun vs H Q _ => ∃ (J : Addr) (many : Int) (c : Nat), vs = [.ref J, .int many] ∧ Jar J H c ∧ c < 100000 ∧ 0 < many ∧ many < 1000000 ∧
  ∀ (r : Int) (H' : Hp), 0 ≤ r → r < many → Kp J H H' → Jar J H' (c + 1) → Q (.int r) H'
theorem prime_at {k : Int} (h : 0 ≤ k) : ∃ p : Int, atI ([2147483647, 2147483629, 2147483587, 2147483579, 2147483563].map V.int) (k % 5) = some (.int p) ∧ 0 < p := by
  have h0 : 0 ≤ k % 5 := Int.emod_nonneg _ (by decide)
  have h1 : k % 5 < 5 := Int.emod_lt_of_pos _ (by decide)
  generalize k % 5 = r at h0 h1
  have : r = 0 ∨ r = 1 ∨ r = 2 ∨ r = 3 ∨ r = 4 := by omega
  rcases this with e | e | e | e | e <;> subst e
  · exact ⟨2147483647, rfl, by decide⟩
  · exact ⟨2147483629, rfl, by decide⟩
  · exact ⟨2147483587, rfl, by decide⟩
  · exact ⟨2147483579, rfl, by decide⟩
  · exact ⟨2147483563, rfl, by decide⟩
end KZ
namespace KZ
open PySem PySem.Spec PyProof.Rows L2
/-! ## a value of any kind -/
def Any (J : Addr) (H : Hp) (n : Nat) (v : V) : Prop := ∃ d, Dat J H n v d ∧ Fine n d
theorem Any.kp {J : Addr} {H H' : Hp} {n : Nat} {v : V} (k : Kp J H H') : Any J H n v → Any J H' n v := fun ⟨d, x, f⟩ => ⟨d, x.ext k.ext, f⟩
theorem Any.up {J : Addr} {H : Hp} {n m : Nat} {v : V} (h : n ≤ m) : Any J H n v → Any J H m v := fun ⟨d, x, f⟩ => ⟨d, x.up h, f.up h⟩
theorem any_str {J : Addr} {H : Hp} {x : Str} (h2 : (PyData.str x).shown.length ≤ 40) : Any J H 0 (.str x) := ⟨.str x, rfl, by simp [PyData.showable], by simp [PyData.depth], by simpa using h2⟩
end KZ
namespace KZ
open PySem PySem.Spec PyProof.Rows L2 LamX NdefX
/-! ## a def that is called where no repr runs -/
structure FnG (P : Program) (w : World) (K : PySem.W.Frag) (mg : Str → Option Value) (base : Heap) (k : Nat) (f : Addr) (fd : FuncData) (ps : List Str) (sp : Sp) : Prop where
  len : ∀ vs H Q E, sp vs H Q E → vs.length = ps.length
  run : ∀ (A : Around) (outer : List Env) (s : Shared) (H : Hp) (args : Args) (us : List Value) (vs : List V) (Q : VK) (E : XK), A.guards = some [] → Room k A → Env0 P w K mg base A outer s H → BindsTo s fd args (ps.zip us) → Vals vs us → sp vs H Q E →
    codeAny (model P w) A (.call (.ref f) args) (CR CX0 outer P w H s Q E) s
section
variable {P : Program} {w : World} {K : PySem.W.Frag} {mg : Str → Option Value} {base : Heap}
theorem fnG_of {k : Nat} {x qual : Str} {params : Arguments} {body : List Stmt} {scope : Scope} {f : Addr} {fd : FuncData} {N ps : List Str} {sp : Sp} (F : FunD K x qual params body scope [] [] f fd) (S : FnScope N ps scope) (len : ∀ vs H Q E, sp vs H Q E → vs.length = ps.length)
    (hbody : ∀ (cdv : Value) (A : Around) (outer : List Env) (s : Shared) (H : Hp) (vs : List V) (Q : VK) (E : XK), A.guards = some [] → Room k (A.deeper (envOfC qual scope s.heap.objs.size f cdv)) → sp vs H Q E →
      ∃ t, PSs (cxOf CX0 P w K mg base N qual scope f cdv A outer s H E) body t ∧ t { nx := fun _ H' => Q .non H', rt := Q } (L2.start N vs) H) : FnG P w K mg base (k + 1) f fd ps sp := by
  obtain ⟨oc, od, dV, kV, doc, pm, an, cdv, ct, osl, rfl, lk, hcd, hD, hK⟩ := F.ex
  refine ⟨len, fun A outer s H args us vs Q E hg hr e0 hb r hsp => ?_⟩
  have hl := len _ _ _ _ hsp
  exact run_ofS lk hcd S hr e0 hb r hl fun hr' => hbody cdv A outer s H vs Q E hg hr' hsp
theorem deeper_guards {A : Around} {env : Env} (h : A.guards = some []) : (A.deeper env).guards = some [] := h
theorem pe_callG {X : Cx} {k : Nat} {f : Addr} {fd : FuncData} {ps : List Str} {sp : Sp} {x : Str} {p pos : Pos} {e : Expr} {es : List Expr} {t : TA} (F : FnG X.prog X.w X.K X.mg X.base k f fd ps sp) (hA : X.A.guards = some []) (hr : Room k X.A) (hg : Gl X x) (hm : X.mg x = some (.ref f))
    (hk : PySem.W.keepIn X.K (.ref f) = true) (hb : Binds X.K fd ps []) (ha : PA X (e :: es) t) (hdb : (x == ("__debug__" : Str)) = false := by decide) (he : starEach (e :: es) X.env = (false, eval e X.env) :: starEach es X.env := by rfl)
    (hpl : (backTo pos (starEach es X.env)).any (·.1) = false := by rfl) : PE X (.Call (.Name x p) (e :: es) [] pos) (tCall sp [] E0 t) := by
  refine ⟨fun pins s σ H Q I h => ?_⟩
  refine wpAny_Call_Name_kw (ld_glob I hg hm ?_ hdb)
  refine PySem.W.callWith_K (h₀ := X.base) I.ok.mod.kin hk (thn (ha.run pos pins s σ H _ I h) fun us s1 ⟨vs, H1, I1, r, q⟩ => ⟨I1.kIn, ?_⟩) he hpl
  show wpAny _ _ (call (.ref f) us) _ _ _
  have q' : sp vs H1 Q E0 := by
    have z : sp (vs ++ []) H1 Q E0 := q
    rw [List.append_nil] at z
    exact z
  have hl : us.length = ps.length := by rw [← r.length]; exact F.len _ _ _ _ q'
  have bt : BindsTo s1 fd ⟨us, []⟩ (ps.zip us) := by
    have z := hb s1 us I1.kIn (by simpa using hl)
    rw [List.append_nil] at z
    exact z
  refine wpAny_call (codeAny_mono (F.run X.A X.stack s1 H1 ⟨us, []⟩ us vs Q E0 hA hr I1.env0 bt r q') fun r' s' hq => ?_)
  cases r' with
  | error er => exact (show Passes CX0 X E0 from pass0) pins σ _ _ er s' I1 hq
  | ok fl =>
    cases fl with
    | ret u => exact I1.after hq
    | next => exact False.elim hq
    | brk => exact False.elim hq
    | cont => exact False.elim hq
end
end KZ
namespace KZ
open PySem PySem.Spec PyProof.Rows L2 LamX NdefX
def Sm (H H' : Hp) : Prop := ∀ b o, H b = some o → H' b = some o
theorem Sm.kp {J : Addr} {H H' : Hp} (s : Sm H H') : Kp J H H' := fun b o e _ => s b o e
theorem Sm.trans {H H1 H2 : Hp} (a : Sm H H1) (b : Sm H1 H2) : Sm H H2 := fun c o e => b c o (a c o e)
theorem Sm.new {H H' : Hp} {a : Addr} {o : HO} (x : Sm H H') (h : H' a = none) : Sm H (upd H' a o) := fun b u e => by
  have e' := x b u e
  rw [upd_ne (ne_of_none e' h)]
  exact e'
theorem Sm.jar {J : Addr} {H H' : Hp} {c : Nat} (s : Sm H H') (j : Jar J H c) : Jar J H' c := by
  obtain ⟨m, z, k, e, r⟩ := j
  exact ⟨m, z, k, s _ _ e, r⟩
end KZ
namespace KZ
open PySem PySem.Spec PyProof.Rows L2 LamX NdefX
/-! ## the law's own call, where no repr runs -/
/-- what is tracked at the entry: the tables Ts, and the script at a unless K has it -/
def H00 (K : PySem.W.Frag) (Ts : List Addr) (a : Addr) (ob : Obj) (xs : List V) : Hp := fun b => if b ∈ Ts then some (.tbl #[]) else if b = a ∧ K.lookup a = none then some (.frz ob (.lst xs)) else none
theorem h00_tab {K : PySem.W.Frag} {Ts : List Addr} {a b : Addr} {ob : Obj} {xs : List V} (h : b ∈ Ts) : H00 K Ts a ob xs b = some (.tbl #[]) := if_pos h
theorem h00_of {K : PySem.W.Frag} {Ts : List Addr} {a b : Addr} {ob : Obj} {xs : List V} {u : HO} (h : H00 K Ts a ob xs b = some u) : (b ∈ Ts ∧ u = .tbl #[]) ∨ (b ∉ Ts ∧ b = a ∧ K.lookup a = none ∧ u = .frz ob (.lst xs)) := by
  unfold H00 at h
  by_cases h1 : b ∈ Ts
  · rw [if_pos h1] at h
    exact .inl ⟨h1, (Option.some.inj h).symm⟩
  · rw [if_neg h1] at h
    by_cases h2 : b = a ∧ K.lookup a = none
    · rw [if_pos h2] at h
      exact .inr ⟨h1, h2.1, h2.2, (Option.some.inj h).symm⟩
    · rw [if_neg h2] at h
      cases h
theorem h00_script {K : PySem.W.Frag} {Ts : List Addr} {a : Addr} {ob : Obj} {xs : List V} (h1 : a ∉ Ts) (h2 : K.lookup a = none) : H00 K Ts a ob xs a = some (.frz ob (.lst xs)) := by
  unfold H00
  rw [if_neg h1, if_pos ⟨rfl, h2⟩]
abbrev emptyT : Obj := { cls := .none, data := .fields #[] }
theorem law_G {P : Program} {w : World} {K : PySem.W.Frag} {mg mb : Str → Option Value} {k : Nat} {fa a : Addr} {cs : List (Addr × Addr)} {fd : FuncData} {x : Str} {sp : Sp} {s : Shared} {vs : List Value} {ns : List Int} (KX : K.In s.heap)
    (gG : s.heap.Ns mainGlobals mg) (gB : s.heap.Ns builtinsNs mb) (bb : ∀ y : Str, y ≠ "__name__" → mb y = bootBuiltins y) (nl : s.heap.NoLimit) (g0 : s.gens = #[]) (eT : ∀ p ∈ cs, s.heap.get? p.2 = some emptyT) (kT : ∀ p ∈ cs, K.lookup p.2 = none)
    (cT : ∀ p ∈ cs, PySem.W.CodeHd s.heap p.1 p.2) (gM : ∃ (bm : Addr) (ob : Obj), mg "__builtins__" = some (.ref bm) ∧ bm ≠ builtinsNs ∧ s.heap.get? bm = some ob ∧ ob.cls = .type "module" ∧ ob.dict = some builtinsNs ∧ ob.data = .plain)
    (sc : s.heap.get? a = some { cls := .type "list", data := .seq vs.toArray }) (iv : IntsAre vs ns) (short : ns.length ≤ sizeLine) (hr : Room k callerA)
    (F : ∀ base : Heap, K.In base → base.Ns mainGlobals mg → (∀ p ∈ cs, TabB base mg p.1 p.2) → FnG P w K mg base k fa fd [x] sp) (bnd : ∀ (t : Shared) (u : Value), BindsTo t fd ⟨[u], []⟩ [(x, u)])
    (says : ∀ H : Hp, (∀ p ∈ cs, H p.2 = some (.tbl #[])) → SqL K H a (ns.map V.int) → sp [.ref a] H (fun v _ => v = .bl true) fun _ _ _ => False) :
    codeAny (model P w) callerA (.call (.ref fa) ⟨[.ref a], []⟩) (fun r s' => r = .ok (.ret (.bool true)) ∧ OldK s.heap s'.heap ∧ s'.os = s.os ∧ AllBare s'.gens) s := by
  have valsOk := vals_ints iv
  have lenEq := iv.length
  let Ts : List Addr := cs.map (·.2)
  have tabAt : ∀ b ∈ Ts, s.heap.get? b = some emptyT := fun b hb => by
    obtain ⟨p, hp, rfl⟩ := List.mem_map.mp hb
    exact eT p hp
  have inT : ∀ p ∈ cs, p.2 ∈ Ts := fun p hp => List.mem_map_of_mem hp
  have aOut : a ∉ Ts := fun z => by
    have y := tabAt a z
    rw [sc] at y
    cases y
  let H := H00 K Ts a { cls := .type "list", data := .seq vs.toArray } (ns.map V.int)
  have hH : ∀ p ∈ cs, H p.2 = some (.tbl #[]) := fun p hp => h00_tab (inT p hp)
  -- neither a dict nor a code object nor a module is tracked
  have loose : ∀ {b : Addr} {o : Obj}, s.heap.get? b = some o → (∀ l n, o.data ≠ .seq l n) → o.data ≠ .fields #[] → H b = none := fun {b o} e h1 h2 => by
    cases q : H b with
    | none => rfl
    | some u =>
      rcases h00_of q with ⟨y, _⟩ | ⟨_, y, _⟩
      · rw [tabAt b y] at e
        cases e
        exact (h2 rfl).elim
      · rw [y, sc] at e
        cases e
        exact (h1 _ _ rfl).elim
  have still : ∀ {b : Addr} {m : Str → Option Value}, s.heap.Ns b m → (hidT s.heap H).Ns b m := fun {b m} z => by
    obtain ⟨o, es, ep, e, d, r⟩ := z
    exact ⟨o, es, ep, hidT_get e (loose e (fun l n y => by rw [d] at y; cases y) (fun y => by rw [d] at y; cases y)), d, r⟩
  have KB : K.In (hidT s.heap H) := fun b o e => hidT_get (KX b o e) (by
    cases q : H b with
    | none => rfl
    | some u =>
      rcases h00_of q with ⟨y, _⟩ | ⟨_, y, y2, _⟩
      · obtain ⟨p, hp, rfl⟩ := List.mem_map.mp y
        rw [kT p hp] at e
        cases e
      · rw [y, y2] at e
        cases e)
  have MB : L2.Mod K mg (hidT s.heap H) := by
    obtain ⟨mc, y1, y2⟩ := nl
    exact ⟨KB, still gG, ⟨mb, still gB, bb⟩, ⟨mc, still y1, y2⟩⟩
  have TB : ∀ p ∈ cs, TabB (hidT s.heap H) mg p.1 p.2 := fun p hp => by
    have ep := eT p hp
    refine ⟨?_, ?_, fun z => ?_⟩
    · obtain ⟨o, us, file, tf, flags, tg, inF, text, tt, e, y1, y2, y3, rest⟩ := cT p hp
      exact ⟨o, us, file, tf, flags, tg, inF, text, tt, hidT_get e (loose e (fun l n y => by rw [y2] at y; cases y) (fun y => by rw [y2] at y; cases y; simp at y3)), y1, y2, y3, rest⟩
    · obtain ⟨bm, ob, y1, y2, y3, y4, y5, y6⟩ := gM
      have ng : bm ≠ mainGlobals := fun q => by
        obtain ⟨o, es, en, e, d, _⟩ := gG
        rw [← q, y3] at e
        cases e
        rw [y6] at d
        cases d
      have np : bm ≠ p.2 := fun q => by
        rw [← q, y3] at ep
        cases ep
        cases y6
      exact ⟨bm, ob, y1, y2, ng, np, hidT_get y3 (loose y3 (fun l n y => by rw [y6] at y; cases y) (fun y => by rw [y6] at y; cases y)), y4, y5, y6⟩
    · obtain ⟨o, es, en, e, d, _⟩ := gG
      rw [z, ep] at e
      cases e
      cases d
  have okH : HOk P w H s.heap := fun b u q => by
    rcases h00_of q with ⟨y, e⟩ | ⟨_, y, _, e⟩
    · subst e
      exact tabAt b y
    · subst e y
      exact ⟨sc, by rw [List.length_map]; exact short, vs, _, valsOk, sc⟩
  have scL : SqL K H a (ns.map V.int) := by
    cases q : K.lookup a with
    | none => exact .inl (.inr ⟨_, h00_script aOut q⟩)
    | some o =>
      have e := KX a o q
      rw [sc] at e
      cases e
      exact .inr ⟨_, vs.toArray, _, q, rfl, rfl, rfl, by rw [List.size_toArray, lenEq]; exact short, by simpa using valsOk⟩
  have E0' : Env0 P w K mg (hidT s.heap H) callerA [] s H := ⟨rfl, MB, fun b o e => of_hidT e, Nat.le_of_eq (hidT_size _ _), trivial, fun b hb => absurd (show b ∈ ([] : List Addr) from hb) (by simp), okH, .of_eq g0⟩
  refine codeAny_mono ((F _ KB (still gG) TB).run callerA [] s H ⟨[.ref a], []⟩ [.ref a] [.ref a] _ _ rfl hr E0' (bnd s (.ref a)) (.cons rfl .nil) (says H hH scL)) fun r s' h => ?_
  cases r with
  | error e => exact False.elim h
  | ok fl =>
    cases fl with
    | next => exact False.elim h
    | brk => exact False.elim h
    | cont => exact False.elim h
    | ret u =>
      obtain ⟨v, H', os, bare, un, ok', rv, ev⟩ := h
      have ev : v = .bl true := ev
      subst ev
      obtain rfl : u = Value.bool true := rv
      have stays : ∀ b o, b ∉ Ts → s.heap.get? b = some o → s'.heap.get? b = some o := fun b o nb e => by
        cases q : H b with
        | none => exact un.keep b o e q (fun z => absurd (show b ∈ ([] : List Addr) from z) (by simp)) (by simp)
        | some u =>
          rcases h00_of q with ⟨y, _⟩ | ⟨_, y, _, eu⟩
          · exact absurd y nb
          · subst eu
            obtain ⟨e1, _⟩ := okH b _ q
            obtain ⟨e2, _⟩ := ok' b _ (un.frzs b _ _ q)
            rw [e] at e1
            cases e1
            exact e2
      have grows : ∀ p ∈ cs, ∃ more : Array Value, s'.heap.get? p.2 = some { cls := .none, data := .fields more } := fun p hp => by
        obtain ⟨more, z⟩ := un.tbls p.2 #[] (hH p hp)
        exact ⟨_, ok' p.2 _ z⟩
      refine ⟨rfl, ⟨fun b o e => ?_, fun b o e => ?_⟩, os, bare⟩
      · by_cases hb : b ∈ Ts
        · obtain ⟨p, hp, rfl⟩ := List.mem_map.mp hb
          obtain ⟨more, hm⟩ := grows p hp
          have e' : s.heap.get? p.2 = some o := e
          rw [eT p hp] at e'
          cases e'
          exact .inr (.inl ⟨((cT p hp).tab (eT p hp)).isCodeTable, rfl, #[], more, rfl, by rw [Array.empty_append]; exact hm⟩)
        · exact .inl (stays b o hb e)
      · by_cases hb : b ∈ Ts
        · obtain ⟨p, hp, rfl⟩ := List.mem_map.mp hb
          obtain ⟨more, hm⟩ := grows p hp
          exact ⟨_, hm⟩
        · exact ⟨o, stays b o hb e⟩
/-- what the law's promise stands on, at the head's heap -/
def AtG (l : PySem.W.OpenLaw) (w : World) (K : PySem.W.Frag) (k n : Nat) (x : Str) (mg : Str → Option Value) (fa : Addr) (h : Heap) : Prop :=
  ∃ (fd : FuncData) (cs : List (Addr × Addr)) (sp : Sp), (∀ p ∈ cs, h.get? p.2 = some emptyT) ∧ (∀ p ∈ cs, K.lookup p.2 = none) ∧ (∀ p ∈ cs, PySem.W.CodeHd h p.1 p.2) ∧ (∀ (t : Shared) (u : Value), BindsTo t fd ⟨[u], []⟩ [(x, u)]) ∧
    (∀ (H : Hp) (a : Addr) (ns : List Int), ns.length ≤ n → (∀ p ∈ cs, H p.2 = some (.tbl #[])) → SqL K H a (ns.map V.int) → sp [.ref a] H (fun v _ => v = .bl true) fun _ _ _ => False) ∧
    ∀ base : Heap, K.In base → base.Ns mainGlobals mg → (∀ p ∈ cs, TabB base mg p.1 p.2) → FnG l.prog w K mg base k fa fd [x] sp
theorem walk_G {l : PySem.W.OpenLaw} {n k : Nat} {q : Program} {loose : List Str} {XP : (Str → Option Value) → Heap → Prop} {YP : World → Heap → Prop} {d : DefRec} {x : Str} (hn : l.most = some n) (hn2 : n ≤ sizeLine) (hdf : d.params.defaults = []) (hr : Room k callerA)
    (F : ∀ (w : World) (mg : Str → Option Value) (fa : Addr) (h : Heap), YP w h → h.Ns mainGlobals mg → mg d.name = some (.ref fa) → ∃ K : PySem.W.Frag, K.In h ∧ AtG l w K k n x mg fa h) :
    PySem.W.WalkO q loose XP YP l.row.toRowW d [] (fun f vs => PySem.call f vs) := by
  refine Att.attach_callB hn hdf fun w s₀ s mg mb fa o pm cd doc a vs ns G Y ho hd hcd gL hobj hints hlen _ g0 => ?_
  obtain ⟨K, KX, fd, cs, sp, h1, h2, h3, h4, h5, h6⟩ := F w mg fa _ Y G.T.g gL
  exact law_G KX G.T.g G.T.b G.T.builtins G.T.nolimit g0 h1 h2 h3 G.T.bmain hobj hints (Nat.le_trans hlen hn2) hr h6 h4 fun H => h5 H a ns hlen
end KZ
namespace KZ
open PySem PySem.Spec PyProof.Rows L2
/-! where the defs stand in the row -/
abbrev iInt : Nat := 10
abbrev iName : Nat := 11
abbrev iRow : Nat := 12
abbrev iAsc : Nat := 13
abbrev iTake : Nat := 48
abbrev iOf : Nat := 49
abbrev iNames : Nat := 50
abbrev iGroups : Nat := 51
abbrev iHome : Nat := 52
abbrev iLaw : Nat := 61
def topAt (i : Nat) : Stmt := PySem.Challenge.pw_spoilorder_k05_letters_in_their_order.main.body.getD i (.Pass ⟨0, 0, 0, 0⟩)
theorem scTake : FnScope ["_law_jar_here", "_law_many", "_law_digit", "_law_prime", "_law_made"] ["_law_jar_here", "_law_many"] (defScope (topAt iTake)) := ⟨rfl, rfl, rfl, by decide +kernel, rfl, by decide +kernel, by decide +kernel⟩
section
variable {P : Program} {w : World} {K : PySem.W.Frag} {mg : Str → Option Value} {base : Heap}
abbrev Fd (K : PySem.W.Frag) (i : Nat) (x : Str) (f : Addr) (fd : FuncData) : Prop := FunD K x x (defArgs (topAt i)) (defBody (topAt i)) (defScope (topAt i)) [] [] f fd
theorem ok_take {f : Addr} {fd : FuncData} (F : Fd K iTake "_law_take" f fd) (gi : mg "int" = none) : FnOk P w K mg base CX0 1 f fd ["_law_jar_here", "_law_many"] spTake := by
  refine F.ok scTake (fun vs H Q E h => ?_) (fun cdv A outer s H vs Q E hr h => ?_)
  · obtain ⟨J, many, c, rfl, _⟩ := h
    rfl
  · obtain ⟨J, many, c, rfl, ⟨m, z, k, hJ, m0, m1, z0, z1, k0, k1⟩, hc, hm0, hm1, q⟩ := h
    refine ⟨_, pss_cons (ps_if (pt_cmpR op_gt (pe_ix ix_list (pv 0) pe_int (fun _ _ => rfl)) pe_int (nomark _))
        (pss_cons (ps_set (i := 2) scTake.nd rfl (Or.inl rfl) (pe_op op_mod (pe_callTy call_int1 (by rfl) gi (by decide +kernel) (pa_cons (pe_ix ix_list (pv 0) pe_int (fun _ _ => rfl)) pa_nil)) (pv 1)))
          (pss_cons (ps_asg (pe_op op_fdivW (pe_ix ix_list (pv 0) pe_int (fun _ _ => rfl)) (pv 1)) (pg_sub (pv 0) pe_int set_list)) (pss_one (ps_ret (pv 2)))))
        pss_nil)
      (pss_cons (ps_asg (pe_op op_add (pe_ix ix_list (pv 0) pe_int (fun _ _ => rfl)) pe_int) (pg_sub (pv 0) pe_int set_list))
      (pss_cons (ps_set (i := 3) scTake.nd rfl (Or.inl rfl) (pe_ix ix_list (pe_lst (pa_cons pe_int (pa_cons pe_int (pa_cons pe_int (pa_cons pe_int (pa_cons pe_int pa_nil)))))) (pe_op op_mod (pe_callTy call_int1 (by rfl) gi (by decide +kernel) (pa_cons (pe_ix ix_list (pv 0) pe_int (fun _ _ => rfl)) pa_nil)) pe_int) (fun _ _ => rfl)))
      (pss_cons (ps_set (i := 4) scTake.nd rfl (Or.inl rfl) (pe_op op_mod (pe_callTy call_int1 (by rfl) gi (by decide +kernel) (pa_cons (pe_op op_pow (pe_op op_add (pe_op op_add (pe_ix ix_list (pv 0) pe_int (fun _ _ => rfl)) (pe_op op_mul (pe_op op_mul pe_int (pe_ix ix_list (pv 0) pe_int (fun _ _ => rfl))) (pe_ix ix_list (pv 0) pe_int (fun _ _ => rfl)))) pe_int) pe_int) pa_nil)) (pv 3)))
      (pss_cons (ps_set (i := 4) scTake.nd rfl (Or.inl rfl) (pe_op op_mod (pe_callTy call_int1 (by rfl) gi (by decide +kernel) (pa_cons (pe_op op_mul (pv 4) (pe_op op_add (pe_op op_mod (pe_callTy call_int1 (by rfl) gi (by decide +kernel) (pa_cons (pv 4) pa_nil)) pe_int) (pe_op op_mul pe_int (pe_ix ix_list (pv 0) pe_int (fun _ _ => rfl))))) pa_nil)) pe_int))
      (pss_one (ps_ret (pe_op op_mod (pe_callTy call_int1 (by rfl) gi (by decide +kernel) (pa_cons (pe_op op_fdiv (pv 4) pe_int) pa_nil)) (pv 1)))))))), ?_⟩
    refine ⟨_, rfl, J, _, 0, _, rfl, rfl, SqL.of hJ, rfl, _, _, rfl, rfl, _, rfl, ?_⟩
    refine ite2 (fun hgt => ?_) (fun hgt => ?_)
    · -- a digit of what is left
      have hmp : (0 : Int) < many := hm0
      refine ⟨_, rfl, J, _, 0, _, rfl, rfl, SqL.of hJ, rfl, .inl ⟨_, rfl, _, rfl, _, _, rfl, rfl, hmp, ?_⟩⟩
      have hdv : CDivW m many := by
        refine wide_div hmp (b := 20) ?_ (by decide) (by decide)
        have e20 : (2 : Nat) ^ 20 = 1048576 := by decide
        omega
      refine ⟨_, rfl, J, _, 0, _, rfl, rfl, SqL.of hJ, rfl, _, rfl, _, _, rfl, rfl, hdv, ?_⟩
      refine ⟨_, rfl, J, _, 0, 0, rfl, rfl, hJ, rfl, ?_⟩
      refine ⟨_, rfl, ?_⟩
      refine q _ _ (Int.emod_nonneg _ (by omega)) (Int.emod_lt_of_pos _ hmp) (Kp.refl J H).jar ⟨m / many, z, k, upd_same, Int.ediv_nonneg m0 (by omega), ?_, z0, z1, k0, by omega⟩
      exact Int.lt_of_le_of_lt (Int.ediv_le_self _ m0) m1
    · have hjl : ∀ (p : Addr) (o : HO), upd H J (.lst [.int m, .int z, .int (k + 1)]) p = none → upd (upd H J (.lst [.int m, .int z, .int (k + 1)])) p o J = some (.lst [.int m, .int z, .int (k + 1)]) := fun p o hp => by
        rw [upd_ne (ne_of_none upd_same hp), upd_same]
      refine ⟨_, rfl, J, _, 2, _, rfl, rfl, SqL.of hJ, rfl, _, _, rfl, rfl, ?_⟩
      refine ⟨_, rfl, J, _, 2, 2, rfl, rfl, hJ, rfl, ?_⟩
      refine ⟨by decide, fun p hp => ?_⟩
      have hJ2 := hjl p (.lst ([2147483647, 2147483629, 2147483587, 2147483579, 2147483563].map V.int)) hp
      obtain ⟨pr, hpr, pr0⟩ := prime_at (k := k + 1) (by omega)
      have hp5 : (0 : Int) < 5 := by decide
      refine ⟨_, rfl, J, _, 2, _, rfl, rfl, SqL.of hJ2, rfl, .inl ⟨_, rfl, _, _, rfl, rfl, hp5, p, _, _, _, rfl, rfl, SqL.of upd_same, hpr, ?_⟩⟩
      have ck : (0 : Int) ≤ k + 1 ∧ k + 1 < 200000 := ⟨by omega, by omega⟩
      have c1 : CMul 99881 (k + 1) := .inl ⟨by decide, by decide⟩
      have c2 : CMul (99881 * (k + 1)) (k + 1) := .inr ⟨by omega, by omega⟩
      have sq : 0 ≤ 99881 * (k + 1) * (k + 1) ∧ 99881 * (k + 1) * (k + 1) ≤ 99881 * 200000 * 200000 := by
        have h1 : 0 ≤ (k + 1) * (k + 1) := Int.mul_nonneg ck.1 ck.1
        have h2 : (k + 1) * (k + 1) ≤ 200000 * 200000 := Int.mul_le_mul (by omega) (by omega) ck.1 (by decide)
        rw [Int.mul_assoc]
        constructor <;> omega
      have c3 : CPow (z + 99881 * (k + 1) * (k + 1) + 73) 3 := by
        refine ⟨by decide, by decide, ?_⟩
        have e61 : (2 : Int) ^ 61 = 2305843009213693952 := by decide
        have e64 : (2 : Nat) ^ 64 = 18446744073709551616 := by decide
        omega
      refine ⟨_, rfl, J, _, 1, _, rfl, rfl, SqL.of hJ2, rfl, _, rfl, J, _, 2, _, rfl, rfl, SqL.of hJ2, rfl, _, _, rfl, rfl, c1, _, rfl, J, _, 2, _, rfl, rfl, SqL.of hJ2, rfl, _, _, rfl, rfl, c2, _, _, rfl, rfl, _, _, rfl, rfl, _, _, rfl, rfl, c3, .inl ⟨_, rfl, ?_⟩⟩
      refine ⟨_, rfl, _, _, rfl, rfl, pr0, ?_⟩
      have h9 : (0 : Int) < 10009 := by decide
      have c4 : CMul 97 (k + 1) := .inl ⟨by decide, by decide⟩
      have hbig : (0 : Int) < 2305843009213693907 := by decide
      have c6 : CDiv ((z + 99881 * (k + 1) * (k + 1) + 73) ^ (3 : Int).toNat % pr * ((z + 99881 * (k + 1) * (k + 1) + 73) ^ (3 : Int).toNat % pr % 10009 + 97 * (k + 1)) % 2305843009213693907) 89 := ⟨by decide, by decide⟩
      have c5 : ∀ md : Int, CMul md (md % 10009 + 97 * (k + 1)) := fun md => by
        have b0 := Int.emod_nonneg md (show (10009 : Int) ≠ 0 by decide)
        have b1 := Int.emod_lt_of_pos md h9
        have e64 : (2 : Int) ^ 64 = 18446744073709551616 := by decide
        exact .inr ⟨by omega, by omega⟩
      refine ⟨_, rfl, _, rfl, .inl ⟨_, rfl, _, _, rfl, rfl, h9, _, rfl, J, _, 2, _, rfl, rfl, SqL.of hJ2, rfl, _, _, rfl, rfl, c4, _, _, rfl, rfl, _, _, rfl, rfl, c5 _, .inl ⟨_, rfl, _, _, rfl, rfl, hbig, ?_⟩⟩⟩
      refine ⟨_, rfl, _, _, rfl, rfl, c6, .inl ⟨_, rfl, _, rfl, _, _, rfl, rfl, hm0, ?_⟩⟩
      refine q _ _ (Int.emod_nonneg _ (by omega)) (Int.emod_lt_of_pos _ hm0) (((Kp.refl J H).jar).new hp) ⟨m, z, k + 1, hJ2, m0, m1, z0, z1, by omega, by omega⟩
/-! ## an item drawn of a list, a tuple, a text -/
theorem scOf : FnScope ["_law_jar_here", "_law_some"] ["_law_jar_here", "_law_some"] (defScope (topAt iOf)) := ⟨rfl, rfl, rfl, by decide +kernel, rfl, by decide +kernel, by decide +kernel⟩
def spOf (K : PySem.W.Frag) : Sp := fun vs H Q _ => ∃ (J : Addr) (x : V) (c : Nat), vs = [.ref J, x] ∧ Jar J H c ∧ c < 100000 ∧
  ((∃ (l : Addr) (xs : List V), x = .ref l ∧ l ≠ J ∧ H l = some (.lst xs) ∧ xs ≠ [] ∧ xs.length < 100000 ∧ ∀ (i : Nat) (v : V) (H' : Hp), xs[i]? = some v → Kp J H H' → Jar J H' (c + 1) → Q v H') ∨
   (∃ (l : Addr) (xs : List V), x = .ref l ∧ l ≠ J ∧ H l = some (.tup xs) ∧ xs ≠ [] ∧ xs.length < 100000 ∧ ∀ (i : Nat) (v : V) (H' : Hp), xs[i]? = some v → Kp J H H' → Jar J H' (c + 1) → Q v H') ∨
   (∃ z : Str, x = .str z ∧ z.cps.toList ≠ [] ∧ z.length < 100000 ∧ ∀ (i : Nat) (k : Nat) (H' : Hp), z.cps.toList[i]? = some k → Kp J H H' → Jar J H' (c + 1) → Q (.str ⟨#[k]⟩) H'))
theorem ok_of {f fT : Addr} {fd fdT : FuncData} (F : Fd K iOf "_law_of" f fd) (FT : Fd K iTake "_law_take" fT fdT) (gT : mg "_law_take" = some (.ref fT)) (gi : mg "int" = none) (gl : mg "len" = none) : FnOk P w K mg base CX0 2 f fd ["_law_jar_here", "_law_some"] (spOf K) := by
  have GT : FnOk P w K mg base CX0 1 fT fdT ["_law_jar_here", "_law_many"] spTake := ok_take FT gi
  have bT : Binds K fdT ["_law_jar_here", "_law_many"] [] := FT.bindsN fun _ _ _ _ _ _ us hl => match us, hl with | [_, _], _ => rfl
  refine F.ok scOf (fun vs H Q E h => ?_) (fun cdv A outer s H vs Q E hr h => ?_)
  · obtain ⟨J, x, c, rfl, _⟩ := h
    rfl
  · obtain ⟨J, x, c, rfl, hJ, hc, h⟩ := h
    refine ⟨_, pss_one (ps_ret (pe_ix ix_seq (pv 1) (pe_call GT hr rfl gT FT.kp bT .nil pass0 (pa_cons (pv 0) (pa_cons (pe_callB call_len (by rfl) gl PySem.boot_len (pa_cons (pv 1) pa_nil)) pa_nil))) (fun _ _ => rfl))), ?_⟩
    rcases h with ⟨l, xs, rfl, nl, hl, ne, hlen, q⟩ | ⟨l, xs, rfl, nl, hl, ne, hlen, q⟩ | ⟨z, rfl, ne, hlen, q⟩
    · have hpos : 0 < xs.length := List.length_pos_iff.mpr ne
      refine ⟨_, rfl, _, rfl, _, rfl, _, xs.length, rfl, .inl ⟨xs, SqL.of hl, rfl⟩, J, (xs.length : Int), c, rfl, hJ, hc, by omega, by omega, fun r H' r0 r1 kp j' => ?_⟩
      obtain ⟨i, rfl⟩ := Int.eq_ofNat_of_zero_le r0
      have hi : i < xs.length := by omega
      have hx : xs[i]? = some xs[i] := by simp [hi]
      exact .inl ⟨l, xs, _, _, rfl, rfl, SqL.of (kp l _ hl nl), atI_nat hx, q i _ H' hx kp j'⟩
    · have hpos : 0 < xs.length := List.length_pos_iff.mpr ne
      refine ⟨_, rfl, _, rfl, _, rfl, _, xs.length, rfl, .inr ⟨xs, SqT.of hl, rfl⟩, J, (xs.length : Int), c, rfl, hJ, hc, by omega, by omega, fun r H' r0 r1 kp j' => ?_⟩
      obtain ⟨i, rfl⟩ := Int.eq_ofNat_of_zero_le r0
      have hi : i < xs.length := by omega
      have hx : xs[i]? = some xs[i] := by simp [hi]
      exact .inr (.inl ⟨l, xs, _, _, rfl, rfl, SqT.of (kp l _ hl nl), atI_nat hx, q i _ H' hx kp j'⟩)
    · have hpos : 0 < z.cps.toList.length := List.length_pos_iff.mpr ne
      have zl : z.length = z.cps.toList.length := by simp [Str.length]
      have small : z.length ≤ sizeLine := by rw [sizeLine_eq]; omega
      refine ⟨_, rfl, _, rfl, _, rfl, _, z.length, rfl, ⟨small, rfl⟩, J, (z.length : Int), c, rfl, hJ, hc, by omega, by omega, fun r H' r0 r1 kp j' => ?_⟩
      obtain ⟨i, rfl⟩ := Int.eq_ofNat_of_zero_le r0
      have hi : i < z.cps.toList.length := by omega
      have hx : z.cps.toList[i]? = some z.cps.toList[i] := by simp [hi]
      exact .inr (.inr ⟨z, _, _, rfl, rfl, small, atI_nat hx, q i _ H' hx kp j'⟩)
end
end KZ
namespace KZ
open PySem PySem.Spec PyProof.Rows L2
def small : Str := "abcdefghijklmnopqrstuvwxyz"
theorem small_list : small.cps.toList = (List.range 26).map (97 + ·) := by decide +kernel
theorem small_len : small.length = 26 := by decide +kernel
theorem small_get {i c : Nat} (h : small.cps.toList[i]? = some c) : c = 97 + i ∧ i < 26 := by
  rw [small_list] at h
  rw [List.getElem?_map] at h
  cases e : (List.range 26)[i]? with
  | none => rw [e] at h; cases h
  | some n =>
    rw [e] at h
    obtain ⟨hn, e2⟩ := List.getElem?_eq_some_iff.mp e
    rw [List.getElem_range] at e2
    rw [List.length_range] at hn
    cases h
    exact ⟨by rw [e2], hn⟩
theorem small_at {i : Nat} (h : i < 26) : small.cps.toList[i]? = some (97 + i) := by
  rw [small_list, List.getElem?_map, List.getElem?_range h]
  rfl
/-- a text by its signs -/
abbrev ofL (l : List Nat) : Str := ⟨l.toArray⟩
theorem ofL_len (l : List Nat) : (ofL l).length = l.length := by simp [ofL, Str.length]
theorem ofL_inj {a b : List Nat} (h : ofL a = ofL b) : a = b := by
  have := congrArg (fun z : Str => z.cps.toList) h
  exact this
theorem ofL_app (a b : List Nat) : ofL a ++ ofL b = ofL (a ++ b) := by
  show (⟨a.toArray ++ b.toArray⟩ : Str) = _
  unfold ofL
  rw [List.append_toArray]
/-- letters from a to z -/
def Az (l : List Nat) : Prop := ∀ c ∈ l, 97 ≤ c ∧ c < 123
/-- a name: one to eight letters -/
def Nm (z : Str) : Prop := ∃ l : List Nat, z = ofL l ∧ Az l ∧ 0 < l.length ∧ l.length ≤ 8 ∧ l.length ≠ 3
theorem join_ofL : ∀ ls : List Nat, Txt.join "" (ls.map fun c => ofL [c]) = ofL ls := by
  intro ls
  rw [TL.join_eq]
  induction ls with
  | nil => rfl
  | cons a r ih =>
    cases r with
    | nil => rfl
    | cons b r =>
      show ofL [a] ++ ("" : Str) ++ Str.join "" ((b :: r).map fun c => ofL [c]) = _
      rw [ih]
      have e : ofL [a] ++ ("" : Str) = ofL [a] := by
        show ofL [a] ++ ofL [] = _
        rw [ofL_app]
        rfl
      rw [e, ofL_app]
      rfl
theorem cut_to (l : List Nat) (n : Nat) (h : n ≤ l.length) : cutS (ofL l) none (some (n : Int)) = ofL (l.take n) := by
  rw [C8.cutS_slice]
  have := SX.slice_to (a := l) (i := (n : Int)) (by omega)
  exact this
theorem cut_from (l : List Nat) (n : Nat) (h : n ≤ l.length) : cutS (ofL l) (some (n : Int)) none = ofL (l.drop n) := by
  rw [C8.cutS_slice]
  have := SX.slice_from (a := l) (i := (n : Int)) (by omega)
  exact this
/-- the k-th name -/
def nameK (st : List Nat) (sp at0 k : Nat) : Str := ofL (st.take sp ++ [97 + (at0 + 3 * k) % 26] ++ st.drop sp)
theorem nameK_inj {st : List Nat} {sp at0 i j : Nat} (hi : i < 26) (hj : j < 26) (h : nameK st sp at0 i = nameK st sp at0 j) : i = j := by
  have h1 := ofL_inj h
  rw [List.append_assoc, List.append_assoc] at h1
  have h2 := List.append_cancel_left h1
  have h3 : 97 + (at0 + 3 * i) % 26 = 97 + (at0 + 3 * j) % 26 := by
    injection h2
  omega
theorem nameK_nm {st : List Nat} {sp at0 k : Nat} (hs : Az st) (hl : st.length ≤ 7) (h2 : st.length ≠ 2) : Nm (nameK st sp at0 k) := by
  refine ⟨_, rfl, fun c hc => ?_, ?_, ?_, ?_⟩
  rotate_right
  · simp only [List.length_append, List.length_singleton, List.length_take, List.length_drop]
    omega
  · simp only [List.mem_append, List.mem_singleton] at hc
    rcases hc with (h | h) | h
    · exact hs c (List.mem_of_mem_take h)
    · omega
    · exact hs c (List.mem_of_mem_drop h)
  · simp only [List.length_append, List.length_singleton]
    omega
  · simp only [List.length_append, List.length_singleton, List.length_take, List.length_drop]
    omega
end KZ
namespace KW
open PySem PySem.Spec PyProof.Rows L2 KZ LamX
/-! the head: what the top leaves, by names -/
abbrev ORow : PySem.W.OpenRow := PySem.W.OpenLaw.row PySem.Challenge.rw_spoilorder_k05_letters_in_their_order
def oexB (K : PySem.W.Frag) (C : Addr) : Bool := match K.lookup C with
  | some ⟨.type ty, _, .cls cd, sl⟩ => (match cd.mro, sl.toList with
    | .ref B :: bm, [_, _, _, _, some (.builtin n), _] => ty == "type" && (B == C && (n == "ValueError.__new__" && (!cd.hasDel && (cd.hasDict && PySem.HandSPX.refsVE bm))))
    | _, _ => false)
  | _ => false
def bi (n : String) : Option (Option Value) := some (some (.builtin n))
/-- all that isinstance, making and reading ask of the class x with the field f -/
def errB (K : PySem.W.Frag) (x f : Str) : Bool :=
  let C := He.ga K x
  oexB K C && (He.eqO (PySem.W.findIn K (.ref C) "__setattr__") (bi "object.__setattr__") && (decide (PySem.W.subIn K (.ref C) (.type "BaseException") = some true) &&
  (decide (PySem.W.typeIn K (.ref C) = some (.type "type")) && (PySem.W.keepIn K (.ref C) && (He.eqO (PySem.W.findIn K (.ref C) f) (some none) &&
  (He.eqO (PySem.W.findIn K (.ref C) "__init__") (some (some (.ref (He.ma K C "__init__")))) && (decide (PySem.W.typeIn K (.ref (He.ma K C "__init__")) = some (.type "function")) &&
  (He.eqO (PySem.W.findIn K (.ref C) "__getattribute__") (bi "BaseException.__getattribute__") && (He.eqO (PySem.W.findIn K (.ref C) "__getattr__") (some none) &&
  (He.eqO (PySem.W.findIn K (.ref C) "__class__") (bi "object.__class__") && (decide (PySem.W.mroIn K C (.type "object") = some true) &&
  (decide (PySem.W.kitOne K (.ref C) (.type "ValueError") = some true) && (decide (PySem.W.exmOne K (.ref C) (.ref (He.ga K "SpoilError")) = some true) && PySem.W.hasDictIn K C)))))))))))))
def errName : Nat → Str
  | _ => "BadFilling"
def three : List Nat := [0]
/-- which error is an instance of which -/
def erPairsB (K : PySem.W.Frag) : Bool := three.all fun k => three.all fun j => decide (PySem.W.kitOne K (.ref (He.ga K (errName k))) (.ref (He.ga K (errName j))) = some (decide (j = k)))
def sysB (K : PySem.W.Frag) : Bool := match K.lookup sysModules with
  | some ⟨.type c, _, _, _⟩ => decide (c = "dict")
  | _ => false
/-! a property: its getter -/
def prG (K : PySem.W.Frag) (C : Addr) (m : Str) : Addr := match PySem.W.recIn K (He.ma K C m) "property" with
  | some (.ref g :: _) => g
  | _ => 0
def prW (K : PySem.W.Frag) (x m : Str) : He.FnW := match K.lookup (prG K (He.ga K x) m) with
  | some ⟨_, _, .func fd, _⟩ => some (fd.name, fd.qualname, fd.params, fd.body, fd.scope, fd.globals, fd.closure, fd.builtins)
  | _ => none
def prB (K : PySem.W.Frag) (x m q : Str) : Bool :=
  let C := He.ga K x
  He.eqO (PySem.W.findIn K (.ref C) m) (some (some (.ref (He.ma K C m)))) && (He.eqO (PySem.W.specialIn K (.ref (He.ma K C m)) "__get__") (bi "property.__get__") && (decide (PySem.W.takesIn K (.ref (He.ma K C m)) = some true) &&
  ((match PySem.W.recIn K (He.ma K C m) "property" with
    | some (.ref _ :: _) => true
    | _ => false) && (PySem.W.keepIn K (.ref (prG K C m)) && (match K.lookup (prG K C m) with
    | some ⟨_, _, .func fd, _⟩ => PySem.W.codeIn K fd.code q && (He.dflB K fd.defaults [] && He.kwdB K fd.kwdefaults [])
    | _ => false)))))
structure PrD where
  x : Str
  m : Str
  i : Nat
  j : Nat
def PrD.val (d : PrD) : He.FnW := some (d.m, d.x ++ "." ++ d.m, defArgs (inClass (topAt d.i) d.j), .stmts (defBody (inClass (topAt d.i) d.j)), defScope (inClass (topAt d.i) d.j), mainGlobals, [], builtinsNs)
def prs : List PrD := []
def moreZ (K : PySem.W.Frag) : Bool := (three.all fun k => errB K (errName k) "value") && (erPairsB K && (He.eqO (PySem.W.specialIn K (.builtin "object.__class__") "__get__") (bi "getset_descriptor.__get__") && (decide (PySem.W.takesIn K (.builtin "object.__class__") = some true) && (sysB K && (He.tupB K "TOLD_OUTCOMES" [.str "cut", .str "fail", .str "pass", .str "skip"] && (He.tupB K "UNTOLD_OUTCOMES" [.str "fail", .str "pass", .str "skip"] && ((prs.all fun d => prB K d.x d.m (d.x ++ "." ++ d.m)))))))))
def defD (i : Nat) (x : Str) : He.DefD := ⟨(x, none), x, x, defArgs (topAt i), defBody (topAt i), defScope (topAt i), [], []⟩
def metD (i j : Nat) (C x : Str) : He.DefD := ⟨(C, some x), x, C ++ "." ++ x, defArgs (inClass (topAt i) j), defBody (inClass (topAt i) j), defScope (inClass (topAt i) j), [], []⟩
def iniD (i : Nat) (C q : Str) : He.DefD := ⟨(C, some "__init__"), "__init__", q, defArgs (inClass (topAt i) 0), defBody (inClass (topAt i) 0), defScope (inClass (topAt i) 0), [], []⟩
def fn : List He.DefD := [defD 10 "is_integer", defD 11 "is_name", defD 12 "is_row", defD 13 "ascends", defD 21 "is_log", defD 22 "letters", defD 23 "check_log", defD 24 "check_filling", defD 25 "has_room", defD 26 "is_event", defD 27 "workers_of", defD 28 "items_of", defD 29 "untold_of", defD 30 "fillings_of", defD 31 "told_of", defD 32 "letters_of", defD 33 "run_letters", defD 34 "_is_untold", defD 35 "_tellings", defD 36 "_opened_behind", defD 43 "_are_groups", defD 44 "_is_group_row", defD 45 "_are_checks", defD 47 "_law_jar", defD 48 "_law_take", defD 49 "_law_of", defD 50 "_law_names", defD 51 "_law_groups", defD 52 "_law_home", defD 53 "_law_items", defD 54 "_law_any_log", defD 55 "_law_brought", defD 56 "_law_fills", defD 57 "_law_odd", defD 58 "_law_is_refused", defD 59 "_law_others", defD 60 "_law_right", defD 61 "law", metD 42 4 "Shop" "group_of", metD 42 5 "Shop" "is_item", iniD 42 "Shop" "Shop.__init__", iniD 6 "BadFilling" ("BadFilling" ++ ".__init__")]
def fa0 : List He.Fa := [.glo "is_integer", .glo "is_name", .glo "is_row", .glo "ascends", .glo "is_log", .glo "letters", .glo "check_log", .glo "check_filling", .glo "has_room", .glo "is_event", .glo "workers_of", .glo "items_of", .glo "untold_of", .glo "fillings_of", .glo "told_of", .glo "letters_of", .glo "run_letters", .glo "_is_untold", .glo "_tellings", .glo "_opened_behind", .glo "_are_groups", .glo "_is_group_row", .glo "_are_checks", .glo "_law_jar", .glo "_law_take", .glo "_law_of", .glo "_law_names", .glo "_law_groups", .glo "_law_home", .glo "_law_items", .glo "_law_any_log", .glo "_law_brought", .glo "_law_fills", .glo "_law_odd", .glo "_law_is_refused", .glo "_law_others", .glo "_law_right", .glo "law", .glo "SpoilError", .glo "BadFilling"]
def fa1 : List He.Fa := [.glo "Shop", .glo "TOLD_OUTCOMES", .glo "UNTOLD_OUTCOMES", .free "ValueError", .free "abs", .free "all", .free "bool", .free "dict", .free "enumerate", .free "int", .free "isinstance", .free "len", .free "list", .free "max", .free "min", .free "range", .free "repr", .free "set", .free "sorted", .free "str", .free "tuple", .free "zip", .int "MOST_EVENTS" 30, .int "MOST_WORKERS" 3, .int "MOST_ITEMS" 5, .int "MOST_UNTOLD" 3, .int "MOST_CHECKS_OF_GROUP" 4, .int "MOST_GROUPS" 3, .int "MOST_CHECKS" 5, .int "LAST_EDITION" 9, .int "LONGEST_NAME" 8, .str "ALPHABET" small, .cls "Shop", .mkr "Shop", .noat "Shop" "_groups", .noat "Shop" "_homes", .noat "Shop" "_checks", .meth "Shop" "group_of", .meth "Shop" "is_item"]
def fa : List He.Fa := fa0 ++ fa1
def ts : List He.Tab := []
def tabsZ : List He.Defn := []
def frZ (g : Addr → Option Obj) : PySem.W.Frag := He.frT g (sysModules :: He.asD g 5)
abbrev AlZ : Type := He.AlX × List He.FnW
def obsZ (g : Addr → Option Obj) : AlZ := ((He.obsT fa fn ts (frZ g), moreZ (frZ g) && He.tabsB g tabsZ (frZ g)), prs.map fun d => prW (frZ g) d.x d.m)
def valZ (w : World) : AlZ := (He.valX fn ts w, prs.map PrD.val)
abbrev SaysZ (w : World) (h : Heap) (K : PySem.W.Frag) : Prop := He.SaysX fa fn ts tabsZ moreZ w h K ∧ prs.map (fun d => prW K d.x d.m) = prs.map PrD.val
theorem saysZ_of {w : World} {h : Heap} (e : obsZ h.get? = valZ w) : SaysZ w h (frZ h.get?) := by
  have e0 : (He.obsT fa fn ts (frZ h.get?), moreZ (frZ h.get?) && He.tabsB h.get? tabsZ (frZ h.get?)) = He.valX fn ts w := congrArg (fun z : AlZ => z.1) e
  have e9 : prs.map (fun d => prW (frZ h.get?) d.x d.m) = prs.map PrD.val := congrArg (fun z : AlZ => z.2) e
  have one : He.obsT fa fn ts (frZ h.get?) = He.valT fn ts w := congrArg (fun z : He.AlX => z.1) e0
  have two : (moreZ (frZ h.get?) && He.tabsB h.get? tabsZ (frZ h.get?)) = true := congrArg (fun z : He.AlX => z.2) e0
  obtain ⟨mo, tb⟩ := He.ba two
  have each : ∀ p ∈ tabsZ, PySem.W.codeHdIn (frZ h.get?) (He.cT (frZ h.get?) p).1 (He.cT (frZ h.get?) p).2 = true ∧ ∃ o, h.get? (He.cT (frZ h.get?) p).2 = some o ∧ He.emptyTab o = true := fun p hp => by
    obtain ⟨y1, y2⟩ := He.ba (List.all_eq_true.mp tb p hp)
    cases q : h.get? (He.cT (frZ h.get?) p).2 with
    | none =>
      rw [q] at y2
      cases y2
    | some o =>
      rw [q] at y2
      exact ⟨y1, o, rfl, y2⟩
  refine ⟨⟨one, mo, fun p hp => (each p hp).1, fun p hp => ?_, fun p hp => ?_⟩, e9⟩
  · obtain ⟨_, o, q, z⟩ := each p hp
    exact He.frT_none q z
  · obtain ⟨_, o, q, z⟩ := each p hp
    rw [q, He.emptyTab_eq z]
def hkZ : PySem.W.Hook where
  α := AlZ
  obs := fun s => obsZ s.heap.get?
  val := fun w => valZ w
  says := fun w h => ∃ K : PySem.W.Frag, K.In h ∧ SaysZ w h K
  of := fun _ _ e => ⟨_, He.frT_in, saysZ_of e⟩
  keeps := fun _ _ _ ⟨K, y, c, e⟩ st => ⟨K, PySem.W.Frag.In.keeps y st, ⟨c.t, c.more, c.hd, c.out, fun p hp => st _ _ (c.empty p hp)⟩, e⟩
def obZ (s : PySem.W.SharedT) : AlZ := obsZ (HandSHeadRun.getT s)
theorem obZ_eq (s : PySem.W.SharedT) : obZ s = hkZ.obs s.abs := by
  have e : HandSHeadRun.getT s = s.abs.heap.get? := funext fun a => HandSHeadRun.getT_eq s a
  show obsZ (HandSHeadRun.getT s) = obsZ s.abs.heap.get?
  rw [e]
def loose0 : List Str := ["_wall", "__name__", "SpoilError", "BadShop", "NoCheck", "BadLog", "BadFilling", "ALPHABET", "LONGEST_NAME", "is_integer", "is_name", "is_row", "ascends", "MOST_EVENTS", "MOST_WORKERS", "MOST_ITEMS", "MOST_UNTOLD", "TOLD_OUTCOMES", "UNTOLD_OUTCOMES", "is_log", "letters", "check_log", "check_filling", "has_room", "is_event", "workers_of", "items_of", "untold_of"]
def loose1 : List Str := ["fillings_of", "told_of", "letters_of", "run_letters", "_is_untold", "_tellings", "_opened_behind", "MOST_GROUPS", "MOST_CHECKS", "MOST_CHECKS_OF_GROUP", "LAST_EDITION", "Shop", "_are_groups", "_is_group_row", "_are_checks", "_law_jar", "_law_take", "_law_of", "_law_names", "_law_groups", "_law_home", "_law_items", "_law_any_log", "_law_brought", "_law_fills", "_law_odd", "_law_is_refused", "_law_others"]
def loose2 : List Str := ["_law_right"]
def loose : List Str := loose0 ++ (loose1 ++ (loose2))
end KW
namespace KW
open PySem PySem.Spec PyProof.Rows L2 KZ LamX
theorem runZ (w : World) : HandSHeadRun.RunEq ORow (PySem.W.view ORow.prog [61]) hkZ obZ 30000 loose w := by
  intro os
  kernel_rfl
end KW
namespace KZ
open PySem PySem.Spec PyProof.Rows L2
theorem Kp.put {J : Addr} {H H' : Hp} {a : Addr} {o : HO} (x : Kp J H H') (h : H a = none) : Kp J H (upd H' a o) := fun b u e n => by
  rw [upd_ne (ne_of_none e h)]
  exact x b u e n
theorem Kp.none {J : Addr} {H H' : Hp} {a : Addr} {c : Nat} (x : Kp J H H') (j : Jar J H' c) (h : H' a = none) : H a = none := by
  cases e : H a with
  | none => rfl
  | some o => exact absurd (x a o e (j.ne h)) (by rw [h]; exact fun z => nomatch z)
theorem Jar.put {J : Addr} {H : Hp} {c : Nat} {a : Addr} {o : HO} (h : a ≠ J) : Jar J H c → Jar J (upd H a o) c := fun ⟨m, s, k, e, r⟩ => ⟨m, s, k, by rw [upd_ne (Ne.symm h)]; exact e, r⟩
theorem scNames : FnScope ["_law_jar_here", "_law_many", "_law_small", "_law_turn", "_law_stem", "_law_spot", "_law_at", "_law_k"] ["_law_jar_here", "_law_many"] (defScope (topAt iNames)) := ⟨rfl, rfl, rfl, by decide +kernel, rfl, by decide +kernel, by decide +kernel⟩
/-- names, each once -/
def Names (ns : List Str) : Prop := ns.Nodup ∧ ∀ z ∈ ns, Nm z
def spNames (K : PySem.W.Frag) : Sp := fun vs H Q _ => ∃ (J : Addr) (m c : Nat), vs = [.ref J, .int (m : Int)] ∧ m ≤ 26 ∧ Jar J H c ∧ c < 90000 ∧
  ∀ (p : Addr) (ns : List Str) (H' : Hp), H p = none → H' p = some (.lst (ns.map V.str)) → ns.length = m → Names ns → Kp J H H' → Jar J H' (c + 10) → Q (.ref p) H'
section
variable {P : Program} {w : World} {K : PySem.W.Frag} {mg : Str → Option Value} {base : Heap}
theorem ok_names {f fO fT : Addr} {fd fdO fdT : FuncData} (F : Fd K iNames "_law_names" f fd) (FO : Fd K iOf "_law_of" fO fdO) (FT : Fd K iTake "_law_take" fT fdT) (gO : mg "_law_of" = some (.ref fO)) (gT : mg "_law_take" = some (.ref fT))
    (gi : mg "int" = none) (gl : mg "len" = none) (gr : mg "range" = none) : FnOk P w K mg base CX0 3 f fd ["_law_jar_here", "_law_many"] (spNames K) := by
  have GT : FnOk P w K mg base CX0 1 fT fdT ["_law_jar_here", "_law_many"] spTake := ok_take FT gi
  have bT : Binds K fdT ["_law_jar_here", "_law_many"] [] := FT.bindsN fun _ _ _ _ _ _ us hl => match us, hl with | [_, _], _ => rfl
  have GO : FnOk P w K mg base CX0 2 fO fdO ["_law_jar_here", "_law_some"] (spOf K) := ok_of FO FT gT gi gl
  have bO : Binds K fdO ["_law_jar_here", "_law_some"] [] := FO.bindsN fun _ _ _ _ _ _ us hl => match us, hl with | [_, _], _ => rfl
  refine F.ok scNames (fun vs H Q E h => ?_) (fun cdv A outer s H vs Q E hr h => ?_)
  · obtain ⟨J, m, c, rfl, _⟩ := h
    rfl
  · obtain ⟨J, m, c, rfl, hm, hJ, hc, q⟩ := h
    have hr1 := hr.mono (show 1 ≤ 2 by decide)
    refine ⟨_, pss_cons (ps_set (i := 2) scNames.nd rfl (Or.inr rfl) pe_str)
      (pss_cons (ps_set (i := 4) scNames.nd rfl (Or.inr rfl) (pe_join pe_str (pe_lc (own := [("_law_turn", 3)]) (g := gName 3) (tt := tYes) rfl scNames.nd
          (pi_range1 rfl gr (pa_cons (pe_call GO hr rfl gO FO.kp bO .nil pass0 (pa_cons (pv 0) (pa_cons (pe_lst (pa_cons pe_int (pa_cons pe_int (pa_cons pe_int (pa_cons pe_int (pa_cons pe_int pa_nil)))))) pa_nil))) pa_nil))
          (blkOk_by (N := ["_law_jar_here", "_law_many", "_law_small", "_law_turn", "_law_stem", "_law_spot", "_law_at", "_law_k"]) (sc := defScope (topAt iNames)) (by decide +kernel))
          (fun _ _ _ _ _ => pg_name (i := 3) scNames.nd rfl (Or.inl rfl)) (fun _ _ _ _ _ => pts_nil)
          (fun _ _ _ _ _ => pe_call GO hr rfl gO FO.kp bO .nil pass0 (pa_cons (pv 0) (pa_cons (pv 2) pa_nil))))))
      (pss_cons (ps_asg (pe_tup (pa_cons (pe_call GT hr1 rfl gT FT.kp bT .nil pass0 (pa_cons (pv 0) (pa_cons (pe_op op_add (pe_callB call_len (by rfl) gl PySem.boot_len (pa_cons (pv 4) pa_nil)) pe_int) pa_nil)))
            (pa_cons (pe_call GT hr1 rfl gT FT.kp bT .nil pass0 (pa_cons (pv 0) (pa_cons pe_int pa_nil))) pa_nil)))
          (pg_tup rfl (pgs_cons (pg_name (i := 5) scNames.nd rfl (Or.inr rfl)) (pgs_cons (pg_name (i := 6) scNames.nd rfl (Or.inr rfl)) pgs_nil))))
      (pss_one (ps_ret (pe_lc (own := [("_law_k", 7)]) (g := gName 7) (tt := tYes) rfl scNames.nd (pi_range1 rfl gr (pa_cons (pv 1) pa_nil))
          (blkOk_by (N := ["_law_jar_here", "_law_many", "_law_small", "_law_turn", "_law_stem", "_law_spot", "_law_at", "_law_k"]) (sc := defScope (topAt iNames)) (by decide +kernel))
          (fun _ _ _ _ _ => pg_name (i := 7) scNames.nd rfl (Or.inl rfl)) (fun _ _ _ _ _ => pts_nil)
          (fun _ _ _ _ _ => pe_op op_add_str (pe_op op_add_str (pe_slice sl_str (pv 4) po_none (po_some (pv 5)))
            (pe_ix (show IxR _ (rIx K) from ix_seq) (pv 2) (pe_op op_mod (pe_callTy call_int1 (by rfl) gi (by decide +kernel) (pa_cons (pe_op op_add (pv 6) (pe_op op_mul pe_int (pv 7))) pa_nil)) pe_int) (fun _ _ => rfl)))
            (pe_slice sl_str (pv 4) (po_some (pv 5)) po_none))))))), ?_⟩
    refine ⟨⟨_, rfl⟩, ?_⟩
    refine ⟨_, rfl, by decide, fun l nl => ?_⟩
    have jl := hJ.ne nl
    refine ⟨J, _, c, rfl, hJ.new nl, by omega, .inl ⟨l, [.int 0, .int 0, .int 1, .int 3, .int 7], rfl, jl, upd_same, by simp, by decide, fun i v H1 hv kp1 j1 => ?_⟩⟩
    have hv7 : ∃ n : Nat, v = .int (n : Int) ∧ n ≤ 7 ∧ n ≠ 2 := by
      have hm := List.mem_of_getElem? hv
      simp only [List.mem_cons, List.not_mem_nil, or_false] at hm
      rcases hm with h | h | h | h | h <;> subst h
      · exact ⟨0, rfl, by decide, by decide⟩
      · exact ⟨0, rfl, by decide, by decide⟩
      · exact ⟨1, rfl, by decide, by decide⟩
      · exact ⟨3, rfl, by decide, by decide⟩
      · exact ⟨7, rfl, by decide, by decide⟩
    obtain ⟨n, rfl, n7, n2⟩ := hv7
    have k1 : Kp J H H1 := ((Kp.refl J H).new nl).trans kp1
    refine ⟨(n : Int), rfl, by omega, by omega, fun D nD => lc_range (lo := 0) (n := (n : Int).toNat)
      (fun k H' => ∃ ls : List Nat, ls.length = k ∧ Az ls ∧ H' D = some (.lst (ls.map fun c => V.str (ofL [c]))) ∧ Kp J H H' ∧ Jar J H' (c + 1 + k)) ⟨[], rfl, fun _ h => (List.not_mem_nil h).elim, upd_same, k1.new nD, j1.new nD⟩ ?_ ?_⟩
    · rintro k H2 hk ⟨ls, hl, az, hD, kp2, j2⟩
      have DJ : D ≠ J := j1.ne nD
      have nDH : H D = none := k1.none j1 nD
      refine ⟨rfl, ?_⟩
      refine ⟨_, rfl, _, rfl, J, _, c + 1 + k, rfl, j2, by omega, .inr (.inr ⟨small, rfl, by rw [small_list]; simp, by rw [small_len]; decide, fun i cp H3 hcp kp3 j3 => ?_⟩)⟩
      obtain ⟨ecp, hi⟩ := small_get hcp
      refine ⟨_, kp3 _ _ hD DJ, ?_, ls ++ [cp], by simp [hl], fun z hz => ?_, ?_, (kp2.trans kp3).put nDH, j3.put DJ⟩
      · rw [List.length_map, hl, sizeLine_eq]
        omega
      · rcases List.mem_append.mp hz with h | h
        · exact az z h
        · cases List.mem_singleton.mp h
          omega
      · rw [upd_same, List.map_append]
        rfl
    · rintro H2 ⟨ls, hl, az, hD, kp2, j2⟩
      have hl7 : ls.length ≤ 7 := by omega
      have hl2 : ls.length ≠ 2 := by omega
      refine ⟨_, D, ls.map fun c => ofL [c], rfl, rfl, .inl (SqL.of (by rw [hD, List.map_map]; rfl)), ?_, ?_⟩
      · have e1 : ((ls.map fun c => ofL [c]).map (·.length)).sum ≤ 7 := by
          rw [List.map_map]
          have : ∀ l : List Nat, (l.map ((fun z : Str => z.length) ∘ fun c => ofL [c])).sum = l.length := fun l => by
            induction l with
            | nil => rfl
            | cons a r ih =>
              rw [List.map_cons, List.sum_cons, ih, List.length_cons]
              show (ofL [a]).length + r.length = _
              rw [ofL_len]
              simp [Nat.add_comm]
          exact this ls ▸ hl7
        have e2 : (("" : Str)).length = 0 := by decide
        rw [e2]
        omega
      · rw [join_ofL]
        have DJ : D ≠ J := j1.ne nD
        have nDH : H D = none := k1.none j1 nD
        have nn : (n : Int).toNat = n := by omega
        rw [nn] at hl j2
        have hlz : (ofL ls).length = n := by rw [ofL_len, hl]
        refine ⟨_, rfl, _, rfl, _, n, rfl, ⟨by rw [hlz, sizeLine_eq]; omega, hlz.symm⟩, _, _, rfl, rfl, ?_⟩
        refine ⟨J, _, c + 1 + n, rfl, j2, by omega, by omega, by omega, fun sp H3 s0 s1 kp3 j3 => ?_⟩
        refine ⟨_, rfl, J, _, c + 1 + n + 1, rfl, j3, by omega, by decide, by decide, fun a0 H4 a1 a2 kp4 j4 => ?_⟩
        refine ⟨(by show (2 : Nat) ≤ sizeLine; decide), fun tp ntp => ?_⟩
        refine ⟨tp, _, rfl, SqT.of upd_same, rfl, _, _, rfl, _, _, rfl, ?_⟩
        have k4 : Kp J H (upd H4 tp (.tup [.int sp, .int a0])) := ((kp2.trans kp3).trans kp4).new ntp
        have j4' := j4.new (o := .tup [.int sp, .int a0]) ntp
        generalize upd H4 tp (.tup [.int sp, .int a0]) = H5 at k4 j4' ⊢
        obtain ⟨spn, rfl⟩ := Int.eq_ofNat_of_zero_le s0
        obtain ⟨an, rfl⟩ := Int.eq_ofNat_of_zero_le a1
        have sp8 : spn ≤ ls.length := by omega
        refine ⟨rfl, _, rfl, (m : Int), rfl, by omega, by omega, fun G nG => lc_range (lo := 0) (n := (m : Int).toNat)
          (fun k H' => H' G = some (.lst ((List.range k).map fun i => V.str (nameK ls spn an i))) ∧ Kp J H H' ∧ Jar J H' (c + 10)) ⟨upd_same, k4.new nG, (j4'.new nG).up (by omega)⟩ ?_ ?_⟩
        · rintro k H6 hk ⟨hG, kp6, j6⟩
          have k26 : k < 26 := by omega
          have GJ : G ≠ J := j4'.ne nG
          have nGH : H G = none := k4.none j4' nG
          have zl : (ofL ls).length ≤ sizeLine := by rw [hlz, sizeLine_eq]; omega
          have c3 : CMul 3 (0 + (k : Int)) := .inl ⟨by decide, by decide⟩
          refine ⟨rfl, ?_⟩
          refine ⟨_, rfl, _, rfl, _, rfl, _, rfl, zl, _, rfl, _, rfl, _, rfl, _, _, rfl, rfl, c3, _, _, rfl, rfl, .inl ⟨_, rfl, _, _, rfl, rfl, (show (0 : Int) < 26 by decide), ?_⟩⟩
          have er : ((an : Int) + 3 * (0 + (k : Int))) % 26 = (((an + 3 * k) % 26 : Nat) : Int) := by omega
          have hsa := small_at (i := (an + 3 * k) % 26) (Nat.mod_lt _ (by decide))
          have hat : atI small.cps.toList (((an : Int) + 3 * (0 + (k : Int))) % 26) = some (97 + (an + 3 * k) % 26) := by
            rw [er]
            exact atI_nat hsa
          have e1 := cut_to ls spn sp8
          have e2 := cut_from ls spn sp8
          have l1 : (cutS (ofL ls) none (some (spn : Int))).length ≤ 7 := by rw [e1, ofL_len, List.length_take]; omega
          have l2 : (cutS (ofL ls) (some (spn : Int)) none).length ≤ 7 := by rw [e2, ofL_len, List.length_drop]; omega
          have l3 : (ofL [97 + (an + 3 * k) % 26]).length = 1 := by rw [ofL_len]; rfl
          have l4 : (cutS (ofL ls) none (some (spn : Int)) ++ ofL [97 + (an + 3 * k) % 26]).length ≤ 8 := by
            rw [e1, ofL_app, ofL_len, List.length_append, List.length_take]
            show min spn ls.length + 1 ≤ 8
            omega
          refine .inr (.inr ⟨small, _, _, rfl, rfl, by rw [small_len]; decide, hat, ?_⟩)
          refine ⟨_, _, rfl, rfl, by rw [sizeLine_eq, l3]; omega, ?_⟩
          refine ⟨_, rfl, _, rfl, _, rfl, _, rfl, zl, ?_⟩
          refine ⟨cutS (ofL ls) none (some (spn : Int)) ++ ofL [97 + (an + 3 * k) % 26], _, rfl, rfl, by rw [sizeLine_eq]; omega, ?_⟩
          refine ⟨_, hG, by rw [List.length_map, List.length_range, sizeLine_eq]; omega, ?_, kp6.put nGH, j6.put GJ⟩
          rw [upd_same, List.range_succ, List.map_append, e1, e2, ofL_app, ofL_app]
          rfl
        · rintro H6 ⟨hG, kp6, j6⟩
          have nGH : H G = none := k4.none j4' nG
          have em : (m : Int).toNat = m := by omega
          rw [em] at hG
          refine q G ((List.range m).map (nameK ls spn an)) H6 nGH (by rw [hG, List.map_map]; rfl) (by rw [List.length_map, List.length_range]) ⟨?_, fun z hz => ?_⟩ kp6 j6
          · refine List.pairwise_map.mpr (List.Pairwise.imp_of_mem ?_ List.nodup_range)
            intro x y hx hy ne e
            exact ne (nameK_inj (by have := List.mem_range.mp hx; omega) (by have := List.mem_range.mp hy; omega) e)
          · obtain ⟨x, _, rfl⟩ := List.mem_map.mp hz
            exact nameK_nm az hl7 hl2
end
end KZ
namespace NL
open PySem PySem.Spec PyProof.Rows L2
section
variable {X : Cx} {pins : List (Addr × Obj)} {σ : L2.St} {H : Hp} {s : Shared}
/-- values and what they read as -/
abbrev dsV (bs : List (V × PyData)) : List V := bs.map (·.1)
theorem dpAll_each (I : Inv X pins σ H s) : ∀ {bs : List (V × PyData)} {us : List Value}, (∀ b ∈ bs, Dp X.K H b.1 b.2) → Vals (dsV bs) us → W.EachIs (fun u b => RelV b.1 u ∧ ∃ as, Reads s.heap u b.2 as) us bs
  | [], [], _, .nil => .nil
  | b :: bs, u :: us, h, .cons r t => .cons ⟨r, Dp.reads I b.2 b.1 u (h b (List.mem_cons_self ..)) r⟩ (dpAll_each I (fun c hc => h c (List.mem_cons_of_mem _ hc)) t)
theorem vals_each : ∀ {bs : List (V × PyData)} {us : List Value}, W.EachIs (fun u b => RelV b.1 u) us bs → Vals (dsV bs) us
  | [], [], .nil => .nil
  | b :: bs, u :: us, .cons r t => .cons r (vals_each t)
/-- sorted(a list of data that are alike) -/
def rSortedN (X : Cx) : List V → Hp → VK → Prop := fun vs H Q => ∃ (a : Addr) (bs : List (V × PyData)), vs = [V.ref a] ∧ SqL X.K H a (dsV bs) ∧ (∀ b ∈ bs, Dp X.K H b.1 b.2) ∧ PySem.W.AllAlike (bs.map (·.2)) ∧ PySem.W.Sortable (bs.map (·.2)) ∧
  (∀ b ∈ bs, b.2.depth ≤ 20) ∧ ∀ p, H p = none → Q (.ref p) (upd H p (.lst (dsV (bs.mergeSort (PySem.W.dataLe false (·.2))))))
theorem cr_sortedN (hu : X.A.units + 30 < cLine) : CallR X (.builtin "sorted") (rSortedN X) := by
  intro pins s σ H vs us Q I r h
  obtain ⟨a, bs, rfl, hs, hd, hal, hk, hdep, q⟩ := h
  obtain ⟨its, rv, hl, hz⟩ := I.list hs
  rw [Vals.ref1 r]
  have e := dpAll_each I hd rv
  have e1 : W.EachIs (fun u b => RelV b.1 u) its bs := e.mono fun _ _ z => z.1
  have e2 : W.EachIs (fun u b => ∃ as, Reads s.heap u ((fun c : V × PyData => c.2) b) as) its bs := e.mono fun _ _ z => z.2
  have hL : bs.length ≤ sizeLine := by rw [← e.length, ← rv.length]; exact hz
  refine PySem.W.sorted_data (R := fun u b => RelV b.1 u) (enc := fun c : V × PyData => c.2) hl.isList e1 e2 hal hk hL (fun b hb => ?_) fun out hlen eo => ?_
  · have := hdep b hb
    show X.A.units + 2 + b.2.depth < cLine
    omega
  · obtain ⟨ep, he'⟩ := PyProof.Rows.sortedAll_at s.heap its out.toArray
    have vo := vals_each eo
    have lo : (dsV (bs.mergeSort (PySem.W.dataLe false (·.2)))).length ≤ sizeLine := by
      rw [vo.length, hlen]
      exact hL
    exact ⟨.ref _, upd H (s.heap.objs.size + 1) (.lst (dsV (bs.mergeSort (PySem.W.dataLe false (·.2))))), I.laid (t' := s.toks) (fun _ _ => PyProof.Rows.sortedAll_old) (Nat.le_succ _) ⟨lo, out, ep, vo, he'⟩, rfl, q _ (I.hok.fresh (Nat.le_succ _))⟩
end
end NL
namespace NL
open PySem PySem.Spec PyProof.Rows L2
mutual
/-- the key that data are -/
def nk : PyData → Option NestedKey
  | .none => some .none
  | .bool b => some (.num (if b = true then 1 else 0))
  | .int i => some (.num i)
  | .str x => some (.text x)
  | .tuple ds => (nks ds).map .tup
  | .list _ => none
  | .dict _ => none
def nks : List PyData → Option (List NestedKey)
  | [] => some []
  | d :: ds => (nk d).bind fun k => (nks ds).map fun ks => k :: ks
end
section
variable {X : Cx} {pins : List (Addr × Obj)} {σ : L2.St} {H : Hp} {s : Shared}
mutual
theorem nk_is (I : Inv X pins σ H s) : ∀ (d : PyData) (v : V) (u : Value) (k : NestedKey), Dp X.K H v d → RelV v u → nk d = some k → NestedIs s.heap k u
  | .none, _, _, k, h, r, e => by
    cases h
    cases r
    cases e
    exact .none
  | .bool b, _, _, k, h, r, e => by
    cases h
    cases r
    cases e
    exact .bool rfl
  | .int i, _, _, k, h, r, e => by
    cases h
    obtain ⟨t, rfl⟩ := r
    cases e
    exact .int i t
  | .str x, _, _, k, h, r, e => by
    cases h
    obtain ⟨t, rfl⟩ := r
    cases e
    exact .text x t
  | .list ds, _, _, k, h, r, e => by cases e
  | .tuple ds, _, _, k, h, r, e => by
    cases h with
    | tup hs ha =>
      cases r
      obtain ⟨its, rv, ⟨o, ho, hc, n, hd⟩, _⟩ := I.tuple hs
      obtain ⟨ks, e1, rfl⟩ := Option.map_eq_some_iff.mp (show (nks ds).map NestedKey.tup = some k from e)
      exact .tup ho hc hd (by simpa using nks_is I ds _ its ks ha rv e1)
  | .dict _, _, _, _, h, _, _ => by cases h
theorem nks_is (I : Inv X pins σ H s) : ∀ (ds : List PyData) (vs : List V) (us : List Value) (ks : List NestedKey), DpAll X.K H vs ds → Vals vs us → nks ds = some ks → NestedAll s.heap ks us
  | [], _, _, ks, h, r, e => by
    cases h
    cases r
    cases e
    exact .nil
  | d :: ds, _, _, ks, h, r, e => by
    cases h with
    | cons h1 h2 =>
      cases r with
      | cons r1 r2 =>
        obtain ⟨k, e1, e2⟩ := Option.bind_eq_some_iff.mp (show (nk d).bind (fun k => (nks ds).map fun ks => k :: ks) = some ks from e)
        obtain ⟨ks', e3, rfl⟩ := Option.map_eq_some_iff.mp e2
        exact .cons (nk_is I d _ _ k h1 r1 e1) (nks_is I ds _ _ ks' h2 r2 e3)
end
end
/-- the tuple at b is the key k -/
def IsKey (K : PySem.W.Frag) (H : Hp) (b : Addr) (k : NestedKey) : Prop := ∃ d, Dp K H (.ref b) d ∧ nk d = some k ∧ k.depth ≤ 8
theorem IsKey.is {X : Cx} {pins : List (Addr × Obj)} {σ : L2.St} {H : Hp} {s : Shared} (I : Inv X pins σ H s) {b : Addr} {k : NestedKey} (h : IsKey X.K H b k) : (nestedKind X.prog X.w).is s.heap k b :=
  let ⟨d, h1, h2, h3⟩ := h
  ⟨nk_is I d _ _ k h1 rfl h2, h3⟩
/-- a dict of keys of any depth: key, where its tuple stands, value -/
abbrev LN := List (NestedKey × Addr × V)
abbrev KN : LN → List (NestedKey × Addr × Value) → Prop := Paired fun p q => p.1 = q.1 ∧ p.2.1 = q.2.1 ∧ RelV p.2.2 q.2.2
def DNo (P : Program) (w : World) (a : Addr) (L : LN) : HO := .ext fun h => (a == sysModules) = false ∧ L.length ≤ sizeLine ∧ (L.map (·.1)).Nodup ∧ ∃ xs, KN L xs ∧
  ∃ o es ep, h.get? a = some o ∧ o.ExactDict ∧ o.data = .dict es ep ∧ es.toList = xs.map (entryOfKey (nestedKind P w))
/-- what stands at the key -/
def valN (L : LN) (k : NestedKey) : Option V := (L.find? fun x => decide (x.1 = k)).map (·.2.2)
def putN (L : LN) (k : NestedKey) (b : Addr) (v : V) : LN := if (valN L k).isSome then L.map fun x => if x.1 = k then (x.1, x.2.1, v) else x else L ++ [(k, b, v)]
theorem DNo.ok {P : Program} {w : World} {H : Hp} {h : Heap} {a : Addr} {L : LN} {xs : List (NestedKey × Addr × Value)} {o : Obj} {es : Array DictEntry} {ep : Nat} (h1 : (a == sysModules) = false) (h2 : L.length ≤ sizeLine) (h3 : (L.map (·.1)).Nodup) (h4 : KN L xs)
    (h5 : h.get? a = some o) (h6 : o.ExactDict) (h7 : o.data = .dict es ep) (h8 : es.toList = xs.map (entryOfKey (nestedKind P w))) : ObjOk P w H h a (DNo P w a L) :=
  ⟨⟨h1, h2, h3, xs, h4, o, es, ep, h5, h6, h7, h8⟩, ⟨o, h5⟩, fun h1 h2 z st => by
    obtain ⟨z1, z2, z3, xs, z4, o, es, ep, z5, r⟩ := z
    exact ⟨z1, z2, z3, xs, z4, o, es, ep, st _ z5, r⟩⟩
theorem DNo.get {P : Program} {w : World} {H : Hp} {h : Heap} {a : Addr} {L : LN} (hok : HOk P w H h) (e : H a = some (DNo P w a L)) : (a == sysModules) = false ∧ L.length ≤ sizeLine ∧ (L.map (·.1)).Nodup ∧ ∃ xs, KN L xs ∧
    ∃ o es ep, h.get? a = some o ∧ o.ExactDict ∧ o.data = .dict es ep ∧ es.toList = xs.map (entryOfKey (nestedKind P w)) := by
  obtain ⟨z, _, _⟩ := hok a _ e
  exact z
theorem KN.keys {L : LN} {xs : List (NestedKey × Addr × Value)} (r : KN L xs) : L.map (·.1) = xs.map (·.1) := by
  induction r with
  | nil => rfl
  | cons h t ih => rw [List.map_cons, List.map_cons, ih, h.1]
theorem KN.val {L : LN} {xs : List (NestedKey × Addr × Value)} (r : KN L xs) (k : NestedKey) : RelO (valN L k) ((atKey xs k).map (·.2)) := by
  induction r with
  | nil => exact True.intro
  | @cons p q ps qs h t ih =>
    by_cases e : p.1 = k
    · have e2 : q.1 = k := by rw [← h.1]; exact e
      have a1 : valN (p :: ps) k = some p.2.2 := by simp [valN, List.find?_cons, e]
      have a2 : (atKey (q :: qs) k).map (·.2) = some q.2.2 := by simp [atKey, List.find?_cons, e2]
      rw [a1, a2]
      exact h.2.2
    · have e2 : ¬ q.1 = k := by rw [← h.1]; exact e
      have a1 : valN (p :: ps) k = valN ps k := by simp [valN, List.find?_cons, e]
      have a2 : atKey (q :: qs) k = atKey qs k := by simp [atKey, List.find?_cons, e2]
      rw [a1, a2]
      exact ih
theorem KN.isSome {L : LN} {xs : List (NestedKey × Addr × Value)} (r : KN L xs) (k : NestedKey) : (valN L k).isSome = (atKey xs k).isSome := by
  have h := (r.val k).isSome_eq
  rw [Option.isSome_map] at h
  exact h
theorem KN.put {L : LN} {xs : List (NestedKey × Addr × Value)} (r : KN L xs) (k : NestedKey) (b : Addr) {v : V} {u : Value} (ru : RelV v u) : KN (putN L k b v) (storedH xs k b u) := by
  unfold putN storedH
  rw [r.isSome k]
  by_cases h : (atKey xs k).isSome = true
  · rw [if_pos h, if_pos h]
    clear h
    induction r with
    | nil => exact .nil
    | @cons p q ps qs h t ih =>
      refine .cons ?_ ih
      by_cases e : p.1 = k
      · have e2 : q.1 = k := by rw [← h.1]; exact e
        have e3 : (if p.1 = k then (p.1, p.2.1, v) else p) = (p.1, p.2.1, v) := if_pos e
        have e4 : putAt k u q = (q.1, q.2.1, u) := if_pos e2
        show (if p.1 = k then (p.1, p.2.1, v) else p).1 = (putAt k u q).1 ∧ (if p.1 = k then (p.1, p.2.1, v) else p).2.1 = (putAt k u q).2.1 ∧ RelV (if p.1 = k then (p.1, p.2.1, v) else p).2.2 (putAt k u q).2.2
        rw [e3, e4]
        exact ⟨h.1, h.2.1, ru⟩
      · have e2 : ¬ q.1 = k := by rw [← h.1]; exact e
        have e3 : (if p.1 = k then (p.1, p.2.1, v) else p) = p := if_neg e
        have e4 : putAt k u q = q := if_neg e2
        show (if p.1 = k then (p.1, p.2.1, v) else p).1 = (putAt k u q).1 ∧ (if p.1 = k then (p.1, p.2.1, v) else p).2.1 = (putAt k u q).2.1 ∧ RelV (if p.1 = k then (p.1, p.2.1, v) else p).2.2 (putAt k u q).2.2
        rw [e3, e4]
        exact h
  · rw [if_neg h, if_neg h]
    clear h
    induction r with
    | nil => exact .cons ⟨rfl, rfl, ru⟩ .nil
    | cons h t ih => exact .cons h ih
theorem valN_none {L : LN} {k : NestedKey} (h : ¬ (valN L k).isSome = true) : k ∉ L.map (·.1) := by
  intro hm
  obtain ⟨x, hx, e⟩ := List.mem_map.mp hm
  apply h
  unfold valN
  rw [Option.isSome_map, List.find?_isSome]
  exact ⟨x, hx, by simpa using e⟩
theorem putN_keys (L : LN) (k : NestedKey) (b : Addr) (v : V) : (putN L k b v).map (·.1) = if (valN L k).isSome = true then L.map (·.1) else L.map (·.1) ++ [k] := by
  unfold putN
  by_cases h : (valN L k).isSome = true
  · rw [if_pos h, if_pos h, List.map_map]
    refine List.map_congr_left fun x _ => ?_
    show (if x.1 = k then (x.1, x.2.1, v) else x).1 = x.1
    split <;> rfl
  · rw [if_neg h, if_neg h, List.map_append]
    rfl
theorem putN_nodup {L : LN} (h : (L.map (·.1)).Nodup) (k : NestedKey) (b : Addr) (v : V) : ((putN L k b v).map (·.1)).Nodup := by
  rw [putN_keys]
  by_cases c : (valN L k).isSome = true
  · rw [if_pos c]
    exact h
  · rw [if_neg c]
    refine List.nodup_append.mpr ⟨h, by simp, fun x hx y hy e => ?_⟩
    rw [List.mem_singleton] at hy
    subst hy
    subst e
    exact valN_none c hx
theorem putN_mem {L : LN} {k : NestedKey} {b : Addr} {v : V} {x : NestedKey × Addr × V} (h : x ∈ putN L k b v) : (∃ y ∈ L, y.1 = x.1 ∧ y.2.1 = x.2.1 ∧ (x = y ∨ x.2.2 = v)) ∨ x = (k, b, v) := by
  unfold putN at h
  split at h
  · obtain ⟨y, hy, e⟩ := List.mem_map.mp h
    refine .inl ⟨y, hy, ?_⟩
    split at e
    · subst e
      exact ⟨rfl, rfl, .inr rfl⟩
    · exact ⟨by rw [e], by rw [e], .inl e.symm⟩
  · rcases List.mem_append.mp h with h | h
    · exact .inl ⟨x, h, rfl, rfl, .inl rfl⟩
    · exact .inr (List.mem_singleton.mp h)
/-- the dict at a, its keys standing -/
structure DN (P : Program) (w : World) (K : PySem.W.Frag) (H : Hp) (a : Addr) (L : LN) : Prop where
  ob : H a = some (DNo P w a L)
  ks : ∀ x ∈ L, IsKey K H x.2.1 x.1
section
variable {X : Cx} {pins : List (Addr × Obj)} {σ : L2.St} {H : Hp} {s : Shared} {a b : Addr} {L : LN} {k : NestedKey} {u : Value} {v : V} {A : Around} {E : Value → Shared → Prop}
theorem DN.at (I : Inv X pins σ H s) (D : DN X.prog X.w X.K H a L) : (a == sysModules) = false ∧ L.length ≤ sizeLine ∧ ∃ xs, KN L xs ∧ s.heap.DictOfH (nestedKind X.prog X.w) a xs := by
  obtain ⟨z1, z2, z3, xs, z4, o, es, ep, z5, z6, z7, z8⟩ := D.ob |> DNo.get I.hok
  refine ⟨z1, z2, xs, z4, o, es, ep, z5, z6, z7, z8, fun x hx => ?_, by rw [← KN.keys z4]; exact z3⟩
  have hk := D.ks
  clear z8 z3 z2 D
  induction z4 with
  | nil => exact nomatch hx
  | @cons p q ps qs h t ih =>
    rcases List.mem_cons.mp hx with e | hx
    · subst e
      rw [← h.1, ← h.2.1]
      exact (hk p (List.mem_cons_self ..)).is I
    · exact ih hx fun y hy => hk y (List.mem_cons_of_mem _ hy)
end
end NL
namespace NL
open PySem PySem.Spec PyProof.Rows L2
section
variable {X : Cx} {pins : List (Addr × Obj)} {σ : L2.St} {H : Hp} {s : Shared} {a b : Addr} {L : LN} {k : NestedKey} {A : Around} {E : Value → Shared → Prop}
theorem DN.dict (I : Inv X pins σ H s) {L : LN} (e : H a = some (DNo X.prog X.w a L)) : s.TypeIs (.ref a) "dict" ∧ ∀ c, Value.ref a = .ref c → ∃ ob, s.heap.get? c = some ob ∧ ob.dict = none := by
  obtain ⟨_, _, _, xs, _, ob, es, ep, g, x, dt, _⟩ := DNo.get I.hok e
  exact ⟨⟨ob, g, x.1⟩, fun c q => by cases q; exact ⟨ob, g, x.2.1⟩⟩
end
end NL
namespace NL
open PySem PySem.Spec PyProof.Rows L2
section
variable {X : Cx}
/-- == and != of data without dicts, of any depth up to twenty -/
def rEqP (X : Cx) (neg : Bool) : R2 := fun x y H Q => ∃ d e, Dp X.K H x d ∧ Dp X.K H y e ∧ d.plain = true ∧ e.plain = true ∧ min d.depth e.depth ≤ 20 ∧ Q (.bl (neg ^^ PyData.eqv d e)) H
theorem op_eqP (hu : X.A.units + 30 < cLine) : OpR X (compareOp .Eq) (rEqP X false) := by
  intro pins s σ H x y v u Q I rx ry h
  obtain ⟨d, e, hd, he, pd, pe, dep, q⟩ := h
  obtain ⟨_, r1⟩ := Dp.reads I d x v hd rx
  obtain ⟨_, r2⟩ := Dp.reads I e y u he ry
  rw [Bool.false_xor] at q
  exact SeqAt.eq_plain r1 r2 pd pe (by omega) ⟨.bl _, H, I, rfl, q⟩
theorem op_neP (hu : X.A.units + 30 < cLine) : OpR X (compareOp .NotEq) (rEqP X true) := by
  intro pins s σ H x y v u Q I rx ry h
  obtain ⟨d, e, hd, he, pd, pe, dep, q⟩ := h
  obtain ⟨_, r1⟩ := Dp.reads I d x v hd rx
  obtain ⟨_, r2⟩ := Dp.reads I e y u he ry
  rw [Bool.true_xor] at q
  exact SeqAt.ne_plain r1 r2 pd pe (by omega) ⟨.bl _, H, I, rfl, q⟩
/-- x in t, x not in t: t a tuple or a list of such data -/
def rInP (X : Cx) (neg : Bool) : R2 := fun x y H Q => ∃ d ds, Dp X.K H x d ∧ (Dp X.K H y (.tuple ds) ∨ Dp X.K H y (.list ds)) ∧ d.plain = true ∧ PyData.plainAll ds = true ∧ min (PyData.depthAll ds) d.depth ≤ 20 ∧ Q (.bl (neg ^^ ds.any fun z => PyData.eqv z d)) H
theorem op_inP (hu : X.A.units + 30 < cLine) : OpR X (compareOp .In) (rInP X false) := by
  intro pins s σ H x y v u Q I rx ry h
  obtain ⟨d, ds, hd, he, pd, pe, dep, q⟩ := h
  obtain ⟨_, r1⟩ := Dp.reads I d x v hd rx
  rw [Bool.false_xor] at q
  rcases he with he | he
  · obtain ⟨_, r2⟩ := Dp.reads I _ y u he ry
    exact SeqAt.in_tuple_data r2 r1 pe pd (by omega) ⟨.bl _, H, I, rfl, q⟩
  · obtain ⟨_, r2⟩ := Dp.reads I _ y u he ry
    exact SeqAt.in_list_data r2 r1 pe pd (by omega) ⟨.bl _, H, I, rfl, q⟩
theorem op_notInP (hu : X.A.units + 30 < cLine) : OpR X (compareOp .NotIn) (rInP X true) := by
  intro pins s σ H x y v u Q I rx ry h
  obtain ⟨d, ds, hd, he, pd, pe, dep, q⟩ := h
  obtain ⟨_, r1⟩ := Dp.reads I d x v hd rx
  rw [Bool.true_xor] at q
  rcases he with he | he
  · obtain ⟨_, r2⟩ := Dp.reads I _ y u he ry
    exact SeqAt.notIn_tuple_data r2 r1 pe pd (by omega) ⟨.bl _, H, I, rfl, q⟩
  · obtain ⟨_, r2⟩ := Dp.reads I _ y u he ry
    exact SeqAt.notIn_list_data r2 r1 pe pd (by omega) ⟨.bl _, H, I, rfl, q⟩
end
end NL
namespace NL
open PySem PySem.Spec PyProof.Rows L2
end NL
namespace NL
open PySem PySem.Spec PyProof.Rows L2
/-- how a comprehension's new dict is told: empty at first (o0), and by each store (put D y z H H') -/
structure DK (P : Program) (w : World) (K : PySem.W.Frag) (rm : Nat) where
  o0 : Addr → HO
  put : Addr → V → V → Hp → Hp → Prop
  new : ∀ {H : Hp} (h : Heap), sysModules < h.objs.size → ObjOk P w H (h.push { cls := .type "dict", data := .dict #[] }) h.objs.size (o0 h.objs.size)
  set : ∀ {X : Cx} {pins : List (Addr × Obj)} {σ : L2.St} {H H' : Hp} {s : Shared} {E : Value → Shared → Prop} {D : Addr} {y z : V} {u r : Value} {Q : Unit → Shared → Prop}, X.prog = P → X.w = w → X.K = K → X.A.units + rm < cLine → Inv X pins σ H s → put D y z H H' → RelV y u → RelV z r →
    (∀ s', Inv X pins σ H' s' → Q () s') → wpAny (model P w) X.A (dictSet D u r) Q E s
end NL
namespace KZ
open PySem PySem.Spec PyProof.Rows L2
/-- a comprehension over zip of two lists, the first no longer than the second -/
theorem lc_zip {K : PySem.W.Frag} {a b : Addr} {xs ys : List V} {g : TG} {tt : TT} {te : TE} {vs : List Nat} {σ : L2.St} {H1 : Hp} {D : Addr} {Qd : Hp → Prop} (hl : xs.length ≤ ys.length) (Pv : Nat → Hp → Prop) (h0 : Pv 0 (upd H1 D (.lst [])))
    (hq : ∀ i H, i ≤ xs.length → Pv i H → SqL K H a xs ∧ SqL K H b ys)
    (hs : ∀ i x y T H, xs[i]? = some x → ys[i]? = some y → Pv i H → H T = none → g (.ref T) (wipe σ vs) (upd H T (.tup [x, y])) fun σ2 H2 => wipe σ2 vs = wipe σ vs ∧ tt σ2 H2 fun b H3 =>
      if b = true then te σ2 H3 fun z H4 => ∃ acc, H4 D = some (.lst acc) ∧ acc.length < sizeLine ∧ Pv (i + 1) (upd H4 D (.lst (acc ++ [z]))) else Pv (i + 1) H3) (hd : ∀ H, Pv xs.length H → Qd H) :
    ∃ W : Nat → Nat → Hp → Prop, (∃ m, W 0 m (upd H1 D (.lst []))) ∧ ∀ i m H, W i m H → ((Itz K a b).stop i H ∧ Qd H) ∨ ((Itz K a b).go i H ∧ ∃ Nx : Hp → Prop, (∀ H', Nx H' → ∃ m', m' < m ∧ W (i + 1) m' H') ∧ ∀ x H', (Itz K a b).yld i H x H' →
      g x (wipe σ vs) H' fun σ2 H2 => wipe σ2 vs = wipe σ vs ∧ tt σ2 H2 fun b H3 => if b = true then te σ2 H3 fun z H4 => ∃ acc, H4 D = some (.lst acc) ∧ acc.length < sizeLine ∧ Nx (upd H4 D (.lst (acc ++ [z]))) else Nx H3) := by
  refine ⟨fun i m H => m + i = xs.length ∧ Pv i H, ⟨xs.length, rfl, h0⟩, fun i m H ⟨e, p⟩ => ?_⟩
  obtain ⟨qx, qy⟩ := hq i H (by omega) p
  rcases Nat.eq_zero_or_pos m with hm | hm
  · have ei : i = xs.length := by omega
    subst ei
    exact .inl ⟨⟨xs, ys, qx, qy, .inl (Nat.le_refl _)⟩, hd H p⟩
  · have lt : i < xs.length := by omega
    have lt2 : i < ys.length := by omega
    refine .inr ⟨⟨xs, ys, xs[i], ys[i], qx, qy, List.getElem?_eq_getElem lt, List.getElem?_eq_getElem lt2⟩, Pv (i + 1), fun H' p' => ⟨m - 1, by omega, by omega, p'⟩, fun z H' hz => ?_⟩
    obtain ⟨T, x, y, ez, hT, eH, fx, fy⟩ := hz
    subst ez eH
    exact hs i x y T H (fx xs qx) (fy ys qy) p hT
/-- a comprehension over the keys of a dict that is locked -/
theorem lc_keys {d : Addr} {o : Obj} {kvs : List (L2.Key × V)} {g : TG} {tt : TT} {te : TE} {vs : List Nat} {σ : L2.St} {H1 : Hp} {D : Addr} {Qd : Hp → Prop} (Pv : Nat → Hp → Prop) (h0 : Pv 0 (upd H1 D (.lst [])))
    (hq : ∀ i H, i ≤ kvs.length → Pv i H → H d = some (.frz o (.dK kvs)))
    (hs : ∀ i k v H, kvs[i]? = some (k, v) → Pv i H → g (kV k) (wipe σ vs) H fun σ2 H2 => wipe σ2 vs = wipe σ vs ∧ tt σ2 H2 fun b H3 =>
      if b = true then te σ2 H3 fun z H4 => ∃ acc, H4 D = some (.lst acc) ∧ acc.length < sizeLine ∧ Pv (i + 1) (upd H4 D (.lst (acc ++ [z]))) else Pv (i + 1) H3) (hd : ∀ H, Pv kvs.length H → Qd H) :
    ∃ W : Nat → Nat → Hp → Prop, (∃ m, W 0 m (upd H1 D (.lst []))) ∧ ∀ i m H, W i m H → ((Itk d o kvs).stop i H ∧ Qd H) ∨ ((Itk d o kvs).go i H ∧ ∃ Nx : Hp → Prop, (∀ H', Nx H' → ∃ m', m' < m ∧ W (i + 1) m' H') ∧ ∀ x H', (Itk d o kvs).yld i H x H' →
      g x (wipe σ vs) H' fun σ2 H2 => wipe σ2 vs = wipe σ vs ∧ tt σ2 H2 fun b H3 => if b = true then te σ2 H3 fun z H4 => ∃ acc, H4 D = some (.lst acc) ∧ acc.length < sizeLine ∧ Nx (upd H4 D (.lst (acc ++ [z]))) else Nx H3) := by
  refine ⟨fun i m H => m + i = kvs.length ∧ Pv i H, ⟨kvs.length, rfl, h0⟩, fun i m H ⟨e, p⟩ => ?_⟩
  have qk := hq i H (by omega) p
  rcases Nat.eq_zero_or_pos m with hm | hm
  · have ei : i = kvs.length := by omega
    subst ei
    exact .inl ⟨⟨qk, Nat.le_refl _⟩, hd H p⟩
  · refine .inr ⟨⟨qk, by omega⟩, Pv (i + 1), fun H' p' => ⟨m - 1, by omega, by omega, p'⟩, fun x H' hx => ?_⟩
    obtain ⟨eH, k, v, hk, ex⟩ := hx
    subst eH ex
    exact hs i k v _ hk p
/-- tuple(xs) -/
def rTupOf (K : PySem.W.Frag) : List V → Hp → VK → Prop := fun xs H Q => ∃ p ys, xs = [V.ref p] ∧ ((SqL K H p ys ∧ ∀ l : Addr, H l = none → Q (V.ref l) (upd H l (.tup ys))) ∨ (SqT K H p ys ∧ Q (V.ref p) H))
abbrev NG : List Str := ["_law_jar_here", "_law_most", "_law_names_here", "_law_many", "_law_checks", "_law_group", "_law_check", "_law_parts"]
theorem scGroups : FnScope NG ["_law_jar_here", "_law_most"] (defScope (topAt iGroups)) := ⟨rfl, rfl, rfl, by decide +kernel, rfl, by decide +kernel, by decide +kernel⟩
theorem cutV_mid {xs : List V} {a b : Nat} (h : a ≤ b) (h2 : b ≤ xs.length) : cutV xs (some (a : Int)) (some (b : Int)) = (xs.drop a).take (b - a) := by
  unfold cutV
  rw [HT.sIx_nat, HT.sIx_nat, Nat.min_eq_left h2, Nat.min_eq_left (Nat.le_trans h h2)]
theorem cutV_to {xs : List V} {b : Nat} (h2 : b ≤ xs.length) : cutV xs none (some (b : Int)) = xs.take b := by
  unfold cutV
  rw [HT.sIx_nat, HT.sIx_none, Nat.min_eq_left h2, List.drop_zero, Nat.sub_zero]
theorem cutV_from {xs : List V} {a : Nat} (h : a ≤ xs.length) : cutV xs (some (a : Int)) none = xs.drop a := by
  unfold cutV
  rw [HT.sIx_nat, HT.sIx_none, Nat.min_eq_left h, List.take_of_length_le (by rw [List.length_drop]; exact Nat.le_refl _)]
theorem mergeK_new : ∀ (more kvs : List (L2.Key × V)), ((kvs ++ more).map (·.1)).Nodup → mergeK kvs more = kvs ++ more
  | [], kvs, _ => by rw [List.append_nil]; rfl
  | p :: more, kvs, h => by
    have h2 : ((kvs ++ [p] ++ more).map (·.1)).Nodup := by rw [List.append_assoc]; exact h
    have e : putK kvs p.1 p.2 = kvs ++ [p] := by
      refine putK_new p.2 ?_
      cases hv : valV kvs p.1 with
      | none => rfl
      | some v =>
        have hs : (kvs.any fun kv => decide (kv.1 = p.1)) = true := by rw [valV_any, hv]; rfl
        obtain ⟨x, hx, ex⟩ := List.any_eq_true.mp hs
        rw [List.map_append, List.nodup_append] at h
        exact absurd (of_decide_eq_true ex) (h.2.2 x.1 (List.mem_map_of_mem hx) p.1 (by simp))
    show mergeK (putK kvs p.1 p.2) more = _
    rw [e, mergeK_new more (kvs ++ [p]) h2, List.append_assoc]
    rfl
theorem paired_idx {α β : Type} {F : α → β → Prop} : ∀ (l1 : List α) (l2 : List β), l1.length = l2.length → (∀ (k : Nat) (a : α) (b : β), l1[k]? = some a → l2[k]? = some b → F a b) → Paired F l1 l2
  | [], [], _, _ => .nil
  | a :: l1, b :: l2, h, f => .cons (f 0 a b rfl rfl) (paired_idx l1 l2 (by simpa using h) fun k x y h1 h2 => f (k + 1) x y h1 h2)
theorem le_sum_mem : ∀ {l : List Nat} {x : Nat}, x ∈ l → x ≤ l.sum
  | y :: l, x, h => by
    rw [List.sum_cons]
    rcases List.mem_cons.mp h with e | h
    · rw [e]; exact Nat.le_add_right _ _
    · exact Nat.le_trans (le_sum_mem h) (Nat.le_add_left _ _)
theorem flat_set {e : Str} : ∀ {css : List (List Str)} {k : Nat} {cl : List Str}, css[k]? = some cl → (css.set k (cl ++ [e])).flatten.Perm (css.flatten ++ [e])
  | [], _, _, h => by simp at h
  | c :: css, 0, cl, h => by
    obtain rfl : c = cl := Option.some.inj h
    rw [List.set_cons_zero, List.flatten_cons, List.flatten_cons, List.append_assoc, List.append_assoc]
    exact List.Perm.append_left _ List.perm_append_comm
  | c :: css, k + 1, cl, h => by
    rw [List.set_cons_succ, List.flatten_cons, List.flatten_cons, List.append_assoc]
    exact List.Perm.append_left _ (flat_set h)
/-- names and where their values stand, as a dict -/
def kvT (gn : List Str) (rs : List Addr) : List (L2.Key × V) := (gn.zip rs).map fun x => ((Sum.inr x.1 : L2.Key), V.ref x.2)
theorem kvT_at {gn : List Str} {rs : List Addr} {k : Nat} {g : Str} {r : Addr} (h1 : gn[k]? = some g) (h2 : rs[k]? = some r) : (kvT gn rs)[k]? = some (Sum.inr g, .ref r) := by
  have e : (gn.zip rs)[k]? = some (g, r) := List.getElem?_zip_eq_some.mpr ⟨h1, h2⟩
  unfold kvT
  rw [List.getElem?_map, e]
  rfl
theorem kvT_len {gn : List Str} {rs : List Addr} (h : gn.length = rs.length) : (kvT gn rs).length = gn.length := by
  unfold kvT
  rw [List.length_map, List.length_zip, h, Nat.min_self]
theorem kvT_keys {gn : List Str} {rs : List Addr} (h : gn.length = rs.length) : (kvT gn rs).map (·.1) = gn.map fun g => (Sum.inr g : L2.Key) := by
  have e : (gn.zip rs).map (·.1) = gn := List.map_fst_zip (by rw [h]; exact Nat.le_refl _)
  unfold kvT
  rw [List.map_map]
  have e2 := congrArg (List.map fun g : Str => (Sum.inr g : L2.Key)) e
  rw [List.map_map] at e2
  exact e2
theorem valV_nd : ∀ {kvs : List (L2.Key × V)} {k : Nat} {x : L2.Key} {v : V}, (kvs.map (·.1)).Nodup → kvs[k]? = some (x, v) → valV kvs x = some v
  | [], _, _, _, _, h => by simp at h
  | p :: kvs, 0, x, v, _, h => by
    obtain rfl : p = (x, v) := Option.some.inj h
    exact valV_pos rfl
  | p :: kvs, k + 1, x, v, nd, h => by
    have h2 : kvs[k]? = some (x, v) := h
    rw [List.map_cons, List.nodup_cons] at nd
    rw [valV_neg fun e => nd.1 (by rw [e]; exact List.mem_map_of_mem (List.mem_of_getElem? h2))]
    exact valV_nd nd.2 h2
theorem kvT_val {gn : List Str} {rs : List Addr} {k : Nat} {g : Str} {r : Addr} (nd : gn.Nodup) (hl : gn.length = rs.length) (h1 : gn[k]? = some g) (h2 : rs[k]? = some r) : valV (kvT gn rs) (Sum.inr g) = some (.ref r) :=
  valV_nd (by rw [kvT_keys hl]; exact List.pairwise_map.mpr (nd.imp fun ne e => ne (Sum.inr.inj e))) (kvT_at h1 h2)
/-- the order of texts -/
def slt (a b : Str) : Prop := a.cps.toList < b.cps.toList
abbrev Grp := Str × List Str
/-- groups as a shop can have them -/
structure GoodGs (gs : List Grp) : Prop where
  ne : gs ≠ []
  le : gs.length ≤ 3
  ch : ∀ g ∈ gs, g.2 ≠ [] ∧ g.2.length ≤ 4 ∧ g.2.Pairwise slt
  tot : (gs.flatMap (·.2)).length ≤ 4
  nm : Names (gs.map (·.1) ++ gs.flatMap (·.2))
  asc : (gs.map (·.1)).Pairwise slt
/-- the tuple of the groups at p -/
def GsAt (H : Hp) (p : Addr) (gs : List Grp) : Prop := ∃ rs : List (Addr × Addr), H p = some (.tup (rs.map fun r => V.ref r.1)) ∧ Paired (fun r g => H r.1 = some (.tup [.str g.1, .ref r.2]) ∧ H r.2 = some (.tup (g.2.map V.str))) rs gs
def spGroups : Sp := fun vs H Q _ => ∃ (J : Addr) (most c : Nat), vs = [.ref J, .int (most : Int)] ∧ 1 ≤ most ∧ most ≤ 4 ∧ Jar J H c ∧ c < 80000 ∧
  ∀ (p : Addr) (gs : List Grp) (H' : Hp), H p = none → GsAt H' p gs → GoodGs gs → Kp J H H' → Jar J H' (c + 20) → Q (.ref p) H'
/-- a group as data -/
def gD (g : Grp) : PyData := .tuple [.str g.1, .tuple (g.2.map PyData.str)]
/-- what the last comprehension makes: (the pair's place, its checks' place, the group) -/
abbrev ZG := List (Addr × Addr × Grp)
def ZOk (gn : List Str) (css : List (List Str)) (z : ZG) (H : Hp) : Prop := ∀ (k : Nat) (x : Addr × Addr × Grp), z[k]? = some x → gn[k]? = some x.2.2.1 ∧ (∃ cl, css[k]? = some cl ∧ x.2.2.2.Perm cl ∧ cl ≠ []) ∧ sortedS x.2.2.2 = true ∧
  H x.1 = some (.tup [.str x.2.2.1, .ref x.2.1]) ∧ H x.2.1 = some (.tup (x.2.2.2.map V.str))
theorem flat_perm {α : Type} : ∀ {as bs : List (List α)}, as.length = bs.length → (∀ (k : Nat) (a b : List α), as[k]? = some a → bs[k]? = some b → a.Perm b) → as.flatten.Perm bs.flatten
  | [], [], _, _ => .nil
  | a :: as, b :: bs, h, f => (f 0 a b rfl rfl).append (flat_perm (by simpa using h) fun k x y h1 h2 => f (k + 1) x y h1 h2)
theorem ltCps_iff (a b : List Nat) : ltCps a b = decide (a < b) := PyProof.Rows.ltCps_eq a b
instance (a b : Str) : Decidable (slt a b) := inferInstanceAs (Decidable (a.cps.toList < b.cps.toList))
theorem slt_of {a b : Str} (h : (!ltCps b.cps.toList a.cps.toList) = true) (ne : a ≠ b) : slt a b := by
  rw [ltCps_iff, Bool.not_eq_true', decide_eq_false_iff_not] at h
  refine Decidable.byContradiction fun h1 => ne ?_
  have e := List.le_antisymm (List.not_lt.mp h) (List.not_lt.mp h1)
  cases a
  cases b
  simp only [Str.mk.injEq]
  exact Array.toList_inj.mp e
theorem slt_trans {a b c : Str} (h1 : slt a b) (h2 : slt b c) : slt a c := List.lt_trans h1 h2
theorem rising_pw : ∀ (p : Str) (l : List Str), PyProof.Rows.risingS p l = true → (p :: l).Nodup → (p :: l).Pairwise slt
  | p, [], _, _ => by simp
  | p, x :: r, h, nd => by
    have h2 : (!ltCps x.cps.toList p.cps.toList && PyProof.Rows.risingS x r) = true := h
    rw [Bool.and_eq_true] at h2
    rw [List.nodup_cons] at nd
    have pw := rising_pw x r h2.2 nd.2
    have px : slt p x := slt_of h2.1 fun e => nd.1 (by rw [e]; exact List.mem_cons_self ..)
    refine List.pairwise_cons.mpr ⟨fun y hy => ?_, pw⟩
    rcases List.mem_cons.mp hy with e | hy
    · rw [e]; exact px
    · exact slt_trans px ((List.pairwise_cons.mp pw).1 y hy)
theorem sorted_pw {l : List Str} (h : sortedS l = true) (nd : l.Nodup) : l.Pairwise slt := by
  cases l with
  | nil => exact .nil
  | cons x r => exact rising_pw x r h nd
theorem gD_alike (a b : Grp) : W.alike (gD a) (gD b) = true := by
  have hstr : ∀ xs ys : List Str, W.alikeAll (xs.map PyData.str) (ys.map PyData.str) = true := fun xs => by
    induction xs with
    | nil => intro ys; cases ys <;> rfl
    | cons x xs ih =>
      intro ys
      cases ys with
      | nil => rfl
      | cons y ys =>
        show W.alikeAll (.str x :: xs.map PyData.str) (.str y :: ys.map PyData.str) = true
        rw [W.alikeAll, ih ys]
        rfl
  simp only [gD, W.alike, W.alikeAll, hstr, Bool.and_true]
theorem gD_lt {a b : Grp} (ne : a.1 ≠ b.1) : W.dataLt (gD a) (gD b) = decide (slt a.1 b.1) := by
  unfold gD
  rw [W.dataLt_tuple, W.dataLt_cons (by rfl)]
  have e : PyData.eqv (.str a.1) (.str b.1) = false := by
    simp only [PyData.eqv]
    exact beq_eq_false_iff_ne.mpr ne
  rw [e, if_neg Bool.false_ne_true, W.dataLt_str]
  rfl
theorem good_of {ns cs gn : List Str} {css : List (List Str)} {z : ZG} {n m : Nat} (nm : Names ns) (egn : ns.take n = gn) (ecs : (ns.drop n).take m = cs) (lcs : cs.length = m) (n1 : 1 ≤ n) (n3 : n ≤ 3) (m4 : m ≤ 4) (lgn : gn.length = n) (lc : css.length = n)
    (pc : css.flatten.Perm cs) (lz : z.length = n)
    (zok : ∀ (k : Nat) (x : Addr × Addr × Grp), z[k]? = some x → gn[k]? = some x.2.2.1 ∧ (∃ cl, css[k]? = some cl ∧ x.2.2.2.Perm cl ∧ cl ≠ []) ∧ sortedS x.2.2.2 = true) :
    GoodGs ((z.mergeSort (W.dataLe false fun x : Addr × Addr × Grp => gD x.2.2)).map (fun x : Addr × Addr × Grp => x.2.2)) := by
  have p1 : (z.mergeSort (W.dataLe false fun x : Addr × Addr × Grp => gD x.2.2)).Perm z := List.mergeSort_perm _ _
  have zg : z.map (fun x : Addr × Addr × Grp => x.2.2.1) = gn := by
    refine List.ext_getElem? fun k => ?_
    rw [List.getElem?_map]
    cases e : z[k]? with
    | none =>
      have h1 := List.getElem?_eq_none_iff.mp e
      exact (List.getElem?_eq_none_iff.mpr (by omega)).symm
    | some x => exact (zok k x e).1.symm
  have zc : (z.map (fun x : Addr × Addr × Grp => x.2.2.2)).flatten.Perm css.flatten := flat_perm (by rw [List.length_map]; omega) fun k a b h1 h2 => by
    rw [List.getElem?_map] at h1
    obtain ⟨x, hx, rfl⟩ := Option.map_eq_some_iff.mp h1
    obtain ⟨_, ⟨cl, hcl, hp, _⟩, _⟩ := zok k x hx
    obtain rfl := Option.some.inj (hcl.symm.trans h2)
    exact hp
  have sub : (gn ++ cs).Sublist ns := by
    rw [← egn, ← ecs, ← List.take_add]
    exact List.take_sublist _ _
  have nmG : Names (gn ++ cs) := ⟨List.Nodup.sublist sub nm.1, fun y hy => nm.2 y (sub.subset hy)⟩
  have pG : (((z.mergeSort (W.dataLe false fun x : Addr × Addr × Grp => gD x.2.2)).map (fun x : Addr × Addr × Grp => x.2.2)).map (·.1)).Perm gn := by
    rw [List.map_map, ← zg]
    exact p1.map _
  have pC : (((z.mergeSort (W.dataLe false fun x : Addr × Addr × Grp => gD x.2.2)).map (fun x : Addr × Addr × Grp => x.2.2)).flatMap (·.2)).Perm cs := by
    have e : ((z.mergeSort (W.dataLe false fun x : Addr × Addr × Grp => gD x.2.2)).map (fun x : Addr × Addr × Grp => x.2.2)).flatMap (·.2) = ((z.mergeSort (W.dataLe false fun x : Addr × Addr × Grp => gD x.2.2)).map (fun x : Addr × Addr × Grp => x.2.2.2)).flatten := by
      rw [List.flatMap_def, List.map_map]
      rfl
    rw [e]
    exact ((p1.map _).flatten).trans (zc.trans pc)
  have mem : ∀ g ∈ (z.mergeSort (W.dataLe false fun x : Addr × Addr × Grp => gD x.2.2)).map (fun x : Addr × Addr × Grp => x.2.2), ∃ (k : Nat) (x : Addr × Addr × Grp), z[k]? = some x ∧ x.2.2 = g := fun g hg => by
    obtain ⟨x, hx, e⟩ := List.mem_map.mp hg
    obtain ⟨k, hk⟩ := List.mem_iff_getElem?.mp (p1.mem_iff.mp hx)
    exact ⟨k, x, hk, e⟩
  have lS : (z.mergeSort (W.dataLe false fun x : Addr × Addr × Grp => gD x.2.2)).length = n := by rw [p1.length_eq, lz]
  have sG : ((z.mergeSort (W.dataLe false fun x : Addr × Addr × Grp => gD x.2.2)).map (fun x : Addr × Addr × Grp => x.2.2)).Pairwise fun a b => W.dataLt (gD b) (gD a) = false := by
    have h := W.sort_pairwise (W.sortLe_total (PyProof.Rows.listOrd PyProof.Rows.itemOrd) false fun x : Addr × Addr × Grp => W.keyToks (gD x.2.2)) z
    rw [List.pairwise_map]
    exact h.imp fun {a b} hab => by
      have h2 : (!W.dataLt (gD b.2.2) (gD a.2.2)) = true := hab
      rw [Bool.not_eq_true'] at h2
      exact h2
  generalize (z.mergeSort (W.dataLe false fun x : Addr × Addr × Grp => gD x.2.2)).map (fun x : Addr × Addr × Grp => x.2.2) = gs at pG pC mem sG
  have ndG : (gs.map (·.1)).Nodup := pG.nodup_iff.mpr (List.Nodup.sublist (List.sublist_append_left gn cs) nmG.1)
  have lG : gs.length = n := by have := pG.length_eq; rw [List.length_map, lgn] at this; exact this
  have ndC : (gs.flatMap (·.2)).Nodup := pC.nodup_iff.mpr (List.Nodup.sublist (List.sublist_append_right gn cs) nmG.1)
  have lC : (gs.flatMap (·.2)).length = m := by rw [pC.length_eq, lcs]
  have pA : (gs.map (·.1) ++ gs.flatMap (·.2)).Perm (gn ++ cs) := pG.append pC
  refine ⟨fun e => by rw [e] at lG; simp at lG; omega, by omega, fun g hg => ?_, by omega, ⟨pA.nodup_iff.mpr nmG.1, fun y hy => nmG.2 y (pA.mem_iff.mp hy)⟩, ?_⟩
  · obtain ⟨k, x, hk, rfl⟩ := mem g hg
    obtain ⟨_, ⟨cl, _, hp, hne⟩, hs⟩ := zok k x hk
    have sb : x.2.2.2.Sublist (gs.flatMap (·.2)) := by
      rw [List.flatMap_def]
      exact List.sublist_flatten_of_mem (List.mem_map_of_mem hg)
    refine ⟨fun e => hne (by rw [e] at hp; exact List.nil_perm.mp hp), by have := sb.length_le; omega, sorted_pw hs (List.Nodup.sublist sb ndC)⟩
  · rw [List.pairwise_map]
    have nd2 : gs.Pairwise fun a b => a.1 ≠ b.1 := List.pairwise_map.mp ndG
    refine List.Pairwise.imp₂ (fun a b h1 h2 => ?_) sG nd2
    rw [gD_lt (Ne.symm h2), decide_eq_false_iff_not] at h1
    exact slt_of (by rw [ltCps_iff, Bool.not_eq_true', decide_eq_false_iff_not]; exact h1) h2
section
variable {P : Program} {w : World} {K : PySem.W.Frag} {mg : Str → Option Value} {base : Heap}
theorem ok_groups {f fN fO fT : Addr} {fd fdN fdO fdT : FuncData} (F : Fd K iGroups "_law_groups" f fd) (FN : Fd K iNames "_law_names" fN fdN) (FO : Fd K iOf "_law_of" fO fdO) (FT : Fd K iTake "_law_take" fT fdT)
    (gN : mg "_law_names" = some (.ref fN)) (gO : mg "_law_of" = some (.ref fO)) (gT : mg "_law_take" = some (.ref fT)) (gi : mg "int" = none) (gl : mg "len" = none) (gr : mg "range" = none)
    (gm : mg "max" = none) (gd : mg "dict" = none) (gz : mg "zip" = none) (gt : mg "tuple" = none) (gs : mg "sorted" = none) :
    FnOk P w K mg base CX0 4 f fd ["_law_jar_here", "_law_most"] spGroups := by
  have GT : FnOk P w K mg base CX0 1 fT fdT ["_law_jar_here", "_law_many"] spTake := ok_take FT gi
  have bT : Binds K fdT ["_law_jar_here", "_law_many"] [] := FT.bindsN fun _ _ _ _ _ _ us hl => match us, hl with | [_, _], _ => rfl
  have GO : FnOk P w K mg base CX0 2 fO fdO ["_law_jar_here", "_law_some"] (spOf K) := ok_of FO FT gT gi gl
  have bO : Binds K fdO ["_law_jar_here", "_law_some"] [] := FO.bindsN fun _ _ _ _ _ _ us hl => match us, hl with | [_, _], _ => rfl
  have GN : FnOk P w K mg base CX0 3 fN fdN ["_law_jar_here", "_law_many"] (spNames K) := ok_names FN FO FT gO gT gi gl gr
  have bN : Binds K fdN ["_law_jar_here", "_law_many"] [] := FN.bindsN fun _ _ _ _ _ _ us hl => match us, hl with | [_, _], _ => rfl
  refine F.ok scGroups (fun vs H Q E h => ?_) (fun cdv A outer s H vs Q E hr h => ?_)
  · obtain ⟨J, m, c, rfl, _⟩ := h
    rfl
  · obtain ⟨J, most, c, rfl, hm1, hm4, hJ, hc, q⟩ := h
    have hr2 := hr.mono (show 2 ≤ 3 by decide)
    have hr1 := hr.mono (show 1 ≤ 3 by decide)
    have hu40 : (A.deeper (envOfC "_law_groups" (defScope (topAt iGroups)) s.heap.objs.size f cdv)).units + 40 < cLine := by have := hr.un; omega
    have hu1 : (A.deeper (envOfC "_law_groups" (defScope (topAt iGroups)) s.heap.objs.size f cdv)).units + 1 < cLine := by omega
    have hu30 : (A.deeper (envOfC "_law_groups" (defScope (topAt iGroups)) s.heap.objs.size f cdv)).units + 30 < cLine := by omega
    refine ⟨_, PSs.nox (pss_cons (ps_par (i := 2) (j := 3) rfl scGroups.nd rfl rfl (by decide) rfl rfl (pa_cons (pe_call GN hr rfl gN FN.kp bN .nil pass0 (pa_cons (pv 0) (pa_cons pe_int pa_nil)))
          (pa_cons (pe_call GO hr2 rfl gO FO.kp bO .nil pass0 (pa_cons (pv 0) (pa_cons (pe_lst (pa_cons pe_int (pa_cons pe_int (pa_cons pe_int (pa_cons pe_int (pa_cons pe_int pa_nil)))))) pa_nil))) pa_nil)) (by rfl))
      (pss_cons (ps_set (i := 4) scGroups.nd rfl (Or.inl rfl) (pe_slice sl_list (pv 2) (po_some (pv 3)) (po_some (pe_op op_add (pv 3) (pe_callB (call_max2 rfl) (by rfl) gm PyProof.Rows.boot_max (pa_cons (pv 3)
          (pa_cons (pe_op op_add pe_int (pe_call GT hr1 rfl gT FT.kp bT .nil pass0 (pa_cons (pv 0) (pa_cons (pv 1) pa_nil)))) pa_nil)))))))
      (pss_cons (ps_set (i := 7) scGroups.nd rfl (Or.inr rfl) (pe_callTy (call_dictP rfl) (by rfl) gd (by decide +kernel) (pa_cons (pe_lc (own := [("_law_group", 5), ("_law_check", 6)]) (tt := tYes) rfl scGroups.nd
          (pi_zip (by rfl) gz (pa_cons (pe_slice sl_list (pv 2) po_none (po_some (pv 3))) (pa_cons (pv 4) pa_nil)))
          (blkOk_by (N := NG) (sc := defScope (topAt iGroups)) (by decide +kernel))
          (fun _ _ _ _ _ => (show PG _ _ (gTup K 2 _) from pg_tup rfl (pgs_cons (pg_name (i := 5) scGroups.nd rfl (Or.inl rfl)) (pgs_cons (pg_name (i := 6) scGroups.nd rfl (Or.inl rfl)) pgs_nil)))) (fun _ _ _ _ _ => pts_nil)
          (fun _ _ _ _ _ => pe_tup (pa_cons (pv 5) (pa_cons (pe_lst (pa_cons (pv 6) pa_nil)) pa_nil)))) pa_nil)))
      (pss_cons (ps_for PassesOwn.never rfl (pi_list (pe_slice sl_list (pv 4) (po_some (pv 3)) po_none)) (pg_name (i := 6) scGroups.nd rfl (Or.inl rfl))
          (pss_one (ps_expr (pe_bm PySem.F.plainAttrs_list PySem.F.slot_list_append PySem.F.type_list_append mt_append
            (pe_dget hu1 (pv 7) (pe_call GO hr2 rfl gO FO.kp bO .nil pass0 (pa_cons (pv 0) (pa_cons (pe_slice sl_list (pv 2) po_none (po_some (pv 3))) pa_nil))) (fun _ _ => rfl)) (pa_cons (pv 6) pa_nil)))))
      (pss_one (ps_ret (pe_callTy call_tuple_of (by rfl) gt (by decide +kernel) (pa_cons (pe_callB (NL.cr_sortedN hu30) (by rfl) gs PyProof.Rows.boot_sorted (pa_cons
          (pe_lock (pe_lc (own := [("_law_group", 5)]) (g := gName 5) (tt := tYes) rfl scGroups.nd (pi_keys (pv 7)) (blkOk_by (N := NG) (sc := defScope (topAt iGroups)) (by decide +kernel))
            (fun _ _ _ _ _ => pg_name (i := 5) scGroups.nd rfl (Or.inl rfl)) (fun _ _ _ _ _ => pts_nil)
            (fun _ _ _ _ _ => pe_tup (pa_cons (pv 5) (pa_cons (pe_callTy (show CallR _ (.type "tuple") (rTupOf K) from call_tuple_of) (by rfl) gt (by decide +kernel) (pa_cons (pe_callB (show CallR _ (.builtin "sorted") (rSortedS K) from cr_sortedS) (by rfl) gs PyProof.Rows.boot_sorted
              (pa_cons (pe_dget hu1 (pv 7) (pv 5) (fun _ _ => rfl)) pa_nil)) pa_nil)) pa_nil))))) pa_nil)) pa_nil)))))))), ?_⟩
    -- the names, the number of groups
    refine ⟨_, rfl, J, 9, c, rfl, by decide, hJ, by omega, fun l ns H1 nl hl len nm kp1 j1 => ?_⟩
    refine ⟨_, rfl, by decide, fun l2 nl2 => ?_⟩
    have jl2 := j1.ne nl2
    have lJ : l ≠ J := hJ.ne nl
    refine ⟨J, _, c + 10, rfl, j1.new nl2, by omega, .inl ⟨l2, [.int 1, .int 1, .int 2, .int 2, .int 3], rfl, jl2, upd_same, by simp, by decide, fun i v H2 hv kp2 j2 => ?_⟩⟩
    have hv3 : ∃ n : Nat, v = .int (n : Int) ∧ 1 ≤ n ∧ n ≤ 3 := by
      have hm := List.mem_of_getElem? hv
      simp only [List.mem_cons, List.not_mem_nil, or_false] at hm
      rcases hm with h | h | h | h | h <;> subst h
      · exact ⟨1, rfl, by decide, by decide⟩
      · exact ⟨1, rfl, by decide, by decide⟩
      · exact ⟨2, rfl, by decide, by decide⟩
      · exact ⟨2, rfl, by decide, by decide⟩
      · exact ⟨3, rfl, by decide, by decide⟩
    obtain ⟨n, rfl, n1, n3⟩ := hv3
    have k2 : Kp J H H2 := (kp1.new nl2).trans kp2
    have hl2 : H2 l = some (.lst (ns.map V.str)) := kp2 _ _ (by rw [upd_ne (ne_of_none hl nl2)]; exact hl) lJ
    refine ⟨_, _, rfl, ?_⟩
    -- the checks
    refine ⟨_, rfl, _, rfl, _, rfl, _, rfl, _, rfl, _, rfl, _, rfl, J, _, c + 11, rfl, j2, by omega, by omega, by omega, fun r H3 r0 r1 kp3 j3 => ?_⟩
    obtain ⟨rn, rfl⟩ := Int.eq_ofNat_of_zero_le r0
    refine ⟨_, _, rfl, rfl, _, _, rfl, _, _, rfl, rfl, _, rfl, ?_⟩
    have hl3 : H3 l = some (.lst (ns.map V.str)) := kp3 _ _ hl2 lJ
    have k3 : Kp J H H3 := k2.trans kp3
    obtain ⟨m, em, nm9, m4, m1⟩ : ∃ m : Nat, (n : Int) + (if 1 + (rn : Int) > (n : Int) then 1 + (rn : Int) else (n : Int)) = ((n + m : Nat) : Int) ∧ n + m ≤ 9 ∧ m ≤ 4 ∧ n ≤ m := by
      by_cases hgt : 1 + (rn : Int) > (n : Int)
      · exact ⟨1 + rn, by rw [if_pos hgt]; omega, by omega, by omega, by omega⟩
      · exact ⟨n, by rw [if_neg hgt]; omega, by omega, by omega, by omega⟩
    refine ⟨l, _, rfl, SqL.of hl3, fun p4 np4 => ?_⟩
    have lns : (ns.map V.str).length = 9 := by rw [List.length_map, len]
    have e4 : cutV (ns.map V.str) (some (n : Int)) (some ((n : Int) + (if 1 + (rn : Int) > (n : Int) then 1 + (rn : Int) else (n : Int)))) = ((ns.drop n).take m).map V.str := by
      rw [em, cutV_mid (by omega) (by omega), List.map_take, List.map_drop]
      congr 1
      omega
    rw [e4]
    obtain ⟨cs, ecs⟩ : ∃ cs, (ns.drop n).take m = cs := ⟨_, rfl⟩
    rw [ecs]
    have lcs : cs.length = m := by rw [← ecs, List.length_take, List.length_drop, len]; omega
    have k4 := k3.new (o := .lst (cs.map V.str)) np4
    have j4 := j3.new (o := .lst (cs.map V.str)) np4
    have hl4 : upd H3 p4 (.lst (cs.map V.str)) l = some (.lst (ns.map V.str)) := by rw [upd_ne (ne_of_none hl3 np4)]; exact hl3
    have hp4 : upd H3 p4 (.lst (cs.map V.str)) p4 = some (.lst (cs.map V.str)) := upd_same
    have np4H : H p4 = none := k3.none j3 np4
    have p4J := j3.ne np4
    clear e4 em
    generalize upd H3 p4 (.lst (cs.map V.str)) = H4 at k4 j4 hl4 hp4 ⊢
    -- the pairs of a group and a list of its first check
    refine ⟨_, rfl, _, rfl, _, rfl, l, _, rfl, SqL.of hl4, fun p5 np5 => ?_⟩
    rw [cutV_to (by omega : n ≤ (ns.map V.str).length), ← List.map_take]
    obtain ⟨gn, egn⟩ : ∃ gn, ns.take n = gn := ⟨_, rfl⟩
    rw [egn]
    have lgn : gn.length = n := by rw [← egn, List.length_take, len]; omega
    have k5 := k4.new (o := .lst (gn.map V.str)) np5
    have j5 := j4.new (o := .lst (gn.map V.str)) np5
    have hl5 : upd H4 p5 (.lst (gn.map V.str)) l = some (.lst (ns.map V.str)) := by rw [upd_ne (ne_of_none hl4 np5)]; exact hl4
    have hp5 : upd H4 p5 (.lst (gn.map V.str)) p5 = some (.lst (gn.map V.str)) := upd_same
    have hq5 : upd H4 p5 (.lst (gn.map V.str)) p4 = some (.lst (cs.map V.str)) := by rw [upd_ne (ne_of_none hp4 np5)]; exact hp4
    have p5J := j4.ne np5
    generalize upd H4 p5 (.lst (gn.map V.str)) = H5 at k5 j5 hl5 hp5 hq5 ⊢
    refine ⟨_, rfl, p5, p4, _, _, rfl, SqL.of hp5, SqL.of hq5, fun D nD => lc_zip (K := K) (a := p5) (b := p4) (xs := gn.map V.str) (ys := cs.map V.str) (by rw [List.length_map, List.length_map]; omega)
      (fun i H' => ∃ ts rs : List Addr, ts.length = i ∧ rs.length = i ∧ H' D = some (.lst (ts.map V.ref)) ∧ (∀ (k : Nat) (t r : Addr) (g c' : Str), ts[k]? = some t → rs[k]? = some r → gn[k]? = some g → cs[k]? = some c' → H' t = some (.tup [.str g, .ref r]) ∧ H' r = some (.lst [.str c']) ∧ t ≠ D ∧ r ≠ D) ∧
        rs.Nodup ∧ (∀ r ∈ rs, H5 r = none) ∧ Kp J H5 H' ∧ Jar J H' (c + 12)) ⟨[], [], rfl, rfl, upd_same, fun k t r g c' h => (nomatch h), List.nodup_nil, fun _ h => (nomatch h), (Kp.refl J H5).new nD, j5.new nD⟩ ?_ ?_ ?_⟩
    · rintro i H' _ ⟨ts, rs, _, _, _, _, _, _, kp, _⟩
      exact ⟨SqL.of (kp _ _ hp5 p5J), SqL.of (kp _ _ hq5 p4J)⟩
    · rintro i x y T H6 hx hy ⟨ts, rs, l1, l2, hD, all, nd, out, kp, j6⟩ nT
      rw [List.getElem?_map] at hx hy
      obtain ⟨g, hg, rfl⟩ := Option.map_eq_some_iff.mp hx
      obtain ⟨c', hc', rfl⟩ := Option.map_eq_some_iff.mp hy
      have DJ : D ≠ J := j5.ne nD
      refine ⟨T, _, rfl, SqT.of upd_same, rfl, _, _, rfl, _, _, rfl, rfl, rfl, ?_⟩
      refine ⟨_, rfl, _, rfl, (by show (1 : Nat) ≤ sizeLine; decide), fun r nr => ?_⟩
      refine ⟨(by show (2 : Nat) ≤ sizeLine; decide), fun t nt => ?_⟩
      have D6 : upd H6 T (.tup [.str g, .str c']) D = some (.lst (ts.map V.ref)) := by rw [upd_ne (ne_of_none hD nT)]; exact hD
      have rD : r ≠ D := fun z => by subst z; rw [D6] at nr; cases nr
      have rH6 : H6 r = none := by
        cases e : H6 r with
        | none => rfl
        | some o => rw [upd_ne (ne_of_none e nT), e] at nr; cases nr
      have r5 : H5 r = none := kp.none j6 rH6
      have tr : t ≠ r := fun z => by subst z; rw [upd_same] at nt; cases nt
      have tD : t ≠ D := fun z => by subst z; rw [upd_ne (Ne.symm rD), D6] at nt; cases nt
      refine ⟨ts.map V.ref, ?_, ?_, ts ++ [t], rs ++ [r], by simp [l1], by simp [l2], ?_, ?_, ?_, ?_, ?_, ?_⟩
      · rw [upd_ne (Ne.symm tD), upd_ne (Ne.symm rD)]
        exact D6
      · rw [List.length_map, l1, sizeLine_eq]
        have := (List.getElem?_eq_some_iff.mp hg).1
        omega
      · rw [upd_same, List.map_append]
        rfl
      · intro k t' r' g' c2 h1 h2 h3 h4
        have old : ∀ b o, H6 b = some o → b ≠ D → upd (upd (upd (upd H6 T (.tup [.str g, .str c'])) r (.lst [.str c'])) t (.tup [.str g, .ref r])) D (.lst (ts.map V.ref ++ [.ref t])) b = some o := fun b o e nb => by
          have e1 : upd H6 T (.tup [.str g, .str c']) b = some o := by rw [upd_ne (ne_of_none e nT)]; exact e
          have e2 : upd (upd H6 T (.tup [.str g, .str c'])) r (.lst [.str c']) b = some o := by rw [upd_ne (ne_of_none e1 nr)]; exact e1
          rw [upd_ne nb, upd_ne (ne_of_none e2 nt)]
          exact e2
        by_cases hk : k < i
        · have ht : ts[k]? = some t' := by rw [List.getElem?_append_left (by omega)] at h1; exact h1
          have hr' : rs[k]? = some r' := by rw [List.getElem?_append_left (by omega)] at h2; exact h2
          obtain ⟨a1, a2, a3, a4⟩ := all k t' r' g' c2 ht hr' h3 h4
          exact ⟨old _ _ a1 a3, old _ _ a2 a4, a3, a4⟩
        · have hki : k = i := by
            have := (List.getElem?_eq_some_iff.mp h1).1
            rw [List.length_append, l1] at this
            simp only [List.length_singleton] at this
            omega
          subst hki
          rw [List.getElem?_append_right (by omega), l1, Nat.sub_self] at h1
          rw [List.getElem?_append_right (by omega), l2, Nat.sub_self] at h2
          obtain rfl : t = t' := Option.some.inj h1
          obtain rfl : r = r' := Option.some.inj h2
          obtain rfl : g = g' := Option.some.inj (hg.symm.trans h3)
          obtain rfl : c' = c2 := Option.some.inj (hc'.symm.trans h4)
          refine ⟨by rw [upd_ne tD, upd_same], by rw [upd_ne rD, upd_ne (Ne.symm tr), upd_same], tD, rD⟩
      · rw [List.nodup_append]
        refine ⟨nd, by simp, fun a ha b hb e => ?_⟩
        rw [List.mem_singleton] at hb
        subst hb
        subst e
        obtain ⟨k, hk⟩ := List.mem_iff_getElem?.mp ha
        have kl : k < i := by rw [← l2]; exact (List.getElem?_eq_some_iff.mp hk).1
        have kg : k < gn.length := by have := (List.getElem?_eq_some_iff.mp hg).1; omega
        have kc : k < cs.length := by have := (List.getElem?_eq_some_iff.mp hc').1; omega
        obtain ⟨_, a2, _, _⟩ := all k _ _ _ _ (List.getElem?_eq_getElem (by rw [l1]; exact kl)) hk (List.getElem?_eq_getElem kg) (List.getElem?_eq_getElem kc)
        rw [rH6] at a2
        cases a2
      · intro a ha
        rcases List.mem_append.mp ha with h | h
        · exact out a h
        · rw [List.mem_singleton.mp h]
          exact r5
      · exact (((kp.new nT).new nr).new nt).put nD
      · exact (((j6.new nT).new nr).new nt).put DJ
    · rintro H6 ⟨ts, rs, l1, l2, hD, all, nd, out, kp6, j6⟩
      rw [List.length_map, lgn] at l1 l2
      have ndg : gn.Nodup := by rw [← egn]; exact List.Nodup.sublist (List.take_sublist _ _) nm.1
      have lgr : gn.length = rs.length := by rw [lgn, l2]
      have hkeys : ((([] : List (L2.Key × V)) ++ kvT gn rs).map (·.1)).Nodup := by rw [List.nil_append, kvT_keys lgr]; exact List.pairwise_map.mpr (ndg.imp fun ne e => ne (Sum.inr.inj e))
      have ge : ∀ k, k < n → ∃ g r c', gn[k]? = some g ∧ rs[k]? = some r ∧ cs[k]? = some c' := fun k hk =>
        ⟨_, _, _, List.getElem?_eq_getElem (by omega), List.getElem?_eq_getElem (by omega), List.getElem?_eq_getElem (by omega)⟩
      refine ⟨D, ts, kvT gn rs, rfl, SqL.of hD, paired_idx _ _ (by rw [kvT_len lgr, l1, lgn]) (fun k t kv h1 h2 => ?_), fun d nd' => ?_⟩
      · obtain ⟨g, r, c', hg, hr', hc'⟩ := ge k (by rw [← l1]; exact (List.getElem?_eq_some_iff.mp h1).1)
        obtain rfl : (Sum.inr g, V.ref r) = kv := Option.some.inj ((kvT_at hg hr').symm.trans h2)
        exact SqT.of (all k t r g c' h1 hr' hg hc').1
      rw [mergeK_new _ _ hkeys, List.nil_append]
      -- the other checks go where they are drawn
      have d5 : H5 d = none := kp6.none j6 nd'
      have dH : H d = none := k5.none j5 d5
      have dJ := j6.ne nd'
      have rH : ∀ r ∈ rs, H r = none := fun r hr' => k5.none j5 (out r hr')
      have rd : ∀ r ∈ rs, r ≠ d := fun r hr' z => by
        subst z
        obtain ⟨k, hk⟩ := List.mem_iff_getElem?.mp hr'
        obtain ⟨g, r', c', hg, hr2, hc'⟩ := ge k (by rw [← l2]; exact (List.getElem?_eq_some_iff.mp hk).1)
        obtain rfl : r' = r := Option.some.inj (hr2.symm.trans hk)
        obtain ⟨_, a2, _⟩ := all k _ _ g c' (List.getElem?_eq_getElem (by rw [l1, ← l2]; exact (List.getElem?_eq_some_iff.mp hk).1)) hk hg hc'
        rw [nd'] at a2
        cases a2
      have kS : Kp J H (upd H6 d (.dK (kvT gn rs))) := (k5.trans kp6).new nd'
      have jS := j6.new (o := .dK (kvT gn rs)) nd'
      have lS : upd H6 d (.dK (kvT gn rs)) l = some (.lst (ns.map V.str)) := kp6.new nd' _ _ hl5 lJ
      have cS : upd H6 d (.dK (kvT gn rs)) p4 = some (.lst (cs.map V.str)) := kp6.new nd' _ _ hq5 p4J
      have dS : upd H6 d (.dK (kvT gn rs)) d = some (.dK (kvT gn rs)) := upd_same
      have rS : ∀ (k : Nat) (r : Addr) (cl : List Str), rs[k]? = some r → ((cs.take n).map fun c' => [c'])[k]? = some cl → upd H6 d (.dK (kvT gn rs)) r = some (.lst (cl.map V.str)) ∧ cl ≠ [] := fun k r cl h1 h2 => by
        obtain ⟨g, r', c', hg, hr2, hc'⟩ := ge k (by rw [← l2]; exact (List.getElem?_eq_some_iff.mp h1).1)
        obtain rfl : r' = r := Option.some.inj (hr2.symm.trans h1)
        have kl : k < n := by rw [← l2]; exact (List.getElem?_eq_some_iff.mp h1).1
        rw [List.getElem?_map, List.getElem?_take_of_lt kl, hc'] at h2
        obtain rfl : [c'] = cl := Option.some.inj h2
        obtain ⟨_, a2, _⟩ := all k _ _ g c' (List.getElem?_eq_getElem (by rw [l1, ← l2]; exact (List.getElem?_eq_some_iff.mp h1).1)) h1 hg hc'
        refine ⟨?_, by simp⟩
        rw [upd_ne (rd _ (List.mem_of_getElem? h1))]
        exact a2
      have neS : ∀ r ∈ rs, r ≠ l ∧ r ≠ p4 := fun r hr' => ⟨fun z => (by have h0 := out r hr'; rw [z, hl5] at h0; cases h0), fun z => (by have h0 := out r hr'; rw [z, hq5] at h0; cases h0)⟩
      have dl : d ≠ l := fun z => by rw [z, hl5] at d5; cases d5
      generalize upd H6 d (.dK (kvT gn rs)) = H7 at kS jS lS cS dS rS ⊢
      clear hD all kp6 j6 nd' H6
      refine ⟨_, rfl, _, rfl, _, rfl, p4, _, rfl, SqL.of cS, fun p7 np7 => ?_⟩
      rw [cutV_from (by rw [List.length_map]; omega : n ≤ (cs.map V.str).length), ← List.map_drop]
      have p7J := jS.ne np7
      have k7 := kS.new (o := .lst ((cs.drop n).map V.str)) np7
      have j7 := jS.new (o := .lst ((cs.drop n).map V.str)) np7
      have f7 : ∀ b o, H7 b = some o → upd H7 p7 (.lst ((cs.drop n).map V.str)) b = some o := fun b o e => by rw [upd_ne (ne_of_none e np7)]; exact e
      have h77 : upd H7 p7 (.lst ((cs.drop n).map V.str)) p7 = some (.lst ((cs.drop n).map V.str)) := upd_same
      have ne7 : ∀ r ∈ rs, r ≠ p7 := fun r hr' z => by
        obtain ⟨k, hk⟩ := List.mem_iff_getElem?.mp hr'
        obtain ⟨g, r', c', hg, hr2, hc'⟩ := ge k (by rw [← l2]; exact (List.getElem?_eq_some_iff.mp hk).1)
        have a2 := (rS k r [c'] hk (by rw [List.getElem?_map, List.getElem?_take_of_lt (by rw [← l2]; exact (List.getElem?_eq_some_iff.mp hk).1), hc']; rfl)).1
        rw [z, np7] at a2
        cases a2
      have l7 := f7 _ _ lS
      have d7 := f7 _ _ dS
      have r7 : ∀ (k : Nat) (r : Addr) (cl : List Str), rs[k]? = some r → ((cs.take n).map fun c' => [c'])[k]? = some cl → upd H7 p7 (.lst ((cs.drop n).map V.str)) r = some (.lst (cl.map V.str)) ∧ cl ≠ [] := fun k r cl h1 h2 => ⟨f7 _ _ (rS k r cl h1 h2).1, (rS k r cl h1 h2).2⟩
      have d7n : d ≠ p7 := fun z => by rw [z, np7] at dS; cases dS
      generalize upd H7 p7 (.lst ((cs.drop n).map V.str)) = H8 at k7 j7 h77 l7 d7 r7 ⊢
      clear rS cS lS dS jS kS f7 np7 H7
      refine ⟨p7, rfl, ⟨_, SqL.of h77⟩, for_list (K := K) (a := p7) (xs := (cs.drop n).map V.str)
        (fun i σ H' => ∃ (a6 : Option V) (css : List (List Str)), σ = [some (.ref J), some (.int most), some (.ref l), some (.int n), some (.ref p4), none, a6, some (.ref d)] ∧ css.length = n ∧ css.flatten.Perm (cs.take (n + i)) ∧
          (∀ (k : Nat) (r : Addr) (cl : List Str), rs[k]? = some r → css[k]? = some cl → H' r = some (.lst (cl.map V.str)) ∧ cl ≠ []) ∧ H' l = some (.lst (ns.map V.str)) ∧ H' d = some (.dK (kvT gn rs)) ∧ H' p7 = some (.lst ((cs.drop n).map V.str)) ∧ Kp J H H' ∧ Jar J H' (c + 12 + i))
        ⟨_, (cs.take n).map fun c' => [c'], rfl, by rw [List.length_map, List.length_take]; omega, ?_, r7, l7, d7, h77, k7, j7⟩ (fun i σ H' _ ⟨_, _, _, _, _, _, _, _, h, _⟩ => SqL.of h) ?_ ?_⟩
      · rw [Nat.add_zero]
        have : ∀ q : List Str, (q.map fun c' => [c']).flatten = q := fun q => by
          induction q with
          | nil => rfl
          | cons a q ih => rw [List.map_cons, List.flatten_cons, ih]; rfl
        rw [this]
      · rintro i x σ H9 hx ⟨a6, css, rfl, lc, pc, rc, e1, e2, e3, k9, j9⟩
        rw [List.getElem?_map] at hx
        obtain ⟨ex, hex, rfl⟩ := Option.map_eq_some_iff.mp hx
        have iN : n + i < cs.length := by
          have := (List.getElem?_eq_some_iff.mp hex).1
          rw [List.length_drop] at this
          omega
        refine ⟨_, rfl, _, rfl, _, rfl, _, rfl, _, rfl, l, _, rfl, SqL.of e1, fun q1 nq1 => ?_⟩
        rw [cutV_to (by omega : n ≤ (ns.map V.str).length), ← List.map_take, egn]
        have q1J := j9.ne nq1
        have f9 : ∀ b o, H9 b = some o → upd H9 q1 (.lst (gn.map V.str)) b = some o := fun b o e => by rw [upd_ne (ne_of_none e nq1)]; exact e
        have iB : i < 10 := by omega
        refine ⟨J, _, c + 12 + i, rfl, j9.new nq1, by omega, .inl ⟨q1, gn.map V.str, rfl, q1J, upd_same, fun z => ?_, by rw [List.length_map]; omega, fun k v H10 hv kp10 j10 => ?_⟩⟩
        · have h0 := congrArg List.length z
          rw [List.length_map, lgn] at h0
          simp at h0
          omega
        rw [List.getElem?_map] at hv
        obtain ⟨g, hg, rfl⟩ := Option.map_eq_some_iff.mp hv
        have kn : k < n := by rw [← lgn]; exact (List.getElem?_eq_some_iff.mp hg).1
        obtain ⟨_, r, _, _, hr', _⟩ := ge k kn
        have hcl : css[k]? = some css[k] := List.getElem?_eq_getElem (by omega)
        have hrm := List.mem_of_getElem? hr'
        have rJ : r ≠ J := fun z => by
          obtain ⟨_, _, _, ej, _⟩ := j9
          have h0 := (rc k r _ hr' hcl).1
          rw [z, ej] at h0
          have hh := rH r hrm
          rw [z] at hh
          obtain ⟨_, _, _, ej0, _⟩ := hJ
          rw [ej0] at hh
          cases hh
        have keep : ∀ b o, H9 b = some o → b ≠ J → H10 b = some o := fun b o e nb => kp10 _ _ (f9 _ _ e) nb
        have hr10 := keep _ _ (rc k r _ hr' hcl).1 rJ
        have szc : css[k].length ≤ 9 := by
          have h0 := pc.length_eq
          rw [List.length_flatten, List.length_take] at h0
          have h1 : css[k].length ≤ (css.map List.length).sum := le_sum_mem (List.mem_map_of_mem (List.mem_of_getElem? hcl))
          omega
        refine ⟨d, .ref r, rfl, (kvT_val ndg lgr hg hr') ▸ DGet.k (k := Sum.inr g) (keep _ _ e2 dJ), .inl ⟨rfl, _, SqL.of hr10⟩, _, rfl, r, _, _, rfl, rfl, hr10, by rw [List.length_map, sizeLine_eq]; omega, ?_⟩
        have hex2 : cs[n + i]? = some ex := by rw [← List.getElem?_drop]; exact hex
        have two : ∀ b o, H9 b = some o → b ≠ J → b ≠ r → upd H10 r (.lst (css[k].map V.str ++ [.str ex])) b = some o := fun b o e n1 n2 => by rw [upd_ne n2]; exact keep b o e n1
        refine ⟨_, css.set k (css[k] ++ [ex]), rfl, by rw [List.length_set]; exact lc, ?_, fun k' r' cl h1 h2 => ?_, two _ _ e1 lJ (Ne.symm (neS r hrm).1), two _ _ e2 dJ (Ne.symm (rd r hrm)), two _ _ e3 p7J (Ne.symm (ne7 r hrm)),
          ((k9.new nq1).trans kp10).put (rH r hrm), (j10.put rJ)⟩
        · refine (flat_set hcl).trans ?_
          rw [← Nat.add_assoc, List.take_succ, hex2]
          exact List.Perm.append_right _ pc
        · by_cases hk : k' = k
          · subst hk
            obtain rfl : r = r' := Option.some.inj (hr'.symm.trans h1)
            rw [List.getElem?_set_self (by omega)] at h2
            obtain rfl := Option.some.inj h2
            refine ⟨?_, by simp⟩
            rw [upd_same, List.map_append]
            rfl
          · rw [List.getElem?_set_ne (Ne.symm hk)] at h2
            have hr2 := List.mem_of_getElem? h1
            have ner : r' ≠ r := fun z => by
              subst z
              exact hk ((List.getElem?_inj (List.getElem?_eq_some_iff.mp h1).1 nd).mp (h1.trans hr'.symm))
            have r'J : r' ≠ J := fun z => by
              have hh := rH r' hr2
              rw [z] at hh
              obtain ⟨_, _, _, ej0, _⟩ := hJ
              rw [ej0] at hh
              cases hh
            exact ⟨two _ _ (rc k' r' cl h1 h2).1 r'J ner, (rc k' r' cl h1 h2).2⟩
      · rintro σ H9 ⟨a6, css, rfl, lc, pc, rc, e1, e2, e3, k9, j9⟩
        have lds : n + ((cs.drop n).map V.str).length = cs.length := by rw [List.length_map, List.length_drop]; omega
        rw [lds, List.take_length] at pc
        refine ⟨d, .dK (kvT gn rs), e2, trivial, fun od => ?_⟩
        have oF : ∀ b o, H9 b = some o → b ≠ d → upd H9 d (.frz od (.dK (kvT gn rs))) b = some o := fun b o e nb => by rw [upd_ne nb]; exact e
        have dF : upd H9 d (.frz od (.dK (kvT gn rs))) d = some (.frz od (.dK (kvT gn rs))) := upd_same
        have back : ∀ H' : Hp, (∀ b o, upd H9 d (.frz od (.dK (kvT gn rs))) b = some o → H' b = some o) → ∀ b o, H9 b = some o → upd H' d (.dK (kvT gn rs)) b = some o := fun H' st b o e => by
          by_cases hb : b = d
          · subst hb
            rw [upd_same]
            exact e2.symm.trans e
          · rw [upd_ne hb]
            exact st _ _ (oF b o e hb)
        generalize upd H9 d (.frz od (.dK (kvT gn rs))) = HF at oF dF back ⊢
        refine ⟨_, rfl, d, od, rfl, .inl ⟨kvT gn rs, dF, fun D2 nD2 => lc_keys (d := d) (o := od) (kvs := kvT gn rs)
          (fun i H' => ∃ z : ZG, z.length = i ∧ H' D2 = some (.lst (z.map fun x => V.ref x.1)) ∧ ZOk gn css z H' ∧ (∀ b o, HF b = some o → H' b = some o) ∧ ∀ x ∈ z, HF x.1 = none ∧ HF x.2.1 = none ∧ x.1 ≠ D2 ∧ x.2.1 ≠ D2)
          ⟨[], rfl, upd_same, fun k x h => (nomatch h), fun b o e => by rw [upd_ne (ne_of_none e nD2)]; exact e, fun x h => (nomatch h)⟩ (fun i H' _ ⟨_, _, _, _, h, _⟩ => h _ _ dF) ?_ ?_⟩⟩
        · rintro i kk v H' hkv ⟨z, lz, hD2, zok, st, zn⟩
          have ig : i < n := by have := (List.getElem?_eq_some_iff.mp hkv).1; rw [kvT_len lgr, lgn] at this; exact this
          obtain ⟨g, r, _, hg, hr', _⟩ := ge i ig
          obtain ⟨rfl, rfl⟩ := Prod.mk.inj (Option.some.inj ((kvT_at hg hr').symm.trans hkv))
          have hcl : css[i]? = some css[i] := List.getElem?_eq_getElem (by omega)
          have hr9 := st _ _ (oF _ _ (rc i r _ hr' hcl).1 (rd r (List.mem_of_getElem? hr')))
          have szc : css[i].length ≤ 9 := by
            have h0 := pc.length_eq
            rw [List.length_flatten] at h0
            have h1 : css[i].length ≤ (css.map List.length).sum := le_sum_mem (List.mem_map_of_mem (List.mem_of_getElem? hcl))
            omega
          refine ⟨rfl, ?_⟩
          refine ⟨_, rfl, _, rfl, _, rfl, d, .ref r, rfl, .inl ⟨_, Sum.inr g, .inr ⟨od, st _ _ dF⟩, rfl, (kvT_val ndg lgr hg hr').symm⟩, r, css[i], rfl, SqL.of hr9, by omega, fun ys p hperm hsort np => ?_⟩
          refine ⟨p, _, rfl, .inl ⟨SqL.of upd_same, fun q1 nq1 => ?_⟩⟩
          refine ⟨(by show (2 : Nat) ≤ sizeLine; decide), fun t nt => ?_⟩
          have s1 : ∀ b o, H' b = some o → upd H' p (.lst (ys.map V.str)) b = some o := fun b o e => by rw [upd_ne (ne_of_none e np)]; exact e
          have s2 : ∀ b o, H' b = some o → upd (upd H' p (.lst (ys.map V.str))) q1 (.tup (ys.map V.str)) b = some o := fun b o e => by rw [upd_ne (ne_of_none (s1 b o e) nq1)]; exact s1 b o e
          have s3 : ∀ b o, H' b = some o → upd (upd (upd H' p (.lst (ys.map V.str))) q1 (.tup (ys.map V.str))) t (.tup [kV (Sum.inr g), .ref q1]) b = some o := fun b o e => by rw [upd_ne (ne_of_none (s2 b o e) nt)]; exact s2 b o e
          have q3 : upd (upd (upd H' p (.lst (ys.map V.str))) q1 (.tup (ys.map V.str))) t (.tup [kV (Sum.inr g), .ref q1]) q1 = some (.tup (ys.map V.str)) := by
            have e : upd (upd H' p (.lst (ys.map V.str))) q1 (.tup (ys.map V.str)) q1 = some (.tup (ys.map V.str)) := upd_same
            rw [upd_ne (ne_of_none e nt)]
            exact e
          have t3 : upd (upd (upd H' p (.lst (ys.map V.str))) q1 (.tup (ys.map V.str))) t (.tup [kV (Sum.inr g), .ref q1]) t = some (.tup [.str g, .ref q1]) := upd_same
          have nn : ∀ b, upd H' p (.lst (ys.map V.str)) b = none → H' b = none := fun b e => by
            cases e2 : H' b with
            | none => rfl
            | some o => rw [s1 b o e2] at e; cases e
          have nn2 : ∀ b, upd (upd H' p (.lst (ys.map V.str))) q1 (.tup (ys.map V.str)) b = none → H' b = none := fun b e => by
            cases e2 : H' b with
            | none => rfl
            | some o => rw [s2 b o e2] at e; cases e
          have qn := nn q1 nq1
          have tn := nn2 t nt
          generalize upd (upd (upd H' p (.lst (ys.map V.str))) q1 (.tup (ys.map V.str))) t (.tup [kV (Sum.inr g), .ref q1]) = H2' at s3 q3 t3 ⊢
          have qD : q1 ≠ D2 := fun zz => by rw [zz, hD2] at qn; cases qn
          have tD : t ≠ D2 := fun zz => by rw [zz, hD2] at tn; cases tn
          have hf : ∀ b, H' b = none → HF b = none := fun b e => by
            cases e2 : HF b with
            | none => rfl
            | some o => rw [st b o e2] at e; cases e
          have keep : ∀ b o, H2' b = some o → b ≠ D2 → upd H2' D2 (.lst (z.map (fun x => V.ref x.1) ++ [.ref t])) b = some o := fun b o e nb => by rw [upd_ne nb]; exact e
          refine ⟨_, s3 _ _ hD2, by rw [List.length_map, lz, sizeLine_eq]; omega, z ++ [(t, q1, g, ys)], by simp [lz], by rw [upd_same, List.map_append]; rfl, fun k x hx => ?_, fun b o e => keep b o (s3 b o (st b o e)) (ne_of_none e nD2), fun x hx => ?_⟩
          · by_cases hk : k < i
            · rw [List.getElem?_append_left (by omega)] at hx
              obtain ⟨a1, a2, a3, a4, a5⟩ := zok k x hx
              obtain ⟨_, _, n1', n2'⟩ := zn x (List.mem_of_getElem? hx)
              exact ⟨a1, a2, a3, keep _ _ (s3 _ _ a4) n1', keep _ _ (s3 _ _ a5) n2'⟩
            · have hki : k = i := by
                have := (List.getElem?_eq_some_iff.mp hx).1
                rw [List.length_append, lz] at this
                simp only [List.length_singleton] at this
                omega
              subst hki
              rw [List.getElem?_append_right (by omega), lz, Nat.sub_self] at hx
              obtain rfl := Option.some.inj hx
              exact ⟨hg, ⟨_, hcl, hperm, (rc k r _ hr' hcl).2⟩, hsort, keep _ _ t3 tD, keep _ _ q3 qD⟩
          · rcases List.mem_append.mp hx with h | h
            · exact zn x h
            · rw [List.mem_singleton.mp h]
              exact ⟨hf t tn, hf q1 qn, tD, qD⟩
        · rintro H' ⟨z, lz, hD2, zok, st, zn⟩
          rw [kvT_len lgr, lgn] at lz
          refine ⟨st _ _ dF, ?_⟩
          have b9 := back H' st
          have dne : ∀ x ∈ z, x.1 ≠ d ∧ x.2.1 ≠ d := fun x hx => ⟨fun zz => (by have h0 := (zn x hx).1; rw [zz, dF] at h0; cases h0), fun zz => (by have h0 := (zn x hx).2.1; rw [zz, dF] at h0; cases h0)⟩
          have zok' : ∀ x ∈ z, upd H' d (.dK (kvT gn rs)) x.1 = some (.tup [.str x.2.2.1, .ref x.2.1]) ∧ upd H' d (.dK (kvT gn rs)) x.2.1 = some (.tup (x.2.2.2.map V.str)) := fun x hx => by
            obtain ⟨k, hk⟩ := List.mem_iff_getElem?.mp hx
            obtain ⟨_, _, _, a4, a5⟩ := zok k x hk
            exact ⟨by rw [upd_ne (dne x hx).1]; exact a4, by rw [upd_ne (dne x hx).2]; exact a5⟩
          have D2d : D2 ≠ d := fun zz => by rw [zz, dF] at nD2; cases nD2
          have hD2' : upd H' d (.dK (kvT gn rs)) D2 = some (.lst (z.map fun x => V.ref x.1)) := by rw [upd_ne D2d]; exact hD2
          generalize upd H' d (.dK (kvT gn rs)) = HG at b9 zok' hD2' ⊢
          have kG : Kp J H HG := fun b o e nb => b9 b o (k9 b o e nb)
          have jG : Jar J HG (c + 20) := by
            obtain ⟨m', s', k', e, z1, z2, z3, z4, z5, z6⟩ := j9
            rw [List.length_map, List.length_drop] at z6
            exact ⟨m', s', k', b9 _ _ e, z1, z2, z3, z4, z5, by omega⟩
          have dp : ∀ x ∈ z, Dp K HG (.ref x.1) (gD x.2.2) := fun x hx => by
            obtain ⟨a4, a5⟩ := zok' x hx
            have st : ∀ l : List Str, DpAll K HG (l.map V.str) (l.map PyData.str) := fun l => by
              induction l with
              | nil => exact .nil
              | cons y l ih => exact .cons (.str y) ih
            exact .tup (SqT.of a4) (.cons (.str _) (.cons (.tup (SqT.of a5) (st _)) .nil))
          have gdep : ∀ g : Grp, (gD g).depth ≤ 20 := fun g => by
            have st : ∀ l : List Str, PyData.depthAll (l.map PyData.str) = 0 := fun l => by
              induction l with
              | nil => simp [PyData.depthAll]
              | cons y l ih =>
                rw [List.map_cons, PyData.depthAll, ih]
                simp [PyData.depth]
            simp only [gD, PyData.depth, PyData.depthAll, st]
            omega
          refine ⟨D2, z.map fun x => (V.ref x.1, gD x.2.2), rfl, SqL.of (by rw [hD2', NL.dsV, List.map_map]; rfl), fun b hb => ?_, ?_, .inl fun dd hdd => ?_, fun b hb => ?_, fun p np => ?_⟩
          · obtain ⟨x, hx, rfl⟩ := List.mem_map.mp hb
            exact dp x hx
          · intro d1 h1 d2 h2
            obtain ⟨b1, hb1, rfl⟩ := List.mem_map.mp h1
            obtain ⟨b2, hb2, rfl⟩ := List.mem_map.mp h2
            obtain ⟨x1, _, rfl⟩ := List.mem_map.mp hb1
            obtain ⟨x2, _, rfl⟩ := List.mem_map.mp hb2
            exact gD_alike _ _
          · obtain ⟨b1, hb1, rfl⟩ := List.mem_map.mp hdd
            obtain ⟨x1, _, rfl⟩ := List.mem_map.mp hb1
            exact ⟨_, _, rfl⟩
          · obtain ⟨x, hx, rfl⟩ := List.mem_map.mp hb
            exact gdep _
          have ms : NL.dsV ((z.map fun x => (V.ref x.1, gD x.2.2)).mergeSort (W.dataLe false (·.2))) = (z.mergeSort (W.dataLe false fun x => gD x.2.2)).map fun x => V.ref x.1 := by
            have e := List.map_mergeSort (l := z) (f := fun x : Addr × Addr × Grp => (V.ref x.1, gD x.2.2)) (r := W.dataLe false fun x => gD x.2.2) (s := W.dataLe false fun b : V × PyData => b.2) (fun _ _ _ _ => rfl)
            rw [← e, NL.dsV, List.map_map]
            rfl
          rw [ms]
          have good := good_of nm egn ecs lcs n1 n3 m4 lgn lc pc lz fun k x hx => let ⟨a1, a2, a3, _⟩ := zok k x hx; ⟨a1, a2, a3⟩
          have zm : ∀ x ∈ z.mergeSort (W.dataLe false fun x => gD x.2.2), x ∈ z := fun x hx => (List.mergeSort_perm _ _).mem_iff.mp hx
          generalize z.mergeSort (W.dataLe false fun x => gD x.2.2) = zs at good zm ⊢
          refine ⟨p, _, rfl, .inl ⟨SqL.of upd_same, fun p2 np2 => ?_⟩⟩
          have np1H : H p = none := kG.none jG np
          have np2' : HG p2 = none := by
            cases e : HG p2 with
            | none => rfl
            | some o => rw [upd_ne (ne_of_none e np), e] at np2; cases np2
          refine q p2 (zs.map (·.2.2)) _ (kG.none jG np2') ⟨zs.map fun x => (x.1, x.2.1), by rw [upd_same, List.map_map]; rfl, paired_idx _ _ (by rw [List.length_map, List.length_map]) fun k r g h1 h2 => ?_⟩ good ((kG.new np).new np2) ((jG.new np).new np2)
          rw [List.getElem?_map] at h1 h2
          obtain ⟨x, hx, rfl⟩ := Option.map_eq_some_iff.mp h1
          rw [hx] at h2
          obtain rfl := Option.some.inj h2
          obtain ⟨a4, a5⟩ := zok' x (zm x (List.mem_of_getElem? hx))
          have two : ∀ b o, HG b = some o → upd (upd HG p (.lst (zs.map fun x => V.ref x.1))) p2 (.tup (zs.map fun x => V.ref x.1)) b = some o := fun b o e => by
            have e1 : upd HG p (.lst (zs.map fun x => V.ref x.1)) b = some o := by rw [upd_ne (ne_of_none e np)]; exact e
            rw [upd_ne (ne_of_none e1 np2)]
            exact e1
          exact ⟨two _ _ a4, two _ _ a5⟩
end
end KZ
namespace NL
open PySem PySem.Spec PyProof.Rows L2
section
variable {X : Cx}
/-- d.update(e), both dicts of ints and texts -/
def rUpdK : V → List V → Hp → VK → Prop := fun x xs H Q => ∃ (a b : Addr) (kvs more : List (L2.Key × V)), x = .ref a ∧ xs = [.ref b] ∧ a ≠ b ∧ H a = some (.dK kvs) ∧ H b = some (.dK more) ∧ kvs.length + more.length ≤ sizeLine ∧ Q .non (upd H a (.dK (mergeK kvs more)))
theorem mt_updK : MtR X "dict.update" rUpdK := by
  intro pins s σ H x xs v us Q I rx rxs h
  obtain ⟨a, b, kvs, more, ex, exs, ne, ha, hb, sz, q⟩ := h
  subst ex exs
  obtain rfl : v = Value.ref a := rx
  obtain rfl := Vals.ref1 rxs
  obtain ⟨za, na, va, ra, da⟩ := dk_of I.hok ha
  obtain ⟨zb, nb, vb, rb, db⟩ := dk_of I.hok hb
  have hlen := length_mergeK more kvs
  refine call_meetsIn PySem.F.slot_dict_update da.typeIs PySem.F.entry_dict_update (PySem.F.args_dict_update_2 _ _) (meets_dict_update (mixKind X.prog X.w) a b ne nb)
    ⟨va, vb, da, db, by rw [← ra.length, ← rb.length]; exact sz, fun h' d1 _ sb => ?_⟩
  have he : ∃ o, h'.get? a = some o := let ⟨o, _, _, ho, _⟩ := d1; ⟨o, ho⟩
  exact ⟨.non, _, d_write I (by rw [ha]; exact True.intro) sb he (dk_new (by omega) na (KV.merge rb ra) d1), rfl, q⟩
end
end NL
namespace KZ
open PySem PySem.Spec PyProof.Rows L2
abbrev NH : List Str := ["_law_groups_here", "_law_found", "_law_group", "_law_checks", "_law_check"]
theorem scHome : FnScope NH ["_law_groups_here"] (defScope (topAt iHome)) := ⟨rfl, rfl, rfl, by decide +kernel, rfl, by decide +kernel, by decide +kernel⟩
/-- each check with its group -/
def homeOf (gs : List Grp) : List (L2.Key × V) := gs.flatMap fun g => g.2.map fun c => ((Sum.inr c : L2.Key), V.str g.1)
theorem homeOf_keys (gs : List Grp) : (homeOf gs).map (·.1) = (gs.flatMap (·.2)).map fun c => (Sum.inr c : L2.Key) := by
  unfold homeOf
  rw [List.map_flatMap, List.map_flatMap]
  congr 1
  funext g
  rw [List.map_map]
  rfl
def spHome : Sp := fun vs H Q _ => ∃ (p : Addr) (gs : List Grp), vs = [.ref p] ∧ GsAt H p gs ∧ (gs.flatMap (·.2)).Nodup ∧ (gs.flatMap (·.2)).length ≤ 100 ∧
  ∀ (d : Addr) (H' : Hp), H d = none → H' d = some (.dK (homeOf gs)) → Sm H H' → Q (.ref d) H'
section
variable {P : Program} {w : World} {K : PySem.W.Frag} {mg : Str → Option Value} {base : Heap}
theorem ok_home {f : Addr} {fd : FuncData} (F : Fd K iHome "_law_home" f fd) (gd : mg "dict" = none) : FnOk P w K mg base CX0 1 f fd ["_law_groups_here"] spHome := by
  refine F.ok scHome (fun vs H Q E h => ?_) (fun cdv A outer s H vs Q E hr h => ?_)
  · obtain ⟨p, gs, rfl, _⟩ := h
    rfl
  · obtain ⟨p, gs, rfl, ⟨rs, hp, prs⟩, nd, sz, q⟩ := h
    refine ⟨_, PSs.nox (pss_cons (ps_set (i := 1) scHome.nd rfl (Or.inl rfl) pe_dnewK)
      (pss_cons (ps_for PassesOwn.never rfl (pi_tup (pv 0)) (pg_tup rfl (pgs_cons (pg_name (i := 2) scHome.nd rfl (Or.inr rfl)) (pgs_cons (pg_name (i := 3) scHome.nd rfl (Or.inl rfl)) pgs_nil)))
        (pss_one (ps_expr (pe_bm PySem.F.plainAttrs_dict PySem.F.slot_dict_update PySem.F.type_dict_update NL.mt_updK (pv 1) (pa_cons (pe_callTy (call_dictP rfl) (by rfl) gd (by decide +kernel) (pa_cons
          (pe_lc (own := [("_law_check", 4)]) (g := gName 4) (tt := tYes) rfl scHome.nd (pi_tup (pv 3)) (blkOk_by (N := NH) (sc := defScope (topAt iHome)) (by decide +kernel)) (fun _ _ _ _ _ => pg_name (i := 4) scHome.nd rfl (Or.inl rfl)) (fun _ _ _ _ _ => pts_nil)
            (fun _ _ _ _ _ => pe_tup (pa_cons (pv 4) (pa_cons (pv 2) pa_nil)))) pa_nil)) pa_nil)))))
      (pss_one (ps_ret (pv 1))))), ?_⟩
    refine fun d nd0 => ?_
    have st0 : Sm H (upd H d (.dK [])) := fun b o e => by rw [upd_ne (ne_of_none e nd0)]; exact e
    have lrs : rs.length = gs.length := Paired.length prs
    refine ⟨_, rfl, p, rfl, ⟨_, SqT.of (st0 _ _ hp)⟩, for_tup (K := K) (a := p) (xs := rs.map fun r => V.ref r.1)
      (fun i σ H' => ∃ a2 a3 : Option V, σ = [some (.ref p), some (.ref d), a2, a3, none] ∧ H' d = some (.dK (homeOf (gs.take i))) ∧ Sm H H') ⟨_, _, rfl, by rw [upd_same]; rfl, st0⟩ (fun i σ H' _ ⟨_, _, _, _, st⟩ => SqT.of (st _ _ hp)) ?_ ?_⟩
    · rintro i x σ H1 hx ⟨a2, a3, rfl, hd, st⟩
      rw [List.getElem?_map] at hx
      obtain ⟨r, hr1, rfl⟩ := Option.map_eq_some_iff.mp hx
      have ig : i < gs.length := by rw [← lrs]; exact (List.getElem?_eq_some_iff.mp hr1).1
      have hg : gs[i]? = some gs[i] := List.getElem?_eq_getElem ig
      obtain ⟨g', hg', e1, e2⟩ : ∃ g', gs[i]? = some g' ∧ H r.1 = some (.tup [.str g'.1, .ref r.2]) ∧ H r.2 = some (.tup (g'.2.map V.str)) := by
        have hx2 : ∀ {rs : List (Addr × Addr)} {gs : List Grp} {i : Nat} {r : Addr × Addr}, Paired (fun r g => H r.1 = some (.tup [.str g.1, .ref r.2]) ∧ H r.2 = some (.tup (g.2.map V.str))) rs gs → rs[i]? = some r →
            ∃ g', gs[i]? = some g' ∧ H r.1 = some (.tup [.str g'.1, .ref r.2]) ∧ H r.2 = some (.tup (g'.2.map V.str)) := by
          intro rs gs i r pr
          induction pr generalizing i with
          | nil => intro h; simp at h
          | @cons a b as bs hab _ ih =>
            intro h
            cases i with
            | zero =>
              obtain rfl : a = r := Option.some.inj h
              exact ⟨b, rfl, hab⟩
            | succ i => exact ih h
        exact hx2 prs hr1
      obtain ⟨g, eg⟩ : ∃ g, g' = g := ⟨_, rfl⟩
      subst eg
      refine ⟨r.1, _, rfl, SqT.of (st _ _ e1), rfl, _, _, rfl, _, _, rfl, rfl, ?_⟩
      refine ⟨_, rfl, .inr (.inr (.inl ⟨rfl, .inl ⟨_, hd⟩⟩)), ?_⟩
      refine ⟨_, rfl, r.2, rfl, ⟨_, SqT.of (st _ _ e2)⟩, fun D nD => lc_tup (K := K) (a := r.2) (xs := g'.2.map V.str)
        (fun k H' => ∃ ts : List Addr, ts.length = k ∧ H' D = some (.lst (ts.map V.ref)) ∧ (∀ (j : Nat) (t : Addr) (c : Str), ts[j]? = some t → g'.2[j]? = some c → H' t = some (.tup [.str c, .str g'.1]) ∧ t ≠ D) ∧ Sm H1 H')
        ⟨[], rfl, upd_same, fun j t c h => (nomatch h), fun b o e => by rw [upd_ne (ne_of_none e nD)]; exact e⟩ (fun k H' _ ⟨_, _, _, _, s1⟩ => SqT.of (s1 _ _ (st _ _ e2))) ?_ ?_⟩
      · rintro k x H2 hx ⟨ts, l1, hD, all, s1⟩
        rw [List.getElem?_map] at hx
        obtain ⟨c, hc, rfl⟩ := Option.map_eq_some_iff.mp hx
        refine ⟨rfl, ?_⟩
        refine ⟨_, rfl, _, rfl, (by show (2 : Nat) ≤ sizeLine; decide), fun t nt => ?_⟩
        have tD : t ≠ D := fun z => by rw [z, hD] at nt; cases nt
        have hk : k < 101 := by
          have h1 := (List.getElem?_eq_some_iff.mp hc).1
          have h2 : g'.2.length ≤ (gs.flatMap (·.2)).length := by
            rw [List.flatMap_def]
            exact (List.sublist_flatten_of_mem (List.mem_map_of_mem (List.mem_of_getElem? hg'))).length_le
          omega
        have keep : ∀ b o, H2 b = some o → b ≠ D → upd (upd H2 t (.tup [.str c, .str g'.1])) D (.lst (ts.map V.ref ++ [.ref t])) b = some o := fun b o e nb => by rw [upd_ne nb, upd_ne (ne_of_none e nt)]; exact e
        refine ⟨_, by rw [upd_ne (Ne.symm tD)]; exact hD, by rw [List.length_map, l1, sizeLine_eq]; omega, ts ++ [t], by simp [l1], by rw [upd_same, List.map_append]; rfl, fun j t' c' h1 h2 => ?_, fun b o e => keep b o (s1 b o e) (ne_of_none e nD)⟩
        by_cases hj : j < k
        · rw [List.getElem?_append_left (by omega)] at h1
          obtain ⟨z1, z2⟩ := all j t' c' h1 h2
          exact ⟨keep _ _ z1 z2, z2⟩
        · have hjk : j = k := by
            have := (List.getElem?_eq_some_iff.mp h1).1
            rw [List.length_append, l1] at this
            simp only [List.length_singleton] at this
            omega
          subst hjk
          rw [List.getElem?_append_right (by omega), l1, Nat.sub_self] at h1
          obtain rfl := Option.some.inj h1
          obtain rfl : c = c' := Option.some.inj (hc.symm.trans h2)
          exact ⟨by rw [upd_ne tD, upd_same], tD⟩
      · rintro H2 ⟨ts, l1, hD, all, s1⟩
        rw [List.length_map] at l1
        have ndK : ((homeOf (gs.take i) ++ g'.2.map fun c => ((Sum.inr c : L2.Key), V.str g'.1)).map (·.1)).Nodup := by
          have e : homeOf (gs.take i) ++ (g'.2.map fun c => ((Sum.inr c : L2.Key), V.str g'.1)) = homeOf (gs.take (i + 1)) := by
            rw [List.take_succ, hg']
            unfold homeOf
            rw [List.flatMap_append]
            simp
          rw [e, homeOf_keys]
          have sb : ((gs.take (i + 1)).flatMap (·.2)).Sublist (gs.flatMap (·.2)) := by
            have h0 := List.take_append_drop (i + 1) gs
            have h1 : gs.flatMap (·.2) = (gs.take (i + 1)).flatMap (·.2) ++ (gs.drop (i + 1)).flatMap (·.2) := by rw [← List.flatMap_append, h0]
            rw [h1]
            exact List.sublist_append_left _ _
          exact List.pairwise_map.mpr ((List.Nodup.sublist sb nd).imp fun ne e => ne (Sum.inr.inj e))
        have e9 : homeOf (gs.take i) ++ (g'.2.map fun c => ((Sum.inr c : L2.Key), V.str g'.1)) = homeOf (gs.take (i + 1)) := by
          rw [List.take_succ, hg']
          unfold homeOf
          rw [List.flatMap_append]
          simp
        refine ⟨D, ts, g'.2.map fun c => ((Sum.inr c : L2.Key), V.str g'.1), rfl, SqL.of hD, paired_idx _ _ (by rw [List.length_map]; exact l1) (fun k t kv h1 h2 => ?_), fun e ne => ?_⟩
        · rw [List.getElem?_map] at h2
          obtain ⟨c, hc, rfl⟩ := Option.map_eq_some_iff.mp h2
          exact SqT.of (all k t c h1 hc).1
        have ndm : ((([] : List (L2.Key × V)) ++ (g'.2.map fun c => ((Sum.inr c : L2.Key), V.str g'.1))).map (·.1)).Nodup := by
          rw [List.nil_append]
          rw [List.map_append] at ndK
          exact List.Nodup.sublist (List.sublist_append_right _ _) ndK
        rw [mergeK_new _ _ ndm, List.nil_append]
        have hd2 := s1 _ _ hd
        have dne : d ≠ e := ne_of_none hd2 ne
        refine ⟨d, e, _, _, rfl, rfl, dne, by rw [upd_ne dne]; exact hd2, upd_same, ?_, ?_⟩
        · have h1 := congrArg List.length e9
          rw [List.length_append] at h1
          have h2 := congrArg List.length (homeOf_keys (gs.take (i + 1)))
          rw [List.length_map, List.length_map] at h2
          have h3 : ((gs.take (i + 1)).flatMap (·.2)).length ≤ (gs.flatMap (·.2)).length := by
            have h0 := List.take_append_drop (i + 1) gs
            have h1 : gs.flatMap (·.2) = (gs.take (i + 1)).flatMap (·.2) ++ (gs.drop (i + 1)).flatMap (·.2) := by rw [← List.flatMap_append, h0]
            rw [h1, List.length_append]
            omega
          rw [sizeLine_eq]
          omega
        · rw [mergeK_new _ _ ndK, e9]
          exact ⟨_, _, rfl, upd_same, fun b o eb => by
            have hb : H2 b = some o := s1 _ _ (st _ _ eb)
            have hbd : b ≠ d := ne_of_none eb nd0
            rw [upd_ne hbd, upd_ne (ne_of_none hb ne)]
            exact hb⟩
    · rintro σ H1 ⟨a2, a3, rfl, hd, st⟩
      rw [List.length_map, lrs, List.take_length] at hd
      exact ⟨_, rfl, q d H1 nd0 hd st⟩
end
end KZ
namespace NL
open PySem PySem.Spec PyProof.Rows L2
/-- a tuple of which it is known that it has no dict of its own (its methods can be called) -/
def TupE (a : Addr) (xs : List V) : HO := .ext fun h => xs.length ≤ sizeLine ∧ ∃ its : List Value, Vals xs its ∧ h.get? a = some { cls := .type "tuple", data := .seq its.toArray }
theorem TupE.ok {P : Program} {w : World} {H : Hp} {h : Heap} {a : Addr} {xs : List V} {its : List Value} (hz : xs.length ≤ sizeLine) (r : Vals xs its) (e : h.get? a = some { cls := .type "tuple", data := .seq its.toArray }) : ObjOk P w H h a (TupE a xs) :=
  ⟨⟨hz, its, r, e⟩, ⟨_, e⟩, fun h1 h2 z st => let ⟨z1, its, z2, z3⟩ := z; ⟨z1, its, z2, st _ z3⟩⟩
theorem TupE.get {P : Program} {w : World} {H : Hp} {h : Heap} {a : Addr} {xs : List V} (hok : HOk P w H h) (e : H a = some (TupE a xs)) : xs.length ≤ sizeLine ∧ ∃ its : List Value, Vals xs its ∧ h.get? a = some { cls := .type "tuple", data := .seq its.toArray } := (hok a _ e).1
section
variable {X : Cx}
/-- the items of such a tuple, told as data -/
structure TE' (X : Cx) (H : Hp) (a : Addr) (vs : List V) (ds : List PyData) : Prop where
  ob : H a = some (TupE a vs)
  ds : DpAll X.K H vs ds
/-- x in t, x not in t -/
def rInE (X : Cx) (neg : Bool) : R2 := fun x y H Q => ∃ d a vs ds, y = .ref a ∧ TE' X H a vs ds ∧ Dp X.K H x d ∧ d.plain = true ∧ PyData.plainAll ds = true ∧ min (PyData.depthAll ds) d.depth ≤ 20 ∧ Q (.bl (neg ^^ ds.any fun z => PyData.eqv z d)) H
theorem TE'.reads {pins : List (Addr × Obj)} {σ : L2.St} {H : Hp} {s : Shared} {a : Addr} {vs : List V} {ds : List PyData} (I : Inv X pins σ H s) (h : TE' X H a vs ds) : ∃ as, Reads s.heap (.ref a) (.tuple ds) as := by
  obtain ⟨_, its, rv, g⟩ := TupE.get I.hok h.ob
  obtain ⟨as, hr⟩ := Dp.readsAll I ds vs its h.ds rv
  exact ⟨_, Reads.tuple g rfl rfl hr⟩
theorem op_inE (hu : X.A.units + 30 < cLine) : OpR X (compareOp .In) (rInE X false) := by
  intro pins s σ H x y v u Q I rx ry h
  obtain ⟨d, a, vs, ds, ey, ht, hd, pd, pe, dep, q⟩ := h
  subst ey
  obtain rfl : u = Value.ref a := ry
  obtain ⟨_, r1⟩ := Dp.reads I d x v hd rx
  obtain ⟨_, r2⟩ := ht.reads I
  rw [Bool.false_xor] at q
  exact SeqAt.in_tuple_data r2 r1 pe pd (by omega) ⟨.bl _, H, I, rfl, q⟩
end
end NL
namespace KZ
open PySem PySem.Spec PyProof.Rows L2
theorem scInt : FnScope ["value", "low", "high"] ["value", "low", "high"] (defScope (topAt iInt)) := ⟨rfl, rfl, rfl, by decide +kernel, rfl, by decide +kernel, by decide +kernel⟩
theorem scRow : FnScope ["value", "least", "most"] ["value", "least", "most"] (defScope (topAt iRow)) := ⟨rfl, rfl, rfl, by decide +kernel, rfl, by decide +kernel, by decide +kernel⟩
/-- the types of values that are no integers -/
def noInts : List String := ["NoneType", "str", "tuple", "list", "dict"]
theorem noInt_kit {n : String} (h : n ∈ noInts) : kitB n "int" = some false := by
  have : (noInts.all fun n => decide (kitB n "int" = some false)) = true := by decide +kernel
  exact of_decide_eq_true (List.all_eq_true.mp this n h)
/-- is_integer: of an integer, of a bool, of any other value -/
def spInt (K : PySem.W.Frag) : Sp := fun vs H Q _ => ∃ (v : V) (lo hi : Int), vs = [v, .int lo, .int hi] ∧
  ((∃ i : Int, v = .int i ∧ Q (.bl (decide (lo ≤ i) && decide (i ≤ hi))) H) ∨ (∃ b : Bool, v = .bl b ∧ Q (.bl false) H) ∨ ∃ n, TyX K H v (.type n) ∧ n ∈ noInts ∧ Q (.bl false) H)
section
variable {P : Program} {w : World} {K : PySem.W.Frag} {mg : Str → Option Value} {base : Heap}
theorem ok_int {f : Addr} {fd : FuncData} (F : Fd K iInt "is_integer" f fd) (gi : mg "isinstance" = none) (gn : mg "int" = none) (gb : mg "bool" = none) : FnOk P w K mg base CX0 1 f fd ["value", "low", "high"] (spInt K) := by
  refine F.ok scInt (fun vs H Q E h => ?_) (fun cdv A outer s H vs Q E hr h => ?_)
  · obtain ⟨v, lo, hi, rfl, _⟩ := h
    rfl
  · obtain ⟨v, lo, hi, rfl, h⟩ := h
    refine ⟨_, pss_one (ps_ret (pe_and (pe_callB call_isi (by rfl) gi PyProof.Rows.boot_isinstance (pa_cons (pv 0) (pa_cons (pe_bltn (v := .ty "int") rfl gn (by decide +kernel) rfl) pa_nil)))
      (pe_and (pe_not (pe_callB call_isi (by rfl) gi PyProof.Rows.boot_isinstance (pa_cons (pv 0) (pa_cons (pe_bltn (v := .ty "bool") rfl gb (by decide +kernel) rfl) pa_nil))))
        (pe_one (pe_chain op_le op_le (pv 1) (pv 0) (pv 2)))))), ?_⟩
    rcases h with ⟨i, rfl, q⟩ | ⟨b, rfl, q⟩ | ⟨n, ty, hn, q⟩
    · refine ⟨_, rfl, .int i, .ty "int", .type "int", .type "int", true, rfl, .ty _, .base (.int i), kit_ty (by decide +kernel), true, rfl, ?_⟩
      refine ⟨_, rfl, .int i, .ty "bool", .type "int", .type "bool", false, rfl, .ty _, .base (.int i), kit_ty (by decide +kernel), false, rfl, true, rfl, ?_⟩
      refine ⟨_, rfl, _, rfl, lo, i, rfl, rfl, ?_⟩
      by_cases h1 : lo ≤ i
      · rw [decide_eq_true h1, Bool.true_and] at q
        exact ⟨true, congrArg V.bl (decide_eq_true h1), _, rfl, i, hi, rfl, rfl, q⟩
      · rw [decide_eq_false h1, Bool.false_and] at q
        exact ⟨false, congrArg V.bl (decide_eq_false h1), q⟩
    · refine ⟨_, rfl, .bl b, .ty "int", .type "bool", .type "int", true, rfl, .ty _, .base (.bl b), kit_ty (by decide +kernel), true, rfl, ?_⟩
      exact ⟨_, rfl, .bl b, .ty "bool", .type "bool", .type "bool", true, rfl, .ty _, .base (.bl b), kit_ty (by decide +kernel), true, rfl, false, rfl, q⟩
    · exact ⟨_, rfl, v, .ty "int", .type n, .type "int", false, rfl, .ty _, ty, kit_ty (noInt_kit hn), false, rfl, q⟩
/-- is_row: of a tuple, of any other value -/
def spRow (K : PySem.W.Frag) : Sp := fun vs H Q _ => ∃ (v : V) (lo hi : Int), vs = [v, .int lo, .int hi] ∧
  ((∃ (a : Addr) (xs : List V), v = .ref a ∧ SqT K H a xs ∧ TyX K H v (.type "tuple") ∧ Q (.bl (decide (lo ≤ (xs.length : Int)) && decide ((xs.length : Int) ≤ hi))) H) ∨ ∃ n, TyX K H v (.type n) ∧ kitB n "tuple" = some false ∧ Q (.bl false) H)
theorem ok_row {f : Addr} {fd : FuncData} (F : Fd K iRow "is_row" f fd) (gi : mg "isinstance" = none) (gt : mg "tuple" = none) (gl : mg "len" = none) : FnOk P w K mg base CX0 1 f fd ["value", "least", "most"] (spRow K) := by
  refine F.ok scRow (fun vs H Q E h => ?_) (fun cdv A outer s H vs Q E hr h => ?_)
  · obtain ⟨v, lo, hi, rfl, _⟩ := h
    rfl
  · obtain ⟨v, lo, hi, rfl, h⟩ := h
    refine ⟨_, pss_one (ps_ret (pe_and (pe_callB call_isi (by rfl) gi PyProof.Rows.boot_isinstance (pa_cons (pv 0) (pa_cons (pe_bltn (v := .ty "tuple") rfl gt (by decide +kernel) rfl) pa_nil)))
        (pe_one (pe_chain op_le op_le (pv 1) (pe_callB call_len (by rfl) gl PySem.boot_len (pa_cons (pv 0) pa_nil)) (pv 2))))), ?_⟩
    rcases h with ⟨a, xs, rfl, hs, ty, q⟩ | ⟨n, ty, hn, q⟩
    · refine ⟨_, rfl, .ref a, .ty "tuple", .type "tuple", .type "tuple", true, rfl, .ty _, ty, kit_ty (by decide +kernel), true, rfl, ?_⟩
      refine ⟨_, rfl, _, rfl, _, xs.length, rfl, .inr ⟨xs, hs, rfl⟩, lo, xs.length, rfl, rfl, ?_⟩
      by_cases h1 : lo ≤ (xs.length : Int)
      · rw [decide_eq_true h1, Bool.true_and] at q
        exact ⟨true, congrArg V.bl (decide_eq_true h1), _, rfl, _, hi, rfl, rfl, q⟩
      · rw [decide_eq_false h1, Bool.false_and] at q
        exact ⟨false, congrArg V.bl (decide_eq_false h1), q⟩
    · exact ⟨_, rfl, v, .ty "tuple", .type n, .type "tuple", false, rfl, .ty _, ty, kit_ty hn, false, rfl, q⟩
end
end KZ
namespace NL
open PySem PySem.Spec PyProof.Rows L2
end NL
namespace KM
open PySem PySem.Spec PyProof.Rows L2 PySem.Calls
/-- the first pair that differs decides -/
inductive LtL (A : Around) (s : Shared) : List Value → List Value → Bool → Prop
  | nn : LtL A s [] [] false
  | nc {y : Value} {ys : List Value} : LtL A s [] (y :: ys) true
  | cn {x : Value} {xs : List Value} : LtL A s (x :: xs) [] false
  | eq {x y : Value} {xs ys : List Value} {k : Bool} : SeqAt.EqAt A s x y true → LtL A s xs ys k → LtL A s (x :: xs) (y :: ys) k
  | ne {x y : Value} {xs ys : List Value} {k : Bool} : SeqAt.EqAt A s x y false → SeqAt.RcLt A s x y k → LtL A s (x :: xs) (y :: ys) k
theorem tuple_ltL (l b : Addr) (items items2 : Array Value) (n n2 : Nat) (dd dd2 : Option Addr) (sl sl2 : Array (Option Value)) (k : Bool) :
    Meets (Builtin.«tuple.__lt__» ⟨[.ref l, .ref b], []⟩) fun A R s => s.heap.get? l = some { cls := .type "tuple", dict := dd, data := .seq items n, slots := sl } ∧ s.heap.get? b = some { cls := .type "tuple", dict := dd2, data := .seq items2 n2, slots := sl2 } ∧
      LtL A.in1 s items.toList items2.toList k ∧ R (.ok (.ret (.bool k))) s := by
  refine Meets.of_wp fun prog w A R s ⟨h1, h2, h3, h4⟩ => ?_
  unfold Builtin.«tuple.__lt__»
  repeat (first | with_reducible refine wpAny_loadPart_at h2 ?_ | with_reducible refine wpAny_loadPart_at h1 ?_ | with_reducible refine wpAny_of_eq AutoSeq1.sub_tuple_tuple ?_ | with_reducible refine wpAny_bind (wpAny_forIn_list _ (fun rest b s' => s' = s ∧ b = (none, ()) ∧ ∃ xs ys p, rest = xs.zip ys ∧ items.size = p + xs.length ∧ items2.size = p + ys.length ∧ LtL A.in1 s xs ys k) _ ?_ ?_ _ _ ⟨rfl, rfl, items.toList, items2.toList, 0, rfl, by simp, by simp, h3⟩) | wp_step)
  · rintro ⟨x, y⟩ rest b s' ⟨rfl, rfl, xs, ys, p, hz, e1, e2, h3⟩
    cases h3 with
    | nn => cases hz
    | nc => cases hz
    | cn => cases hz
    | eq h t =>
      rw [List.zip_cons_cons] at hz
      cases hz
      refine wpAny_bind (h _ _ _ _ ?_)
      exact wpAny_pure ⟨rfl, rfl, _, _, p + 1, rfl, by simp only [List.length_cons] at e1; omega, by simp only [List.length_cons] at e2; omega, t⟩
    | ne h t =>
      rw [List.zip_cons_cons] at hz
      cases hz
      refine wpAny_bind (h _ _ _ _ ?_)
      refine wpAny_ite_true rfl ?_
      refine wpAny_bind (wpAny_rule ?_)
      refine wpAny_bind (t _ _ _ _ ?_)
      repeat (first | wp_step)
      exact ⟨_, rfl, h4⟩
  · rintro b s' ⟨rfl, rfl, xs, ys, p, hz, e1, e2, h3⟩
    have hk : Builtin.Tuple.tupleCompareSizes .Lt items.size items2.size = .bool k := by
      show Value.bool (decide (items.size < items2.size)) = .bool k
      rw [e1, e2]
      cases h3 with
      | nn => simp
      | nc => simp
      | cn => simp
      | eq h t => rw [List.zip_cons_cons] at hz; cases hz
      | ne h t => rw [List.zip_cons_cons] at hz; cases hz
    show wpAny _ _ (ret (Builtin.Tuple.tupleCompareSizes .Lt items.size items2.size)) _ _ _
    rw [hk]
    repeat (first | wp_step)
    exact ⟨_, rfl, h4⟩
theorem rcLtL {A : Around} {s : Shared} {l b : Addr} {items items2 : Array Value} {k : Bool} (hl : s.heap.IsTuple l items) (hb : s.heap.IsTuple b items2) (hu : A.units < cLine) (h : LtL A.in1 s items.toList items2.toList k) : SeqAt.RcLt A s (.ref l) (.ref b) k := by
  intro prog w E Q q
  obtain ⟨⟨cls, dd, data, sl⟩, ho, hc, n, hd⟩ := hl
  obtain ⟨⟨cls2, dd2, data2, sl2⟩, ho2, hc2, n2, hd2⟩ := hb
  dsimp only at hc hd hc2 hd2
  subst hc hd hc2 hd2
  exact richCompare_meets_room ⟨_, ho, rfl⟩ ⟨_, ho2, rfl⟩ F.slot_tuple_lt F.entry_tuple_lt (F.args_tuple_lt_2 _ _) (tuple_ltL l b items items2 n n2 dd dd2 sl sl2 k) ⟨ho, ho2, h, ⟨(fun x => (nomatch x)), q⟩⟩ hu
/-! data that can be compared: of tuples the first pair that differs is alike -/
mutual
def cmpB : PyData → PyData → Bool
  | .tuple xs, .tuple ys => cmpBs xs ys
  | .str _, .str _ => true
  | .int _, .int _ => true
  | .bool _, .bool _ => true
  | _, _ => false
def cmpBs : List PyData → List PyData → Bool
  | x :: xs, y :: ys => if x.eqv y = true then W.alike x y && cmpBs xs ys else cmpB x y
  | _, _ => true
end
theorem eqvAll_cons (x y : PyData) (xs ys : List PyData) : PyData.eqvAll (x :: xs) (y :: ys) = (x.eqv y && PyData.eqvAll xs ys) := by simp [PyData.eqvAll]
abbrev LX := PyProof.Rows.lexLt itemOrd
theorem lex_cons (a : Int ⊕ List Nat) (l m : List (Int ⊕ List Nat)) : LX (a :: l) (a :: m) = LX l m := W.lex_pre [a] l m
theorem lex_01 (l m : List (Int ⊕ List Nat)) : LX (Sum.inl 0 :: m) (Sum.inl 1 :: l) = true := by
  unfold LX
  rw [PyProof.Rows.lexLt.eq_4]
  rfl
theorem lex_10 (l m : List (Int ⊕ List Nat)) : LX (Sum.inl 1 :: l) (Sum.inl 0 :: m) = false := by
  unfold LX
  rw [PyProof.Rows.lexLt.eq_4]
  rfl
end KM
namespace KM
open PySem PySem.Spec PyProof.Rows L2 PySem.Calls
theorem toks_cmp : ∀ n : Nat, (∀ x y : PyData, sizeOf x ≤ n → cmpB x y = true → x.eqv y = false → ∀ l m, LX (W.keyToks x ++ l) (W.keyToks y ++ m) = LX (W.keyToks x) (W.keyToks y)) ∧
    (∀ xs ys : List PyData, sizeOf xs ≤ n → cmpBs xs ys = true → PyData.eqvAll xs ys = false → ∀ l m, LX (W.keyToksAll xs ++ l) (W.keyToksAll ys ++ m) = LX (W.keyToksAll xs) (W.keyToksAll ys)) := by
  intro n
  induction n with
  | zero =>
    refine ⟨fun x y h => ?_, fun xs ys h => ?_⟩
    · cases x <;> simp at h
    · cases xs <;> simp at h
  | succ n ih =>
    refine ⟨fun x y h hc he l m => ?_, fun xs ys h hc he l m => ?_⟩
    · unfold cmpB at hc
      split at hc
      · rename_i xs ys
        rw [W.keyToks.eq_6, W.keyToks.eq_6]
        exact ih.2 xs ys (by simp at h; omega) hc (by rw [PyData.eqv.eq_def] at he; exact he) l m
      · exact (W.toks_eqv _ _ (by simp [W.alike])).2 he l m
      · exact (W.toks_eqv _ _ (by simp [W.alike])).2 he l m
      · exact (W.toks_eqv _ _ (by simp [W.alike])).2 he l m
      · cases hc
    · unfold cmpBs at hc
      split at hc
      · rename_i x xs y ys
        rw [PyData.eqvAll.eq_2] at he
        rw [W.keyToksAll.eq_2, W.keyToksAll.eq_2, List.cons_append, List.cons_append, lex_cons, lex_cons, List.append_assoc, List.append_assoc]
        cases e : x.eqv y with
        | true =>
          rw [e] at he hc
          simp only [if_true, Bool.and_eq_true] at hc
          rw [(W.toks_eqv x y hc.1).1 e]
          unfold LX
          rw [W.lex_pre, W.lex_pre]
          exact ih.2 xs ys (by simp at h; omega) hc.2 (by simpa using he) l m
        | false =>
          rw [e] at hc
          have hc' : cmpB x y = true := by simpa using hc
          have z := ih.1 x y (by simp at h; omega) hc' e
          rw [z, z]
      · rename_i hn
        cases xs with
        | nil =>
          cases ys with
          | nil => simp [PyData.eqvAll] at he
          | cons y ys =>
            rw [W.keyToksAll.eq_1, W.keyToksAll.eq_2]
            simp only [List.cons_append, List.nil_append]
            rw [lex_01, lex_01]
        | cons x xs =>
          cases ys with
          | nil =>
            rw [W.keyToksAll.eq_1, W.keyToksAll.eq_2]
            simp only [List.cons_append, List.nil_append]
            rw [lex_10, lex_10]
          | cons y ys => exact (hn _ _ _ _ rfl rfl).elim
theorem isTuple_of {h : Heap} {a : Addr} {o : Obj} {vs : Array Value} {n : Nat} (e : h.get? a = some o) (c : o.cls = .type "tuple") (d : o.data = .seq vs n) : h.IsTuple a vs := ⟨o, e, c, n, d⟩
theorem cmp_ne_none {x y : PyData} (h : cmpB x y = true) : x ≠ .none := by
  intro e
  rw [e] at h
  cases y <;> cases h
/-- x < y of data that can be compared -/
theorem rcLt_cmp : ∀ n : Nat, (∀ (x y : PyData) (A : Around) (s : Shared) (a b : Value) (as bs : List Addr), sizeOf x ≤ n → Reads s.heap a x as → Reads s.heap b y bs → cmpB x y = true → x.plain = true → y.plain = true → A.units + x.depth < cLine → SeqAt.RcLt A s a b (W.dataLt x y)) ∧
    (∀ (xs ys : List PyData) (A : Around) (s : Shared) (vs us : List Value) (as bs : List Addr), sizeOf xs ≤ n → ReadsAll s.heap vs xs as → ReadsAll s.heap us ys bs → cmpBs xs ys = true → PyData.plainAll xs = true → PyData.plainAll ys = true → A.units + PyData.depthAll xs < cLine →
      LtL A s vs us (LX (W.keyToksAll xs) (W.keyToksAll ys))) := by
  intro n
  induction n with
  | zero =>
    refine ⟨fun x y A s a b as bs h => ?_, fun xs ys A s vs us as bs h => ?_⟩
    · cases x <;> simp at h
    · cases xs <;> simp at h
  | succ n ih =>
    refine ⟨fun x y A s a b as bs h ra rb hc px py hu => ?_, fun xs ys A s vs us as bs h ra rb hc px py hu => ?_⟩
    · have hn := cmp_ne_none hc
      unfold cmpB at hc
      split at hc
      · rename_i xs ys
        cases ra with
        | tuple e1 c1 d1 t1 =>
          cases rb with
          | tuple e2 c2 d2 t2 =>
            rw [W.dataLt_tuple]
            have hd : (PyData.tuple xs).depth = PyData.depthAll xs + 1 := by simp [PyData.depth]
            rw [hd] at hu
            exact rcLtL (isTuple_of e1 c1 d1) (isTuple_of e2 c2 d2) (by omega) (ih.2 xs ys A.in1 s _ _ _ _ (by simp at h; omega) t1 t2 hc (by simpa [PyData.plain] using px) (by simpa [PyData.plain] using py) (by show A.units + 1 + _ < cLine; omega))
      · exact W.rcLt_alike _ _ A s a b as bs ra rb (by simp [W.alike]) hn (by omega)
      · exact W.rcLt_alike _ _ A s a b as bs ra rb (by simp [W.alike]) hn (by omega)
      · exact W.rcLt_alike _ _ A s a b as bs ra rb (by simp [W.alike]) hn (by omega)
      · cases hc
    · cases ra with
      | nil =>
        cases rb with
        | nil =>
          have : LX (W.keyToksAll []) (W.keyToksAll []) = false := by
            rw [W.keyToksAll.eq_1]
            rfl
          rw [this]
          exact .nn
        | cons r2 t2 =>
          rw [W.keyToksAll.eq_1, W.keyToksAll.eq_2, lex_01]
          exact .nc
      | @cons v vs x xs a1 a2 r1 t1 =>
        cases rb with
        | nil =>
          rw [W.keyToksAll.eq_1, W.keyToksAll.eq_2, lex_10]
          exact .cn
        | @cons u us y ys b1 b2 r2 t2 =>
          have hx := Bool.and_eq_true_iff.mp (show (x.plain && PyData.plainAll xs) = true by simpa [PyData.plainAll] using px)
          have hy := Bool.and_eq_true_iff.mp (show (y.plain && PyData.plainAll ys) = true by simpa [PyData.plainAll] using py)
          have hd : PyData.depthAll (x :: xs) = max x.depth (PyData.depthAll xs) := by simp [PyData.depthAll]
          rw [hd] at hu
          have he := SeqAt.eqAt_plain x y A s v u a1 b1 r1 r2 hx.1 hy.1 (by omega)
          unfold cmpBs at hc
          rw [W.keyToksAll.eq_2, W.keyToksAll.eq_2, lex_cons]
          cases e : x.eqv y with
          | true =>
            rw [e] at hc he
            simp only [if_true, Bool.and_eq_true] at hc
            rw [(W.toks_eqv x y hc.1).1 e]
            unfold LX
            rw [W.lex_pre]
            exact .eq he (ih.2 xs ys A s vs us a2 b2 (by simp at h; omega) t1 t2 hc.2 hx.2 hy.2 (by omega))
          | false =>
            rw [e] at hc he
            have hc' : cmpB x y = true := by simpa using hc
            rw [(toks_cmp (sizeOf x)).1 x y (Nat.le_refl _) hc' e]
            exact .ne he (ih.1 x y A s v u a1 b1 (by simp at h; omega) r1 r2 hc' hx.1 hy.1 (by omega))
end KM
namespace KM
open PySem PySem.Spec PyProof.Rows L2 PySem.Calls
/-! sorted of such data -/
end KM
namespace NL
open PySem PySem.Spec PyProof.Rows L2 KM
section
variable {X : Cx}
/-- x < y of data that can be compared -/
def rLtC (X : Cx) : R2 := fun x y H Q => ∃ d e, Dp X.K H x d ∧ Dp X.K H y e ∧ cmpB d e = true ∧ d.plain = true ∧ e.plain = true ∧ d.depth ≤ 20 ∧ Q (.bl (W.dataLt d e)) H
theorem op_ltC (hu : X.A.units + 30 < cLine) : OpR X (compareOp .Lt) (rLtC X) := by
  intro pins s σ H x y v u Q I rx ry h
  obtain ⟨d, e, hd, he, al, p1, p2, dep, q⟩ := h
  obtain ⟨_, r1⟩ := Dp.reads I d x v hd rx
  obtain ⟨_, r2⟩ := Dp.reads I e y u he ry
  show wpAny _ _ (richCompare .Lt v u) _ _ _
  exact (rcLt_cmp (sizeOf d)).1 d e X.A s v u _ _ (Nat.le_refl _) r1 r2 al p1 p2 (by omega) X.prog X.w X.xe _ ⟨.bl _, H, I, rfl, q⟩
end
end NL
namespace KZ
open PySem PySem.Spec PyProof.Rows L2
theorem scAsc : FnScope ["row", "place"] ["row"] (defScope (topAt iAsc)) := ⟨rfl, rfl, rfl, by decide +kernel, rfl, by decide +kernel, by decide +kernel⟩
/-- each the less than the next -/
def ascD (ds : List PyData) : Bool := (List.range (ds.length - 1)).all fun k => W.dataLt (ds.getD k .none) (ds.getD (k + 1) .none)
def spAsc (K : PySem.W.Frag) : Sp := fun vs H Q _ => ∃ (a : Addr) (bs : List (V × PyData)), vs = [.ref a] ∧ (SqL K H a (NL.dsV bs) ∨ SqT K H a (NL.dsV bs)) ∧ bs.length ≤ 1000 ∧ (∀ b ∈ bs, Dp K H b.1 b.2 ∧ b.2.plain = true ∧ b.2.depth ≤ 20) ∧ (∀ d ∈ bs.map (·.2), ∀ e ∈ bs.map (·.2), KM.cmpB d e = true) ∧
  (∀ (x : V) (d : PyData) (H' : Hp), Sm H H' → Dp K H x d → Dp K H' x d) ∧ (∀ (H' : Hp), Sm H H' → (SqL K H' a (NL.dsV bs) ∨ SqT K H' a (NL.dsV bs))) ∧ ∀ H', Sm H H' → Q (.bl (ascD (bs.map (·.2)))) H'
section
variable {P : Program} {w : World} {K : PySem.W.Frag} {mg : Str → Option Value} {base : Heap}
theorem ok_asc {f : Addr} {fd : FuncData} (F : Fd K iAsc "ascends" f fd) (ga : mg "all" = none) (gr : mg "range" = none) (gl : mg "len" = none) : FnOk P w K mg base CX0 1 f fd ["row"] (spAsc K) := by
  refine F.ok scAsc (fun vs H Q E h => ?_) (fun cdv A outer s H vs Q E hr h => ?_)
  · obtain ⟨a, bs, rfl, _⟩ := h
    rfl
  · obtain ⟨a, bs, rfl, hs, hl, hd, hal, kd, ks, q⟩ := h
    have hu30 : (A.deeper (envOfC "ascends" (defScope (topAt iAsc)) s.heap.objs.size f cdv)).units + 30 < cLine := by have := hr.un; omega
    refine ⟨_, pss_one (ps_ret (pe_callB (cr_all rfl) (by rfl) ga PyProof.Rows.boot_all (pa_cons (pe_lc (own := [("place", 1)]) (g := gName 1) (tt := tYes) rfl scAsc.nd
        (pi_range1 rfl gr (pa_cons (pe_op op_sub (pe_callB call_len (by rfl) gl PySem.boot_len (pa_cons (pv 0) pa_nil)) pe_int) pa_nil))
        (blkOk_by (N := ["row", "place"]) (sc := defScope (topAt iAsc)) (by decide +kernel)) (fun _ _ _ _ _ => pg_name (i := 1) scAsc.nd rfl (Or.inl rfl)) (fun _ _ _ _ _ => pts_nil)
        (fun _ _ _ _ _ => pe_cmpR (show OpR _ (compareOp .Lt) (NL.rLtC (cxOf CX0 P w K mg base ["row", "place"] "ascends" (defScope (topAt iAsc)) f cdv A outer s H E)) from NL.op_ltC hu30)
          (pe_ix (show IxR _ (rIx K) from ix_seq) (pv 0) (pv 1) (fun _ _ => rfl)) (pe_ix (show IxR _ (rIx K) from ix_seq) (pv 0) (pe_op op_add (pv 1) pe_int) (fun _ _ => rfl)) (nomark _))) pa_nil))), ?_⟩
    have lb : (NL.dsV bs).length = bs.length := List.length_map ..
    refine ⟨_, rfl, _, bs.length, rfl, ?_, _, _, rfl, rfl, (bs.length : Int) - 1, rfl, by omega, by omega, fun D nD => lc_range (lo := 0) (n := ((bs.length : Int) - 1).toNat)
      (fun k H' => H' D = some (.lst ((List.range k).map fun j => V.bl (W.dataLt ((bs.map (·.2)).getD j .none) ((bs.map (·.2)).getD (j + 1) .none)))) ∧ Sm H H') ⟨upd_same, Sm.new (H := H) (H' := H) (fun b o e => e) nD⟩ ?_ ?_⟩
    · rcases hs with hs | hs
      · exact .inl ⟨_, hs, lb.symm⟩
      · exact .inr ⟨_, hs, lb.symm⟩
    · rintro k H1 hk ⟨hD, st⟩
      have k1 : k < bs.length := by omega
      have k2 : k + 1 < bs.length := by omega
      have x1 : (NL.dsV bs)[k]? = some bs[k].1 := by rw [List.getElem?_map, List.getElem?_eq_getElem k1]; rfl
      have x2 : (NL.dsV bs)[k + 1]? = some bs[k + 1].1 := by rw [List.getElem?_map, List.getElem?_eq_getElem k2]; rfl
      have g1 : (bs.map (·.2)).getD k .none = bs[k].2 := by rw [List.getD_eq_getElem?_getD, List.getElem?_map, List.getElem?_eq_getElem k1]; rfl
      have g2 : (bs.map (·.2)).getD (k + 1) .none = bs[k + 1].2 := by rw [List.getD_eq_getElem?_getD, List.getElem?_map, List.getElem?_eq_getElem k2]; rfl
      obtain ⟨d1, n1, p1⟩ := hd _ (List.getElem_mem k1)
      obtain ⟨d2, n2, _⟩ := hd _ (List.getElem_mem k2)
      have al := hal _ (List.mem_map_of_mem (List.getElem_mem k1)) _ (List.mem_map_of_mem (List.getElem_mem k2))
      have a1 : atI (NL.dsV bs) (0 + (k : Int)) = some bs[k].1 := by rw [Int.zero_add]; exact atI_nat x1
      have a2 : atI (NL.dsV bs) (0 + (k : Int) + 1) = some bs[k + 1].1 := by rw [Int.zero_add]; exact atI_nat (j := k + 1) x2
      have fin : ∃ acc, H1 D = some (.lst acc) ∧ acc.length < sizeLine ∧ (upd H1 D (.lst (acc ++ [V.bl (W.dataLt bs[k].2 bs[k + 1].2)])) D = some (.lst ((List.range (k + 1)).map fun j => V.bl (W.dataLt ((bs.map (·.2)).getD j .none) ((bs.map (·.2)).getD (j + 1) .none)))) ∧ Sm H (upd H1 D (.lst (acc ++ [V.bl (W.dataLt bs[k].2 bs[k + 1].2)])))) := by
        refine ⟨_, hD, by rw [List.length_map, List.length_range, sizeLine_eq]; omega, ?_, fun b o e => by rw [upd_ne (ne_of_none e nD)]; exact st b o e⟩
        rw [upd_same, List.range_succ, List.map_append, ← g1, ← g2]
        rfl
      refine ⟨rfl, ?_⟩
      rcases ks H1 st with hs | hs
      · exact ⟨_, rfl, _, rfl, .inl ⟨a, _, _, _, rfl, rfl, hs, a1, _, rfl, _, rfl, _, _, rfl, rfl, .inl ⟨a, _, _, _, rfl, rfl, hs, a2, _, _, kd _ _ _ st d1, kd _ _ _ st d2, al, n1, n2, p1, fin⟩⟩⟩
      · exact ⟨_, rfl, _, rfl, .inr (.inl ⟨a, _, _, _, rfl, rfl, hs, a1, _, rfl, _, rfl, _, _, rfl, rfl, .inr (.inl ⟨a, _, _, _, rfl, rfl, hs, a2, _, _, kd _ _ _ st d1, kd _ _ _ st d2, al, n1, n2, p1, fin⟩)⟩)⟩
    · rintro H1 ⟨hD, st⟩
      refine ⟨D, (List.range (((bs.length : Int) - 1).toNat)).map fun j => W.dataLt ((bs.map (·.2)).getD j .none) ((bs.map (·.2)).getD (j + 1) .none), rfl, SqL.of (by rw [hD, List.map_map]; rfl), ?_⟩
      have e : ((List.range (((bs.length : Int) - 1).toNat)).map fun j => W.dataLt ((bs.map (·.2)).getD j .none) ((bs.map (·.2)).getD (j + 1) .none)).all id = ascD (bs.map (·.2)) := by
        rw [List.all_map]
        unfold ascD
        rw [List.length_map]
        have : ((bs.length : Int) - 1).toNat = bs.length - 1 := by omega
        rw [this]
        rfl
      rw [e]
      exact q H1 st
end
end KZ
namespace KZ
open PySem PySem.Spec PyProof.Rows L2
/-- a comprehension over a text's signs -/
theorem lc_txt {z : Str} {g : TG} {tt : TT} {te : TE} {vs : List Nat} {σ : L2.St} {H1 : Hp} {D : Addr} {Qd : Hp → Prop} (Pv : Nat → Hp → Prop) (h0 : Pv 0 (upd H1 D (.lst [])))
    (hs : ∀ i c H, z.cps.toList[i]? = some c → Pv i H → g (.str ⟨#[c]⟩) (wipe σ vs) H fun σ2 H2 => wipe σ2 vs = wipe σ vs ∧ tt σ2 H2 fun b H3 =>
      if b = true then te σ2 H3 fun y H4 => ∃ acc, H4 D = some (.lst acc) ∧ acc.length < sizeLine ∧ Pv (i + 1) (upd H4 D (.lst (acc ++ [y]))) else Pv (i + 1) H3) (hd : ∀ H, Pv z.cps.toList.length H → Qd H) :
    ∃ W : Nat → Nat → Hp → Prop, (∃ m, W 0 m (upd H1 D (.lst []))) ∧ ∀ i m H, W i m H → ((Its z).stop i H ∧ Qd H) ∨ ((Its z).go i H ∧ ∃ Nx : Hp → Prop, (∀ H', Nx H' → ∃ m', m' < m ∧ W (i + 1) m' H') ∧ ∀ x H', (Its z).yld i H x H' →
      g x (wipe σ vs) H' fun σ2 H2 => wipe σ2 vs = wipe σ vs ∧ tt σ2 H2 fun b H3 => if b = true then te σ2 H3 fun y H4 => ∃ acc, H4 D = some (.lst acc) ∧ acc.length < sizeLine ∧ Nx (upd H4 D (.lst (acc ++ [y]))) else Nx H3) := by
  have ls : z.cps.toList.length = z.cps.size := Array.length_toList
  refine ⟨fun i m H => m + i = z.cps.size ∧ Pv i H, ⟨z.cps.size, rfl, h0⟩, fun i m H ⟨e, p⟩ => ?_⟩
  rcases Nat.eq_zero_or_pos m with hm | hm
  · have ei : i = z.cps.size := by omega
    subst ei
    exact .inl ⟨Nat.le_refl _, hd H (ls ▸ p)⟩
  · refine .inr ⟨show i < z.cps.size by omega, Pv (i + 1), fun H' p' => ⟨m - 1, by omega, by omega, p'⟩, fun x H' hx => ?_⟩
    obtain ⟨eH, c, hc, ex⟩ := hx
    subst eH ex
    exact hs i c _ (by rw [Array.getElem?_toList]; exact hc) p
theorem scName : FnScope ["value", "sign"] ["value"] (defScope (topAt iName)) := ⟨rfl, rfl, rfl, by decide +kernel, rfl, by decide +kernel, by decide +kernel⟩
/-- one to eight letters from a to z -/
def nameB (z : Str) : Bool := decide (1 ≤ z.length) && decide (z.length ≤ 8) && z.cps.toList.all fun c => decide (c ∈ small.cps.toList)
def spName (K : PySem.W.Frag) : Sp := fun vs H Q _ => ∃ v : V, vs = [v] ∧ ((∃ z : Str, v = .str z ∧ z.length ≤ sizeLine ∧ ∀ H', Sm H H' → Q (.bl (nameB z)) H') ∨ ∃ n, TyX K H v (.type n) ∧ kitB n "str" = some false ∧ Q (.bl false) H)
section
variable {P : Program} {w : World} {K : PySem.W.Frag} {mg : Str → Option Value} {base : Heap}
theorem ok_name {f : Addr} {fd : FuncData} {tA tL : Tok} (F : Fd K iName "is_name" f fd) (gi : mg "isinstance" = none) (gs : mg "str" = none) (gl : mg "len" = none) (ga : mg "all" = none) (gA : mg "ALPHABET" = some (.str small tA)) (gL : mg "LONGEST_NAME" = some (.int 8 tL)) :
    FnOk P w K mg base CX0 1 f fd ["value"] (spName K) := by
  refine F.ok scName (fun vs H Q E h => ?_) (fun cdv A outer s H vs Q E hr h => ?_)
  · obtain ⟨v, rfl, _⟩ := h
    rfl
  · obtain ⟨v, rfl, h⟩ := h
    refine ⟨_, pss_cons (ps_if (PW.pt (pw_or (pt_not (pt_val (pe_callB call_isi (by rfl) gi PyProof.Rows.boot_isinstance (pa_cons (pv 0) (pa_cons (pe_bltn (v := .ty "str") rfl gs (by decide +kernel) rfl) pa_nil)))))
          (pw_or1 (pt_not (pt_chain op_le op_le pe_int (pe_callB call_len (by rfl) gl PySem.boot_len (pa_cons (pv 0) pa_nil)) (pe_glob (v := .int 8) rfl gL ⟨_, rfl⟩)))))) (pss_one (ps_ret pe_bl)) pss_nil)
      (pss_one (ps_ret (pe_callB (cr_all rfl) (by rfl) ga PyProof.Rows.boot_all (pa_cons (pe_lc (own := [("sign", 1)]) (g := gName 1) (tt := tYes) rfl scName.nd (pi_str (pv 0))
        (blkOk_by (N := ["value", "sign"]) (sc := defScope (topAt iName)) (by decide +kernel)) (fun _ _ _ _ _ => pg_name (i := 1) scName.nd rfl (Or.inl rfl)) (fun _ _ _ _ _ => pts_nil)
        (fun _ _ _ _ _ => pe_cmpR op_in_sign (pv 1) (pe_glob (v := .str small) rfl gA ⟨_, rfl⟩) rfl)) pa_nil)))), ?_⟩
    rcases h with ⟨z, rfl, hz, q⟩ | ⟨n, ty, hn, q⟩
    · refine ⟨_, rfl, .str z, .ty "str", .type "str", .type "str", true, rfl, .ty _, .base (.str z), kit_ty (by decide +kernel), _, rfl, ?_⟩
      refine ⟨_, rfl, _, z.length, rfl, ⟨hz, rfl⟩, 1, z.length, rfl, rfl, ?_⟩
      have bad : ∀ H', Sm H H' → nameB z = false → Q (.bl false) H' := fun H' st e => e ▸ q H' st
      by_cases h1 : (1 : Int) ≤ (z.length : Int)
      · refine ⟨true, congrArg V.bl (decide_eq_true h1), z.length, 8, rfl, rfl, ?_⟩
        by_cases h8 : (z.length : Int) ≤ 8
        · refine ⟨true, congrArg V.bl (decide_eq_true h8), ?_⟩
          refine ⟨_, rfl, z, rfl, fun D nD => lc_txt (z := z) (fun k H' => H' D = some (.lst ((z.cps.toList.take k).map fun c => V.bl (decide (c ∈ small.cps.toList)))) ∧ Sm H H') ⟨upd_same, Sm.new (H := H) (H' := H) (fun b o e => e) nD⟩ ?_ ?_⟩
          · rintro k c H1 hc ⟨hD, st⟩
            refine ⟨rfl, ?_⟩
            have kl : k < z.length := by have := (List.getElem?_eq_some_iff.mp hc).1; rwa [Array.length_toList] at this
            refine ⟨_, rfl, c, small, rfl, rfl, _, hD, by rw [List.length_map, List.length_take, sizeLine_eq]; omega, ?_, fun b o e => by rw [upd_ne (ne_of_none e nD)]; exact st b o e⟩
            rw [upd_same, List.take_succ, hc, List.map_append]
            rfl
          · rintro H1 ⟨hD, st⟩
            rw [List.take_length] at hD
            refine ⟨D, z.cps.toList.map fun c => decide (c ∈ small.cps.toList), rfl, SqL.of (by rw [hD, List.map_map]; rfl), ?_⟩
            have e : (z.cps.toList.map fun c => decide (c ∈ small.cps.toList)).all id = nameB z := by
              rw [List.all_map]
              unfold nameB
              rw [decide_eq_true (by omega : 1 ≤ z.length), decide_eq_true (by omega : z.length ≤ 8), Bool.true_and, Bool.true_and]
              rfl
            rw [e]
            exact q H1 st
        · refine ⟨false, congrArg V.bl (decide_eq_false h8), ?_⟩
          exact bad H (fun b o e => e) (by unfold nameB; rw [decide_eq_false (by omega : ¬ z.length ≤ 8), Bool.and_false, Bool.false_and])
      · refine ⟨false, congrArg V.bl (decide_eq_false h1), false, rfl, ?_⟩
        exact bad H (fun b o e => e) (by unfold nameB; rw [decide_eq_false (by omega : ¬ 1 ≤ z.length), Bool.false_and, Bool.false_and])
    · refine ⟨_, rfl, v, .ty "str", .type n, .type "str", false, rfl, .ty _, ty, kit_ty hn, _, rfl, ?_⟩
      exact q
end
end KZ
namespace KW
open PySem PySem.Spec PyProof.Rows L2 KZ
/-! values of a known shape that nobody changes from now on -/
inductive Wv where
  | d (x : PyData)
  | te (ds : List PyData)
  | dk (kvs : List (L2.Key × PyData))
  | dn (kvs : List (NestedKey × PyData))
  | ls (ws : List Wv)
  | hl (ds : List PyData)
  | ob (C : Addr) (fs : List (Str × Wv))
  | dw (ks : List L2.Key) (ws : List Wv)
  | nw (ks : List NestedKey) (ws : List Wv)
section
variable (P : Program) (w : World) (K : PySem.W.Frag) (H : Hp)
mutual
inductive RW : V → Wv → Prop
  | d {v : V} {x : PyData} : Dp K H v x → RW v (.d x)
  | te {a : Addr} {vs : List V} {ds : List PyData} : H a = some (NL.TupE a vs) → DpAll K H vs ds → RW (.ref a) (.te ds)
  | dk {a : Addr} {kvs : List (L2.Key × V)} {ds : List (L2.Key × PyData)} : H a = some (.dK kvs) → Paired (fun p q => p.1 = q.1 ∧ Dp K H p.2 q.2) kvs ds → RW (.ref a) (.dk ds)
  | dn {a : Addr} {L : NL.LN} {ds : List (NestedKey × PyData)} : NL.DN P w K H a L → Paired (fun p q => p.1 = q.1 ∧ Dp K H p.2.2 q.2) L ds → RW (.ref a) (.dn ds)
  | hl {a : Addr} {vs : List V} {ds : List PyData} : Rd H a (.lst vs) → DpAll K H vs ds → RW (.ref a) (.hl ds)
  | ls {a : Addr} {xs : List V} {ws : List Wv} : SqL K H a xs → RWs xs ws → RW (.ref a) (.ls ws)
  | ob {a C dx : Addr} {fs : List (Str × V)} {ws : List (Str × Wv)} : H a = some (.ins C dx fs) → RWf fs ws → RW (.ref a) (.ob C ws)
  | dw {a : Addr} {kvs : List (L2.Key × V)} {ks : List L2.Key} {vs : List V} {ws : List Wv} : H a = some (.dK kvs) → ks.map (valV kvs) = vs.map some → RWs vs ws → RW (.ref a) (.dw ks ws)
  | nw {a : Addr} {L : NL.LN} {ks : List NestedKey} {vs : List V} {ws : List Wv} : NL.DN P w K H a L → ks.map (NL.valN L) = vs.map some → RWs vs ws → RW (.ref a) (.nw ks ws)
inductive RWs : List V → List Wv → Prop
  | nil : RWs [] []
  | cons {v : V} {vs : List V} {x : Wv} {ws : List Wv} : RW v x → RWs vs ws → RWs (v :: vs) (x :: ws)
inductive RWf : List (Str × V) → List (Str × Wv) → Prop
  | nil : RWf [] []
  | cons {n : Str} {v : V} {vs : List (Str × V)} {x : Wv} {ws : List (Str × Wv)} : RW v x → RWf vs ws → RWf ((n, v) :: vs) ((n, x) :: ws)
end
end
theorem rd_sm {H H' : Hp} (s : Sm H H') {a : Addr} {u : HO} : Rd H a u → Rd H' a u
  | .inl h => .inl (s _ _ h)
  | .inr ⟨o, h⟩ => .inr ⟨o, s _ _ h⟩
theorem sqt_sm {K : PySem.W.Frag} {H H' : Hp} (s : Sm H H') {a : Addr} {xs : List V} : SqT K H a xs → SqT K H' a xs
  | .inl h => .inl (rd_sm s h)
  | .inr h => .inr h
theorem sql_sm {K : PySem.W.Frag} {H H' : Hp} (s : Sm H H') {a : Addr} {xs : List V} : SqL K H a xs → SqL K H' a xs
  | .inl h => .inl (rd_sm s h)
  | .inr h => .inr h
mutual
theorem dp_sm {K : PySem.W.Frag} {H H' : Hp} (s : Sm H H') : ∀ {v : V} {d : PyData}, Dp K H v d → Dp K H' v d
  | _, _, .non => .non
  | _, _, .bl b => .bl b
  | _, _, .int i => .int i
  | _, _, .str x => .str x
  | _, _, .lst h t => .lst (sql_sm s h) (dpa_sm s t)
  | _, _, .tup h t => .tup (sqt_sm s h) (dpa_sm s t)
theorem dpa_sm {K : PySem.W.Frag} {H H' : Hp} (s : Sm H H') : ∀ {v : List V} {d : List PyData}, DpAll K H v d → DpAll K H' v d
  | _, _, .nil => .nil
  | _, _, .cons h t => .cons (dp_sm s h) (dpa_sm s t)
end
theorem dn_sm {P : Program} {w : World} {K : PySem.W.Frag} {H H' : Hp} (s : Sm H H') {a : Addr} {L : NL.LN} (h : NL.DN P w K H a L) : NL.DN P w K H' a L :=
  ⟨s _ _ h.ob, fun x hx => let ⟨d, h1, h2⟩ := h.ks x hx; ⟨d, dp_sm s h1, h2⟩⟩
section
variable {P : Program} {w : World} {K : PySem.W.Frag}
mutual
theorem rw_sm {H H' : Hp} (s : Sm H H') : ∀ {v : V} {x : Wv}, RW P w K H v x → RW P w K H' v x
  | _, _, .d h => .d (dp_sm s h)
  | _, _, .te h t => .te (s _ _ h) (dpa_sm s t)
  | _, _, .dk h t => .dk (s _ _ h) (Paired.imp t fun _ _ z => ⟨z.1, dp_sm s z.2⟩)
  | _, _, .dn h t => .dn (dn_sm s h) (Paired.imp t fun _ _ z => ⟨z.1, dp_sm s z.2⟩)
  | _, _, .hl h t => .hl (rd_sm s h) (dpa_sm s t)
  | _, _, .ls h t => .ls (sql_sm s h) (rws_sm s t)
  | _, _, .ob h t => .ob (s _ _ h) (rwf_sm s t)
  | _, _, .dw h e t => .dw (s _ _ h) e (rws_sm s t)
  | _, _, .nw h e t => .nw (dn_sm s h) e (rws_sm s t)
theorem rws_sm {H H' : Hp} (s : Sm H H') : ∀ {v : List V} {x : List Wv}, RWs P w K H v x → RWs P w K H' v x
  | _, _, .nil => .nil
  | _, _, .cons h t => .cons (rw_sm s h) (rws_sm s t)
theorem rwf_sm {H H' : Hp} (s : Sm H H') : ∀ {v : List (Str × V)} {x : List (Str × Wv)}, RWf P w K H v x → RWf P w K H' v x
  | _, _, .nil => .nil
  | _, _, .cons h t => .cons (rw_sm s h) (rwf_sm s t)
end
end
theorem Sm.rfl' (H : Hp) : Sm H H := fun _ _ e => e
abbrev EV := List (Option Wv)
abbrev EF := EV → Option Wv
abbrev AF := EV → Option (List Wv)
/-- the variables that are known -/
structure ER (P : Program) (w : World) (K : PySem.W.Frag) (H : Hp) (σ : L2.St) (ε : EV) : Prop where
  len : σ.length = ε.length
  at_ : ∀ (i : Nat) (x : Wv), ε[i]? = some (some x) → ∃ v, σ[i]? = some (some v) ∧ RW P w K H v x
def tW (P : Program) (w : World) (K : PySem.W.Frag) (f : EF) : TE := fun σ H Q => ∃ ε r, ER P w K H σ ε ∧ f ε = some r ∧ ∀ v H', Sm H H' → RW P w K H' v r → Q v H'
def tWA (P : Program) (w : World) (K : PySem.W.Frag) (f : AF) : TA := fun σ H Q => ∃ ε r, ER P w K H σ ε ∧ f ε = some r ∧ ∀ v H', Sm H H' → RWs P w K H' v r → Q v H'
def tWT (P : Program) (w : World) (K : PySem.W.Frag) (f : EV → Option Bool) : TT := fun σ H Q => ∃ ε r, ER P w K H σ ε ∧ f ε = some r ∧ ∀ H', Sm H H' → Q r H'
section
variable {P : Program} {w : World} {K : PySem.W.Frag}
theorem ER.sm {H H' : Hp} {σ : L2.St} {ε : EV} (s : Sm H H') (h : ER P w K H σ ε) : ER P w K H' σ ε :=
  ⟨h.len, fun i x e => let ⟨v, h1, h2⟩ := h.at_ i x e; ⟨v, h1, rw_sm s h2⟩⟩
theorem ER.set {H : Hp} {σ : L2.St} {ε : EV} {i : Nat} {v : V} {x : Wv} (h : ER P w K H σ ε) (r : RW P w K H v x) : ER P w K H (σ.set i (some v)) (ε.set i (some x)) := by
  refine ⟨by simp [h.len], fun j y e => ?_⟩
  by_cases hj : i = j
  · subst hj
    rw [List.getElem?_set] at e ⊢
    by_cases hl : i < ε.length
    · rw [if_pos rfl, if_pos hl] at e
      rw [if_pos rfl, if_pos (by rw [h.len]; exact hl)]
      cases e
      exact ⟨v, rfl, r⟩
    · rw [if_pos rfl, if_neg hl] at e
      cases e
  · rw [List.getElem?_set_ne hj] at e ⊢
    exact h.at_ j y e
theorem ER.none {H : Hp} {σ : L2.St} {ε : EV} {i : Nat} {u : Option V} (h : ER P w K H σ ε) : ER P w K H (σ.set i u) (ε.set i none) := by
  refine ⟨by simp [h.len], fun j y e => ?_⟩
  by_cases hj : i = j
  · subst hj
    rw [List.getElem?_set] at e
    by_cases hl : i < ε.length
    · rw [if_pos rfl, if_pos hl] at e
      cases e
    · rw [if_pos rfl, if_neg hl] at e
      cases e
  · rw [List.getElem?_set_ne hj] at e ⊢
    exact h.at_ j y e
theorem RWs.len {H : Hp} : ∀ {vs : List V} {ws : List Wv}, RWs P w K H vs ws → vs.length = ws.length
  | _, _, .nil => rfl
  | _, _, .cons _ t => congrArg (· + 1) (RWs.len t)
theorem rws_app {H : Hp} : ∀ {vs us : List V} {ws xs : List Wv}, RWs P w K H vs ws → RWs P w K H us xs → RWs P w K H (vs ++ us) (ws ++ xs)
  | _, _, _, _, .nil, h => h
  | _, _, _, _, .cons a t, h => .cons a (rws_app t h)
theorem er_start_at {H : Hp} {tl : List (Option V)} {tw : List (Option Wv)} (hn : ∀ (j : Nat) (y : Wv), tw[j]? = some (some y) → False) : ∀ {vs : List V} {ws : List Wv}, RWs P w K H vs ws → ∀ (i : Nat) (x : Wv), (ws.map some ++ tw)[i]? = some (some x) → ∃ v, (vs.map some ++ tl)[i]? = some (some v) ∧ RW P w K H v x
  | _, _, .nil, i, x, e => (hn i x (by simpa using e)).elim
  | _, _, .cons r t, 0, x, e => by
    simp at e
    subst e
    exact ⟨_, by simp, r⟩
  | _, _, .cons r t, i + 1, x, e => by
    obtain ⟨u, h1, h2⟩ := er_start_at hn t i x (by simpa using e)
    exact ⟨u, by simpa using h1, h2⟩
theorem er_start {H : Hp} {N : List Str} {vs : List V} {ws : List Wv} (h : RWs P w K H vs ws) : ER P w K H (L2.start N vs) (ws.map some ++ List.replicate (N.length - ws.length) none) := by
  have hl := h.len
  refine ⟨by simp [L2.start, hl], ?_⟩
  unfold L2.start
  exact er_start_at (fun j y z => by
    have := List.mem_of_getElem? z
    simp [List.mem_replicate] at this) h
end
/-! data -/
def dOf : Wv → Option PyData
  | .d x => some x
  | _ => none
def allD : List Wv → Option (List PyData)
  | [] => some []
  | .d x :: t => (allD t).map (x :: ·)
  | _ :: _ => none
theorem allD_map : ∀ ds : List PyData, allD (ds.map .d) = some ds
  | [] => rfl
  | d :: t => by simp [allD, allD_map t]
/-- a list of these -/
def mkL (ws : List Wv) : Wv := match allD ws with
  | some ds => .d (.list ds)
  | none => .ls ws
section
variable {P : Program} {w : World} {K : PySem.W.Frag} {H : Hp}
theorem rws_d : ∀ {vs : List V} {ws : List Wv} {ds : List PyData}, RWs P w K H vs ws → allD ws = some ds → DpAll K H vs ds
  | _, _, _, .nil, e => by cases e; exact .nil
  | _, _, ds, @RWs.cons _ _ _ _ v vs x ws r t, e => by
    cases x with
    | d y =>
      simp only [allD, Option.map_eq_some_iff] at e
      obtain ⟨l, e1, rfl⟩ := e
      cases r with
      | d h => exact .cons h (rws_d t e1)
    | _ => cases e
theorem rws_ofD : ∀ {vs : List V} {ds : List PyData}, DpAll K H vs ds → RWs P w K H vs (ds.map .d)
  | _, _, .nil => .nil
  | _, _, .cons h t => .cons (.d h) (rws_ofD t)
theorem rw_mkL {a : Addr} {vs : List V} {ws : List Wv} (h : SqL K H a vs) (r : RWs P w K H vs ws) : RW P w K H (.ref a) (mkL ws) := by
  unfold mkL
  cases e : allD ws with
  | none => exact .ls h r
  | some ds => exact .d (.lst h (rws_d r e))
theorem rw_d {v : V} {x : PyData} (h : RW P w K H v (.d x)) : Dp K H v x := by
  cases h with
  | d h => exact h
end
theorem PE.wk {X : Cx} {e : Expr} {t t' : TE} (h : PE X e t) (hh : ∀ σ H Q, t' σ H Q → t σ H Q) : PE X e t' := ⟨fun pins s σ H Q I q => h.run pins s σ H Q I (hh σ H Q q)⟩
theorem PA.wk {X : Cx} {e : List Expr} {t t' : TA} (h : PA X e t) (hh : ∀ σ H Q, t' σ H Q → t σ H Q) : PA X e t' := ⟨fun pos pins s σ H Q I q => h.run pos pins s σ H Q I (hh σ H Q q)⟩
theorem PT.wk {X : Cx} {e : Expr} {t t' : TT} (h : PT X e t) (hh : ∀ σ H Q, t' σ H Q → t σ H Q) : PT X e t' := ⟨fun pins s σ H Q I q => h.run pins s σ H Q I (hh σ H Q q)⟩
theorem PS.wk {X : Cx} {e : Stmt} {t t' : TS} (h : PS X e t) (hh : ∀ D σ H, t' D σ H → t D σ H) : PS X e t' := ⟨fun pins s σ H D I q => h.run pins s σ H D I (hh D σ H q)⟩
theorem PSs.wk {X : Cx} {e : List Stmt} {t t' : TS} (h : PSs X e t) (hh : ∀ D σ H, t' D σ H → t D σ H) : PSs X e t' := ⟨fun pins s σ H D I q => h.run pins s σ H D I (hh D σ H q)⟩
abbrev WE (X : Cx) (e : Expr) (f : EF) : Prop := PE X e (tW X.prog X.w X.K f)
abbrev WA (X : Cx) (e : List Expr) (f : AF) : Prop := PA X e (tWA X.prog X.w X.K f)
abbrev WT (X : Cx) (e : Expr) (f : EV → Option Bool) : Prop := PT X e (tWT X.prog X.w X.K f)
section
variable {X : Cx}
/-! names, constants -/
def vF (i : Nat) : EF := fun ε => (ε[i]?).join
theorem we_v {e : Expr} {i : Nat} (h : PE X e (tVar i)) : WE X e (vF i) := PE.wk h fun σ H Q ⟨ε, r, E, e, q⟩ => by
  unfold vF at e
  cases e1 : ε[i]? with
  | none => rw [e1] at e; cases e
  | some o =>
    rw [e1] at e
    have e2 : o = some r := e
    rw [e2] at e1
    obtain ⟨v, h1, h2⟩ := E.at_ i r e1
    exact ⟨v, h1, q v H (Sm.rfl' H) h2⟩
def sc : V → PyData
  | .bl b => .bool b
  | .int i => .int i
  | .str x => .str x
  | _ => .none
def scB : V → Bool
  | .non => true
  | .bl _ => true
  | .int _ => true
  | .str _ => true
  | _ => false
theorem sc_dp {K : PySem.W.Frag} {H : Hp} : ∀ {v : V}, scB v = true → Dp K H v (sc v)
  | .non, _ => .non
  | .bl b, _ => .bl b
  | .int i, _ => .int i
  | .str x, _ => .str x
def cF (d : PyData) : EF := fun _ => some (.d d)
theorem we_c {e : Expr} {v : V} (h : PE X e (tC v)) (hb : scB v = true := by rfl) : WE X e (cF (sc v)) := PE.wk h fun σ H Q ⟨ε, r, E, e, q⟩ => by
  cases e
  exact q v H (Sm.rfl' H) (.d (sc_dp hb))
/-- what is known of a global name -/
theorem we_k {e : Expr} {v : V} {d : PyData} (h : PE X e (tC v)) (hd : ∀ H, Dp X.K H v d) : WE X e (cF d) := PE.wk h fun σ H Q ⟨ε, r, E, e, q⟩ => by
  cases e
  exact q v H (Sm.rfl' H) (.d (hd H))
/-! arguments, displays -/
def nilF : AF := fun _ => some []
def consF (f : EF) (g : AF) : AF := fun ε => (f ε).bind fun x => (g ε).map (x :: ·)
theorem wa_nil : WA X [] nilF := PA.wk pa_nil fun σ H Q ⟨ε, r, E, e, q⟩ => by
  cases e
  exact q [] H (Sm.rfl' H) .nil
theorem wa_cons {e : Expr} {es : List Expr} {f : EF} {g : AF} (h : WE X e f) (t : WA X es g) (hs : starEach (e :: es) X.env = (false, eval e X.env) :: starEach es X.env := by rfl) : WA X (e :: es) (consF f g) :=
  PA.wk (pa_cons h t hs) fun σ H Q ⟨ε, r, E, e, q⟩ => by
    unfold consF at e
    obtain ⟨x, e1, e2⟩ := Option.bind_eq_some_iff.mp e
    obtain ⟨l, e3, rfl⟩ := Option.map_eq_some_iff.mp e2
    exact ⟨ε, x, E, e1, fun v H1 s1 r1 => ⟨ε, l, E.sm s1, e3, fun vs H2 s2 r2 => q _ _ (s1.trans s2) (.cons (rw_sm s2 r1) r2)⟩⟩
def tupF (f : AF) : EF := fun ε => (f ε).bind fun ws => (allD ws).bind fun ds => if ds.length ≤ 1000 then some (.d (.tuple ds)) else none
theorem dpa_len {K : PySem.W.Frag} {H : Hp} : ∀ {vs : List V} {ds : List PyData}, DpAll K H vs ds → vs.length = ds.length
  | _, _, .nil => rfl
  | _, _, .cons _ t => congrArg (· + 1) (dpa_len t)
theorem upd_sm {H : Hp} {p : Addr} {o : HO} (h : H p = none) : Sm H (upd H p o) := Sm.new (Sm.rfl' H) h
theorem we_tup {es : List Expr} {f : AF} {pos : Pos} {k : Nat} (h : WA X es f) : WE X (.Tuple es k pos) (tupF f) := PE.wk (pe_tup h) fun σ H Q ⟨ε, r, E, e, q⟩ => by
  unfold tupF at e
  obtain ⟨ws, e1, e2⟩ := Option.bind_eq_some_iff.mp e
  obtain ⟨ds, e3, e4⟩ := Option.bind_eq_some_iff.mp e2
  by_cases hl : ds.length ≤ 1000
  · rw [if_pos hl] at e4
    cases e4
    refine ⟨ε, ws, E, e1, fun vs H1 s1 r1 => ?_⟩
    have hd := rws_d r1 e3
    refine ⟨by rw [dpa_len hd, sizeLine_eq]; omega, fun p hp => q _ _ (s1.trans (upd_sm hp)) (.d (.tup (SqT.of upd_same) (dpa_sm (upd_sm hp) hd)))⟩
  · rw [if_neg hl] at e4
    cases e4
def lstF (f : AF) : EF := fun ε => (f ε).bind fun ws => if ws.length ≤ 1000 then some (mkL ws) else none
theorem we_lst {es : List Expr} {f : AF} {pos : Pos} (h : WA X es f) : WE X (.List es pos) (lstF f) := PE.wk (pe_lst h) fun σ H Q ⟨ε, r, E, e, q⟩ => by
  unfold lstF at e
  obtain ⟨ws, e1, e2⟩ := Option.bind_eq_some_iff.mp e
  by_cases hl : ws.length ≤ 1000
  · rw [if_pos hl] at e2
    cases e2
    refine ⟨ε, ws, E, e1, fun vs H1 s1 r1 => ?_⟩
    refine ⟨by rw [r1.len, sizeLine_eq]; omega, fun p hp => q _ _ (s1.trans (upd_sm hp)) (rw_mkL (SqL.of upd_same) (rws_sm (upd_sm hp) r1))⟩
  · rw [if_neg hl] at e2
    cases e2
/-! truths -/
def bOf : Wv → Option Bool
  | .d (.bool b) => some b
  | _ => none
theorem bOf_v {P : Program} {w : World} {K : PySem.W.Frag} {H : Hp} {v : V} {x : Wv} {b : Bool} (r : RW P w K H v x) (e : bOf x = some b) : v = .bl b := by
  unfold bOf at e
  split at e
  · cases e
    cases rw_d r
    rfl
  · cases e
def bF (b : Bool) : Wv := .d (.bool b)
def andF (f g : EF) : EF := fun ε => (f ε).bind fun x => (bOf x).bind fun b => if b = true then g ε else some (bF false)
def orF (f g : EF) : EF := fun ε => (f ε).bind fun x => (bOf x).bind fun b => if b = true then some (bF true) else g ε
def notF (f : EF) : EF := fun ε => (f ε).bind fun x => (bOf x).map fun b => bF !b
theorem we_and {a b : Expr} {f g : EF} {pos : Pos} {rest : List Expr} (ha : WE X a f) (hb : WE X (.BoolOp .And (b :: rest) pos) g) : WE X (.BoolOp .And (a :: b :: rest) pos) (andF f g) :=
  PE.wk (pe_and ha hb) fun σ H Q ⟨ε, r, E, e, q⟩ => by
    unfold andF at e
    obtain ⟨x, e1, e2⟩ := Option.bind_eq_some_iff.mp e
    obtain ⟨c, e3, e4⟩ := Option.bind_eq_some_iff.mp e2
    refine ⟨ε, x, E, e1, fun v H1 s1 r1 => ⟨c, bOf_v r1 e3, ?_⟩⟩
    cases c
    · cases e4
      exact q _ _ s1 (.d (.bl false))
    · exact ⟨ε, r, E.sm s1, e4, fun v2 H2 s2 r2 => q _ _ (s1.trans s2) r2⟩
theorem we_or {a b : Expr} {f g : EF} {pos : Pos} {rest : List Expr} (ha : WE X a f) (hb : WE X (.BoolOp .Or (b :: rest) pos) g) : WE X (.BoolOp .Or (a :: b :: rest) pos) (orF f g) :=
  PE.wk (pe_or ha hb) fun σ H Q ⟨ε, r, E, e, q⟩ => by
    unfold orF at e
    obtain ⟨x, e1, e2⟩ := Option.bind_eq_some_iff.mp e
    obtain ⟨c, e3, e4⟩ := Option.bind_eq_some_iff.mp e2
    refine ⟨ε, x, E, e1, fun v H1 s1 r1 => ⟨c, bOf_v r1 e3, ?_⟩⟩
    cases c
    · exact ⟨ε, r, E.sm s1, e4, fun v2 H2 s2 r2 => q _ _ (s1.trans s2) r2⟩
    · cases e4
      exact q _ _ s1 (.d (.bl true))
theorem we_one {a : Expr} {f : EF} {pos : Pos} {op : BoolOp} (h : WE X a f) : WE X (.BoolOp op [a] pos) f := pe_one h
/-- a test whose value is a truth -/
def testF (f : EF) : EV → Option Bool := fun ε => (f ε).bind bOf
theorem wt_val {e : Expr} {f : EF} (h : WE X e f) (ht : ∀ whole : Sem Value, PySem.isTrue e X.env whole = (do let v ← whole; standAt e.pos; holding [v] (truthy v)) := by intro _; rfl) : WT X e (testF f) :=
  PT.wk (pt_val h ht) fun σ H Q ⟨ε, r, E, e, q⟩ => by
    obtain ⟨x, e1, e2⟩ := Option.bind_eq_some_iff.mp e
    exact ⟨ε, x, E, e1, fun v H1 s1 r1 => ⟨r, bOf_v r1 e2, q _ s1⟩⟩
def tNotF (f : EV → Option Bool) : EV → Option Bool := fun ε => (f ε).map (!·)
theorem wt_not {a : Expr} {pos : Pos} {f : EV → Option Bool} (h : WT X a f) : WT X (.UnaryOp .Not a pos) (tNotF f) := PT.wk (pt_not h) fun σ H Q ⟨ε, r, E, e, q⟩ => by
  obtain ⟨b, e1, rfl⟩ := Option.map_eq_some_iff.mp e
  exact ⟨ε, b, E, e1, fun H1 s1 => q _ s1⟩
/-! operators of two values -/
def opF (f g : EF) (o : Wv → Wv → Option Wv) : EF := fun ε => (f ε).bind fun x => (g ε).bind fun y => o x y
/-- the reading r is met wherever o tells a value -/
def Meets2 (X : Cx) (r : R2) (o : Wv → Wv → Option Wv) : Prop := ∀ (H : Hp) (x y : V) (a b c : Wv) (Q : VK), RW X.prog X.w X.K H x a → RW X.prog X.w X.K H y b → o a b = some c → (∀ v H', Sm H H' → RW X.prog X.w X.K H' v c → Q v H') → r x y H Q
theorem top_w {r : R2} {f g : EF} {o : Wv → Wv → Option Wv} (m : Meets2 X r o) {σ : L2.St} {H : Hp} {Q : VK} (h : tW X.prog X.w X.K (opF f g o) σ H Q) : tOp r (tW X.prog X.w X.K f) (tW X.prog X.w X.K g) σ H Q := by
  obtain ⟨ε, c, E, e, q⟩ := h
  unfold opF at e
  obtain ⟨x, e1, e2⟩ := Option.bind_eq_some_iff.mp e
  obtain ⟨y, e3, e4⟩ := Option.bind_eq_some_iff.mp e2
  exact ⟨ε, x, E, e1, fun v H1 s1 r1 => ⟨ε, y, E.sm s1, e3, fun v2 H2 s2 r2 => m H2 v v2 x y c Q (rw_sm s2 r1) r2 e4 fun v3 H3 s3 r3 => q _ _ ((s1.trans s2).trans s3) r3⟩⟩
theorem we_cmp {a b : Expr} {f g : EF} {pos : Pos} {op : CmpOp} {r : R2} {o : Wv → Wv → Option Wv} (ho : OpR X (compareOp op) r) (m : Meets2 X r o) (ha : WE X a f) (hb : WE X b g) (hm : behindInMarks op b = false) : WE X (.Compare a [op] [b] pos) (opF f g o) :=
  PE.wk (pe_cmpR ho ha hb hm) fun _ _ _ h => top_w m h
theorem wt_cmp {a b : Expr} {f g : EF} {pos : Pos} {op : CmpOp} {r : R2} {o : Wv → Wv → Option Wv} (ho : OpR X (compareOp op) r) (m : Meets2 X r o) (ha : WE X a f) (hb : WE X b g) (hm : behindInMarks op b = false) : WT X (.Compare a [op] [b] pos) (testF (opF f g o)) :=
  PT.wk (pt_cmpR ho ha hb hm) fun σ H Q ⟨ε, r, E, e, q⟩ => by
    obtain ⟨x, e1, e2⟩ := Option.bind_eq_some_iff.mp e
    exact top_w m ⟨ε, x, E, e1, fun v H1 s1 r1 => ⟨r, bOf_v r1 e2, q _ s1⟩⟩
theorem we_op {a b : Expr} {f g : EF} {pos : Pos} {op : Operator} {r : R2} {o : Wv → Wv → Option Wv} (ho : OpR X (binaryOp op) r) (m : Meets2 X r o) (ha : WE X a f) (hb : WE X b g) : WE X (.BinOp a op b pos) (opF f g o) :=
  PE.wk (pe_op ho ha hb) fun _ _ _ h => top_w m h
theorem we_ix {a b : Expr} {f g : EF} {pos : Pos} {r : R2} {o : Wv → Wv → Option Wv} (ho : IxR X r) (m : Meets2 X r o) (ha : WE X a f) (hb : WE X b g) (hp : PlainIx b) : WE X (.Subscript a b pos) (opF f g o) :=
  PE.wk (pe_ix ho ha hb hp) fun _ _ _ h => top_w m h
end
end KW
namespace KW
open PySem PySem.Spec PyProof.Rows L2 KZ
section
variable {X : Cx}
/-! == and in of data -/
def oEq (neg : Bool) : Wv → Wv → Option Wv
  | .d x, .d y => if x.plain = true ∧ y.plain = true ∧ min x.depth y.depth ≤ 20 then some (bF (neg ^^ PyData.eqv x y)) else none
  | _, _ => none
theorem m_eq (neg : Bool) : Meets2 X (NL.rEqP X neg) (oEq neg) := by
  intro H x y a b c Q ra rb e q
  unfold oEq at e
  split at e
  · rename_i d1 d2
    by_cases h : d1.plain = true ∧ d2.plain = true ∧ min d1.depth d2.depth ≤ 20
    · rw [if_pos h] at e
      cases e
      exact ⟨d1, d2, rw_d ra, rw_d rb, h.1, h.2.1, h.2.2, q _ _ (Sm.rfl' H) (.d (.bl _))⟩
    · rw [if_neg h] at e
      cases e
  · cases e
def seqOf : Wv → Option (List PyData)
  | .d (.tuple ds) => some ds
  | .d (.list ds) => some ds
  | .te ds => some ds
  | _ => none
def oIn (neg : Bool) (a b : Wv) : Option Wv := (dOf a).bind fun x => (seqOf b).bind fun ds => if x.plain = true ∧ PyData.plainAll ds = true ∧ min (PyData.depthAll ds) x.depth ≤ 20 then some (bF (neg ^^ ds.any fun z => PyData.eqv z x)) else none
theorem OpR.or {op : CmpOp} {r r' : R2} (h : OpR X (compareOp op) r) (h' : OpR X (compareOp op) r') : OpR X (compareOp op) (fun x y H Q => r x y H Q ∨ r' x y H Q) := by
  intro pins s σ H x y v u Q I rx ry q
  rcases q with q | q
  · exact h pins s σ H x y v u Q I rx ry q
  · exact h' pins s σ H x y v u Q I rx ry q
def rInW (X : Cx) (neg : Bool) : R2 := fun x y H Q => NL.rInP X neg x y H Q ∨ NL.rInE X neg x y H Q
theorem op_inW (hu : X.A.units + 30 < cLine) : OpR X (compareOp .In) (rInW X false) := OpR.or (NL.op_inP hu) (NL.op_inE hu)
theorem op_notInW (hu : X.A.units + 30 < cLine) : OpR X (compareOp .NotIn) (NL.rInP X true) := NL.op_notInP hu
theorem m_in : Meets2 X (rInW X false) (oIn false) := by
  intro H x y a b c Q ra rb e q
  unfold oIn at e
  obtain ⟨d, e1, e2⟩ := Option.bind_eq_some_iff.mp e
  obtain ⟨ds, e3, e4⟩ := Option.bind_eq_some_iff.mp e2
  by_cases h : d.plain = true ∧ PyData.plainAll ds = true ∧ min (PyData.depthAll ds) d.depth ≤ 20
  · rw [if_pos h] at e4
    cases e4
    have hx : Dp X.K H x d := by
      cases a <;> cases e1
      exact rw_d ra
    have q' := q _ H (Sm.rfl' H) (.d (.bl _))
    unfold seqOf at e3
    split at e3
    · cases e3
      exact .inl ⟨d, ds, hx, .inl (rw_d rb), h.1, h.2.1, h.2.2, q'⟩
    · cases e3
      exact .inl ⟨d, ds, hx, .inr (rw_d rb), h.1, h.2.1, h.2.2, q'⟩
    · cases e3
      cases rb with
      | te h1 h2 => exact .inr ⟨d, _, _, ds, rfl, ⟨h1, h2⟩, hx, h.1, h.2.1, h.2.2, q'⟩
    · cases e3
  · rw [if_neg h] at e4
    cases e4
def oNotIn (a b : Wv) : Option Wv := match b with
  | .te _ => none
  | _ => oIn true a b
theorem m_notIn : Meets2 X (NL.rInP X true) oNotIn := by
  intro H x y a b c Q ra rb e q
  unfold oNotIn at e
  split at e
  · cases e
  · rename_i ne
    unfold oIn at e
    obtain ⟨d, e1, e2⟩ := Option.bind_eq_some_iff.mp e
    obtain ⟨ds, e3, e4⟩ := Option.bind_eq_some_iff.mp e2
    by_cases h : d.plain = true ∧ PyData.plainAll ds = true ∧ min (PyData.depthAll ds) d.depth ≤ 20
    · rw [if_pos h] at e4
      cases e4
      have hx : Dp X.K H x d := by
        cases a <;> cases e1
        exact rw_d ra
      have q' := q _ H (Sm.rfl' H) (.d (.bl _))
      unfold seqOf at e3
      split at e3
      · cases e3
        exact ⟨d, ds, hx, .inl (rw_d rb), h.1, h.2.1, h.2.2, q'⟩
      · cases e3
        exact ⟨d, ds, hx, .inr (rw_d rb), h.1, h.2.1, h.2.2, q'⟩
      · exact (ne _ rfl).elim
      · cases e3
    · rw [if_neg h] at e4
      cases e4
/-! numbers -/
def iOf : Wv → Option Int
  | .d (.int i) => some i
  | _ => none
theorem iOf_v {P : Program} {w : World} {K : PySem.W.Frag} {H : Hp} {v : V} {x : Wv} {b : Int} (r : RW P w K H v x) (e : iOf x = some b) : v = .int b := by
  unfold iOf at e
  split at e
  · cases e
    cases rw_d r
    rfl
  · cases e
def oI (g : Int → Int → PyData) (a b : Wv) : Option Wv := (iOf a).bind fun i => (iOf b).map fun j => .d (g i j)
theorem m_i {g : Int → Int → V} (hb : ∀ i j, scB (g i j) = true) : Meets2 X (rI0 g) (oI fun i j => sc (g i j)) := by
  intro H x y a b c Q ra rb e q
  unfold oI at e
  obtain ⟨i, e1, e2⟩ := Option.bind_eq_some_iff.mp e
  obtain ⟨j, e3, rfl⟩ := Option.map_eq_some_iff.mp e2
  exact ⟨i, j, iOf_v ra e1, iOf_v rb e3, q _ _ (Sm.rfl' H) (.d (sc_dp (hb i j)))⟩
/-! items -/
theorem dpa_at {K : PySem.W.Frag} {H : Hp} : ∀ {vs : List V} {ds : List PyData}, DpAll K H vs ds → ∀ (j : Nat) (d : PyData), ds[j]? = some d → ∃ v, vs[j]? = some v ∧ Dp K H v d
  | _, _, .nil, j, d, e => by simp at e
  | _, _, .cons h t, 0, d, e => by
    simp at e
    subst e
    exact ⟨_, rfl, h⟩
  | _, _, .cons h t, j + 1, d, e => by
    obtain ⟨v, e1, e2⟩ := dpa_at t j d (by simpa using e)
    exact ⟨v, by simpa using e1, e2⟩
theorem dpa_atI {K : PySem.W.Frag} {H : Hp} {vs : List V} {ds : List PyData} (h : DpAll K H vs ds) {i : Int} {d : PyData} (e : atI ds i = some d) : ∃ v, atI vs i = some v ∧ Dp K H v d := by
  unfold atI at e ⊢
  rw [dpa_len h]
  cases e1 : ixN ds.length i with
  | none => rw [e1] at e; cases e
  | some j =>
    rw [e1] at e
    exact dpa_at h j d e
def oIx (a b : Wv) : Option Wv := match a with
  | .d (.tuple ds) => (iOf b).bind fun i => (atI ds i).map .d
  | .d (.list ds) => (iOf b).bind fun i => (atI ds i).map .d
  | _ => none
theorem m_ix : Meets2 X (rIx X.K) oIx := by
  intro H x y a b c Q ra rb e q
  unfold oIx at e
  split at e
  · obtain ⟨i, e1, e2⟩ := Option.bind_eq_some_iff.mp e
    obtain ⟨d, e3, rfl⟩ := Option.map_eq_some_iff.mp e2
    cases rw_d ra with
    | tup h t =>
      obtain ⟨v, e4, e5⟩ := dpa_atI t e3
      exact .inr (.inl ⟨_, _, i, v, rfl, iOf_v rb e1, h, e4, q _ _ (Sm.rfl' H) (.d e5)⟩)
  · obtain ⟨i, e1, e2⟩ := Option.bind_eq_some_iff.mp e
    obtain ⟨d, e3, rfl⟩ := Option.map_eq_some_iff.mp e2
    cases rw_d ra with
    | lst h t =>
      obtain ⟨v, e4, e5⟩ := dpa_atI t e3
      exact .inl ⟨_, _, i, v, rfl, iOf_v rb e1, h, e4, q _ _ (Sm.rfl' H) (.d e5)⟩
  · cases e
/-- a + b of tuples -/
def oCat : Wv → Wv → Option Wv
  | .d (.tuple xs), .d (.tuple ys) => if xs.length + ys.length ≤ 1000 then some (.d (.tuple (xs ++ ys))) else none
  | _, _ => none
theorem dpa_app {K : PySem.W.Frag} {H : Hp} : ∀ {vs us : List V} {ds es : List PyData}, DpAll K H vs ds → DpAll K H us es → DpAll K H (vs ++ us) (ds ++ es)
  | _, _, _, _, .nil, h => h
  | _, _, _, _, .cons a t, h => .cons a (dpa_app t h)
theorem m_cat : Meets2 X (rCatA X.K) oCat := by
  intro H x y a b c Q ra rb e q
  unfold oCat at e
  split at e
  · rename_i ds es
    by_cases hl : ds.length + es.length ≤ 1000
    · rw [if_pos hl] at e
      cases e
      have h1 := rw_d ra
      have h2 := rw_d rb
      cases h1 with
      | @tup a1 xs _ h1 t1 =>
        cases h2 with
        | @tup a2 ys _ h2 t2 =>
          have l1 := dpa_len t1
          have l2 := dpa_len t2
          refine ⟨a1, a2, xs, ys, rfl, rfl, h1, h2, by rw [sizeLine_eq]; omega, fun z => ?_, fun _ z => ?_, fun _ _ p hp => ?_⟩
          · subst z
            cases t1
            exact q _ _ (Sm.rfl' H) (.d (.tup h2 t2))
          · subst z
            cases t2
            rw [List.append_nil] at q
            exact q _ _ (Sm.rfl' H) (.d (.tup h1 t1))
          · exact q _ _ (upd_sm hp) (.d (.tup (SqT.of upd_same) (dpa_sm (upd_sm hp) (dpa_app t1 t2))))
    · rw [if_neg hl] at e
      cases e
  · cases e
/-! slices of tuples -/
abbrev PF := EV → Option (Option Int)
def tWO (P : Program) (w : World) (K : PySem.W.Frag) (f : PF) : TO := fun σ H Q => ∃ ε r, ER P w K H σ ε ∧ f ε = some r ∧ ∀ H', Sm H H' → Q r H'
abbrev WO (X : Cx) (e : Option Expr) (f : PF) : Prop := PO X e (tWO X.prog X.w X.K f)
theorem PO.wk {X : Cx} {e : Option Expr} {t t' : TO} (h : PO X e t) (hh : ∀ σ H Q, t' σ H Q → t σ H Q) : PO X e t' := ⟨fun pins s σ H Q I q => h.run pins s σ H Q I (hh σ H Q q)⟩
theorem wo_none : WO X none (fun _ => some none) := PO.wk po_none fun σ H Q ⟨ε, r, E, e, q⟩ => by
  cases e
  exact q H (Sm.rfl' H)
theorem wo_some {e : Expr} {f : EF} (h : WE X e f) : WO X (some e) (fun ε => (f ε).bind fun x => (iOf x).map some) := PO.wk (po_some h) fun σ H Q ⟨ε, r, E, e, q⟩ => by
  obtain ⟨x, e1, e2⟩ := Option.bind_eq_some_iff.mp e
  obtain ⟨i, e3, rfl⟩ := Option.map_eq_some_iff.mp e2
  exact ⟨ε, x, E, e1, fun v H1 s1 r1 => ⟨i, iOf_v r1 e3, q _ s1⟩⟩
def cutD (xs : List PyData) (lo hi : Option Int) : List PyData := List.take (HT.sIx xs.length xs.length hi - HT.sIx xs.length 0 lo) (List.drop (HT.sIx xs.length 0 lo) xs)
def slF (f : EF) (l h : PF) : EF := fun ε => (f ε).bind fun x => (l ε).bind fun a => (h ε).bind fun b => match x with
  | .d (.tuple ds) => some (.d (.tuple (cutD ds a b)))
  | _ => none
theorem dpa_drop {K : PySem.W.Frag} {H : Hp} : ∀ {vs : List V} {ds : List PyData} (n : Nat), DpAll K H vs ds → DpAll K H (vs.drop n) (ds.drop n)
  | _, _, 0, h => h
  | _, _, _ + 1, .nil => .nil
  | _, _, n + 1, .cons _ t => dpa_drop n t
theorem dpa_take {K : PySem.W.Frag} {H : Hp} : ∀ {vs : List V} {ds : List PyData} (n : Nat), DpAll K H vs ds → DpAll K H (vs.take n) (ds.take n)
  | _, _, 0, h => .nil
  | _, _, _ + 1, .nil => .nil
  | _, _, n + 1, .cons h t => .cons h (dpa_take n t)
theorem we_slT {a : Expr} {lo hi : Option Expr} {f : EF} {l h : PF} {pos p2 : Pos} (ha : WE X a f) (hl : WO X lo l) (hh : WO X hi h) : WE X (.Subscript a (.Slice lo hi none p2) pos) (slF f l h) :=
  PE.wk (pe_slice sl_tupA ha hl hh) fun σ H Q ⟨ε, r, E, e, q⟩ => by
    unfold slF at e
    obtain ⟨x, e1, e2⟩ := Option.bind_eq_some_iff.mp e
    obtain ⟨i, e3, e4⟩ := Option.bind_eq_some_iff.mp e2
    obtain ⟨j, e5, e6⟩ := Option.bind_eq_some_iff.mp e4
    refine ⟨ε, x, E, e1, fun v H1 s1 r1 => ⟨ε, i, E.sm s1, e3, fun H2 s2 => ⟨ε, j, E.sm (s1.trans s2), e5, fun H3 s3 => ?_⟩⟩⟩
    split at e6
    · rename_i ds
      cases e6
      have r3 := rw_sm (s2.trans s3) r1
      have h1 := rw_d r3
      have s13 := (s1.trans s2).trans s3
      cases h1 with
      | @tup a1 xs _ h1 t1 =>
        have l1 := dpa_len t1
        have hc : DpAll X.K H3 (cutV xs i j) (cutD ds i j) := by
          unfold cutV cutD
          rw [l1]
          exact dpa_take _ (dpa_drop _ t1)
        refine ⟨a1, xs, rfl, h1, fun z => ?_, fun _ p hp => ?_⟩
        · have : cutD ds i j = ds := by
            unfold cutD
            rw [← l1, z.1, z.2, List.drop_zero, Nat.sub_zero, l1, List.take_length]
          rw [this] at q
          exact q _ _ s13 (.d (.tup h1 t1))
        · exact q _ _ (s13.trans (upd_sm hp)) (.d (.tup (SqT.of upd_same) (dpa_sm (upd_sm hp) hc)))
    · cases e6
/-! attributes -/
theorem rwf_lookup {P : Program} {w : World} {K : PySem.W.Frag} {H : Hp} (m : Str) : ∀ {fs : List (Str × V)} {ws : List (Str × Wv)}, RWf P w K H fs ws → (∀ x, ws.lookup m = some x → ∃ v, fs.lookup m = some v ∧ RW P w K H v x) ∧ (ws.lookup m = none → fs.lookup m = none)
  | _, _, .nil => ⟨fun x e => (by simp at e), fun _ => rfl⟩
  | _, _, @RWf.cons _ _ _ _ n v vs x ws h t => by
    obtain ⟨i1, i2⟩ := rwf_lookup m t
    rw [List.lookup_cons, List.lookup_cons]
    cases e : (m == n) with
    | true => exact ⟨fun y z => ⟨v, rfl, by cases z; exact h⟩, fun z => by cases z⟩
    | false => exact ⟨i1, i2⟩
def fldF (C : Addr) (n : Str) (f : EF) : EF := fun ε => (f ε).bind fun x => match x with
  | .ob D fs => if D = C then fs.lookup n else none
  | _ => none
theorem we_fld {e : Expr} {n : Str} {pos : Pos} {f : EF} {C : Addr} (h : WE X e f) (c : Cls X.K C) (na : NoAttr X.K C n) (hb : attributeBase e n X.env (eval e X.env) = eval e X.env := by rfl) : WE X (.Attribute e n pos) (fldF C n f) :=
  PE.wk (pe_fld h hb) fun σ H Q ⟨ε, r, E, e, q⟩ => by
    unfold fldF at e
    obtain ⟨x, e1, e2⟩ := Option.bind_eq_some_iff.mp e
    refine ⟨ε, x, E, e1, fun v H1 s1 r1 => ?_⟩
    split at e2
    · rename_i D fs
      by_cases hD : D = C
      · rw [if_pos hD] at e2
        subst hD
        cases r1 with
        | @ob a _ dx vs _ h1 t1 =>
          obtain ⟨u, e3, e4⟩ := (rwf_lookup n t1).1 _ e2
          exact ⟨a, D, dx, vs, u, rfl, h1, c, na, e3, q _ _ s1 e4⟩
      · rw [if_neg hD] at e2
        cases e2
    · cases e2
/-! builtin functions -/
def MeetsA (X : Cx) (r : List V → Hp → VK → Prop) (o : List Wv → Option Wv) : Prop := ∀ (H : Hp) (vs : List V) (ws : List Wv) (c : Wv) (Q : VK), RWs X.prog X.w X.K H vs ws → o ws = some c → (∀ v H', Sm H H' → RW X.prog X.w X.K H' v c → Q v H') → r vs H Q
def bltF (g : AF) (o : List Wv → Option Wv) : EF := fun ε => (g ε).bind o
theorem tcb_w {r : List V → Hp → VK → Prop} {g : AF} {o : List Wv → Option Wv} (m : MeetsA X r o) {σ : L2.St} {H : Hp} {Q : VK} (h : tW X.prog X.w X.K (bltF g o) σ H Q) : tCB r (tWA X.prog X.w X.K g) σ H Q := by
  obtain ⟨ε, c, E, e, q⟩ := h
  obtain ⟨x, e1, e2⟩ := Option.bind_eq_some_iff.mp e
  exact ⟨ε, x, E, e1, fun v H1 s1 r1 => m H1 v x c Q r1 e2 fun v2 H2 s2 r2 => q _ _ (s1.trans s2) r2⟩
def lenO : List Wv → Option Wv
  | [.d (.tuple ds)] => some (.d (.int ds.length))
  | [.d (.list ds)] => some (.d (.int ds.length))
  | [.hl ds] => some (.d (.int ds.length))
  | [.d (.str z)] => if z.length ≤ sizeLine then some (.d (.int z.length)) else none
  | _ => none
theorem rws1 {P : Program} {w : World} {K : PySem.W.Frag} {H : Hp} {vs : List V} {x : Wv} (h : RWs P w K H vs [x]) : ∃ v, vs = [v] ∧ RW P w K H v x := by
  cases h with
  | cons a t => cases t; exact ⟨_, rfl, a⟩
theorem m_len : MeetsA X (fun xs H Q => ∃ x n, xs = [x] ∧ LenV X.K x H n ∧ Q (V.int ↑n) H) lenO := by
  intro H vs ws c Q r e q
  unfold lenO at e
  split at e
  · obtain ⟨v, rfl, r1⟩ := rws1 r
    cases e
    cases rw_d r1 with
    | tup h t => exact ⟨_, _, rfl, .inr ⟨_, h, rfl⟩, by rw [dpa_len t]; exact q _ _ (Sm.rfl' H) (.d (.int _))⟩
  · obtain ⟨v, rfl, r1⟩ := rws1 r
    cases e
    cases rw_d r1 with
    | lst h t => exact ⟨_, _, rfl, .inl ⟨_, h, rfl⟩, by rw [dpa_len t]; exact q _ _ (Sm.rfl' H) (.d (.int _))⟩
  · obtain ⟨v, rfl, r1⟩ := rws1 r
    cases e
    cases r1 with
    | hl h t => exact ⟨_, _, rfl, .inl ⟨_, .inl h, rfl⟩, by rw [dpa_len t]; exact q _ _ (Sm.rfl' H) (.d (.int _))⟩
  · obtain ⟨v, rfl, r1⟩ := rws1 r
    rename_i z
    by_cases hz : z.length ≤ sizeLine
    · rw [if_pos hz] at e
      cases e
      cases rw_d r1
      exact ⟨_, _, rfl, ⟨hz, rfl⟩, q _ _ (Sm.rfl' H) (.d (.int _))⟩
    · rw [if_neg hz] at e
      cases e
  · cases e
def boolsD : List PyData → Option (List Bool)
  | [] => some []
  | .bool b :: t => (boolsD t).map (b :: ·)
  | _ :: _ => none
theorem boolsD_map : ∀ bs : List Bool, boolsD (bs.map .bool) = some bs
  | [] => rfl
  | b :: t => by simp [boolsD, boolsD_map t]
theorem bools_vs {K : PySem.W.Frag} {H : Hp} : ∀ {vs : List V} {ds : List PyData} {bs : List Bool}, DpAll K H vs ds → boolsD ds = some bs → vs = bs.map V.bl
  | _, _, _, .nil, e => by cases e; rfl
  | _, _, bs, @DpAll.cons _ _ v vs d ds h t, e => by
    cases d with
    | bool b =>
      simp only [boolsD, Option.map_eq_some_iff] at e
      obtain ⟨l, e1, rfl⟩ := e
      cases h
      rw [bools_vs t e1]
      rfl
    | _ => cases e
def allO : List Wv → Option Wv
  | [.d (.list ds)] => (boolsD ds).map fun bs => bF (bs.all id)
  | _ => none
theorem m_all : MeetsA X (rAll X.K) allO := by
  intro H vs ws c Q r e q
  unfold allO at e
  split at e
  · obtain ⟨v, rfl, r1⟩ := rws1 r
    obtain ⟨bs, e1, rfl⟩ := Option.map_eq_some_iff.mp e
    cases rw_d r1 with
    | lst h t => exact ⟨_, bs, rfl, by rw [← bools_vs t e1]; exact h, q _ _ (Sm.rfl' H) (.d (.bl _))⟩
  · cases e
/-- tuple(a list of data) -/
def tupleO : List Wv → Option Wv
  | [.d (.list ds)] => some (.d (.tuple ds))
  | [.d (.tuple ds)] => some (.d (.tuple ds))
  | _ => none
def rTupOfW (K : PySem.W.Frag) : List V → Hp → VK → Prop := fun xs H Q => ∃ p ys, xs = [V.ref p] ∧ ((SqL K H p ys ∧ ∀ l : Addr, H l = none → Q (V.ref l) (upd H l (.tup ys))) ∨ (SqT K H p ys ∧ Q (V.ref p) H))
theorem m_tuple : MeetsA X (rTupOfW X.K) tupleO := by
  intro H vs ws c Q r e q
  unfold tupleO at e
  split at e
  · obtain ⟨v, rfl, r1⟩ := rws1 r
    cases e
    cases rw_d r1 with
    | lst h t => exact ⟨_, _, rfl, .inl ⟨h, fun l hl => q _ _ (upd_sm hl) (.d (.tup (SqT.of upd_same) (dpa_sm (upd_sm hl) t)))⟩⟩
  · obtain ⟨v, rfl, r1⟩ := rws1 r
    cases e
    cases rw_d r1 with
    | tup h t => exact ⟨_, _, rfl, .inr ⟨h, q _ _ (Sm.rfl' H) (.d (.tup h t))⟩⟩
  · cases e
end
end KW
namespace KW
open PySem PySem.Spec PyProof.Rows L2 KZ
/-! isinstance -/
def tyN : PyData → String
  | .none => "NoneType"
  | .bool _ => "bool"
  | .int _ => "int"
  | .str _ => "str"
  | .list _ => "list"
  | .tuple _ => "tuple"
  | .dict _ => "dict"
def isTy (T : String) (d : PyData) : Bool := (kitB (tyN d) T).getD false
def tys : List String := ["tuple", "int", "bool", "str"]
theorem kit_tys {T : String} (h : T ∈ tys) (d : PyData) : kitB (tyN d) T = some (isTy T d) := by
  have : (tys.all fun T => (["NoneType", "bool", "int", "str", "list", "tuple", "dict"] : List String).all fun n => decide (kitB n T = some ((kitB n T).getD false))) = true := by decide +kernel
  have h1 := List.all_eq_true.mp (List.all_eq_true.mp this T h) (tyN d) (by cases d <;> simp [tyN])
  exact of_decide_eq_true h1
theorem dp_ty {K : PySem.W.Frag} {H : Hp} {v : V} {d : PyData} (h : Dp K H v d) : TyX K H v (.type (tyN d)) := by
  cases h with
  | non => exact .base .non
  | bl b => exact .base (.bl b)
  | int i => exact .base (.int i)
  | str x => exact .base (.str x)
  | lst h t =>
    rcases h with (h | ⟨o, h⟩) | ⟨o, its, n, e1, e2, _⟩
    · exact .base (.lst h)
    · exact .base (.frz h)
    · exact .kList e1 e2
  | tup h t =>
    rcases h with (h | ⟨o, h⟩) | ⟨o, its, n, e1, e2, _⟩
    · exact .base (.tup h)
    · exact .fTuple h
    · exact .kTuple e1 e2
theorem isTy_tuple (d : PyData) : isTy "tuple" d = match d with | .tuple _ => true | _ => false := by cases d <;> simp only [isTy, tyN] <;> decide +kernel
section
variable {X : Cx}
def isF (T : String) (f : EF) : EF := fun ε => (f ε).bind fun x => (dOf x).map fun d => bF (isTy T d)
theorem we_isi {e : Expr} {T : String} {f : EF} (h : PE X e (tCB (rIsi X.K) (tCons (tW X.prog X.w X.K f) (tCons (tC (V.ty T)) tNil)))) (hT : T ∈ tys := by decide) : WE X e (isF T f) := PE.wk h fun σ H Q ⟨ε, r, E, e, q⟩ => by
  unfold isF at e
  obtain ⟨x, e1, e2⟩ := Option.bind_eq_some_iff.mp e
  obtain ⟨d, e3, rfl⟩ := Option.map_eq_some_iff.mp e2
  refine ⟨ε, x, E, e1, fun v H1 s1 r1 => ⟨v, .ty T, .type (tyN d), .type T, isTy T d, rfl, .ty T, ?_, kit_ty (kit_tys hT d), q _ _ s1 (.d (.bl _))⟩⟩
  cases x <;> cases e3
  exact dp_ty (rw_d r1)
/-! calls of what only tells -/
def spW (P : Program) (w : World) (K : PySem.W.Frag) (n : Nat) (sem : List Wv → Option Wv) : Sp := fun vs H Q _ => ∃ ws r, ws.length = n ∧ RWs P w K H vs ws ∧ sem ws = some r ∧ ∀ v H', Sm H H' → RW P w K H' v r → Q v H'
/-- a def of the program that only tells -/
def Pu (P : Program) (w : World) (K : PySem.W.Frag) (mg : Str → Option Value) (base : Heap) (k : Nat) (x : Str) (n : Nat) (sem : List Wv → Option Wv) : Prop :=
  ∃ f fd ps, FnOk P w K mg base CX0 k f fd ps (spW P w K n sem) ∧ mg x = some (.ref f) ∧ PySem.W.keepIn K (.ref f) = true ∧ L2.Binds K fd ps []
/-- a method that only tells -/
def Pm (P : Program) (w : World) (K : PySem.W.Frag) (mg : Str → Option Value) (base : Heap) (k : Nat) (C : Addr) (m : Str) (n : Nat) (sem : List Wv → Option Wv) : Prop :=
  ∃ f fd ps, FnOk P w K mg base CX0 k f fd ps (spW P w K n sem) ∧ Meth K C m f ∧ L2.Binds K fd ps []
def callF (n : Nat) (sem : List Wv → Option Wv) (g : AF) : EF := fun ε => (g ε).bind fun ws => if ws.length = n then sem ws else none
theorem we_call {k j n : Nat} {sem : List Wv → Option Wv} {x : Str} {p pos : Pos} {e : Expr} {es : List Expr} {g : AF} (F : Pu X.prog X.w X.K X.mg X.base k x n sem) (hr : Room j X.A) (hk : k ≤ j) (hg : Gl X x) (ha : WA X (e :: es) g)
    (hdb : (x == ("__debug__" : Str)) = false := by decide) (hs : starEach (e :: es) X.env = (false, eval e X.env) :: starEach es X.env := by rfl) (hpl : (backTo pos (starEach es X.env)).any (·.1) = false := by rfl) :
    WE X (.Call (.Name x p) (e :: es) [] pos) (callF n sem g) := by
  obtain ⟨f, fd, ps, F, gm, kp, bd⟩ := F
  refine PE.wk (pe_call F (hr.mono hk) hg gm kp bd .nil pass0 ha hdb hs hpl) fun σ H Q ⟨ε, r, E, e, q⟩ => ?_
  unfold callF at e
  obtain ⟨ws, e1, e2⟩ := Option.bind_eq_some_iff.mp e
  by_cases hn : ws.length = n
  · rw [if_pos hn] at e2
    refine ⟨ε, ws, E, e1, fun vs H1 s1 r1 => ?_⟩
    show spW X.prog X.w X.K n sem (vs ++ []) H1 Q E0
    rw [List.append_nil]
    exact ⟨ws, r, hn, r1, e2, fun v H2 s2 r2 => q _ _ (s1.trans s2) r2⟩
  · rw [if_neg hn] at e2
    cases e2
def methF (C : Addr) (m : Str) (n : Nat) (sem : List Wv → Option Wv) (f : EF) (g : AF) : EF := fun ε => (f ε).bind fun o => match o with
  | .ob D fs => if D = C ∧ fs.lookup m = none then (g ε).bind fun ws => if ws.length + 1 = n then sem (.ob D fs :: ws) else none else none
  | _ => none
theorem tmeth_w {n : Nat} {sem : List Wv → Option Wv} {C : Addr} {m : Str} {f : EF} {g : AF} {σ : L2.St} {H : Hp} {Q : VK} (h : tW X.prog X.w X.K (methF C m n sem f g) σ H Q) : tMeth C m (spW X.prog X.w X.K n sem) [] E0 (tW X.prog X.w X.K f) (tWA X.prog X.w X.K g) σ H Q := by
  obtain ⟨ε, r, E, e, q⟩ := h
  unfold methF at e
  obtain ⟨o, e1, e2⟩ := Option.bind_eq_some_iff.mp e
  refine ⟨ε, o, E, e1, fun v H1 s1 r1 => ?_⟩
  split at e2
  · rename_i D fs
    by_cases hD : D = C ∧ fs.lookup m = none
    · rw [if_pos hD] at e2
      obtain ⟨rfl, hl⟩ := hD
      obtain ⟨ws, e3, e4⟩ := Option.bind_eq_some_iff.mp e2
      by_cases hn : ws.length + 1 = n
      · rw [if_pos hn] at e4
        cases r1 with
        | @ob a _ dx vs _ h1 t1 =>
          refine ⟨a, dx, vs, rfl, h1, (rwf_lookup m t1).2 hl, ε, ws, E.sm s1, e3, fun us H2 s2 r2 => ?_⟩
          show spW X.prog X.w X.K n sem (V.ref a :: (us ++ [])) H2 Q E0
          rw [List.append_nil]
          exact ⟨_, r, by rw [List.length_cons]; exact hn, .cons (rw_sm s2 (.ob h1 t1)) r2, e4, fun v H3 s3 r3 => q _ _ ((s1.trans s2).trans s3) r3⟩
      · rw [if_neg hn] at e4
        cases e4
    · rw [if_neg hD] at e2
      cases e2
  · cases e2
theorem we_meth {k j n : Nat} {sem : List Wv → Option Wv} {C : Addr} {m : Str} {pos apos : Pos} {o e : Expr} {es : List Expr} {f : EF} {g : AF} {pl : Sem Bool} (F : Pm X.prog X.w X.K X.mg X.base k C m n sem) (hr : Room j X.A) (hk : k ≤ j) (c : Cls X.K C) (ho : WE X o f) (ha : WA X (e :: es) g)
    (hs : starEach (e :: es) X.env = (false, eval e X.env) :: starEach es X.env := by rfl) (hpl : (backTo pos (starEach es X.env)).any (·.1) = false := by rfl)
    (he : eval (.Call (.Attribute o m apos) (e :: es) [] pos) X.env = (do
      let ov ← eval o X.env
      standAt apos.atName
      let (f, first) ← holding [ov] (getMethod ov m pl)
      callWith pos f first (backTo pos (starEach (e :: es) X.env)) (backToKw pos (keywordEach [] X.env))) := by rfl) :
    WE X (.Call (.Attribute o m apos) (e :: es) [] pos) (methF C m n sem f g) := by
  obtain ⟨fa, fd, ps, F, gm, bd⟩ := F
  exact PE.wk (pe_meth ho c gm F (hr.mono hk) bd .nil pass0 ha hs hpl he) fun σ H Q h => tmeth_w h
/-! a if t else b -/
def ifeF (t : EV → Option Bool) (f g : EF) : EF := fun ε => (t ε).bind fun b => if b = true then f ε else g ε
theorem we_ife {a b c : Expr} {pos : Pos} {t : EV → Option Bool} {f g : EF} (hc : WT X c t) (ha : WE X a f) (hb : WE X b g) : WE X (.IfExp c a b pos) (ifeF t f g) := PE.wk (pe_ifExp hc ha hb) fun σ H Q ⟨ε, r, E, e, q⟩ => by
  unfold ifeF at e
  obtain ⟨k, e1, e2⟩ := Option.bind_eq_some_iff.mp e
  refine ⟨ε, k, E, e1, fun H1 s1 => ?_⟩
  cases k
  · exact ⟨ε, r, E.sm s1, e2, fun v2 H2 s2 r2 => q _ _ (s1.trans s2) r2⟩
  · exact ⟨ε, r, E.sm s1, e2, fun v2 H2 s2 r2 => q _ _ (s1.trans s2) r2⟩
/-! targets -/
inductive Tgt where
  | one (i : Nat)
  | many (is : List Nat)
def gNames : List Nat → TGs
  | [] => gNil
  | i :: is => gCons (gName i) (gNames is)
def tgG (K : PySem.W.Frag) : Tgt → TG
  | .one i => gName i
  | .many is => gTup K is.length (gNames is)
def setE : List Nat → List Wv → EV → EV
  | i :: is, x :: xs, ε => setE is xs (ε.set i (some x))
  | _, _, ε => ε
def setS : List Nat → List V → L2.St → L2.St
  | i :: is, x :: xs, σ => setS is xs (σ.set i (some x))
  | _, _, σ => σ
def bindT : Tgt → Wv → EV → Option EV
  | .one i, x, ε => some (ε.set i (some x))
  | .many is, .d (.tuple ds), ε => if ds.length = is.length then some (setE is (ds.map .d) ε) else none
  | _, _, _ => none
def slots : Tgt → List Nat
  | .one i => [i]
  | .many is => is
theorem er_setS {P : Program} {w : World} {K : PySem.W.Frag} {H : Hp} : ∀ {is : List Nat} {vs : List V} {ws : List Wv} {σ : L2.St} {ε : EV}, ER P w K H σ ε → RWs P w K H vs ws → ER P w K H (setS is vs σ) (setE is ws ε)
  | [], _, _, _, _, E, _ => E
  | _ :: _, _, _, _, _, E, .nil => E
  | i :: is, _, _, _, _, E, .cons h t => er_setS (is := is) (E.set h) t
theorem gnames_of {H : Hp} {Q : L2.St → Hp → Prop} : ∀ {is : List Nat} {vs : List V} {σ : L2.St}, vs.length = is.length → Q (setS is vs σ) H → gNames is vs σ H Q
  | [], [], _, _, q => ⟨rfl, q⟩
  | i :: is, v :: vs, σ, h, q => ⟨v, vs, rfl, gnames_of (is := is) (by simpa using h) q⟩
/-- a target takes a value: the store behind it is the one ahead but for its slots -/
def stB : Tgt → V → List V → L2.St → L2.St
  | .one i, v, _, σ => σ.set i (some v)
  | .many is, _, vs, σ => setS is vs σ
theorem tgt_of2 {P : Program} {w : World} {K : PySem.W.Frag} {H H2 : Hp} {t : Tgt} {v : V} {x : Wv} {σ : L2.St} {ε ε' : EV} {Q : L2.St → Hp → Prop} (E : ER P w K H σ ε) (r : RW P w K H v x) (s : Sm H H2) (e : bindT t x ε = some ε') (q : ∀ vs, ER P w K H (stB t v vs σ) ε' → Q (stB t v vs σ) H2) : tgG K t v σ H2 Q := by
  unfold bindT at e
  split at e
  · cases e
    exact q [] (E.set r)
  · rename_i is ds
    by_cases hl : ds.length = is.length
    · rw [if_pos hl] at e
      cases e
      cases rw_d r with
      | @tup a vs _ h1 t1 => exact ⟨a, vs, rfl, sqt_sm s h1, by rw [dpa_len t1]; exact hl, gnames_of (by rw [dpa_len t1]; exact hl) (q vs (er_setS E (rws_ofD t1)))⟩
    · rw [if_neg hl] at e
      cases e
  · cases e
theorem tgt_of {P : Program} {w : World} {K : PySem.W.Frag} {H : Hp} {t : Tgt} {v : V} {x : Wv} {σ : L2.St} {ε ε' : EV} {Q : L2.St → Hp → Prop} (E : ER P w K H σ ε) (r : RW P w K H v x) (e : bindT t x ε = some ε') (q : ∀ vs, ER P w K H (stB t v vs σ) ε' → Q (stB t v vs σ) H) : tgG K t v σ H Q :=
  tgt_of2 E r (Sm.rfl' H) e q
end
end KW
namespace KW
open PySem PySem.Spec PyProof.Rows L2 KZ
/-! what no list lies in -/
mutual
def noL : PyData → Bool
  | .list _ => false
  | .dict _ => false
  | .tuple ds => noLs ds
  | _ => true
def noLs : List PyData → Bool
  | [] => true
  | d :: ds => noL d && noLs ds
end
def noLW : Wv → Bool
  | .d x => noL x
  | .te ds => noLs ds
  | .dn kvs => noLs (kvs.map (·.2))
  | _ => false
/-- all but the list at D stays -/
def Sl (D : Addr) (H H' : Hp) : Prop := (∃ xs, H D = some (.lst xs)) ∧ ∀ b o, H b = some o → b ≠ D → H' b = some o
theorem sl_rd {D : Addr} {H H' : Hp} (s : Sl D H H') {a : Addr} {xs : List V} : Rd H a (.tup xs) → Rd H' a (.tup xs)
  | .inl h => .inl (s.2 _ _ h fun z => by
      obtain ⟨ys, e⟩ := s.1
      rw [z, e] at h
      cases h)
  | .inr ⟨o, h⟩ => .inr ⟨o, s.2 _ _ h fun z => by
      obtain ⟨ys, e⟩ := s.1
      rw [z, e] at h
      cases h⟩
theorem sl_sqt {K : PySem.W.Frag} {D : Addr} {H H' : Hp} (s : Sl D H H') {a : Addr} {xs : List V} : SqT K H a xs → SqT K H' a xs
  | .inl h => .inl (sl_rd s h)
  | .inr h => .inr h
mutual
theorem dp_sl {K : PySem.W.Frag} {D : Addr} {H H' : Hp} (s : Sl D H H') : ∀ {v : V} {d : PyData}, Dp K H v d → noL d = true → Dp K H' v d
  | _, _, .non, _ => .non
  | _, _, .bl b, _ => .bl b
  | _, _, .int i, _ => .int i
  | _, _, .str x, _ => .str x
  | _, _, .lst h t, e => by simp [noL] at e
  | _, _, .tup h t, e => .tup (sl_sqt s h) (dpa_sl s t (by simpa [noL] using e))
theorem dpa_sl {K : PySem.W.Frag} {D : Addr} {H H' : Hp} (s : Sl D H H') : ∀ {v : List V} {d : List PyData}, DpAll K H v d → noLs d = true → DpAll K H' v d
  | _, _, .nil, _ => .nil
  | _, _, .cons h t, e => by
    have z := Bool.and_eq_true_iff.mp (show (noL _ && noLs _) = true from e)
    exact .cons (dp_sl s h z.1) (dpa_sl s t z.2)
end
theorem nk_noL : ∀ {d : PyData} {k : NestedKey}, NL.nk d = some k → noL d = true := by
  have both : ∀ n : Nat, (∀ (d : PyData) (k : NestedKey), sizeOf d ≤ n → NL.nk d = some k → noL d = true) ∧ (∀ (ds : List PyData) (ks : List NestedKey), sizeOf ds ≤ n → NL.nks ds = some ks → noLs ds = true) := by
    intro n
    induction n with
    | zero =>
      refine ⟨fun d k h => ?_, fun ds k h => ?_⟩
      · cases d <;> simp at h
      · cases ds <;> simp at h
    | succ n ih =>
      refine ⟨fun d k h e => ?_, fun ds ks h e => ?_⟩
      · cases d with
        | list xs => simp [NL.nk] at e
        | dict xs => simp [NL.nk] at e
        | tuple xs =>
          simp only [NL.nk] at e
          cases e1 : NL.nks xs with
          | none => rw [e1] at e; simp at e
          | some l => exact ih.2 xs l (by simp at h; omega) e1
        | _ => rfl
      · cases ds with
        | nil => rfl
        | cons d ds =>
          simp only [NL.nks] at e
          cases e1 : NL.nk d with
          | none => rw [e1] at e; simp at e
          | some a =>
            rw [e1] at e
            cases e2 : NL.nks ds with
            | none => rw [e2] at e; simp at e
            | some l =>
              simp only [noLs, ih.1 d a (by simp at h; omega) e1, ih.2 ds l (by simp at h; omega) e2, Bool.and_true]
  intro d k e
  exact (both (sizeOf d)).1 d k (Nat.le_refl _) e
section
variable {P : Program} {w : World} {K : PySem.W.Frag} {H H' : Hp} {D : Addr}
theorem dn_pair_sl (s : Sl D H H') : ∀ {L : NL.LN} {ds : List (NestedKey × PyData)}, Paired (fun p q => p.1 = q.1 ∧ Dp K H p.2.2 q.2) L ds → noLs (ds.map (·.2)) = true → Paired (fun p q => p.1 = q.1 ∧ Dp K H' p.2.2 q.2) L ds
  | _, _, .nil, _ => .nil
  | _, _, .cons h t, e => by
    have z := Bool.and_eq_true_iff.mp (show (noL _ && noLs _) = true from e)
    exact .cons ⟨h.1, dp_sl s h.2 z.1⟩ (dn_pair_sl s t z.2)
theorem rw_sl (s : Sl D H H') {v : V} {x : Wv} (h : RW P w K H v x) (e : noLW x = true) : RW P w K H' v x := by
  have ne : ∀ {a : Addr} {f : Heap → Prop}, H a = some (.ext f) → a ≠ D := fun g z => by
    obtain ⟨ys, e⟩ := s.1
    rw [z, e] at g
    cases g
  cases h with
  | d h => exact .d (dp_sl s h e)
  | te h t => exact .te (s.2 _ _ h (ne h)) (dpa_sl s t e)
  | dk h t => cases e
  | hl h t => cases e
  | dn h t => exact .dn ⟨s.2 _ _ h.ob (ne h.ob), fun x hx => let ⟨d, h1, h2, h3⟩ := h.ks x hx; ⟨d, dp_sl s h1 (nk_noL h2), h2, h3⟩⟩ (dn_pair_sl s t e)
  | ls h t => cases e
  | ob h t => cases e
  | dw h _ t => cases e
  | nw h _ t => cases e
theorem rws_sl (s : Sl D H H') : ∀ {v : List V} {x : List Wv}, RWs P w K H v x → x.all noLW = true → RWs P w K H' v x
  | _, _, .nil, _ => .nil
  | _, _, .cons h t, e => by
    have z := Bool.and_eq_true_iff.mp (show (noLW _ && List.all _ noLW) = true from e)
    exact .cons (rw_sl s h z.1) (rws_sl s t z.2)
end
/-! comprehensions -/
def wipeE (vs : List Nat) (ε : EV) : EV := vs.foldr (fun i e => e.set i none) ε
theorem wipe_cons (σ : L2.St) (i : Nat) (vs : List Nat) : wipe σ (i :: vs) = (wipe σ vs).set i none := rfl
theorem wipe_nil (σ : L2.St) : wipe σ [] = σ := rfl
theorem er_wipe {P : Program} {w : World} {K : PySem.W.Frag} {H : Hp} {σ : L2.St} {ε : EV} (E : ER P w K H σ ε) : ∀ vs, ER P w K H (wipe σ vs) (wipeE vs ε)
  | [] => E
  | i :: vs => (er_wipe E vs).none
theorem wipe_at (σ : L2.St) : ∀ (vs : List Nat) (j : Nat), (wipe σ vs)[j]? = if j ∈ vs then (σ[j]?).map (fun _ => none) else σ[j]?
  | [], j => by simp [wipe_nil]
  | i :: vs, j => by
    rw [wipe_cons, List.getElem?_set, wipe_at σ vs j]
    have hl : (wipe σ vs).length = σ.length := by
      have : ∀ vs : List Nat, (wipe σ vs).length = σ.length := fun vs => by
        induction vs with
        | nil => rfl
        | cons k vs ih => rw [wipe_cons, List.length_set, ih]
      exact this vs
    by_cases h : i = j
    · subst h
      rw [if_pos rfl, if_pos (List.mem_cons_self ..), hl]
      by_cases h2 : i < σ.length
      · rw [if_pos h2, List.getElem?_eq_getElem h2]
        rfl
      · rw [if_neg h2, List.getElem?_eq_none (by omega)]
        rfl
    · rw [if_neg h]
      by_cases h3 : j ∈ vs
      · rw [if_pos h3, if_pos (List.mem_cons_of_mem _ h3)]
      · rw [if_neg h3, if_neg (by simp [Ne.symm h, h3])]
theorem wipe_set {σ : L2.St} {vs : List Nat} {i : Nat} {u : Option V} (h : i ∈ vs) : wipe (σ.set i u) vs = wipe σ vs := by
  apply List.ext_getElem?
  intro j
  rw [wipe_at, wipe_at]
  by_cases hj : j ∈ vs
  · rw [if_pos hj, if_pos hj]
    rw [List.getElem?_set]
    by_cases hij : i = j
    · subst hij
      rw [if_pos rfl]
      by_cases h2 : i < σ.length
      · rw [if_pos h2, List.getElem?_eq_getElem h2]
        rfl
      · rw [if_neg h2, List.getElem?_eq_none (by omega)]
    · rw [if_neg hij]
  · rw [if_neg hj, if_neg hj, List.getElem?_set_ne (by intro z; subst z; exact hj h)]
theorem wipe_wipe {σ : L2.St} {vs : List Nat} : wipe (wipe σ vs) vs = wipe σ vs := by
  apply List.ext_getElem?
  intro j
  rw [wipe_at, wipe_at]
  by_cases hj : j ∈ vs
  · rw [if_pos hj, if_pos hj]
    cases σ[j]? <;> rfl
  · rw [if_neg hj, if_neg hj]
theorem wipe_setS {vs : List Nat} : ∀ {is : List Nat} {us : List V} {σ : L2.St}, (∀ i ∈ is, i ∈ vs) → wipe (setS is us σ) vs = wipe σ vs
  | [], _, _, _ => rfl
  | _ :: _, [], _, _ => rfl
  | i :: is, u :: us, σ, h => (wipe_setS (is := is) fun j hj => h j (List.mem_cons_of_mem _ hj)).trans (wipe_set (h i (List.mem_cons_self ..)))
theorem wipe_stB {t : Tgt} {vs : List Nat} {v : V} {us : List V} {σ : L2.St} (h : ∀ i ∈ slots t, i ∈ vs) : wipe (stB t v us (wipe σ vs)) vs = wipe σ vs := by
  cases t with
  | one i => exact (wipe_set (h i (List.mem_cons_self ..))).trans wipe_wipe
  | many is => exact (wipe_setS h).trans wipe_wipe
def lcStep (t : Tgt) (ft : EV → Option Bool) (fe : EF) (ε : EV) (x : Wv) : Option (List Wv) := (bindT t x ε).bind fun e => (ft e).bind fun b => if b = true then (fe e).bind fun y => if noLW y = true then some [y] else none else some []
def goF (st : Wv → Option (List Wv)) : List Wv → Option (List Wv)
  | [] => some []
  | x :: xs => (st x).bind fun a => (goF st xs).map (a ++ ·)
theorem goF_app {st : Wv → Option (List Wv)} : ∀ {l m : List Wv}, goF st (l ++ m) = (goF st l).bind fun a => (goF st m).map (a ++ ·)
  | [], m => by simp [goF]
  | x :: l, m => by
    rw [List.cons_append, goF, goF, goF_app (l := l)]
    cases st x <;> cases goF st l <;> cases goF st m <;> simp
theorem goF_at {st : Wv → Option (List Wv)} : ∀ {l : List Wv} {o : List Wv} {i : Nat} {x : Wv}, goF st l = some o → l[i]? = some x → ∃ a, st x = some a
  | y :: l, o, 0, x, e, h => by
    simp at h
    subst h
    obtain ⟨a, e1, _⟩ := Option.bind_eq_some_iff.mp (show (st _).bind _ = some o from e)
    exact ⟨a, e1⟩
  | y :: l, o, i + 1, x, e, h => by
    obtain ⟨a, _, e2⟩ := Option.bind_eq_some_iff.mp (show (st _).bind _ = some o from e)
    obtain ⟨b, e3, _⟩ := Option.map_eq_some_iff.mp e2
    exact goF_at e3 (by simpa using h)
theorem goF_take {st : Wv → Option (List Wv)} {l : List Wv} {o : List Wv} {i : Nat} {x : Wv} {p a : List Wv} (e : goF st l = some o) (h : l[i]? = some x) (hp : goF st (l.take i) = some p) (ha : st x = some a) : goF st (l.take (i + 1)) = some (p ++ a) := by
  rw [List.take_succ, h, goF_app, hp]
  simp [goF, ha]
theorem dpa_get {P : Program} {w : World} {K : PySem.W.Frag} {H : Hp} : ∀ {vs : List V} {ws : List Wv}, RWs P w K H vs ws → ∀ (i : Nat) (v : V), vs[i]? = some v → ∃ x, ws[i]? = some x ∧ RW P w K H v x
  | _, _, .nil, i, v, e => by simp at e
  | _, _, .cons h t, 0, v, e => by
    simp at e
    subst e
    exact ⟨_, rfl, h⟩
  | _, _, .cons h t, i + 1, v, e => by
    obtain ⟨x, e1, e2⟩ := dpa_get t i v (by simpa using e)
    exact ⟨x, by simpa using e1, e2⟩
theorem lcStep_len {t : Tgt} {ft : EV → Option Bool} {fe : EF} {ε : EV} {x : Wv} {a : List Wv} (e : lcStep t ft fe ε x = some a) : a.length ≤ 1 := by
  unfold lcStep at e
  obtain ⟨e', e1, e2⟩ := Option.bind_eq_some_iff.mp e
  obtain ⟨b, e3, e4⟩ := Option.bind_eq_some_iff.mp e2
  cases b
  · cases e4
    simp
  · obtain ⟨y, e5, e6⟩ := Option.bind_eq_some_iff.mp e4
    by_cases hy : noLW y = true
    · rw [if_pos hy] at e6
      cases e6
      simp
    · rw [if_neg hy] at e6
      cases e6
theorem goF_len {st : Wv → Option (List Wv)} (h : ∀ x a, st x = some a → a.length ≤ 1) : ∀ {l o : List Wv}, goF st l = some o → o.length ≤ l.length
  | [], o, e => by
    cases e
    simp
  | x :: l, o, e => by
    obtain ⟨a, e1, e2⟩ := Option.bind_eq_some_iff.mp (show (st _).bind _ = some o from e)
    obtain ⟨b, e3, rfl⟩ := Option.map_eq_some_iff.mp e2
    have h1 := h x a e1
    have h2 := goF_len h e3
    simp only [List.length_append, List.length_cons]
    omega
section
variable {X : Cx}
/-- what a comprehension keeps -/
def LcP (X : Cx) (t : Tgt) (ft : EV → Option Bool) (fe : EF) (ε : EV) (ws : List Wv) (H1 : Hp) (D : Addr) (k : Nat) (H' : Hp) : Prop :=
  ∃ acc out, goF (lcStep t ft fe ε) (ws.take k) = some out ∧ H' D = some (.lst acc) ∧ RWs X.prog X.w X.K H' acc out ∧ out.all noLW = true ∧ Sm H1 H'
theorem lc_turn {t : Tgt} {ft : EV → Option Bool} {fe : EF} {ε : EV} {ws out : List Wv} {H1 H2 : Hp} {D : Addr} {k : Nat} {σ : L2.St} {vs : List Nat} {x : V} {xs : List V} (hD : H1 D = none) (hvs : ∀ i ∈ slots t, i ∈ vs) (E : ER X.prog X.w X.K H1 σ ε)
    (hw : RWs X.prog X.w X.K H1 xs ws) (he : goF (lcStep t ft fe (wipeE vs ε)) ws = some out) (hl : ws.length ≤ 1000) (hx : xs[k]? = some x) (p : LcP X t ft fe (wipeE vs ε) ws H1 D k H2) :
    tgG X.K t x (wipe σ vs) H2 fun σ2 H2 => wipe σ2 vs = wipe σ vs ∧ tWT X.prog X.w X.K ft σ2 H2 fun b H3 =>
      if b = true then tW X.prog X.w X.K fe σ2 H3 fun y H4 => ∃ acc, H4 D = some (.lst acc) ∧ acc.length < sizeLine ∧ LcP X t ft fe (wipeE vs ε) ws H1 D (k + 1) (upd H4 D (.lst (acc ++ [y]))) else LcP X t ft fe (wipeE vs ε) ws H1 D (k + 1) H3 := by
  obtain ⟨acc, o, e1, h1, r1, n1, s1⟩ := p
  obtain ⟨wx, hwx, rx⟩ := dpa_get hw k x hx
  obtain ⟨a, ea⟩ := goF_at he hwx
  have ea0 := ea
  unfold lcStep at ea
  obtain ⟨ε', b1, ea⟩ := Option.bind_eq_some_iff.mp ea
  obtain ⟨b, b2, ea⟩ := Option.bind_eq_some_iff.mp ea
  refine tgt_of (er_wipe (E.sm s1) vs) (rw_sm s1 rx) b1 fun us E2 => ⟨wipe_stB hvs, ε', b, E2, b2, fun H3 s3 => ?_⟩
  have ol : o.length ≤ 1000 := by
    have := goF_len (fun x a h => lcStep_len h) e1
    rw [List.length_take] at this
    omega
  cases b
  · cases ea
    exact ⟨acc, o, by rw [goF_take he hwx e1 ea0, List.append_nil], s3 _ _ h1, rws_sm s3 r1, n1, s1.trans s3⟩
  · obtain ⟨y, b3, b4⟩ := Option.bind_eq_some_iff.mp ea
    by_cases hy : noLW y = true
    · rw [if_pos hy] at b4
      cases b4
      refine ⟨ε', y, E2.sm s3, b3, fun v H4 s4 r4 => ⟨acc, s4 _ _ (s3 _ _ h1), by rw [r1.len, sizeLine_eq]; omega, ?_⟩⟩
      have sl : Sl D H4 (upd H4 D (.lst (acc ++ [v]))) := ⟨⟨_, s4 _ _ (s3 _ _ h1)⟩, fun b o e n => by rw [upd_ne n]; exact e⟩
      exact ⟨acc ++ [v], o ++ [y], goF_take he hwx e1 ea0, upd_same, rws_app (rws_sl sl (rws_sm (s3.trans s4) r1) n1) (.cons (rw_sl sl r4 hy) .nil), by simp [List.all_append, n1, hy],
        fun b o e => by
          have hb : b ≠ D := ne_of_none e hD
          rw [upd_ne hb]
          exact s4 _ _ (s3 _ _ (s1 _ _ e))⟩
    · rw [if_neg hy] at b4
      cases b4
def itT : Wv → Option (List Wv)
  | .d (.tuple ds) => some (ds.map .d)
  | _ => none
def itL : Wv → Option (List Wv)
  | .d (.list ds) => some (ds.map .d)
  | .ls ws => some ws
  | _ => none
/-- what the new list is told as -/
def MkOk (mk : List Wv → Option Wv) : Prop := ∀ (P : Program) (w : World) (K : PySem.W.Frag) (H : Hp) (a : Addr) (vs : List V) (ws : List Wv) (r : Wv), H a = some (.lst vs) → RWs P w K H vs ws → mk ws = some r → RW P w K H (.ref a) r
def mkD (ws : List Wv) : Option Wv := some (mkL ws)
theorem mkD_ok : MkOk mkD := fun P w K H a vs ws r h hw e => by
  cases e
  exact rw_mkL (SqL.of h) hw
/-- a list of data, not written in the text -/
def mkH (ws : List Wv) : Option Wv := (allD ws).map .hl
theorem mkH_ok : MkOk mkH := fun P w K H a vs ws r h hw e => by
  obtain ⟨ds, e1, rfl⟩ := Option.map_eq_some_iff.mp e
  exact .hl (.inl h) (rws_d hw e1)
def lcG (mk : List Wv → Option Wv) (it : Wv → Option (List Wv)) (t : Tgt) (vs : List Nat) (fi : EF) (ft : EV → Option Bool) (fe : EF) : EF := fun ε => (fi ε).bind fun x => (it x).bind fun ws => if ws.length ≤ 1000 then (goF (lcStep t ft fe (wipeE vs ε)) ws).bind mk else none
theorem tlcT {t : Tgt} {vs : List Nat} {fi fe : EF} {ft : EV → Option Bool} {mk : List Wv → Option Wv} (hmk : MkOk mk) (hvs : ∀ i ∈ slots t, i ∈ vs) {σ : L2.St} {H : Hp} {Q : VK} (h : tW X.prog X.w X.K (lcG mk itT t vs fi ft fe) σ H Q) : tLc (iTup X.K (tW X.prog X.w X.K fi)) (tgG X.K t) (tWT X.prog X.w X.K ft) (tW X.prog X.w X.K fe) vs σ H Q := by
  obtain ⟨ε, r, E, e, q⟩ := h
  unfold lcG at e
  obtain ⟨x, e1, e2⟩ := Option.bind_eq_some_iff.mp e
  obtain ⟨ws, e3, e4⟩ := Option.bind_eq_some_iff.mp e2
  by_cases hl : ws.length ≤ 1000
  · rw [if_pos hl] at e4
    obtain ⟨out, e5, e6⟩ := Option.bind_eq_some_iff.mp e4
    refine ⟨ε, x, E, e1, fun v H1 s1 r1 => ?_⟩
    unfold itT at e3
    split at e3
    · rename_i ds
      cases e3
      cases rw_d r1 with
      | @tup a xs _ h1 t1 =>
        have hw : RWs X.prog X.w X.K H1 xs (ds.map .d) := rws_ofD t1
        refine ⟨a, rfl, ⟨xs, h1⟩, fun D nD => lc_tup (K := X.K) (a := a) (xs := xs) (LcP X t ft fe (wipeE vs ε) (ds.map .d) H1 D) ⟨[], [], rfl, upd_same, .nil, rfl, upd_sm nD⟩ (fun i H' _ ⟨_, _, _, _, _, _, s⟩ => sqt_sm s h1)
          (fun i x H' hx p => lc_turn nD hvs (E.sm s1) hw e5 hl hx p) ?_⟩
        rintro H' ⟨acc, o, o1, o2, o3, o4, o5⟩
        have : (ds.map Wv.d).take xs.length = ds.map .d := by rw [hw.len, List.take_length]
        rw [this, e5] at o1
        cases o1
        exact q _ _ (s1.trans o5) (hmk _ _ _ _ _ _ _ _ o2 o3 e6)
    · cases e3
  · rw [if_neg hl] at e4
    cases e4
end
end KW
namespace KW
open PySem PySem.Spec PyProof.Rows L2 KZ
theorem PTs.wk {X : Cx} {e : List Expr} {t t' : TT} (h : PTs X e t) (hh : ∀ σ H Q, t' σ H Q → t σ H Q) : PTs X e t' := ⟨fun pins s σ H Q I q => h.run pins s σ H Q I (hh σ H Q q)⟩
abbrev WTs (X : Cx) (e : List Expr) (f : EV → Option Bool) : Prop := PTs X e (tWT X.prog X.w X.K f)
section
variable {X : Cx}
def yesF : EV → Option Bool := fun _ => some true
theorem wts_nil : WTs X [] yesF := PTs.wk pts_nil fun σ H Q ⟨ε, r, E, e, q⟩ => by
  cases e
  exact q H (Sm.rfl' H)
theorem wts_one {c : Expr} {f : EV → Option Bool} (h : WT X c f) : WTs X [c] f := pts_one h
theorem we_lcT {elt tg iter : Expr} {ifs : List Expr} {scope : Scope} {own : List (Str × Nat)} {pos : Pos} {t : Tgt} {fi fe : EF} {ft : EV → Option Bool} {mk : List Wv → Option Wv} (hmk : MkOk mk) (hc : X.calm = true) (hN : X.N.Nodup) (hi : WE X iter fi) (ok : BlkOk X.N X.env.scope scope own)
    (hg : ∀ (s : Shared) (H : Hp) (C : Addr) (cl : List (Str × Addr)) (fp : List Addr), PG (X.blk s H scope (compEnvC scope cl C X.env) fp) tg (tgG X.K t))
    (ht : ∀ (s : Shared) (H : Hp) (C : Addr) (cl : List (Str × Addr)) (fp : List Addr), WTs (X.blk s H scope (compEnvC scope cl C X.env) fp) ifs ft)
    (he : ∀ (s : Shared) (H : Hp) (C : Addr) (cl : List (Str × Addr)) (fp : List Addr), WE (X.blk s H scope (compEnvC scope cl C X.env) fp) elt fe)
    (hvs : ∀ i ∈ slots t, i ∈ own.map (·.2) := by decide) (hf : ∀ x : Value, foldedSetIterable iter X.env x = pure x := by intro _; rfl) : WE X (.ListComp elt [⟨tg, iter, ifs, 0⟩] scope pos) (lcG mk itT t (own.map (·.2)) fi ft fe) :=
  PE.wk (pe_lc hc hN (pi_tup hi) ok hg ht he hf) fun _ _ _ h => tlcT hmk hvs h
/-! statements -/
abbrev SF := EV → Option (EV ⊕ Wv)
def endW (P : Program) (w : World) (K : PySem.W.Frag) (D : Ends) (H : Hp) : EV ⊕ Wv → Prop
  | .inl ε => ∀ σ H', Sm H H' → ER P w K H' σ ε → D.nx σ H'
  | .inr x => ∀ v H', Sm H H' → RW P w K H' v x → D.rt v H'
def tWS (P : Program) (w : World) (K : PySem.W.Frag) (g : SF) : TS := fun D σ H => ∃ ε r, ER P w K H σ ε ∧ g ε = some r ∧ endW P w K D H r
abbrev WS (X : Cx) (st : Stmt) (g : SF) : Prop := PS X st (tWS X.prog X.w X.K g)
abbrev WSs (X : Cx) (st : List Stmt) (g : SF) : Prop := PSs X st (tWS X.prog X.w X.K g)
def nextF : SF := fun ε => some (.inl ε)
theorem wss_nil : WSs X [] nextF := PSs.wk pss_nil fun D σ H ⟨ε, r, E, e, q⟩ => by
  cases e
  exact q σ H (Sm.rfl' H) E
def seqF (f g : SF) : SF := fun ε => (f ε).bind fun r => match r with
  | .inl e => g e
  | .inr x => some (.inr x)
theorem wss_cons {st : Stmt} {rest : List Stmt} {f g : SF} (h : WS X st f) (t : WSs X rest g) : WSs X (st :: rest) (seqF f g) := PSs.wk (pss_cons h t) fun D σ H ⟨ε, r, E, e, q⟩ => by
  unfold seqF at e
  obtain ⟨x, e1, e2⟩ := Option.bind_eq_some_iff.mp e
  refine ⟨ε, x, E, e1, ?_⟩
  cases x with
  | inl e' =>
    intro σ' H' s1 E'
    refine ⟨e', r, E', e2, ?_⟩
    cases r with
    | inl e3 => exact fun σ2 H2 s2 => q σ2 H2 (s1.trans s2)
    | inr x => exact fun v H2 s2 => q v H2 (s1.trans s2)
  | inr x =>
    cases e2
    exact q
theorem wss_one {st : Stmt} {f : SF} (h : WS X st f) : WSs X [st] f := pss_one h
def retF (f : EF) : SF := fun ε => (f ε).map .inr
theorem ws_ret {e : Expr} {pos : Pos} {f : EF} (h : WE X e f) : WS X (.Return (some e) pos) (retF f) := PS.wk (ps_ret h) fun D σ H ⟨ε, r, E, e, q⟩ => by
  obtain ⟨x, e1, rfl⟩ := Option.map_eq_some_iff.mp e
  exact ⟨ε, x, E, e1, fun v H1 s1 r1 => q v H1 s1 r1⟩
def setF (i : Nat) (f : EF) : SF := fun ε => (f ε).map fun x => .inl (ε.set i (some x))
theorem tasg_w {i : Nat} {f : EF} {D : Ends} {σ : L2.St} {H : Hp} (h : tWS X.prog X.w X.K (setF i f) D σ H) : tAsg (tW X.prog X.w X.K f) (gName i) D σ H := by
  obtain ⟨ε, r, E, e, q⟩ := h
  obtain ⟨x, e1, rfl⟩ := Option.map_eq_some_iff.mp e
  exact ⟨ε, x, E, e1, fun v H1 s1 r1 => q _ H1 s1 ((E.sm s1).set r1)⟩
theorem ws_set {pos pos' : Pos} {i : Nat} {x : Str} {e : Expr} {f : EF} (hN : X.N.Nodup) (hi : X.N[i]? = some x) (hl : L2.Loc X.env.scope x) (h : WE X e f) (hs : swapsWith e (some (.Name x pos')) pos.line X.env = pure false := by rfl)
    (hfn : X.fn x = true ∨ X.env.scope.names.lookup x = some .local := by first | exact Or.inl rfl | exact Or.inr rfl) : WS X (.Assign [.Name x pos'] e pos) (setF i f) := PS.wk (ps_set hN hi hl h hs hfn) fun _ _ _ h => tasg_w h
theorem ws_setLcT {i : Nat} {y : Str} {py : Pos} {elt tg iter : Expr} {ifs : List Expr} {scope : Scope} {own : List (Str × Nat)} {pos spos : Pos} {t : Tgt} {fi fe : EF} {ft : EV → Option Bool} {mk : List Wv → Option Wv} (hmk : MkOk mk) (hc : X.calm = true) (hN : X.N.Nodup) (hy : X.N[i]? = some y) (hyl : X.env.scope.names.lookup y = some .local)
    (hsw : swapsWith (.ListComp elt [⟨tg, iter, ifs, 0⟩] scope pos) (some (.Name y py)) spos.line X.env = pure true) (hi : WE X iter fi) (ok : BlkOk X.N X.env.scope scope own)
    (hg : ∀ (s : Shared) (H : Hp) (C : Addr) (cl : List (Str × Addr)) (fp : List Addr), PG (X.blk s H scope (compEnvC scope cl C X.env) fp) tg (tgG X.K t))
    (ht : ∀ (s : Shared) (H : Hp) (C : Addr) (cl : List (Str × Addr)) (fp : List Addr), WTs (X.blk s H scope (compEnvC scope cl C X.env) fp) ifs ft)
    (he : ∀ (s : Shared) (H : Hp) (C : Addr) (cl : List (Str × Addr)) (fp : List Addr), WE (X.blk s H scope (compEnvC scope cl C X.env) fp) elt fe)
    (hvs : ∀ i ∈ slots t, i ∈ own.map (·.2) := by decide) (hf : ∀ x : Value, foldedSetIterable iter X.env x = pure x := by intro _; rfl) : WS X (.Assign [.Name y py] (.ListComp elt [⟨tg, iter, ifs, 0⟩] scope pos) spos) (setF i (lcG mk itT t (own.map (·.2)) fi ft fe)) :=
  PS.wk (ps_setLc hc hN hy hyl hsw (pi_tup hi) ok hg ht he hf) fun D σ H h => by
    have z := tasg_w h
    exact tlcT hmk hvs z
def ifF (t : EV → Option Bool) (f g : SF) : SF := fun ε => (t ε).bind fun b => if b = true then f ε else g ε
theorem ws_if {c : Expr} {a b : List Stmt} {pos : Pos} {t : EV → Option Bool} {f g : SF} (hc : WT X c t) (ha : WSs X a f) (hb : WSs X b g) : WS X (.If c a b pos) (ifF t f g) := PS.wk (ps_if hc ha hb) fun D σ H ⟨ε, r, E, e, q⟩ => by
  unfold ifF at e
  obtain ⟨k, e1, e2⟩ := Option.bind_eq_some_iff.mp e
  refine ⟨ε, k, E, e1, fun H1 s1 => ?_⟩
  have q1 : endW X.prog X.w X.K D H1 r := by
    cases r with
    | inl e3 => exact fun σ2 H2 s2 => q σ2 H2 (s1.trans s2)
    | inr x => exact fun v H2 s2 => q v H2 (s1.trans s2)
  cases k
  · exact ⟨ε, r, E.sm s1, e2, q1⟩
  · exact ⟨ε, r, E.sm s1, e2, q1⟩
/-- a, b = e -/
def unpF (t : Tgt) (f : EF) : SF := fun ε => (f ε).bind fun x => (bindT t x ε).map .inl
end
/-! a def that only tells -/
def semOf (N : List Str) (g : SF) (ws : List Wv) : Option Wv := (g (ws.map some ++ List.replicate (N.length - ws.length) none)).map fun r => match r with
  | .inl _ => .d .none
  | .inr x => x
section
variable {P : Program} {w : World} {K : PySem.W.Frag} {mg : Str → Option Value} {base : Heap}
theorem okW {x qual : Str} {params : Arguments} {body : List Stmt} {scope : Scope} {f : Addr} {fd : FuncData} {N ps : List Str} {k n : Nat} {sem : List Wv → Option Wv} (F : FunD K x qual params body scope [] [] f fd) (S : FnScope N ps scope) (hn : ps.length = n)
    (hb : ∀ (cdv : Value) (A : Around) (outer : List Env) (s : Shared) (H : Hp) (E : XK), Room k (A.deeper (envOfC qual scope s.heap.objs.size f cdv)) → ∃ g, WSs (cxOf CX0 P w K mg base N qual scope f cdv A outer s H E) body g ∧ ∀ ws, ws.length = n → ∀ r, sem ws = some r → semOf N g ws = some r) :
    FnOk P w K mg base CX0 (k + 1) f fd ps (spW P w K n sem) := by
  refine F.ok S (fun vs H Q E ⟨ws, r, hl, hw, _⟩ => by rw [hw.len, hl, hn]) (fun cdv A outer s H vs Q E hr h => ?_)
  obtain ⟨ws, r, hl, hw, e, q⟩ := h
  obtain ⟨g, hg, hs⟩ := hb cdv A outer s H E hr
  obtain ⟨r', e1, e2⟩ := Option.map_eq_some_iff.mp (hs ws hl r e)
  refine ⟨_, hg, _, r', er_start hw, e1, ?_⟩
  cases r' with
  | inl e' =>
    cases e2
    exact fun σ' H' s1 _ => q .non H' s1 (.d .non)
  | inr x =>
    cases e2
    exact fun v H' s1 r1 => q v H' s1 r1
end
end KW
namespace KW
open PySem PySem.Spec PyProof.Rows L2 KZ
theorem FnOk.wk {P : Program} {w : World} {K : PySem.W.Frag} {mg : Str → Option Value} {base : Heap} {CX : CXT} {k : Nat} {f : Addr} {fd : FuncData} {ps : List Str} {sp sp' : Sp} (h : FnOk P w K mg base CX k f fd ps sp) (hh : ∀ vs H Q E, sp' vs H Q E → sp vs H Q E) : FnOk P w K mg base CX k f fd ps sp' :=
  ⟨fun vs H Q E z => h.len vs H Q E (hh _ _ _ _ z), fun A outer s H args us vs Q E hr e0 bt vl z => h.run A outer s H args us vs Q E hr e0 bt vl (hh _ _ _ _ z)⟩
/-- a def of the row, and its name -/
def FG (K : PySem.W.Frag) (mg : Str → Option Value) (i : Nat) (x : Str) : Prop := ∃ f fd, Fd K i x f fd ∧ mg x = some (.ref f)
/-- a method of the row -/
def FM (K : PySem.W.Frag) (C : Addr) (i j : Nat) (cn x : Str) : Prop := ∃ f fd, FunD K x (cn ++ "." ++ x) (defArgs (inClass (topAt i) j)) (defBody (inClass (topAt i) j)) (defScope (inClass (topAt i) j)) [] [] f fd ∧ Meth K C x f
/-! what the program looks at -/
def intB (v : PyData) (lo hi : Int) : Bool := match v with
  | .int i => decide (lo ≤ i) && decide (i ≤ hi)
  | _ => false
def rowB (v : PyData) (lo hi : Int) : Bool := match v with
  | .tuple xs => decide (lo ≤ (xs.length : Int)) && decide ((xs.length : Int) ≤ hi)
  | _ => false
def nameD (v : PyData) : Bool := match v with
  | .str z => nameB z
  | _ => false
def noDict : PyData → Bool
  | .dict _ => false
  | _ => true
def semInt : List Wv → Option Wv
  | [.d v, .d (.int lo), .d (.int hi)] => if noDict v = true then some (bF (intB v lo hi)) else none
  | [.dk _, .d (.int _), .d (.int _)] => some (bF false)
  | _ => none
def semRow : List Wv → Option Wv
  | [.d v, .d (.int lo), .d (.int hi)] => if noDict v = true then some (bF (rowB v lo hi)) else none
  | [.dk _, .d (.int _), .d (.int _)] => some (bF false)
  | _ => none
/-- texts of a possible length -/
def strOk : PyData → Bool
  | .str z => decide (z.length ≤ sizeLine)
  | .dict _ => false
  | _ => true
def semName : List Wv → Option Wv
  | [.d v] => if strOk v = true then some (bF (nameD v)) else none
  | _ => none
section
variable {P : Program} {w : World} {K : PySem.W.Frag} {mg : Str → Option Value} {base : Heap}
theorem rws2 {H : Hp} {vs : List V} {x y : Wv} (h : RWs P w K H vs [x, y]) : ∃ a b, vs = [a, b] ∧ RW P w K H a x ∧ RW P w K H b y := by
  cases h with
  | cons a t => obtain ⟨b, rfl, hb⟩ := rws1 t; exact ⟨_, _, rfl, a, hb⟩
theorem rws3 {H : Hp} {vs : List V} {x y z : Wv} (h : RWs P w K H vs [x, y, z]) : ∃ a b c, vs = [a, b, c] ∧ RW P w K H a x ∧ RW P w K H b y ∧ RW P w K H c z := by
  cases h with
  | cons a t => obtain ⟨b, c, rfl, hb, hc⟩ := rws2 t; exact ⟨_, _, _, rfl, a, hb, hc⟩
theorem dp_int {H : Hp} {v : V} {i : Int} (h : Dp K H v (.int i)) : v = .int i := by cases h; rfl
theorem pu_int (F : FG K mg iInt "is_integer") (gi : mg "isinstance" = none) (gn : mg "int" = none) (gb : mg "bool" = none) : Pu P w K mg base 1 "is_integer" 3 semInt := by
  obtain ⟨f, fd, F, gm⟩ := F
  refine ⟨f, fd, _, FnOk.wk (ok_int F gi gn gb) fun vs H Q E ⟨ws, r, hl, hw, e, q⟩ => ?_, gm, F.kp, F.bindsN fun _ _ _ _ _ _ us hl => match us, hl with | [_, _, _], _ => rfl⟩
  unfold semInt at e
  split at e
  · rename_i v lo hi
    by_cases hd : noDict v = true
    · rw [if_pos hd] at e
      cases e
      obtain ⟨a, b, c, rfl, ha, hb, hc⟩ := rws3 hw
      rw [dp_int (rw_d hb), dp_int (rw_d hc)]
      refine ⟨a, lo, hi, rfl, ?_⟩
      have q0 := q (.bl (intB v lo hi)) H (Sm.rfl' H) (.d (.bl _))
      have hv := rw_d ha
      have ty := dp_ty hv
      cases v with
      | int i => exact .inl ⟨i, dp_int hv, q0⟩
      | bool b => cases hv; exact .inr (.inl ⟨b, rfl, q0⟩)
      | dict _ => cases hd
      | _ => exact .inr (.inr ⟨_, ty, by simp [noInts, tyN], q0⟩)
    · rw [if_neg hd] at e
      cases e
  · rename_i ks lo hi
    cases e
    obtain ⟨a, b, c, rfl, ha, hb, hc⟩ := rws3 hw
    rw [dp_int (rw_d hb), dp_int (rw_d hc)]
    cases ha with
    | dk h1 t1 => exact ⟨_, lo, hi, rfl, .inr (.inr ⟨"dict", .base (.dK h1), by simp [noInts], q _ _ (Sm.rfl' H) (.d (.bl _))⟩)⟩
  · cases e
theorem pu_row (F : FG K mg iRow "is_row") (gi : mg "isinstance" = none) (gt : mg "tuple" = none) (gl : mg "len" = none) : Pu P w K mg base 1 "is_row" 3 semRow := by
  obtain ⟨f, fd, F, gm⟩ := F
  refine ⟨f, fd, _, FnOk.wk (ok_row F gi gt gl) fun vs H Q E ⟨ws, r, hl, hw, e, q⟩ => ?_, gm, F.kp, F.bindsN fun _ _ _ _ _ _ us hl => match us, hl with | [_, _, _], _ => rfl⟩
  unfold semRow at e
  split at e
  · rename_i v lo hi
    by_cases hd : noDict v = true
    · rw [if_pos hd] at e
      cases e
      obtain ⟨a, b, c, rfl, ha, hb, hc⟩ := rws3 hw
      rw [dp_int (rw_d hb), dp_int (rw_d hc)]
      refine ⟨a, lo, hi, rfl, ?_⟩
      have q0 := q (.bl (rowB v lo hi)) H (Sm.rfl' H) (.d (.bl _))
      have hv := rw_d ha
      have ty := dp_ty hv
      cases v with
      | tuple ds =>
        cases hv with
        | @tup a xs _ h t => exact .inl ⟨a, xs, rfl, h, ty, by rw [dpa_len t]; exact q0⟩
      | dict _ => cases hd
      | _ => exact .inr ⟨_, ty, by simp only [tyN]; decide +kernel, q0⟩
    · rw [if_neg hd] at e
      cases e
  · rename_i ks lo hi
    cases e
    obtain ⟨a, b, c, rfl, ha, hb, hc⟩ := rws3 hw
    rw [dp_int (rw_d hb), dp_int (rw_d hc)]
    cases ha with
    | dk h1 t1 => exact ⟨_, lo, hi, rfl, .inr ⟨"dict", .base (.dK h1), by decide +kernel, q _ _ (Sm.rfl' H) (.d (.bl _))⟩⟩
  · cases e
theorem pu_name {tA tL : Tok} (F : FG K mg iName "is_name") (gi : mg "isinstance" = none) (gs : mg "str" = none) (gl : mg "len" = none) (ga : mg "all" = none) (gA : mg "ALPHABET" = some (.str small tA)) (gL : mg "LONGEST_NAME" = some (.int 8 tL)) : Pu P w K mg base 1 "is_name" 1 semName := by
  obtain ⟨f, fd, F, gm⟩ := F
  refine ⟨f, fd, _, FnOk.wk (ok_name F gi gs gl ga gA gL) fun vs H Q E ⟨ws, r, hl, hw, e, q⟩ => ?_, gm, F.kp, F.bindsN fun _ _ _ _ _ _ us hl => match us, hl with | [_], _ => rfl⟩
  unfold semName at e
  split at e
  · rename_i v
    by_cases hd : strOk v = true
    · rw [if_pos hd] at e
      cases e
      obtain ⟨a, rfl, ha⟩ := rws1 hw
      refine ⟨a, rfl, ?_⟩
      have q0 : ∀ H', Sm H H' → Q (.bl (nameD v)) H' := fun H' s => q (.bl (nameD v)) H' s (.d (.bl _))
      have hv := rw_d ha
      have ty := dp_ty hv
      cases v with
      | str z => cases hv; exact .inl ⟨z, rfl, of_decide_eq_true hd, q0⟩
      | dict _ => cases hd
      | _ => exact .inr ⟨_, ty, by simp only [tyN]; decide +kernel, q0 H (Sm.rfl' H)⟩
    · rw [if_neg hd] at e
      cases e
  · cases e
end
end KW
namespace KW
open PySem PySem.Spec PyProof.Rows L2 KZ
section
variable {X : Cx}
theorem PW.wk {X : Cx} {e : Expr} {t t' : TT} (h : PW X e t) (hh : ∀ σ H Q, t' σ H Q → t σ H Q) : PW X e t' := ⟨fun whole pins s σ H Q I q => h.run whole pins s σ H Q I (hh σ H Q q)⟩
abbrev WW (X : Cx) (e : Expr) (f : EV → Option Bool) : Prop := PW X e (tWT X.prog X.w X.K f)
def tOrF (f g : EV → Option Bool) : EV → Option Bool := fun ε => (f ε).bind fun b => if b = true then some true else g ε
def tAndF (f g : EV → Option Bool) : EV → Option Bool := fun ε => (f ε).bind fun b => if b = true then g ε else some false
theorem tor_w {f g : EV → Option Bool} {σ : L2.St} {H : Hp} {Q : Bool → Hp → Prop} (h : tWT X.prog X.w X.K (tOrF f g) σ H Q) : tOr (tWT X.prog X.w X.K f) (tWT X.prog X.w X.K g) σ H Q := by
  obtain ⟨ε, r, E, e, q⟩ := h
  obtain ⟨b, e1, e2⟩ := Option.bind_eq_some_iff.mp e
  refine ⟨ε, b, E, e1, fun H1 s1 => ?_⟩
  cases b
  · exact ⟨ε, r, E.sm s1, e2, fun H2 s2 => q _ (s1.trans s2)⟩
  · cases e2
    exact q _ s1
theorem tand_w {f g : EV → Option Bool} {σ : L2.St} {H : Hp} {Q : Bool → Hp → Prop} (h : tWT X.prog X.w X.K (tAndF f g) σ H Q) : tAnd (tWT X.prog X.w X.K f) (tWT X.prog X.w X.K g) σ H Q := by
  obtain ⟨ε, r, E, e, q⟩ := h
  obtain ⟨b, e1, e2⟩ := Option.bind_eq_some_iff.mp e
  refine ⟨ε, b, E, e1, fun H1 s1 => ?_⟩
  cases b
  · cases e2
    exact q _ s1
  · exact ⟨ε, r, E.sm s1, e2, fun H2 s2 => q _ (s1.trans s2)⟩
theorem ww_or {a b : Expr} {pos : Pos} {rest : List Expr} {f g : EV → Option Bool} (ha : WT X a f) (hb : WW X (.BoolOp .Or (b :: rest) pos) g) : WW X (.BoolOp .Or (a :: b :: rest) pos) (tOrF f g) := PW.wk (pw_or ha hb) fun _ _ _ h => tor_w h
theorem ww_or1 {a : Expr} {pos : Pos} {f : EV → Option Bool} (ha : WT X a f) : WW X (.BoolOp .Or [a] pos) f := pw_or1 ha
theorem ww_and {a b : Expr} {pos : Pos} {rest : List Expr} {f g : EV → Option Bool} (ha : WT X a f) (hb : WW X (.BoolOp .And (b :: rest) pos) g) : WW X (.BoolOp .And (a :: b :: rest) pos) (tAndF f g) := PW.wk (pw_and ha hb) fun _ _ _ h => tand_w h
theorem ww_and1 {a : Expr} {pos : Pos} {f : EV → Option Bool} (ha : WT X a f) : WW X (.BoolOp .And [a] pos) f := pw_and1 ha
theorem wt_ww {e : Expr} {f : EV → Option Bool} (h : WW X e f) : WT X e f := PW.pt h
/-- a builtin function -/
theorem we_blt {x : Str} {p pos : Pos} {e : Expr} {es : List Expr} {g : AF} {id : String} {r : List V → Hp → VK → Prop} {o : List Wv → Option Wv} (hr : CallR X (.builtin id) r) (m : MeetsA X r o) (hg : Gl X x) (hm : X.mg x = none) (hb : bootBuiltins x = some (.builtin id)) (ha : WA X (e :: es) g)
    (hn : x ≠ ("__name__" : Str) := by decide) (hdb : (x == ("__debug__" : Str)) = false := by decide) (hs : starEach (e :: es) X.env = (false, eval e X.env) :: starEach es X.env := by rfl) (hpl : (backTo pos (starEach es X.env)).any (·.1) = false := by rfl) :
    WE X (.Call (.Name x p) (e :: es) [] pos) (bltF g o) := PE.wk (pe_callB hr hg hm hb ha hn hdb hs hpl) fun _ _ _ h => tcb_w m h
/-- a builtin type, called -/
theorem we_bty {x : Str} {p pos : Pos} {e : Expr} {es : List Expr} {g : AF} {T : String} {r : List V → Hp → VK → Prop} {o : List Wv → Option Wv} (hr : CallR X (.type T) r) (m : MeetsA X r o) (hg : Gl X x) (hm : X.mg x = none) (hb : bootBuiltins x = some (.type T)) (ha : WA X (e :: es) g)
    (hn : x ≠ ("__name__" : Str) := by decide) (hdb : (x == ("__debug__" : Str)) = false := by decide) (hs : starEach (e :: es) X.env = (false, eval e X.env) :: starEach es X.env := by rfl) (hpl : (backTo pos (starEach es X.env)).any (·.1) = false := by rfl) :
    WE X (.Call (.Name x p) (e :: es) [] pos) (bltF g o) := PE.wk (pe_callTy hr hg hm hb ha hn hdb hs hpl) fun _ _ _ h => tcb_w m h
/-- what is never done -/
def noF : SF := fun _ => none
theorem wss_no {st : List Stmt} : WSs X st noF := ⟨fun pins s σ H D I ⟨ε, r, E, e, q⟩ => by cases e⟩
end
theorem goF_map {st : Wv → Option (List Wv)} {h : PyData → PyData} : ∀ {ds : List PyData}, (∀ d ∈ ds, st (.d d) = some [.d (h d)]) → goF st (ds.map .d) = some ((ds.map h).map .d)
  | [], _ => rfl
  | d :: ds, hh => by
    rw [List.map_cons, goF, hh d (List.mem_cons_self ..), goF_map (ds := ds) fun e he => hh e (List.mem_cons_of_mem _ he)]
    rfl
theorem goF_filter {st : Wv → Option (List Wv)} {p : PyData → Bool} {h : PyData → PyData} : ∀ {ds : List PyData}, (∀ d ∈ ds, st (.d d) = some (if p d = true then [.d (h d)] else [])) → goF st (ds.map .d) = some (((ds.filter p).map h).map .d)
  | [], _ => rfl
  | d :: ds, hh => by
    rw [List.map_cons, goF, hh d (List.mem_cons_self ..), goF_filter (ds := ds) fun e he => hh e (List.mem_cons_of_mem _ he)]
    rw [List.filter_cons]
    cases p d <;> rfl
theorem mkL_map (ds : List PyData) : mkL (ds.map .d) = .d (.list ds) := by
  unfold mkL
  rw [allD_map]
/-- all of a comprehension of truths over a tuple's items -/
theorem lcF_all {t : Tgt} {vs : List Nat} {fi fe : EF} {ε : EV} {ds : List PyData} {p : PyData → Bool} (h1 : fi ε = some (.d (.tuple ds))) (hl : ds.length ≤ 1000) (h2 : ∀ d ∈ ds, ∃ e, bindT t (.d d) (wipeE vs ε) = some e ∧ fe e = some (bF (p d))) :
    lcG mkD itT t vs fi yesF fe ε = some (.d (.list (ds.map fun d => .bool (p d)))) := by
  unfold lcG
  rw [h1]
  simp only [itT, Option.bind_some, List.length_map, if_pos hl]
  rw [goF_map (h := fun d => .bool (p d)) fun d hd => ?_]
  · rw [Option.bind_some]
    show some (mkL _) = _
    rw [mkL_map]
  · obtain ⟨e, e1, e2⟩ := h2 d hd
    unfold lcStep
    rw [e1]
    simp only [yesF, Option.bind_some, if_true]
    rw [e2]
    rfl
theorem allO_bools (ds : List PyData) (p : PyData → Bool) : allO [.d (.list (ds.map fun d => .bool (p d)))] = some (bF (ds.all p)) := by
  show (boolsD _).map _ = _
  have : ds.map (fun d => PyData.bool (p d)) = (ds.map p).map .bool := by rw [List.map_map]; rfl
  rw [this, boolsD_map]
  simp [List.all_map]
end KW
namespace KW
open PySem PySem.Spec PyProof.Rows L2 KZ
abbrev iGroups_ : Nat := 43
abbrev iGroupRow : Nat := 44
abbrev iChecks : Nat := 45
section
variable {P : Program} {w : World} {K : PySem.W.Frag} {mg : Str → Option Value} {base : Heap}
/-! ascends -/
def ascOk (ds : List PyData) : Bool := decide (ds.length ≤ 1000) && (ds.all fun d => d.plain && decide (d.depth ≤ 20)) && ds.all fun a => ds.all fun b => KM.cmpB a b
def semAsc : List Wv → Option Wv
  | [.d (.tuple ds)] => if ascOk ds = true then some (bF (ascD ds)) else none
  | [.d (.list ds)] => if ascOk ds = true then some (bF (ascD ds)) else none
  | _ => none
theorem zip_fst {α β : Type} : ∀ {xs : List α} {ys : List β}, xs.length = ys.length → (xs.zip ys).map (·.1) = xs ∧ (xs.zip ys).map (·.2) = ys
  | [], [], _ => ⟨rfl, rfl⟩
  | x :: xs, y :: ys, h => by
    obtain ⟨h1, h2⟩ := zip_fst (xs := xs) (ys := ys) (by simpa using h)
    exact ⟨by simp [h1], by simp [h2]⟩
theorem dpa_zip {H : Hp} : ∀ {vs : List V} {ds : List PyData}, DpAll K H vs ds → ∀ b ∈ vs.zip ds, Dp K H b.1 b.2
  | _, _, .nil, b, hb => by simp at hb
  | _, _, .cons h t, b, hb => by
    rw [List.zip_cons_cons] at hb
    rcases List.mem_cons.mp hb with e | e
    · rw [e]; exact h
    · exact dpa_zip t b e
theorem pu_asc (F : FG K mg iAsc "ascends") (ga : mg "all" = none) (gr : mg "range" = none) (gl : mg "len" = none) : Pu P w K mg base 1 "ascends" 1 semAsc := by
  obtain ⟨f, fd, F, gm⟩ := F
  refine ⟨f, fd, _, FnOk.wk (ok_asc F ga gr gl) fun vs H Q E ⟨ws, r, hl, hw, e, q⟩ => ?_, gm, F.kp, F.bindsN fun _ _ _ _ _ _ us hl => match us, hl with | [_], _ => rfl⟩
  have core : ∀ (a : Addr) (xs : List V) (ds : List PyData), (SqL K H a xs ∨ SqT K H a xs) → DpAll K H xs ds → ascOk ds = true → r = bF (ascD ds) → vs = [.ref a] → spAsc K vs H Q E := by
    intro a xs ds hs hd hok hr hv
    obtain ⟨z1, z2⟩ := zip_fst (dpa_len hd)
    unfold ascOk at hok
    simp only [Bool.and_eq_true, decide_eq_true_eq, List.all_eq_true] at hok
    obtain ⟨⟨k1, k2⟩, k3⟩ := hok
    have z1' : NL.dsV (xs.zip ds) = xs := z1
    refine ⟨a, xs.zip ds, hv, by rw [z1']; exact hs, by rw [List.length_zip]; omega, fun b hb => ⟨dpa_zip hd b hb, ?_⟩, by rw [z2]; exact fun d hd' e he => k3 d hd' e he, fun x d H' s h => dp_sm s h, fun H' s => ?_, fun H' s => ?_⟩
    · have := k2 b.2 (by rw [← z2]; exact List.mem_map_of_mem hb)
      exact this
    · rw [z1']
      rcases hs with h | h
      · exact .inl (sql_sm s h)
      · exact .inr (sqt_sm s h)
    · rw [z2]
      exact q _ H' s (hr ▸ .d (.bl _))
  unfold semAsc at e
  split at e
  · rename_i ds
    by_cases hd : ascOk ds = true
    · rw [if_pos hd] at e
      obtain ⟨a, rfl, ha⟩ := rws1 hw
      cases rw_d ha with
      | @tup a1 xs _ h t => exact core a1 xs ds (.inr h) t hd (Option.some.inj e).symm rfl
    · rw [if_neg hd] at e
      cases e
  · rename_i ds
    by_cases hd : ascOk ds = true
    · rw [if_pos hd] at e
      obtain ⟨a, rfl, ha⟩ := rws1 hw
      cases rw_d ha with
      | @lst a1 xs _ h t => exact core a1 xs ds (.inl h) t hd (Option.some.inj e).symm rfl
    · rw [if_neg hd] at e
      cases e
  · cases e
/-! _are_checks -/
theorem scChecks : FnScope ["value", "check"] ["value"] (defScope (topAt iChecks)) := ⟨rfl, rfl, rfl, by decide +kernel, rfl, by decide +kernel, by decide +kernel⟩
def checksD (v : PyData) : Bool := match v with
  | .tuple ds => rowB v 1 4 && (ds.all nameD && ascD ds)
  | _ => false
/-- what may stand in the place of data -/
def checksOk (v : PyData) : Bool := match v with
  | .tuple ds => decide (ds.length ≤ 1000) && ds.all strOk
  | .dict _ => false
  | _ => true
def semChecks : List Wv → Option Wv
  | [.d v] => if checksOk v = true then some (bF (checksD v)) else none
  | _ => none
theorem names_str {ds : List PyData} (h : ds.all nameD = true) : ∀ d ∈ ds, ∃ z, d = .str z := by
  intro d hd
  have := List.all_eq_true.mp h d hd
  cases d with
  | str z => exact ⟨z, rfl⟩
  | _ => cases this
theorem names_asc {ds : List PyData} (h : ds.all nameD = true) (hl : ds.length ≤ 1000) : ascOk ds = true := by
  unfold ascOk
  simp only [Bool.and_eq_true, decide_eq_true_eq, List.all_eq_true]
  refine ⟨⟨hl, fun d hd => ?_⟩, fun a ha b hb => ?_⟩
  · obtain ⟨z, rfl⟩ := names_str h d hd
    exact ⟨by simp [PyData.plain], by simp [PyData.depth]⟩
  · obtain ⟨z, rfl⟩ := names_str h a ha
    obtain ⟨y, rfl⟩ := names_str h b hb
    simp [KM.cmpB]
theorem pu_checks {t4 : Tok} (hrow : Pu P w K mg base 1 "is_row" 3 semRow) (hname : Pu P w K mg base 1 "is_name" 1 semName) (hasc : Pu P w K mg base 1 "ascends" 1 semAsc) (F : FG K mg iChecks "_are_checks") (g4 : mg "MOST_CHECKS_OF_GROUP" = some (.int 4 t4)) (ga : mg "all" = none) :
    Pu P w K mg base 2 "_are_checks" 1 semChecks := by
  obtain ⟨f, fd, F, gm⟩ := F
  refine ⟨f, fd, _, okW F scChecks rfl fun cdv A outer s H E hr => ?_, gm, F.kp, F.bindsN fun _ _ _ _ _ _ us hl => match us, hl with | [_], _ => rfl⟩
  refine ⟨_, wss_cons (ws_if (wt_ww (ww_or (wt_not (wt_val (we_call hrow hr (Nat.le_refl _) (by rfl) (wa_cons (we_v (pv 0)) (wa_cons (we_c pe_int) (wa_cons (we_c (pe_glob (v := .int 4) rfl g4 ⟨_, rfl⟩)) wa_nil))))))
      (ww_or1 (wt_not (wt_val (we_blt (cr_all rfl) m_all (by rfl) ga PyProof.Rows.boot_all (wa_cons (we_lcT mkD_ok (own := [("check", 1)]) (t := .one 1) rfl scChecks.nd (we_v (pv 0)) (blkOk_by (N := ["value", "check"]) (sc := defScope (topAt iChecks)) (by decide +kernel)) (fun _ _ _ _ _ => pg_name (i := 1) scChecks.nd rfl (Or.inl rfl)) (fun _ _ _ _ _ => wts_nil)
        (fun s H C cl fp => we_call (X := Cx.blk _ s H _ _ fp) hname hr (Nat.le_refl _) (by rfl) (wa_cons (we_v (pv 1)) wa_nil))) wa_nil)))))))
      (wss_one (ws_ret (we_c pe_bl))) wss_nil) (wss_one (ws_ret (we_call hasc hr (Nat.le_refl _) (by rfl) (wa_cons (we_v (pv 0)) wa_nil)))), ?_⟩
  rintro ws hl r e
  match ws, hl with
  | [x], _ =>
    unfold semChecks at e
    split at e
    · rename_i v hx
      cases hx
      by_cases hd : checksOk v = true
      · rw [if_pos hd] at e
        cases e
        simp only [semOf, seqF, ifF, retF, setF, unpF, nextF, tOrF, tAndF, tNotF, testF, callF, consF, nilF, vF, cF, sc, andF, orF, notF, bltF, opF, ifeF, isF, fldF, methF, yesF, bindT, slots, setE, List.map_cons, List.map_nil, List.length_cons, List.length_nil, List.replicate, List.append_nil, List.cons_append, List.nil_append, Nat.reduceAdd, Nat.reduceSub, List.getElem?_cons_zero, List.getElem?_cons_succ, List.getElem?_nil, Option.join_some, Option.join_none, Option.bind_some, Option.bind_none, Option.map_some, Option.map_none, if_true, List.set_cons_zero, List.set_cons_succ, wipeE, List.foldr_cons, List.foldr_nil, dOf, bOf, bF, iOf, reduceIte]
        have h1 : semRow [.d v, .d (.int 1), .d (.int 4)] = some (bF (rowB v 1 4)) := if_pos (by cases v <;> first | rfl | cases hd)
        rw [h1]
        cases v with
        | tuple ds =>
          have hd2 := Bool.and_eq_true_iff.mp (show (decide (ds.length ≤ 1000) && ds.all strOk) = true from hd)
          have hlen : ds.length ≤ 1000 := of_decide_eq_true hd2.1
          rw [lcF_all (p := nameD) (ds := ds) rfl hlen fun d hd' => ⟨_, rfl, by
            simp only [semOf, seqF, ifF, retF, setF, unpF, nextF, tOrF, tAndF, tNotF, testF, callF, consF, nilF, vF, cF, sc, andF, orF, notF, bltF, opF, ifeF, isF, fldF, methF, yesF, bindT, slots, setE, List.map_cons, List.map_nil, List.length_cons, List.length_nil, List.replicate, List.append_nil, List.cons_append, List.nil_append, Nat.reduceAdd, Nat.reduceSub, List.getElem?_cons_zero, List.getElem?_cons_succ, List.getElem?_nil, Option.join_some, Option.join_none, Option.bind_some, Option.bind_none, Option.map_some, Option.map_none, if_true, List.set_cons_zero, List.set_cons_succ, wipeE, List.foldr_cons, List.foldr_nil, dOf, bOf, bF, iOf, reduceIte]
            exact if_pos (List.all_eq_true.mp hd2.2 d hd')⟩]
          simp only [Option.bind_some, allO_bools]
          show _ = some (Wv.d (.bool (rowB (.tuple ds) 1 4 && (ds.all nameD && ascD ds))))
          cases rowB (.tuple ds) 1 4 with
          | false => rfl
          | true =>
            cases e2 : ds.all nameD with
            | false => rfl
            | true =>
              show Option.map _ (Option.map Sum.inr (if ascOk ds = true then some (bF (ascD ds)) else none)) = _
              rw [if_pos (names_asc e2 hlen)]
              rfl
        | _ => rfl
      · rw [if_neg hd] at e
        cases e
    · cases e
end
end KW
namespace KW
open PySem PySem.Spec PyProof.Rows L2 KZ
/-! two fors -/
def inStep (t1 : Tgt) (vs1 : List Nat) (fi1 : EF) (ft1 : EV → Option Bool) (fe : EF) (e : EV) : Option (List Wv) := (fi1 e).bind fun y => (itT y).bind fun ws => if ws.length ≤ 100 ∧ ws.all noLW = true then goF (lcStep t1 ft1 fe (wipeE vs1 e)) ws else none
def st2 (t t1 : Tgt) (vs1 : List Nat) (ft : EV → Option Bool) (fi1 : EF) (ft1 : EV → Option Bool) (fe : EF) (ε : EV) (x : Wv) : Option (List Wv) := (bindT t x ε).bind fun e => (ft e).bind fun b => if b = true then inStep t1 vs1 fi1 ft1 fe e else some []
def lc2F (mk : List Wv → Option Wv) (t t1 : Tgt) (vs vs1 : List Nat) (fi : EF) (ft : EV → Option Bool) (fi1 : EF) (ft1 : EV → Option Bool) (fe : EF) : EF := fun ε => (fi ε).bind fun x => (itT x).bind fun ws => if ws.length ≤ 100 then (goF (st2 t t1 vs1 ft fi1 ft1 fe (wipeE vs ε)) ws).bind mk else none
theorem inStep_len {t1 : Tgt} {vs1 : List Nat} {fi1 fe : EF} {ft1 : EV → Option Bool} {e : EV} {a : List Wv} (h : inStep t1 vs1 fi1 ft1 fe e = some a) : a.length ≤ 100 := by
  obtain ⟨y, e1, e2⟩ := Option.bind_eq_some_iff.mp h
  obtain ⟨ws, e3, e4⟩ := Option.bind_eq_some_iff.mp e2
  by_cases hl : ws.length ≤ 100 ∧ ws.all noLW = true
  · rw [if_pos hl] at e4
    have := goF_len (fun x a h => lcStep_len h) e4
    omega
  · rw [if_neg hl] at e4
    cases e4
theorem goF_lenK {st : Wv → Option (List Wv)} {c : Nat} (h : ∀ x a, st x = some a → a.length ≤ c) : ∀ {l o : List Wv}, goF st l = some o → o.length ≤ l.length * c
  | [], o, e => by
    cases e
    simp
  | x :: l, o, e => by
    obtain ⟨a, e1, e2⟩ := Option.bind_eq_some_iff.mp (show (st _).bind _ = some o from e)
    obtain ⟨b, e3, rfl⟩ := Option.map_eq_some_iff.mp e2
    have h1 := h x a e1
    have h2 := goF_lenK h e3
    simp only [List.length_append, List.length_cons, Nat.add_mul, Nat.one_mul]
    omega
/-- an inner loop over a tuple -/
theorem lp_tup {K : PySem.W.Frag} {a : Addr} {xs : List V} {Qd : Hp → Prop} {body : Nat → V → Hp → (Hp → Prop) → Prop} {H1 : Hp} (Pv : Nat → Hp → Prop) (h0 : Pv 0 H1) (hq : ∀ i H, i ≤ xs.length → Pv i H → SqT K H a xs) (hs : ∀ i x H, xs[i]? = some x → Pv i H → body i x H (Pv (i + 1))) (hd : ∀ H, Pv xs.length H → Qd H) :
    ∃ W : Nat → Nat → Hp → Prop, (∃ m, W 0 m H1) ∧ ∀ i m H, W i m H → ((Itt K a).stop i H ∧ Qd H) ∨ ((Itt K a).go i H ∧ ∃ Nx : Hp → Prop, (∀ H', Nx H' → ∃ m', m' < m ∧ W (i + 1) m' H') ∧ ∀ x H', (Itt K a).yld i H x H' → body i x H' Nx) := by
  refine ⟨fun i m H => m + i = xs.length ∧ Pv i H, ⟨xs.length, rfl, h0⟩, fun i m H ⟨e, p⟩ => ?_⟩
  have qx := hq i H (by omega) p
  rcases Nat.eq_zero_or_pos m with hm | hm
  · have ei : i = xs.length := by omega
    subst ei
    exact .inl ⟨⟨xs, qx, Nat.le_refl _⟩, hd H p⟩
  · have lt : i < xs.length := by omega
    refine .inr ⟨⟨xs, xs[i], qx, List.getElem?_eq_getElem lt⟩, Pv (i + 1), fun H' p' => ⟨m - 1, by omega, by omega, p'⟩, fun x H' hx => ?_⟩
    obtain ⟨eH, fx⟩ := hx
    subst eH
    exact hs i x _ (fx xs qx) p
section
variable {X : Cx}
theorem tlc2 {t t1 : Tgt} {vs vs1 : List Nat} {fi fi1 fe : EF} {ft ft1 : EV → Option Bool} {mk : List Wv → Option Wv} (hmk : MkOk mk) (hvs : ∀ i ∈ slots t, i ∈ vs) (hvs1 : ∀ i ∈ slots t1, i ∈ vs1) {σ : L2.St} {H : Hp} {Q : VK} (h : tW X.prog X.w X.K (lc2F mk t t1 vs vs1 fi ft fi1 ft1 fe) σ H Q) :
    tLc2 (iTup X.K (tW X.prog X.w X.K fi)) (tgG X.K t) (tWT X.prog X.w X.K ft) (iTup X.K (tW X.prog X.w X.K fi1)) (tgG X.K t1) (tWT X.prog X.w X.K ft1) (tW X.prog X.w X.K fe) vs vs1 σ H Q := by
  obtain ⟨ε, r, E, e, q⟩ := h
  unfold lc2F at e
  obtain ⟨x, e1, e2⟩ := Option.bind_eq_some_iff.mp e
  obtain ⟨ws, e3, e4⟩ := Option.bind_eq_some_iff.mp e2
  by_cases hl : ws.length ≤ 100
  · rw [if_pos hl] at e4
    obtain ⟨out, e5, e6⟩ := Option.bind_eq_some_iff.mp e4
    refine ⟨ε, x, E, e1, fun v H1 s1 r1 => ?_⟩
    unfold itT at e3
    split at e3
    · rename_i ds
      cases e3
      cases rw_d r1 with
      | @tup a xs _ h1 t1' =>
        have hw : RWs X.prog X.w X.K H1 xs (ds.map .d) := rws_ofD t1'
        refine ⟨a, rfl, ⟨xs, h1⟩, fun D nD => lp_tup (K := X.K) (a := a) (xs := xs)
          (fun k H' => ∃ acc o, goF (st2 t t1 vs1 ft fi1 ft1 fe (wipeE vs ε)) ((ds.map .d).take k) = some o ∧ H' D = some (.lst acc) ∧ RWs X.prog X.w X.K H' acc o ∧ o.all noLW = true ∧ Sm H1 H')
          ⟨[], [], rfl, upd_same, .nil, rfl, upd_sm nD⟩ (fun i H' _ ⟨_, _, _, _, _, _, s⟩ => sqt_sm s h1) ?_ ?_⟩
        · rintro k x H2 hx ⟨acc, o, o1, o2, o3, o4, s2⟩
          obtain ⟨wx, hwx, rx⟩ := dpa_get hw k x hx
          obtain ⟨as, ea⟩ := goF_at e5 hwx
          have ea0 := ea
          unfold st2 at ea
          obtain ⟨ε', b1, ea⟩ := Option.bind_eq_some_iff.mp ea
          obtain ⟨b, b2, ea⟩ := Option.bind_eq_some_iff.mp ea
          have s12 := s1.trans s2
          refine tgt_of2 (er_wipe (E.sm s1) vs) rx s2 b1 fun us E2 => ⟨wipe_stB hvs, ε', b, E2.sm s2, b2, fun H3 s3 => ?_⟩
          have ol : o.length ≤ 10000 := by
            have := goF_lenK (c := 100) (fun x a h => by
              obtain ⟨e', _, h⟩ := Option.bind_eq_some_iff.mp h
              obtain ⟨b', _, h⟩ := Option.bind_eq_some_iff.mp h
              cases b'
              · cases h
                simp
              · exact inStep_len h) o1
            rw [List.length_take] at this
            have : min k (ds.map Wv.d).length ≤ 100 := by omega
            have : min k (ds.map Wv.d).length * 100 ≤ 100 * 100 := Nat.mul_le_mul_right _ this
            omega
          cases b
          · cases ea
            exact ⟨acc, o, by rw [goF_take e5 hwx o1 ea0, List.append_nil], s3 _ _ o2, rws_sm s3 o3, o4, s2.trans s3⟩
          · have ei := ea
            unfold inStep at ea
            obtain ⟨y, c1, ea⟩ := Option.bind_eq_some_iff.mp ea
            obtain ⟨ws1, c2, ea⟩ := Option.bind_eq_some_iff.mp ea
            by_cases hl1 : ws1.length ≤ 100 ∧ ws1.all noLW = true
            · rw [if_pos hl1] at ea
              refine ⟨ε', y, E2.sm (s2.trans s3), c1, fun v1 H4 s4 r4 => ?_⟩
              unfold itT at c2
              split at c2
              · rename_i ds1
                cases c2
                cases rw_d r4 with
                | @tup a1 xs1 _ h4 t4 =>
                  have hw1 : RWs X.prog X.w X.K H4 xs1 (ds1.map .d) := rws_ofD t4
                  have s14 := (s2.trans s3).trans s4
                  have hD4 := s4 _ _ (s3 _ _ o2)
                  have sqk : ∀ {H' : Hp}, (∀ b o, H4 b = some o → b ≠ D → H' b = some o) → SqT X.K H' a1 xs1 := fun {H'} z => sl_sqt ⟨⟨_, hD4⟩, z⟩ h4
                  refine ⟨a1, rfl, ⟨xs1, h4⟩, lp_tup (K := X.K) (a := a1) (xs := xs1)
                    (fun j H' => ∃ acc1 o1', goF (lcStep t1 ft1 fe (wipeE vs1 ε')) ((ds1.map .d).take j) = some o1' ∧ H' D = some (.lst acc1) ∧ RWs X.prog X.w X.K H' acc1 (o ++ o1') ∧ (o ++ o1').all noLW = true ∧ Sm H1 H' ∧ (∀ b o, H4 b = some o → b ≠ D → H' b = some o))
                    ⟨acc, [], rfl, hD4, by rw [List.append_nil]; exact rws_sm (s3.trans s4) o3, by rw [List.append_nil]; exact o4, s14, fun _ _ e _ => e⟩ (fun i H' _ ⟨_, _, _, _, _, _, _, z⟩ => sqk z) ?_ ?_⟩
                  · rintro j x1 H5 hx1 ⟨acc1, o1', p1, p2, p3, p4, p5, p6⟩
                    have sl45 : Sl D H4 H5 := ⟨⟨_, hD4⟩, p6⟩
                    obtain ⟨wx1, hwx1, rx1⟩ := dpa_get hw1 j x1 hx1
                    obtain ⟨as1, ea1⟩ := goF_at ea hwx1
                    have ea10 := ea1
                    unfold lcStep at ea1
                    obtain ⟨ε1, d1, ea1⟩ := Option.bind_eq_some_iff.mp ea1
                    obtain ⟨b', d2, ea1⟩ := Option.bind_eq_some_iff.mp ea1
                    have rx5 := rw_sl sl45 rx1 (List.all_eq_true.mp hl1.2 _ (List.mem_of_getElem? hwx1))
                    refine tgt_of (er_wipe (E2.sm p5) vs1) rx5 d1 fun us1 E5 => ⟨wipe_stB hvs1, ε1, b', E5, d2, fun H6 s6 => ?_⟩
                    have ol1 : o1'.length ≤ 100 := by
                      have := goF_len (fun x a h => lcStep_len h) p1
                      rw [List.length_take] at this
                      have := hl1.1
                      omega
                    have s46 : ∀ b o, H4 b = some o → b ≠ D → H6 b = some o := fun b o e n => s6 _ _ (p6 b o e n)
                    cases b'
                    · cases ea1
                      exact ⟨acc1, o1', by rw [goF_take ea hwx1 p1 ea10, List.append_nil], s6 _ _ p2, rws_sm s6 p3, p4, p5.trans s6, s46⟩
                    · obtain ⟨z, f1, f2⟩ := Option.bind_eq_some_iff.mp ea1
                      by_cases hz : noLW z = true
                      · rw [if_pos hz] at f2
                        cases f2
                        refine ⟨ε1, z, E5.sm s6, f1, fun v7 H7 s7 r7 => ⟨acc1, s7 _ _ (s6 _ _ p2), by rw [p3.len, sizeLine_eq, List.length_append]; omega, ?_⟩⟩
                        have sl : Sl D H7 (upd H7 D (.lst (acc1 ++ [v7]))) := ⟨⟨_, s7 _ _ (s6 _ _ p2)⟩, fun b o e n => by rw [upd_ne n]; exact e⟩
                        exact ⟨acc1 ++ [v7], o1' ++ [z], goF_take ea hwx1 p1 ea10, upd_same, by rw [← List.append_assoc]; exact rws_app (rws_sl sl (rws_sm (s6.trans s7) p3) p4) (.cons (rw_sl sl r7 hz) .nil), by rw [← List.append_assoc, List.all_append, p4]; simp [hz],
                          fun b o e => by
                            have hb : b ≠ D := ne_of_none e nD
                            rw [upd_ne hb]
                            exact s7 _ _ (s6 _ _ (p5 _ _ e)),
                          fun b o e n => by rw [upd_ne n]; exact s7 _ _ (s46 b o e n)⟩
                      · rw [if_neg hz] at f2
                        cases f2
                  · rintro H5 ⟨acc1, o1', p1, p2, p3, p4, p5, p6⟩
                    have : (ds1.map Wv.d).take xs1.length = ds1.map .d := by rw [hw1.len, List.take_length]
                    rw [this, ea] at p1
                    cases p1
                    exact ⟨acc1, o ++ as, goF_take e5 hwx o1 ea0, p2, p3, p4, p5⟩
              · cases c2
            · rw [if_neg hl1] at ea
              cases ea
        · rintro H' ⟨acc, o, o1, o2, o3, o4, o5⟩
          have : (ds.map Wv.d).take xs.length = ds.map .d := by rw [hw.len, List.take_length]
          rw [this, e5] at o1
          cases o1
          exact q _ _ (s1.trans o5) (hmk _ _ _ _ _ _ _ _ o2 o3 e6)
    · cases e3
  · rw [if_neg hl] at e4
    cases e4
/-! a + b of lists that are made in the call -/
theorem rd_exact {P : Program} {w : World} {H : Hp} {h : Heap} (hok : HOk P w H h) {a : Addr} {xs : List V} (r : Rd H a (.lst xs)) : ∃ (its : List Value) (n : Nat), Vals xs its ∧ IsL h a its.toArray n ∧ xs.length ≤ sizeLine := by
  rcases r with e | ⟨o, e⟩
  · obtain ⟨hz, its, m, rv, g⟩ := (show ObjOk P w H h a (.lst xs) from hok a _ e)
    exact ⟨its, _, rv, g, hz⟩
  · obtain ⟨_, hz, its, m, rv, g⟩ := (show ObjOk P w H h a (.frz o (.lst xs)) from hok a _ e)
    exact ⟨its, _, rv, g, hz⟩
def rCatR : R2 := fun x y H Q => ∃ a b xs ys, x = .ref a ∧ y = .ref b ∧ Rd H a (.lst xs) ∧ Rd H b (.lst ys) ∧ xs.length + ys.length ≤ sizeLine ∧ ∀ p, H p = none → Q (.ref p) (upd H p (.lst (xs ++ ys)))
theorem vals_app : ∀ {xs ys : List V} {us ws : List Value}, Vals xs us → Vals ys ws → Vals (xs ++ ys) (us ++ ws)
  | _, _, _, _, .nil, h => h
  | _, _, _, _, .cons a t, h => .cons a (vals_app t h)
theorem op_catR : OpR X (binaryOp .Add) rCatR := by
  intro pins s σ H x y v u Q I rx ry h
  obtain ⟨a, b, xs, ys, ex, ey, h1, h2, hl, q⟩ := h
  subst ex ey
  obtain rfl : v = Value.ref a := rx
  obtain rfl : u = Value.ref b := ry
  obtain ⟨i1, n1, v1, g1, _⟩ := rd_exact I.hok h1
  obtain ⟨i2, n2, v2, g2, _⟩ := rd_exact I.hok h2
  have l1 := v1.length
  have l2 := v2.length
  refine PySem.P.add_list g1 g2 ?_ (by simp only [List.size_toArray]; omega)
  exact ⟨.ref _, _, I.laid (o := .lst (xs ++ ys)) (t' := s.toks) (fun _ _ z => Heap.get?_push_of_some _ z) (Nat.le_refl _) ⟨by rw [List.length_append]; exact hl, i1 ++ i2, 0, vals_app v1 v2, by
    have e : i1.toArray ++ i2.toArray = (i1 ++ i2).toArray := by simp
    rw [e]
    exact Heap.get?_push_size _ rfl⟩, rfl, q _ (I.hok.fresh (Nat.le_refl _))⟩
/-- a + b -/
def oCatL : Wv → Wv → Option Wv
  | .hl xs, .hl ys => if xs.length + ys.length ≤ 1000 then some (.hl (xs ++ ys)) else none
  | _, _ => none
theorem m_catL : Meets2 X rCatR oCatL := by
  intro H x y a b c Q ra rb e q
  unfold oCatL at e
  split at e
  · rename_i ds es
    by_cases hl : ds.length + es.length ≤ 1000
    · rw [if_pos hl] at e
      cases e
      cases ra with
      | @hl a1 xs _ h1 t1 =>
        cases rb with
        | @hl a2 ys _ h2 t2 =>
          have l1 := dpa_len t1
          have l2 := dpa_len t2
          exact ⟨a1, a2, xs, ys, rfl, rfl, h1, h2, by rw [sizeLine_eq]; omega, fun p hp => q _ _ (upd_sm hp) (.hl (.inl upd_same) (dpa_sm (upd_sm hp) (dpa_app t1 t2)))⟩
    · rw [if_neg hl] at e
      cases e
  · cases e
end
end KW
namespace KS
open PySem PySem.Spec PyProof.Rows L2 PySem.Calls
/-- how many different ones, the last first -/
def numR {α : Type} [DecidableEq α] : List α → Nat
  | [] => 0
  | x :: l => if x ∈ l then numR l else numR l + 1
def num {α : Type} [DecidableEq α] (l : List α) : Nat := numR l.reverse
theorem num_snoc {α : Type} [DecidableEq α] (l : List α) (x : α) : num (l ++ [x]) = if x ∈ l then num l else num l + 1 := by
  unfold num
  rw [List.reverse_append]
  show numR (x :: l.reverse) = _
  simp only [numR, List.mem_reverse]
theorem numR_le {α : Type} [DecidableEq α] : ∀ l : List α, numR l ≤ l.length
  | [] => Nat.le_refl _
  | x :: l => by
    have := numR_le l
    simp only [numR, List.length_cons]
    split <;> omega
theorem num_le {α : Type} [DecidableEq α] (l : List α) : num l ≤ l.length := by
  have := numR_le l.reverse
  rwa [List.length_reverse] at this
theorem numR_nodup {α : Type} [DecidableEq α] : ∀ l : List α, numR l = l.length ↔ l.Nodup
  | [] => by simp [numR]
  | x :: l => by
    have h := numR_nodup l
    have h2 := numR_le l
    simp only [numR, List.length_cons, List.nodup_cons]
    by_cases hx : x ∈ l
    · rw [if_pos hx]
      constructor
      · intro z; omega
      · intro z; exact (z.1 hx).elim
    · rw [if_neg hx]
      constructor
      · intro z; exact ⟨hx, h.mp (by omega)⟩
      · intro z; rw [h.mpr z.2]
theorem num_nodup {α : Type} [DecidableEq α] (l : List α) : num l = l.length ↔ l.Nodup := by
  have := numR_nodup l.reverse
  rw [List.length_reverse, (List.reverse_perm l).nodup_iff] at this
  exact this
section
variable {prog : Program} {w : World} {A : Around} {K : Type} [DecidableEq K] {knd : KeyKind prog w K}
theorem loopK {R : Result → Shared → Prop} {I : Addr} {fp wr : List Addr} {G : Array GenState → Array GenState → Prop} {n : Nat} {P : Nat → Value → Prop} {St : Nat → Shared → Prop} (W : WalksS prog w A.in1 I fp wr G n P St) (S : Addr) (hSf : S ∉ fp) (ks : List K) (hsz : ks.length = n) (hn : n + 1 < scanBound)
    (hval : ∀ i v, P i v → ∃ k, ks[i]? = some k ∧ knd.is k v = true ∧ v.scannable = true) : ∀ (m i : Nat) (s : Shared), n - i = m → i ≤ n → St i s → Heap.SetOf knd s.heap S (fun k' => decide (k' ∈ ks.take i)) (num (ks.take i)) →
    (∀ s' : Shared, Moved (S :: wr) G s s' → Heap.SetOf knd s'.heap S (fun k' => decide (k' ∈ ks)) (num ks) → R (.ok (.ret .none)) s') →
    codeAny (model prog w) A (.builtin "set.update.loop" ⟨[.ref S, .ref I], []⟩) R s := by
  have hSw : S ∉ wr := fun h => hSf (W.sub S h)
  have hsub : ∀ b, b ∈ wr → b ∈ S :: wr := fun b hb => List.mem_cons_of_mem S hb
  intro m
  induction m with
  | zero =>
    intro i s hm hi hst hS hR
    obtain rfl : i = n := by omega
    refine codeAny_builtin F.entry_set_update_loop ?_
    rw [Around.under_plainId F.plain_set_update_loop]
    refine wpAny_bind (W.done s _ _ hst fun s' hm' => wpAny_pure (hR s' (Moved.mono hm' hsub) ?_))
    rw [← hsz, List.take_length] at hS
    obtain ⟨o, es, ep, t, ho, rest⟩ := hS
    exact ⟨o, es, ep, t, hm'.heap S o hSw ho, rest⟩
  | succ m ih =>
    intro i s hm hi hst hS hR
    have hlt : i < n := by omega
    refine codeAny_builtin F.entry_set_update_loop ?_
    rw [Around.under_plainId F.plain_set_update_loop]
    refine wpAny_bind (W.item i s _ _ hlt hst fun v s' hP hst' hm' => ?_)
    obtain ⟨k, hk, hkv, hsc⟩ := hval i v hP
    have hS' : Heap.SetOf knd s'.heap S (fun k' => decide (k' ∈ ks.take i)) (num (ks.take i)) := by
      obtain ⟨o, es, ep, t, ho, rest⟩ := hS
      exact ⟨o, es, ep, t, hm'.heap S o hSw ho, rest⟩
    have hle : num (ks.take i) ≤ i := Nat.le_trans (num_le _) (by rw [List.length_take]; omega)
    refine wpAny_bind (wpAny_holding (wpAny_holding (wpAny_bind (knd.pyHash hkv (wpAny_setAddHashed_of hkv hsc hS' (by omega) fun h' hsb hS2 => ?_)))))
    have hSi : Heap.SetOf knd h' S (fun k' => decide (k' ∈ ks.take (i + 1))) (num (ks.take (i + 1))) := by
      have e1 : ks.take (i + 1) = ks.take i ++ [k] := by rw [List.take_succ, hk]; rfl
      have e2 : (fun k' => decide (k' ∈ ks.take (i + 1))) = fun k' => decide (k' ∈ ks.take i) || decide (k' = k) := by
        funext k'
        rw [e1]
        simp
      rw [e2, e1, num_snoc]
      simpa using hS2
    refine wpAny_pure ⟨plainId_quiet F.plain_set_update_loop _, ih (i + 1) _ (by omega) hlt (W.frame (i + 1) s' h' _ hst' (Nat.le_succ s'.toks) fun b hb o e => ?_) hSi fun s'' hm'' hS'' => hR s'' (Moved.trans W.gtrans (Moved.then_heap (Moved.mono hm' hsub) (Nat.le_succ s'.toks) fun b o hb e => ?_) hm'') hS''⟩
    · rw [hsb.right b fun h => hSf (h ▸ hb)]
      exact e
    · rw [hsb.right b fun h => hb (by rw [h]; exact List.mem_cons_self ..)]
      exact e
theorem call_set_listK {E : Value → Shared → Prop} {s : Shared} {l : Addr} {items : Array Value} {ks : List K} {Q : Value → Shared → Prop} (hh : A.handled = none) (hl : s.heap.IsList l items) (hsz : ks.length = items.size) (hn : items.size + 1 < scanBound)
    (hv : ∀ (i : Nat) (v : Value), items[i]? = some v → ∃ k, ks[i]? = some k ∧ knd.is k v = true ∧ v.scannable = true)
    (h : ∀ (h' : Heap) (tk : Nat), Heap.SetOf knd h' s.heap.objs.size (fun k' => decide (k' ∈ ks)) (num ks) → (∀ (b : Nat) (o : Obj), b < s.heap.objs.size → s.heap.get? b = some o → h'.get? b = some o) → Q (.ref s.heap.objs.size) { heap := h', gens := s.gens, drawn := s.drawn, toks := tk, os := s.os }) :
    wpAny (model prog w) A (call (.type "set") [.ref l]) Q E s := by
  obtain ⟨c, tl, hmro⟩ := F.called_set.mro
  have hmade := F.called_set.made
  have hsub := F.called_set.sub
  have h1 := F.called_set.notType
  have h2 := F.called_set.canCreate
  have hct := F.typeCall_set_1 (Value.ref l)
  refine wpAny_call (codeAny_of_tree ?_)
  refine wpAny_pure ⟨Code.quiet_builtin _ (by decide +kernel), codeAny_builtin F.entry_type_call ?_⟩
  rw [Around.under_plain (weight_type_call_type "set" [Value.ref l] []) rfl]
  unfold Builtin.«type.__call__»
  repeat (first | wp_step)
  refine codeAny_mono (code_set_new_1 (E := E) (Value.ref l) (Q₁ := fun v s1 => ∃ led, v = .ref s.heap.objs.size ∧ s1 = { heap := s.heap.push { cls := .type "set", data := .set #[] 0 (SetTable.fresh 0 0 led) }, gens := s.gens, drawn := s.drawn, toks := s.toks, os := s.os }) fun led => ⟨led, rfl, rfl⟩) fun r s1 hr => ?_
  rcases r with e | (v | _ | _ | _) <;> first | exact hr | exact hr.elim | skip
  obtain ⟨led, rfl, rfl⟩ := hr
  have hget : (s.heap.push { cls := .type "set", data := .set #[] 0 (SetTable.fresh 0 0 led) }).get? s.heap.objs.size = some { cls := .type "set", data := .set #[] 0 (SetTable.fresh 0 0 led) } := Heap.get?_push_size _ rfl
  have hold : ∀ b o, s.heap.get? b = some o → (s.heap.push { cls := .type "set", data := .set #[] 0 (SetTable.fresh 0 0 led) }).get? b = some o := fun b o e => Heap.get?_push_of_some _ e
  generalize hh2 : s.heap.push { cls := .type "set", data := .set #[] 0 (SetTable.fresh 0 0 led) } = h2' at hget hold ⊢
  have hT : (⟨h2', s.gens, s.drawn, s.toks, s.os⟩ : Shared).TypeIs (.ref s.heap.objs.size) "set" := ⟨_, hget, rfl⟩
  have hli := F.called_set.init.lookup
  have hbi := F.called_set.init.bind (.ref s.heap.objs.size)
  dsimp only
  refine wpAny_bind (wpAny_isInstance hT hsub ?_)
  refine wpAny_ite_false rfl ?_
  refine wpAny_bind (wpAny_holding ?_)
  unfold callSpecial?
  refine wpAny_bind (wpAny_specialOf hT hli (wpAny_holding ?_))
  refine wpAny_bind (wpAny_of_eq hbi (wpAny_bind (wpAny_call ?_)))
  refine codeAny_mono (codeAny_call_builtin (R := fun r s' => r = .ok (.ret .none) ∧ Heap.SetOf knd s'.heap s.heap.objs.size (fun k' => decide (k' ∈ ks)) (num ks) ∧ (∀ (b : Nat) (o : Obj), b < s.heap.objs.size → s.heap.get? b = some o → s'.heap.get? b = some o) ∧ s'.gens = s.gens ∧ s'.drawn = s.drawn ∧ s'.os = s.os) F.called_set.init.plain F.entry_set_init (check_set_init_1 hT ?_)) ?_
  · unfold Builtin.«set.__init__»
    repeat (first | wp_step)
    obtain ⟨ol, el, ec, nl, ed⟩ := hl
    have hlg := hold _ _ el
    refine wpAny_loadPart_at hlg ?_
    rw [ec]
    refine wpAny_pure ?_
    refine wpAny_of_eq F.sub_list_set ?_
    have hl1 : h2'.IsList l items := ⟨ol, hlg, ec, nl, ed⟩
    repeat (first | with_reducible refine wpAny_pyIter_list hl1 ?_ | with_reducible refine wpAny_runValue ?_ | with_reducible refine wpAny_loadPart_at hlg ?_ | rw [ec] | refine wpAny_of_eq F.sub_list_frozenset ?_ | wp_step)
    have sz2 : h2'.objs.size = s.heap.objs.size + 1 := by rw [← hh2, Heap.size_push]
    have hlS := Heap.lt_size el
    have I1 : ∀ b o, h2'.get? b = some o → (h2'.push { cls := Value.type "list_iterator", data := Data.fields #[Value.ref l, Value.int 0 0] }).get? b = some o := fun b o e => Heap.get?_push_of_some _ e
    have hIt : (h2'.push { cls := Value.type "list_iterator", data := Data.fields #[Value.ref l, Value.int 0 0] }).get? h2'.objs.size = some { cls := Value.type "list_iterator", data := Data.fields #[Value.ref l, Value.int 0 0] } := Heap.get?_push_size _ rfl
    generalize hh3 : h2'.push { cls := Value.type "list_iterator", data := Data.fields #[Value.ref l, Value.int 0 0] } = h3' at I1 hIt ⊢
    refine loopK (knd := knd) (Walks.list (show A.in1.in1.in1.handled = none from hh) h2'.objs.size l (by rw [sz2]; exact Nat.ne_of_lt (Nat.lt_succ_of_lt hlS)) items).toS s.heap.objs.size (by rw [sz2]; simp; exact Nat.ne_of_gt hlS) ks hsz hn (fun i v hP => hv i v hP) _ 0 _ rfl (Nat.zero_le _) ⟨?_, _, I1 _ _ hlg, ec, nl, ed⟩ ?_ ?_
    · exact ⟨_, hIt, rfl, rfl⟩
    · show Heap.SetOf knd h3' s.heap.objs.size (fun k' => decide (k' ∈ ([] : List K))) 0
      have e0 : (fun k' : K => decide (k' ∈ ([] : List K))) = fun _ => false := by funext k'; simp
      rw [e0]
      exact (setObjOf_fresh (knd := knd) led).setOf (I1 _ _ hget) (by omega)
    · intro s' hm' hS'
      repeat (first | wp_step)
      refine ⟨rfl, hS', fun b o hb e => hm'.heap b o ?_ (I1 _ _ (hold _ _ e)), hm'.gens, hm'.drawn, hm'.os⟩
      rw [sz2]
      simp
      exact ⟨Nat.ne_of_lt hb, Nat.ne_of_lt (Nat.lt_succ_of_lt hb)⟩
  · rintro r s' ⟨rfl, g1, g2, g3, g4, g5⟩
    obtain ⟨hp', gs', dr', tk', os'⟩ := s'
    dsimp only at g1 g2 g3 g4 g5
    subst g3 g4 g5
    show wpAny _ _ (pure (some Value.none)) _ _ _
    refine wpAny_pure ?_
    repeat (first | wp_step)
    exact h hp' tk' g1 g2
end
end KS
namespace KW
open PySem PySem.Spec PyProof.Rows L2 KZ KS
/-- a set of so many texts -/
def SetSO (P : Program) (w : World) (a : Addr) (S : Str → Bool) (n : Nat) : HO := .ext fun h => Heap.SetOf (strKind P w) h a S n ∧ n ≤ 100000
theorem setOf_keeps {P : Program} {w : World} {h h1 : Heap} {a : Addr} {S : Str → Bool} {n : Nat} (z : Heap.SetOf (strKind P w) h a S n) (st : ∀ o, h.get? a = some o → h1.get? a = some o) : Heap.SetOf (strKind P w) h1 a S n := by
  obtain ⟨o, es, ep, t, e, r⟩ := z
  exact ⟨o, es, ep, t, st _ e, r⟩
theorem SetSO.ok {P : Program} {w : World} {H : Hp} {h : Heap} {a : Addr} {S : Str → Bool} {n : Nat} (z : Heap.SetOf (strKind P w) h a S n) (hn : n ≤ 100000) : ObjOk P w H h a (SetSO P w a S n) :=
  ⟨⟨z, hn⟩, (let ⟨o, _, _, _, e, _⟩ := z; ⟨o, e⟩), fun h1 h2 ⟨z, k⟩ st => ⟨setOf_keeps z fun o e => st o e, k⟩⟩
section
variable {X : Cx}
def rSetStr (X : Cx) : List V → Hp → VK → Prop := fun xs H Q => ∃ (l : Addr) (zs : List Str), xs = [.ref l] ∧ Rd H l (.lst (zs.map V.str)) ∧ zs.length ≤ 1000 ∧ ∀ p, H p = none → Q (.ref p) (upd H p (SetSO X.prog X.w p (fun k => decide (k ∈ zs)) (num zs)))
theorem vals_strs : ∀ {zs : List Str} {us : List Value}, Vals (zs.map V.str) us → ∀ (i : Nat) (v : Value), us[i]? = some v → ∃ k t, zs[i]? = some k ∧ v = .str k t
  | [], _, .nil, i, v, e => by simp at e
  | z :: zs, _, .cons r t, 0, v, e => by
    simp at e
    subst e
    obtain ⟨t', e'⟩ := (show ∃ t, _ = Value.str z t from r)
    exact ⟨z, t', rfl, e'⟩
  | z :: zs, _, .cons r t, i + 1, v, e => by
    obtain ⟨k, t', e1, e2⟩ := vals_strs t i v (by simpa using e)
    exact ⟨k, t', by simpa using e1, e2⟩
theorem cr_setStr (hA : X.A.handled = none) : CallR X (.type "set") (rSetStr X) := by
  intro pins s σ H xs us Q I r h
  obtain ⟨l, zs, ex, hq, hz, q⟩ := h
  subst ex
  obtain rfl := Vals.ref1 r
  obtain ⟨its, n, rv, g, _⟩ := rd_exact I.hok hq
  have e := rv.length
  rw [List.length_map] at e
  have sb : (1048576 : Nat) ≤ scanBound ∨ (1002 : Nat) ≤ scanBound := by first | exact .inl (by decide) | exact .inr (by decide)
  have sb2 : 1001 < scanBound := by rcases sb with h | h <;> omega
  refine call_set_listK (knd := strKind X.prog X.w) (ks := zs) (items := its.toArray) hA ⟨_, g, rfl, n, rfl⟩ (by simp [e]) (by simp; omega) (fun i v hv => ?_) fun h' tk g1 g2 => ?_
  · obtain ⟨k, t, e1, e2⟩ := vals_strs rv i v (by simpa using hv)
    subst e2
    exact ⟨k, e1, strKind_is _ _ k t, rfl⟩
  · have kk : ∀ b o, s.heap.get? b = some o → h'.get? b = some o := fun b o z => g2 b o (Heap.lt_size z) z
    have np := I.hok.fresh (Nat.le_refl s.heap.objs.size)
    have nl := num_le zs
    exact ⟨.ref s.heap.objs.size, _, I.laid (t' := tk) (a := s.heap.objs.size) (o := SetSO X.prog X.w s.heap.objs.size (fun k => decide (k ∈ zs)) (num zs)) (h' := h') kk (Nat.le_refl _) (SetSO.ok g1 (by omega)), rfl, q _ np⟩
def rLenS (X : Cx) : List V → Hp → VK → Prop := fun xs H Q => ∃ (p : Addr) (S : Str → Bool) (n : Nat), xs = [.ref p] ∧ H p = some (SetSO X.prog X.w p S n) ∧ Q (.int n) H
theorem call_lenS : CallR X (.builtin "len") (rLenS X) := by
  intro pins s σ H xs us Q I r h
  obtain ⟨p, S, n, ex, hp, q⟩ := h
  subst ex
  obtain rfl := Vals.ref1 r
  obtain ⟨⟨⟨o, es, ep, t, e, x1, x2, x3, x4, x5, x6, x7⟩, hn⟩, _, _⟩ := I.hok p _ hp
  refine call_len_set e x1 x2 x6 (by rw [x7]; omega) ?_
  rw [x7]
  exact ⟨.int n, H, I.tok _, ⟨_, rfl⟩, q⟩
def strsD : List PyData → Option (List Str)
  | [] => some []
  | .str z :: t => (strsD t).map (z :: ·)
  | _ :: _ => none
theorem strsD_map : ∀ zs : List Str, strsD (zs.map .str) = some zs
  | [] => rfl
  | z :: t => by simp [strsD, strsD_map t]
theorem strs_vs {K : PySem.W.Frag} {H : Hp} : ∀ {vs : List V} {ds : List PyData} {bs : List Str}, DpAll K H vs ds → strsD ds = some bs → vs = bs.map V.str
  | _, _, _, .nil, e => by cases e; rfl
  | _, _, bs, @DpAll.cons _ _ v vs d ds h t, e => by
    cases d with
    | str b =>
      simp only [strsD, Option.map_eq_some_iff] at e
      obtain ⟨l, e1, rfl⟩ := e
      cases h
      rw [strs_vs t e1]
      rfl
    | _ => cases e
def lenSetF (f : EF) : EF := fun ε => (f ε).bind fun x => match x with
  | .hl ds => (strsD ds).bind fun zs => if zs.length ≤ 1000 then some (.d (.int (num zs : Nat))) else none
  | _ => none
theorem we_lenSet {e : Expr} {f : EF} (h : PE X e (tCB (rLenS X) (tCons (tCB (rSetStr X) (tCons (tW X.prog X.w X.K f) tNil)) tNil))) : WE X e (lenSetF f) := PE.wk h fun σ H Q ⟨ε, r, E, e, q⟩ => by
  unfold lenSetF at e
  obtain ⟨x, e1, e2⟩ := Option.bind_eq_some_iff.mp e
  refine ⟨ε, x, E, e1, fun v H1 s1 r1 => ?_⟩
  split at e2
  · obtain ⟨zs, e3, e4⟩ := Option.bind_eq_some_iff.mp e2
    by_cases hl : zs.length ≤ 1000
    · rw [if_pos hl] at e4
      cases e4
      cases r1 with
      | @hl a vs ds h1 t1 =>
        rw [strs_vs t1 e3] at h1
        exact ⟨a, zs, rfl, h1, hl, fun p hp => ⟨p, _, _, rfl, upd_same, q _ _ (s1.trans (upd_sm hp)) (.d (.int _))⟩⟩
    · rw [if_neg hl] at e4
      cases e4
  · cases e2
end
end KW
namespace KW
open PySem PySem.Spec PyProof.Rows L2 KZ KS
section
variable {X : Cx}
theorem ws_setLc2 {i : Nat} {y : Str} {py : Pos} {elt tg iter tg1 iter1 : Expr} {ifs ifs1 : List Expr} {scope : Scope} {own : List (Str × Nat)} {vs1 : List Nat} {pos spos : Pos} {t t1 : Tgt} {fi fi1 fe : EF} {ft ft1 : EV → Option Bool} {mk : List Wv → Option Wv} (hmk : MkOk mk) (hc : X.calm = true) (hN : X.N.Nodup) (hy : X.N[i]? = some y) (hyl : X.env.scope.names.lookup y = some .local)
    (hsw : swapsWith (.ListComp elt [⟨tg, iter, ifs, 0⟩, ⟨tg1, iter1, ifs1, 0⟩] scope pos) (some (.Name y py)) spos.line X.env = pure true) (hi : WE X iter fi) (ok : BlkOk X.N X.env.scope scope own)
    (hv : ∀ i ∈ vs1, i ∈ own.map (·.2))
    (hg : ∀ (s : Shared) (H : Hp) (C : Addr) (cl : List (Str × Addr)) (fp : List Addr), PG (X.blk s H scope (compEnvC scope cl C X.env) fp) tg (tgG X.K t))
    (ht : ∀ (s : Shared) (H : Hp) (C : Addr) (cl : List (Str × Addr)) (fp : List Addr), WTs (X.blk s H scope (compEnvC scope cl C X.env) fp) ifs ft)
    (hi1 : ∀ (s : Shared) (H : Hp) (C : Addr) (cl : List (Str × Addr)) (fp : List Addr), WE (X.blk s H scope (compEnvC scope cl C X.env) fp) iter1 fi1)
    (hg1 : ∀ (s : Shared) (H : Hp) (C : Addr) (cl : List (Str × Addr)) (fp : List Addr), PG (X.blk s H scope (compEnvC scope cl C X.env) fp) tg1 (tgG X.K t1))
    (ht1 : ∀ (s : Shared) (H : Hp) (C : Addr) (cl : List (Str × Addr)) (fp : List Addr), WTs (X.blk s H scope (compEnvC scope cl C X.env) fp) ifs1 ft1)
    (he : ∀ (s : Shared) (H : Hp) (C : Addr) (cl : List (Str × Addr)) (fp : List Addr), WE (X.blk s H scope (compEnvC scope cl C X.env) fp) elt fe)
    (hvs : ∀ i ∈ slots t, i ∈ own.map (·.2) := by decide) (hvs1 : ∀ i ∈ slots t1, i ∈ vs1 := by decide) (hf : ∀ x : Value, foldedSetIterable iter X.env x = pure x := by intro _; rfl) (hf1 : ∀ (env : Env) (x : Value), foldedSetIterable iter1 env x = pure x := by intro _ _; rfl) :
    WS X (.Assign [.Name y py] (.ListComp elt [⟨tg, iter, ifs, 0⟩, ⟨tg1, iter1, ifs1, 0⟩] scope pos) spos) (setF i (lc2F mk t t1 (own.map (·.2)) vs1 fi ft fi1 ft1 fe)) :=
  PS.wk (ps_setLc2 hc hN hy hyl hsw (pi_tup hi) ok hv hg ht (fun s H C cl fp => pi_tup (hi1 s H C cl fp)) hg1 ht1 he hf hf1) fun D σ H h => tlc2 hmk hvs hvs1 (tasg_w h)
end
section
variable {P : Program} {w : World} {K : PySem.W.Frag} {mg : Str → Option Value} {base : Heap}
/-! _is_group_row -/
theorem scGroupRow : FnScope ["value"] ["value"] (defScope (topAt iGroupRow)) := ⟨rfl, rfl, rfl, by decide +kernel, rfl, by decide +kernel, by decide +kernel⟩
def groupRowD (v : PyData) : Bool := match v with
  | .tuple [a, b] => nameD a && checksD b
  | _ => false
theorem row2 {v : PyData} (h : rowB v 2 2 = true) : ∃ a b, v = .tuple [a, b] := by
  unfold rowB at h
  split at h
  · rename_i xs
    simp at h
    match xs, h with
    | [a, b], _ => exact ⟨a, b, rfl⟩
    | [], h => simp at h
    | [a], h => simp at h
    | a :: b :: c :: l, h => simp at h; omega
  · cases h
theorem groupRow_no {v : PyData} (h : rowB v 2 2 = false) : groupRowD v = false := by
  unfold groupRowD
  split
  · cases h
  · rfl
def groupRowOk (v : PyData) : Bool := match v with
  | .tuple [a, b] => strOk a && checksOk b
  | .dict _ => false
  | _ => true
def semGroupRow : List Wv → Option Wv
  | [.d v] => if groupRowOk v = true then some (bF (groupRowD v)) else none
  | _ => none
theorem pu_groupRow (hrow : Pu P w K mg base 1 "is_row" 3 semRow) (hname : Pu P w K mg base 1 "is_name" 1 semName) (hch : Pu P w K mg base 2 "_are_checks" 1 semChecks) (F : FG K mg iGroupRow "_is_group_row") : Pu P w K mg base 3 "_is_group_row" 1 semGroupRow := by
  obtain ⟨f, fd, F, gm⟩ := F
  refine ⟨f, fd, _, okW F scGroupRow rfl fun cdv A outer s H E hr => ?_, gm, F.kp, F.bindsN fun _ _ _ _ _ _ us hl => match us, hl with | [_], _ => rfl⟩
  refine ⟨_, wss_one (ws_ret (we_and (we_call hrow hr (by decide) (by rfl) (wa_cons (we_v (pv 0)) (wa_cons (we_c pe_int) (wa_cons (we_c pe_int) wa_nil))))
    (we_and (we_call hname hr (by decide) (by rfl) (wa_cons (we_ix ix_seq m_ix (we_v (pv 0)) (we_c pe_int) (fun _ _ => rfl)) wa_nil)) (we_one (we_call hch hr (by decide) (by rfl) (wa_cons (we_ix ix_seq m_ix (we_v (pv 0)) (we_c pe_int) (fun _ _ => rfl)) wa_nil)))))), ?_⟩
  rintro ws hl r e
  match ws, hl with
  | [x], _ =>
    unfold semGroupRow at e
    split at e
    · rename_i v hx
      cases hx
      by_cases hd : groupRowOk v = true
      · rw [if_pos hd] at e
        cases e
        simp only [semOf, seqF, ifF, retF, setF, unpF, nextF, tOrF, tAndF, tNotF, testF, callF, consF, nilF, vF, cF, sc, andF, orF, notF, bltF, opF, ifeF, isF, fldF, methF, yesF, bindT, slots, setE, List.map_cons, List.map_nil, List.length_cons, List.length_nil, List.replicate, List.append_nil, List.cons_append, List.nil_append, Nat.reduceAdd, Nat.reduceSub, List.getElem?_cons_zero, List.getElem?_cons_succ, List.getElem?_nil, Option.join_some, Option.join_none, Option.bind_some, Option.bind_none, Option.map_some, Option.map_none, if_true, List.set_cons_zero, List.set_cons_succ, wipeE, List.foldr_cons, List.foldr_nil, dOf, bOf, bF, iOf, reduceIte]
        have h1 : semRow [.d v, .d (.int 2), .d (.int 2)] = some (bF (rowB v 2 2)) := if_pos (by cases v <;> first | rfl | cases hd)
        rw [h1]
        cases hB : rowB v 2 2 with
        | false =>
          rw [groupRow_no hB]
          rfl
        | true =>
          obtain ⟨a, b, rfl⟩ := row2 hB
          have hd2 := Bool.and_eq_true_iff.mp (show (strOk a && checksOk b) = true from hd)
          have ha : semName [.d a] = some (bF (nameD a)) := if_pos hd2.1
          have hb : semChecks [.d b] = some (bF (checksD b)) := if_pos hd2.2
          have e0 : oIx (.d (.tuple [a, b])) (.d (.int 0)) = some (.d a) := rfl
          have e1 : oIx (.d (.tuple [a, b])) (.d (.int 1)) = some (.d b) := rfl
          rw [e0, e1]
          simp only [Option.bind_some, Option.map_some, ha, hb, bF, bOf, List.length_cons, List.length_nil, Nat.reduceAdd, if_true]
          show _ = some (Wv.d (.bool (nameD a && checksD b)))
          cases nameD a <;> rfl
      · rw [if_neg hd] at e
        cases e
    · cases e
end
end KW
namespace KW
open PySem PySem.Spec PyProof.Rows L2 KZ KS
abbrev NGr : List Str := ["value", "part", "check", "checks", "names"]
theorem scGroups_ : FnScope NGr ["value"] (defScope (topAt iGroups_)) := ⟨rfl, rfl, rfl, by decide +kernel, rfl, by decide +kernel, by decide +kernel⟩
/-- groups that can be told: names and rows of names -/
def goodG (g : Grp) : Bool := nameB g.1 && (decide (1 ≤ g.2.length) && decide (g.2.length ≤ 4)) && (g.2.all nameB && ascD (g.2.map .str))
def restG (gs : List Grp) : Bool := ascD (gs.map gD) && (decide ((gs.flatMap (·.2)).length ≤ 5) && decide ((gs.map (·.1) ++ gs.flatMap (·.2)).Nodup))
/-- the groups that the data are -/
def grpsOf : List PyData → List Grp
  | .tuple [.str n, .tuple cs] :: t => (n, (strsD cs).getD []) :: grpsOf t
  | _ => []
def groupsD (v : PyData) : Bool := match v with
  | .tuple ds => rowB v 1 3 && (ds.all groupRowD && restG (grpsOf ds))
  | _ => false
def groupsOk (v : PyData) : Bool := match v with
  | .tuple ds => decide (ds.length ≤ 100) && ds.all groupRowOk
  | .dict _ => false
  | _ => true
def semGroups : List Wv → Option Wv
  | [.d v] => if groupsOk v = true then some (bF (groupsD v)) else none
  | _ => none
theorem strs_of_names {ds : List PyData} (h : ds.all nameD = true) : ∃ zs : List Str, ds = zs.map .str ∧ zs.all nameB = true := by
  induction ds with
  | nil => exact ⟨[], rfl, rfl⟩
  | cons d t ih =>
    simp only [List.all_cons, Bool.and_eq_true] at h
    obtain ⟨zs, e, e2⟩ := ih h.2
    cases d with
    | str z => exact ⟨z :: zs, by rw [e]; rfl, by simp only [List.all_cons, e2, Bool.and_true]; exact h.1⟩
    | _ => cases h.1
theorem row_of {d : PyData} (h : groupRowD d = true) : ∃ g : Grp, d = gD g ∧ goodG g = true := by
  unfold groupRowD at h
  split at h
  · rename_i a b
    obtain ⟨h1, h2⟩ := Bool.and_eq_true_iff.mp h
    cases a with
    | str n =>
      cases b with
      | tuple cs =>
        have h3 : (rowB (.tuple cs) 1 4 && (cs.all nameD && ascD cs)) = true := h2
        obtain ⟨h4, h5⟩ := Bool.and_eq_true_iff.mp h3
        obtain ⟨h6, h7⟩ := Bool.and_eq_true_iff.mp h5
        obtain ⟨zs, rfl, hz⟩ := strs_of_names h6
        refine ⟨(n, zs), rfl, ?_⟩
        unfold rowB at h4
        simp only [List.length_map, Bool.and_eq_true, decide_eq_true_eq] at h4
        have h8 : nameB n = true := h1
        unfold goodG
        simp only [h8, hz, h7, Bool.and_true, Bool.true_and, Bool.and_eq_true, decide_eq_true_eq]
        omega
      | _ => cases h2
    | _ => cases h1
  · cases h
theorem rows_of {ds : List PyData} (h : ds.all groupRowD = true) : ∃ gs : List Grp, ds = gs.map gD ∧ ∀ g ∈ gs, goodG g = true := by
  induction ds with
  | nil => exact ⟨[], rfl, fun g hg => (nomatch hg)⟩
  | cons d t ih =>
    simp only [List.all_cons, Bool.and_eq_true] at h
    obtain ⟨gs, e, e2⟩ := ih h.2
    obtain ⟨g, e3, e4⟩ := row_of h.1
    refine ⟨g :: gs, by rw [e, e3]; rfl, fun x hx => ?_⟩
    rcases List.mem_cons.mp hx with z | z
    · rw [z]; exact e4
    · exact e2 x z
theorem grpsOf_map : ∀ gs : List Grp, grpsOf (gs.map gD) = gs
  | [] => rfl
  | g :: t => by
    show (g.1, (strsD (g.2.map .str)).getD []) :: grpsOf (t.map gD) = _
    rw [strsD_map, grpsOf_map t]
    rfl
theorem goF_flat {α : Type} {st : Wv → Option (List Wv)} {f : α → PyData} {h : α → List PyData} : ∀ {gs : List α}, (∀ g ∈ gs, st (.d (f g)) = some ((h g).map .d)) → goF st ((gs.map f).map .d) = some ((gs.flatMap h).map .d)
  | [], _ => rfl
  | g :: t, hh => by
    rw [List.map_cons, List.map_cons, goF, hh g (List.mem_cons_self ..), goF_flat (gs := t) fun e he => hh e (List.mem_cons_of_mem _ he), List.flatMap_cons, List.map_append]
    rfl
theorem goF_id {st : Wv → Option (List Wv)} {ds : List PyData} (hh : ∀ d ∈ ds, st (.d d) = some [.d d]) : goF st (ds.map .d) = some (ds.map .d) := by
  have := goF_map (h := fun d => d) hh
  rwa [List.map_id'] at this
theorem noLs_strs : ∀ zs : List Str, noLs (zs.map .str) = true
  | [] => rfl
  | z :: t => by
    show (true && noLs (t.map .str)) = true
    rw [noLs_strs t]
    rfl
theorem gD_depth (g : Grp) : (gD g).depth ≤ 20 := by
  have st : ∀ l : List Str, PyData.depthAll (l.map PyData.str) = 0 := fun l => by
    induction l with
    | nil => simp [PyData.depthAll]
    | cons y l ih =>
      rw [List.map_cons, PyData.depthAll, ih]
      simp [PyData.depth]
  simp only [gD, PyData.depth, PyData.depthAll, st]
  omega
mutual
/-- made of texts, numbers and tuples -/
def simB : PyData → Bool
  | .tuple ds => simBs ds
  | .str _ => true
  | .int _ => true
  | .bool _ => true
  | _ => false
def simBs : List PyData → Bool
  | [] => true
  | d :: ds => simB d && simBs ds
end
theorem alike_cmp_both : ∀ n : Nat, (∀ x y : PyData, sizeOf x ≤ n → W.alike x y = true → simB x = true → KM.cmpB x y = true) ∧ (∀ xs ys : List PyData, sizeOf xs ≤ n → W.alikeAll xs ys = true → simBs xs = true → KM.cmpBs xs ys = true) := by
  intro n
  induction n with
  | zero =>
    refine ⟨fun x y h => ?_, fun xs ys h => ?_⟩
    · cases x <;> simp at h
    · cases xs <;> simp at h
  | succ n ih =>
    refine ⟨fun x y h ha hs => ?_, fun xs ys h ha hs => ?_⟩
    · cases x with
      | tuple xs =>
        cases y with
        | tuple ys => exact ih.2 xs ys (by simp at h; omega) (by simpa [W.alike] using ha) (by simpa [simB] using hs)
        | _ => simp [W.alike] at ha
      | str x => cases y <;> first | rfl | simp [W.alike] at ha
      | int x => cases y <;> first | rfl | simp [W.alike] at ha
      | bool x => cases y <;> first | rfl | simp [W.alike] at ha
      | _ => simp [simB] at hs
    · cases xs with
      | nil => cases ys <;> rfl
      | cons x xs =>
        cases ys with
        | nil => rfl
        | cons y ys =>
          obtain ⟨a1, a2⟩ := W.alike_all_cons ha
          have s2 := Bool.and_eq_true_iff.mp (show (simB x && simBs xs) = true from hs)
          show (if x.eqv y = true then W.alike x y && KM.cmpBs xs ys else KM.cmpB x y) = true
          cases x.eqv y with
          | true => rw [if_pos rfl, a1, ih.2 xs ys (by simp at h; omega) a2 s2.2]; rfl
          | false => exact ih.1 x y (by simp at h; omega) a1 s2.1
theorem alike_cmp (n : Nat) {x y : PyData} (h : sizeOf x ≤ n) (ha : W.alike x y = true) (hs : simB x = true) : KM.cmpB x y = true := (alike_cmp_both n).1 x y h ha hs
theorem simBs_strs : ∀ zs : List Str, simBs (zs.map .str) = true
  | [] => rfl
  | z :: t => by
    show (true && simBs (t.map .str)) = true
    rw [simBs_strs t]
    rfl
theorem plain_strs : ∀ zs : List Str, PyData.plainAll (zs.map .str) = true
  | [] => by simp [PyData.plainAll]
  | z :: t => by simp [PyData.plainAll, PyData.plain, plain_strs t]
theorem gD_simple (g : Grp) : simB (gD g) = true := by
  show (true && (simBs (g.2.map .str) && true)) = true
  rw [simBs_strs]
  rfl
theorem gD_plain (g : Grp) : (gD g).plain = true := by
  simp [gD, PyData.plain, PyData.plainAll, plain_strs]
theorem grps_asc {gs : List Grp} (hl : gs.length ≤ 1000) : ascOk (gs.map gD) = true := by
  unfold ascOk
  simp only [Bool.and_eq_true, decide_eq_true_eq, List.all_eq_true, List.length_map]
  refine ⟨⟨hl, fun d hd => ?_⟩, fun a ha b hb => ?_⟩
  · obtain ⟨g, _, rfl⟩ := List.mem_map.mp hd
    exact ⟨gD_plain g, gD_depth g⟩
  · obtain ⟨g, _, rfl⟩ := List.mem_map.mp ha
    obtain ⟨g2, _, rfl⟩ := List.mem_map.mp hb
    exact alike_cmp (sizeOf (gD g)) (Nat.le_refl _) (gD_alike g g2) (gD_simple g)
theorem lcG_mapH {t : Tgt} {vs : List Nat} {fi fe : EF} {ε : EV} {ds : List PyData} {h : PyData → PyData} (h1 : fi ε = some (.d (.tuple ds))) (hl : ds.length ≤ 1000) (h2 : ∀ d ∈ ds, noL (h d) = true ∧ ∃ e, bindT t (.d d) (wipeE vs ε) = some e ∧ fe e = some (.d (h d))) :
    lcG mkH itT t vs fi yesF fe ε = some (.hl (ds.map h)) := by
  unfold lcG
  rw [h1]
  simp only [itT, Option.bind_some, List.length_map, if_pos hl]
  rw [goF_map (h := h) fun d hd => ?_]
  · rw [Option.bind_some]
    show (allD _).map Wv.hl = _
    rw [allD_map]
    rfl
  · obtain ⟨n, e, e1, e2⟩ := h2 d hd
    unfold lcStep
    rw [e1]
    simp only [yesF, Option.bind_some, if_true]
    rw [e2]
    show (if noL (h d) = true then _ else _) = _
    rw [if_pos n]
theorem flat_le {gs : List Grp} (h : ∀ g ∈ gs, goodG g = true) : (gs.flatMap (·.2)).length ≤ 4 * gs.length := by
  induction gs with
  | nil => simp
  | cons g t ih =>
    have h1 := ih fun x hx => h x (List.mem_cons_of_mem _ hx)
    have h2 := h g (List.mem_cons_self ..)
    unfold goodG at h2
    simp only [Bool.and_eq_true, decide_eq_true_eq] at h2
    rw [List.flatMap_cons, List.length_append, List.length_cons]
    omega
theorem groups_checks {gs : List Grp} {e : EV} (hv : vF 0 e = some (.d (.tuple (gs.map gD)))) (he : e.length = 5) (hl : gs.length ≤ 100) (good : ∀ g ∈ gs, goodG g = true) :
    lc2F mkH (.one 1) (.one 2) [1, 2] [2] (vF 0) yesF (opF (vF 1) (cF (.int 1)) oIx) yesF (vF 2) e = some (.hl ((gs.flatMap (·.2)).map .str)) := by
  unfold lc2F
  rw [hv, Option.bind_some]
  simp only [itT, Option.bind_some, List.length_map, if_pos hl]
  rw [goF_flat (h := fun g : Grp => g.2.map .str) fun g hg => ?_, Option.bind_some]
  · show (allD _).map Wv.hl = _
    rw [allD_map]
    show some (Wv.hl _) = _
    rw [List.map_flatMap]
  · have hg4 : g.2.length ≤ 4 := by
      have h2 := good g hg
      unfold goodG at h2
      simp only [Bool.and_eq_true, decide_eq_true_eq] at h2
      omega
    match e, he with
    | [a, b, c, d, x], _ =>
      simp only [st2, bindT, Option.bind_some, yesF, if_true, inStep]
      have e1 : opF (vF 1) (cF (.int 1)) oIx ((wipeE [1, 2] [a, b, c, d, x]).set 1 (some (.d (gD g)))) = some (.d (.tuple (g.2.map .str))) := rfl
      rw [e1]
      simp only [itT, Option.bind_some, List.length_map]
      rw [if_pos ⟨by omega, List.all_eq_true.mpr fun y hy => by
        obtain ⟨z, hz, rfl⟩ := List.mem_map.mp hy
        obtain ⟨z2, _, rfl⟩ := List.mem_map.mp hz
        rfl⟩]
      · refine goF_id fun y hy => ?_
        obtain ⟨z, _, rfl⟩ := List.mem_map.mp hy
        rfl
theorem num_len (l : List Str) : ((num l : Nat) : Int) == (l.length : Int) ↔ l.Nodup := by
  rw [beq_iff_eq, ← num_nodup]
  omega
section
variable {P : Program} {w : World} {K : PySem.W.Frag} {mg : Str → Option Value} {base : Heap}
theorem pu_groups {t3 t5 : Tok} (hrow : Pu P w K mg base 1 "is_row" 3 semRow) (hasc : Pu P w K mg base 1 "ascends" 1 semAsc) (hgr : Pu P w K mg base 3 "_is_group_row" 1 semGroupRow) (F : FG K mg iGroups_ "_are_groups") (g3 : mg "MOST_GROUPS" = some (.int 3 t3)) (g5 : mg "MOST_CHECKS" = some (.int 5 t5))
    (ga : mg "all" = none) (gl : mg "len" = none) (gse : mg "set" = none) : Pu P w K mg base 4 "_are_groups" 1 semGroups := by
  obtain ⟨f, fd, F, gm⟩ := F
  refine ⟨f, fd, _, okW F scGroups_ rfl fun cdv A outer s H E hr => ?_, gm, F.kp, F.bindsN fun _ _ _ _ _ _ us hl => match us, hl with | [_], _ => rfl⟩
  have hu : (A.deeper (envOfC "_are_groups" (defScope (topAt iGroups_)) s.heap.objs.size f cdv)).units + 30 < cLine := by have := hr.un; omega
  refine ⟨_, wss_cons (ws_if (wt_ww (ww_or (wt_not (wt_val (we_call hrow hr (by decide) (by rfl) (wa_cons (we_v (pv 0)) (wa_cons (we_c pe_int) (wa_cons (we_c (pe_glob (v := .int 3) rfl g3 ⟨_, rfl⟩)) wa_nil))))))
      (ww_or1 (wt_not (wt_val (we_blt (cr_all rfl) m_all (by rfl) ga PyProof.Rows.boot_all (wa_cons (we_lcT mkD_ok (own := [("part", 1)]) (t := .one 1) rfl scGroups_.nd (we_v (pv 0)) (blkOk_by (N := NGr) (sc := defScope (topAt iGroups_)) (by decide +kernel)) (fun _ _ _ _ _ => pg_name (i := 1) scGroups_.nd rfl (Or.inl rfl)) (fun _ _ _ _ _ => wts_nil)
        (fun s H C cl fp => we_call (X := Cx.blk _ s H _ _ fp) hgr hr (by decide) (by rfl) (wa_cons (we_v (pv 1)) wa_nil))) wa_nil)))))))
      (wss_one (ws_ret (we_c pe_bl))) wss_nil)
    (wss_cons (ws_setLc2 mkH_ok (i := 3) (own := [("part", 1), ("check", 2)]) (vs1 := [2]) (t := .one 1) (t1 := .one 2) rfl scGroups_.nd rfl rfl rfl (we_v (pv 0)) (blkOk_by (N := NGr) (sc := defScope (topAt iGroups_)) (by decide +kernel)) (by decide)
        (fun _ _ _ _ _ => pg_name (i := 1) scGroups_.nd rfl (Or.inl rfl)) (fun _ _ _ _ _ => wts_nil) (fun s H C cl fp => we_ix (X := Cx.blk _ s H _ _ fp) ix_seq m_ix (we_v (pv 1)) (we_c pe_int) (fun _ _ => rfl))
        (fun _ _ _ _ _ => pg_name (i := 2) scGroups_.nd rfl (Or.inl rfl)) (fun _ _ _ _ _ => wts_nil) (fun s H C cl fp => we_v (X := Cx.blk _ s H _ _ fp) (pv 2)))
    (wss_cons (ws_set (i := 4) scGroups_.nd rfl (Or.inl rfl) (we_op op_catR m_catL (we_lcT mkH_ok (own := [("part", 1)]) (t := .one 1) rfl scGroups_.nd (we_v (pv 0)) (blkOk_by (N := NGr) (sc := defScope (topAt iGroups_)) (by decide +kernel)) (fun _ _ _ _ _ => pg_name (i := 1) scGroups_.nd rfl (Or.inl rfl)) (fun _ _ _ _ _ => wts_nil)
        (fun s H C cl fp => we_ix (X := Cx.blk _ s H _ _ fp) ix_seq m_ix (we_v (pv 1)) (we_c pe_int) (fun _ _ => rfl))) (we_v (pv 3))))
    (wss_one (ws_ret (we_and (we_call hasc hr (by decide) (by rfl) (wa_cons (we_v (pv 0)) wa_nil))
      (we_and (we_cmp op_le (m_i fun _ _ => rfl) (we_blt call_len m_len (by rfl) gl PySem.boot_len (wa_cons (we_v (pv 3)) wa_nil)) (we_c (pe_glob (v := .int 5) rfl g5 ⟨_, rfl⟩)) (nomark _))
        (we_one (we_cmp (NL.op_eqP hu) (m_eq false) (we_lenSet (pe_callB call_lenS (by rfl) gl PySem.boot_len (pa_cons (pe_callTy (cr_setStr hr.hd) (by rfl) gse (by decide +kernel) (pa_cons (we_v (pv 4)) pa_nil)) pa_nil)))
          (we_blt call_len m_len (by rfl) gl PySem.boot_len (wa_cons (we_v (pv 4)) wa_nil)) (nomark _))))))))), ?_⟩
  rintro ws hl r e
  match ws, hl with
  | [x], _ =>
    unfold semGroups at e
    split at e
    · rename_i v hx
      cases hx
      by_cases hd : groupsOk v = true
      · rw [if_pos hd] at e
        cases e
        simp only [semOf, seqF, ifF, retF, setF, unpF, nextF, tOrF, tAndF, tNotF, testF, callF, consF, nilF, vF, cF, sc, andF, orF, notF, bltF, opF, ifeF, isF, fldF, methF, yesF, bindT, slots, setE, List.map_cons, List.map_nil, List.length_cons, List.length_nil, List.replicate, List.append_nil, List.cons_append, List.nil_append, Nat.reduceAdd, Nat.reduceSub, List.getElem?_cons_zero, List.getElem?_cons_succ, List.getElem?_nil, Option.join_some, Option.join_none, Option.bind_some, Option.bind_none, Option.map_some, Option.map_none, if_true, List.set_cons_zero, List.set_cons_succ, wipeE, List.foldr_cons, List.foldr_nil, dOf, bOf, bF, iOf, reduceIte]
        have h1 : semRow [.d v, .d (.int 1), .d (.int 3)] = some (bF (rowB v 1 3)) := if_pos (by cases v <;> first | rfl | cases hd)
        rw [h1]
        cases v with
        | tuple ds =>
          have hd2 := Bool.and_eq_true_iff.mp (show (decide (ds.length ≤ 100) && ds.all groupRowOk) = true from hd)
          have hlen : ds.length ≤ 100 := of_decide_eq_true hd2.1
          rw [lcF_all (p := groupRowD) (ds := ds) rfl (by omega) fun d hd' => ⟨_, rfl, by
            simp only [semOf, seqF, ifF, retF, setF, unpF, nextF, tOrF, tAndF, tNotF, testF, callF, consF, nilF, vF, cF, sc, andF, orF, notF, bltF, opF, ifeF, isF, fldF, methF, yesF, bindT, slots, setE, List.map_cons, List.map_nil, List.length_cons, List.length_nil, List.replicate, List.append_nil, List.cons_append, List.nil_append, Nat.reduceAdd, Nat.reduceSub, List.getElem?_cons_zero, List.getElem?_cons_succ, List.getElem?_nil, Option.join_some, Option.join_none, Option.bind_some, Option.bind_none, Option.map_some, Option.map_none, if_true, List.set_cons_zero, List.set_cons_succ, wipeE, List.foldr_cons, List.foldr_nil, dOf, bOf, bF, iOf, reduceIte]
            exact if_pos (List.all_eq_true.mp hd2.2 d hd')⟩]
          simp only [Option.bind_some, allO_bools]
          show _ = some (Wv.d (.bool (rowB (.tuple ds) 1 3 && (ds.all groupRowD && restG (grpsOf ds)))))
          cases rowB (.tuple ds) 1 3 with
          | false => rfl
          | true =>
            cases e2 : ds.all groupRowD with
            | false => rfl
            | true =>
              obtain ⟨gs, rfl, good⟩ := rows_of e2
              rw [grpsOf_map]
              have lg : gs.length ≤ 100 := by rw [List.length_map] at hlen; exact hlen
              have lf := flat_le good
              simp only [Option.map_some, bOf, bF, Bool.not_true, Option.bind_some, Bool.false_eq_true, if_false, Bool.true_and]
              rw [groups_checks rfl rfl lg good]
              simp only [Option.map_some, Option.bind_some]
              rw [lcG_mapH (ds := gs.map gD) (h := fun d => match d with | .tuple (a :: _) => a | _ => .none) rfl (by rw [List.length_map]; omega) fun d hd' => by
                obtain ⟨g, _, rfl⟩ := List.mem_map.mp hd'
                exact ⟨rfl, _, rfl, rfl⟩]
              have em : (gs.map gD).map (fun d => match d with | .tuple (a :: _) => a | _ => .none) = (gs.map (·.1)).map PyData.str := by
                rw [List.map_map, List.map_map]
                rfl
              rw [em]
              have ec : oCatL (.hl ((gs.map (·.1)).map .str)) (.hl ((gs.flatMap (·.2)).map .str)) = some (.hl ((gs.map (·.1) ++ gs.flatMap (·.2)).map .str)) := by
                unfold oCatL
                simp only [List.length_map]
                rw [if_pos (by omega), List.map_append]
              simp only [List.set_cons_zero, List.set_cons_succ, List.getElem?_cons_succ, List.getElem?_cons_zero, Option.join_some, Option.bind_some, ec, Option.map_some, List.length_cons, List.length_nil, Nat.reduceAdd, if_true]
              have ea : semAsc [.d (.tuple (gs.map gD))] = some (bF (ascD (gs.map gD))) := if_pos (grps_asc (by omega))
              rw [ea]
              have es : lenSetF (vF 4) [some (.d (.tuple (gs.map gD))), none, none, some (.hl ((gs.flatMap (·.2)).map .str)), some (.hl ((gs.map (·.1) ++ gs.flatMap (·.2)).map .str))] = some (.d (.int (num (gs.map (·.1) ++ gs.flatMap (·.2)) : Nat))) := by
                unfold lenSetF
                show (strsD _).bind _ = _
                rw [strsD_map, Option.bind_some, if_pos (by simp only [List.length_append, List.length_map]; omega)]
              rw [es]
              simp only [bF, Option.bind_some, lenO, oI, iOf, List.length_map, Option.map_some, oEq, PyData.plain, PyData.depth, PyData.eqv]
              unfold restG
              cases ascD (gs.map gD) with
              | false => rfl
              | true =>
                have e5 : decide (((gs.flatMap (·.2)).length : Int) ≤ 5) = decide ((gs.flatMap (·.2)).length ≤ 5) := by
                  apply decide_eq_decide.mpr
                  omega
                rw [e5]
                cases decide ((gs.flatMap (·.2)).length ≤ 5) with
                | false => rfl
                | true =>
                  have en : (((num (gs.map (·.1) ++ gs.flatMap (·.2)) : Nat) : Int) == (((gs.map (·.1) ++ gs.flatMap (·.2)).length : Nat) : Int)) = decide (gs.map (·.1) ++ gs.flatMap (·.2)).Nodup := by
                    rw [Bool.eq_iff_iff, decide_eq_true_iff]
                    exact num_len _
                  simp only [if_true, true_and, Nat.min_self, Nat.zero_le, Bool.false_xor, Bool.true_and, Option.map_some]
                  exact congrArg (fun b => some (Wv.d (.bool b))) en
        | _ => rfl
      · rw [if_neg hd] at e
        cases e
    · cases e
end
end KW
namespace KW
open PySem PySem.Spec PyProof.Rows L2 KZ KS
abbrev iShop : Nat := 42
abbrev mShop (j : Nat) : Stmt := inClass (topAt iShop) j
/-- what stands of the class Shop -/
structure ShopT (K : PySem.W.Frag) (C : Addr) : Prop where
  cls : Cls K C
  nG : NoAttr K C "_groups"
  nH : NoAttr K C "_homes"
  nC : NoAttr K C "_checks"
/-- a shop's fields -/
def shopF (gs cs : PyData) (hs : List (L2.Key × PyData)) : List (Str × Wv) := [("_groups", .d gs), ("_homes", .dk hs), ("_checks", .d cs)]
/-- what is told of a shop: its groups and its checks -/
def asShop : Wv → Option (Addr × PyData × List (L2.Key × PyData) × PyData)
  | .ob C [(a, .d gs), (b, .dk hs), (c, .d cs)] => if a = "_groups" ∧ b = "_homes" ∧ c = "_checks" then some (C, gs, hs, cs) else none
  | _ => none
theorem asShop_of {x : Wv} {C : Addr} {gs cs : PyData} {hs : List (L2.Key × PyData)} (h : asShop x = some (C, gs, hs, cs)) : x = .ob C (shopF gs cs hs) := by
  unfold asShop at h
  split at h
  · rename_i D a gs' b hs' c cs'
    by_cases hh : a = "_groups" ∧ b = "_homes" ∧ c = "_checks"
    · rw [if_pos hh] at h
      obtain ⟨rfl, rfl, rfl⟩ := hh
      cases h
      rfl
    · rw [if_neg hh] at h
      cases h
  · cases h
def itemD (cs : List PyData) (v : PyData) : Bool := match v with
  | .tuple [a, b] => (cs.any fun z => PyData.eqv z a) && intB b 1 9
  | _ => false
/-- data that may be asked about -/
def inOk (cs : List PyData) (a : PyData) : Bool := a.plain && (PyData.plainAll cs && decide (min (PyData.depthAll cs) a.depth ≤ 20))
def pairOk (cs : List PyData) (v : PyData) : Bool := match v with
  | .tuple [a, b] => inOk cs a && noDict b
  | .dict _ => false
  | _ => true
/-- of a shop's groups and checks -/
def shSem (C : Addr) (x : Wv) (k : List PyData → List PyData → Option Wv) : Option Wv := (asShop x).bind fun s => match s.2.1, s.2.2.2 with
  | .tuple ds, .tuple cs => if s.1 = C then k ds cs else none
  | _, _ => none
theorem shSem_of {C : Addr} {x r : Wv} {k : List PyData → List PyData → Option Wv} (h : shSem C x k = some r) : ∃ ds cs hs, x = .ob C (shopF (.tuple ds) (.tuple cs) hs) ∧ k ds cs = some r := by
  obtain ⟨⟨D, gs, hs, cs'⟩, e1, e2⟩ := Option.bind_eq_some_iff.mp h
  obtain rfl := asShop_of e1
  dsimp only at e2
  split at e2
  · rename_i ds cs
    by_cases hD : D = C
    · rw [if_pos hD] at e2
      subst hD
      exact ⟨ds, cs, hs, rfl, e2⟩
    · rw [if_neg hD] at e2
      cases e2
  · cases e2
def semItem (C : Addr) : List Wv → Option Wv
  | [x, .d v] => shSem C x fun ds cs => if pairOk cs v = true then some (bF (itemD cs v)) else none
  | [_, .dk _] => some (bF false)
  | _ => none
theorem inOk_if {cs : List PyData} {a : PyData} (h : inOk cs a = true) : oIn false (.d a) (.d (.tuple cs)) = some (bF (cs.any fun z => PyData.eqv z a)) := by
  unfold inOk at h
  simp only [Bool.and_eq_true, decide_eq_true_eq] at h
  show (if a.plain = true ∧ PyData.plainAll cs = true ∧ min (PyData.depthAll cs) a.depth ≤ 20 then some (bF (false ^^ cs.any fun z => PyData.eqv z a)) else none) = _
  rw [if_pos ⟨h.1, h.2.1, h.2.2⟩, Bool.false_xor]
theorem hu30 {k : Nat} {A : Around} (hr : Room k A) : A.units + 30 < cLine := by have := hr.un; omega
section
variable {P : Program} {w : World} {K : PySem.W.Frag} {mg : Str → Option Value} {base : Heap} {C : Addr}
theorem scItem : FnScope ["self", "value"] ["self", "value"] (defScope (mShop 5)) := ⟨rfl, rfl, rfl, by decide +kernel, rfl, by decide +kernel, by decide +kernel⟩
theorem pm_item {t9 : Tok} (T : ShopT K C) (hrow : Pu P w K mg base 1 "is_row" 3 semRow) (hint : Pu P w K mg base 1 "is_integer" 3 semInt) (F : FM K C iShop 5 "Shop" "is_item") (g9 : mg "LAST_EDITION" = some (.int 9 t9)) : Pm P w K mg base 2 C "is_item" 2 (semItem C) := by
  obtain ⟨f, fd, F, me⟩ := F
  refine ⟨f, fd, _, okW F scItem rfl fun cdv A outer s H E hr => ?_, me, F.bindsN fun _ _ _ _ _ _ us hl => match us, hl with | [_, _], _ => rfl⟩
  refine ⟨_, wss_one (ws_ret (we_and (we_call hrow hr (by decide) (by rfl) (wa_cons (we_v (pv 1)) (wa_cons (we_c pe_int) (wa_cons (we_c pe_int) wa_nil))))
    (we_and (we_cmp (op_inW (hu30 hr)) m_in (we_ix ix_seq m_ix (we_v (pv 1)) (we_c pe_int) (fun _ _ => rfl)) (we_fld (we_v (pv 0)) T.cls T.nC) rfl)
      (we_one (we_call hint hr (by decide) (by rfl) (wa_cons (we_ix ix_seq m_ix (we_v (pv 1)) (we_c pe_int) (fun _ _ => rfl)) (wa_cons (we_c pe_int) (wa_cons (we_c (pe_glob (v := .int 9) rfl g9 ⟨_, rfl⟩)) wa_nil)))))))), ?_⟩
  rintro ws hl r e
  match ws, hl with
  | [x, y], _ =>
    unfold semItem at e
    split at e
    · rename_i x' v hx
      cases hx
      obtain ⟨ds, cs, hs, rfl, e2⟩ := shSem_of e
      by_cases hd : pairOk cs v = true
      · rw [if_pos hd] at e2
        cases e2
        simp only [semOf, seqF, ifF, retF, setF, unpF, nextF, tOrF, tAndF, tNotF, testF, callF, consF, nilF, vF, cF, sc, andF, orF, notF, bltF, opF, ifeF, isF, fldF, methF, yesF, bindT, slots, setE, List.map_cons, List.map_nil, List.length_cons, List.length_nil, List.replicate, List.append_nil, List.cons_append, List.nil_append, Nat.reduceAdd, Nat.reduceSub, List.getElem?_cons_zero, List.getElem?_cons_succ, List.getElem?_nil, Option.join_some, Option.join_none, Option.bind_some, Option.bind_none, Option.map_some, Option.map_none, if_true, List.set_cons_zero, List.set_cons_succ, wipeE, List.foldr_cons, List.foldr_nil, dOf, bOf, bF, iOf, reduceIte]
        have h1 : semRow [.d v, .d (.int 2), .d (.int 2)] = some (bF (rowB v 2 2)) := if_pos (by cases v <;> first | rfl | cases hd)
        rw [h1]
        cases hB : rowB v 2 2 with
        | false =>
          have : itemD cs v = false := by
            unfold itemD
            split
            · cases hB
            · rfl
          rw [this]
          rfl
        | true =>
          obtain ⟨a, b, rfl⟩ := row2 hB
          have hd2 := Bool.and_eq_true_iff.mp (show (inOk cs a && noDict b) = true from hd)
          have e0 : oIx (.d (.tuple [a, b])) (.d (.int 0)) = some (.d a) := rfl
          have e1 : oIx (.d (.tuple [a, b])) (.d (.int 1)) = some (.d b) := rfl
          have ef : (shopF (.tuple ds) (.tuple cs) hs).lookup ("_checks" : Str) = some (Wv.d (.tuple cs)) := rfl
          rw [e0, e1]
          simp only [Option.bind_some, Option.map_some, if_true, ef, inOk_if hd2.1, bF, bOf]
          show _ = some (Wv.d (.bool ((cs.any fun z => PyData.eqv z a) && intB b 1 9)))
          cases cs.any fun z => PyData.eqv z a with
          | false => rfl
          | true =>
            show Option.map _ (Option.map Sum.inr (if noDict b = true then some (bF (intB b 1 9)) else none)) = _
            rw [if_pos hd2.2]
            rfl
      · rw [if_neg hd] at e2
        cases e2
    · rename_i x' v hx
      cases hx
      cases e
      simp only [semOf, seqF, ifF, retF, setF, unpF, nextF, tOrF, tAndF, tNotF, testF, callF, consF, nilF, vF, cF, sc, andF, orF, notF, bltF, opF, ifeF, isF, fldF, methF, yesF, bindT, slots, setE, List.map_cons, List.map_nil, List.length_cons, List.length_nil, List.replicate, List.append_nil, List.cons_append, List.nil_append, Nat.reduceAdd, Nat.reduceSub, List.getElem?_cons_zero, List.getElem?_cons_succ, List.getElem?_nil, Option.join_some, Option.join_none, Option.bind_some, Option.bind_none, Option.map_some, Option.map_none, if_true, List.set_cons_zero, List.set_cons_succ, wipeE, List.foldr_cons, List.foldr_nil, dOf, bOf, bF, iOf, reduceIte]
      rfl
    · cases e
/-! _is_group -/
theorem shSem_shop {C : Addr} {ds cs : List PyData} {hs : List (L2.Key × PyData)} {k : List PyData → List PyData → Option Wv} : shSem C (.ob C (shopF (.tuple ds) (.tuple cs) hs)) k = k ds cs := by
  unfold shSem asShop shopF
  simp
end
end KW
namespace KW
open PySem PySem.Spec PyProof.Rows L2 KZ KS
/-! dicts of texts -/
def valD (ds : List (L2.Key × PyData)) (k : L2.Key) : Option PyData := (ds.find? fun p => decide (p.1 = k)).map (·.2)
theorem paired_val {K : PySem.W.Frag} {H : Hp} (k : L2.Key) : ∀ {kvs : List (L2.Key × V)} {ds : List (L2.Key × PyData)}, Paired (fun p q => p.1 = q.1 ∧ Dp K H p.2 q.2) kvs ds → ∀ d, valD ds k = some d → ∃ v, valV kvs k = some v ∧ Dp K H v d
  | _, _, .nil, d, e => by cases e
  | _, _, @Paired.cons _ _ _ p q kvs ds h t, d, e => by
    unfold valD at e
    unfold valV
    rw [List.find?_cons] at e ⊢
    rw [h.1]
    by_cases hq : q.1 = k
    · simp only [hq, decide_true] at e ⊢
      obtain rfl := Option.some.inj e
      exact ⟨p.2, rfl, h.2⟩
    · simp only [hq, decide_false] at e ⊢
      exact paired_val k t d e
section
variable {X : Cx}
def dgetF (f g : EF) : EF := fun ε => (f ε).bind fun x => (g ε).bind fun y => match x, y with
  | .dk ds, .d (.str z) => (valD ds (Sum.inr z)).map .d
  | _, _ => none
theorem we_dget {o i : Expr} {f g : EF} {pos : Pos} (hu : X.A.units + 30 < cLine) (ho : WE X o f) (hi : WE X i g) (hs : NoSl i) : WE X (.Subscript o i pos) (dgetF f g) := PE.wk (pe_dget (by omega) ho hi hs) fun σ H Q ⟨ε, r, E, e, q⟩ => by
  unfold dgetF at e
  obtain ⟨x, e1, e2⟩ := Option.bind_eq_some_iff.mp e
  obtain ⟨y, e3, e4⟩ := Option.bind_eq_some_iff.mp e2
  refine ⟨ε, x, E, e1, fun v1 H1 s1 r1 => ⟨ε, y, E.sm s1, e3, fun v2 H2 s2 r2 => ?_⟩⟩
  split at e4
  · rename_i ds z
    obtain ⟨d, e5, rfl⟩ := Option.map_eq_some_iff.mp e4
    have r1' := rw_sm s2 r1
    cases r1' with
    | @dk a kvs _ h1 t1 =>
      obtain ⟨v, e6, e7⟩ := paired_val (Sum.inr z) t1 d e5
      have hv : v2 = .str z := by
        cases rw_d r2
        rfl
      exact ⟨a, v, rfl, .inl ⟨kvs, Sum.inr z, .inl h1, by rw [hv]; rfl, e6.symm⟩, q _ _ (s1.trans s2) (.d e7)⟩
  · cases e4
end
/-! group_of -/
def semGroupOf (C : Addr) : List Wv → Option Wv
  | [x, .d (.str z)] => (asShop x).bind fun s => match s.2.2.2 with
    | .tuple cs => if s.1 = C ∧ inOk cs (.str z) = true ∧ (cs.any fun y => PyData.eqv y (.str z)) = true then (valD s.2.2.1 (Sum.inr z)).map .d else none
    | _ => none
  | _ => none
theorem notIn_if {cs : List PyData} {a : PyData} (h : inOk cs a = true) : oNotIn (.d a) (.d (.tuple cs)) = some (bF (!cs.any fun z => PyData.eqv z a)) := by
  unfold inOk at h
  simp only [Bool.and_eq_true, decide_eq_true_eq] at h
  show (if a.plain = true ∧ PyData.plainAll cs = true ∧ min (PyData.depthAll cs) a.depth ≤ 20 then some (bF (true ^^ cs.any fun z => PyData.eqv z a)) else none) = _
  rw [if_pos ⟨h.1, h.2.1, h.2.2⟩, Bool.true_xor]
section
variable {P : Program} {w : World} {K : PySem.W.Frag} {mg : Str → Option Value} {base : Heap} {C : Addr}
theorem scGroupOf : FnScope ["self", "check"] ["self", "check"] (defScope (mShop 4)) := ⟨rfl, rfl, rfl, by decide +kernel, rfl, by decide +kernel, by decide +kernel⟩
theorem pm_groupOf (T : ShopT K C) (F : FM K C iShop 4 "Shop" "group_of") : Pm P w K mg base 1 C "group_of" 2 (semGroupOf C) := by
  obtain ⟨f, fd, F, me⟩ := F
  refine ⟨f, fd, _, okW F scGroupOf rfl fun cdv A outer s H E hr => ?_, me, F.bindsN fun _ _ _ _ _ _ us hl => match us, hl with | [_, _], _ => rfl⟩
  refine ⟨_, wss_cons (ws_if (wt_cmp (op_notInW (hu30 hr)) m_notIn (we_v (pv 1)) (we_fld (we_v (pv 0)) T.cls T.nC) rfl) wss_no wss_nil)
    (wss_one (ws_ret (we_dget (hu30 hr) (we_fld (we_v (pv 0)) T.cls T.nH) (we_v (pv 1)) (fun _ _ => rfl)))), ?_⟩
  rintro ws hl r e
  match ws, hl with
  | [x, y], _ =>
    unfold semGroupOf at e
    split at e
    · rename_i x' z hx
      cases hx
      obtain ⟨⟨D, gs, hs, cs'⟩, e1, e2⟩ := Option.bind_eq_some_iff.mp e
      obtain rfl := asShop_of e1
      dsimp only at e2
      cases cs' with
      | tuple cs =>
        dsimp only at e2
        by_cases hd : D = C ∧ inOk cs (.str z) = true ∧ (cs.any fun y => PyData.eqv y (.str z)) = true
        · rw [if_pos hd] at e2
          obtain ⟨rfl, hd1, hd2⟩ := hd
          obtain ⟨d, e3, rfl⟩ := Option.map_eq_some_iff.mp e2
          simp only [semOf, seqF, ifF, retF, setF, unpF, nextF, tOrF, tAndF, tNotF, testF, callF, consF, nilF, vF, cF, sc, andF, orF, notF, bltF, opF, ifeF, isF, fldF, methF, yesF, bindT, slots, setE, List.map_cons, List.map_nil, List.length_cons, List.length_nil, List.replicate, List.append_nil, List.cons_append, List.nil_append, Nat.reduceAdd, Nat.reduceSub, List.getElem?_cons_zero, List.getElem?_cons_succ, List.getElem?_nil, Option.join_some, Option.join_none, Option.bind_some, Option.bind_none, Option.map_some, Option.map_none, if_true, List.set_cons_zero, List.set_cons_succ, wipeE, List.foldr_cons, List.foldr_nil, dOf, bOf, bF, iOf, reduceIte]
          have ef : (shopF gs (.tuple cs) hs).lookup ("_checks" : Str) = some (Wv.d (.tuple cs)) := rfl
          have eh : (shopF gs (.tuple cs) hs).lookup ("_homes" : Str) = some (Wv.dk hs) := rfl
          simp only [ef, Option.bind_some, notIn_if hd1, hd2, Bool.not_true, bF, bOf, Bool.false_eq_true, if_false, dgetF, fldF, vF, List.getElem?_cons_zero, List.getElem?_cons_succ, Option.join_some, eh, if_true, e3, Option.map_some]
        · rw [if_neg hd] at e2
          cases e2
      | _ => cases e2
    · cases e
end
end KW
/-! zip of any two things that are walked item by item -/
namespace KP
open PySem PySem.Spec PyProof.Rows L2
end KP
namespace KP
open PySem PySem.Spec PyProof.Rows L2
end KP
namespace KP
open PySem PySem.Spec PyProof.Rows L2
end KP
open PySem PySem.Spec PyProof.Rows L2 KZ
namespace KH
/-- an exception that was caught: its class, its dict; what else its record holds is not told -/
def exh (a : Addr) (c : Value) (d : Option Addr) : HO := .ext fun h => ∃ o vs, h.get? a = some o ∧ o.cls = c ∧ o.dict = d ∧ o.data = .fields vs
theorem exh_at {P : Program} {w : World} {H : Hp} {h : Heap} {a : Addr} {c : Value} {d : Option Addr} (hok : HOk P w H h) (e : H a = some (exh a c d)) :
    ∃ o vs, h.get? a = some o ∧ o.cls = c ∧ o.dict = d ∧ o.data = .fields vs := (hok a _ e).1
theorem exh_ok {P : Program} {w : World} {H : Hp} {h : Heap} {a : Addr} {o : Obj} {vs : Array Value} (e : h.get? a = some o) (hd : o.data = .fields vs) : ObjOk P w H h a (exh a o.cls o.dict) :=
  ⟨⟨o, vs, e, rfl, rfl, hd⟩, ⟨o, e⟩, fun _ _ ⟨o1, v1, e1, z1, z2, z3⟩ k => ⟨o1, v1, k _ e1, z1, z2, z3⟩⟩
/-- an object that is in the heap, new since the call began, is taken into the abstract heap -/
theorem adopt {X : Cx} {pins : List (Addr × Obj)} {σ : L2.St} {H : Hp} {s : Shared} {a : Addr} {o : Obj} {ho : HO} (I : Inv X pins σ H s) (e : s.heap.get? a = some o) (na : H a = none) (nL : a ≠ X.env.locals)
    (nc : ∀ v, o.data ≠ .cell v) (nS : X.s_0.heap.get? a = none ∨ a ∈ X.ex) (nP : ∀ p ∈ X.pn ++ pins, p.1 ≠ a) (new : ObjOk X.prog X.w (upd H a ho) s.heap a ho) : Inv X pins σ (upd H a ho) s := by
  have out : ∀ {b : Addr}, b ≠ a → upd H a ho b = H b := fun h => upd_ne h
  have kept : ∀ {b : Addr} {u : HO}, H b = some u → upd H a ho b = some u := fun {b u} q => by rw [out (ne_of_none q na)]; exact q
  refine ⟨I.ok, I.os, I.bare, ⟨I.base.keep, I.base.slot, fun b ob q n hx => ?_, I.base.there, fun b xs q => kept (I.base.tups b xs q), fun b ob u q => kept (I.base.frzs b ob u q), fun b ps q => ?_⟩, I.loc, I.cell, ?_, fun x c q => ?_, fun p hp => ?_, fun b u q => ?_, I.len⟩
  · have hb : b ≠ a := by
      rintro rfl
      rcases nS with z | z
      · rw [z] at q; cases q
      · exact hx z
    rw [out hb]
    exact I.base.free b ob q n hx
  · obtain ⟨more, z⟩ := I.base.tbls b ps q
    exact ⟨more, kept z⟩
  · rw [out (Ne.symm nL)]; exact I.free
  · have hb : c ≠ a := by
      rintro rfl
      obtain ⟨v, oc, ec, hd⟩ := I.cell x c q
      rw [e] at ec
      cases ec
      exact nc v hd
    rw [out hb]
    exact I.freeC x c q
  · obtain ⟨q1, q2, q3, q4, q5⟩ := I.pin p hp
    exact ⟨q1, by rw [out (nP p hp)]; exact q2, q3, q4, q5⟩
  · by_cases hb : b = a
    · subst hb
      rw [upd_same] at q
      cases q
      exact new
    · rw [out hb] at q
      exact (I.hok b u q).stay (fun _ _ _ z => z) (fun c z => kept z) fun c xs z => kept z
/-- what 'except x as n' wishes where the suite's next end has the exception held -/
def wHeld (K : PySem.W.Frag) (c : Value) (i : Nat) (ts : Addr → Value → Option Addr → TS) (Wout : WX) (l : Nat) (D : Ends) : WX := fun cls d σ H =>
  ∃ b, PySem.W.exmOne K cls c = some b ∧ (b = true → ∀ a, H a = none → σ.length = l → ts a cls d { nx := fun σ' H' => H' a = none → D.nx (σ'.set i none) (upd H' a (exh a cls d)), rt := D.rt, bk := fun _ _ => False, ct := fun _ _ => False } (σ.set i (some (.ref a))) H) ∧
    (b = false → Wout cls d σ H)
section
variable {X : Cx} {x n : Str} {c : Value} {i : Nat} {body suite : List Stmt} {b₀ : Stmt} {np pos pos' : Pos} {tb : WX → TS} {ts : Addr → Value → Option Addr → TS} {Wout : WX}
theorem ps_try_held (hs : X.stack = X.env :: X.outer) (hf : X.env.frame = some X.env.locals) (hN : X.N.Nodup) (hi : X.N[i]? = some n) (hln : X.env.kindOf n = some .local) (hc : L2.Names X x c) (tk : Takes X Wout)
    (hb : ∀ (W : WX) (pn : List (Addr × Obj)) (xe : Value → Shared → Prop), Takes (X.tr pn xe) W → PassesOwn (model X.prog X.w) X.A X.env xe → PSs (X.tr pn xe) body (tb W))
    (hsu : ∀ (a : Addr) (oe : Obj) (cls : Value) (d : Option Addr) (pn : List (Addr × Obj)), L2.Zc cls d oe → (∃ vs, oe.data = .fields vs) → PSs (X.suite a ((a, oe) :: pn)) (b₀ :: suite) (ts a cls d)) :
    PS X (.Try body [.ExceptHandler (some (.Name x np)) (some n) (b₀ :: suite) pos'] [] [] pos) (fun D σ H => tb (wHeld X.K c i ts Wout X.N.length D) D σ H) := by
  refine ⟨fun pins s σ H D I h => ?_⟩
  have ok := I.ok
  have hfr : X.A.frames = some (X.env :: X.outer) := by rw [ok.frames, hs]
  refine wpAny_Try_except ?_
  refine wpAny_mono ((hb (wHeld X.K c i ts Wout X.N.length D) (X.pn ++ pins) _ (fun u s' xx => ?caught) PassesOwn.looking).run [] s σ H D (I.toTry _) h) (fun f s1 hsp => ?past) (fun e s1 he => he)
  case past =>
    cases f with
    | next => obtain ⟨σ', H', J', q⟩ := hsp; exact wpAny_execs_nil ⟨σ', H', J'.ofTry ok, q⟩
    | brk => obtain ⟨σ', H', J', q⟩ := hsp; exact ⟨σ', H', J'.ofTry ok, q⟩
    | cont => obtain ⟨σ', H', J', q⟩ := hsp; exact ⟨σ', H', J'.ofTry ok, q⟩
    | ret u => obtain ⟨v, σ', H', J', r, q⟩ := hsp; exact ⟨v, σ', H', J'.ofTry ok, r, q⟩
  case caught =>
    obtain ⟨a, B, sI, pins', σ', H', cls, d, rfl, J', nb, up, sky, na, os, ag, b, hb1, hyes, hno⟩ := xx
    have J : Inv X pins σ' H' sI := J'.ofTry ok
    have sky' : L2.Sky B (X.env :: X.outer) a (L2.Zc cls d) X.env.locals s'.heap := by rw [← hs]; exact sky
    show wpAny (model X.prog X.w) X.A (noteFrame (.ref a) X.env) _ _ _
    refine L2.Sky.land L2.Zc.steady hfr hf sky' fun h3 fl3 up3 => ?_
    have J3 : Inv X pins σ' H' { s' with heap := h3 } := J.landed nb fl3.1 (up.trans up3) os ag
    obtain ⟨oe3, vs3, he3, hz3, hd3⟩ := fl3.there
    have nfr : a ∉ frs (X.env :: X.outer) := fun hm => by
      obtain ⟨_, o', e', hnf⟩ := fl3.2.2.1.mem hm
      rw [he3] at e'; cases e'
      exact hnf _ hd3
    have nL : a ≠ X.env.locals := fun z => nfr (List.mem_filterMap.mpr ⟨X.env, List.mem_cons_self, by rw [hf, z]⟩)
    have nF : a ∉ X.fs := fun hm => by
      obtain ⟨e, he, q⟩ := List.mem_filterMap.mp hm
      exact nfr (List.mem_filterMap.mpr ⟨e, List.mem_cons_of_mem _ he, q⟩)
    -- the exception is newer than all that stood without it
    have nI : sI.heap.get? a = none := by
      cases q : sI.heap.get? a with
      | none => rfl
      | some ob =>
        have := nb a ob q (by rw [hs]; exact nfr)
        rw [fl3.2.1] at this
        cases this
    have nS : X.s_0.heap.get? a = none ∨ a ∈ X.ex := by
      cases q : X.s_0.heap.get? a with
      | none => exact .inl rfl
      | some ob =>
        by_cases hx : a ∈ X.ex
        · exact .inr hx
        · obtain ⟨o', z⟩ := J.base.there a ob q hx
          rw [nI] at z
          cases z
    have nP : ∀ p ∈ X.pn ++ pins, p.1 ≠ a := fun p hp z => by
      have := (J.pin p hp).1
      rw [z, nI] at this
      cases this
    have S3 := J3.suite he3 hd3 na nL nF
    refine wpAny_handleBy_cons (codeAny_handlers_test ?_) (by intro q; cases q)
    have LT : PySem.W.Looks (model X.prog X.w) h3 (typeOf (.ref a)) cls := fun A Q E s k q => wpAny_typeOf_ref (k _ _ he3) (by rw [hz3.1]; exact q)
    have LM := PySem.W.exm_one (M := model X.prog X.w) (J3.kIn) LT hb1
    have test : ∀ {Q : Value → Shared → Prop} {E : Value → Shared → Prop}, Q c { s' with heap := h3 } → wpAny (model X.prog X.w) (X.A.mark (some (.ref a))) (eval (.Name x np) X.env) Q E { s' with heap := h3 } := fun {Q E} q => by
      obtain ⟨hg, hdbg, hm | ⟨hm, hv, hnn⟩⟩ := hc
      · exact ld_glob (X := X.suite a ((a, oe3) :: (X.pn ++ pins))) S3 hg hm q hdbg
      · exact ld_blt (X := X.suite a ((a, oe3) :: (X.pn ++ pins))) S3 hg hm hv q hnn hdbg
    refine test (LM.here ?_)
    cases b with
    | true =>
      refine codeAny_handlers_suite_as ?_
      refine HandSPX.lands_againZ fl3 fun h4 fl4 up4 => ?_
      have J4 : Inv X pins σ' H' { s' with heap := h4 } := J.landed nb fl4.1 ((up.trans up3).trans up4) os ag
      obtain ⟨oe4, vs4, he4, hz4, hd4⟩ := fl4.there
      have S4 := J4.suite he4 hd4 na nL nF
      refine store_ok (X := X.suite a ((a, oe4) :: (X.pn ++ pins))) (v := .ref a) S4 hN hi (.inl hln) rfl (fun s5 S5 => ?_) (.inr hln)
      refine wpAny_mono ((hsu a oe4 cls d (X.pn ++ pins) hz4 ⟨_, hd4⟩).run [] s5 _ H' _ S5 (hyes rfl a na J.len)) (fun f s6 hsp => ?_) (fun _ _ z => False.elim z)
      cases f with
      | next =>
        obtain ⟨σ6, H6, S6, q6⟩ := hsp
        refine gone_ok (X := X.suite a ((a, oe4) :: (X.pn ++ pins))) S6 hN hi hln fun s7 S7 => ?_
        obtain ⟨p1, p2, _, _, p5⟩ := S7.pin (a, oe4) (List.mem_append_left _ List.mem_cons_self)
        refine ⟨_, _, adopt (S7.unsuite ok) p1 p2 nL p5 nS nP ?_, q6 p2⟩
        have := exh_ok (P := X.prog) (w := X.w) (H := upd H6 a (exh a cls d)) p1 hd4
        rw [hz4.1, hz4.2] at this
        exact this
      | brk => obtain ⟨_, _, _, q6⟩ := hsp; exact q6.elim
      | cont => obtain ⟨_, _, _, q6⟩ := hsp; exact q6.elim
      | ret u =>
        obtain ⟨v6, σ6, H6, S6, r6, q6⟩ := hsp
        exact gone_ok (X := X.suite a ((a, oe4) :: (X.pn ++ pins))) S6 hN hi hln fun s7 S7 => ⟨_, _, _, S7.unsuite ok, r6, q6⟩
    | false =>
      show wpAny _ X.A (handleBy (.ref a) X.env []) _ _ _
      refine wpAny_handleBy_nil ?_
      obtain ⟨k1, k2, k3, oe, vs, T, oT, ts', he, hz, hd, h1, hr⟩ := id fl3
      unfold PySem.passOn
      refine wpAny_bind (wpAny_field he hd h1 ?_)
      rw [if_neg (show ¬ ((Value.ref T == Value.none) = true) from by simp)]
      have fin : wpAny (model X.prog X.w) X.A (setFlight (.ref a) X.env.frame) (fun _ s4 => wpAny (model X.prog X.w) X.A (throw (.ref a) : Sem Flow) (SP X pins D) X.xe s4) X.xe { s' with heap := h3 } := by
        rw [hf]
        refine HandSPX.setFlight_upZ fl3 fun h4 hh4 up4 => wpAny_throw (tk _ _ ?_)
        exact ⟨a, B, sI, pins, σ', H', cls, d, rfl, J, nb, (up.trans up3).trans up4, .inr (.inr (by rw [hs]; exact hh4)), na, os, ag, hno rfl⟩
      first
        | exact wpAny_bind (wpAny_pure (wpAny_bind fin))
        | exact wpAny_bind fin
end
end KH
open PySem PySem.Spec PyProof.Rows L2 KZ
namespace KH
/-- isinstance(e, c), e a caught error of the package -/
def rIsH (P : Program) (w : World) (K : PySem.W.Frag) (mg : Str → Option Value) (base : Heap) : List V → Hp → VK → Prop := fun xs H Q => ∃ (a C d : Addr) (x f : Str) (fs : List (Str × V)) (c : V) (cv : Value) (b : Bool), xs = [.ref a, c] ∧ Er P w K mg base x f C ∧
  H a = some (exh a (.ref C) (some d)) ∧ H d = some (.xd fs) ∧ (∀ u, RelV c u → u = cv) ∧ PySem.W.kitOne K (.ref C) cv = some b ∧ Q (.bl b) H
theorem call_isH {X : Cx} : CallR X (.builtin "isinstance") (rIsH X.prog X.w X.K X.mg X.base) := by
  intro pins s σ H xs us Q I r h
  obtain ⟨a, C, d, x, f, fs, c, cv, b, rfl, E, ea, ed, hcv, e, q⟩ := h
  obtain ⟨u1, u2, rfl, r1, r2⟩ := vals2 r
  cases (show u1 = Value.ref a from r1)
  have e2 := hcv _ r2
  subst e2
  obtain ⟨o, vs, ho, hc1, hd1, hda⟩ := exh_at I.hok ea
  obtain ⟨mA, hns, _⟩ := I.hok d _ ed
  obtain ⟨od, hd, _⟩ := lookIn_ns hns
  have hcl : (PySem.W.clsIn X.K C).isSome = true := by
    obtain ⟨cd, hc, _⟩ := PySem.W.any_some E.hdC
    rw [hc]
    rfl
  have J : PySem.W.InstAt s.heap a o C (some od) := ⟨ho, hc1, by unfold PySem.W.notCls; rw [hda], by rw [hd1]; exact hd⟩
  exact PySem.W.kia_one (PySem.W.kitx_exc hcl E.ga E.gg E.ox.exC E.gc E.sg E.tk E.mo) I.kIn J e (fun z => nomatch z) fun tk => ⟨.bl b, H, I.kept (t' := tk) fun _ _ z => z, rfl, q⟩
/-- e.f of such an error -/
def tHf (P : Program) (w : World) (K : PySem.W.Frag) (mg : Str → Option Value) (base : Heap) (f : Str) (te : TE) : TE := fun σ H Q => te σ H fun x H1 => ∃ (a C d : Addr) (n : Str) (fs : List (Str × V)) (v : V), x = .ref a ∧ Er P w K mg base n f C ∧
  H1 a = some (exh a (.ref C) (some d)) ∧ H1 d = some (.xd fs) ∧ fs.lookup f = some v ∧ Q v H1
theorem pe_hf {X : Cx} {f : Str} {e : Expr} {te : TE} {pos : Pos} (he : PE X e te) (hb : attributeBase e f X.env (eval e X.env) = eval e X.env := by rfl) : PE X (.Attribute e f pos) (tHf X.prog X.w X.K X.mg X.base f te) := by
  refine ⟨fun pins s σ H Q I h => ?_⟩
  refine attr_of hb (thn (he.run pins s σ H _ I h) fun u s1 hh => ?_)
  obtain ⟨x, H1, I1, rx, a, C, d, n, fs, v, ex, E, ea, ed, l, q⟩ := hh
  subst ex
  obtain rfl : u = Value.ref a := rx
  obtain ⟨o, vs, ho, hc1, hd1, hda⟩ := exh_at I1.hok ea
  obtain ⟨mA, hns, hr⟩ := I1.hok d _ ed
  obtain ⟨od, hd, hl⟩ := lookIn_ns hns
  obtain ⟨u, hu, ru⟩ := RelO.some_of (v := v) (o := mA f) (by rw [← l]; exact hr f)
  have J : PySem.W.InstAt s1.heap a o C (some od) := ⟨ho, hc1, by unfold PySem.W.notCls; rw [hda], by rw [hd1]; exact hd⟩
  exact HandSPX.exc_get I1.kIn J E.ga E.gg E.ox.exC (PySem.W.findObj_own E.hdC E.no rfl (by rw [hl, hu])) (handed_of ru) ⟨v, H1, I1.tok _, ru, q⟩
end KH
namespace KH
open PySem PySem.Spec PyProof.Rows L2 KZ LamX
/-! list.count of flat things -/
end KH
/-! {k: v for .. in .. for .. in ..}: one turn of either loop -/
namespace DC
open PySem PySem.Spec PyProof.Rows L2
/-- such a comprehension, without conditions -/
abbrev two (kx vx t0 i0 t1 i1 : Expr) (scope : Scope) (pos : Pos) : Expr := .DictComp kx vx [⟨t0, i0, [], 0⟩, ⟨t1, i1, [], 0⟩] scope pos
section
variable {prog : Program} {w : World} {A : Around} {R : Result → Shared → Prop} {s : Shared} {kx vx t0 i0 t1 i1 : Expr} {scope : Scope} {pos : Pos} {it acc : Value} {D : Addr} {env : Env}
/-- what is let out of a turn -/
abbrev Out (prog : Program) (w : World) (A : Around) (env : Env) (R : Result → Shared → Prop) : Value → Shared → Prop := notedBy (model prog w) A env fun e s' => R (.error e) s'
theorem out_loop (hs : ∀ x, foldedSetIterable i1 env x = pure x) (I : Nat → Shared → Prop)
    (turn : ∀ n s, I n s → wpAny (model prog w) A (pyNext it) (fun r s₁ => match r with
      | none => R (.ok .next) s₁
      | some v => wpAny (model prog w) A (letOwnedTupleGo t0 it v) (fun _ s₂ => wpAny (model prog w) A (assign t0 env v) (fun _ s₃ => wpAny (model prog w) A (eval i1 env) (fun x s₄ => wpAny (model prog w) A (pyIter x) (fun it1 s₅ =>
          codeAny (model prog w) A (.compStart (two kx vx t0 i0 t1 i1 scope pos) 1 it1 acc env) (fun r s' => match r with
            | .ok _ => ∃ m, m < n ∧ I m s'
            | .error _ => False) s₅) (Out prog w A env R) s₄) (Out prog w A env R) s₃) (Out prog w A env R) s₂) (Out prog w A env R) s₁) (Out prog w A env R) s)
    (n : Nat) (h : I n s) : codeAny (model prog w) A (.compLoop (two kx vx t0 i0 t1 i1 scope pos) 0 it acc env) R s := by
  refine codeAny_loop rfl I (fun n s hI => ?_) n h
  show wpAny _ A ((compTurn (two kx vx t0 i0 t1 i1 scope pos) 0 it acc env).onRaise (fun x => do noteFrame x env; theTreesLotGoes x)) _ _ s
  refine wpAny_noted ?_
  show wpAny _ A (standAt i0.pos >>= _) _ _ s
  refine wpAny_bind (wpAny_standAt (wpAny_bind (wpAny_mono (turn n s hI) (fun r s₁ h₁ => ?_) fun _ _ h' => h')))
  cases r with
  | none => exact wpAny_pure h₁
  | some v =>
    refine wpAny_bind (wpAny_mono h₁ (fun _ s₂ h₂ => wpAny_bind (wpAny_mono h₂ (fun _ s₃ h₃ => ?_) fun _ _ h' => h')) fun _ _ h' => h')
    refine wpAny_bind (wpAny_pure ?_)
    refine wpAny_bind (wpAny_mono h₃ (fun x s₄ h₄ => ?_) fun _ _ h' => h')
    refine wpAny_bind (wpAny_standAt (wpAny_bind (wpAny_of_eq (hs x) (wpAny_bind (wpAny_holding (wpAny_mono h₄ (fun it1 s₅ h₅ => ?_) fun _ _ h' => h'))))))
    refine wpAny_bind (wpAny_runOwn ?_)
    rw [Around.mark_none]
    refine codeAny_mono h₅ fun r s' hr => ?_
    cases r with
    | ok f => first | exact wpAny_pure ⟨rfl, hr⟩ | exact wpAny_bind (wpAny_pure (wpAny_pure ⟨rfl, hr⟩))
    | error e => exact hr.elim
theorem in_loop (I : Nat → Shared → Prop)
    (turn : ∀ n s, I n s → wpAny (model prog w) A (pyNext it) (fun r s₁ => match r with
      | none => R (.ok .next) s₁
      | some v => wpAny (model prog w) A (letOwnedTupleGo t1 it v) (fun _ s₂ => wpAny (model prog w) A (assign t1 env v) (fun _ s₃ => wpAny (model prog w) A (eval kx env) (fun kv s₄ => wpAny (model prog w) A (eval vx env) (fun vv s₅ =>
          wpAny (model prog w) A (dictSet D kv vv) (fun _ s₆ => ∃ m, m < n ∧ I m s₆) (Out prog w A env R) s₅) (Out prog w A env R) s₄) (Out prog w A env R) s₃) (Out prog w A env R) s₂) (Out prog w A env R) s₁) (Out prog w A env R) s)
    (n : Nat) (h : I n s) : codeAny (model prog w) A (.compLoop (two kx vx t0 i0 t1 i1 scope pos) 1 it (.ref D) env) R s := by
  refine codeAny_loop rfl I (fun n s hI => ?_) n h
  show wpAny _ A ((compTurn (two kx vx t0 i0 t1 i1 scope pos) 1 it (.ref D) env).onRaise (fun x => do noteFrame x env; theTreesLotGoes x)) _ _ s
  refine wpAny_noted ?_
  show wpAny _ A (standAt i1.pos >>= _) _ _ s
  refine wpAny_bind (wpAny_standAt (wpAny_bind (wpAny_mono (turn n s hI) (fun r s₁ h₁ => ?_) fun _ _ h' => h')))
  cases r with
  | none => exact wpAny_pure h₁
  | some v =>
    refine wpAny_bind (wpAny_mono h₁ (fun _ s₂ h₂ => wpAny_bind (wpAny_mono h₂ (fun _ s₃ h₃ => ?_) fun _ _ h' => h')) fun _ _ h' => h')
    refine wpAny_bind (wpAny_pure ?_)
    exact wpAny_bind (wpAny_bind (wpAny_mono h₃ (fun kv s₄ h₄ => wpAny_bind (wpAny_holding (wpAny_mono h₄ (fun vv s₅ h₅ => wpAny_bind (wpAny_standAt (wpAny_holding (wpAny_mono h₅ (fun _ s₆ h₆ => wpAny_pure ⟨rfl, h₆⟩) fun _ _ h' => h')))) fun _ _ h' => h'))) fun _ _ h' => h'))
theorem in_start (h0 : codeAny (model prog w) A (.compLoop (two kx vx t0 i0 t1 i1 scope pos) 1 it acc env) R s)
    (h : wpAny (model prog w) A (pyIter it) (fun it' s' => codeAny (model prog w) A (.compLoop (two kx vx t0 i0 t1 i1 scope pos) 1 it' acc env) R s') (Out prog w A env R) s) : codeAny (model prog w) A (.compStart (two kx vx t0 i0 t1 i1 scope pos) 1 it acc env) R s := by
  refine codeAny_of_tree ?_
  show wpAny _ _ ((compStart (two kx vx t0 i0 t1 i1 scope pos) 1 it acc env).onRaise (fun x => do noteFrame x env; standAt theWindowsPlace)) _ _ s
  refine wpAny_notedAt ?_
  unfold compStart
  show wpAny _ _ (ask >>= _) _ _ s
  refine wpAny_bind (wpAny_askSetting (wpAny_ite ?_))
  split
  · first
      | exact wpAny_bind (wpAny_pure (wpAny_pure (And.intro rfl h0)))
      | exact wpAny_pure (And.intro rfl h0)
  · first
      | exact wpAny_bind (wpAny_rule (wpAny_bind (wpAny_standAt (wpAny_bind (wpAny_mono h (fun it' s' h' => wpAny_pure (And.intro rfl h')) fun _ _ x => x)))))
      | (refine wpAny_bind (wpAny_rule ?_); show wpAny _ _ (standAt i1.pos >>= _) _ _ s; exact wpAny_bind (wpAny_standAt (wpAny_bind (wpAny_mono h (fun it' s' h' => wpAny_pure (And.intro rfl h')) fun _ _ x => x))))
end
end DC
namespace DC
open PySem PySem.Spec PyProof.Rows L2 NL
section
variable {X : Cx} {rm : Nat}
def tDg2 (dk : DK X.prog X.w X.K rm) (wi : TI) (g : TG) (wi1 : TI) (g1 : TG) (tk tv : TE) (vs vs1 : List Nat) : TE := fun σ H Q => wi σ H fun J H1 => ∀ D, H1 D = none → ∃ W : Nat → Nat → Hp → Prop, (∃ m, W 0 m (upd H1 D (dk.o0 D))) ∧ ∀ i m H, W i m H →
  (J.stop i H ∧ Q (.ref D) H) ∨ (J.go i H ∧ ∃ Nx : Hp → Prop, (∀ H', Nx H' → ∃ m', m' < m ∧ W (i + 1) m' H') ∧ ∀ x H', J.yld i H x H' → g x (wipe σ vs) H' fun σ2 H2 => wipe σ2 vs = wipe σ vs ∧ wi1 σ2 H2 fun J1 H4 =>
    ∃ W1 : Nat → Nat → Hp → Prop, (∃ m, W1 0 m H4) ∧ ∀ j k H, W1 j k H → (J1.stop j H ∧ Nx H) ∨ (J1.go j H ∧ ∃ Nx1 : Hp → Prop, (∀ H', Nx1 H' → ∃ k', k' < k ∧ W1 (j + 1) k' H') ∧ ∀ x H', J1.yld j H x H' →
      g1 x (wipe σ2 vs1) H' fun σ3 H5 => wipe σ3 vs1 = wipe σ2 vs1 ∧ tk σ3 H5 fun y H6 => tv σ3 H6 fun z H7 => ∃ H8, dk.put D y z H7 H8 ∧ Nx1 H8))
theorem pe_dg2 (dk : DK X.prog X.w X.K rm) {kx vx t0 i0 t1 i1 : Expr} {scope : Scope} {own : List (Str × Nat)} {vs1 : List Nat} {pos : Pos} {wi wi1 : TI} {g g1 : TG} {tk tv : TE} (hu : X.A.units + rm < cLine) (hc : X.calm = true) (hN : X.N.Nodup) (hi : PI X t0 i0 wi)
    (ok : BlkOk X.N X.env.scope scope own) (hv : ∀ i ∈ vs1, i ∈ own.map (·.2))
    (hg : ∀ (s : Shared) (H : Hp) (C : Addr) (cl : List (Str × Addr)) (fp : List Addr), PG (X.blk s H scope (compEnvC scope cl C X.env) fp) t0 g)
    (hi1 : ∀ (s : Shared) (H : Hp) (C : Addr) (cl : List (Str × Addr)) (fp : List Addr), PI (X.blk s H scope (compEnvC scope cl C X.env) fp) t1 i1 wi1)
    (hg1 : ∀ (s : Shared) (H : Hp) (C : Addr) (cl : List (Str × Addr)) (fp : List Addr), PG (X.blk s H scope (compEnvC scope cl C X.env) fp) t1 g1)
    (hk : ∀ (s : Shared) (H : Hp) (C : Addr) (cl : List (Str × Addr)) (fp : List Addr), PE (X.blk s H scope (compEnvC scope cl C X.env) fp) kx tk)
    (he : ∀ (s : Shared) (H : Hp) (C : Addr) (cl : List (Str × Addr)) (fp : List Addr), PE (X.blk s H scope (compEnvC scope cl C X.env) fp) vx tv)
    (hs : ∀ x, foldedSetIterable i0 X.env x = pure x := by intro _; rfl) (hs1 : ∀ env x, foldedSetIterable i1 env x = pure x := by intro _ _; rfl) : PE X (two kx vx t0 i0 t1 i1 scope pos) (tDg2 dk wi g wi1 g1 tk tv (own.map (·.2)) vs1) := by
  refine ⟨fun pins s σ H Q I h => ?_⟩
  rw [arm_eval_DictComp]
  have seen : ∀ y ∈ scope.names, y.2 = .free → ∃ c, X.env.cells.lookup y.1 = some c := fun y hy e => (ok.free y hy e).elim (fun k => I.ok.has _ (.inl k)) fun k => I.ok.has _ (.inr k)
  refine wpAny_comprehension_free rfl hs (closure_ok seen) ok.kind (fun y hy e => (ok.uniq y hy).trans (by rw [e])) (thn (hi.run pins s σ H _ I h) fun xv s1 hx => thn hx fun itv s2 h2 => ?_)
  obtain ⟨it, fp, tn, J, H2, eit, I2, T, st2, f2, q⟩ := h2
  subst eit
  refine wpAny_newObj_type (newEnv_comp ?_)
  obtain ⟨D, hD⟩ : ∃ D, s2.heap.objs.size = D := ⟨_, rfl⟩
  rw [hD]
  have free2 : H2 D = none := I2.hok.fresh (Nat.le_of_eq hD)
  obtain ⟨W, ⟨m0, start⟩, turn⟩ := q D free2
  generalize hs3 : ({ s2 with heap := s2.heap.push { cls := .type "dict", data := .dict #[] } } : Shared) = s3
  have hp3 : s3.heap = s2.heap.push { cls := .type "dict", data := .dict #[] } := by rw [← hs3]
  have I3 : Inv X pins σ (upd H2 D (dk.o0 D)) s3 := by
    subst hs3
    subst hD
    exact I2.laid (t' := s2.toks) (fun _ _ z => Heap.get?_push_of_some _ z) (Nat.le_refl _) (dk.new s2.heap I2.big)
  have below : ∀ b ∈ fp, b < s2.heap.objs.size := fun b hb => let ⟨_, z, _⟩ := T.obj _ _ st2 b hb; Heap.lt_size z
  have f3 : ∀ b ∈ fp, FpOk X pins (upd H2 D (dk.o0 D)) b ∧ b < s3.heap.objs.size := fun b hb => by
    have lt := below b hb
    refine ⟨⟨(upd_ne (hD ▸ Nat.ne_of_lt lt)).trans (f2 b hb).1, (f2 b hb).2⟩, ?_⟩
    rw [hp3, Heap.size_push]
    exact Nat.lt_succ_of_lt lt
  have st3 : tn 0 s3.heap := T.keep _ _ _ st2 fun b _ o z => by rw [hp3]; exact Heap.get?_push_of_some _ z
  have I4 := block_start I3 ok hN f3
  show codeAny _ _ (.compStart _ 0 (.ref it) (.ref D) (compEnvC scope (cellsFrom (s3.heap.objs.size + 1) scope.names (cloFrom X.env.cells scope.names [])) s3.heap.objs.size X.env)) (compPost _ X.A X.xe _ _ (.ref D) s3.heap.objs.size)
    { s3 with heap := pushCells (s3.heap.push { cls := .type "dict", data := .dict #[] }) scope.names }
  obtain ⟨ce, hce⟩ : ∃ ce, compEnvC scope (cellsFrom (s3.heap.objs.size + 1) scope.names (cloFrom X.env.cells scope.names [])) s3.heap.objs.size X.env = ce := ⟨_, rfl⟩
  have pg : PG (X.blk s3 (upd H2 D (dk.o0 D)) scope ce fp) t0 g := hce ▸ hg ..
  have pi1 : PI (X.blk s3 (upd H2 D (dk.o0 D)) scope ce fp) t1 i1 wi1 := hce ▸ hi1 ..
  have pg1 : PG (X.blk s3 (upd H2 D (dk.o0 D)) scope ce fp) t1 g1 := hce ▸ hg1 ..
  have pk : PE (X.blk s3 (upd H2 D (dk.o0 D)) scope ce fp) kx tk := hce ▸ hk ..
  have pv : PE (X.blk s3 (upd H2 D (dk.o0 D)) scope ce fp) vx tv := hce ▸ he ..
  have cL : ce.locals = s3.heap.objs.size := by rw [← hce]; rfl
  have none3 : ∀ b ∈ fp, upd H2 D (dk.o0 D) b = none := fun b hb => (f3 b hb).1.1
  rw [hce] at I4 ⊢
  obtain ⟨H3, hH3⟩ : ∃ H3, upd H2 D (dk.o0 D) = H3 := ⟨_, rfl⟩
  rw [hH3] at I3 I4 pg pi1 pg1 pk pv start none3 f3
  generalize hs4 : ({ s3 with heap := pushCells (s3.heap.push { cls := .type "dict", data := .dict #[] }) scope.names } : Shared) = s4 at I4 ⊢
  have st4 : tn 0 s4.heap := T.keep _ _ _ st3 fun b _ o z => by rw [← hs4]; exact pushCells_keeps _ _ _ _ (Heap.get?_push_of_some _ z)
  have stays : ∀ {τ : L2.St} {G : Hp} {t : Shared}, Inv (X.blk s3 H3 scope ce fp) [] τ G t → (∀ b ∈ fp, G b = none) → ∀ b ∈ fp, FpOk (X.blk s3 H3 scope ce fp) [] G b := fun Iτ nn b hb =>
    ⟨nn b hb, (Iτ.ok.exf b hb).1, Iτ.ok.exfs b hb, .inl hb, (Iτ.ok.exf b hb).2, fun p hp => absurd (List.append_nil ([] : List (Addr × Obj)) ▸ hp) (fun z => nomatch z)⟩
  have loop : codeAny (model X.prog X.w) X.A (.compLoop (two kx vx t0 i0 t1 i1 scope pos) 0 (.ref it) (.ref D) ce) (compPost (model X.prog X.w) X.A X.xe none (EP X pins σ Q) (.ref D) s3.heap.objs.size) s4 := by
    refine out_loop (hs1 ce) (fun n t => ∃ i G, Inv (X.blk s3 H3 scope ce fp) [] (wipe σ (own.map (·.2))) G t ∧ tn i t.heap ∧ (∀ b ∈ fp, G b = none) ∧ W i n G) ?_ m0 ⟨0, H3, I4, st4, none3, start⟩
    rintro n s5 ⟨i, G, I5, st5, n5, w5⟩
    rcases turn i n G w5 with ⟨over, fine⟩ | ⟨more, Nx, hNx, step⟩
    · refine thnF (T.done (X.blk s3 H3 scope ce fp) rfl rfl rfl hc i [] s5 _ G (fun _ _ => False) I5 (stays I5 n5) st5 over) fun r s6 ⟨er, I6⟩ => ?_
      subst er
      have back : Inv X pins σ G s6 := I3.call' (ch := fp) I6.os I6.base I6.hok I6.bare fun b hb => let ⟨z1, _⟩ := f3 b hb; ⟨z1.2.2.2.1, z1.2.1, z1.2.2.2.2.1, z1.2.2.2.2.2⟩
      have gone : G s3.heap.objs.size = none := cL ▸ (I6.free : G ce.locals = none)
      obtain ⟨m, names, _⟩ := I6.loc
      have names : s6.heap.Ns s3.heap.objs.size m := cL ▸ (names : s6.heap.Ns ce.locals m)
      refine ⟨m, names, fun h'' sb => ?_⟩
      obtain ⟨g0, g1, g2, g3, g4, g5⟩ := I3.fpOk (Nat.le_refl _) gone
      exact ⟨.ref D, G, back.turned (t' := s6.toks) (fun b o hb e => (sb.2 b hb).trans e) g0 g1 g3 g4 g5, rfl, fine⟩
    · refine thnF (T.item (X.blk s3 H3 scope ce fp) rfl rfl rfl hc i [] s5 _ G (fun _ _ => False) I5 (stays I5 n5) st5 more) fun r s6 ⟨u, er, h6⟩ => ?_
      subst er
      refine thnF h6 fun _ s7 ⟨x, G7, I7, r7, y7, st7, n7⟩ => ?_
      refine thnF (pg.run _ s7 _ G7 x u _ (I7.pinned (stays I7 n7) (T.obj _ _ st7)) r7 (step x G7 y7)) fun _ s8 ⟨σ8, G8, I8, same8, q8⟩ => ?_
      -- back at the outer loop, from slots that know what it knew
      have next : ∀ {τ : L2.St} {t : Shared} {G' : Hp}, Inv (X.blk s3 H3 scope ce fp) ([] ++ pinsAt fp s7.heap) τ G' t → (wipe σ (own.map (·.2))).length = τ.length → (∀ (j : Nat) v, (wipe σ (own.map (·.2)))[j]? = some (some v) → τ[j]? = some (some v)) → Nx G' →
          ∃ m, m < n ∧ ∃ i G', Inv (X.blk s3 H3 scope ce fp) [] (wipe σ (own.map (·.2))) G' t ∧ tn i t.heap ∧ (∀ b ∈ fp, G' b = none) ∧ W i m G' := fun {τ t G'} It hl hk nx => by
        obtain ⟨m', less, w'⟩ := hNx G' nx
        have kept : ∀ b ∈ fp, ∀ o, s7.heap.get? b = some o → t.heap.get? b = some o ∧ G' b = none := fun b hb o e => by
          obtain ⟨z1, z2, _⟩ := It.pin (b, o) (List.mem_append_right _ (List.mem_append_right _ (mem_pinsAt hb e)))
          exact ⟨z1, z2⟩
        refine ⟨m', less, i + 1, G', (It.unpinned (pins := [])).weak hl hk, T.keep _ _ _ st7 fun b hb o e => (kept b hb o e).1, fun b hb => ?_, w'⟩
        obtain ⟨o, e, _⟩ := T.obj _ _ st7 b hb
        exact (kept b hb o e).2
      have same : (wipe σ (own.map (·.2))).length = (wipe σ8 vs1).length ∧ ∀ (j : Nat) v, (wipe σ (own.map (·.2)))[j]? = some (some v) → (wipe σ8 vs1)[j]? = some (some v) := by
        refine ⟨by rw [← same8, wipe_length, wipe_length], fun j v e => ?_⟩
        rw [← same8] at e
        obtain ⟨e1, e2⟩ := wipe_some e
        rw [wipe_out fun z => e2 (hv j z)]
        exact e1
      refine thnF (pi1.run _ s8 σ8 G8 _ I8 q8) fun xv s9 hx => thnF hx fun itv s10 h10 => ?_
      obtain ⟨it1, fp1, tn1, J1, G10, e10, I10, T1, st10, f10, W1, ⟨m1, w1⟩, turn1⟩ := h10
      subst e10
      have stays1 : ∀ {G' : Hp}, (∀ b ∈ fp1, G' b = none) → ∀ b ∈ fp1, FpOk (X.blk s3 H3 scope ce fp) ([] ++ pinsAt fp s7.heap) G' b := fun nn b hb => ⟨nn b hb, (f10 b hb).2⟩
      have inner : codeAny (model X.prog X.w) X.A (.compLoop (two kx vx t0 i0 t1 i1 scope pos) 1 (.ref it1) (.ref D) ce) (fun r s' => match r with
          | .ok _ => ∃ m, m < n ∧ ∃ i G', Inv (X.blk s3 H3 scope ce fp) [] (wipe σ (own.map (·.2))) G' s' ∧ tn i s'.heap ∧ (∀ b ∈ fp, G' b = none) ∧ W i m G'
          | .error _ => False) s10 := by
        refine in_loop (fun k t => ∃ j G', Inv (X.blk s3 H3 scope ce fp) ([] ++ pinsAt fp s7.heap) (wipe σ8 vs1) G' t ∧ tn1 j t.heap ∧ (∀ b ∈ fp1, G' b = none) ∧ W1 j k G') ?_ m1 ⟨0, G10, I10.weak (wipe_length _ _) (fun j v e => (wipe_some e).1), st10, fun b hb => (f10 b hb).1, w1⟩
        rintro k s11 ⟨j, G11, I11, st11, n11, w11⟩
        rcases turn1 j k G11 w11 with ⟨over1, nx⟩ | ⟨more1, Nx1, hNx1, step1⟩
        · refine thnF (T1.done (X.blk s3 H3 scope ce fp) rfl rfl rfl hc j _ s11 (wipe σ8 vs1) G11 (fun _ _ => False) I11 (stays1 n11) st11 over1) fun r s12 ⟨er, I12⟩ => ?_
          subst er
          exact next I12 same.1 same.2 nx
        · refine thnF (T1.item (X.blk s3 H3 scope ce fp) rfl rfl rfl hc j _ s11 (wipe σ8 vs1) G11 (fun _ _ => False) I11 (stays1 n11) st11 more1) fun r s12 ⟨u1, er, h12⟩ => ?_
          subst er
          refine thnF h12 fun _ s13 ⟨x1, G13, I13, r13, y13, st13, n13⟩ => ?_
          refine thnF (pg1.run _ s13 (wipe σ8 vs1) G13 x1 u1 _ (I13.pinned (stays1 n13) (T1.obj _ _ st13)) r13 (step1 x1 G13 y13)) fun _ s14 ⟨σ14, G14, I14, same14, q14⟩ => ?_
          refine thnF (pk.run _ s14 σ14 G14 _ I14 q14) fun uk s15 ⟨yk, G15, I15, r15, q15⟩ => thnF (pv.run _ s15 σ14 G15 _ I15 q15) fun uv s16 ⟨yv, G16, I16, r16, G17, hput, nx⟩ => ?_
          refine dk.set (X := X.blk s3 H3 scope ce fp) rfl rfl rfl hu I16 hput r15 r16 fun s17 I17 => ?_
          obtain ⟨k', less, w'⟩ := hNx1 G17 nx
          have kept : ∀ b ∈ fp1, ∀ o, s13.heap.get? b = some o → s17.heap.get? b = some o ∧ G17 b = none := fun b hb o e => by
            obtain ⟨z1, z2, _⟩ := I17.pin (b, o) (List.mem_append_right _ (List.mem_append_right _ (mem_pinsAt hb e)))
            exact ⟨z1, z2⟩
          refine ⟨k', less, j + 1, G17, I17.unpinned.weak (by rw [← same14, wipe_length]) (fun j v e => by rw [← same14] at e; exact (wipe_some e).1), T1.keep _ _ _ st13 fun b hb o e => (kept b hb o e).1, fun b hb => ?_, w'⟩
          obtain ⟨o, e, _⟩ := T1.obj _ _ st13 b hb
          exact (kept b hb o e).2
      exact in_start inner (T1.self X.A 0 _ _ _ st10 inner)
  exact codeAny_compStart_dict loop (T.self X.A 0 _ _ _ st4 loop)
end
end DC
namespace KW
open PySem PySem.Spec PyProof.Rows L2
/-- a short text of plain letters -/
def zB (z : Str) : Bool := decide (z.length ≤ 20) && z.cps.toList.all fun c => decide (c < 1000)
theorem paired_app {α β : Type} {R : α → β → Prop} : ∀ {l : List α} {m : List β} {x : α} {y : β}, Paired R l m → R x y → Paired R (l ++ [x]) (m ++ [y])
  | _, _, _, _, .nil, h => .cons h .nil
  | _, _, _, _, .cons a t, h => .cons a (paired_app t h)
end KW
namespace KW
open PySem PySem.Spec PyProof.Rows L2 KZ KS KP
/-! __init__: the new object's fields are set, all else stays -/
mutual
/-- no object of the class at C in it -/
def okS (C : Addr) : Wv → Bool
  | .ob D fs => decide (D ≠ C) && okSf C fs
  | .ls ws => okSs C ws
  | .dw _ ws => okSs C ws
  | .nw _ ws => okSs C ws
  | _ => true
def okSs (C : Addr) : List Wv → Bool
  | [] => true
  | w :: ws => okS C w && okSs C ws
def okSf (C : Addr) : List (Str × Wv) → Bool
  | [] => true
  | w :: ws => okS C w.2 && okSf C ws
end
def okO (C : Addr) : Option Wv → Bool
  | some x => okS C x
  | none => true
/-- the object at a, of the class at C, is changed: all else stays -/
def Si (C a : Addr) (H H' : Hp) : Prop := (∃ dx fs, H a = some (.ins C dx fs)) ∧ ∀ b o, H b = some o → b ≠ a → H' b = some o
section
variable {P : Program} {w : World} {K : PySem.W.Frag} {C a : Addr} {H H' : Hp}
theorem si_at (s : Si C a H H') {b : Addr} {u : HO} (hu : ∀ dx fs, u ≠ .ins C dx fs) (e : H b = some u) : H' b = some u := s.2 _ _ e fun z => by
  obtain ⟨dx, fs, e1⟩ := s.1
  rw [z, e1] at e
  exact hu dx fs (Option.some.inj e).symm
theorem si_rd (s : Si C a H H') {b : Addr} {u : HO} (hu : ∀ dx fs, u ≠ .ins C dx fs) : Rd H b u → Rd H' b u
  | .inl h => .inl (si_at s hu h)
  | .inr ⟨o, h⟩ => .inr ⟨o, si_at s (fun _ _ z => nomatch z) h⟩
theorem si_sql (s : Si C a H H') {b : Addr} {xs : List V} : SqL K H b xs → SqL K H' b xs
  | .inl h => .inl (si_rd s (fun _ _ z => nomatch z) h)
  | .inr h => .inr h
theorem si_sqt (s : Si C a H H') {b : Addr} {xs : List V} : SqT K H b xs → SqT K H' b xs
  | .inl h => .inl (si_rd s (fun _ _ z => nomatch z) h)
  | .inr h => .inr h
mutual
theorem dp_si (s : Si C a H H') : ∀ {v : V} {d : PyData}, Dp K H v d → Dp K H' v d
  | _, _, .non => .non
  | _, _, .bl b => .bl b
  | _, _, .int i => .int i
  | _, _, .str x => .str x
  | _, _, .lst h t => .lst (si_sql s h) (dpa_si s t)
  | _, _, .tup h t => .tup (si_sqt s h) (dpa_si s t)
theorem dpa_si (s : Si C a H H') : ∀ {v : List V} {d : List PyData}, DpAll K H v d → DpAll K H' v d
  | _, _, .nil => .nil
  | _, _, .cons h t => .cons (dp_si s h) (dpa_si s t)
end
theorem dn_si (s : Si C a H H') {b : Addr} {L : NL.LN} (h : NL.DN P w K H b L) : NL.DN P w K H' b L :=
  ⟨si_at s (fun _ _ z => nomatch z) h.ob, fun x hx => let ⟨d, h1, h2⟩ := h.ks x hx; ⟨d, dp_si s h1, h2⟩⟩
theorem si_ob (s : Si C a H H') {b D dx : Addr} {fs : List (Str × V)} {ws : List (Str × Wv)} (e : okS C (.ob D ws) = true) (h : H b = some (.ins D dx fs)) : H' b = some (.ins D dx fs) := si_at s (fun dx' fs' z => by
  have h1 := of_decide_eq_true (Bool.and_eq_true_iff.mp (show (decide (D ≠ C) && okSf C ws) = true from e)).1
  cases z
  exact h1 rfl) h
theorem ok_ob {D : Addr} {ws : List (Str × Wv)} (e : okS C (.ob D ws) = true) : okSf C ws = true := (Bool.and_eq_true_iff.mp (show (decide (D ≠ C) && okSf C ws) = true from e)).2
theorem ok_ls {ws : List Wv} (e : okS C (.ls ws) = true) : okSs C ws = true := e
theorem ok_h {x : Wv} {ws : List Wv} (e : okSs C (x :: ws) = true) : okS C x = true ∧ okSs C ws = true := Bool.and_eq_true_iff.mp e
theorem ok_f {n : Str} {x : Wv} {ws : List (Str × Wv)} (e : okSf C ((n, x) :: ws) = true) : okS C x = true ∧ okSf C ws = true := Bool.and_eq_true_iff.mp e
theorem si_te (s : Si C a H H') {b : Addr} {vs : List V} (h : H b = some (NL.TupE b vs)) : H' b = some (NL.TupE b vs) := si_at s (fun _ _ z => nomatch z) h
theorem si_dk (s : Si C a H H') {b : Addr} {kvs : List (L2.Key × V)} (h : H b = some (.dK kvs)) : H' b = some (.dK kvs) := si_at s (fun _ _ z => nomatch z) h
theorem si_hl (s : Si C a H H') {b : Addr} {vs : List V} (h : Rd H b (.lst vs)) : Rd H' b (.lst vs) := si_rd s (fun _ _ z => nomatch z) h
theorem rw_si (s : Si C a H H') {v : V} {x : Wv} (h : RW P w K H v x) : okS C x = true → RW P w K H' v x := by
  refine RW.rec (P := P) (w := w) (K := K) (H := H) (motive_1 := fun v x _ => okS C x = true → RW P w K H' v x) (motive_2 := fun v x _ => okSs C x = true → RWs P w K H' v x) (motive_3 := fun v x _ => okSf C x = true → RWf P w K H' v x)
    ?_ ?_ ?_ ?_ ?_ ?_ ?_ ?_ ?_ ?_ ?_ ?_ ?_ h
  · exact fun h _ => .d (dp_si s h)
  · exact fun h t _ => .te (si_te s h) (dpa_si s t)
  · exact fun h t _ => .dk (si_dk s h) (Paired.imp t fun _ _ z => ⟨z.1, dp_si s z.2⟩)
  · exact fun h t _ => .dn (dn_si s h) (Paired.imp t fun _ _ z => ⟨z.1, dp_si s z.2⟩)
  · exact fun h t _ => .hl (si_hl s h) (dpa_si s t)
  · exact fun h _ ih e => .ls (si_sql s h) (ih (ok_ls e))
  · exact fun h _ ih e => .ob (si_ob s e h) (ih (ok_ob e))
  · exact fun h e2 _ ih e => .dw (si_dk s h) e2 (ih e)
  · exact fun h e2 _ ih e => .nw (dn_si s h) e2 (ih e)
  · exact fun _ => .nil
  · exact fun _ _ i1 i2 e => .cons (i1 (ok_h e).1) (i2 (ok_h e).2)
  · exact fun _ => .nil
  · exact fun _ _ i1 i2 e => .cons (i1 (ok_f e).1) (i2 (ok_f e).2)
theorem rwf_si (s : Si C a H H') : ∀ {vs : List (Str × V)} {ws : List (Str × Wv)}, RWf P w K H vs ws → okSf C ws = true → RWf P w K H' vs ws
  | _, _, .nil, _ => .nil
  | _, _, .cons h t, e => .cons (rw_si s h (ok_f e).1) (rwf_si s t (ok_f e).2)
end
def putW (f : Str) (x : Wv) : List (Str × Wv) → List (Str × Wv)
  | [] => [(f, x)]
  | (g, y) :: r => if g = f then (g, x) :: r else (g, y) :: putW f x r
theorem rwf_put {P : Program} {w : World} {K : PySem.W.Frag} {H : Hp} {f : Str} {v : V} {x : Wv} (r : RW P w K H v x) : ∀ {vs : List (Str × V)} {ws : List (Str × Wv)}, RWf P w K H vs ws → RWf P w K H (putF f v vs) (putW f x ws)
  | _, _, .nil => .cons r .nil
  | _, _, @RWf.cons _ _ _ _ n v' vs x' ws h t => by
    unfold putF putW
    by_cases hn : n = f
    · rw [if_pos hn, if_pos hn]
      exact .cons r t
    · rw [if_neg hn, if_neg hn]
      exact .cons h (rwf_put r t)
theorem rwf_len {P : Program} {w : World} {K : PySem.W.Frag} {H : Hp} : ∀ {vs : List (Str × V)} {ws : List (Str × Wv)}, RWf P w K H vs ws → vs.length = ws.length
  | _, _, .nil => rfl
  | _, _, .cons _ t => congrArg (· + 1) (rwf_len t)
end KW
namespace KW
open PySem PySem.Spec PyProof.Rows L2 KZ KS KP
/-! the body of an __init__: self stands in slot 0 -/
abbrev NF_ := EV → Option EV
/-- all but the object at a stays -/
def But (a : Addr) (H H' : Hp) : Prop := ∀ b o, H b = some o → b ≠ a → H' b = some o
theorem But.of {a : Addr} {H H' : Hp} (s : Sm H H') : But a H H' := fun b o e _ => s b o e
theorem But.trans {a : Addr} {H H1 H2 : Hp} (s : But a H H1) (t : But a H1 H2) : But a H H2 := fun b o e n => t b o (s b o e n) n
def tWN (P : Program) (w : World) (K : PySem.W.Frag) (g : NF_) : TS := fun D σ H => ∃ a ε ε', σ[0]? = some (some (.ref a)) ∧ ER P w K H σ ε ∧ g ε = some ε' ∧ ∀ σ' H', But a H H' → σ'[0]? = some (some (.ref a)) → ER P w K H' σ' ε' → D.nx σ' H'
abbrev WN (X : Cx) (st : Stmt) (g : NF_) : Prop := PS X st (tWN X.prog X.w X.K g)
abbrev WNs (X : Cx) (st : List Stmt) (g : NF_) : Prop := PSs X st (tWN X.prog X.w X.K g)
section
variable {X : Cx}
def nilN : NF_ := fun ε => some ε
def seqN (f g : NF_) : NF_ := fun ε => (f ε).bind g
theorem wns_cons {st : Stmt} {rest : List Stmt} {f g : NF_} (h : WN X st f) (t : WNs X rest g) : WNs X (st :: rest) (seqN f g) := PSs.wk (pss_cons h t) fun D σ H ⟨a, ε, ε', z, E, e, q⟩ => by
  obtain ⟨x, e1, e2⟩ := Option.bind_eq_some_iff.mp (show (f ε).bind g = some ε' from e)
  exact ⟨a, ε, x, z, E, e1, fun σ1 H1 s1 z1 E1 => ⟨a, x, ε', z1, E1, e2, fun σ2 H2 s2 z2 E2 => q σ2 H2 (s1.trans s2) z2 E2⟩⟩
theorem wns_one {st : Stmt} {f : NF_} (h : WN X st f) : WNs X [st] f := pss_one h
def setN (i : Nat) (f : EF) : NF_ := fun ε => (f ε).map fun x => ε.set i (some x)
/-- if .. : what never runs -/
def ifN (t : EV → Option Bool) : NF_ := fun ε => (t ε).bind fun b => if b = true then none else some ε
theorem wn_if {c : Expr} {a : List Stmt} {pos : Pos} {t : EV → Option Bool} (hc : WT X c t) (ha : WSs X a (fun _ => none)) : WN X (.If c a [] pos) (ifN t) := PS.wk (ps_if hc ha pss_nil) fun D σ H ⟨a, ε, ε', z, E, e, q⟩ => by
  obtain ⟨b, e1, e2⟩ := Option.bind_eq_some_iff.mp (show (t ε).bind _ = some ε' from e)
  cases b
  · cases e2
    exact ⟨ε, false, E, e1, fun H1 s1 => q σ H1 (But.of s1) z (E.sm s1)⟩
  · cases e2
/-- self.f = e -/
def fldN (C : Addr) (fl : Str) (f : EF) : NF_ := fun ε => match ε with
  | some (.ob D fs) :: rest => if D = C ∧ fs.length < 1000 ∧ rest.all (okO C) = true ∧ okSf C fs = true then (f (some (.ob D fs) :: rest)).bind fun x => if okS C x = true then some (some (.ob C (putW fl x fs)) :: rest) else none else none
  | _ => none
theorem wn_fld {n : Str} {p pos pos' : Pos} {fl : Str} {e : Expr} {f : EF} {C : Addr} (hN : X.N[0]? = some n) (hv : Vis X.env.scope n) (c : Cls X.K C) (na : NoAttr X.K C fl) (he : WE X e f) (hs : swapsWith e (some (.Attribute (.Name n p) fl pos')) pos.line X.env = pure false)
    (hd : (n == ("__debug__" : Str)) = false := by decide) (hcd : (n == ("__classdict__" : Str)) = false := by decide) : WN X (.Assign [.Attribute (.Name n p) fl pos'] e pos) (fldN C fl f) :=
  PS.wk (ps_fld (pe_var (i := 0) hN hv hd hcd) he hs) fun D σ H ⟨a, ε, ε', z, E, e, q⟩ => by
    unfold fldN at e
    split at e
    · rename_i D' fs rest
      by_cases hc : D' = C ∧ fs.length < 1000 ∧ rest.all (okO C) = true ∧ okSf C fs = true
      · rw [if_pos hc] at e
        obtain ⟨rfl, h1, h2, h3⟩ := hc
        obtain ⟨x, e1, e2⟩ := Option.bind_eq_some_iff.mp e
        by_cases hx : okS D' x = true
        · rw [if_pos hx] at e2
          cases e2
          refine ⟨_, x, E, e1, fun v H1 s1 r1 => ?_⟩
          have E1 := E.sm s1
          obtain ⟨v0, z0, r0⟩ := E1.at_ 0 _ rfl
          rw [z] at z0
          cases z0
          cases r0 with
          | @ob _ _ dx vs _ g1 t1 =>
            refine ⟨.ref a, z, a, D', dx, vs, rfl, g1, c, na, by rw [rwf_len t1]; exact h1, ?_⟩
            have si : Si D' a H1 (upd H1 a (.ins D' dx (putF fl v vs))) := ⟨⟨dx, vs, g1⟩, fun b o e n => by rw [upd_ne n]; exact e⟩
            refine q σ _ (fun b o e n => by rw [upd_ne n]; exact s1 b o e) z ⟨E.len, fun i y hy => ?_⟩
            cases i with
            | zero =>
              cases hy
              exact ⟨_, z, .ob upd_same (rwf_put (rw_si si r1 hx) (rwf_si si t1 h3))⟩
            | succ i =>
              obtain ⟨v2, z2, r2⟩ := E1.at_ (i + 1) y hy
              have : okO D' (some y) = true := List.all_eq_true.mp h2 _ (List.mem_of_getElem? (show rest[i]? = some (some y) from hy))
              exact ⟨v2, z2, rw_si si r2 this⟩
        · rw [if_neg hx] at e2
          cases e2
      · rw [if_neg hc] at e
        cases e
    · cases e
end
end KW
namespace KW
open PySem PySem.Spec PyProof.Rows L2 KZ KS KP
/-! C(..), its own __init__ telling the fields -/
def spInit (P : Program) (w : World) (K : PySem.W.Frag) (C : Addr) (n : Nat) (sem : List Wv → Option (List (Str × Wv))) : Sp := fun vs H Q _ => ∃ a dx us ws fs, vs = .ref a :: us ∧ us.length = n ∧ H a = some (.ins C dx []) ∧ RWs P w K H us ws ∧ okSs C ws = true ∧ sem ws = some fs ∧
  ∀ H', But a H H' → RW P w K H' (.ref a) (.ob C fs) → Q .non H'
/-- what stands of such a class -/
def Pi_ (P : Program) (w : World) (K : PySem.W.Frag) (mg : Str → Option Value) (base : Heap) (k : Nat) (x : Str) (C : Addr) (n : Nat) (sem : List Wv → Option (List (Str × Wv))) : Prop :=
  ∃ f fd ps, Mk K C f ∧ FnOk P w K mg base CX0 k f fd ps (spInit P w K C n sem) ∧ mg x = some (.ref C) ∧ L2.Binds K fd ps []
def semN (N : List Str) (C : Addr) (g : NF_) (ws : List Wv) : Option (List (Str × Wv)) := (g (some (.ob C []) :: (ws.map some ++ List.replicate (N.length - ws.length - 1) none))).bind fun ε => match ε with
  | some (.ob D fs) :: _ => if D = C then some fs else none
  | _ => none
section
variable {P : Program} {w : World} {K : PySem.W.Frag} {mg : Str → Option Value} {base : Heap}
theorem okN {x qual : Str} {params : Arguments} {body : List Stmt} {scope : Scope} {f : Addr} {fd : FuncData} {N ps : List Str} {k n : Nat} {C : Addr} {sem : List Wv → Option (List (Str × Wv))} (F : FunD K x qual params body scope [] [] f fd) (S : FnScope N ps scope) (hn : ps.length = n + 1)
    (hb : ∀ (cdv : Value) (A : Around) (outer : List Env) (s : Shared) (H : Hp) (E : XK), Room k (A.deeper (envOfC qual scope s.heap.objs.size f cdv)) → ∃ g, WNs (cxOf CX0 P w K mg base N qual scope f cdv A outer s H E) body g ∧ ∀ ws, ws.length = n → okSs C ws = true → ∀ r, sem ws = some r → semN N C g ws = some r) :
    FnOk P w K mg base CX0 (k + 1) f fd ps (spInit P w K C n sem) := by
  refine F.ok S (fun vs H Q E ⟨a, dx, us, ws, fs, hv, hl, _⟩ => by rw [hv, List.length_cons, hl, hn]) (fun cdv A outer s H vs Q E hr h => ?_)
  obtain ⟨a, dx, us, ws, fs, rfl, hl, ha, hw, ho, e, q⟩ := h
  obtain ⟨g, hg, hs⟩ := hb cdv A outer s H E hr
  obtain ⟨ε', e1, e2⟩ := Option.bind_eq_some_iff.mp (hs ws (by rw [← hw.len, hl]) ho fs e)
  have E0' : ER P w K H (L2.start N (.ref a :: us)) (some (.ob C []) :: (ws.map some ++ List.replicate (N.length - ws.length - 1) none)) := by
    have := er_start (N := N) (RWs.cons (RW.ob (C := C) ha .nil) hw)
    rw [List.map_cons, List.cons_append, List.length_cons] at this
    exact this
  refine ⟨_, hg, a, _, ε', rfl, E0', e1, fun σ' H' bt z E' => ?_⟩
  split at e2
  · rename_i D fs' rest
    by_cases hD : D = C
    · rw [if_pos hD] at e2
      cases e2
      subst hD
      obtain ⟨v, z1, r1⟩ := E'.at_ 0 _ rfl
      rw [z] at z1
      cases z1
      exact q H' bt r1
    · rw [if_neg hD] at e2
      cases e2
  · cases e2
end
end KW
namespace KW
open PySem PySem.Spec PyProof.Rows L2 KZ KS KP
/-- the parts of a temper -/
theorem hu9 {k : Nat} {A : Around} (hr : Room k A) : A.units + 9 < cLine := by have := hr.un; omega
/-! _turned -/
theorem seq_at {f g : NF_} {ε ε1 ε2 : EV} (h : f ε = some ε1) (t : g ε1 = some ε2) : seqN f g ε = some ε2 := by
  unfold seqN
  rw [h]
  exact t
theorem fld_at {C : Addr} {fl : Str} {f : EF} {fs : List (Str × Wv)} {rest : EV} {x : Wv} (h1 : fs.length < 1000) (h2 : rest.all (okO C) = true) (h3 : okSf C fs = true) (h4 : f (some (.ob C fs) :: rest) = some x) (h5 : okS C x = true) :
    fldN C fl f (some (.ob C fs) :: rest) = some (some (.ob C (putW fl x fs)) :: rest) := by
  show (if C = C ∧ fs.length < 1000 ∧ rest.all (okO C) = true ∧ okSf C fs = true then (f (some (.ob C fs) :: rest)).bind fun x => if okS C x = true then some (some (.ob C (putW fl x fs)) :: rest) else none else none) = _
  rw [if_pos ⟨rfl, h1, h2, h3⟩, h4, Option.bind_some, if_pos h5]
theorem fld_to {C : Addr} {fl : Str} {f : EF} {fs fs' : List (Str × Wv)} {rest : EV} {x : Wv} (h1 : fs.length < 1000) (h2 : rest.all (okO C) = true) (h3 : okSf C fs = true) (h4 : f (some (.ob C fs) :: rest) = some x) (h5 : okS C x = true) (hp : putW fl x fs = fs') :
    fldN C fl f (some (.ob C fs) :: rest) = some (some (.ob C fs') :: rest) := by
  rw [fld_at h1 h2 h3 h4 h5, hp]
theorem ifN_at {t : EV → Option Bool} {ε : EV} (h : t ε = some false) : ifN t ε = some ε := by
  unfold ifN
  rw [h]
  rfl
theorem blt_at {g : AF} {o : List Wv → Option Wv} {ε : EV} {ws : List Wv} {r : Wv} (h : g ε = some ws) (h2 : o ws = some r) : bltF g o ε = some r := by
  unfold bltF
  rw [h]
  exact h2
theorem one_at {f : EF} {ε : EV} {x : Wv} (h : f ε = some x) : consF f nilF ε = some [x] := by
  unfold consF nilF
  rw [h]
  rfl
end KW
namespace KW
open PySem PySem.Spec PyProof.Rows L2 KZ KS KP DC
/-! {check: group for group, checks in groups for check in checks} -/
/-- keys that are ints or texts -/
def dkT (P : Program) (w : World) (K : PySem.W.Frag) : NL.DK P w K 0 where
  o0 := fun _ => .dK []
  put := fun D y z H H' => ∃ kvs k, y = kV k ∧ H D = some (.dK kvs) ∧ kvs.length < sizeLine ∧ H' = upd H D (.dK (putK kvs k z))
  new := fun h hb => dk_empty h hb
  set := by
    intro X pins σ H H' s E D y z u r Q e1 e2 e3 hu I hp ry rz h
    subst e1 e2 e3
    obtain ⟨kvs, k, rfl, hD, hl, rfl⟩ := hp
    exact d_dictSet I hD hl ry rz h
/-- a shop's groups, by names -/
abbrev Gn := List (Str × List Str)
def gD (p : Str × List Str) : PyData := .tuple [.str p.1, .tuple (p.2.map .str)]
def homesN (gs : Gn) : List (L2.Key × PyData) := gs.flatMap fun p => p.2.map fun c => (Sum.inr c, .str p.1)
theorem putK_new {kvs : List (L2.Key × V)} {k : L2.Key} {v : V} (h : k ∉ kvs.map (·.1)) : putK kvs k v = kvs ++ [(k, v)] := by
  unfold putK
  rw [if_neg]
  intro z
  obtain ⟨x, hx, hk⟩ := List.any_eq_true.mp z
  exact h (List.mem_map.mpr ⟨x, hx, of_decide_eq_true hk⟩)
/-- the dict at D is written: all else stays -/
def Sd (D : Addr) (H H' : Hp) : Prop := (∃ kvs, H D = some (.dK kvs)) ∧ ∀ b o, H b = some o → b ≠ D → H' b = some o
theorem sd_sqt {K : PySem.W.Frag} {D : Addr} {H H' : Hp} (s : Sd D H H') {a : Addr} {xs : List V} : SqT K H a xs → SqT K H' a xs
  | .inl (.inl h) => .inl (.inl (s.2 _ _ h fun z => by
      obtain ⟨kvs, e⟩ := s.1
      rw [z, e] at h
      cases h))
  | .inl (.inr ⟨o, h⟩) => .inl (.inr ⟨o, s.2 _ _ h fun z => by
      obtain ⟨kvs, e⟩ := s.1
      rw [z, e] at h
      cases h⟩)
  | .inr h => .inr h
theorem dpa_strs {K : PySem.W.Frag} {H : Hp} : ∀ {cs : List Str} {vs : List V}, DpAll K H vs (cs.map .str) → vs = cs.map V.str
  | [], _, .nil => rfl
  | c :: cs, _, .cons h t => by
    cases h
    rw [dpa_strs t]
    rfl
theorem pk_keys {K : PySem.W.Frag} {H : Hp} : ∀ {L : List (L2.Key × V)} {ds : List (L2.Key × PyData)}, Paired (fun p q => p.1 = q.1 ∧ Dp K H p.2 q.2) L ds → L.map (·.1) = ds.map (·.1)
  | _, _, .nil => rfl
  | _, _, .cons h t => by rw [List.map_cons, List.map_cons, h.1, pk_keys t]
/-- a value is a text, in whatever heap -/
theorem vals_str {K : PySem.W.Frag} {H H' : Hp} : ∀ {L : List (L2.Key × V)} {ds : List (L2.Key × PyData)}, (∀ q ∈ ds, ∃ z, q.2 = .str z) → Paired (fun p q => p.1 = q.1 ∧ Dp K H p.2 q.2) L ds → Paired (fun p q => p.1 = q.1 ∧ Dp K H' p.2 q.2) L ds
  | _, _, _, .nil => .nil
  | _, q :: _, hh, .cons h t => by
    obtain ⟨z, hz⟩ := hh q (List.mem_cons_self ..)
    refine .cons ⟨h.1, ?_⟩ (vals_str (fun q hq => hh q (List.mem_cons_of_mem _ hq)) t)
    have h2 := h.2
    rw [hz] at h2 ⊢
    have key : ∀ v, Dp K H v (.str z) → Dp K H' v (.str z) := fun v h => by
      cases h
      exact .str z
    exact key _ h2
section
variable {X : Cx}
theorem thomes {gs : Gn} {vs : List Nat} {fi : EF} {σ : L2.St} {H : Hp} {Q : VK} {ε : EV} (E : ER X.prog X.w X.K H σ ε) (e : fi ε = some (.d (.tuple (gs.map gD)))) (hl : 4 < ε.length) (nd : ((homesN gs).map (·.1)).Nodup) (hz : (homesN gs).length ≤ 1000)
    (q : ∀ v H', Sm H H' → RW X.prog X.w X.K H' v (.dk (homesN gs)) → Q v H') :
    tDg2 (dkT X.prog X.w X.K) (iTup X.K (tW X.prog X.w X.K fi)) (tgG X.K (.many [2, 3])) (iTup X.K (tW X.prog X.w X.K (vF 3))) (tgG X.K (.one 4)) (tW X.prog X.w X.K (vF 4)) (tW X.prog X.w X.K (vF 2)) [2, 3, 4] [4] σ H Q := by
  refine ⟨ε, _, E, e, fun v H1 s1 r1 => ?_⟩
  cases rw_d r1 with
  | @tup a xs _ h1 t1 =>
    have hw := rws_ofD (P := X.prog) (w := X.w) t1
    refine ⟨a, rfl, ⟨xs, h1⟩, fun D nD => lp_tup (K := X.K) (a := a) (xs := xs)
      (fun k H' => ∃ kvs, H' D = some (.dK kvs) ∧ Paired (fun p q => p.1 = q.1 ∧ Dp X.K H' p.2 q.2) kvs (homesN (gs.take k)) ∧ Sm H1 H') ⟨[], upd_same, .nil, upd_sm nD⟩ (fun i H' _ ⟨_, _, _, s⟩ => sqt_sm s h1) ?_ ?_⟩
    · rintro k x H2 hx ⟨kvs, hD, hp, s2⟩
      obtain ⟨wx, hwx, rx⟩ := dpa_get hw k x hx
      rw [List.map_map, List.getElem?_map] at hwx
      obtain ⟨p, hpk, rfl⟩ := Option.map_eq_some_iff.mp hwx
      have tk : homesN (gs.take (k + 1)) = homesN (gs.take k) ++ p.2.map fun c => (Sum.inr c, .str p.1) := by
        rw [List.take_succ, hpk]
        unfold homesN
        rw [List.flatMap_append]
        simp
      have tot : ∃ rest, homesN gs = (homesN (gs.take k) ++ p.2.map fun c => (Sum.inr c, .str p.1)) ++ rest := by
        refine ⟨homesN (gs.drop (k + 1)), ?_⟩
        rw [← tk]
        unfold homesN
        rw [← List.flatMap_append, List.take_append_drop]
      obtain ⟨rest, tot⟩ := tot
      have str : ∀ q ∈ homesN gs, ∃ z, q.2 = PyData.str z := fun q hq => by
        obtain ⟨p', _, hq⟩ := List.mem_flatMap.mp hq
        obtain ⟨c, _, rfl⟩ := List.mem_map.mp hq
        exact ⟨_, rfl⟩
      obtain ⟨e0, e1, e2, e3, e4, er, rfl⟩ : ∃ e0 e1 e2 e3 e4 er, ε = e0 :: e1 :: e2 :: e3 :: e4 :: er := by
        match ε, hl with
        | e0 :: e1 :: e2 :: e3 :: e4 :: er, _ => exact ⟨_, _, _, _, _, _, rfl⟩
      have hw3 : ∀ y z, vF 3 (setE [2, 3] [y, z] (wipeE [2, 3, 4] (e0 :: e1 :: e2 :: e3 :: e4 :: er))) = some z ∧ vF 2 (setE [2, 3] [y, z] (wipeE [2, 3, 4] (e0 :: e1 :: e2 :: e3 :: e4 :: er))) = some y := fun y z => ⟨rfl, rfl⟩
      refine tgt_of2 (er_wipe (E.sm s1) [2, 3, 4]) rx s2 rfl fun us E2 => ⟨wipe_stB (by decide), _, _, E2.sm s2, (hw3 _ _).1, fun v4 H4 s4 r4 => ?_⟩
      cases rw_d r4 with
      | @tup a1 xs1 _ h4 t4 =>
        have hxs := dpa_strs t4
        subst hxs
        have hD4 := s4 _ _ hD
        refine ⟨a1, rfl, ⟨_, h4⟩, lp_tup (K := X.K) (a := a1) (xs := p.2.map V.str)
          (fun j H' => ∃ kvs, H' D = some (.dK kvs) ∧ Paired (fun p q => p.1 = q.1 ∧ Dp X.K H' p.2 q.2) kvs (homesN (gs.take k) ++ (p.2.take j).map fun c => (Sum.inr c, .str p.1)) ∧ Sm H1 H' ∧ ∀ b o, H4 b = some o → b ≠ D → H' b = some o)
          ⟨kvs, hD4, by rw [List.take_zero, List.map_nil, List.append_nil]; exact Paired.imp hp fun _ _ z => ⟨z.1, dp_sm s4 z.2⟩, s2.trans s4, fun _ _ e _ => e⟩ (fun i H' _ ⟨_, _, _, _, z⟩ => sd_sqt ⟨⟨_, hD4⟩, z⟩ h4) ?_ ?_⟩
        · rintro j x1 H5 hx1 ⟨kvs5, hD5, hp5, s5, b5⟩
          rw [List.getElem?_map] at hx1
          obtain ⟨c, hc, rfl⟩ := Option.map_eq_some_iff.mp hx1
          refine tgt_of (er_wipe (E2.sm s5) [4]) (RW.d (Dp.str c)) rfl fun us1 E5 => ⟨wipe_stB (by decide), _, .d (.str c), E5, ?_, fun y H6 s6 r6 => ⟨_, .d (.str p.1), E5.sm s6, ?_, fun z H7 s7 r7 => ?_⟩⟩
          · rfl
          · rfl
          · have hy := rw_d r6
            cases hy
            have hD7 := s7 _ _ (s6 _ _ hD5)
            have s57 := s6.trans s7
            have tj : (p.2.take (j + 1)).map (fun c => ((Sum.inr c : L2.Key), PyData.str p.1)) = (p.2.take j).map (fun c => ((Sum.inr c : L2.Key), PyData.str p.1)) ++ [(Sum.inr c, .str p.1)] := by
              rw [List.take_succ, hc]
              simp
            have keys := pk_keys hp5
            have hlen : (homesN (gs.take k) ++ (p.2.take j).map (fun c => ((Sum.inr c : L2.Key), PyData.str p.1))).length ≤ 1000 := by
              have h1 := congrArg List.length tot
              have h2 := List.length_take_le' j p.2
              simp only [List.length_append, List.length_map] at h1 ⊢
              omega
            have hkl : kvs5.length ≤ 1000 := by
              have := congrArg List.length keys
              rw [List.length_map, List.length_map] at this
              omega
            have fresh : (Sum.inr c : L2.Key) ∉ kvs5.map (·.1) := by
              rw [keys]
              intro hm
              have nd2 : ((homesN (gs.take k) ++ (p.2.take (j + 1)).map (fun c => ((Sum.inr c : L2.Key), PyData.str p.1))).map (·.1)).Nodup := by
                rw [tot] at nd
                refine nd.sublist (List.Sublist.map _ ?_)
                rw [List.append_assoc]
                refine List.Sublist.append_left ?_ _
                exact (List.Sublist.map _ (List.take_sublist _ _)).trans (List.sublist_append_left _ _)
              rw [tj, ← List.append_assoc, List.map_append, List.nodup_append] at nd2
              exact nd2.2.2 _ hm _ (by simp) rfl
            refine ⟨_, ⟨kvs5, Sum.inr c, rfl, hD7, by rw [sizeLine_eq]; omega, rfl⟩, ?_⟩
            rw [putK_new fresh]
            refine ⟨_, upd_same, ?_, fun b o e => ?_, fun b o e n => ?_⟩
            · rw [tj, ← List.append_assoc]
              refine paired_app ?_ ⟨rfl, ?_⟩
              · refine vals_str (fun q hq => str q ?_) hp5
                rw [tot]
                refine List.mem_append_left _ ?_
                rcases List.mem_append.mp hq with hq | hq
                · exact List.mem_append_left _ hq
                · refine List.mem_append_right _ ?_
                  obtain ⟨c', h1, h2⟩ := List.mem_map.mp hq
                  exact List.mem_map.mpr ⟨c', List.mem_of_mem_take h1, h2⟩
              · have key : ∀ v H', RW X.prog X.w X.K H7 v (.d (.str p.1)) → Dp X.K H' v (.str p.1) := fun v H' h => by
                  have := rw_d h
                  cases this
                  exact .str _
                exact key z _ r7
            · rw [upd_ne (ne_of_none e nD)]
              exact s57 _ _ (s5 _ _ e)
            · rw [upd_ne n]
              exact s57 _ _ (b5 _ _ e n)
        · rintro H' ⟨kvs5, hD5, hp5, s5, b5⟩
          rw [List.length_map, List.take_length, ← tk] at hp5
          exact ⟨kvs5, hD5, hp5, s5⟩
    · rintro H' ⟨kvs, hD, hp, s2⟩
      have : gs.take xs.length = gs := by
        rw [List.take_of_length_le]
        have := dpa_len t1
        rw [List.length_map] at this
        omega
      rw [this] at hp
      exact q _ _ (s1.trans s2) (.dk hD hp)
end
end KW
namespace KW
open PySem PySem.Spec PyProof.Rows L2 KZ KS KP DC
/-! lists of texts -/
def strsOf : List PyData → Option (List Str)
  | [] => some []
  | .str z :: ds => (strsOf ds).map (z :: ·)
  | _ :: _ => none
theorem strsOf_map : ∀ {ds : List PyData} {zs : List Str}, strsOf ds = some zs → ds = zs.map .str
  | [], zs, e => by cases e; rfl
  | .str z :: ds, zs, e => by
    obtain ⟨l, e1, rfl⟩ := Option.map_eq_some_iff.mp (show (strsOf ds).map (z :: ·) = some zs from e)
    rw [strsOf_map e1]
    rfl
theorem strsOf_of : ∀ zs : List Str, strsOf (zs.map .str) = some zs
  | [] => rfl
  | z :: zs => by
    show (strsOf (zs.map .str)).map (z :: ·) = _
    rw [strsOf_of zs]
    rfl
def gnOf : List PyData → Option Gn
  | [] => some []
  | .tuple [.str g, .tuple cs] :: ds => (strsOf cs).bind fun zs => (gnOf ds).map ((g, zs) :: ·)
  | _ :: _ => none
theorem gnOf_map : ∀ {ds : List PyData} {gs : Gn}, gnOf ds = some gs → ds = gs.map gD
  | [], gs, e => by cases e; rfl
  | .tuple [.str g, .tuple cs] :: ds, gs, e => by
    obtain ⟨zs, e1, e2⟩ := Option.bind_eq_some_iff.mp (show (strsOf cs).bind _ = some gs from e)
    obtain ⟨l, e3, rfl⟩ := Option.map_eq_some_iff.mp e2
    rw [gnOf_map e3, strsOf_map e1]
    rfl
def homesF (f : EF) : EF := fun ε => (f ε).bind fun x => match x with
  | .d (.tuple ds) => (gnOf ds).bind fun gs => if 4 < ε.length ∧ ((homesN gs).map (·.1)).Nodup ∧ (homesN gs).length ≤ 1000 then some (.dk (homesN gs)) else none
  | _ => none
section
variable {X : Cx}
theorem we_homes {kx vx t0 i0 t1 i1 : Expr} {scope : Scope} {own : List (Str × Nat)} {pos : Pos} {f : EF} (hu : X.A.units + 0 < cLine) (hc : X.calm = true) (hN : X.N.Nodup) (hi : WE X i0 f) (ok : BlkOk X.N X.env.scope scope own) (ho : own.map (·.2) = [2, 3, 4])
    (hg : ∀ (s : Shared) (H : Hp) (C : Addr) (cl : List (Str × Addr)) (fp : List Addr), PG (X.blk s H scope (compEnvC scope cl C X.env) fp) t0 (tgG X.K (.many [2, 3])))
    (hi1 : ∀ (s : Shared) (H : Hp) (C : Addr) (cl : List (Str × Addr)) (fp : List Addr), WE (X.blk s H scope (compEnvC scope cl C X.env) fp) i1 (vF 3))
    (hg1 : ∀ (s : Shared) (H : Hp) (C : Addr) (cl : List (Str × Addr)) (fp : List Addr), PG (X.blk s H scope (compEnvC scope cl C X.env) fp) t1 (tgG X.K (.one 4)))
    (hk : ∀ (s : Shared) (H : Hp) (C : Addr) (cl : List (Str × Addr)) (fp : List Addr), WE (X.blk s H scope (compEnvC scope cl C X.env) fp) kx (vF 4))
    (he : ∀ (s : Shared) (H : Hp) (C : Addr) (cl : List (Str × Addr)) (fp : List Addr), WE (X.blk s H scope (compEnvC scope cl C X.env) fp) vx (vF 2))
    (hs : ∀ x, foldedSetIterable i0 X.env x = pure x := by intro _; rfl) (hs1 : ∀ env x, foldedSetIterable i1 env x = pure x := by intro _ _; rfl) : WE X (two kx vx t0 i0 t1 i1 scope pos) (homesF f) :=
  PE.wk (pe_dg2 (dkT X.prog X.w X.K) hu hc hN (pi_tup hi) ok (vs1 := [4]) (by rw [ho]; decide) hg (fun s H C cl fp => pi_tup (hi1 s H C cl fp)) hg1 hk he hs hs1) fun σ H Q ⟨ε, r, E, e, q⟩ => by
    obtain ⟨x, e1, e⟩ := Option.bind_eq_some_iff.mp e
    split at e
    · rename_i ds
      obtain ⟨gs, e2, e⟩ := Option.bind_eq_some_iff.mp e
      by_cases hl : 4 < ε.length ∧ ((homesN gs).map (·.1)).Nodup ∧ (homesN gs).length ≤ 1000
      · rw [if_pos hl] at e
        cases e
        rw [gnOf_map e2] at e1
        rw [ho]
        exact thomes (vs := []) E e1 hl.1 hl.2.1 hl.2.2 q
      · rw [if_neg hl] at e
        cases e
    · cases e
/-! list(d), sorted(texts) -/
def keysT : List (L2.Key × PyData) → Option (List Str)
  | [] => some []
  | (Sum.inr z, _) :: ds => (keysT ds).map (z :: ·)
  | _ :: _ => none
def listO : List Wv → Option Wv
  | [.dk ds] => (keysT ds).map fun zs => .d (.list (zs.map .str))
  | _ => none
theorem keys_dp {K : PySem.W.Frag} {H H' : Hp} : ∀ {kvs : List (L2.Key × V)} {ds : List (L2.Key × PyData)} {zs : List Str}, Paired (fun p q => p.1 = q.1 ∧ Dp K H p.2 q.2) kvs ds → keysT ds = some zs → DpAll K H' (kvs.map fun kv => kV kv.1) (zs.map .str)
  | _, _, _, .nil, e => by cases e; exact .nil
  | _, (Sum.inr z, d) :: ds, zs, .cons h t, e => by
    obtain ⟨l, e1, rfl⟩ := Option.map_eq_some_iff.mp (show (keysT ds).map (z :: ·) = some zs from e)
    rw [List.map_cons, List.map_cons, h.1]
    exact .cons (.str z) (keys_dp t e1)
theorem m_listD : MeetsA X rListD listO := fun H vs ws c Q r e q => by
  unfold listO at e
  split at e
  · rename_i ds
    obtain ⟨zs, e1, rfl⟩ := Option.map_eq_some_iff.mp e
    obtain ⟨v, rfl, rv⟩ := rws1 r
    cases rv with
    | @dk a kvs _ h1 t1 => exact ⟨a, kvs, rfl, h1, fun p hp => q _ _ (upd_sm hp) (.d (.lst (SqL.of upd_same) (keys_dp t1 e1)))⟩
  · cases e
end
end KW
namespace KW
open PySem PySem.Spec PyProof.Rows L2 KZ KS KP DC
def srtS (zs : List Str) : List Str := zs.mergeSort (PySem.W.dataLe false PyData.str)
def sortO : List Wv → Option Wv
  | [.d (.list ds)] => (strsOf ds).map fun zs => .d (.list ((srtS zs).map .str))
  | _ => none
theorem dpa_of_strs {K : PySem.W.Frag} {H : Hp} : ∀ zs : List Str, DpAll K H (zs.map V.str) (zs.map .str)
  | [] => .nil
  | z :: zs => .cons (.str z) (dpa_of_strs zs)
theorem m_sortS {X : Cx} : MeetsA X (NL.rSortedN X) sortO := fun H vs ws c Q r e q => by
  unfold sortO at e
  split at e
  · rename_i ds
    obtain ⟨zs, e1, rfl⟩ := Option.map_eq_some_iff.mp e
    obtain rfl := strsOf_map e1
    obtain ⟨v, rfl, rv⟩ := rws1 r
    have rd := rw_d rv
    cases rd with
    | @lst a xs _ h1 t1 =>
      obtain rfl := dpa_strs t1
      let f : Str → V × PyData := fun z => (V.str z, .str z)
      have m1 : NL.dsV (zs.map f) = zs.map V.str := by unfold NL.dsV; rw [List.map_map]; rfl
      have m2 : (zs.map f).map (·.2) = zs.map PyData.str := by rw [List.map_map]; rfl
      refine ⟨a, zs.map f, rfl, by rw [m1]; exact h1, fun b hb => ?_, ?_, ?_, fun b hb => ?_, fun p hp => ?_⟩
      · obtain ⟨z, _, rfl⟩ := List.mem_map.mp hb
        exact .str z
      · rw [m2]
        intro d hd d' hd'
        obtain ⟨z, _, rfl⟩ := List.mem_map.mp hd
        obtain ⟨z', _, rfl⟩ := List.mem_map.mp hd'
        simp [PySem.W.alike]
      · rw [m2]
        refine .inr fun d hd => ?_
        obtain ⟨z, _, rfl⟩ := List.mem_map.mp hd
        exact ⟨fun z => (nomatch z), fun _ z => (nomatch z)⟩
      · obtain ⟨z, _, rfl⟩ := List.mem_map.mp hb
        simp [f, PyData.depth]
      · have ms : (zs.map f).mergeSort (PySem.W.dataLe false (·.2)) = (srtS zs).map f := (List.map_mergeSort (f := f) (r := PySem.W.dataLe false PyData.str) (s := PySem.W.dataLe false (·.2)) (fun a _ b _ => rfl)).symm
        rw [ms]
        have m3 : NL.dsV ((srtS zs).map f) = (srtS zs).map V.str := by unfold NL.dsV; rw [List.map_map]; rfl
        rw [m3]
        exact q _ _ (upd_sm hp) (.d (.lst (SqL.of upd_same) (dpa_of_strs _)))
  · cases e
/-! Shop(..) -/
def checksN (gs : Gn) : List Str := gs.flatMap (·.2)
theorem keysT_homes : ∀ gs : Gn, keysT (homesN gs) = some (checksN gs) := by
  have app : ∀ (xs ys : List (L2.Key × PyData)) (a b : List Str), keysT xs = some a → keysT ys = some b → keysT (xs ++ ys) = some (a ++ b) := by
    intro xs
    induction xs with
    | nil => intro ys a b h1 h2; cases h1; exact h2
    | cons x xs ih =>
      intro ys a b h1 h2
      obtain ⟨k, d⟩ := x
      cases k with
      | inl k => cases h1
      | inr k =>
        obtain ⟨l, e1, rfl⟩ := Option.map_eq_some_iff.mp (show (keysT xs).map (k :: ·) = some a from h1)
        show (keysT (xs ++ ys)).map (k :: ·) = _
        rw [ih ys l b e1 h2]
        rfl
  intro gs
  induction gs with
  | nil => rfl
  | cons p gs ih =>
    have one : ∀ cs : List Str, keysT (cs.map fun c => ((Sum.inr c : L2.Key), PyData.str p.1)) = some cs := by
      intro cs
      induction cs with
      | nil => rfl
      | cons c cs ihc =>
        show (keysT (cs.map fun c => ((Sum.inr c : L2.Key), PyData.str p.1))).map (c :: ·) = _
        rw [ihc]
        rfl
    exact app _ _ _ _ (one p.2) ih
/-- the fields of the shop of these groups -/
def shopI (gs : Gn) : List (Str × Wv) := shopF (.tuple (gs.map gD)) (.tuple ((srtS (checksN gs)).map .str)) (homesN gs)
end KW
namespace KW
open PySem PySem.Spec PyProof.Rows L2 KZ KS KP DC
def semShopI (CS : Addr) : List Wv → Option (List (Str × Wv))
  | [.d (.tuple ds)] => (gnOf ds).bind fun gs => if groupsOk (.tuple ds) = true ∧ groupsD (.tuple ds) = true ∧ ((homesN gs).map (·.1)).Nodup ∧ (homesN gs).length ≤ 1000 then some (shopI gs) else none
  | _ => none
section
variable {P : Program} {w : World} {K : PySem.W.Frag} {mg : Str → Option Value} {base : Heap} {CS : Addr}
abbrev NSh : List Str := ["self", "groups", "group", "checks", "check"]
theorem scSI : FnScope NSh ["self", "groups"] (defScope (mShop 0)) := ⟨rfl, rfl, rfl, by decide +kernel, rfl, by decide +kernel, by decide +kernel⟩
theorem pi_shop (T : ShopT K CS) (M : ∃ f fd, FunD K "__init__" "Shop.__init__" (defArgs (mShop 0)) (defBody (mShop 0)) (defScope (mShop 0)) [] [] f fd ∧ Mk K CS f) (gm : mg "Shop" = some (.ref CS)) (hg : Pu P w K mg base 4 "_are_groups" 1 semGroups)
    (gt : mg "tuple" = none) (gs_ : mg "sorted" = none) (gl : mg "list" = none) : Pi_ P w K mg base 5 "Shop" CS 1 (semShopI CS) := by
  obtain ⟨f, fd, F, mk⟩ := M
  refine ⟨f, fd, _, mk, okN F scSI rfl fun cdv A outer s H E hr => ?_, gm, F.bindsN fun _ _ _ _ _ _ us hl => match us, hl with | [_, _], _ => rfl⟩
  refine ⟨_, wns_cons (wn_if (wt_not (wt_val (we_call hg hr (by decide) (by rfl) (wa_cons (we_v (pv 1)) wa_nil)))) wss_no)
    (wns_cons (wn_fld rfl (Or.inl rfl) T.cls T.nG (we_v (pv 1)) rfl)
    (wns_cons (wn_fld rfl (Or.inl rfl) T.cls T.nH (we_homes (own := [("group", 2), ("checks", 3), ("check", 4)]) (Nat.lt_of_le_of_lt (Nat.add_le_add_left (Nat.zero_le 9) _) (hu9 hr)) rfl scSI.nd (we_v (pv 1)) (blkOk_by (N := NSh) (sc := defScope (mShop 0)) (by decide +kernel)) rfl
        (fun _ _ _ _ _ => pg_tup rfl (pgs_cons (pg_name (i := 2) scSI.nd rfl (Or.inl rfl)) (pgs_cons (pg_name (i := 3) scSI.nd rfl (Or.inl rfl)) pgs_nil))) (fun _ _ _ _ _ => we_v (pv 3)) (fun _ _ _ _ _ => pg_name (i := 4) scSI.nd rfl (Or.inl rfl)) (fun _ _ _ _ _ => we_v (pv 4)) (fun _ _ _ _ _ => we_v (pv 2))) rfl)
    (wns_one (wn_fld rfl (Or.inl rfl) T.cls T.nC (we_bty call_tuple_of m_tuple (by rfl) gt (by decide +kernel) (wa_cons (we_blt (NL.cr_sortedN (hu30 hr)) m_sortS (by rfl) gs_ PyProof.Rows.boot_sorted (wa_cons
        (we_bty (call_list_dK rfl) m_listD (by rfl) gl (by decide +kernel) (wa_cons (we_fld (we_v (pv 0)) T.cls T.nH) wa_nil)) wa_nil)) wa_nil)) rfl)))), ?_⟩
  rintro ws hl ho r e
  match ws, hl, ho with
  | [x], _, ho =>
    unfold semShopI at e
    split at e
    · rename_i ds hx
      cases hx
      obtain ⟨gs, e1, e2⟩ := Option.bind_eq_some_iff.mp e
      by_cases hc : groupsOk (.tuple ds) = true ∧ groupsD (.tuple ds) = true ∧ ((homesN gs).map (·.1)).Nodup ∧ (homesN gs).length ≤ 1000
      · rw [if_pos hc] at e2
        cases e2
        obtain ⟨c1, c2, c3, c4⟩ := hc
        have hds := gnOf_map e1
        have sG : semGroups [.d (.tuple ds)] = some (bF true) := by
          show (if groupsOk (.tuple ds) = true then some (bF (groupsD (.tuple ds))) else none) = _
          rw [if_pos c1, c2]
        unfold semN
        refine (congrArg (fun o => Option.bind o _) (?main : _ = some (some (Wv.ob CS (shopI gs)) :: [some (.d (.tuple ds)), none, none, none]))).trans (if_pos rfl)
        exact (seq_at (ifN_at (by simp only [semN, seqN, setN, ifN, fldN, nilN, tOrF, tAndF, tNotF, testF, callF, consF, nilF, vF, cF, sc, andF, orF, notF, bltF, opF, ifeF, isF, fldF, methF, tupF, allD, bindT, setE, slots, List.map_cons, List.map_nil, List.length_cons, List.length_nil, List.append_nil, List.cons_append, List.nil_append, Nat.reduceAdd, Nat.reduceSub, Nat.reduceLeDiff, Nat.reduceLT, List.replicate, List.getElem?_cons_zero, List.getElem?_cons_succ, List.getElem?_nil, Option.join_some, Option.join_none, Option.bind_some, Option.bind_none, Option.map_some, Option.map_none, if_true, if_false, Bool.false_eq_true, Bool.not_true, Bool.not_false, and_self, List.set_cons_zero, List.set_cons_succ, dOf, bOf, bF, iOf, reduceIte, sG])) (seq_at (fld_to (fs' := [("_groups", .d (.tuple ds))]) (by decide) rfl rfl rfl rfl rfl)
          (seq_at (fld_to (fs' := [("_groups", .d (.tuple ds)), ("_homes", .dk (homesN gs))]) (show (1 : Nat) < 1000 by decide) rfl rfl (by
              show (gnOf ds).bind _ = _
              rw [e1, Option.bind_some]
              exact if_pos ⟨(show (4 : Nat) < 5 by decide), c3, c4⟩) rfl rfl)
          (fld_to (fs' := shopI gs) (x := .d (.tuple ((srtS (checksN gs)).map .str))) (show (2 : Nat) < 1000 by decide) rfl rfl
            (blt_at (one_at (blt_at (one_at (blt_at (ws := [.dk (homesN gs)]) (r := .d (.list ((checksN gs).map .str))) (one_at (by simp only [semN, seqN, setN, ifN, fldN, nilN, tOrF, tAndF, tNotF, testF, callF, consF, nilF, vF, cF, sc, andF, orF, notF, bltF, opF, ifeF, isF, fldF, methF, tupF, allD, bindT, setE, slots, List.map_cons, List.map_nil, List.length_cons, List.length_nil, List.append_nil, List.cons_append, List.nil_append, Nat.reduceAdd, Nat.reduceSub, Nat.reduceLeDiff, Nat.reduceLT, List.replicate, List.getElem?_cons_zero, List.getElem?_cons_succ, List.getElem?_nil, Option.join_some, Option.join_none, Option.bind_some, Option.bind_none, Option.map_some, Option.map_none, if_true, if_false, Bool.false_eq_true, Bool.not_true, Bool.not_false, and_self, List.set_cons_zero, List.set_cons_succ, dOf, bOf, bF, iOf, reduceIte]; rfl)) (by
              show (keysT (homesN gs)).map _ = _
              rw [keysT_homes]
              rfl))) (r := .d (.list ((srtS (checksN gs)).map .str))) (by
              show (strsOf ((checksN gs).map .str)).map _ = _
              rw [strsOf_of]
              rfl))) rfl) rfl (by rw [hds]; rfl)))))
      · rw [if_neg hc] at e2
        cases e2
    · cases e
end
end KW
namespace NL
open PySem PySem.Spec PyProof.Rows L2 KM
end NL
namespace KZ
open PySem PySem.Spec PyProof.Rows L2
/-! the heap without some places -/
def dls (S : List Addr) (H : Hp) : Hp := fun b => if b ∈ S then none else H b
theorem dls_sm (S : List Addr) (H : Hp) : Sm (dls S H) H := fun b o e => by
  unfold dls at e
  by_cases h : b ∈ S
  · rw [if_pos h] at e; cases e
  · rw [if_neg h] at e; exact e
theorem dls_out {S : List Addr} {H : Hp} {b : Addr} {o : HO} (e : dls S H b = some o) : b ∉ S := fun h => by
  unfold dls at e
  rw [if_pos h] at e
  cases e
theorem dls_at {S : List Addr} {H : Hp} {b : Addr} {o : HO} (e : H b = some o) (h : b ∉ S) : dls S H b = some o := by
  unfold dls
  rw [if_neg h]
  exact e
theorem dls_kp {S : List Addr} {J : Addr} {H H' : Hp} (k : Kp J H H') (hJ : J ∈ S) : Sm (dls S H) (dls S H') := fun b o e => by
  have h := dls_out e
  exact dls_at (k b o (dls_sm S H b o e) (fun z => h (by rw [z]; exact hJ))) h
theorem dls_mono {S : List Addr} {H H' : Hp} (k : Sm H H') : Sm (dls S H) (dls S H') := fun b o e => dls_at (k b o (dls_sm S H b o e)) (dls_out e)
theorem dls_put {S : List Addr} {H : Hp} {x : Addr} {o : HO} (h : x ∈ S) : dls S (upd H x o) = dls S H := by
  funext b
  unfold dls
  by_cases hb : b ∈ S
  · rw [if_pos hb, if_pos hb]
  · rw [if_neg hb, if_neg hb, upd_ne (fun z => hb (by rw [z]; exact h))]
theorem dls_new {S : List Addr} {H : Hp} {x : Addr} {o : HO} (h : H x = none) : Sm (dls S H) (dls S (upd H x o)) := fun b u e => by
  have e2 := dls_sm S H b u e
  exact dls_at (by rw [upd_ne (ne_of_none e2 h)]; exact e2) (dls_out e)
theorem dls_ext {S : List Addr} {H : Hp} {x : Addr} {o : HO} (h : H x = none) : Sm (dls S H) (dls (x :: S) (upd H x o)) := fun b u e => by
  have e2 := dls_sm S H b u e
  have ne : b ≠ x := ne_of_none e2 h
  exact dls_at (by rw [upd_ne ne]; exact e2) fun z => (List.mem_cons.mp z).elim ne (dls_out e)
theorem dls_sub {S S' : List Addr} {H : Hp} (h : ∀ b ∈ S, b ∈ S') : Sm (dls S' H) (dls S H) := fun b o e => dls_at (dls_sm S' H b o e) fun z => dls_out e (h b z)
/-- where the walk stands: the jar, what was there, the facts so far in R, S the places that change -/
structure Sce (J : Addr) (H0 : Hp) (c : Nat) (S : List Addr) (R H : Hp) : Prop where
  kp : Kp J H0 H
  jar : Jar J H c
  sm : Sm R (dls S H)
  hJ : J ∈ S
theorem Sce.start {J : Addr} {H0 H : Hp} {c : Nat} (k : Kp J H0 H) (j : Jar J H c) : Sce J H0 c [J] (dls [J] H) H := ⟨k, j, fun _ _ e => e, List.mem_singleton.mpr rfl⟩
theorem Sce.new {J : Addr} {H0 R H : Hp} {c : Nat} {S : List Addr} {l : Addr} {o : HO} (x : Sce J H0 c S R H) (h : H l = none) : Sce J H0 c S R (upd H l o) := ⟨x.kp.new h, x.jar.new h, x.sm.trans (dls_new h), x.hJ⟩
theorem Sce.put {J : Addr} {H0 R H : Hp} {c : Nat} {S : List Addr} {l : Addr} {o : HO} (x : Sce J H0 c S R H) (h : l ∈ S) (ne : l ≠ J) (h0 : H0 l = none) : Sce J H0 c S R (upd H l o) :=
  ⟨x.kp.put h0, x.jar.put ne, by rw [dls_put h]; exact x.sm, x.hJ⟩
theorem Sce.call {J : Addr} {H0 R H H' : Hp} {c d : Nat} {S : List Addr} (x : Sce J H0 c S R H) (k : Kp J H H') (j : Jar J H' d) : Sce J H0 d S R H' := ⟨x.kp.trans k, j, x.sm.trans (dls_kp k x.hJ), x.hJ⟩
theorem Sce.step {J : Addr} {H0 R H H' : Hp} {c : Nat} {S : List Addr} (x : Sce J H0 c S R H) (s : Sm H H') : Sce J H0 c S R H' := ⟨x.kp.trans s.kp, s.jar x.jar, x.sm.trans (dls_mono s), x.hJ⟩
theorem Sce.re {J : Addr} {H0 R H : Hp} {c : Nat} {S : List Addr} (x : Sce J H0 c S R H) : Sce J H0 c S (dls S H) H := ⟨x.kp, x.jar, fun _ _ e => e, x.hJ⟩
theorem Sce.ext {J : Addr} {H0 R H : Hp} {c : Nat} {S : List Addr} {l : Addr} {o : HO} (x : Sce J H0 c S R H) (h : H l = none) : Sce J H0 c (l :: S) R (upd H l o) := ⟨x.kp.new h, x.jar.new h, x.sm.trans (dls_ext h), List.mem_cons_of_mem _ x.hJ⟩
theorem Sce.up {J : Addr} {H0 R H : Hp} {c d : Nat} {S : List Addr} (x : Sce J H0 c S R H) (h : c ≤ d) : Sce J H0 d S R H := ⟨x.kp, x.jar.up h, x.sm, x.hJ⟩
theorem Sce.none {J : Addr} {H0 R H : Hp} {c : Nat} {S : List Addr} {l : Addr} (x : Sce J H0 c S R H) (h : H l = none) : H0 l = none := x.kp.none x.jar h
theorem Sce.at {J : Addr} {H0 R H : Hp} {c : Nat} {S : List Addr} {b : Addr} {o : HO} (x : Sce J H0 c S R H) (e : R b = some o) : H b = some o := dls_sm S H _ _ (x.sm _ _ e)
theorem Sce.all {J : Addr} {H0 R H : Hp} {c : Nat} {S : List Addr} (x : Sce J H0 c S R H) : Sm R H := x.sm.trans (dls_sm S H)
theorem Sce.drop {J : Addr} {H0 R H : Hp} {c : Nat} {S S' : List Addr} (x : Sce J H0 c S R H) (h : ∀ b ∈ S', b ∈ S) (hJ : J ∈ S') : Sce J H0 c S' R H := ⟨x.kp, x.jar, x.sm.trans (dls_sub h), hJ⟩
/-- the groups are none of what changes -/
theorem gsAt_dls {J : Addr} {H : Hp} {p : Addr} {gs : List Grp} {c : Nat} (h : GsAt H p gs) (j : Jar J H c) : GsAt (dls [J] H) p gs := by
  obtain ⟨rs, hp, pr⟩ := h
  obtain ⟨m, s, k, hJ, _⟩ := j
  have ne : ∀ {b : Addr} {xs : List V}, H b = some (.tup xs) → b ∉ [J] := fun {b xs} e z => by
    rw [List.mem_singleton.mp z, hJ] at e
    cases e
  exact ⟨rs, dls_at hp (ne hp), Paired.imp pr fun _ _ z => ⟨dls_at z.1 (ne z.1), dls_at z.2 (ne z.2)⟩⟩
theorem gsAt_sm {H H' : Hp} {p : Addr} {gs : List Grp} (s : Sm H H') (h : GsAt H p gs) : GsAt H' p gs := by
  obtain ⟨rs, hp, pr⟩ := h
  exact ⟨rs, s _ _ hp, Paired.imp pr fun _ _ z => ⟨s _ _ z.1, s _ _ z.2⟩⟩
theorem by_key {G Pf : Hp → Prop} {R : Prop} (key : ∀ H, Pf H → G H) (h : (∀ H, Pf H → G H) → R) : R := h key
theorem paired_at {α β : Type} {F : α → β → Prop} {as : List α} {bs : List β} (h : Paired F as bs) : ∀ {k : Nat} {a : α}, as[k]? = some a → ∃ b, bs[k]? = some b ∧ F a b := by
  induction h with
  | nil => intro k a e; simp at e
  | @cons x y xs ys hxy _ ih =>
    intro k a e
    cases k with
    | zero =>
      obtain rfl : x = a := Option.some.inj e
      exact ⟨y, rfl, hxy⟩
    | succ k => exact ih e
/-! things, letters, tempers as data -/
abbrev Th := Str × Int
def thD (t : Th) : PyData := .tuple [.str t.1, .int t.2]
/-- things, where they stand -/
abbrev ZT := List (Addr × Th)
def ZTok (R : Hp) (zs : ZT) : Prop := ∀ z ∈ zs, R z.1 = some (.tup [.str z.2.1, .int z.2.2])
theorem ZTok_sm {R R' : Hp} (s : Sm R R') {zs : ZT} (h : ZTok R zs) : ZTok R' zs := fun z hz => s _ _ (h z hz)
theorem ZTok_add {R : Hp} {zs : ZT} {a : Addr} {t : Th} (h : ZTok R zs) (e : R a = some (.tup [.str t.1, .int t.2])) : ZTok R (zs ++ [(a, t)]) := fun z hz => by
  rcases List.mem_append.mp hz with hz | hz
  · exact h z hz
  · rw [List.mem_singleton.mp hz]
    exact e
abbrev zV (zs : ZT) : List V := zs.map fun z => V.ref z.1
theorem zV_add (zs : ZT) (a : Addr) (t : Th) : zV (zs ++ [(a, t)]) = zV zs ++ [V.ref a] := by simp [zV]
theorem thD_at {K : PySem.W.Frag} {R : Hp} {a : Addr} {t : Th} (h : R a = some (.tup [.str t.1, .int t.2])) : Dp K R (.ref a) (thD t) := .tup (SqT.of h) (.cons (.str _) (.cons (.int _) .nil))
theorem thD_depth (t : Th) : (thD t).depth ≤ 20 := by simp [thD, PyData.depth, PyData.depthAll]
theorem thD_alike (a b : Th) : W.alike (thD a) (thD b) = true := by simp [thD, W.alike, W.alikeAll]
def thKey (t : Th) : NestedKey := .tup [.text t.1, .num t.2]
theorem thKey_nk (t : Th) : NL.nk (thD t) = some (thKey t) := by simp [thD, thKey, NL.nk, NL.nks]
theorem thKey_is {K : PySem.W.Frag} {R : Hp} {a : Addr} {t : Th} (h : R a = some (.tup [.str t.1, .int t.2])) : NL.IsKey K R a (thKey t) := ⟨_, thD_at h, thKey_nk t, by simp [thKey, NestedKey.depth, NestedKey.depthAll]⟩
def lets (gs : List Grp) (ths : List Th) : List PyData := gs.map (fun g => .tuple [.str "close", .str g.1]) ++ ths.flatMap fun t => [.tuple [.str "pass", thD t], .tuple [.str "fail", thD t]]
/-- a temper's mark, first, kinds -/
structure Tm where
  wh : Str
  out : Str
  ps : List (PyData × Str)
def pD2 (p : PyData × Str) : PyData := .tuple [p.1, .str p.2]
def tD (t : Th) (m : Tm) : PyData := .tuple [thD t, .str m.wh, .str m.out, .tuple (m.ps.map pD2)]
end KZ
namespace NL
open PySem PySem.Spec PyProof.Rows L2
/-! dict(a tuple of pairs), the keys of any depth; the tuple is one that is known not to have a dict of its own -/
/-- a tuple, its object known: no dict of its own -/
def TupF (H : Hp) (a : Addr) (vs : List V) : Prop := ∃ ob : Obj, ob.dict = none ∧ H a = some (.frz ob (.tup vs))
theorem TupF.mono {H H' : Hp} {a : Addr} {vs : List V} (h : TupF H a vs) (s : ∀ b o, H b = some o → H' b = some o) : TupF H' a vs := let ⟨ob, e1, e2⟩ := h; ⟨ob, e1, s _ _ e2⟩
end NL
namespace KZ
open PySem PySem.Spec PyProof.Rows L2
/-! a book of letters as it is drawn -/
theorem slt_ne {a b : Str} (h : slt a b) : a ≠ b := fun e => by
  rw [e] at h
  exact absurd h (List.lt_irrefl _)
structure BookOk (K : PySem.W.Frag) (R : Hp) (ls : List PyData) (Lb : NL.LN) : Prop where
  e : ∀ x ∈ Lb, ∃ d, d ∈ ls ∧ NL.nk d = some x.1 ∧ Dp K R (.ref x.2.1) d ∧ (x.2.2 = .str "spoils" ∨ x.2.2 = .str "mends")
  nd : (Lb.map (·.1)).Nodup
theorem BookOk.nil {K : PySem.W.Frag} {R : Hp} {ls : List PyData} : BookOk K R ls [] := ⟨fun x h => absurd h List.not_mem_nil, List.nodup_nil⟩
theorem BookOk.put {K : PySem.W.Frag} {R : Hp} {ls : List PyData} {Lb : NL.LN} (B : BookOk K R ls Lb) {d : PyData} {k : NestedKey} {b : Addr} {v : V} (hd : d ∈ ls) (hk : NL.nk d = some k) (hb : Dp K R (.ref b) d) (hv : v = .str "spoils" ∨ v = .str "mends") : BookOk K R ls (NL.putN Lb k b v) := by
  refine ⟨fun x hx => ?_, NL.putN_nodup B.nd k b v⟩
  rcases NL.putN_mem hx with ⟨y, hy, e1, e2, e3⟩ | rfl
  · obtain ⟨d', h1, h2, h3, h4⟩ := B.e y hy
    refine ⟨d', h1, by rw [← e1]; exact h2, by rw [← e2]; exact h3, ?_⟩
    rcases e3 with rfl | e3
    · exact h4
    · rw [e3]; exact hv
  · exact ⟨d, hd, hk, hb, hv⟩
end KZ
namespace KW
open PySem PySem.Spec PyProof.Rows L2 KZ KS KP DC
/-! repr of data -/
mutual
def shB : PyData → Bool
  | .none => true
  | .bool _ => true
  | .int i => decide ((toString i : Str).length ≤ 30) && decide (i.natAbs.log2 < 1920)
  | .str z => zB z
  | .list ds => shBs ds
  | .tuple ds => shBs ds
  | .dict kvs => kvs.isEmpty
def shBs : List PyData → Bool
  | [] => true
  | d :: ds => shB d && shBs ds
end
mutual
def wtS : PyData → Nat
  | .list ds => 3 + wtSs ds
  | .tuple ds => 3 + wtSs ds
  | _ => 202
def wtSs : List PyData → Nat
  | [] => 0
  | d :: ds => 2 + wtS d + wtSs ds
end
theorem zB_shown {z : Str} (h : zB z = true) : (reprText z).length ≤ 202 := by
  unfold zB at h
  rw [Bool.and_eq_true, decide_eq_true_eq] at h
  have := StrLaws.reprText_len z fun c hc => by
    have := of_decide_eq_true (List.all_eq_true.mp h.2 c hc)
    have e : (16 : Nat) ^ 8 = 4294967296 := by decide
    omega
  omega
mutual
theorem show_ok : ∀ d : PyData, shB d = true → d.showable = true ∧ d.shown.length ≤ wtS d
  | .none, _ => ⟨by simp [PyData.showable], by simp only [PyData.shown, wtS]; decide⟩
  | .bool b, _ => ⟨by simp [PyData.showable], by cases b <;> simp only [PyData.shown, wtS] <;> decide⟩
  | .int i, h => by
    simp only [shB, Bool.and_eq_true, decide_eq_true_eq] at h
    refine ⟨by simp only [PyData.showable, decide_eq_true_eq]; exact h.2, ?_⟩
    simp only [PyData.shown, wtS]
    omega
  | .str z, h => by
    simp only [shB] at h
    refine ⟨by simp [PyData.showable], ?_⟩
    simp only [PyData.shown, wtS]
    exact zB_shown h
  | .list ds, h => by
    simp only [shB] at h
    obtain ⟨a, b⟩ := show_oks ds h
    refine ⟨by simpa only [PyData.showable] using a, ?_⟩
    simp only [PyData.shown, wtS]
    have := listText_len_le (PyData.shownAll ds)
    omega
  | .tuple ds, h => by
    simp only [shB] at h
    obtain ⟨a, b⟩ := show_oks ds h
    refine ⟨by simpa only [PyData.showable] using a, ?_⟩
    simp only [PyData.shown, wtS]
    have := tupleText_len_le (PyData.shownAll ds)
    omega
  | .dict kvs, h => by
    simp only [shB] at h
    cases kvs with
    | nil => exact ⟨by simp [PyData.showable, PyData.showableKv], by simp only [PyData.shown, PyData.shownKv, wtS]; decide⟩
    | cons p l => cases h
theorem show_oks : ∀ ds : List PyData, shBs ds = true → PyData.showableAll ds = true ∧ ((PyData.shownAll ds).map (·.length)).sum + 2 * (PyData.shownAll ds).length ≤ wtSs ds
  | [], _ => ⟨by simp [PyData.showableAll], by simp [PyData.shownAll, wtSs]⟩
  | d :: ds, h => by
    simp only [shBs, Bool.and_eq_true] at h
    obtain ⟨a1, b1⟩ := show_ok d h.1
    obtain ⟨a2, b2⟩ := show_oks ds h.2
    refine ⟨by simp only [PyData.showableAll, Bool.and_eq_true]; exact ⟨a1, a2⟩, ?_⟩
    simp only [PyData.shownAll, wtSs, List.map_cons, List.sum_cons, List.length_cons]
    omega
end
/-- the data that stand for a value whose repr is told -/
def reprOf : Wv → Option PyData
  | .d x => some x
  | .dk [] => some (.dict [])
  | _ => none
def RQ (P : Program) (w : World) (K : PySem.W.Frag) (H : Hp) (v : V) (d : PyData) : Prop :=
  (∃ x, RW P w K H v x ∧ reprOf x = some d) ∨ ∃ (a : Addr) (z : Str) (u : V) (x : Wv) (e : PyData), v = .ref a ∧ H a = some (.tup [.str z, u]) ∧ RW P w K H u x ∧ reprOf x = some e ∧ d = .tuple [.str z, e]
theorem reads_w {X : Cx} {pins : List (Addr × Obj)} {σ : L2.St} {H : Hp} {s : Shared} (I : Inv X pins σ H s) {v : V} {x : Wv} {d : PyData} {u : Value} (h : RW X.prog X.w X.K H v x) (e : reprOf x = some d) (r : RelV v u) : ∃ as, Reads s.heap u d as ∧ (d.hasDict = true → sysModules ∉ as) := by
  cases h with
  | d hd =>
    cases e
    obtain ⟨as, hr⟩ := Dp.reads I _ v u hd r
    refine ⟨as, hr, PyData.noDict_hsm ?_⟩
    have go : ∀ n : Nat, (∀ (d : PyData) (v : V), sizeOf d ≤ n → Dp X.K H v d → d.hasDict = false) ∧ ∀ (ds : List PyData) (vs : List V), sizeOf ds ≤ n → DpAll X.K H vs ds → PyData.hasDictAll ds = false := by
      intro n
      induction n with
      | zero =>
        refine ⟨fun d v h _ => ?_, fun ds vs h _ => ?_⟩
        · cases d <;> simp at h
        · cases ds <;> simp at h
      | succ n ih =>
        refine ⟨fun d v h q => ?_, fun ds vs h q => ?_⟩
        · cases q with
          | non => simp [PyData.hasDict]
          | bl b => simp [PyData.hasDict]
          | int i => simp [PyData.hasDict]
          | str z => simp [PyData.hasDict]
          | lst _ t => simp only [PyData.hasDict]; exact ih.2 _ _ (by simp at h; omega) t
          | tup _ t => simp only [PyData.hasDict]; exact ih.2 _ _ (by simp at h; omega) t
        · cases q with
          | nil => simp [PyData.hasDictAll]
          | cons a t =>
            simp only [PyData.hasDictAll, Bool.or_eq_false_iff]
            exact ⟨ih.1 _ _ (by simp at h; omega) a, ih.2 _ _ (by simp at h; omega) t⟩
    exact (go _).1 _ _ (Nat.le_refl _) hd
  | @dk a kvs ds h1 t =>
    cases ds with
    | cons p l => cases e
    | nil =>
      cases t
      cases e
      cases r
      obtain ⟨_, nm, vs, kv, o, es, ep, g1, g2, g3, g4, g5, g6⟩ := (show ObjOk X.prog X.w H s.heap a (.dK []) from I.hok a _ h1)
      cases kv
      have na : sysModules ≠ a := fun z => by
        rw [← z] at nm
        simp at nm
      have ee : es.toList = [] := by
        cases q : es.toList with
        | nil => rfl
        | cons en l => rw [q] at g5; cases g5
      exact ⟨a :: [] ++ [], .dict g1 g2.1 g3 (by rw [ee]; exact .nil) (by rw [ee]; exact .nil), fun _ => by simp [na]⟩
  | _ => cases e
def rRepQ (P : Program) (w : World) (K : PySem.W.Frag) : List V → Hp → VK → Prop := fun xs H Q => ∃ (v : V) (d : PyData), xs = [v] ∧ RQ P w K H v d ∧ shB d = true ∧ wtS d ≤ 1000000 ∧ d.depth ≤ 20 ∧ Q (.str d.shown) H
theorem call_repQ {X : Cx} (hg : X.A.guards = some []) (hu : X.A.units + 30 < cLine) (sy : SysD X.K) : CallR X (.builtin "repr") (rRepQ X.prog X.w X.K) := by
  intro pins s σ H xs us Q I r h
  obtain ⟨v, d, rfl, x, f1, f2, f3, q⟩ := h
  obtain ⟨u, rfl, ru⟩ := vals1 r
  obtain ⟨s1, s2⟩ := show_ok d f1
  have rd : ∃ as, Reads s.heap u d as ∧ (d.hasDict = true → sysModules ∉ as) := by
    rcases x with ⟨x, hx, e⟩ | ⟨a, z, u', x, e, rfl, ha, hx, ee, rfl⟩
    · exact reads_w I hx e ru
    · cases ru
      obtain ⟨its, rv, ⟨o, ho, hc, n, hd⟩, hl⟩ := I.tuple (SqT.of ha)
      cases rv with
      | @cons _ uz _ us' r1 r2 =>
        cases r2 with
        | @cons _ uu _ us'' r3 r4 =>
          cases r4
          obtain ⟨t, rfl⟩ := (show ∃ t, uz = Value.str z t from r1)
          obtain ⟨as, hr, ns⟩ := reads_w I hx ee r3
          have na : sysModules ≠ a := fun zz => by
            obtain ⟨so, s1, s2⟩ := sy
            have s3 := I.kIn _ _ s1
            rw [zz, ho] at s3
            cases s3
            rw [s2] at hc
            exact absurd hc (by simp)
          refine ⟨_, Reads.tuple ho hc hd (.cons (.str z t) (.cons hr .nil)), fun hd' => ?_⟩
          have hde : e.hasDict = true := by simpa [PyData.hasDict, PyData.hasDictAll] using hd'
          have := ns hde
          simp [na, this]
  obtain ⟨as, R, ns⟩ := rd
  have small : d.shown.length ≤ sizeLine := by rw [sizeLine_eq]; omega
  have big : ∀ a : Addr, u = .ref a → wpAny (model X.prog X.w) X.A (call (.builtin "repr") [u]) (EP X pins σ Q) X.xe s := fun a e => by
    subst e
    exact repr_of_reads' R s1 ns hg (by omega) (fun _ _ e => e) (fun h' u tk hk => ⟨.str d.shown, H, I.kept hk, ⟨_, rfl⟩, q⟩) small
  cases R with
  | none => exact PySem.P.repr_of_none ⟨.str _, H, I.tok _, ⟨_, rfl⟩, q⟩
  | bool b => exact PySem.P.repr_of_bool ⟨.str _, H, I.tok _, ⟨_, rfl⟩, q⟩
  | int i t => exact PySem.P.repr_of_int (by simpa [PyData.showable] using s1) ⟨.str _, H, I.tok _, ⟨_, rfl⟩, q⟩
  | str y t => exact PySem.P.repr_of_str ⟨.str _, H, I.tok _, ⟨_, rfl⟩, q⟩ small
  | list h1 h2 h3 h4 => exact big _ rfl
  | tuple h1 h2 h3 h4 => exact big _ rfl
  | dict h1 h2 h3 h4 h5 => exact big _ rfl
end KW
namespace KW
open PySem PySem.Spec PyProof.Rows L2 KZ KS KP DC
/-! what is drawn makes a shop and a world -/
theorem eqs (a b : Str) : PyData.eqv (.str a) (.str b) = decide (a = b) := by
  simp only [PyData.eqv]
  by_cases h : a = b
  · subst h; simp
  · rw [decide_eq_false h]; exact beq_eq_false_iff_ne.mpr h
theorem any_str {zs : List Str} {c : Str} : ((zs.map PyData.str).any fun z => PyData.eqv z (.str c)) = decide (c ∈ zs) := by
  induction zs with
  | nil => simp
  | cons z zs ih =>
    rw [List.map_cons, List.any_cons, ih, eqs]
    by_cases h : z = c
    · subst h; simp
    · rw [decide_eq_false h, Bool.false_or]
      simp [List.mem_cons, Ne.symm h]
theorem nm_B {z : Str} (h : Nm z) : nameB z = true := by
  obtain ⟨l, rfl, az, h1, h2, _⟩ := h
  unfold nameB
  rw [ofL_len]
  simp only [Bool.and_eq_true, decide_eq_true_eq]
  refine ⟨⟨h1, h2⟩, List.all_eq_true.mpr fun c hc => decide_eq_true ?_⟩
  obtain ⟨a1, a2⟩ := az c hc
  rw [small_list]
  exact List.mem_map.mpr ⟨c - 97, List.mem_range.mpr (by omega), by omega⟩
theorem nm_len {z : Str} (h : Nm z) : z.length ≤ 8 := by
  obtain ⟨l, rfl, _, _, h2, _⟩ := h
  rw [ofL_len]
  exact h2
theorem nm_Z {z : Str} (h : Nm z) : zB z = true := by
  obtain ⟨l, rfl, az, _, h2⟩ := h
  unfold zB
  rw [ofL_len, Bool.and_eq_true, decide_eq_true_eq]
  refine ⟨by omega, List.all_eq_true.mpr fun c hc => decide_eq_true ?_⟩
  have := az c hc
  omega
theorem slt_lt {a b : Str} (h : slt a b) : W.dataLt (.str a) (.str b) = true := by
  rw [W.dataLt_str]
  exact decide_eq_true h
theorem asc_of {ds : List PyData} (h : ds.Pairwise fun a b => W.dataLt a b = true) : ascD ds = true := by
  unfold ascD
  refine List.all_eq_true.mpr fun k hk => ?_
  have hk := List.mem_range.mp hk
  have h1 : k < ds.length := by omega
  have h2 : k + 1 < ds.length := by omega
  have e1 : ds.getD k .none = ds[k] := by simp [List.getD, h1]
  have e2 : ds.getD (k + 1) .none = ds[k + 1] := by simp [List.getD, h2]
  rw [e1, e2]
  exact List.pairwise_iff_getElem.mp h k (k + 1) h1 h2 (by omega)
theorem gnOf_of : ∀ gs : List Grp, gnOf (gs.map gD) = some gs
  | [] => rfl
  | g :: gs => by
    show (strsOf (g.2.map .str)).bind _ = _
    rw [strsOf_of, Option.bind_some]
    show (gnOf (gs.map gD)).map _ = _
    rw [gnOf_of gs]
    rfl
theorem grpsOf_of : ∀ gs : List Grp, grpsOf (gs.map gD) = gs
  | [] => rfl
  | g :: gs => by
    show (g.1, (strsD (g.2.map .str)).getD []) :: grpsOf (gs.map gD) = _
    rw [strsD_map, grpsOf_of gs]
    rfl
section
variable {gs : List Grp}
theorem good_nm (G : GoodGs gs) : (∀ g ∈ gs, Nm g.1) ∧ ∀ g ∈ gs, ∀ c ∈ g.2, Nm c := by
  refine ⟨fun g hg => G.nm.2 _ (List.mem_append_left _ (List.mem_map_of_mem hg)), fun g hg c hc => G.nm.2 _ (List.mem_append_right _ (List.mem_flatMap.mpr ⟨g, hg, hc⟩))⟩
theorem good_groups (G : GoodGs gs) : groupsOk (.tuple (gs.map gD)) = true ∧ groupsD (.tuple (gs.map gD)) = true := by
  obtain ⟨n1, n2⟩ := good_nm G
  have l3 := G.le
  have hsts : ∀ zs : List Str, (∀ z ∈ zs, Nm z) → (zs.map PyData.str).all strOk = true := fun zs h => List.all_eq_true.mpr fun d hd => by
    obtain ⟨z, hz, rfl⟩ := List.mem_map.mp hd
    have := nm_len (h z hz)
    exact decide_eq_true (by rw [sizeLine_eq]; omega)
  refine ⟨?_, ?_⟩
  · unfold groupsOk
    rw [Bool.and_eq_true, decide_eq_true_eq, List.length_map]
    refine ⟨by omega, List.all_eq_true.mpr fun d hd => ?_⟩
    obtain ⟨g, hg, rfl⟩ := List.mem_map.mp hd
    have h1 := nm_len (n1 g hg)
    have h2 := (G.ch g hg).2.1
    show (decide (g.1.length ≤ sizeLine) && (decide ((g.2.map PyData.str).length ≤ 1000) && (g.2.map PyData.str).all strOk)) = true
    rw [hsts g.2 (n2 g hg), List.length_map, Bool.and_true, Bool.and_eq_true, decide_eq_true_eq, decide_eq_true_eq, sizeLine_eq]
    omega
  · unfold groupsD
    rw [Bool.and_eq_true, Bool.and_eq_true, grpsOf_of]
    refine ⟨?_, List.all_eq_true.mpr fun d hd => ?_, ?_⟩
    · unfold rowB
      have := List.length_pos_iff.mpr G.ne
      rw [Bool.and_eq_true, decide_eq_true_eq, decide_eq_true_eq, List.length_map]
      omega
    · obtain ⟨g, hg, rfl⟩ := List.mem_map.mp hd
      obtain ⟨c1, c2, c3⟩ := G.ch g hg
      have := List.length_pos_iff.mpr c1
      show (nameB g.1 && (rowB (.tuple (g.2.map .str)) 1 4 && ((g.2.map PyData.str).all nameD && ascD (g.2.map PyData.str)))) = true
      rw [nm_B (n1 g hg), Bool.true_and, Bool.and_eq_true, Bool.and_eq_true]
      refine ⟨?_, List.all_eq_true.mpr fun d hd => ?_, asc_of (List.pairwise_map.mpr (c3.imp fun h => slt_lt h))⟩
      · unfold rowB
        rw [Bool.and_eq_true, decide_eq_true_eq, decide_eq_true_eq, List.length_map]
        omega
      · obtain ⟨z, hz, rfl⟩ := List.mem_map.mp hd
        exact nm_B (n2 g hg z hz)
    · unfold restG
      rw [Bool.and_eq_true, Bool.and_eq_true, decide_eq_true_eq, decide_eq_true_eq]
      have := G.tot
      refine ⟨asc_of (List.pairwise_map.mpr ((List.pairwise_map.mp G.asc).imp fun {a b} h => ?_)), by omega, G.nm.1⟩
      rw [gD_lt (slt_ne h)]
      exact decide_eq_true h
theorem homes_keys (gs : List Grp) : (homesN gs).map (·.1) = (gs.flatMap (·.2)).map fun c => (Sum.inr c : L2.Key) := by
  unfold homesN
  rw [List.map_flatMap, List.map_flatMap]
  congr 1
  funext g
  rw [List.map_map]
  rfl
theorem good_shop {CS : Addr} (G : GoodGs gs) : semShopI CS [.d (.tuple (gs.map gD))] = some (shopI gs) := by
  show (gnOf (gs.map gD)).bind _ = _
  rw [gnOf_of, Option.bind_some]
  obtain ⟨h1, h2⟩ := good_groups G
  have nd := (List.nodup_append.mp G.nm.1).2.1
  refine if_pos ⟨h1, h2, ?_, ?_⟩
  · rw [homes_keys]
    exact List.pairwise_map.mpr (nd.imp fun ne e => ne (Sum.inr.inj e))
  · have e := congrArg List.length (homes_keys gs)
    rw [List.length_map, List.length_map] at e
    have := G.tot
    omega
theorem valD_nd : ∀ {kvs : List (L2.Key × PyData)} {k : L2.Key} {v : PyData}, (kvs.map (·.1)).Nodup → (k, v) ∈ kvs → valD kvs k = some v
  | [], _, _, _, h => absurd h List.not_mem_nil
  | p :: kvs, k, v, nd, h => by
    rw [List.map_cons, List.nodup_cons] at nd
    unfold valD
    rw [List.find?_cons]
    rcases List.mem_cons.mp h with rfl | h
    · simp
    · have ne : p.1 ≠ k := fun e => nd.1 (by rw [e]; exact List.mem_map.mpr ⟨_, h, rfl⟩)
      rw [decide_eq_false ne]
      exact valD_nd nd.2 h
theorem home_val (G : GoodGs gs) {g : Grp} {c : Str} (hg : g ∈ gs) (hc : c ∈ g.2) : valD (homesN gs) (Sum.inr c) = some (.str g.1) := by
  have nd := (List.nodup_append.mp G.nm.1).2.1
  refine valD_nd ?_ ?_
  · rw [homes_keys]
    exact List.pairwise_map.mpr (nd.imp fun ne e => ne (Sum.inr.inj e))
  · exact List.mem_flatMap.mpr ⟨g, hg, List.mem_map.mpr ⟨c, hc, rfl⟩⟩
end
end KW
namespace KW
open PySem PySem.Spec PyProof.Rows L2 KZ KS KP
theorem plainAll_m : ∀ {ds : List PyData}, (∀ d ∈ ds, d.plain = true) → PyData.plainAll ds = true
  | [], _ => by simp [PyData.plainAll]
  | d :: ds, h => by
    simp only [PyData.plainAll, Bool.and_eq_true]
    exact ⟨h d (List.mem_cons_self ..), plainAll_m fun x hx => h x (List.mem_cons_of_mem _ hx)⟩
theorem depth_mem : ∀ (ds : List PyData) (d : PyData), d ∈ ds → d.depth ≤ PyData.depthAll ds
  | [], _, h => absurd h List.not_mem_nil
  | e :: ds, d, h => by
    simp only [PyData.depthAll]
    rcases List.mem_cons.mp h with rfl | h
    · omega
    · have := depth_mem ds d h
      omega
theorem plain_mem : ∀ {ds : List PyData}, PyData.plainAll ds = true → ∀ v ∈ ds, v.plain = true
  | [], _, _, h => by cases h
  | d :: ds, h, v, hv => by
    have z : d.plain = true ∧ PyData.plainAll ds = true := by simpa [PyData.plainAll, Bool.and_eq_true] using h
    rcases List.mem_cons.mp hv with e | e
    · rw [e]; exact z.1
    · exact plain_mem z.2 v e
abbrev dsOf (gs : List Grp) : List PyData := gs.map gD
abbrev csOf (gs : List Grp) : List PyData := (srtS (checksN gs)).map PyData.str
end KW
namespace KW
open PySem PySem.Spec PyProof.Rows L2 KZ KS KP DC LamX
/-! what stays where only tables are written -/
theorem en_of {H H' : Hp} (s : Sm H H') : ExtN H H' := ExtN.of s
theorem tabs_kp {J : Addr} {H H' : Hp} {c : Nat} {T : List (Addr × Str)} (k : Kp J H H') (j : Jar J H c) (t : Tabs T H) : Tabs T H' := fun p hp => by
  obtain ⟨m, s, z, hJ, _⟩ := j
  obtain ⟨ps, h1, h2, h3⟩ := t p hp
  refine ⟨ps, k _ _ h1 (fun e => by rw [e, hJ] at h1; cases h1), h2, fun pos cv hc => ?_⟩
  obtain ⟨c', e1, e2⟩ := h3 pos cv hc
  exact ⟨c', e1, k _ _ e2 (fun e => by rw [e, hJ] at e2; unfold CodeO at e2; cases e2)⟩
/-- where the walk of a def with lambdas stands -/
structure ScT (T : List (Addr × Str)) (J : Addr) (H0 : Hp) (c : Nat) (R H : Hp) : Prop where
  ext : Ext J H0 H
  jar : Jar J H c
  sm : ExtN R (dls [J] H)
  tabs : Tabs T H
theorem ScT.start {T : List (Addr × Str)} {J : Addr} {H : Hp} {c : Nat} (j : Jar J H c) (t : Tabs T H) : ScT T J H c (dls [J] H) H := ⟨Ext.refl J H, j, ExtN.refl _, t⟩
theorem ScT.new {T : List (Addr × Str)} {J : Addr} {H0 R H : Hp} {c : Nat} {l : Addr} {o : HO} (x : ScT T J H0 c R H) (h : H l = none) : ScT T J H0 c R (upd H l o) :=
  ⟨x.ext.new h, x.jar.new h, x.sm.trans (en_of (dls_new h)), x.tabs.ext (Sm.new (H := H) (H' := H) (fun _ _ e => e) h)⟩
theorem ScT.call {T : List (Addr × Str)} {J : Addr} {H0 R H H' : Hp} {c d : Nat} (x : ScT T J H0 c R H) (k : Kp J H H') (j : Jar J H' d) : ScT T J H0 d R H' :=
  ⟨x.ext.trans k.ext, j, x.sm.trans (en_of (dls_kp k (by simp))), tabs_kp k x.jar x.tabs⟩
theorem ScT.step {T : List (Addr × Str)} {J : Addr} {H0 R H H' : Hp} {c : Nat} (x : ScT T J H0 c R H) (s : Sm H H') : ScT T J H0 c R H' := ⟨x.ext.trans s.kp.ext, s.jar x.jar, x.sm.trans (en_of (dls_mono s)), x.tabs.ext s⟩
theorem ScT.re {T : List (Addr × Str)} {J : Addr} {H0 R H : Hp} {c : Nat} (x : ScT T J H0 c R H) : ScT T J H0 c (dls [J] H) H := ⟨x.ext, x.jar, ExtN.refl _, x.tabs⟩
theorem ScT.up {T : List (Addr × Str)} {J : Addr} {H0 R H : Hp} {c d : Nat} (x : ScT T J H0 c R H) (h : c ≤ d) : ScT T J H0 d R H := ⟨x.ext, x.jar.up h, x.sm, x.tabs⟩
theorem ScT.all {T : List (Addr × Str)} {J : Addr} {H0 R H : Hp} {c : Nat} (x : ScT T J H0 c R H) : ExtN R H := x.sm.trans (en_of (dls_sm _ _))
/-! calls with values that stand -/
section
variable {X : Cx}
def tMakeW (P : Program) (w : World) (K : PySem.W.Frag) (C : Addr) (n : Nat) (sem : List Wv → Option (List (Str × Wv))) (t : TA) : TE := fun σ H Q => t σ H fun vs H1 => ∃ ws fs, ws.length = n ∧ RWs P w K H1 vs ws ∧ okSs C ws = true ∧ sem ws = some fs ∧ ∀ v H', Sm H1 H' → RW P w K H' v (.ob C fs) → Q v H'
theorem pe_makeW {k j n : Nat} {sem : List Wv → Option (List (Str × Wv))} {x : Str} {C : Addr} {p pos : Pos} {e : Expr} {es : List Expr} {t : TA} (F : Pi_ X.prog X.w X.K X.mg X.base k x C n sem) (hr : Room j X.A) (hk : k + 1 ≤ j) (hg : Gl X x) (ha : PA X (e :: es) t)
    (hdb : (x == ("__debug__" : Str)) = false := by decide) (hs : starEach (e :: es) X.env = (false, eval e X.env) :: starEach es X.env := by rfl) (hpl : (backTo pos (starEach es X.env)).any (·.1) = false := by rfl) : PE X (.Call (.Name x p) (e :: es) [] pos) (tMakeW X.prog X.w X.K C n sem t) := by
  obtain ⟨f, fd, ps, M, F, gm, bd⟩ := F
  refine ⟨fun pins s σ H Q I h => ?_⟩
  refine wpAny_Call_Name_kw (ld_glob I hg gm ?_ hdb)
  refine PySem.W.callWith_K (h₀ := X.base) I.ok.mod.kin M.kp (thn (ha.run pos pins s σ H _ I h) fun us s1 ⟨vs, H1, I1, r, q⟩ => ⟨I1.kIn, ?_⟩) hs hpl
  refine run_make (sp := spInit X.prog X.w X.K C n sem) (dvs := []) M F (hr.mono hk) bd .nil pass0 I1 r (Q := Q) ?_
  obtain ⟨ws, fs, hn, r1, ho, es_, q⟩ := q
  intro x dx nx nd ne
  have sm : Sm H1 (upd (upd H1 dx (.own x)) x (.ins C dx [])) := fun b o e => by
    rw [upd_ne (ne_of_none e nx), upd_ne (ne_of_none e nd)]
    exact e
  show spInit X.prog X.w X.K C n sem (.ref x :: (vs ++ [])) _ _ E0
  rw [List.append_nil]
  refine ⟨x, dx, vs, ws, fs, rfl, by rw [r1.len]; exact hn, upd_same, rws_sm sm r1, ho, es_, fun H' bt rw' => ⟨rfl, q _ _ (fun b o e => ?_) rw'⟩⟩
  exact bt b o (sm b o e) (ne_of_none e nx)
end
/-! no object of a value is the jar -/
section
variable {P : Program} {w : World} {K : PySem.W.Frag} {J : Addr} {H : Hp} {c : Nat}
theorem jar_not {b : Addr} {o : HO} (j : Jar J H c) (h : H b = some o) (n : ∀ xs, o ≠ .lst xs) : dls [J] H b = some o := by
  obtain ⟨m, s, k, e, _⟩ := j
  refine dls_at h fun z => ?_
  rw [List.mem_singleton.mp z, e] at h
  cases h
  exact n _ rfl
mutual
theorem dp_nj (j : Jar J H c) : ∀ {v : V} {d : PyData}, noL d = true → Dp K H v d → Dp K (dls [J] H) v d
  | _, _, _, .non => .non
  | _, _, _, .bl b => .bl b
  | _, _, _, .int i => .int i
  | _, _, _, .str x => .str x
  | _, _, h, .lst _ _ => by cases h
  | _, _, h, .tup hs t => .tup (match hs with
      | .inl (.inl e) => .inl (.inl (jar_not j e fun xs z => by cases z))
      | .inl (.inr ⟨o, e⟩) => .inl (.inr ⟨o, jar_not j e fun xs z => by cases z⟩)
      | .inr e => .inr e) (dpa_nj j h t)
theorem dpa_nj (j : Jar J H c) : ∀ {v : List V} {d : List PyData}, noLs d = true → DpAll K H v d → DpAll K (dls [J] H) v d
  | _, _, _, .nil => .nil
  | _, _, h, .cons a t => .cons (dp_nj j (Bool.and_eq_true_iff.mp h).1 a) (dpa_nj j (Bool.and_eq_true_iff.mp h).2 t)
end
theorem pr_nj {α : Type} (j : Jar J H c) : ∀ {kvs : List (α × V)} {ds : List (α × PyData)}, noLs (ds.map (·.2)) = true → Paired (fun p q => p.1 = q.1 ∧ Dp K H p.2 q.2) kvs ds → Paired (fun p q => p.1 = q.1 ∧ Dp K (dls [J] H) p.2 q.2) kvs ds
  | _, _, _, .nil => .nil
  | _, _, h, .cons a t => .cons ⟨a.1, dp_nj j (Bool.and_eq_true_iff.mp h).1 a.2⟩ (pr_nj j (Bool.and_eq_true_iff.mp h).2 t)
theorem rw_d_nj (j : Jar J H c) {v : V} {x : PyData} (n : noL x = true) (h : RW P w K H v (.d x)) : RW P w K (dls [J] H) v (.d x) := by
  cases h with
  | d h => exact .d (dp_nj j n h)
theorem rw_dk_nj (j : Jar J H c) {v : V} {kvs : List (L2.Key × PyData)} (n : noLs (kvs.map (·.2)) = true) (h : RW P w K H v (.dk kvs)) : RW P w K (dls [J] H) v (.dk kvs) := by
  cases h with
  | dk h t => exact .dk (jar_not j h fun xs z => by cases z) (pr_nj j n t)
end
end KW
namespace KW
open PySem PySem.Spec PyProof.Rows L2 KZ KS KP DC LamX KH
theorem dp_strs {K : PySem.W.Frag} {H : Hp} : ∀ zs : List Str, DpAll K H (zs.map V.str) (zs.map PyData.str)
  | [] => .nil
  | z :: zs => .cons (.str z) (dp_strs zs)
theorem gsAt_dp {K : PySem.W.Frag} {H : Hp} {p : Addr} {gs : List Grp} (h : GsAt H p gs) : Dp K H (.ref p) (.tuple (dsOf gs)) := by
  obtain ⟨rs, hp, pr⟩ := h
  refine .tup (SqT.of hp) ?_
  have go : ∀ {rs : List (Addr × Addr)} {gs : List Grp}, Paired (fun r g => H r.1 = some (.tup [.str g.1, .ref r.2]) ∧ H r.2 = some (.tup (g.2.map V.str))) rs gs → DpAll K H (rs.map fun r => V.ref r.1) (gs.map gD) := by
    intro rs gs pr
    induction pr with
    | nil => exact .nil
    | @cons r g rs gs hx _ ih => exact .cons (.tup (SqT.of hx.1) (.cons (.str _) (.cons (.tup (SqT.of hx.2) (dp_strs _)) .nil))) ih
  exact go pr
end KW
namespace KW
open PySem PySem.Spec PyProof.Rows L2 KZ KS KP DC
/-! events, and the fillings of a log: on data -/
inductive Ev where
  | fresh (w : Str)
  | gap (w : Str)
  | clear
  | run (w : Str) (t : Th) (o : Option Str)
def outD : Option Str → PyData
  | none => .none
  | some z => .str z
def evD : Ev → PyData
  | .fresh w => .tuple [.str "fresh", .str w]
  | .gap w => .tuple [.str "gap", .str w]
  | .clear => .tuple [.str "clear"]
  | .run w t o => .tuple [.str "run", .str w, thD t, outD o]
def untD : Ev → Bool
  | .run _ _ none => true
  | _ => false
def outsU : List Str := ["fail", "pass", "skip"]
/-- what was open, where w turns to z -/
def updF (o : Str → Str) (w z : Str) : Str → Str := fun x => if x = w then z else o x
section
variable (hm : Str → Str)
/-- what is open behind an event that is told -/
def stepO (o : Str → Str) : Ev → Str → Str
  | .fresh w => updF o w ""
  | .gap w => updF o w ""
  | .clear => o
  | .run w t out => updF o w (if out = some "skip" then "" else hm t.1)
def outsOf : Option Str → List Str
  | none => outsU
  | some z => [z]
def tellsOf (o : Str → Str) : Ev → List Ev
  | .run w t out => ((outsOf out).filter fun (z : Str) => !(decide (o w = hm t.1) && decide (z = "skip"))).map fun z => .run w t (some z)
  | e => [e]
def outE : Ev → List Str
  | .run _ _ (some z) => [z]
  | _ => []
/-- what a telling adds to a filling -/
def addE (e t : Ev) : List Str := if untD e = true then outE t else []
abbrev RowP := List Str × (Str → Str)
def stepP (e : Ev) (rows : List RowP) : List RowP := rows.flatMap fun r => (tellsOf hm r.2 e).map fun t => (r.1 ++ addE e t, stepO hm r.2 t)
def rowsP (page : List Ev) : List RowP := page.foldl (fun rs e => stepP hm e rs) [([], fun _ => "")]
def fillsP (page : List Ev) : List (List Str) := (rowsP hm page).map (·.1)
/-- the law's: all rows of outcomes -/
def stepL (e : Ev) (L : List (List Str)) : List (List Str) := if untD e = true then L.flatMap fun f => outsU.map fun z => f ++ [z] else L
def prodL (page : List Ev) : List (List Str) := page.foldl (fun L e => stepL e L) [[]]
/-- the law's walk -/
def lettE (n : Nat) (w : Str) (t : Th) (z el : Str) : List PyData :=
  (if el = "" ∨ el = hm t.1 then [] else [.tuple [.int n, .str w, .tuple [.str "close", .str el]]]) ++
  ((if el = hm t.1 then [] else [.tuple [.int n, .str w, .tuple [.str (if z = "skip" then "fail" else "pass"), thD (hm t.1, 0)]]]) ++
  (if z = "skip" then [] else [.tuple [.int n, .str w, if z = "cut" then .tuple [.str "cut", .int n] else .tuple [.str z, thD t]]]))
def goB (n : Nat) (o : Str → Str) (rest : List Str) : List Ev → Option (List PyData)
  | [] => some []
  | .fresh w :: p => goB (n + 1) (updF o w "") rest p
  | .gap w :: p => (goB (n + 1) (updF o w "") rest p).map fun l => .tuple [.int n, .str w, .tuple [.str "gap", .int n]] :: l
  | .clear :: p => goB (n + 1) o rest p
  | .run w t out :: p => match out, rest with
    | none, [] => none
    | none, z :: rest => if z = "skip" ∧ o w = hm t.1 then none else (goB (n + 1) (updF o w (if z = "skip" then "" else hm t.1)) rest p).map fun l => lettE hm n w t z (o w) ++ l
    | some z, rest => if z = "skip" ∧ o w = hm t.1 then none else (goB (n + 1) (updF o w (if z = "skip" then "" else hm t.1)) rest p).map fun l => lettE hm n w t z (o w) ++ l
def extP (o : Str → Str) : List Ev → List (List Str)
  | [] => [[]]
  | e :: p => (tellsOf hm o e).flatMap fun t => (extP (stepO hm o t) p).map fun f => addE e t ++ f
def prodR : List Ev → List (List Str)
  | [] => [[]]
  | e :: p => if untD e = true then outsU.flatMap fun z => (prodR p).map fun f => z :: f else prodR p
theorem rowsP_ext : ∀ (page : List Ev) (rs : List RowP), (page.foldl (fun rs e => stepP hm e rs) rs).map (·.1) = rs.flatMap fun r => (extP hm r.2 page).map fun f => r.1 ++ f
  | [], rs => by
    simp only [List.foldl_nil, extP, List.map_cons, List.map_nil, List.append_nil]
    induction rs with
    | nil => rfl
    | cons r rs ih => rw [List.map_cons, ih, List.flatMap_cons]; rfl
  | e :: p, rs => by
    rw [List.foldl_cons, rowsP_ext p (stepP hm e rs), stepP, List.flatMap_assoc]
    congr 1
    funext r
    rw [extP, List.flatMap_map, List.map_flatMap]
    congr 1
    funext t
    rw [List.map_map]
    congr 1
    funext f
    simp
theorem prodL_R : ∀ (page : List Ev) (L : List (List Str)), page.foldl (fun L e => stepL e L) L = L.flatMap fun f => (prodR page).map fun g => f ++ g
  | [], L => by
    simp only [List.foldl_nil, prodR, List.map_cons, List.map_nil, List.append_nil]
    induction L with
    | nil => rfl
    | cons r rs ih => rw [List.flatMap_cons, ← ih]; rfl
  | e :: p, L => by
    rw [List.foldl_cons, prodL_R p]
    show (stepL e L).flatMap _ = L.flatMap fun f => (if untD e = true then outsU.flatMap fun z => (prodR p).map fun f => z :: f else prodR p).map fun g => f ++ g
    unfold stepL
    by_cases h : untD e = true
    · rw [if_pos h, if_pos h, List.flatMap_assoc]
      congr 1
      funext f
      rw [List.flatMap_map, List.map_flatMap]
      congr 1
      funext z
      rw [List.map_map]
      congr 1
      funext g
      simp
    · rw [if_neg h, if_neg h]
theorem filter_flatMap {α β : Type} (p : β → Bool) (f : α → List β) : ∀ l : List α, (l.flatMap f).filter p = l.flatMap fun x => (f x).filter p
  | [] => rfl
  | x :: l => by rw [List.flatMap_cons, List.flatMap_cons, List.filter_append, filter_flatMap p f l]
theorem flatMap_filter {α β : Type} (p : α → Bool) (f : α → List β) : ∀ l : List α, (l.filter p).flatMap f = l.flatMap fun x => if p x = true then f x else []
  | [] => rfl
  | x :: l => by
    rw [List.flatMap_cons, ← flatMap_filter p f l]
    cases h : p x with
    | true => rw [List.filter_cons_of_pos h, List.flatMap_cons, if_pos rfl]
    | false => rw [List.filter_cons_of_neg (by simp [h]), if_neg (by simp)]; rfl
theorem ext_prod : ∀ (page : List Ev) (n : Nat) (o : Str → Str), extP hm o page = (prodR page).filter fun f => (goB hm n o f page).isSome
  | [], n, o => rfl
  | .fresh w :: p, n, o => by
    show ([Ev.fresh w].flatMap fun t => (extP hm (stepO hm o t) p).map fun f => addE (.fresh w) t ++ f) = (prodR p).filter fun f => (goB hm (n + 1) (updF o w "") f p).isSome
    rw [← ext_prod p]
    simp [addE, untD, stepO]
  | .gap w :: p, n, o => by
    show ([Ev.gap w].flatMap fun t => (extP hm (stepO hm o t) p).map fun f => addE (.gap w) t ++ f) = (prodR p).filter fun f => ((goB hm (n + 1) (updF o w "") f p).map _).isSome
    simp only [Option.isSome_map]
    rw [← ext_prod p]
    simp [addE, untD, stepO]
  | .clear :: p, n, o => by
    show ([Ev.clear].flatMap fun t => (extP hm (stepO hm o t) p).map fun f => addE .clear t ++ f) = (prodR p).filter fun f => (goB hm (n + 1) o f p).isSome
    rw [← ext_prod p]
    simp [addE, untD, stepO]
  | .run w t (some z) :: p, n, o => by
    show ((tellsOf hm o (.run w t (some z))).flatMap fun t' => (extP hm (stepO hm o t') p).map fun f => addE (.run w t (some z)) t' ++ f) = (prodR p).filter fun f => (goB hm n o f (.run w t (some z) :: p)).isSome
    show ((([z].filter fun (z : Str) => !(decide (o w = hm t.1) && decide (z = "skip"))).map fun z => Ev.run w t (some z)).flatMap fun t' => (extP hm (stepO hm o t') p).map fun f => addE (.run w t (some z)) t' ++ f) = _
    by_cases h : z = "skip" ∧ o w = hm t.1
    · have e1 : ([z].filter fun (z : Str) => !(decide (o w = hm t.1) && decide (z = "skip"))) = [] := by simp [h.1, h.2]
      rw [e1]
      have e2 : ∀ f, goB hm n o f (.run w t (some z) :: p) = none := fun f => by
        exact if_pos h
      simp only [e2]
      simp
    · have e1 : ([z].filter fun (z : Str) => !(decide (o w = hm t.1) && decide (z = "skip"))) = [z] := by
        rw [List.filter_cons_of_pos]
        · rfl
        · simp only [Bool.not_eq_true', Bool.and_eq_false_iff, decide_eq_false_iff_not]
          by_cases h2 : o w = hm t.1
          · exact .inr fun z => h ⟨z, h2⟩
          · exact .inl h2
      rw [e1]
      have e2 : ∀ f, (goB hm n o f (.run w t (some z) :: p)).isSome = (goB hm (n + 1) (updF o w (if z = "skip" then "" else hm t.1)) f p).isSome := fun f => by
        rw [show goB hm n o f (.run w t (some z) :: p) = (goB hm (n + 1) (updF o w (if z = "skip" then "" else hm t.1)) f p).map fun l => lettE hm n w t z (o w) ++ l from if_neg h, Option.isSome_map]
      simp only [e2]
      rw [← ext_prod p]
      simp [addE, untD, stepO]
  | .run w t none :: p, n, o => by
    show ((tellsOf hm o (.run w t none)).flatMap fun t' => (extP hm (stepO hm o t') p).map fun f => addE (.run w t none) t' ++ f) = (outsU.flatMap fun z => (prodR p).map fun f => z :: f).filter fun f => (goB hm n o f (.run w t none :: p)).isSome
    show (((outsU.filter fun (z : Str) => !(decide (o w = hm t.1) && decide (z = "skip"))).map fun z => Ev.run w t (some z)).flatMap fun t' => (extP hm (stepO hm o t') p).map fun f => addE (.run w t none) t' ++ f) = _
    rw [List.flatMap_map, flatMap_filter, filter_flatMap]
    congr 1
    funext z
    rw [List.filter_map]
    by_cases h : z = "skip" ∧ o w = hm t.1
    · rw [if_neg (by simp [h.1, h.2])]
      have e2 : ((fun f => (goB hm n o f (.run w t none :: p)).isSome) ∘ fun f => z :: f) = fun _ => false := by
        funext f
        show (goB hm n o (z :: f) (.run w t none :: p)).isSome = false
        rw [show goB hm n o (z :: f) (.run w t none :: p) = none from if_pos h]
        rfl
      rw [e2]
      simp
    · rw [if_pos (by
        simp only [Bool.not_eq_true', Bool.and_eq_false_iff, decide_eq_false_iff_not]
        by_cases h2 : o w = hm t.1
        · exact .inr fun z => h ⟨z, h2⟩
        · exact .inl h2)]
      have e2 : ((fun f => (goB hm n o f (.run w t none :: p)).isSome) ∘ fun f => z :: f) = fun f => (goB hm (n + 1) (updF o w (if z = "skip" then "" else hm t.1)) f p).isSome := by
        funext f
        show (goB hm n o (z :: f) (.run w t none :: p)).isSome = _
        rw [show goB hm n o (z :: f) (.run w t none :: p) = (goB hm (n + 1) (updF o w (if z = "skip" then "" else hm t.1)) f p).map fun l => lettE hm n w t z (o w) ++ l from if_neg h, Option.isSome_map]
      rw [e2, ← ext_prod p]
      simp [addE, untD, outE, stepO]
/-- the program's fillings are the law's -/
theorem fills_are (page : List Ev) : fillsP hm page = (prodL page).filter fun f => (goB hm 0 (fun _ => "") f page).isSome := by
  unfold fillsP rowsP prodL
  rw [rowsP_ext, prodL_R, List.flatMap_cons, List.flatMap_nil, List.append_nil, List.flatMap_cons, List.flatMap_nil, List.append_nil, ext_prod hm page 0]
  simp
end
end KW
namespace KW
open PySem PySem.Spec PyProof.Rows L2 KZ KS KP DC
/-! x is None; _is_untold, is_event -/
def noneB : PyData → Bool
  | .none => true
  | _ => false
def oIsN (a b : Wv) : Option Wv := match a, b with
  | .d x, .d .none => some (bF (noneB x))
  | _, _ => none
theorem m_isN {X : Cx} : Meets2 X (fun x y H Q => y = .non ∧ Q (.bl (decide (x = .non))) H) oIsN := by
  intro H x y a b c Q ra rb e q
  unfold oIsN at e
  split at e
  · rename_i d
    cases e
    have hy : y = .non := by
      cases rw_d rb
      rfl
    refine ⟨hy, q _ _ (Sm.rfl' H) ?_⟩
    have := rw_d ra
    cases this <;> exact .d (.bl _)
  · cases e
abbrev iUnt : Nat := 34
abbrev iEvent : Nat := 26
theorem scUnt : FnScope ["event"] ["event"] (defScope (topAt iUnt)) := ⟨rfl, rfl, rfl, by decide +kernel, rfl, by decide +kernel, by decide +kernel⟩
/-- data that is an event's -/
def evOf : PyData → Option Ev
  | .tuple [.str a] => if a = "clear" then some .clear else none
  | .tuple [.str a, .str w] => if a = "fresh" then some (.fresh w) else if a = "gap" then some (.gap w) else none
  | .tuple [.str a, .str w, .tuple [.str c, .int n], .none] => if a = "run" then some (.run w (c, n) none) else none
  | .tuple [.str a, .str w, .tuple [.str c, .int n], .str z] => if a = "run" then some (.run w (c, n) (some z)) else none
  | _ => none
theorem evOf_D (e : Ev) : evOf (evD e) = some e := by
  cases e with
  | fresh w => rfl
  | gap w => rfl
  | clear => rfl
  | run w t o => cases o <;> rfl
theorem evD_of {d : PyData} {e : Ev} (h : evOf d = some e) : d = evD e := by
  unfold evOf at h
  split at h
  · split at h
    · rename_i h1
      cases h
      rw [h1]
      rfl
    · cases h
  · split at h
    · rename_i h1
      cases h
      rw [h1]
      rfl
    · split at h
      · rename_i h1
        cases h
        rw [h1]
        rfl
      · cases h
  · split at h
    · rename_i h1
      cases h
      rw [h1]
      rfl
    · cases h
  · split at h
    · rename_i h1
      cases h
      rw [h1]
      rfl
    · cases h
  · cases h
def semUnt : List Wv → Option Wv
  | [.d v] => (evOf v).map fun e => bF (untD e)
  | _ => none
def toldW : List Str := ["cut", "fail", "pass", "skip"]
def toldB : Option Str → Bool
  | none => true
  | some z => decide (z ∈ toldW)
/-- an event of a shop of these checks -/
def evB (cs : List PyData) : Ev → Bool
  | .fresh w => nameB w
  | .gap w => nameB w
  | .clear => true
  | .run w t o => nameB w && (inOk cs (.str t.1) && ((cs.any fun y => PyData.eqv y (.str t.1)) && (decide (1 ≤ t.2) && (decide (t.2 ≤ 9) && toldB o))))
def semEvent (C : Addr) : List Wv → Option Wv
  | [x, .d v] => shSem C x fun ds cs => (evOf v).bind fun e => if evB cs e = true then some (bF true) else none
  | _ => none
section
variable {P : Program} {w : World} {K : PySem.W.Frag} {mg : Str → Option Value} {base : Heap} {C : Addr}
theorem pu_unt (F : FG K mg iUnt "_is_untold") : Pu P w K mg base 1 "_is_untold" 1 semUnt := by
  obtain ⟨f, fd, F, gm⟩ := F
  refine ⟨f, fd, ["event"], okW F scUnt rfl fun cdv A outer s H E hr => ?_, gm, F.kp, F.bindsN fun _ _ _ _ _ _ us hl => match us, hl with | [_], _ => rfl⟩
  refine ⟨_, wss_one (ws_ret (we_and (we_cmp (NL.op_eqP (hu30 hr)) (m_eq false) (we_ix ix_seq m_ix (we_v (pv 0)) (we_c pe_int) (fun _ _ => rfl)) (we_c pe_str) (nomark _))
    (we_one (we_cmp op_isN m_isN (we_ix ix_seq m_ix (we_v (pv 0)) (we_c pe_int) (fun _ _ => rfl)) (we_c pe_non) (nomark _))))), ?_⟩
  rintro ws hl r e
  match ws, hl with
  | [x], _ =>
    unfold semUnt at e
    split at e
    · rename_i v hx
      cases hx
      obtain ⟨ev, h1, rfl⟩ := Option.map_eq_some_iff.mp e
      obtain rfl := evD_of h1
      cases ev with
      | fresh w => rfl
      | gap w => rfl
      | clear => rfl
      | run w t o => cases o <;> rfl
    · cases e
theorem scEvent : FnScope ["shop", "value", "word"] ["shop", "value"] (defScope (topAt iEvent)) := ⟨rfl, rfl, rfl, by decide +kernel, rfl, by decide +kernel, by decide +kernel⟩
theorem eqs_W (a b : Str) : oEq false (.d (.str a)) (.d (.str b)) = some (bF (decide (a = b))) := by
  show (if (PyData.str a).plain = true ∧ (PyData.str b).plain = true ∧ min (PyData.str a).depth (PyData.str b).depth ≤ 20 then some (bF (false ^^ PyData.eqv (.str a) (.str b))) else none) = _
  rw [if_pos ⟨by simp [PyData.plain], by simp [PyData.plain], by simp [PyData.depth]⟩, Bool.false_xor]
  rw [show PyData.eqv (.str a) (.str b) = decide (a = b) from eqs a b]
theorem plainAll_strs : ∀ zs : List Str, PyData.plainAll (zs.map .str) = true
  | [] => by simp [PyData.plainAll]
  | z :: t => by simp [PyData.plainAll, PyData.plain, plainAll_strs t]
theorem depthAll_strs : ∀ zs : List Str, PyData.depthAll (zs.map .str) = 0
  | [] => by simp [PyData.depthAll]
  | z :: t => by simp [PyData.depthAll, PyData.depth, depthAll_strs t]
theorem ins_W (zs : List Str) (z : Str) : oIn false (.d (.str z)) (.d (.tuple (zs.map .str))) = some (bF (decide (z ∈ zs))) := by
  show (if (PyData.str z).plain = true ∧ PyData.plainAll (zs.map .str) = true ∧ min (PyData.depthAll (zs.map .str)) (PyData.str z).depth ≤ 20 then some (bF (false ^^ (zs.map PyData.str).any fun y => PyData.eqv y (.str z))) else none) = _
  rw [if_pos ⟨by simp [PyData.plain], plainAll_strs zs, by rw [depthAll_strs]; simp⟩, Bool.false_xor, any_str]
theorem nameB_ok {z : Str} (h : nameB z = true) : strOk (.str z) = true := by
  unfold nameB at h
  simp only [Bool.and_eq_true, decide_eq_true_eq] at h
  have : (8 : Nat) ≤ sizeLine := by decide
  exact decide_eq_true (by omega)
theorem semName_of {z : Str} (h : nameB z = true) : semName [.d (.str z)] = some (bF true) := by
  show (if strOk (.str z) = true then some (bF (nameD (.str z))) else none) = _
  rw [if_pos (nameB_ok h)]
  show some (bF (nameB z)) = _
  rw [h]
theorem pu_event {aT : Addr} (T : ShopT K C) (hrow : Pu P w K mg base 1 "is_row" 3 semRow) (hnam : Pu P w K mg base 1 "is_name" 1 semName) (hit : Pm P w K mg base 2 C "is_item" 2 (semItem C)) (F : FG K mg iEvent "is_event") (gl : mg "len" = none) (gT : mg "TOLD_OUTCOMES" = some (.ref aT)) (dT : ∀ H, Dp K H (.ref aT) (.tuple (toldW.map .str))) : Pu P w K mg base 3 "is_event" 2 (semEvent C) := by
  obtain ⟨f, fd, F, gm⟩ := F
  refine ⟨f, fd, ["shop", "value"], okW F scEvent rfl fun cdv A outer s H E hr => ?_, gm, F.kp, F.bindsN fun _ _ _ _ _ _ us hl => match us, hl with | [_, _], _ => rfl⟩
  refine ⟨_, wss_cons (ws_if (wt_not (wt_val (we_call hrow hr (by decide) (by rfl) (wa_cons (we_v (pv 1)) (wa_cons (we_c pe_int) (wa_cons (we_c pe_int) wa_nil)))))) (wss_one (ws_ret (we_c pe_bl))) wss_nil)
    (wss_cons (ws_set (i := 2) scEvent.nd rfl (Or.inl rfl) (we_ix ix_seq m_ix (we_v (pv 1)) (we_c pe_int) (fun _ _ => rfl)))
    (wss_cons (ws_if (wt_cmp (NL.op_eqP (hu30 hr)) (m_eq false) (we_v (pv 2)) (we_c pe_str) (nomark _))
        (wss_one (ws_ret (we_cmp (NL.op_eqP (hu30 hr)) (m_eq false) (we_blt call_len m_len (by rfl) gl PySem.boot_len (wa_cons (we_v (pv 1)) wa_nil)) (we_c pe_int) (nomark _)))) wss_nil)
    (wss_cons (ws_if (wt_cmp (op_inW (hu30 hr)) m_in (we_v (pv 2)) (we_tup (wa_cons (we_c pe_str) (wa_cons (we_c pe_str) wa_nil))) rfl)
        (wss_one (ws_ret (we_and (we_cmp (NL.op_eqP (hu30 hr)) (m_eq false) (we_blt call_len m_len (by rfl) gl PySem.boot_len (wa_cons (we_v (pv 1)) wa_nil)) (we_c pe_int) (nomark _)) (we_one (we_call hnam hr (by decide) (by rfl) (wa_cons (we_ix ix_seq m_ix (we_v (pv 1)) (we_c pe_int) (fun _ _ => rfl)) wa_nil)))))) wss_nil)
    (wss_cons (ws_if (wt_ww (ww_or (wt_cmp (NL.op_neP (hu30 hr)) (m_eq true) (we_v (pv 2)) (we_c pe_str) (nomark _)) (ww_or1 (wt_cmp (NL.op_neP (hu30 hr)) (m_eq true) (we_blt call_len m_len (by rfl) gl PySem.boot_len (wa_cons (we_v (pv 1)) wa_nil)) (we_c pe_int) (nomark _)))))
        (wss_one (ws_ret (we_c pe_bl))) wss_nil)
    (wss_one (ws_ret (we_and (we_call hnam hr (by decide) (by rfl) (wa_cons (we_ix ix_seq m_ix (we_v (pv 1)) (we_c pe_int) (fun _ _ => rfl)) wa_nil))
      (we_and (we_meth hit hr (by decide) T.cls (we_v (pv 0)) (wa_cons (we_ix ix_seq m_ix (we_v (pv 1)) (we_c pe_int) (fun _ _ => rfl)) wa_nil))
      (we_one (we_or (we_cmp op_isN m_isN (we_ix ix_seq m_ix (we_v (pv 1)) (we_c pe_int) (fun _ _ => rfl)) (we_c pe_non) (nomark _))
        (we_one (we_cmp (op_inW (hu30 hr)) m_in (we_ix ix_seq m_ix (we_v (pv 1)) (we_c pe_int) (fun _ _ => rfl)) (we_k (pe_glob (v := .ref aT) rfl gT rfl) dT) rfl)))))))))))), ?_⟩
  rintro ws hl r e
  match ws, hl with
  | [x, y], _ =>
    unfold semEvent at e
    split at e
    · rename_i x' v hx
      cases hx
      obtain ⟨ds, cs, hs, rfl, e2⟩ := shSem_of e
      obtain ⟨ev, h1, e3⟩ := Option.bind_eq_some_iff.mp e2
      obtain rfl := evD_of h1
      by_cases hB : evB cs ev = true
      · rw [if_pos hB] at e3
        cases e3
        simp only [semOf, seqF, ifF, retF, setF, unpF, nextF, tOrF, tAndF, tNotF, testF, callF, consF, nilF, vF, cF, sc, andF, orF, notF, bltF, opF, ifeF, isF, fldF, methF, yesF, bindT, slots, setE, List.map_cons, List.map_nil, List.length_cons, List.length_nil, List.replicate, List.append_nil, List.cons_append, List.nil_append, Nat.reduceAdd, Nat.reduceSub, List.getElem?_cons_zero, List.getElem?_cons_succ, List.getElem?_nil, Option.join_some, Option.join_none, Option.bind_some, Option.bind_none, Option.map_some, Option.map_none, if_true, List.set_cons_zero, List.set_cons_succ, wipeE, List.foldr_cons, List.foldr_nil, dOf, bOf, bF, iOf, reduceIte]
        cases ev with
        | fresh w =>
          have n1 := semName_of (z := w) hB
          have h1 : semRow [.d (evD (.fresh w)), .d (.int 1), .d (.int 4)] = some (bF true) := rfl
          have e0 : oIx (.d (evD (.fresh w))) (.d (.int 0)) = some (.d (.str "fresh")) := rfl
          have e1 : oIx (.d (evD (.fresh w))) (.d (.int 1)) = some (.d (.str w)) := rfl
          have l1 : lenO [.d (evD (.fresh w))] = some (.d (.int 2)) := rfl
          have q1 : oEq false (.d (.str "fresh")) (.d (.str "clear")) = some (bF false) := eqs_W _ _
          have q2 : oEq false (.d (.int 2)) (.d (.int 2)) = some (bF true) := rfl
          have o1 : oIn false (.d (.str "fresh")) (.d (.tuple [.str "fresh", .str "gap"])) = some (bF true) := rfl
          simp only [h1, e0, e1, l1, q1, q2, o1, n1, tupF, allD, consF, nilF, sc, cF, Option.bind_some, Option.map_some, List.length_cons, List.length_nil, Nat.reduceAdd, Nat.reduceLeDiff, if_true, bOf, bF, Bool.not_true, Bool.false_eq_true, if_false, List.getElem?_cons_zero, List.getElem?_cons_succ, Option.join_some, and_self, List.set_cons_succ, List.set_cons_zero]
        | gap w =>
          have n1 := semName_of (z := w) hB
          have h1 : semRow [.d (evD (.gap w)), .d (.int 1), .d (.int 4)] = some (bF true) := rfl
          have e0 : oIx (.d (evD (.gap w))) (.d (.int 0)) = some (.d (.str "gap")) := rfl
          have e1 : oIx (.d (evD (.gap w))) (.d (.int 1)) = some (.d (.str w)) := rfl
          have l1 : lenO [.d (evD (.gap w))] = some (.d (.int 2)) := rfl
          have q1 : oEq false (.d (.str "gap")) (.d (.str "clear")) = some (bF false) := eqs_W _ _
          have q2 : oEq false (.d (.int 2)) (.d (.int 2)) = some (bF true) := rfl
          have o1 : oIn false (.d (.str "gap")) (.d (.tuple [.str "fresh", .str "gap"])) = some (bF true) := rfl
          simp only [h1, e0, e1, l1, q1, q2, o1, n1, tupF, allD, consF, nilF, sc, cF, Option.bind_some, Option.map_some, List.length_cons, List.length_nil, Nat.reduceAdd, Nat.reduceLeDiff, if_true, bOf, bF, Bool.not_true, Bool.false_eq_true, if_false, List.getElem?_cons_zero, List.getElem?_cons_succ, Option.join_some, and_self, List.set_cons_succ, List.set_cons_zero]
        | clear =>
          have h1 : semRow [.d (evD .clear), .d (.int 1), .d (.int 4)] = some (bF true) := rfl
          have e0 : oIx (.d (evD .clear)) (.d (.int 0)) = some (.d (.str "clear")) := rfl
          have l1 : lenO [.d (evD .clear)] = some (.d (.int 1)) := rfl
          have q1 : oEq false (.d (.str "clear")) (.d (.str "clear")) = some (bF true) := rfl
          have q2 : oEq false (.d (.int 1)) (.d (.int 1)) = some (bF true) := rfl
          simp only [h1, e0, l1, q1, q2, tupF, allD, consF, nilF, sc, cF, Option.bind_some, Option.map_some, List.length_cons, List.length_nil, Nat.reduceAdd, Nat.reduceLeDiff, if_true, bOf, bF, Bool.not_true, Bool.false_eq_true, if_false, List.getElem?_cons_zero, List.getElem?_cons_succ, Option.join_some, and_self, List.set_cons_succ, List.set_cons_zero]
        | run w t o =>
          have hB2 := (show (nameB w && (inOk cs (.str t.1) && ((cs.any fun y => PyData.eqv y (.str t.1)) && (decide (1 ≤ t.2) && (decide (t.2 ≤ 9) && toldB o))))) = true from hB)
          simp only [Bool.and_eq_true, decide_eq_true_eq] at hB2
          obtain ⟨b1, b2, b3, b4, b5, b6⟩ := hB2
          have n1 := semName_of b1
          have h1 : semRow [.d (evD (.run w t o)), .d (.int 1), .d (.int 4)] = some (bF true) := rfl
          have e0 : oIx (.d (evD (.run w t o))) (.d (.int 0)) = some (.d (.str "run")) := rfl
          have e1 : oIx (.d (evD (.run w t o))) (.d (.int 1)) = some (.d (.str w)) := rfl
          have e2 : oIx (.d (evD (.run w t o))) (.d (.int 2)) = some (.d (thD t)) := rfl
          have e3 : oIx (.d (evD (.run w t o))) (.d (.int 3)) = some (.d (outD o)) := rfl
          have l1 : lenO [.d (evD (.run w t o))] = some (.d (.int 4)) := rfl
          have q1 : oEq false (.d (.str "run")) (.d (.str "clear")) = some (bF false) := eqs_W _ _
          have q2 : oEq true (.d (.str "run")) (.d (.str "run")) = some (bF false) := rfl
          have q3 : oEq true (.d (.int 4)) (.d (.int 4)) = some (bF false) := rfl
          have o1 : oIn false (.d (.str "run")) (.d (.tuple [.str "fresh", .str "gap"])) = some (bF false) := rfl
          have li : (shopF (.tuple ds) (.tuple cs) hs).lookup ("is_item" : Str) = none := rfl
          have it : semItem C [.ob C (shopF (.tuple ds) (.tuple cs) hs), .d (thD t)] = some (bF true) := by
            show shSem C _ _ = _
            rw [shSem_shop, if_pos (show pairOk cs (thD t) = true from (by rw [b2]; rfl : (inOk cs (.str t.1) && noDict (.int t.2)) = true))]
            show some (bF ((cs.any fun y => PyData.eqv y (.str t.1)) && (decide ((1 : Int) ≤ t.2) && decide (t.2 ≤ (9 : Int))))) = _
            rw [b3, decide_eq_true b4, decide_eq_true b5]
            rfl
          have os : (if noneB (outD o) = true then some (bF true) else oIn false (.d (outD o)) (.d (.tuple (toldW.map .str)))) = some (bF true) := by
            cases o with
            | none => rfl
            | some z =>
              show oIn false (.d (.str z)) _ = _
              rw [ins_W, show decide (z ∈ toldW) = true from b6]
          simp only [h1, e0, e1, e2, e3, l1, q1, q2, q3, o1, n1, li, it, oIsN, tupF, allD, consF, nilF, sc, cF, Option.bind_some, Option.map_some, List.length_cons, List.length_nil, Nat.reduceAdd, Nat.reduceLeDiff, if_true, bOf, bF, Bool.not_true, Bool.false_eq_true, if_false, List.getElem?_cons_zero, List.getElem?_cons_succ, Option.join_some, and_self, List.set_cons_succ, List.set_cons_zero]
          rw [show (if noneB (outD o) = true then some (Wv.d (PyData.bool true)) else oIn false (Wv.d (outD o)) (Wv.d (PyData.tuple (List.map PyData.str toldW)))) = some (Wv.d (PyData.bool true)) from os]
          rfl
      · rw [if_neg hB] at e3
        cases e3
    · cases e
end
end KW
namespace KW
open PySem PySem.Spec PyProof.Rows L2 KZ KS KP DC
/-! _opened_behind, _tellings -/
theorem er_nil {P : Program} {w : World} {K : PySem.W.Frag} {H : Hp} : ER P w K H [] [] := ⟨rfl, fun i x h => by simp at h⟩
theorem er_no {P : Program} {w : World} {K : PySem.W.Frag} {H : Hp} {σ : L2.St} {ε : EV} {o : Option V} (t : ER P w K H σ ε) : ER P w K H (o :: σ) (none :: ε) := ⟨by simp [t.len], fun i x h => by
  cases i with
  | zero => simp at h
  | succ i => simpa using t.at_ i x (by simpa using h)⟩
theorem er_yes {P : Program} {w : World} {K : PySem.W.Frag} {H : Hp} {σ : L2.St} {ε : EV} {v : V} {y : Wv} (r : RW P w K H v y) (t : ER P w K H σ ε) : ER P w K H (some v :: σ) (some y :: ε) := ⟨by simp [t.len], fun i x h => by
  cases i with
  | zero =>
    simp at h
    subst h
    exact ⟨v, by simp, r⟩
  | succ i => simpa using t.at_ i x (by simpa using h)⟩
theorem ite_no {A B : Prop} (h : B) : if false = true then A else B := by
  rw [if_neg (by decide)]
  exact h
theorem ite_yes {A B : Prop} (h : A) : if true = true then A else B := by
  rw [if_pos rfl]
  exact h
section
variable {ε : EV}
theorem test_e {f : EF} {b : Bool} (h : f ε = some (bF b)) : testF f ε = some b := by
  unfold testF
  rw [h]
  rfl
theorem not_e {f : EV → Option Bool} {b : Bool} (h : f ε = some b) : tNotF f ε = some (!b) := by
  unfold tNotF
  rw [h]
  rfl
theorem and_yes {f g : EV → Option Bool} {b : Bool} (h : f ε = some true) (t : g ε = some b) : tAndF f g ε = some b := by
  unfold tAndF
  rw [h, Option.bind_some, if_pos rfl, t]
theorem and_no {f g : EV → Option Bool} (h : f ε = some false) : tAndF f g ε = some false := by
  unfold tAndF
  rw [h]
  rfl
theorem ix_e {f g : EF} {x y z : Wv} (h : f ε = some x) (t : g ε = some y) (e : oIx x y = some z) : opF f g oIx ε = some z := by
  unfold opF
  rw [h, Option.bind_some, t, Option.bind_some, e]
theorem cmp_e {f g : EF} {o : Wv → Wv → Option Wv} {x y z : Wv} (h : f ε = some x) (t : g ε = some y) (e : o x y = some z) : opF f g o ε = some z := by
  unfold opF
  rw [h, Option.bind_some, t, Option.bind_some, e]
end
theorem eqn_W (a b : Str) : oEq true (.d (.str a)) (.d (.str b)) = some (bF (!decide (a = b))) := by
  show (if (PyData.str a).plain = true ∧ (PyData.str b).plain = true ∧ min (PyData.str a).depth (PyData.str b).depth ≤ 20 then some (bF (true ^^ PyData.eqv (.str a) (.str b))) else none) = _
  rw [if_pos ⟨by simp [PyData.plain], by simp [PyData.plain], by simp [PyData.depth]⟩, Bool.true_xor]
  rw [show PyData.eqv (.str a) (.str b) = decide (a = b) from eqs a b]
/-- a dict that tells for each worker what is open -/
def OpD (H : Hp) (a : Addr) (f : Str → Str) (n : Nat) : Prop := ∃ kvs : List (L2.Key × V), H a = some (.dK kvs) ∧ kvs.length ≤ n ∧ ∀ z : Str, (valV kvs (.inr z)).getD (.str "") = .str (f z)
theorem OpD.sm {H H' : Hp} (s : Sm H H') {a : Addr} {f : Str → Str} {n : Nat} (h : OpD H a f n) : OpD H' a f n := let ⟨kvs, h1, r⟩ := h; ⟨kvs, s _ _ h1, r⟩
theorem OpD.nil {H : Hp} {a : Addr} (h : H a = some (.dK [])) : OpD H a (fun _ => "") 0 := ⟨[], h, Nat.le_refl _, fun z => by rw [valV_nil]; rfl⟩
theorem OpD.put {H : Hp} {a : Addr} {kvs : List (L2.Key × V)} {f : Str → Str} {n : Nat} {z g : Str} (hl : kvs.length ≤ n) (hv : ∀ z : Str, (valV kvs (.inr z)).getD (.str "") = .str (f z)) (h : H a = some (.dK (putK kvs (.inr z) (.str g)))) : OpD H a (updF f z g) (n + 1) :=
  ⟨_, h, Nat.le_trans (length_putK ..) (by omega), fun y => by
    rw [valV_put]
    unfold updF
    by_cases e : y = z
    · rw [if_pos (by rw [e]), if_pos e]
      rfl
    · rw [if_neg (fun z => e (Sum.inr.inj z)), if_neg e]
      exact hv y⟩
/-- the group of a check -/
def hmOf (gs : List Grp) (c : Str) : Str := match valD (homesN gs) (Sum.inr c) with
  | some (.str z) => z
  | _ => ""
def ItOk (gs : List Grp) (t : Th) : Prop := (∃ g ∈ gs, t.1 ∈ g.2) ∧ 1 ≤ t.2 ∧ t.2 ≤ 9
def EvOk (gs : List Grp) : Ev → Prop
  | .fresh w => nameB w = true
  | .gap w => nameB w = true
  | .clear => True
  | .run w t o => nameB w = true ∧ ItOk gs t ∧ toldB o = true
theorem hm_of {gs : List Grp} (G : GoodGs gs) {g : Grp} {c : Str} (hg : g ∈ gs) (hc : c ∈ g.2) : hmOf gs c = g.1 := by
  unfold hmOf
  rw [home_val G hg hc]
theorem chk_in {gs : List Grp} {c : Str} (h : ∃ g ∈ gs, c ∈ g.2) : inOk (csOf gs) (.str c) = true ∧ ((csOf gs).any fun y => PyData.eqv y (.str c)) = true := by
  obtain ⟨g, hg, hc⟩ := h
  have hm : c ∈ srtS (checksN gs) := (List.mergeSort_perm (checksN gs) _).mem_iff.mpr (List.mem_flatMap.mpr ⟨g, hg, hc⟩)
  refine ⟨?_, by rw [any_str, decide_eq_true hm]⟩
  unfold inOk
  rw [plainAll_strs, depthAll_strs]
  simp [PyData.plain]
theorem gOf_sem {CS : Addr} {gs : List Grp} (G : GoodGs gs) {c : Str} (h : ∃ g ∈ gs, c ∈ g.2) : semGroupOf CS [.ob CS (shopI gs), .d (.str c)] = some (.d (.str (hmOf gs c))) := by
  obtain ⟨i1, i2⟩ := chk_in h
  obtain ⟨g, hg, hc⟩ := h
  have h1 : asShop (.ob CS (shopI gs)) = some (CS, .tuple (dsOf gs), homesN gs, .tuple (csOf gs)) := rfl
  simp only [semGroupOf]
  rw [h1, Option.bind_some]
  dsimp only
  rw [if_pos ⟨rfl, i1, i2⟩, home_val G hg hc, hm_of G hg hc]
  rfl
theorem event_sem {CS : Addr} {gs : List Grp} {e : Ev} (h : EvOk gs e) : semEvent CS [.ob CS (shopI gs), .d (evD e)] = some (bF true) := by
  show shSem CS (.ob CS (shopF (.tuple (dsOf gs)) (.tuple (csOf gs)) (homesN gs))) _ = _
  rw [shSem_shop, evOf_D, Option.bind_some, if_pos]
  cases e with
  | fresh w => exact h
  | gap w => exact h
  | clear => rfl
  | run w t o =>
    obtain ⟨h1, ⟨h2, h3, h4⟩, h5⟩ := h
    obtain ⟨i1, i2⟩ := chk_in h2
    show (nameB w && (inOk (csOf gs) (.str t.1) && (((csOf gs).any fun y => PyData.eqv y (.str t.1)) && (decide (1 ≤ t.2) && (decide (t.2 ≤ 9) && toldB o))))) = true
    rw [h1, i1, i2, decide_eq_true h3, decide_eq_true h4, h5]
    rfl
abbrev iBeh : Nat := 36
abbrev NBe : List Str := ["shop", "event", "opened", "behind"]
theorem scBeh : FnScope NBe ["shop", "event", "opened"] (defScope (topAt iBeh)) := ⟨rfl, rfl, rfl, by decide +kernel, rfl, by decide +kernel, by decide +kernel⟩
/-- an event whose outcome is told -/
def told1 : Ev → Bool
  | .run _ _ none => false
  | _ => true
def spBeh (P : Program) (w : World) (K : PySem.W.Frag) (CS : Addr) : Sp := fun vs H Q _ => ∃ (v0 v1 : V) (a : Addr) (gs : List Grp) (e : Ev) (f : Str → Str) (n : Nat), vs = [v0, v1, .ref a] ∧ GoodGs gs ∧ RW P w K H v0 (.ob CS (shopI gs)) ∧ Dp K H v1 (evD e) ∧ EvOk gs e ∧ told1 e = true ∧ OpD H a f n ∧ n < 1000 ∧
  ∀ (p : Addr) H', H p = none → Sm H H' → OpD H' p (stepO (hmOf gs) f e) (n + 1) → Q (.ref p) H'
section
variable {P : Program} {w : World} {K : PySem.W.Frag} {mg : Str → Option Value} {base : Heap} {CS : Addr}
theorem ok_beh {f : Addr} {fd : FuncData} (F : Fd K iBeh "_opened_behind" f fd) (T : ShopT K CS) (hg : Pm P w K mg base 1 CS "group_of" 2 (semGroupOf CS)) (gd : mg "dict" = none) : FnOk P w K mg base CX0 2 f fd ["shop", "event", "opened"] (spBeh P w K CS) := by
  refine F.ok scBeh (fun vs H Q E h => ?_) (fun cdv A outer s H vs Q E hr h => ?_)
  · obtain ⟨v0, v1, a, gs, e, fo, n, rfl, _⟩ := h
    rfl
  · obtain ⟨v0, v1, a, gs, e, fo, n, rfl, G, r0, d1, ok, tl, ⟨kvs, ha, hl, hv⟩, hn, q⟩ := h
    have hu1 : (A.deeper (envOfC "_opened_behind" (defScope (topAt iBeh)) s.heap.objs.size f cdv)).units + 1 < cLine := by have := hr.un; omega
    refine ⟨_, pss_cons (ps_set (i := 3) scBeh.nd rfl (Or.inl rfl) (pe_callTy call_dictD (by rfl) gd (by decide +kernel) (pa_cons (pv 2) pa_nil)))
      (pss_cons (ps_if (wt_ww (ww_and (wt_cmp (NL.op_eqP (hu30 hr)) (m_eq false) (we_ix ix_seq m_ix (we_v (pv 1)) (we_c pe_int) (fun _ _ => rfl)) (we_c pe_str) (nomark _)) (ww_and1 (wt_cmp (NL.op_neP (hu30 hr)) (m_eq true) (we_ix ix_seq m_ix (we_v (pv 1)) (we_c pe_int) (fun _ _ => rfl)) (we_c pe_str) (nomark _)))))
        (pss_one (ps_dput hu1 (pv 3) (we_ix ix_seq m_ix (we_v (pv 1)) (we_c pe_int) (fun _ _ => rfl)) (we_meth hg hr (by decide) T.cls (we_v (pv 0)) (wa_cons (we_ix ix_seq m_ix (we_ix ix_seq m_ix (we_v (pv 1)) (we_c pe_int) (fun _ _ => rfl)) (we_c pe_int) (fun _ _ => rfl)) wa_nil)) rfl))
        (pss_one (ps_if (wt_cmp (NL.op_neP (hu30 hr)) (m_eq true) (we_ix ix_seq m_ix (we_v (pv 1)) (we_c pe_int) (fun _ _ => rfl)) (we_c pe_str) (nomark _))
          (pss_one (ps_dput hu1 (pv 3) (we_ix ix_seq m_ix (we_v (pv 1)) (we_c pe_int) (fun _ _ => rfl)) pe_str rfl)) pss_nil)))
      (pss_one (ps_ret (pv 3)))), ?_⟩
    refine ⟨_, rfl, a, kvs, rfl, .inl ha, fun p hp => ?_⟩
    have s1 : Sm H (upd H p (.dK kvs)) := fun b o e => by rw [upd_ne (ne_of_none e hp)]; exact e
    have hp1 : (upd H p (.dK kvs)) p = some (.dK kvs) := upd_same
    generalize upd H p (.dK kvs) = H1 at s1 hp1 ⊢
    have r0' := rw_sm s1 r0
    have d1' := dp_sm s1 d1
    have E1 : ER P w K H1 [some v0, some v1, some (.ref a), some (.ref p)] [some (.ob CS (shopI gs)), some (.d (evD e)), none, none] := er_yes r0' (er_yes (.d d1') (er_no (er_no er_nil)))
    have sl : sizeLine = 16777216 := sizeLine_eq
    have put : ∀ {w' g : Str} {H2 : Hp}, Sm H1 H2 → OpD (upd H2 p (.dK (putK kvs (.inr w') (.str g)))) p (updF fo w' g) (n + 1) := fun {w' g H2} s2 => OpD.put hl hv upd_same
    have smp : ∀ {H2 : Hp} {u : HO}, Sm H1 H2 → Sm H (upd H2 p u) := fun {H2 u} s2 b o e => by
      rw [upd_ne (ne_of_none e hp)]
      exact s2 _ _ (s1 _ _ e)
    have hstr : ∀ {H2 : Hp} {v : V} {z : Str}, RW P w K H2 v (.d (.str z)) → v = .str z := fun {H2 v z} r => by
      cases rw_d r
      rfl
    cases e with
    | fresh w' =>
      refine ⟨_, false, E1, rfl, fun H2 s2 => ite_no ?_⟩
      refine ⟨_, true, E1.sm s2, rfl, fun H3 s3 => ite_yes ?_⟩
      have s23 := s2.trans s3
      refine ⟨_, rfl, _, .d (.str w'), E1.sm s23, rfl, fun v H4 s4 rv => ?_⟩
      have s24 := s23.trans s4
      obtain rfl := hstr rv
      exact ⟨p, _, rfl, DPut.k (k := .inr w') (s24 _ _ hp1) (by omega), _, rfl, q _ _ hp (smp s24) (put s24)⟩
    | gap w' =>
      refine ⟨_, false, E1, rfl, fun H2 s2 => ite_no ?_⟩
      refine ⟨_, true, E1.sm s2, rfl, fun H3 s3 => ite_yes ?_⟩
      have s23 := s2.trans s3
      refine ⟨_, rfl, _, .d (.str w'), E1.sm s23, rfl, fun v H4 s4 rv => ?_⟩
      have s24 := s23.trans s4
      obtain rfl := hstr rv
      exact ⟨p, _, rfl, DPut.k (k := .inr w') (s24 _ _ hp1) (by omega), _, rfl, q _ _ hp (smp s24) (put s24)⟩
    | clear =>
      refine ⟨_, false, E1, rfl, fun H2 s2 => ite_no ?_⟩
      refine ⟨_, false, E1.sm s2, rfl, fun H3 s3 => ite_no ?_⟩
      exact ⟨_, rfl, q _ _ hp (s1.trans (s2.trans s3)) ⟨kvs, (s2.trans s3) _ _ hp1, by omega, hv⟩⟩
    | run w' t o =>
      cases o with
      | none => cases tl
      | some z =>
        have hz : (tAndF (testF (opF (opF (vF 1) (cF (sc (V.int 0))) oIx) (cF (sc (V.str "run"))) (oEq false))) (testF (opF (opF (vF 1) (cF (sc (V.int 3))) oIx) (cF (sc (V.str "skip"))) (oEq true)))) [some (.ob CS (shopI gs)), some (.d (evD (.run w' t (some z)))), none, none] = some (!decide (z = "skip")) :=
          and_yes rfl (test_e (cmp_e (ix_e rfl rfl rfl) rfl (eqn_W z "skip")))
        refine ⟨_, _, E1, hz, fun H2 s2 => ?_⟩
        by_cases hs : z = "skip"
        · rw [decide_eq_true hs]
          refine ite_no ?_
          refine ⟨_, true, E1.sm s2, rfl, fun H3 s3 => ite_yes ?_⟩
          have s23 := s2.trans s3
          refine ⟨_, rfl, _, .d (.str w'), E1.sm s23, rfl, fun v H4 s4 rv => ?_⟩
          have s24 := s23.trans s4
          obtain rfl := hstr rv
          have P := put (w' := w') (g := "") s24
          refine ⟨p, _, rfl, DPut.k (k := .inr w') (s24 _ _ hp1) (by omega), _, rfl, q _ _ hp (smp s24) ?_⟩
          show OpD _ p (updF fo w' (if some z = some ("skip" : Str) then "" else hmOf gs t.1)) (n + 1)
          rw [if_pos (by rw [hs])]
          exact P
        · rw [decide_eq_false hs]
          refine ite_yes ?_
          have gs1 := gOf_sem (CS := CS) G ok.2.1.1
          refine ⟨_, .d (.str (hmOf gs t.1)), E1.sm s2, ?_, fun u H3 s3 ru => ?_⟩
          · unfold methF
            rw [show vF 0 [some (.ob CS (shopI gs)), some (.d (evD (.run w' t (some z)))), none, none] = some (Wv.ob CS (shopI gs)) from rfl, Option.bind_some]
            dsimp only
            rw [if_pos ⟨rfl, rfl⟩]
            exact gs1
          · have s23 := s2.trans s3
            obtain rfl := hstr ru
            refine ⟨_, rfl, _, .d (.str w'), E1.sm s23, rfl, fun v H4 s4 rv => ?_⟩
            have s24 := s23.trans s4
            obtain rfl := hstr rv
            have P := put (w' := w') (g := hmOf gs t.1) s24
            refine ⟨p, _, rfl, DPut.k (k := .inr w') (s24 _ _ hp1) (by omega), _, rfl, q _ _ hp (smp s24) ?_⟩
            show OpD _ p (updF fo w' (if some z = some ("skip" : Str) then "" else hmOf gs t.1)) (n + 1)
            rw [if_neg (fun e => hs (Option.some.inj e))]
            exact P
end
end KW
namespace KW
open PySem PySem.Spec PyProof.Rows L2 KZ KS KP
def LE (H : Hp) (S : List Addr) : Prop := ∀ a ∈ S, (∃ xs, H a = some (.lst xs)) ∨ ∃ f, H a = some (.ext f)
theorem le_tup {H : Hp} {S : List Addr} (h : LE H S) {a : Addr} {vs : List V} : Rd H a (.tup vs) → Rd (dls S H) a (.tup vs)
  | .inl e => .inl (dls_at e fun z => by rcases h a z with ⟨xs, e2⟩ | ⟨f, e2⟩ <;> rw [e2] at e <;> cases e)
  | .inr ⟨o, e⟩ => .inr ⟨o, dls_at e fun z => by rcases h a z with ⟨xs, e2⟩ | ⟨f, e2⟩ <;> rw [e2] at e <;> cases e⟩
mutual
theorem dp_le {K : PySem.W.Frag} {H : Hp} {S : List Addr} (h : LE H S) : ∀ {v : V} {d : PyData}, noL d = true → Dp K H v d → Dp K (dls S H) v d
  | _, _, _, .non => .non
  | _, _, _, .bl b => .bl b
  | _, _, _, .int i => .int i
  | _, _, _, .str x => .str x
  | _, _, n, .lst _ _ => by cases n
  | _, _, n, .tup hs t => .tup (match hs with
      | .inl e => .inl (le_tup h e)
      | .inr e => .inr e) (dpa_le h n t)
theorem dpa_le {K : PySem.W.Frag} {H : Hp} {S : List Addr} (h : LE H S) : ∀ {v : List V} {d : List PyData}, noLs d = true → DpAll K H v d → DpAll K (dls S H) v d
  | _, _, _, .nil => .nil
  | _, _, n, .cons a t => .cons (dp_le h (Bool.and_eq_true_iff.mp n).1 a) (dpa_le h (Bool.and_eq_true_iff.mp n).2 t)
end
end KW
/-! t[::-1], t * 0 of a tuple -/
namespace HT
open PySem PyProof.Rows
section
variable {prog : Program} {w : World} {A : Around} {E : Value → Shared → Prop} {s : Shared}
theorem places_rev (n : Nat) : Builtin.Slice.slicePlaces ((n : Int) - 1) (-1) (-1) = n := by
  unfold Builtin.Slice.slicePlaces
  have h1 : ¬ ((-1 : Int) > 0) := by decide
  have h2 : (-(-1) : Int) = 1 := by decide
  simp only [h1, if_false, h2, Int.ediv_one]
  split <;> omega
theorem sliceApplied_rev {sl : Addr} {vl vu vs : Value} {n : Nat} {Q : Int × Int × Nat → Shared → Prop} (hs : s.heap.IsSliceOf sl vl vu vs) (pl : IsPart vl none) (pu : IsPart vu none) (ps : IsPart vs (some (-1)))
    (h : Q ((n : Int) - 1, -1, n) s) : wpAny (model prog w) A (Builtin.Slice.sliceApplied (.ref sl) (pure (n : Int))) Q E s := by
  obtain ⟨os, hos, hcs, hds⟩ := id hs
  unfold Builtin.Slice.sliceApplied Builtin.Slice.sliceFields
  refine wpAny_bind (wpAny_bind (wpAny_field hos hds (x := vl) rfl (wpAny_bind (wpAny_field hos hds (x := vu) rfl (wpAny_bind (wpAny_field hos hds (x := vs) rfl (wpAny_pure ?_)))))))
  refine wpAny_bind (slicePart_ ps ?_)
  show wpAny _ _ (if ((-1 : Int) == 0) = true then _ else _) _ _ s
  rw [if_neg (by decide)]
  refine wpAny_bind (slicePart_ pl (wpAny_bind (slicePart_ pu (wpAny_bind (wpAny_pure ?_)))))
  show wpAny _ _ (pure ((n : Int) - 1, (-1 : Int), Builtin.Slice.slicePlaces ((n : Int) - 1) (-1) (-1))) _ _ s
  rw [places_rev]
  exact wpAny_pure h
theorem pick_rev (xs : Array Value) : ((List.range xs.size).filterMap fun (m : Nat) => xs[(((xs.size : Int) - 1) + (m : Int) * (-1)).toNat]?).toArray = xs.toList.reverse.toArray := by
  have e : ((List.range xs.size).filterMap fun (m : Nat) => xs[(((xs.size : Int) - 1) + (m : Int) * (-1)).toNat]?) = ((List.range xs.size).map fun k => xs.size - 1 - k).filterMap (xs[·]?) := by
    have e1 : (fun (m : Nat) => xs[(((xs.size : Int) - 1) + (m : Int) * (-1)).toNat]?) = (fun k : Nat => xs[k]?) ∘ fun m : Nat => (((xs.size : Int) - 1) + (m : Int) * (-1)).toNat := rfl
    rw [e1, ← List.filterMap_map]
    refine congrArg _ (List.map_congr_left fun m hm => ?_)
    have := List.mem_range.mp hm
    omega
  rw [e, PySem.W.krv_range, List.filterMap_reverse, PySem.W.krv_all]
theorem getItem_tuple_rev {t sl : Addr} {items : Array Value} {vl vu vs : Value} {Q : Value → Shared → Prop} (ht : IsTup s.heap t items) (hs : s.heap.IsSliceOf sl vl vu vs) (pl : IsPart vl none) (pu : IsPart vu none) (ps : IsPart vs (some (-1)))
    (h : Q (.ref s.heap.objs.size) { s with heap := s.heap.push { cls := .type "tuple", data := .seq items.toList.reverse.toArray } })
    (hsz : items.size ≤ sizeLine) : wpAny (model prog w) A (getItem (.ref t) (.ref sl)) Q E s := by
  have htake : sizeOk (.seq items.toList.reverse.toArray) := by
    show items.toList.reverse.toArray.size ≤ sizeLine
    rw [List.size_toArray, List.length_reverse, Array.length_toList]
    exact hsz
  obtain ⟨os, hos, hcs, hds⟩ := id hs
  have hTs : s.TypeIs (.ref sl) "slice" := ⟨os, hos, hcs⟩
  unfold getItem
  try with_reducible refine wpAny_holding ?_
  first | refine wpAny_bind (wpAny_pure ?_) | skip
  refine wpAny_bind (wpAny_sequenceKey ht.typeIs (by decide) ?_)
  refine wpAny_bind (wpAny_callSpecial?_slot (name := Str.ofString "__getitem__") ht.typeIs PyProof.Rows.slot_tuple_getitem
    (wpAny_call_entry PyProof.Rows.slot_tuple_getitem ht.typeIs entry_tuple_getitem ?_ (args_tuple_getitem _ _)))
  show wpAny _ _ (Builtin.Tuple.tupleItemsOf (.ref t) >>= _) _ _ s
  refine wpAny_bind (tupleItemsOf_ ht ?_)
  refine wpAny_bind (wpAny_typeOf hTs ?_)
  rw [if_pos (by decide)]
  refine wpAny_bind (sliceApplied_rev hs pl pu ps ?_)
  have hno : ¬ ((((items.size : Int) - 1) == 0 && (-1 : Int) == 1 && items.size == items.size) = true) := by
    intro q
    rw [Bool.and_eq_true, Bool.and_eq_true] at q
    exact absurd q.1.2 (by decide)
  show wpAny _ _ (if ((((items.size : Int) - 1) == 0 && (-1 : Int) == 1 && items.size == items.size) = true) then _ else _) _ _ s
  rw [if_neg hno, pick_rev]
  first
    | exact wpAny_bind (m := Builtin.Tuple.tupleExact _) (wpAny_newObj_type (wpAny_pure ⟨_, rfl, wpAny_pure h⟩) htake)
    | exact wpAny_bind (m := Builtin.Tuple.tupleExact _) (wpAny_newObj_type (wpAny_bind (wpAny_pure (wpAny_pure ⟨_, rfl, wpAny_pure h⟩))) htake)
    | exact wpAny_bind (wpAny_bind (m := Builtin.Tuple.tupleExact _) (wpAny_newObj_type (wpAny_pure (wpAny_pure ⟨_, rfl, wpAny_pure h⟩)) htake))
    | exact wpAny_bind (wpAny_bind (m := Builtin.Tuple.tupleExact _) (wpAny_newObj_type (wpAny_pure ⟨_, rfl, wpAny_pure h⟩) htake))
end
end HT
namespace KW
open PySem PySem.Spec PyProof.Rows L2 KZ
section
variable {X : Cx}
def tRevT (K : PySem.W.Frag) (te : TE) : TE := fun σ H Q => te σ H fun x H1 => ∃ a xs, x = .ref a ∧ SqT K H1 a xs ∧ ∀ p, H1 p = none → Q (.ref p) (upd H1 p (.tup xs.reverse))
theorem pe_revT {e : Expr} {te : TE} {k : Nat} {p1 p2 p3 pos : Pos} (he : PE X e te) : PE X (.Subscript e (.Slice none none (some (.UnaryOp .USub (.Constant (.int 1) k p1) p2)) p3) pos) (tRevT X.K te) := by
  refine ⟨fun pins s σ H Q I h => ?_⟩
  refine Subscript_ (thn (he.run pins s σ H _ I h) fun v s1 ⟨x, H1, I1, r1, q1⟩ => ?_)
  obtain ⟨a, xs, ex, hx, q⟩ := q1
  subst ex
  cases r1
  have hst : PO X (some (.UnaryOp .USub (.Constant (.int 1) k p1) p2)) (tPart (tUn (rU fun i => .int (-i)) (tC (.int 1)))) := po_some (pe_un un_neg pe_int)
  refine wpAny_Slice (thn (po_none.run pins s1 σ H1 (fun o H2 => o = none ∧ H2 = H1) I1 ⟨rfl, rfl⟩) fun vl s2 ⟨l, H2, I2, pl, el, e2⟩ => ?_)
  subst el e2
  refine thn (po_none.run pins s2 σ H2 (fun o H3 => o = none ∧ H3 = H2) I2 ⟨rfl, rfl⟩) fun vu s3 ⟨u, H3, I3, pu, eu, e3⟩ => ?_
  subst eu e3
  refine thn (hst.run pins s3 σ H3 (fun o H4 => o = some (-1) ∧ H4 = H3) I3 ⟨1, rfl, -1, rfl, rfl, rfl⟩) fun vs s4 ⟨o, H4, I4, ps, eo, e4⟩ => ?_
  subst eo e4
  have I5 : Inv X pins σ H4 { s4 with heap := s4.heap.push { cls := .type "slice", data := .fields #[vl, vu, vs] } } := I4.kept (t' := s4.toks) fun b ob q => Heap.get?_push_of_some _ q
  obtain ⟨its, r, ht, hz⟩ := I5.tuple hx
  have hlen := r.length
  show wpAny (model X.prog X.w) X.A (subscriptTail e (.Slice none none (some (.UnaryOp .USub (.Constant (.int 1) k p1) p2)) p3) (.ref a) (.ref s4.heap.objs.size)) (EP X pins σ Q) X.xe { s4 with heap := s4.heap.push { cls := .type "slice", data := .fields #[vl, vu, vs] } }
  refine tail_any (ops := [.ref a, .ref s4.heap.objs.size]) ht.typeIs (PyProof.Rows.slot_tuple_getitem.lookup) ?_ (by with_unfolding_all rfl)
  refine HT.getItem_tuple_rev ht (Heap.IsSliceOf.new _ vl vu vs) pl pu ps ?_ (by rw [List.size_toArray]; omega)
  refine ⟨.ref _, _, I5.laid (t' := s4.toks) (o := .tup xs.reverse) (fun b ob q => Heap.get?_push_of_some _ q) (Nat.le_refl _) ?_, rfl, q _ (I5.hok.fresh (Nat.le_refl _))⟩
  exact ⟨by rw [List.length_reverse]; omega, _, r.reverse, ⟨_, Heap.get?_push_size _ rfl, rfl, _, rfl⟩⟩
end
end KW
namespace KW
open PySem PySem.Spec PyProof.Rows L2 KZ KS KP DC
/-! values with lists in them, where lists change -/
mutual
def alL (p : List PyData → Bool) : PyData → Bool
  | .list ds => p ds && alLs p ds
  | .tuple ds => alLs p ds
  | .dict _ => false
  | _ => true
def alLs (p : List PyData → Bool) : List PyData → Bool
  | [] => true
  | d :: ds => alL p d && alLs p ds
end
def SepL (K : PySem.W.Frag) (H : Hp) (S : List Addr) (p : List PyData → Bool) : Prop := ∀ a ∈ S, ∀ (xs : List V) (ds : List PyData), H a = some (.lst xs) → DpAll K H xs ds → p ds = false
mutual
theorem dp_leL {K : PySem.W.Frag} {H : Hp} {S : List Addr} {p : List PyData → Bool} (h : LE H S) (sp : SepL K H S p) : ∀ {v : V} {d : PyData}, alL p d = true → Dp K H v d → Dp K (dls S H) v d
  | _, _, _, .non => .non
  | _, _, _, .bl b => .bl b
  | _, _, _, .int i => .int i
  | _, _, _, .str x => .str x
  | _, _, n, .lst hs t => .lst (match hs with
      | .inl (.inl e) => .inl (.inl (dls_at e fun z => by
          have h1 := sp _ z _ _ e t
          have h2 := (Bool.and_eq_true_iff.mp n).1
          rw [h1] at h2
          cases h2))
      | .inl (.inr ⟨o, e⟩) => .inl (.inr ⟨o, dls_at e fun z => by rcases h _ z with ⟨xs, e2⟩ | ⟨f, e2⟩ <;> rw [e2] at e <;> cases e⟩)
      | .inr e => .inr e) (dpa_leL h sp (Bool.and_eq_true_iff.mp n).2 t)
  | _, _, n, .tup hs t => .tup (match hs with
      | .inl e => .inl (le_tup h e)
      | .inr e => .inr e) (dpa_leL h sp n t)
theorem dpa_leL {K : PySem.W.Frag} {H : Hp} {S : List Addr} {p : List PyData → Bool} (h : LE H S) (sp : SepL K H S p) : ∀ {v : List V} {d : List PyData}, alLs p d = true → DpAll K H v d → DpAll K (dls S H) v d
  | _, _, _, .nil => .nil
  | _, _, n, .cons a t => .cons (dp_leL h sp (Bool.and_eq_true_iff.mp n).1 a) (dpa_leL h sp (Bool.and_eq_true_iff.mp n).2 t)
end
/-- no list is like the jar -/
def noJ (ds : List PyData) : Bool := match ds with
  | .int _ :: _ => false
  | _ => true
theorem sep_jar {K : PySem.W.Frag} {H : Hp} {J : Addr} {c : Nat} (j : Jar J H c) : LE H [J] ∧ SepL K H [J] noJ := by
  obtain ⟨m, s, k, e, _⟩ := j
  refine ⟨fun a ha => ?_, fun a ha xs ds ex dx => ?_⟩
  · rw [List.mem_singleton.mp ha]
    exact .inl ⟨_, e⟩
  · rw [List.mem_singleton.mp ha, e] at ex
    cases ex
    cases dx with
    | cons a t =>
      cases a
      rfl
/-! more of the values' own reading -/
section
variable {X : Cx}
def revF (f : EF) : EF := fun ε => (f ε).bind fun x => match x with
  | .d (.tuple ds) => some (.d (.tuple ds.reverse))
  | _ => none
theorem dpa_rev {K : PySem.W.Frag} {H : Hp} : ∀ {vs : List V} {ds : List PyData}, DpAll K H vs ds → DpAll K H vs.reverse ds.reverse
  | _, _, .nil => .nil
  | _, _, .cons a t => by
    rw [List.reverse_cons, List.reverse_cons]
    exact dpa_app (dpa_rev t) (.cons a .nil)
theorem we_revT {e : Expr} {f : EF} {k : Nat} {p1 p2 p3 pos : Pos} (he : WE X e f) : WE X (.Subscript e (.Slice none none (some (.UnaryOp .USub (.Constant (.int 1) k p1) p2)) p3) pos) (revF f) :=
  PE.wk (pe_revT he) fun σ H Q ⟨ε, r, E, e, q⟩ => by
    unfold revF at e
    obtain ⟨x, e1, e2⟩ := Option.bind_eq_some_iff.mp e
    refine ⟨ε, x, E, e1, fun v H1 s1 r1 => ?_⟩
    split at e2
    · rename_i ds
      cases e2
      cases rw_d r1 with
      | tup h t => exact ⟨_, _, rfl, h, fun p hp => q _ _ (s1.trans (upd_sm hp)) (.d (.tup (SqT.of upd_same) (dpa_sm (upd_sm hp) (dpa_rev t))))⟩
    · cases e2
end
/-! orders: rows of what is plain -/
structure OrdOk (o : PyData) : Prop where
  pl : o.plain = true
  dp : o.depth ≤ 9
  ds : ∀ ds, o = .tuple ds → ds.length ≤ 960
structure RowOk (ds : List PyData) (n : Nat) : Prop where
  pl : PyData.plainAll ds = true
  dp : PyData.depthAll ds ≤ 7
  le : ds.length ≤ n
theorem plainAll_app : ∀ {as bs : List PyData}, PyData.plainAll as = true → PyData.plainAll bs = true → PyData.plainAll (as ++ bs) = true := fun {as bs} h1 h2 => plainAll_m fun d hd => by
  rcases List.mem_append.mp hd with h | h
  · exact plain_mem h1 d h
  · exact plain_mem h2 d h
theorem depthAll_m {b : Nat} : ∀ {ds : List PyData}, (∀ d ∈ ds, d.depth ≤ b) → PyData.depthAll ds ≤ b
  | [], _ => by simp [PyData.depthAll]
  | d :: ds, h => by
    have ih := depthAll_m (ds := ds) fun x hx => h x (List.mem_cons_of_mem _ hx)
    have h1 := h d (List.mem_cons_self ..)
    simp only [PyData.depthAll]
    omega
theorem RowOk.sub {as bs : List PyData} {n m : Nat} (h : RowOk bs n) (s : ∀ d ∈ as, d ∈ bs) (l : as.length ≤ m) : RowOk as m :=
  ⟨plainAll_m fun d hd => plain_mem h.pl d (s d hd), depthAll_m fun d hd => Nat.le_trans (depth_mem bs d (s d hd)) h.dp, l⟩
theorem RowOk.app {as bs : List PyData} {n m k : Nat} (h : RowOk as n) (g : RowOk bs m) (l : n + m ≤ k) : RowOk (as ++ bs) k :=
  ⟨plainAll_app h.pl g.pl, depthAll_m fun d hd => by
    rcases List.mem_append.mp hd with z | z
    · exact Nat.le_trans (depth_mem as d z) h.dp
    · exact Nat.le_trans (depth_mem bs d z) g.dp, by rw [List.length_append]; have := h.le; have := g.le; omega⟩
theorem cut_mem {ds : List PyData} {i j : Option Int} : ∀ d ∈ cutD ds i j, d ∈ ds := fun d h => List.mem_of_mem_drop (List.mem_of_mem_take h)
end KW
namespace KW
open PySem PySem.Spec PyProof.Rows L2 KZ KS KP DC
/-! readings of values, one by one -/
section
variable {X : Cx}
theorem we_neg1 {k : Nat} {p1 p2 : Pos} : WE X (.UnaryOp .USub (.Constant (.int 1) k p1) p2) (cF (.int (-1))) := PE.wk (pe_un un_neg pe_int) fun σ H Q ⟨ε, r, E, e, q⟩ => by
  cases e
  exact ⟨_, rfl, q _ _ (Sm.rfl' H) (.d (.int _))⟩
end
section
variable {ε : EV}
theorem cons_e {f : EF} {g : AF} {x : Wv} {xs : List Wv} (h : f ε = some x) (t : g ε = some xs) : consF f g ε = some (x :: xs) := by
  unfold consF
  rw [h, t]
  rfl
theorem op_e {f g : EF} {o : Wv → Wv → Option Wv} {x y z : Wv} (h : f ε = some x) (t : g ε = some y) (e : o x y = some z) : opF f g o ε = some z := by
  unfold opF
  rw [h, Option.bind_some, t, Option.bind_some, e]
theorem blt_e {g : AF} {o : List Wv → Option Wv} {xs : List Wv} {z : Wv} (h : g ε = some xs) (e : o xs = some z) : bltF g o ε = some z := by
  unfold bltF
  rw [h, Option.bind_some, e]
theorem cat_e {f g : EF} {as bs : List PyData} (h : f ε = some (.d (.tuple as))) (t : g ε = some (.d (.tuple bs))) (l : as.length + bs.length ≤ 1000) : opF f g oCat ε = some (.d (.tuple (as ++ bs))) :=
  op_e h t (if_pos l)
theorem tup_e {f : AF} {ws : List Wv} {ds : List PyData} (h : f ε = some ws) (e : allD ws = some ds) (l : ds.length ≤ 1000) : tupF f ε = some (.d (.tuple ds)) := by
  unfold tupF
  rw [h, Option.bind_some, e, Option.bind_some, if_pos l]
theorem sl_e {f : EF} {l h : PF} {ds : List PyData} {a b : Option Int} (e : f ε = some (.d (.tuple ds))) (hl : l ε = some a) (hh : h ε = some b) : slF f l h ε = some (.d (.tuple (cutD ds a b))) := by
  unfold slF
  rw [e, hl, hh]
  rfl
end
/-! the orders, as data -/
def is2 (ds : List PyData) : Bool := ds.length == 2
theorem alLs_mem {p : List PyData → Bool} : ∀ {ds : List PyData}, (∀ d ∈ ds, alL p d = true) → alLs p ds = true
  | [], _ => rfl
  | d :: ds, h => by
    simp only [alLs, Bool.and_eq_true]
    exact ⟨h d (List.mem_cons_self ..), alLs_mem fun x hx => h x (List.mem_cons_of_mem _ hx)⟩
end KW
namespace KW
open PySem PySem.Spec PyProof.Rows L2 KZ KS KP DC
/-! a comprehension's list is new -/
def lcO (it : Wv → Option (List Wv)) (t : Tgt) (vs : List Nat) (fi : EF) (ft : EV → Option Bool) (fe : EF) : EV → Option (List Wv) := fun ε => (fi ε).bind fun x => (it x).bind fun ws => if ws.length ≤ 1000 then goF (lcStep t ft fe (wipeE vs ε)) ws else none
def tWf (P : Program) (w : World) (K : PySem.W.Frag) (f : EV → Option (List Wv)) : TE := fun σ H Q => ∃ ε r, ER P w K H σ ε ∧ f ε = some r ∧ ∀ (a : Addr) (acc : List V) H', H a = none → Sm H H' → H' a = some (.lst acc) → RWs P w K H' acc r → Q (.ref a) H'
theorem sm_no {H H' : Hp} (s : Sm H H') {a : Addr} (h : H' a = none) : H a = none := by
  cases e : H a with
  | none => rfl
  | some o => rw [s _ _ e] at h; cases h
section
variable {X : Cx}
theorem tlcTf {t : Tgt} {vs : List Nat} {fi fe : EF} {ft : EV → Option Bool} (hvs : ∀ i ∈ slots t, i ∈ vs) {σ : L2.St} {H : Hp} {Q : VK} (h : tWf X.prog X.w X.K (lcO itT t vs fi ft fe) σ H Q) : tLc (iTup X.K (tW X.prog X.w X.K fi)) (tgG X.K t) (tWT X.prog X.w X.K ft) (tW X.prog X.w X.K fe) vs σ H Q := by
  obtain ⟨ε, r, E, e, q⟩ := h
  unfold lcO at e
  obtain ⟨x, e1, e2⟩ := Option.bind_eq_some_iff.mp e
  obtain ⟨ws, e3, e4⟩ := Option.bind_eq_some_iff.mp e2
  by_cases hl : ws.length ≤ 1000
  · rw [if_pos hl] at e4
    obtain ⟨out, e5⟩ : ∃ o, o = r := ⟨_, rfl⟩
    subst e5
    have e5 := e4
    refine ⟨ε, x, E, e1, fun v H1 s1 r1 => ?_⟩
    unfold itT at e3
    split at e3
    · rename_i ds
      cases e3
      cases rw_d r1 with
      | @tup a xs _ h1 t1 =>
        have hw : RWs X.prog X.w X.K H1 xs (ds.map .d) := rws_ofD t1
        refine ⟨a, rfl, ⟨xs, h1⟩, fun D nD => lc_tup (K := X.K) (a := a) (xs := xs) (LcP X t ft fe (wipeE vs ε) (ds.map .d) H1 D) ⟨[], [], rfl, upd_same, .nil, rfl, upd_sm nD⟩ (fun i H' _ ⟨_, _, _, _, _, _, s⟩ => sqt_sm s h1)
          (fun i x H' hx p => lc_turn nD hvs (E.sm s1) hw e5 hl hx p) ?_⟩
        rintro H' ⟨acc, o, o1, o2, o3, o4, o5⟩
        have : (ds.map Wv.d).take xs.length = ds.map .d := by rw [hw.len, List.take_length]
        rw [this, e5] at o1
        cases o1
        exact q D acc H' (sm_no s1 nD) (s1.trans o5) o2 o3
    · cases e3
  · rw [if_neg hl] at e4
    cases e4
theorem tlcLf {t : Tgt} {vs : List Nat} {fi fe : EF} {ft : EV → Option Bool} (hvs : ∀ i ∈ slots t, i ∈ vs) {σ : L2.St} {H : Hp} {Q : VK} (h : tWf X.prog X.w X.K (lcO itL t vs fi ft fe) σ H Q) : tLc (iList X.K (tW X.prog X.w X.K fi)) (tgG X.K t) (tWT X.prog X.w X.K ft) (tW X.prog X.w X.K fe) vs σ H Q := by
  obtain ⟨ε, r, E, e, q⟩ := h
  unfold lcO at e
  obtain ⟨x, e1, e2⟩ := Option.bind_eq_some_iff.mp e
  obtain ⟨ws, e3, e4⟩ := Option.bind_eq_some_iff.mp e2
  by_cases hl : ws.length ≤ 1000
  · rw [if_pos hl] at e4
    obtain ⟨out, e5⟩ : ∃ o, o = r := ⟨_, rfl⟩
    subst e5
    have e5 := e4
    refine ⟨ε, x, E, e1, fun v H1 s1 r1 => ?_⟩
    have fin : ∀ (a : Addr) (xs : List V), SqL X.K H1 a xs → RWs X.prog X.w X.K H1 xs ws → ∀ D, H1 D = none → ∃ W : Nat → Nat → Hp → Prop, (∃ m, W 0 m (upd H1 D (HO.lst []))) ∧ ∀ (i m : Nat) (H : Hp), W i m H → (Itl X.K a).stop i H ∧ Q (V.ref D) H ∨ (Itl X.K a).go i H ∧ ∃ Nx : Hp → Prop, (∀ H', Nx H' → ∃ m', m' < m ∧ W (i + 1) m' H') ∧ ∀ (x : V) (H' : Hp), (Itl X.K a).yld i H x H' →
        tgG X.K t x (wipe σ vs) H' fun σ2 H2 => wipe σ2 vs = wipe σ vs ∧ tWT X.prog X.w X.K ft σ2 H2 fun b H3 => if b = true then tW X.prog X.w X.K fe σ2 H3 fun y H4 => ∃ acc, H4 D = some (HO.lst acc) ∧ acc.length < sizeLine ∧ Nx (upd H4 D (HO.lst (acc ++ [y]))) else Nx H3 := by
      intro a xs h1 hw
      intro D nD
      refine lc_list (K := X.K) (a := a) (xs := xs) (LcP X t ft fe (wipeE vs ε) ws H1 D) ⟨[], [], rfl, upd_same, .nil, rfl, upd_sm nD⟩ (fun i H' _ ⟨_, _, _, _, _, _, s⟩ => sql_sm s h1)
          (fun i x H' hx p => lc_turn nD hvs (E.sm s1) hw e5 hl hx p) ?_
      rintro H' ⟨acc, o, o1, o2, o3, o4, o5⟩
      have : ws.take xs.length = ws := by rw [hw.len, List.take_length]
      rw [this, e5] at o1
      cases o1
      exact q D acc H' (sm_no s1 nD) (s1.trans o5) o2 o3
    unfold itL at e3
    split at e3
    · cases e3
      cases rw_d r1 with
      | @lst a xs ds h1 t1 => exact ⟨a, rfl, ⟨xs, h1⟩, fin a xs h1 (rws_ofD t1)⟩
    · cases e3
      cases r1 with
      | @ls a xs _ h1 t1 => exact ⟨a, rfl, ⟨xs, h1⟩, fin a xs h1 t1⟩
    · cases e3
  · rw [if_neg hl] at e4
    cases e4
theorem pe_lcTf {elt tg iter : Expr} {ifs : List Expr} {scope : Scope} {own : List (Str × Nat)} {pos : Pos} {t : Tgt} {fi fe : EF} {ft : EV → Option Bool} (hc : X.calm = true) (hN : X.N.Nodup) (hi : WE X iter fi) (ok : BlkOk X.N X.env.scope scope own)
    (hg : ∀ (s : Shared) (H : Hp) (C : Addr) (cl : List (Str × Addr)) (fp : List Addr), PG (X.blk s H scope (compEnvC scope cl C X.env) fp) tg (tgG X.K t))
    (ht : ∀ (s : Shared) (H : Hp) (C : Addr) (cl : List (Str × Addr)) (fp : List Addr), WTs (X.blk s H scope (compEnvC scope cl C X.env) fp) ifs ft)
    (he : ∀ (s : Shared) (H : Hp) (C : Addr) (cl : List (Str × Addr)) (fp : List Addr), WE (X.blk s H scope (compEnvC scope cl C X.env) fp) elt fe)
    (hvs : ∀ i ∈ slots t, i ∈ own.map (·.2) := by decide) (hf : ∀ x : Value, foldedSetIterable iter X.env x = pure x := by intro _; rfl) : PE X (.ListComp elt [⟨tg, iter, ifs, 0⟩] scope pos) (tWf X.prog X.w X.K (lcO itT t (own.map (·.2)) fi ft fe)) :=
  PE.wk (pe_lc hc hN (pi_tup hi) ok hg ht he hf) fun _ _ _ h => tlcTf hvs h
theorem pe_lcLf {elt tg iter : Expr} {ifs : List Expr} {scope : Scope} {own : List (Str × Nat)} {pos : Pos} {t : Tgt} {fi fe : EF} {ft : EV → Option Bool} (hc : X.calm = true) (hN : X.N.Nodup) (hi : WE X iter fi) (ok : BlkOk X.N X.env.scope scope own)
    (hg : ∀ (s : Shared) (H : Hp) (C : Addr) (cl : List (Str × Addr)) (fp : List Addr), PG (X.blk s H scope (compEnvC scope cl C X.env) fp) tg (tgG X.K t))
    (ht : ∀ (s : Shared) (H : Hp) (C : Addr) (cl : List (Str × Addr)) (fp : List Addr), WTs (X.blk s H scope (compEnvC scope cl C X.env) fp) ifs ft)
    (he : ∀ (s : Shared) (H : Hp) (C : Addr) (cl : List (Str × Addr)) (fp : List Addr), WE (X.blk s H scope (compEnvC scope cl C X.env) fp) elt fe)
    (hvs : ∀ i ∈ slots t, i ∈ own.map (·.2) := by decide) (hf : ∀ x : Value, foldedSetIterable iter X.env x = pure x := by intro _; rfl) : PE X (.ListComp elt [⟨tg, iter, ifs, 0⟩] scope pos) (tWf X.prog X.w X.K (lcO itL t (own.map (·.2)) fi ft fe)) :=
  PE.wk (pe_lc hc hN (pi_list hi) ok hg ht he hf) fun _ _ _ h => tlcLf hvs h
end
theorem lcO_filter {it : Wv → Option (List Wv)} {t : Tgt} {vs : List Nat} {fi fe : EF} {ft : EV → Option Bool} {ε : EV} {ds : List PyData} {p : PyData → Bool} {h : PyData → PyData} {x : Wv} (h1 : fi ε = some x) (h0 : it x = some (ds.map .d)) (hl : ds.length ≤ 1000)
    (h2 : ∀ d ∈ ds, ∃ e, bindT t (.d d) (wipeE vs ε) = some e ∧ ft e = some (p d) ∧ noL (h d) = true ∧ fe e = some (.d (h d))) :
    lcO it t vs fi ft fe ε = some (((ds.filter p).map h).map .d) := by
  unfold lcO
  rw [h1, Option.bind_some, h0, Option.bind_some, if_pos (by rw [List.length_map]; exact hl)]
  rw [goF_filter (p := p) (h := h) fun d hd => ?_]
  · obtain ⟨e, e1, e2, e3, e4⟩ := h2 d hd
    unfold lcStep
    rw [e1, Option.bind_some, e2, Option.bind_some]
    cases p d with
    | false => rfl
    | true =>
      rw [if_pos rfl, if_pos rfl, e4, Option.bind_some]
      show (if noL (h d) = true then _ else _) = _
      rw [if_pos e3]
end KW
namespace KW
open PySem PySem.Spec PyProof.Rows L2 KZ KS KP DC
/-! _tellings -/
theorem PS.or {X : Cx} {st : Stmt} {t u : TS} (h : PS X st t) (g : PS X st u) : PS X st (fun D σ H => t D σ H ∨ u D σ H) := ⟨fun pins s σ H D I z => z.elim (h.run pins s σ H D I) (g.run pins s σ H D I)⟩
theorem noL_ev (e : Ev) : noL (evD e) = true := by
  cases e with
  | fresh w => rfl
  | gap w => rfl
  | clear => rfl
  | run w t o => cases o <;> rfl
theorem lcF_filter {it : Wv → Option (List Wv)} {t : Tgt} {vs : List Nat} {fi fe : EF} {ft : EV → Option Bool} {ε : EV} {ds : List PyData} {p : PyData → Bool} {h : PyData → PyData} {x : Wv} (h1 : fi ε = some x) (h0 : it x = some (ds.map .d)) (hl : ds.length ≤ 1000)
    (h2 : ∀ d ∈ ds, ∃ e, bindT t (.d d) (wipeE vs ε) = some e ∧ ft e = some (p d) ∧ noL (h d) = true ∧ fe e = some (.d (h d))) :
    lcG mkD it t vs fi ft fe ε = some (.d (.list ((ds.filter p).map h))) := by
  unfold lcG
  rw [h1, Option.bind_some, h0, Option.bind_some, if_pos (by rw [List.length_map]; exact hl)]
  rw [goF_filter (p := p) (h := h) fun d hd => ?_]
  · rw [Option.bind_some]
    show some (mkL _) = _
    rw [mkL_map]
  · obtain ⟨e, e1, e2, e3, e4⟩ := h2 d hd
    unfold lcStep
    rw [e1, Option.bind_some, e2, Option.bind_some]
    cases p d with
    | false => rfl
    | true =>
      rw [if_pos rfl, if_pos rfl, e4, Option.bind_some]
      show (if noL (h d) = true then _ else _) = _
      rw [if_pos e3]
theorem rws_map {P : Program} {w : World} {K : PySem.W.Frag} {H : Hp} : ∀ {vs : List V} {ds : List PyData}, RWs P w K H vs (ds.map .d) → DpAll K H vs ds
  | _, [], .nil => .nil
  | _, _ :: _, .cons a t => .cons (rw_d a) (rws_map t)
abbrev iTell : Nat := 35
abbrev NTe : List Str := ["shop", "event", "opened", "outcomes", "outcome"]
theorem scTell : FnScope NTe ["shop", "event", "opened"] (defScope (topAt iTell)) := ⟨rfl, rfl, rfl, by decide +kernel, rfl, by decide +kernel, by decide +kernel⟩
def spTell (P : Program) (w : World) (K : PySem.W.Frag) (CS : Addr) : Sp := fun vs H Q _ => ∃ (v0 v1 : V) (a : Addr) (gs : List Grp) (e : Ev) (f : Str → Str) (n : Nat), vs = [v0, v1, .ref a] ∧ GoodGs gs ∧ RW P w K H v0 (.ob CS (shopI gs)) ∧ Dp K H v1 (evD e) ∧ EvOk gs e ∧ OpD H a f n ∧
  ∀ (l : Addr) (us : List V) H', H l = none → Sm H H' → H' l = some (.lst us) → DpAll K H' us ((tellsOf (hmOf gs) f e).map evD) → Q (.ref l) H'
section
variable {P : Program} {w : World} {K : PySem.W.Frag} {mg : Str → Option Value} {base : Heap} {CS : Addr}
theorem ok_tell {aU : Addr} {f : Addr} {fd : FuncData} (F : Fd K iTell "_tellings" f fd) (T : ShopT K CS) (hg : Pm P w K mg base 1 CS "group_of" 2 (semGroupOf CS)) (hunt : Pu P w K mg base 1 "_is_untold" 1 semUnt) (gU : mg "UNTOLD_OUTCOMES" = some (.ref aU)) (dU : ∀ H, Dp K H (.ref aU) (.tuple (outsU.map .str))) :
    FnOk P w K mg base CX0 2 f fd ["shop", "event", "opened"] (spTell P w K CS) := by
  refine F.ok scTell (fun vs H Q E h => ?_) (fun cdv A outer s H vs Q E hr h => ?_)
  · obtain ⟨v0, v1, a, gs, e, fo, n, rfl, _⟩ := h
    rfl
  · obtain ⟨v0, v1, a, gs, e, fo, n, rfl, G, r0, d1, ok, ⟨kvs, ha, hl, hv⟩, q⟩ := h
    have hu1 : (A.deeper (envOfC "_tellings" (defScope (topAt iTell)) s.heap.objs.size f cdv)).units + 1 < cLine := by have := hr.un; omega
    refine ⟨_, pss_cons (ps_if (wt_cmp (NL.op_neP (hu30 hr)) (m_eq true) (we_ix ix_seq m_ix (we_v (pv 1)) (we_c pe_int) (fun _ _ => rfl)) (we_c pe_str) (nomark _)) (pss_one (ps_ret (pe_lst (pa_cons (pv 1) pa_nil)))) pss_nil)
      (pss_cons (ps_set (i := 3) scTell.nd rfl (Or.inl rfl) (we_ife (wt_val (we_call hunt hr (by decide) (by rfl) (wa_cons (we_v (pv 1)) wa_nil))) (we_k (pe_glob (v := .ref aU) rfl gU rfl) dU) (we_tup (wa_cons (we_ix ix_seq m_ix (we_v (pv 1)) (we_c pe_int) (fun _ _ => rfl)) wa_nil))))
      (pss_cons (ps_if (pt_cmpR (NL.op_eqP (hu30 hr)) (pe_dget2 hu1 (pv 2) (we_ix ix_seq m_ix (we_v (pv 1)) (we_c pe_int) (fun _ _ => rfl)) pe_str ⟨rfl, rfl, rfl, rfl⟩) (we_meth hg hr (by decide) T.cls (we_v (pv 0)) (wa_cons (we_ix ix_seq m_ix (we_ix ix_seq m_ix (we_v (pv 1)) (we_c pe_int) (fun _ _ => rfl)) (we_c pe_int) (fun _ _ => rfl)) wa_nil)) (nomark _))
        (pss_one (ws_setLcT (i := 3) mkD_ok (own := [("outcome", 4)]) (t := .one 4) rfl scTell.nd rfl rfl (by rfl) (we_v (pv 3)) (blkOk_by (N := NTe) (sc := defScope (topAt iTell)) (by decide +kernel)) (fun _ _ _ _ _ => pg_name (i := 4) scTell.nd rfl (Or.inl rfl)) (fun _ _ _ _ _ => wts_one (wt_cmp (NL.op_neP (hu30 hr)) (m_eq true) (we_v (pv 4)) (we_c pe_str) (nomark _)))
          (fun _ _ _ _ _ => we_v (pv 4))))
        pss_nil)
      (pss_one (PS.or (ps_ret (pe_lcTf (own := [("outcome", 4)]) (t := .one 4) rfl scTell.nd (we_v (pv 3)) (blkOk_by (N := NTe) (sc := defScope (topAt iTell)) (by decide +kernel)) (fun _ _ _ _ _ => pg_name (i := 4) scTell.nd rfl (Or.inl rfl)) (fun _ _ _ _ _ => wts_nil)
          (fun _ _ _ _ _ => we_op op_catA m_cat (we_slT (we_v (pv 1)) wo_none (wo_some (we_c pe_int))) (we_tup (wa_cons (we_v (pv 4)) wa_nil)))))
        (ps_ret (pe_lcLf (own := [("outcome", 4)]) (t := .one 4) rfl scTell.nd (we_v (pv 3)) (blkOk_by (N := NTe) (sc := defScope (topAt iTell)) (by decide +kernel)) (fun _ _ _ _ _ => pg_name (i := 4) scTell.nd rfl (Or.inl rfl)) (fun _ _ _ _ _ => wts_nil)
          (fun _ _ _ _ _ => we_op op_catA m_cat (we_slT (we_v (pv 1)) wo_none (wo_some (we_c pe_int))) (we_tup (wa_cons (we_v (pv 4)) wa_nil))))))))), ?_⟩
    have hst : ∀ {H2 : Hp} {v : V} {z : Str}, RW P w K H2 v (.d (.str z)) → v = .str z := fun {H2 v z} r => by
      cases rw_d r
      rfl
    have E0 : ER P w K H [some v0, some v1, some (.ref a), none, none] [some (.ob CS (shopI gs)), some (.d (evD e)), none, none, none] := er_yes r0 (er_yes (.d d1) (er_no (er_no (er_no er_nil))))
    have ret1 : ∀ {H2 : Hp}, Sm H H2 → tellsOf (hmOf gs) fo e = [e] → ∀ l, H2 l = none → Q (.ref l) (upd H2 l (.lst [v1])) := fun {H2} s2 et l nl => by
      refine q l [v1] _ (sm_no s2 nl) (fun b o e => ?_) upd_same ?_
      · rw [upd_ne (ne_of_none (s2 _ _ e) nl)]
        exact s2 _ _ e
      · rw [et]
        exact (.cons (dp_sm (fun b o e => by rw [upd_ne (ne_of_none (s2 _ _ e) nl)]; exact s2 _ _ e) d1) .nil)
    cases e with
    | fresh w' => exact ⟨_, true, E0, rfl, fun H2 s2 => ite_yes ⟨_, rfl, (show (1 : Nat) ≤ sizeLine from by decide), fun l nl => ret1 s2 rfl l nl⟩⟩
    | gap w' => exact ⟨_, true, E0, rfl, fun H2 s2 => ite_yes ⟨_, rfl, (show (1 : Nat) ≤ sizeLine from by decide), fun l nl => ret1 s2 rfl l nl⟩⟩
    | clear => exact ⟨_, true, E0, rfl, fun H2 s2 => ite_yes ⟨_, rfl, (show (1 : Nat) ≤ sizeLine from by decide), fun l nl => ret1 s2 rfl l nl⟩⟩
    | run w' t o =>
      refine ⟨_, false, E0, rfl, fun H2 s2 => ite_no ?_⟩
      have eo : ifeF (testF (callF 1 semUnt (consF (vF 1) nilF))) (cF (.tuple (outsU.map .str))) (tupF (consF (opF (vF 1) (cF (sc (V.int 3))) oIx) nilF)) [some (.ob CS (shopI gs)), some (.d (evD (.run w' t o))), none, none, none] = some (.d (.tuple ((outsOf o).map .str))) := by
        cases o <;> rfl
      refine ⟨_, _, E0.sm s2, eo, fun v H3 s3 rv => ?_⟩
      have s03 := s2.trans s3
      have E3 : ER P w K H3 [some v0, some v1, some (.ref a), some v, none] [some (.ob CS (shopI gs)), some (.d (evD (.run w' t o))), none, some (.d (.tuple ((outsOf o).map .str))), none] := er_yes (rw_sm s03 r0) (er_yes (.d (dp_sm s03 d1)) (er_no (er_yes rv (er_no er_nil))))
      refine ⟨_, rfl, a, rfl, .inl ⟨_, .inl (s03 _ _ ha)⟩, _, .d (.str w'), E3, rfl, fun u H4 s4 ru => ?_⟩
      obtain rfl := hst ru
      have s04 := s03.trans s4
      refine ⟨_, DGet.k (k := .inr w') (s04 _ _ ha), ?_⟩
      rw [hv w']
      have gs1 := gOf_sem (CS := CS) G ok.2.1.1
      refine ⟨_, .d (.str (hmOf gs t.1)), E3.sm s4, ?_, fun u H5 s5 ru => ?_⟩
      · unfold methF
        rw [show vF 0 [some (.ob CS (shopI gs)), some (.d (evD (.run w' t o))), none, some (.d (.tuple ((outsOf o).map .str))), none] = some (Wv.ob CS (shopI gs)) from rfl, Option.bind_some]
        dsimp only
        rw [if_pos ⟨rfl, rfl⟩]
        exact gs1
      obtain rfl := hst ru
      have s35 := s4.trans s5
      refine ⟨_, _, .str _, .str _, by simp [PyData.plain], by simp [PyData.plain], by simp [PyData.depth], ?_⟩
      rw [Bool.false_xor, eqs]
      have hlen : (outsOf o).length ≤ 1000 := by
        cases o with
        | none => decide
        | some z => show (1 : Nat) ≤ 1000; decide
      have fin : ∀ (zs : List Str) (x : Wv) (it : Wv → Option (List Wv)), it x = some ((zs.map PyData.str).map .d) → zs.length ≤ 1000 → lcO it (.one 4) [4] (vF 3) yesF (opF (slF (vF 1) (fun _ => some none) (fun ε => (cF (sc (V.int 3)) ε).bind fun x => (iOf x).map some)) (tupF (consF (vF 4) nilF)) oCat)
          [some (.ob CS (shopI gs)), some (.d (evD (.run w' t o))), none, some x, none] = some ((zs.map fun z => evD (.run w' t (some z))).map .d) := fun zs x it hx hz => by
        rw [lcO_filter (p := fun _ => true) (h := fun d => .tuple [.str "run", .str w', thD t, d]) (x := x) rfl hx (by rw [List.length_map]; exact hz) fun d hd => ?_]
        · rw [List.filter_eq_self.mpr fun _ _ => rfl, List.map_map, List.map_map, List.map_map]
          rfl
        · obtain ⟨z, _, rfl⟩ := List.mem_map.mp hd
          refine ⟨_, rfl, rfl, rfl, ?_⟩
          cases o <;> rfl
      have finQ : ∀ (zs : List Str) {H6 : Hp}, Sm H5 H6 → zs = ((outsOf o).filter fun (z : Str) => !(decide (fo w' = hmOf gs t.1) && decide (z = "skip"))) → ∀ (l : Addr) (us : List V) H', H6 l = none → Sm H6 H' → H' l = some (.lst us) → RWs P w K H' us ((zs.map fun z => evD (.run w' t (some z))).map .d) → Q (.ref l) H' := fun zs H6 s6 ez l us H' nl s7 hl rv => by
        have s06 := (s04.trans s5).trans s6
        refine q l us H' (sm_no s06 nl) (s06.trans s7) hl ?_
        have r1 := rws_map rv
        rw [ez] at r1
        show DpAll K H' us ((((outsOf o).filter fun (z : Str) => !(decide (fo w' = hmOf gs t.1) && decide (z = "skip"))).map fun z => Ev.run w' t (some z)).map evD)
        rw [List.map_map]
        exact r1
      by_cases ho : fo w' = hmOf gs t.1
      · rw [decide_eq_true ho]
        refine ⟨_, rfl, ite_yes ?_⟩
        have e5 : lcG mkD itT (.one 4) [4] (vF 3) (testF (opF (vF 4) (cF (sc (V.str "skip"))) (oEq true))) (vF 4) [some (.ob CS (shopI gs)), some (.d (evD (.run w' t o))), none, some (.d (.tuple ((outsOf o).map .str))), none]
            = some (.d (.list (((outsOf o).filter fun z => !decide (z = ("skip" : Str))).map .str))) := by
          rw [lcF_filter (p := fun d => match d with | .str z => !decide (z = ("skip" : Str)) | _ => true) (h := id) (ds := (outsOf o).map .str) (x := .d (.tuple ((outsOf o).map .str))) rfl rfl (by rw [List.length_map]; exact hlen) fun d hd => ?_]
          · rw [List.map_id, List.filter_map]
            rfl
          · obtain ⟨z, _, rfl⟩ := List.mem_map.mp hd
            exact ⟨_, rfl, test_e (cmp_e rfl rfl (eqn_W z "skip")), rfl, rfl⟩
        refine ⟨_, .inl _, E3.sm s35, congrArg (Option.map _) e5, fun σ' H6 s6 E6 => .inr ?_⟩
        refine ⟨_, _, E6, fin ((outsOf o).filter fun z => !decide (z = ("skip" : Str))) _ itL rfl (Nat.le_trans (List.length_filter_le ..) hlen), ?_⟩
        exact finQ _ s6 (by rw [decide_eq_true ho]; rfl)
      · rw [decide_eq_false ho]
        refine ⟨_, rfl, ite_no (.inl ?_)⟩
        refine ⟨_, _, E3.sm s35, fin (outsOf o) _ itT rfl hlen, ?_⟩
        exact finQ _ (Sm.rfl' H5) (by rw [decide_eq_false ho]; exact (List.filter_eq_self.mpr fun _ _ => rfl).symm)
end
end KW
namespace KW
open PySem PySem.Spec PyProof.Rows L2 KZ KS KP DC
/-! the list that the orders are gathered in -/
structure InvO (K : PySem.W.Frag) (J F : Addr) (H H2 : Hp) (n c : Nat) (H' : Hp) (vs : List V) : Prop where
  kp : Kp J H H'
  j : Jar J H' c
  hF : H' F = some (.lst vs)
  ln : vs.length = n
  os : ∃ os, DpAll K (dls [F, J] H') vs os ∧ ∀ o ∈ os, OrdOk o
  sm : Sm (dls [F, J] H2) (dls [F, J] H')
theorem Jar.sm {J : Addr} {H H' : Hp} {c : Nat} (s : Sm H H') : Jar J H c → Jar J H' c := fun ⟨m, z, k, e, r⟩ => ⟨m, z, k, s _ _ e, r⟩
theorem Kp.sm {J : Addr} {H H1 H2 : Hp} (k : Kp J H H1) (s : Sm H1 H2) : Kp J H H2 := fun b o e n => s _ _ (k b o e n)
section
variable {K : PySem.W.Frag} {J F : Addr} {H H2 H' : Hp} {n c : Nat} {vs : List V}
theorem InvO.up (h : InvO K J F H H2 n c H' vs) (FJ : F ≠ J) {H3 : Hp} {c3 : Nat} (k : Kp J H' H3) (j : Jar J H3 c3) : InvO K J F H H2 n c3 H3 vs := by
  obtain ⟨os, dv, ok⟩ := h.os
  exact ⟨h.kp.trans k, j, k _ _ h.hF FJ, h.ln, ⟨os, dpa_sm (dls_kp k (by simp)) dv, ok⟩, h.sm.trans (dls_kp k (by simp))⟩
theorem InvO.le (h : InvO K J F H H2 n c H' vs) : LE H' [F, J] := fun a ha => by
  rcases List.mem_cons.mp ha with rfl | ha
  · exact .inl ⟨_, h.hF⟩
  · rw [List.mem_singleton.mp ha]
    obtain ⟨m, s, k, e, _⟩ := h.j
    exact .inl ⟨_, e⟩
theorem InvO.sep (h : InvO K J F H H2 n c H' vs) (hn : 10 ≤ n) : SepL K H' [F, J] is2 := fun a ha xs ds ex dx => by
  have l1 := dpa_len dx
  rcases List.mem_cons.mp ha with rfl | ha
  · rw [h.hF] at ex
    cases ex
    have := h.ln
    exact beq_false_of_ne (by omega)
  · rw [List.mem_singleton.mp ha] at ex
    obtain ⟨m, s, k, e, _⟩ := h.j
    rw [e] at ex
    cases ex
    show (ds.length == 2) = false
    rw [← l1]
    rfl
theorem InvO.put (h : InvO K J F H H2 n c H' vs) (FJ : F ≠ J) (nF : H F = none) (hn : 10 ≤ n) {us : List V} {ns : List PyData} (du : DpAll K H' us ns) (al : alLs is2 ns = true) (ok : ∀ o ∈ ns, OrdOk o) :
    InvO K J F H H2 (n + us.length) c (upd H' F (.lst (vs ++ us))) (vs ++ us) := by
  obtain ⟨os, dv, okv⟩ := h.os
  refine ⟨h.kp.put nF, h.j.put FJ, upd_same, by rw [List.length_append, h.ln], ⟨os ++ ns, ?_, fun o ho => ?_⟩, ?_⟩
  · rw [dls_put (by simp)]
    exact dpa_app dv (dpa_leL h.le (h.sep hn) al du)
  · rcases List.mem_append.mp ho with z | z
    · exact okv o z
    · exact ok o z
  · rw [dls_put (by simp)]
    exact h.sm
end
/-! what is gathered -/
end KW
namespace KW
open PySem PySem.Spec PyProof.Rows L2 KZ KS KP DC
/-! fillings_of -/
def fillD (f : List Str) : PyData := .tuple (f.map .str)
/-- a row: a filling, and what is open behind it -/
def RowAt (K : PySem.W.Frag) (H : Hp) (v : V) (r : RowP) (n : Nat) : Prop := ∃ (p a : Addr) (vf : V), v = .ref p ∧ H p = some (.tup [vf, .ref a]) ∧ Dp K H vf (fillD r.1) ∧ OpD H a r.2 n
abbrev RowsAt (K : PySem.W.Frag) (H : Hp) (vs : List V) (rs : List RowP) (n : Nat) : Prop := Paired (fun v r => RowAt K H v r n) vs rs
theorem RowAt.sm {K : PySem.W.Frag} {H H' : Hp} (s : Sm H H') {v : V} {r : RowP} {n : Nat} (h : RowAt K H v r n) : RowAt K H' v r n := let ⟨p, a, vf, e, h1, h2, h3⟩ := h; ⟨p, a, vf, e, s _ _ h1, dp_sm s h2, h3.sm s⟩
theorem rows_sm {K : PySem.W.Frag} {H H' : Hp} (s : Sm H H') {vs : List V} {rs : List RowP} {n : Nat} (h : RowsAt K H vs rs n) : RowsAt K H' vs rs n := Paired.imp h fun _ _ z => z.sm s
theorem tells_len (hm : Str → Str) (o : Str → Str) (e : Ev) : (tellsOf hm o e).length ≤ if untD e = true then 3 else 1 := by
  cases e with
  | fresh w => exact Nat.le_refl _
  | gap w => exact Nat.le_refl _
  | clear => exact Nat.le_refl _
  | run w t out =>
    show ((((outsOf out).filter fun (z : Str) => !(decide (o w = hm t.1) && decide (z = "skip"))).map fun z => Ev.run w t (some z)).length ≤ _)
    rw [List.length_map]
    cases out with
    | none => exact List.length_filter_le ..
    | some z => exact List.length_filter_le ..
theorem flat_len {α β : Type} {f : α → List β} {c : Nat} : ∀ {l : List α}, (∀ x ∈ l, (f x).length ≤ c) → (l.flatMap f).length ≤ l.length * c
  | [], _ => by simp
  | x :: l, h => by
    have h1 := h x (List.mem_cons_self ..)
    have h2 := flat_len (l := l) fun y hy => h y (List.mem_cons_of_mem _ hy)
    rw [List.flatMap_cons, List.length_append, List.length_cons, Nat.add_mul, Nat.one_mul]
    omega
theorem rows_len (hm : Str → Str) : ∀ (page : List Ev) (rs : List RowP), (page.foldl (fun rs e => stepP hm e rs) rs).length ≤ rs.length * 3 ^ (page.filter untD).length
  | [], rs => by simp
  | e :: p, rs => by
    have ih := rows_len hm p (stepP hm e rs)
    have h1 : (stepP hm e rs).length ≤ rs.length * (if untD e = true then 3 else 1) := flat_len fun r _ => by
      rw [List.length_map]
      exact tells_len hm r.2 e
    rw [List.foldl_cons]
    refine Nat.le_trans ih ?_
    cases he : untD e with
    | true =>
      rw [he, if_pos rfl] at h1
      rw [List.filter_cons_of_pos he, List.length_cons, Nat.pow_succ, Nat.mul_comm (3 ^ _) 3, ← Nat.mul_assoc]
      exact Nat.mul_le_mul_right _ h1
    | false =>
      rw [he, if_neg (by decide), Nat.mul_one] at h1
      rw [List.filter_cons_of_neg (by simp [he])]
      exact Nat.mul_le_mul_right _ h1
theorem tells_ok {gs : List Grp} {o : Str → Str} {e t : Ev} (ok : EvOk gs e) (ht : t ∈ tellsOf (hmOf gs) o e) : told1 t = true ∧ EvOk gs t := by
  cases e with
  | fresh w => obtain rfl := List.mem_singleton.mp ht; exact ⟨rfl, ok⟩
  | gap w => obtain rfl := List.mem_singleton.mp ht; exact ⟨rfl, ok⟩
  | clear => obtain rfl := List.mem_singleton.mp ht; exact ⟨rfl, ok⟩
  | run w t' out =>
    obtain ⟨z, hz, rfl⟩ := List.mem_map.mp (show t ∈ (((outsOf out).filter fun (z : Str) => !(decide (o w = hmOf gs t'.1) && decide (z = "skip"))).map fun z => Ev.run w t' (some z)) from ht)
    have hz2 := (List.mem_filter.mp hz).1
    refine ⟨rfl, ok.1, ok.2.1, ?_⟩
    cases out with
    | none =>
      show decide (z ∈ toldW) = true
      have : z ∈ outsU := hz2
      simp only [outsU, List.mem_cons, List.not_mem_nil, or_false] at this
      rcases this with rfl | rfl | rfl <;> decide
    | some y =>
      obtain rfl := List.mem_singleton.mp hz2
      exact ok.2.2
theorem add_W (e t : Ev) (gs : List Grp) (o : Str → Str) (hm : Str → Str) (ht : t ∈ tellsOf hm o e) (a0 a1 a2 a4 a5 a6 a8 a9 : Option Wv) : ifeF (testF (callF 1 semUnt (consF (vF 3) nilF))) (tupF (consF (opF (vF 7) (cF (sc (V.int 3))) oIx) nilF)) (tupF nilF) [a0, a1, a2, some (.d (evD e)), a4, a5, a6, some (.d (evD t)), a8, a9] = some (.d (.tuple ((addE e t).map .str))) := by
  cases e with
  | fresh w => rfl
  | gap w => rfl
  | clear => rfl
  | run w t' out =>
    cases out with
    | some z => rfl
    | none =>
      obtain ⟨z, hz, rfl⟩ := List.mem_map.mp (show t ∈ (((outsOf none).filter fun (z : Str) => !(decide (o w = hm t'.1) && decide (z = "skip"))).map fun z => Ev.run w t' (some z)) from ht)
      rfl
theorem paired_at {α β : Type} {R : α → β → Prop} : ∀ {xs : List α} {ys : List β}, Paired R xs ys → ∀ {j : Nat} {x : α}, xs[j]? = some x → ∃ y, ys[j]? = some y ∧ R x y
  | _, _, .nil, j, x, h => by simp at h
  | _, _, .cons a t, 0, x, h => by
    simp at h
    subst h
    exact ⟨_, by simp, a⟩
  | _, _, .cons a t, j + 1, x, h => by
    obtain ⟨y, h1, h2⟩ := paired_at t (j := j) (by simpa using h)
    exact ⟨y, by simpa using h1, h2⟩
theorem le1 {H : Hp} {F : Addr} {xs : List V} (h : H F = some (.lst xs)) : LE H [F] := fun b hb => by
  rw [List.mem_singleton.mp hb]
  exact .inl ⟨_, h⟩
theorem noLs_evs : ∀ ts : List Ev, noLs (ts.map evD) = true
  | [] => rfl
  | t :: ts => by
    show (noL (evD t) && noLs (ts.map evD)) = true
    rw [noL_ev, noLs_evs ts]
    rfl
theorem addE_len {hm : Str → Str} {o : Str → Str} (e t : Ev) : (addE e t).length ≤ 1 := by
  unfold addE
  split
  · cases t with
    | run w t o => cases o <;> exact Nat.le_of_ble_eq_true rfl
    | _ => exact Nat.zero_le _
  · exact Nat.zero_le _
theorem rows_fill (hm : Str → Str) : ∀ (page : List Ev) (rs : List RowP) (n : Nat), (∀ r ∈ rs, r.1.length ≤ n) → ∀ r ∈ page.foldl (fun rs e => stepP hm e rs) rs, r.1.length ≤ n + page.length
  | [], rs, n, h, r, hr => h r hr
  | e :: p, rs, n, h, r, hr => by
    have := rows_fill hm p (stepP hm e rs) (n + 1) (fun r' hr' => by
      obtain ⟨r0, h0, hr0⟩ := List.mem_flatMap.mp hr'
      obtain ⟨t, ht, rfl⟩ := List.mem_map.mp hr0
      have := h r0 h0
      have := addE_len (hm := hm) (o := r0.2) e t
      show (r0.1 ++ addE e t).length ≤ n + 1
      rw [List.length_append]
      omega) r hr
    rw [List.length_cons]
    omega
theorem sm_put {H H' : Hp} {p : Addr} {u : HO} (s : Sm H H') (h : H p = none) : Sm H (upd H' p u) := fun b o e => by
  rw [upd_ne (ne_of_none e h)]
  exact s _ _ e
abbrev iFills : Nat := 30
abbrev NFi : List Str := ["shop", "events", "rows", "event", "longer", "filling", "opened", "told", "added", "row"]
theorem scFills : FnScope NFi ["shop", "events"] (defScope (topAt iFills)) := ⟨rfl, rfl, rfl, by decide +kernel, rfl, by decide +kernel, by decide +kernel⟩
def spFills (P : Program) (w : World) (K : PySem.W.Frag) (CS : Addr) : Sp := fun vs H Q _ => ∃ (v0 v1 : V) (gs : List Grp) (page : List Ev), vs = [v0, v1] ∧ GoodGs gs ∧ RW P w K H v0 (.ob CS (shopI gs)) ∧ Dp K H v1 (.tuple (page.map evD)) ∧ (∀ e ∈ page, EvOk gs e) ∧ page.length ≤ 100 ∧ (page.filter untD).length ≤ 3 ∧
  ∀ (v : V) H', Sm H H' → Dp K H' v (.tuple ((fillsP (hmOf gs) page).map fillD)) → Q v H'
section
variable {P : Program} {w : World} {K : PySem.W.Frag} {mg : Str → Option Value} {base : Heap} {CS : Addr}
theorem ok_fills {f fT fB : Addr} {fd fdT fdB : FuncData} (F : Fd K iFills "fillings_of" f fd) (hunt : Pu P w K mg base 1 "_is_untold" 1 semUnt)
    (GT : FnOk P w K mg base CX0 2 fT fdT ["shop", "event", "opened"] (spTell P w K CS)) (bT : Binds K fdT ["shop", "event", "opened"] []) (kT : PySem.W.keepIn K (.ref fT) = true) (gT : mg "_tellings" = some (.ref fT))
    (GB : FnOk P w K mg base CX0 2 fB fdB ["shop", "event", "opened"] (spBeh P w K CS)) (bB : Binds K fdB ["shop", "event", "opened"] []) (kB : PySem.W.keepIn K (.ref fB) = true) (gB : mg "_opened_behind" = some (.ref fB))
    (gt : mg "tuple" = none) (gls : mg "list" = none) : FnOk P w K mg base CX0 3 f fd ["shop", "events"] (spFills P w K CS) := by
  refine F.ok scFills (fun vs H Q E h => ?_) (fun cdv A outer s H vs Q E hr h => ?_)
  · obtain ⟨v0, v1, gs, page, rfl, _⟩ := h
    rfl
  · obtain ⟨v0, v1, gs, page, rfl, G, r0, d1, ok, hn, hu, q⟩ := h
    refine ⟨_, PSs.nox (pss_cons (ps_set (i := 2) scFills.nd rfl (Or.inl rfl) (pe_lst (pa_cons (pe_tup (pa_cons (pe_tup pa_nil) (pa_cons pe_dnewK pa_nil))) pa_nil)))
      (pss_cons (ps_for PassesOwn.never rfl (pi_tup (pv 1)) (pg_name (i := 3) scFills.nd rfl (Or.inl rfl))
        (pss_cons (ps_set (i := 4) scFills.nd rfl (Or.inl rfl) (pe_lst pa_nil))
        (pss_cons (ps_for PassesOwn.never rfl (pi_list (pe_callTy call_list_of (by rfl) gls (by decide +kernel) (pa_cons (pv 2) pa_nil))) (pg_tup rfl (pgs_cons (pg_name (i := 5) scFills.nd rfl (Or.inl rfl)) (pgs_cons (pg_name (i := 6) scFills.nd rfl (Or.inl rfl)) pgs_nil)))
          (pss_one (ps_for PassesOwn.never rfl (pi_list (pe_call GT hr rfl gT kT bT .nil pass0 (pa_cons (pv 0) (pa_cons (pv 3) (pa_cons (pv 6) pa_nil))))) (pg_name (i := 7) scFills.nd rfl (Or.inl rfl))
            (pss_cons (ps_set (i := 8) scFills.nd rfl (Or.inl rfl) (we_ife (wt_val (we_call hunt hr (by decide) (by rfl) (wa_cons (we_v (pv 3)) wa_nil))) (we_tup (wa_cons (we_ix ix_seq m_ix (we_v (pv 7)) (we_c pe_int) (fun _ _ => rfl)) wa_nil)) (we_tup wa_nil)))
            (pss_one (ps_expr (pe_bm PySem.F.plainAttrs_list PySem.F.slot_list_append PySem.F.type_list_append mt_append (pv 4) (pa_cons (pe_tup (pa_cons (we_op op_catA m_cat (we_v (pv 5)) (we_v (pv 8))) (pa_cons (pe_call GB hr rfl gB kB bB .nil pass0 (pa_cons (pv 0) (pa_cons (pv 7) (pa_cons (pv 6) pa_nil)))) pa_nil))) pa_nil))))))))
        (pss_one (ps_set (i := 2) scFills.nd rfl (Or.inl rfl) (pv 4))))))
      (pss_one (ps_ret (pe_callTy call_tuple_of (by rfl) gt (by decide +kernel) (pa_cons (pe_lc (own := [("row", 9)]) rfl scFills.nd (pi_list (pv 2)) (blkOk_by (N := NFi) (sc := defScope (topAt iFills)) (by decide +kernel)) (fun _ _ _ _ _ => pg_name (i := 9) scFills.nd rfl (Or.inl rfl)) (fun _ _ _ _ _ => pts_nil)
        (fun _ _ _ _ _ => (show PE _ _ (tOp (rIxT K) (tVar 9) (tC (.int 0))) from pe_ix ix_tup (pv 9) pe_int (fun _ _ => rfl)))) pa_nil)))))), ?_⟩
    have sl : sizeLine = 16777216 := sizeLine_eq
    refine ⟨by rw [sl]; decide, fun p1 np1 p2 np2 => ⟨by rw [sl]; show (2 : Nat) ≤ _; decide, fun p3 np3 => ⟨by rw [sl]; show (1 : Nat) ≤ _; decide, fun F0 nF0 => ?_⟩⟩⟩
    have s1 : Sm H (upd H p1 (.tup [])) := upd_sm np1
    have s2 : Sm H (upd (upd H p1 (.tup [])) p2 (.dK [])) := s1.trans (upd_sm np2)
    have s3 : Sm H (upd (upd (upd H p1 (.tup [])) p2 (.dK [])) p3 (.tup [.ref p1, .ref p2])) := s2.trans (upd_sm np3)
    have hp1 : (upd (upd (upd H p1 (.tup [])) p2 (.dK [])) p3 (.tup [.ref p1, .ref p2])) p1 = some (.tup []) := (upd_sm np3) _ _ ((upd_sm np2) _ _ upd_same)
    have hp2 : (upd (upd (upd H p1 (.tup [])) p2 (.dK [])) p3 (.tup [.ref p1, .ref p2])) p2 = some (.dK []) := (upd_sm np3) _ _ upd_same
    have hp3 : (upd (upd (upd H p1 (.tup [])) p2 (.dK [])) p3 (.tup [.ref p1, .ref p2])) p3 = some (.tup [.ref p1, .ref p2]) := upd_same
    generalize (upd (upd (upd H p1 (.tup [])) p2 (.dK [])) p3 (.tup [.ref p1, .ref p2])) = H3 at s3 hp1 hp2 hp3 nF0 ⊢
    have s4 : Sm H3 (upd H3 F0 (.lst [.ref p3])) := upd_sm nF0
    have d4 : Sm H3 (dls [F0] (upd H3 F0 (.lst [.ref p3]))) := by
      rw [dls_put (by simp)]
      exact fun b o e => dls_at e (by simp [ne_of_none e nF0])
    have hF4 : (upd H3 F0 (.lst [.ref p3])) F0 = some (.lst [.ref p3]) := upd_same
    generalize upd H3 F0 (.lst [.ref p3]) = H4 at s4 d4 hF4 ⊢
    have R4 : RowsAt K (dls [F0] H4) [.ref p3] [([], fun _ => "")] 0 := .cons ⟨p3, p2, .ref p1, rfl, d4 _ _ hp3, .tup (SqT.of (d4 _ _ hp1)) .nil, OpD.nil (d4 _ _ hp2)⟩ .nil
    have sH4 := s3.trans s4
    have nFH : H F0 = none := sm_no s3 nF0
    obtain ⟨a1, us, rfl, sq1, du⟩ : ∃ a1 us, v1 = .ref a1 ∧ SqT K H a1 us ∧ DpAll K H us (page.map evD) := by
      cases d1 with
      | tup hs t => exact ⟨_, _, rfl, hs, t⟩
    have lus : us.length = page.length := by rw [dpa_len du, List.length_map]
    have pl3 : ∀ i, ((page.take i).filter untD).length ≤ 3 := fun i => Nat.le_trans (List.Sublist.length_le ((List.take_sublist i page).filter _)) hu
    have rl : ∀ i, ((page.take i).foldl (fun rs e => stepP (hmOf gs) e rs) [(([] : List Str), fun _ => ("" : Str))]).length ≤ 27 := fun i => by
      refine Nat.le_trans (rows_len (hmOf gs) (page.take i) _) ?_
      rw [List.length_singleton, Nat.one_mul]
      exact Nat.le_trans (Nat.pow_le_pow_right (by decide) (pl3 i)) (by decide)
    refine ⟨_, rfl, a1, rfl, ⟨us, sqt_sm sH4 sq1⟩, for_tup (K := K) (a := a1) (xs := us)
      (fun i σ H' => ∃ (Fa : Addr) (xs : List V) (b3 b4 b5 b6 b7 b8 b9 : Option V), σ = [some v0, some (.ref a1), some (.ref Fa), b3, b4, b5, b6, b7, b8, b9] ∧ H Fa = none ∧ H' Fa = some (.lst xs) ∧ Sm H H' ∧
        RowsAt K (dls [Fa] H') xs ((page.take i).foldl (fun rs e => stepP (hmOf gs) e rs) [([], fun _ => "")]) i)
      ⟨F0, _, _, _, _, _, _, _, _, rfl, nFH, hF4, sH4, R4⟩ (fun i σ H' _ ⟨_, _, _, _, _, _, _, _, _, _, _, _, s, _⟩ => sqt_sm s sq1) ?_ ?_⟩
    · rintro i x σ H5 hx ⟨Fa, xs, b3, b4, b5, b6, b7, b8, b9, rfl, nF, hF, s5, R⟩
      have hi : i < us.length := (List.getElem?_eq_some_iff.mp hx).1
      obtain ⟨e, he⟩ : ∃ e, page[i]? = some e := ⟨_, List.getElem?_eq_getElem (by omega)⟩
      have hem := ok e (List.mem_of_getElem? he)
      obtain ⟨x', hx', dx0⟩ := dpa_at du i (evD e) (by rw [List.getElem?_map, he]; rfl)
      obtain rfl := Option.some.inj (hx'.symm.trans hx)
      have tk1 : page.take (i + 1) = page.take i ++ [e] := by rw [List.take_succ, he]; rfl
      have hlen := rl i
      have fl := rows_fill (hmOf gs) (page.take i) [([], fun _ => "")] 0 (fun r hr => by rw [List.mem_singleton.mp hr]; exact Nat.le_refl _)
      have li : (page.take i).length ≤ 100 := Nat.le_trans (List.length_take_le ..) (by omega)
      rw [tk1, List.foldl_append]
      generalize (page.take i).foldl (fun rs e => stepP (hmOf gs) e rs) [(([] : List Str), fun _ => ("" : Str))] = rs at R hlen fl ⊢
      have lxs : xs.length = rs.length := Paired.length R
      refine ⟨by rw [sl]; decide, fun F2 nF2 => ?_⟩
      have s6 : Sm H5 (upd H5 F2 (.lst [])) := upd_sm nF2
      have hF6 : (upd H5 F2 (.lst [])) F2 = some (.lst []) := upd_same
      refine ⟨_, rfl, Fa, xs, rfl, .inl (SqL.of (s6 _ _ hF)), fun C nC => ?_⟩
      have h62 : (upd (upd H5 F2 (.lst [])) C (.lst xs)) F2 = some (.lst []) := upd_sm nC _ _ hF6
      have hC7 : (upd (upd H5 F2 (.lst [])) C (.lst xs)) C = some (.lst xs) := upd_same
      have s57 : Sm H5 (upd (upd H5 F2 (.lst [])) C (.lst xs)) := s6.trans (upd_sm nC)
      generalize upd (upd H5 F2 (.lst [])) C (.lst xs) = H7 at h62 hC7 s57 ⊢
      have CF : C ≠ F2 := fun z => by rw [z, hF6] at nC; cases nC
      have d57 : Sm H5 (dls [F2] H7) := fun b o z => dls_at (s57 _ _ z) (by simp [ne_of_none z nF2])
      have R7 : RowsAt K (dls [F2] H7) xs rs i := rows_sm ((dls_sm _ _).trans d57) R
      have dC : (dls [F2] H7) C = some (.lst xs) := dls_at hC7 (by simp [CF])
      have dH : Sm H (dls [F2] H7) := s5.trans d57
      refine ⟨C, rfl, ⟨xs, SqL.of hC7⟩, for_list (K := K) (a := C) (xs := xs)
        (fun j σ H' => ∃ (ys : List V) (b5 b6 b7 b8 b9 : Option V), σ = [some v0, some (.ref a1), some (.ref Fa), some x', some (.ref F2), b5, b6, b7, b8, b9] ∧ H' F2 = some (.lst ys) ∧ Sm (dls [F2] H7) (dls [F2] H') ∧
          RowsAt K (dls [F2] H') ys ((rs.take j).flatMap fun r => (tellsOf (hmOf gs) r.2 e).map fun t => (r.1 ++ addE e t, stepO (hmOf gs) r.2 t)) (i + 1))
        ⟨[], _, _, _, _, _, rfl, h62, Sm.rfl' _, .nil⟩ (fun j σ H' _ ⟨_, _, _, _, _, _, _, _, s, _⟩ => SqL.of (dls_sm _ _ _ _ (s _ _ dC))) ?_ ?_⟩
      · rintro j y σ H8 hy ⟨ys, b5, b6, b7, b8, b9, rfl, hF8, s78, RY⟩
        have hj : j < xs.length := (List.getElem?_eq_some_iff.mp hy).1
        obtain ⟨r, hr, rowat⟩ : ∃ r, rs[j]? = some r ∧ RowAt K (dls [F2] H8) y r i := by
          obtain ⟨r, h1, h2⟩ := paired_at R7 hy
          exact ⟨r, h1, h2.sm s78⟩
        obtain ⟨p, a, vf, rfl, hp, df, opd⟩ := rowat
        have sH8 : Sm H H8 := dH.trans (s78.trans (dls_sm _ _))
        have dx8 := dp_sm sH8 dx0
        have tkr : rs.take (j + 1) = rs.take j ++ [r] := by rw [List.take_succ, hr]; rfl
        rw [tkr, List.flatMap_append, List.flatMap_cons, List.flatMap_nil, List.append_nil]
        have lg : ((rs.take j).flatMap fun r => (tellsOf (hmOf gs) r.2 e).map fun t => (r.1 ++ addE e t, stepO (hmOf gs) r.2 t)).length ≤ 81 := by
          refine Nat.le_trans (flat_len (c := 3) fun r' _ => ?_) ?_
          · rw [List.length_map]
            exact Nat.le_trans (tells_len (hmOf gs) r'.2 e) (by split <;> decide)
          · rw [List.length_take]
            omega
        have lys := Paired.length RY
        generalize ((rs.take j).flatMap fun r => (tellsOf (hmOf gs) r.2 e).map fun t => (r.1 ++ addE e t, stepO (hmOf gs) r.2 t)) = gr at RY lg lys ⊢
        have tl3 : (tellsOf (hmOf gs) r.2 e).length ≤ 3 := Nat.le_trans (tells_len (hmOf gs) r.2 e) (by split <;> decide)
        have tok : ∀ t ∈ tellsOf (hmOf gs) r.2 e, told1 t = true ∧ EvOk gs t := fun t ht => tells_ok hem ht
        have opd8 : OpD H8 a r.2 i := opd.sm (dls_sm _ _)
        have df8 := df
        refine ⟨p, _, rfl, SqT.of (dls_sm _ _ _ _ hp), rfl, ?_⟩
        refine ⟨vf, _, rfl, .ref a, _, rfl, rfl, _, rfl, _, rfl, _, rfl, v0, x', a, gs, e, r.2, i, rfl, G, rw_sm sH8 r0, dx8, hem, opd8, fun L ts H9 nL s89 hL dts => ?_⟩
        have LF : L ≠ F2 := fun z => by rw [z, hF8] at nL; cases nL
        have lts : ts.length = (tellsOf (hmOf gs) r.2 e).length := by rw [dpa_len dts, List.length_map]
        have d89 : Sm (dls [F2] H8) (dls [F2] H9) := dls_mono s89
        have dL : (dls [F2] H9) L = some (.lst ts) := dls_at hL (by simp [LF])
        have hF9 := s89 _ _ hF8
        have dts9 : DpAll K (dls [F2] H9) ts ((tellsOf (hmOf gs) r.2 e).map evD) := dpa_le (le1 hF9) (noLs_evs _) dts
        have dH9 : Sm H (dls [F2] H9) := dH.trans (s78.trans d89)
        refine ⟨L, rfl, ⟨ts, SqL.of hL⟩, for_list (K := K) (a := L) (xs := ts)
          (fun k σ H' => ∃ (zs : List V) (b7 b8 b9 : Option V), σ = [some v0, some (.ref a1), some (.ref Fa), some x', some (.ref F2), some vf, some (.ref a), b7, b8, b9] ∧ H' F2 = some (.lst zs) ∧ Sm (dls [F2] H9) (dls [F2] H') ∧
            RowsAt K (dls [F2] H') zs (gr ++ ((tellsOf (hmOf gs) r.2 e).take k).map fun t => (r.1 ++ addE e t, stepO (hmOf gs) r.2 t)) (i + 1))
          ⟨ys, _, _, _, rfl, hF9, Sm.rfl' _, by rw [List.take_zero, List.map_nil, List.append_nil]; exact rows_sm d89 RY⟩ (fun k σ H' _ ⟨_, _, _, _, _, _, s, _⟩ => SqL.of (dls_sm _ _ _ _ (s _ _ dL))) ?_ ?_⟩
        · rintro k y σ H10 hy ⟨zs, b7, b8, b9, rfl, hF10, s10, RZ⟩
          have hk : k < (tellsOf (hmOf gs) r.2 e).length := by rw [← lts]; exact (List.getElem?_eq_some_iff.mp hy).1
          obtain ⟨t, ht⟩ : ∃ t, (tellsOf (hmOf gs) r.2 e)[k]? = some t := ⟨_, List.getElem?_eq_getElem hk⟩
          obtain ⟨y', hy', dy9⟩ := dpa_at dts9 k (evD t) (by rw [List.getElem?_map, ht]; rfl)
          obtain rfl := Option.some.inj (hy'.symm.trans hy)
          have htm := List.mem_of_getElem? ht
          obtain ⟨tt, tok1⟩ := tok t htm
          have sH10 : Sm H H10 := dH9.trans (s10.trans (dls_sm _ _))
          have S10 : Sm (dls [F2] H8) (dls [F2] H10) := d89.trans s10
          have dy10 : Dp K H10 y' (evD t) := dp_sm (s10.trans (dls_sm _ _)) dy9
          have tkt : (tellsOf (hmOf gs) r.2 e).take (k + 1) = (tellsOf (hmOf gs) r.2 e).take k ++ [t] := by rw [List.take_succ, ht]; rfl
          have lz := Paired.length RZ
          rw [List.length_append, List.length_map, List.length_take] at lz
          have rfl1 : r.1.length ≤ 100 := Nat.le_trans (fl r (List.mem_of_getElem? hr)) (by omega)
          have ad1 := addE_len (hm := hmOf gs) (o := r.2) e t
          have dfl10 : Dp K H10 vf (fillD r.1) := dp_sm (S10.trans (dls_sm _ _)) df
          refine ⟨[none, none, none, some (.d (evD e)), none, some (.d (fillD r.1)), none, some (.d (evD t)), none, none], _, er_no (er_no (er_no (er_yes (.d (dp_sm sH10 dx0)) (er_no (er_yes (.d dfl10) (er_no (er_yes (.d dy10) (er_no (er_no er_nil))))))))), add_W e t gs r.2 (hmOf gs) htm .., fun v H11 s11 rv => ?_⟩
          refine ⟨_, rfl, .inl ⟨rfl, _, SqL.of (s11 _ _ hF10)⟩, ?_⟩
          refine ⟨[none, none, none, none, none, some (.d (fillD r.1)), none, none, some (.d (.tuple ((addE e t).map .str))), none], .d (fillD (r.1 ++ addE e t)), er_no (er_no (er_no (er_no (er_no (er_yes (.d (dp_sm s11 dfl10)) (er_no (er_no (er_yes rv (er_no er_nil))))))))), ?_, fun fv H12 s12 rfv => ?_⟩
          · unfold fillD
            rw [List.map_append]
            exact cat_e (as := r.1.map .str) rfl rfl (by rw [List.length_map, List.length_map]; omega)
          have s12 : Sm H11 H12 := s12
          have s11 : Sm H10 H11 := s11
          have sL : Sm H10 H12 := s11.trans s12
          refine ⟨_, rfl, _, rfl, _, rfl, ?_⟩
          refine ⟨v0, y', a, gs, t, r.2, i, rfl, G, rw_sm (sH10.trans sL) r0, dp_sm sL dy10, tok1, tt, opd.sm (S10.trans ((dls_sm _ _).trans sL)), by omega, fun p' H13 np' s13 opd' => ?_⟩
          refine ⟨by rw [sl]; show (2 : Nat) ≤ _; decide, fun q' nq => ?_⟩
          have hF12 : H12 F2 = some (.lst zs) := sL _ _ hF10
          have hF13 := s13 _ _ hF12
          have pF : p' ≠ F2 := fun z => by rw [z, hF12] at np'; cases np'
          have qF : q' ≠ F2 := fun z => by rw [z, hF13] at nq; cases nq
          refine ⟨F2, zs, .ref q', rfl, rfl, upd_sm nq _ _ hF13, by rw [sl]; omega, ?_⟩
          have sm4 : Sm (dls [F2] H10) (dls [F2] (upd H13 q' (.tup [fv, .ref p']))) := dls_mono ((sL.trans s13).trans (upd_sm nq))
          have D13 : Sm (dls [F2] H13) (dls [F2] (upd H13 q' (.tup [fv, .ref p']))) := dls_mono (upd_sm nq)
          refine ⟨zs ++ [.ref q'], _, _, _, rfl, upd_same, ?_, ?_⟩
          · rw [dls_put (by simp)]
            exact s10.trans sm4
          · rw [dls_put (by simp), tkt, List.map_append, ← List.append_assoc]
            refine paired_app (rows_sm sm4 RZ) ⟨q', p', fv, rfl, dls_at upd_same (by simp [qF]), dp_sm D13 (dp_le (le1 hF13) (noLs_strs _) (dp_sm s13 (rw_d rfv))), ?_⟩
            obtain ⟨kvs, k1, k2, k3⟩ := opd'
            exact OpD.sm D13 ⟨kvs, dls_at k1 (by simp [pF]), k2, k3⟩
        · rintro σ H10 ⟨zs, b7, b8, b9, rfl, hF10, s10, RZ⟩
          rw [lts, List.take_length] at RZ
          exact ⟨zs, _, _, _, _, _, rfl, hF10, s78.trans (d89.trans s10), RZ⟩
      · rintro σ H8 ⟨ys, b5, b6, b7, b8, b9, rfl, hF8, s78, RY⟩
        rw [lxs, List.take_length] at RY
        refine ⟨_, rfl, F2, ys, _, _, _, _, _, _, _, rfl, sm_no s5 nF2, hF8, dH.trans (s78.trans (dls_sm _ _)), RY⟩
    · rintro σ H5 ⟨Fa, xs, b3, b4, b5, b6, b7, b8, b9, rfl, nF, hF, s5, R⟩
      rw [lus, List.take_length] at R
      have lxs := Paired.length R
      have lr := rl page.length
      rw [List.take_length] at lr
      have lx27 : xs.length ≤ 27 := by omega
      refine ⟨_, rfl, Fa, rfl, ⟨xs, SqL.of hF⟩, fun D nD => lc_list (K := K) (a := Fa) (xs := xs) (fun k H' => ∃ us, H' D = some (.lst us) ∧ us.length = k ∧ Sm H5 H' ∧ DpAll K (dls [Fa] H5) us (((rowsP (hmOf gs) page).take k).map fun r => fillD r.1)) ⟨[], upd_same, rfl, upd_sm nD, .nil⟩ (fun k H' _ ⟨_, _, _, s, _⟩ => SqL.of (s _ _ hF)) ?_ ?_⟩
      · rintro k x H6 hx ⟨us', hD, lu, s56, du'⟩
        obtain ⟨r, hr, p, a, vf, rfl, hp, df, _⟩ := paired_at R hx
        have hk : k < xs.length := (List.getElem?_eq_some_iff.mp hx).1
        refine ⟨rfl, ?_⟩
        refine ⟨_, rfl, p, [vf, .ref a], 0, vf, rfl, rfl, SqT.of (s56 _ _ (dls_sm _ _ _ _ hp)), rfl, us', hD, by rw [sl]; omega, us' ++ [vf], upd_same, by simp [lu], sm_put s56 nD, ?_⟩
        · rw [List.take_succ, show (rowsP (hmOf gs) page)[k]? = some r from hr, List.map_append]
          exact dpa_app du' (.cons df .nil)
      · rintro H6 ⟨us', hD, lu, s56, du'⟩
        rw [lxs, show (List.foldl (fun rs e => stepP (hmOf gs) e rs) [(([] : List Str), fun _ => ("" : Str))] page) = rowsP (hmOf gs) page from rfl, List.take_length] at du'
        refine ⟨D, us', rfl, .inl ⟨SqL.of hD, fun p5 np5 => q _ _ (s5.trans (s56.trans (upd_sm np5))) (.tup (SqT.of upd_same) (dpa_sm ((dls_sm [Fa] H5).trans (s56.trans (upd_sm np5))) ?_))⟩⟩
        unfold fillsP
        rw [List.map_map]
        exact du'
end
end KW
namespace KW
open PySem PySem.Spec PyProof.Rows L2 KZ KS KP DC
/-! the letters of a log, on data -/
def tellE : Ev → Str → Ev
  | .run w t _, z => .run w t (some z)
  | e, _ => e
/-- the events with the outcomes of a filling -/
def toldP : List Ev → List Str → List Ev
  | [], _ => []
  | e :: p, f => if untD e = true then tellE e (f.headD "") :: toldP p f.tail else e :: toldP p f
def wkE : Ev → Str
  | .fresh w => w
  | .gap w => w
  | .clear => ""
  | .run w _ _ => w
section
variable (hm : Str → Str)
def runLet (n : Nat) (t : Th) (z el : Str) : List PyData :=
  (if el = "" ∨ el = hm t.1 then [] else [.tuple [.str "close", .str el]]) ++
  ((if el = hm t.1 then [] else [.tuple [.str (if z = "skip" then "fail" else "pass"), thD (hm t.1, 0)]]) ++
  (if z = "skip" then [] else [if z = "cut" then .tuple [.str "cut", .int n] else .tuple [.str z, thD t]]))
def rowE (n : Nat) (o : Str → Str) : Ev → List PyData
  | .run w t (some z) => runLet hm n t z (o w)
  | .gap _ => [.tuple [.str "gap", .int n]]
  | _ => []
def rowsL (n : Nat) (o : Str → Str) : List Ev → List (List PyData)
  | [] => []
  | e :: p => rowE hm n o e :: rowsL (n + 1) (stepO hm o e) p
def flatL (n : Nat) : List Ev → List (List PyData) → List PyData
  | e :: p, r :: rs => r.map (fun l => .tuple [.int n, .str (wkE e), l]) ++ flatL (n + 1) p rs
  | _, _ => []
theorem lett_run (n : Nat) (w : Str) (t : Th) (z el : Str) : lettE hm n w t z el = (runLet hm n t z el).map fun l => .tuple [.int n, .str w, l] := by
  unfold lettE runLet
  by_cases h1 : el = "" ∨ el = hm t.1 <;> by_cases h2 : el = hm t.1 <;> by_cases h3 : z = "skip" <;> by_cases h4 : z = "cut" <;> simp [h1, h2, h3, h4] <;> simp_all
theorem rows_goB : ∀ (page : List Ev) (n : Nat) (o : Str → Str) (f : List Str) (l : List PyData), goB hm n o f page = some l → flatL n page (rowsL hm n o (toldP page f)) = l
  | [], n, o, f, l, h => by
    cases h
    rfl
  | .fresh w :: p, n, o, f, l, h => by
    have := rows_goB p (n + 1) (updF o w "") f l h
    show [] ++ flatL (n + 1) p (rowsL hm (n + 1) (updF o w "") (toldP p f)) = l
    rw [this]
    rfl
  | .gap w :: p, n, o, f, l, h => by
    obtain ⟨l', h1, rfl⟩ := Option.map_eq_some_iff.mp (show (goB hm (n + 1) (updF o w "") f p).map _ = some l from h)
    have := rows_goB p (n + 1) (updF o w "") f l' h1
    show [_] ++ flatL (n + 1) p (rowsL hm (n + 1) (updF o w "") (toldP p f)) = _
    rw [this]
    rfl
  | .clear :: p, n, o, f, l, h => by
    have := rows_goB p (n + 1) o f l h
    show [] ++ flatL (n + 1) p (rowsL hm (n + 1) o (toldP p f)) = l
    rw [this]
    rfl
  | .run w t (some z) :: p, n, o, f, l, h => by
    have h : (if z = "skip" ∧ o w = hm t.1 then none else (goB hm (n + 1) (updF o w (if z = "skip" then "" else hm t.1)) f p).map fun l => lettE hm n w t z (o w) ++ l) = some l := h
    by_cases hs : z = "skip" ∧ o w = hm t.1
    · rw [if_pos hs] at h
      cases h
    · rw [if_neg hs] at h
      obtain ⟨l', h1, rfl⟩ := Option.map_eq_some_iff.mp h
      have := rows_goB p (n + 1) _ f l' h1
      show (runLet hm n t z (o w)).map _ ++ flatL (n + 1) p (rowsL hm (n + 1) (updF o w (if some z = some ("skip" : Str) then "" else hm t.1)) (toldP p f)) = _
      rw [lett_run]
      congr 1
      rw [← this]
      congr 2
      by_cases h3 : z = "skip"
      · rw [if_pos (by rw [h3]), if_pos h3]
      · rw [if_neg (fun e => h3 (Option.some.inj e)), if_neg h3]
  | .run w t none :: p, n, o, [], l, h => by cases h
  | .run w t none :: p, n, o, z :: f, l, h => by
    have h : (if z = "skip" ∧ o w = hm t.1 then none else (goB hm (n + 1) (updF o w (if z = "skip" then "" else hm t.1)) f p).map fun l => lettE hm n w t z (o w) ++ l) = some l := h
    by_cases hs : z = "skip" ∧ o w = hm t.1
    · rw [if_pos hs] at h
      cases h
    · rw [if_neg hs] at h
      obtain ⟨l', h1, rfl⟩ := Option.map_eq_some_iff.mp h
      have := rows_goB p (n + 1) _ f l' h1
      show (runLet hm n t z (o w)).map _ ++ flatL (n + 1) p (rowsL hm (n + 1) (updF o w (if some z = some ("skip" : Str) then "" else hm t.1)) (toldP p f)) = _
      rw [lett_run]
      congr 1
      rw [← this]
      congr 2
      by_cases h3 : z = "skip"
      · rw [if_pos (by rw [h3]), if_pos h3]
      · rw [if_neg (fun e => h3 (Option.some.inj e)), if_neg h3]
end
theorem toldP_len : ∀ (p : List Ev) (f : List Str), (toldP p f).length = p.length
  | [], _ => rfl
  | e :: p, f => by
    unfold toldP
    split
    · rw [List.length_cons, toldP_len p, List.length_cons]
    · rw [List.length_cons, toldP_len p, List.length_cons]
theorem toldP_snoc : ∀ (p : List Ev) (f : List Str) (e : Ev), toldP (p ++ [e]) f = toldP p f ++ [if untD e = true then tellE e ((f.drop (p.filter untD).length).headD "") else e]
  | [], f, e => by
    show toldP [e] f = [_]
    unfold toldP
    split <;> rfl
  | a :: p, f, e => by
    rw [List.cons_append]
    unfold toldP
    cases h : untD a with
    | true =>
      rw [if_pos rfl, if_pos rfl, toldP_snoc p, List.filter_cons_of_pos h, List.length_cons, List.cons_append]
      congr 3
      rw [List.drop_tail]
    | false => rw [if_neg (by decide), if_neg (by decide), toldP_snoc p, List.filter_cons_of_neg (by simp [h]), List.cons_append]
theorem told_at : ∀ {p : List Ev} {f : List Str} {i : Nat} {e : Ev}, (toldP p f)[i]? = some e → ∃ e0, p[i]? = some e0 ∧ wkE e = wkE e0 ∧ (e = e0 ∨ ∃ z, untD e0 = true ∧ e = tellE e0 z)
  | [], f, i, e, h => by simp [toldP] at h
  | a :: p, f, i, e, h => by
    unfold toldP at h
    cases hu : untD a with
    | true =>
      rw [if_pos hu] at h
      cases i with
      | zero =>
        simp at h
        subst h
        exact ⟨a, rfl, by cases a <;> rfl, .inr ⟨_, hu, rfl⟩⟩
      | succ i => exact told_at (p := p) (f := f.tail) (by simpa using h)
    | false =>
      rw [if_neg (by simp [hu])] at h
      cases i with
      | zero =>
        simp at h
        subst h
        exact ⟨a, rfl, rfl, .inl rfl⟩
      | succ i => exact told_at (p := p) (f := f) (by simpa using h)
end KW
namespace NL
open PySem PySem.Spec PyProof.Rows L2
/-! dict(list of pairs), keys of any depth -/
end NL
namespace NL
open PySem PySem.Spec PyProof.Rows L2
end NL
namespace KS
open PySem PySem.Spec PyProof.Rows L2 PySem.Calls
/-! sets of nested tuples: what the model asks of such a key -/
section
variable {P : Program} {w : World}
theorem forIn_no {f : Value → Sem Bool} {A : Around} {E : Value → Shared → Prop} {s : Shared} {Q : Option Bool × Unit → Shared → Prop} (hQ : Q (none, ()) s) : ∀ (vs : List Value),
    (∀ v ∈ vs, ∀ (Q' : Bool → Shared → Prop), Q' false s → wpAny (model P w) A (f v) Q' E s) →
    wpAny (model P w) A (forIn vs ((none : Option Bool), ()) fun y (st : Option Bool × Unit) => do
      let b ← f y
      if b = true then pure (ForInStep.done (some true, ())) else pure (ForInStep.yield (none, ()))) Q E s
  | [], _ => by
    rw [List.forIn_nil]
    exact wpAny_pure hQ
  | v :: vs, h => by
    rw [List.forIn_cons]
    exact wpAny_bind (wpAny_bind (h v (List.mem_cons_self ..) _ (wpAny_pure (forIn_no hQ vs fun u hu => h u (List.mem_cons_of_mem _ hu)))))
theorem forIn_hash {f : Value → Sem Bool} {A : Around} {E : Value → Shared → Prop} {s : Shared} {Q : Option Bool × Unit → Shared → Prop} (hQ : Q (none, ()) s) (hD : Q (some false, ()) s) : ∀ (vs : List Value),
    (∀ v ∈ vs, ∀ (Q' : Bool → Shared → Prop), (∀ b, Q' b s) → wpAny (model P w) A (f v) Q' E s) →
    wpAny (model P w) A (forIn vs ((none : Option Bool), ()) fun y (st : Option Bool × Unit) => do
      let b ← f y
      if (!b) = true then pure (ForInStep.done (some false, ())) else pure (ForInStep.yield (none, ()))) Q E s
  | [], _ => by
    rw [List.forIn_nil]
    exact wpAny_pure hQ
  | v :: vs, h => by
    rw [List.forIn_cons]
    refine wpAny_bind (wpAny_bind (h v (List.mem_cons_self ..) _ fun b => ?_))
    cases b
    · exact wpAny_pure (wpAny_pure hD)
    · exact wpAny_pure (forIn_hash hQ hD vs fun u hu => h u (List.mem_cons_of_mem _ hu))
theorem nestedAll_mem : ∀ {h : Heap} {ks : List NestedKey} {vs : List Value}, NestedAll h ks vs → ∀ v ∈ vs, ∃ k ∈ ks, NestedIs h k v
  | _, _, _, .nil, v, hv => absurd hv (by simp)
  | _, _, _, .cons a b, v, hv => by
    rcases List.mem_cons.mp hv with rfl | hv
    · exact ⟨_, List.mem_cons_self .., a⟩
    · obtain ⟨k, hk, z⟩ := nestedAll_mem b v hv
      exact ⟨k, List.mem_cons_of_mem _ hk, z⟩
theorem depth_all : ∀ {ks : List NestedKey} {k : NestedKey}, k ∈ ks → k.depth ≤ NestedKey.depthAll ks
  | [], _, h => absurd h (by simp)
  | x :: ks, k, h => by
    rw [show NestedKey.depthAll (x :: ks) = max x.depth (NestedKey.depthAll ks) from by simp [NestedKey.depthAll]]
    rcases List.mem_cons.mp h with rfl | h
    · omega
    · have := depth_all h
      omega
/-- no class statement made a nested tuple -/
theorem ofA_key : ∀ (n : Nat) (k : NestedKey) (v : Value) (s : Shared), NestedIs s.heap k v → k.depth ≤ n → ∀ (A : Around) (E : Value → Shared → Prop) (Q : Bool → Shared → Prop), Q false s → wpAny (model P w) A (ofAClassStatement n v) Q E s := by
  intro n
  induction n with
  | zero =>
    intro k v s h hd A E Q q
    rw [ofAClassStatement.eq_def]
    cases h with
    | none => exact wpAny_pure q
    | bool e => exact wpAny_pure q
    | int i t => exact wpAny_pure q
    | text x t => exact wpAny_pure q
    | tup ho hc hd2 ha =>
      rw [NestedKey.depth.eq_4] at hd
      omega
  | succ n ih =>
    intro k v s h hd A E Q q
    rw [ofAClassStatement.eq_def]
    cases h with
    | none => exact wpAny_pure q
    | bool e => exact wpAny_pure q
    | int i t => exact wpAny_pure q
    | text x t => exact wpAny_pure q
    | tup ho hc hd2 ha =>
      rw [NestedKey.depth.eq_4] at hd
      refine wpAny_bind (wpAny_typeOf (T := "tuple") ⟨_, ho, hc⟩ ?_)
      dsimp only
      rw [if_pos (by decide)]
      refine wpAny_bind (wpAny_pure ?_)
      rw [if_neg (by decide)]
      refine wpAny_bind (wpAny_seqItems ho hd2 ?_)
      dsimp only
      rw [← Array.forIn_toList]
      refine wpAny_bind (forIn_no (f := fun y => ofAClassStatement n y) ?_ _ fun v hv Q' q' => ?_)
      · exact wpAny_pure q
      · obtain ⟨k, hk, z⟩ := nestedAll_mem ha v hv
        have := depth_all hk
        exact ih k v s z (by omega) A E Q' q'
/-- whether a hash shows its value: no fault, whatever it is -/
theorem hashBy_key : ∀ (n : Nat) (k : NestedKey) (v : Value) (s : Shared), NestedIs s.heap k v → ∀ (A : Around) (E : Value → Shared → Prop) (Q : Bool → Shared → Prop), (∀ b, Q b s) → wpAny (model P w) A (hashByValue n v) Q E s := by
  intro n
  induction n with
  | zero =>
    intro k v s h A E Q q
    rw [hashByValue.eq_def]
    cases h with
    | none => exact wpAny_pure (q _)
    | bool e => exact wpAny_pure (q _)
    | int i t => exact wpAny_pure (q _)
    | text x t => exact wpAny_pure (q _)
    | tup ho hc hd2 ha => exact wpAny_pure (q _)
  | succ n ih =>
    intro k v s h A E Q q
    rw [hashByValue.eq_def]
    cases h with
    | none => exact wpAny_pure (q _)
    | bool e => exact wpAny_pure (q _)
    | int i t => exact wpAny_pure (q _)
    | text x t => exact wpAny_pure (q _)
    | tup ho hc hd2 ha =>
      refine wpAny_bind (wpAny_specialOf (T := "tuple") (r := some (.builtin "tuple.__hash__")) ⟨_, ho, hc⟩ (by kernel_rfl) ?_)
      dsimp only
      refine wpAny_bind (wpAny_seqItems ho hd2 ?_)
      dsimp only [Option.getD]
      rw [← Array.forIn_toList]
      refine wpAny_bind (forIn_hash (f := fun y => hashByValue n y) ?_ ?_ _ fun v hv Q' q' => ?_)
      · exact wpAny_pure (q _)
      · exact wpAny_pure (q _)
      · obtain ⟨k, hk, z⟩ := nestedAll_mem ha v hv
        exact ih k v s z A E Q' q'
/-- a nested tuple of few levels -/
abbrev NI (h : Heap) (k : NestedKey) (b : Addr) : Prop := NestedIs h k (.ref b) ∧ k.depth ≤ 8
theorem ni_kind {h : Heap} {k : NestedKey} {b : Addr} (z : NI h k b) : (nestedKind P w).is h k b := z
theorem quiet_ni {A : Around} {E : Value → Shared → Prop} {s : Shared} {k : NestedKey} {b : Addr} {Q : Bool → Shared → Prop} (z : NI s.heap k b) (q : Q true s) : wpAny (model P w) A (eqIsQuiet 8 (.ref b)) Q E s := (nestedKind P w).quiet (ni_kind z) q
theorem seen_key {A : Around} {E : Value → Shared → Prop} {s : Shared} {k : NestedKey} {b : Addr} (z : NI s.heap k b) {Q : Bool → Shared → Prop} (q : Q false s) : ∀ (ys : List Value), (∀ y ∈ ys, ∃ k' c, y = Value.ref c ∧ NI s.heap k' c) → wpAny (model P w) A (searchCouldBeSeen (.ref b) ys) Q E s := by
  intro ys h
  unfold searchCouldBeSeen
  refine wpAny_bind ?_
  induction ys with
  | nil =>
    rw [List.forIn_nil]
    exact wpAny_pure (wpAny_pure q)
  | cons y ys ih =>
    rw [List.forIn_cons]
    obtain ⟨k', c, rfl, z'⟩ := h y (List.mem_cons_self ..)
    refine wpAny_bind ?_
    have rest := ih (fun u hu => h u (List.mem_cons_of_mem _ hu))
    dsimp only
    split
    · exact wpAny_pure rest
    · refine wpAny_bind (quiet_ni z ?_)
      rw [if_neg (by decide)]
      refine wpAny_bind (quiet_ni z' ?_)
      rw [if_neg (by decide)]
      refine wpAny_bind (ofA_key 8 k _ s z.1 z.2 A E _ ?_)
      rw [if_neg (by decide)]
      refine wpAny_bind (ofA_key 8 k' _ s z'.1 z'.2 A E _ ?_)
      rw [if_neg (by decide)]
      exact wpAny_pure rest
end
end KS
namespace KS
open PySem PySem.Spec PyProof.Rows L2 PySem.Calls
/-! sets of nested tuples: the table -/
abbrev NE := Addr × NestedKey
def rowsN (w : World) (L : List NE) : List (Int × Value) := L.map fun p => (NestedKey.hash w p.2, Value.ref p.1)
structure SetNR (w : World) (h : Heap) (a : Addr) (L : List NE) (es : Array (Int × Value)) (ep : Nat) (t : SetTable) : Prop where
  ob : ∃ o, h.get? a = some o ∧ o.ExactSet ∧ o.data = .set es ep t
  rows : es.toList = rowsN w L
  tab : TabOk t (L.map fun p => NestedKey.hash w p.2)
  nd : (L.map (·.2)).Nodup
  tup : ∀ p ∈ L, NI h p.2 p.1
  led : w.params.followText "set-order" = true ∨ t.led = true
  room : L.length * 5 < t.mask * 3
  few : L.length < 64
theorem nestedIs_same {h h' : Heap} (same : ∀ b o, h.get? b = some o → (∀ es ep t, o.data ≠ .set es ep t) → h'.get? b = some o) : ∀ {k : NestedKey} {v : Value}, NestedIs h k v → NestedIs h' k v := by
  intro k v z
  refine NestedIs.rec (motive_1 := fun k v _ => NestedIs h' k v) (motive_2 := fun ks vs _ => NestedAll h' ks vs) .none (fun e => .bool e) (fun i t => .int i t) (fun x t => .text x t) (fun ho hc hd _ ih => ?_) .nil (fun _ _ a b => .cons a b) z
  exact .tup (same _ _ ho fun es ep t e => by rw [hd] at e; cases e) hc hd ih
theorem ni_same {h h' : Heap} {a : Addr} {o : Obj} {es : Array (Int × Value)} {ep : Nat} {t : SetTable} (ho : h.get? a = some o) (hd : o.data = .set es ep t) (sb : Heap.SameBut a h h') {k : NestedKey} {b : Addr} (z : NI h k b) : NI h' k b :=
  ⟨nestedIs_same (fun c o' e ne => by
    by_cases hc : c = a
    · subst hc
      rw [ho] at e
      obtain rfl := Option.some.inj e
      exact absurd hd (ne _ _ _)
    · rw [sb.2 c hc]
      exact e) z.1, z.2⟩
theorem ni_keep {h h' : Heap} (kp : ∀ b o, h.get? b = some o → h'.get? b = some o) {k : NestedKey} {b : Addr} (z : NI h k b) : NI h' k b := ⟨nestedIs_same (fun c o e _ => kp c o e) z.1, z.2⟩
section
variable {P : Program} {w : World} {A : Around} {E : Value → Shared → Prop} {s : Shared} {a : Addr} {L : List NE} {es : Array (Int × Value)} {ep : Nat} {t : SetTable}
theorem SetNR.size {h : Heap} (R : SetNR w h a L es ep t) : es.size = L.length := by
  rw [← Array.length_toList, R.rows]
  exact List.length_map ..
theorem SetNR.fits {h : Heap} (R : SetNR w h a L es ep t) : t.fits es.size = true := by
  have h1 := R.tab.sz
  rw [List.length_map] at h1
  have h2 := R.room
  have h3 := R.size
  have h4 : t.fill = t.place.size := by rw [SetTable.fill, R.tab.dm]; rfl
  simp only [SetTable.fits, Bool.and_eq_true, beq_iff_eq, decide_eq_true_eq]
  constructor <;> omega
theorem SetNR.odd {h : Heap} (R : SetNR w h a L es ep t) : ¬ t.gaveWay = true := by
  have h1 := mask_odd R.tab.mok
  simp only [SetTable.gaveWay, beq_iff_eq]
  omega
theorem SetNR.entry {h : Heap} (R : SetNR w h a L es ep t) {i : Nat} {p : NE} (hp : L[i]? = some p) : es[i]? = some (NestedKey.hash w p.2, Value.ref p.1) := by
  rw [← Array.getElem?_toList, R.rows, rowsN, List.getElem?_map, hp]
  rfl
theorem SetNR.keep {h h' : Heap} (R : SetNR w h a L es ep t) (ka : ∀ o, h.get? a = some o → h'.get? a = some o) (kt : ∀ p : NE, p ∈ L → NI h' p.2 p.1) : SetNR w h' a L es ep t :=
  let ⟨o, ho, r⟩ := R.ob
  ⟨⟨o, ka o ho, r⟩, R.rows, R.tab, R.nd, kt, R.led, R.room, R.few⟩
theorem nth_dummy (m : Nat) : ∀ (k : Nat) (p : SetTable.Probe), p.dummy = none → (nth m p k).dummy = none
  | 0, p, h => h
  | k + 1, p, h => by
    rw [nth_succ]
    have := nth_dummy m k p h
    unfold adv
    split <;> exact this
theorem search_fromN (R : SetNR w s.heap a L es ep t) {x : Addr} {k : NestedKey} (hx : NI s.heap k x) (hu : A.units + 8 < cLine) {K : Nat} (hK10 : K < 10 * SetTable.turns t.mask) (hKn : way t.mask (NestedKey.hash w k) K ∉ t.place.toList) (hKb : ∀ c, c < K → way t.mask (NestedKey.hash w k) c ∈ t.place.toList)
    {Q : SetFound → Shared → Prop} (q1 : k ∈ L.map (·.2) → Q (.there none) s) (q2 : k ∉ L.map (·.2) → Q (.free (way t.mask (NestedKey.hash w k) K) false) s) : ∀ (f c : Nat) (stand : Option SetTable.Probe),
    stand.getD (t.probeStart (NestedKey.hash w k)) = nth t.mask (runAt t.mask (SetTable.bits (NestedKey.hash w k) % (t.mask + 1)) (SetTable.bits (NestedKey.hash w k))) c → c ≤ K → K - c < f →
    (∀ (i : Nat) (p : NE), L[i]? = some p → p.2 = k → ∃ c', c ≤ c' ∧ c' < K ∧ t.place.toList[i]? = some (way t.mask (NestedKey.hash w k) c')) →
    wpAny (model P w) A (setSearchFrom a (.ref x) (NestedKey.hash w k) true f stand) Q E s := by
  intro f
  induction f with
  | zero => intro c stand _ _ h; omega
  | succ f ih =>
    intro c stand hst hcK hf hall
    obtain ⟨o, ho, hex, hd⟩ := R.ob
    rw [setSearchFrom_succ]
    refine wpAny_bind (wpAny_setState_of ho hd R.fits ?_)
    dsimp only
    rw [if_neg R.odd]
    rw [hst]
    generalize ep0 : nth t.mask (runAt t.mask (SetTable.bits (NestedKey.hash w k) % (t.mask + 1)) (SetTable.bits (NestedKey.hash w k))) c = p0
    have pd : p0.dummy = none := by rw [← ep0]; exact nth_dummy _ _ _ rfl
    have nw : ∀ j, (nth t.mask p0 j).j = way t.mask (NestedKey.hash w k) (c + j) := fun j => by rw [← ep0, ← nth_add]
    have go := go_spec t R.tab.ris R.tab.dm (fun i => (Option.map (fun x => x.fst) es[i]?).getD 0) (NestedKey.hash w k) (10 * SetTable.turns t.mask) (K - c) p0 pd (by omega)
      (fun j hj => by rw [nw]; exact hKb _ (by omega)) (by rw [nw, show c + (K - c) = K from by omega]; exact hKn)
    have eprobe : t.probe (fun i => (Option.map (fun x => x.fst) es[i]?).getD 0) (NestedKey.hash w k) p0 = SetTable.probe.go t (fun i => (Option.map (fun x => x.fst) es[i]?).getD 0) (NestedKey.hash w k) (10 * SetTable.turns t.mask) p0 := rfl
    rw [eprobe]
    rcases go with ⟨j, i, hj, hpl, hh, hearly, hgo⟩ | ⟨hno, hgo⟩
    · rw [hgo]
      dsimp only
      have hiL : i < L.length := by
        have h1 := R.tab.sz
        rw [List.length_map] at h1
        have h2 : i < t.place.toList.length := by
          rcases Nat.lt_or_ge i t.place.toList.length with z | z
          · exact z
          · rw [List.getElem?_eq_none_iff.mpr z] at hpl; cases hpl
        rw [Array.length_toList] at h2
        omega
      obtain ⟨p, hp⟩ : ∃ p, L[i]? = some p := ⟨L[i], List.getElem?_eq_getElem hiL⟩
      have hentry := R.entry hp
      have body : wpAny (model P w) A (searchRest a (.ref x) (NestedKey.hash w k) true f es t (nth t.mask p0 j).j i (nth t.mask p0 (j + 1))) Q E s := by
        unfold searchRest
        rw [hentry]
        dsimp only
        have hpm : p ∈ L := List.mem_of_getElem? hp
        refine wpAny_bind (wpAny_holding ((nestedKind P w).eqBool (x := p.2) (y := k) (by exact hu) (ni_kind (R.tup p hpm)) (ni_kind hx) ?_))
        refine wpAny_bind (wpAny_setState_of ho hd R.fits ?_)
        dsimp only
        by_cases hpk : p.2 = k
        · rw [if_pos (by simp [hpk])]
          exact wpAny_pure (q1 (List.mem_map.mpr ⟨p, hpm, hpk⟩))
        · rw [if_neg (by simp [hpk]), sameMem]
          dsimp only
          rw [if_pos rfl, slot_live R.tab.ris hpl]
          dsimp only
          rw [hentry]
          dsimp only
          refine wpAny_bind ?_
          have eSame : isSame (Value.ref p.1) (Value.ref p.1) = pure true := by
            unfold isSame
            dsimp only
            rw [if_pos (by simp)]
          refine wpAny_of_eq eSame ?_
          rw [if_pos rfl]
          refine wpAny_bind (wpAny_pure ?_)
          dsimp only
          rw [if_neg (by simp [hpk])]
          refine ih (c + (j + 1)) (some (nth t.mask p0 (j + 1))) (by rw [Option.getD_some, ← ep0, ← nth_add]) (by omega) (by omega) fun i' p' hp' hk' => ?_
          obtain ⟨c', h1, h2, h3⟩ := hall i' p' hp' hk'
          refine ⟨c', ?_, h2, h3⟩
          rcases Nat.lt_or_ge c' (c + (j + 1)) with z | z
          · exfalso
            have e1 := R.entry hp'
            rcases Nat.lt_or_ge c' (c + j) with z2 | z2
            · refine hearly (c' - c) i' (by omega) (by rw [nw, show c + (c' - c) = c' from by omega]; exact h3) ?_
              rw [e1, hk']
              rfl
            · obtain rfl : c' = c + j := by omega
              have : t.place.toList[i']? = t.place.toList[i]? := by rw [h3, hpl, nw]
              have hii : i' = i := by
                rcases Nat.lt_trichotomy i' i with z3 | z3 | z3
                · exact absurd (ris_lt R.tab.ris h3 (hpl.trans (by rw [nw])) z3) (Nat.lt_irrefl _)
                · exact z3
                · exact absurd (ris_lt R.tab.ris (hpl.trans (by rw [nw])) h3 z3) (Nat.lt_irrefl _)
              subst hii
              rw [hp] at hp'
              obtain rfl := Option.some.inj hp'
              exact hpk hk'
          · exact z
      by_cases hl : (!t.led) = true
      · rw [if_pos hl]
        refine wpAny_bind (seen_key hx ?_ _ fun y hy => ?_)
        · rw [if_neg (by decide)]
          exact body
        · obtain ⟨e, he, rfl⟩ := List.mem_map.mp hy
          have he2 : e ∈ es.toList := by
            rw [Array.toList_filter] at he
            exact (List.mem_filter.mp he).1
          rw [R.rows] at he2
          obtain ⟨p', hp', rfl⟩ := List.mem_map.mp he2
          exact ⟨p'.2, p'.1, rfl, R.tup p' hp'⟩
      · rw [if_neg hl]
        exact body
    · rw [hgo]
      dsimp only
      rw [nw, show c + (K - c) = K from by omega]
      refine wpAny_pure (q2 fun hm => ?_)
      obtain ⟨p, hp, hpk⟩ := List.mem_map.mp hm
      obtain ⟨i, hi⟩ := List.getElem?_of_mem hp
      obtain ⟨c', h1, h2, h3⟩ := hall i p hi hpk
      refine hno (c' - c) i (by omega) (by rw [nw, show c + (c' - c) = c' from by omega]; exact h3) ?_
      rw [R.entry hi, hpk]
      rfl
theorem search_atN (R : SetNR w s.heap a L es ep t) {x : Addr} {k : NestedKey} (hx : NI s.heap k x) (hu : A.units + 8 < cLine) {Q : SetFound → Shared → Prop} (q1 : k ∈ L.map (·.2) → Q (.there none) s)
    (q2 : ∀ K, k ∉ L.map (·.2) → way t.mask (NestedKey.hash w k) K ∉ t.place.toList → (∀ c, c < K → way t.mask (NestedKey.hash w k) c ∈ t.place.toList) → Q (.free (way t.mask (NestedKey.hash w k) K) false) s) :
    wpAny (model P w) A (setSearch a (.ref x) (NestedKey.hash w k) true) Q E s := by
  have hroom := R.room
  obtain ⟨K, hK10, hKn, hKb⟩ := R.tab.first (by rw [List.length_map]; omega) (NestedKey.hash w k)
  have hKs : 10 * SetTable.turns t.mask < 90000 := by
    rcases R.tab.mok with e | e | e <;> rw [e] <;> decide +kernel
  unfold setSearch
  refine search_fromN R hx hu hK10 hKn hKb q1 (fun hn => q2 K hn hKn hKb) 100000 0 none (by rw [Option.getD_none, start_run]; rfl) (Nat.zero_le _) (by omega) fun i p hp hk => ?_
  have h1 := R.tab.sz
  rw [List.length_map] at h1
  have hi : i < L.length := by
    rcases Nat.lt_or_ge i L.length with z | z
    · exact z
    · rw [List.getElem?_eq_none_iff.mpr z] at hp; cases hp
  obtain ⟨j, hj⟩ : ∃ j, t.place.toList[i]? = some j := ⟨_, List.getElem?_eq_getElem (by rw [Array.length_toList]; omega)⟩
  obtain ⟨c', h2, h3⟩ := R.tab.before (h := NestedKey.hash w k) (K := K) (i := i) (j := j) hKn (by rw [List.getElem?_map, hp, ← hk]; rfl) hj
  exact ⟨c', Nat.zero_le _, h2, by rw [hj, ← h3]⟩
end
end KS
namespace KS
open PySem PySem.Spec PyProof.Rows L2 PySem.Calls
/-! sets of nested tuples: adding -/
theorem pick_map {α β : Type} (f : α → β) (d : β) (L : List α) : ∀ idx : List Nat, (∀ i ∈ idx, i < L.length) → (idx.filterMap (L[·]?)).map f = idx.map fun i => (L.map f).getD i d
  | [], _ => rfl
  | i :: idx, h => by
    have hi := h i (List.mem_cons_self ..)
    rw [List.filterMap_cons, List.getElem?_eq_getElem hi]
    dsimp only
    rw [List.map_cons, List.map_cons, pick_map f d L idx fun j hj => h j (List.mem_cons_of_mem _ hj)]
    congr 1
    rw [List.getD_eq_getElem?_getD, List.getElem?_map, List.getElem?_eq_getElem hi]
    rfl
theorem pick_all {α : Type} : ∀ (L : List α), (List.range L.length).filterMap (L[·]?) = L
  | L => by
    have h : ∀ n, n ≤ L.length → (List.range n).filterMap (L[·]?) = L.take n := by
      intro n
      induction n with
      | zero => intro _; simp
      | succ n ih =>
        intro hn
        rw [List.range_succ, List.filterMap_append, ih (by omega), List.take_add_one, List.filterMap_cons, List.getElem?_eq_getElem (show n < L.length by omega)]
        simp
    rw [h _ (Nat.le_refl _), List.take_length]
theorem orderN {w : World} (L : List NE) (es : Array (Int × Value)) (order : Array Nat) (he : es.toList = rowsN w L) (hp : order.toList.Perm (List.range L.length)) :
    ∃ L2 : List NE, (Array.filterMap (fun x => es[x]?) order).toList = rowsN w L2 ∧ L2.Perm L ∧ (L2.map fun p => NestedKey.hash w p.2) = order.toList.map fun i => (Array.map (fun x => x.1) es).getD i 0 := by
  have hlt : ∀ i ∈ order.toList, i < L.length := fun i hi => List.mem_range.mp (hp.mem_iff.mp hi)
  refine ⟨order.toList.filterMap (L[·]?), ?_, ?_, ?_⟩
  · rw [Array.toList_filterMap]
    unfold rowsN
    rw [List.map_filterMap]
    congr 1
    funext i
    rw [← Array.getElem?_toList, he, rowsN, List.getElem?_map]
  · have h1 := hp.filterMap (L[·]?)
    rwa [pick_all] at h1
  · rw [pick_map (fun p : NE => NestedKey.hash w p.2) 0 L _ hlt]
    refine List.map_congr_left fun i hi => ?_
    rw [List.getD_eq_getElem?_getD, Array.getD_eq_getD_getElem?, Array.getElem?_map, List.getElem?_map, ← Array.getElem?_toList, he, rowsN, List.getElem?_map]
    cases L[i]? <;> rfl
section
variable {P : Program} {w : World} {A : Around} {E : Value → Shared → Prop} {s : Shared} {a : Addr} {L : List NE} {es : Array (Int × Value)} {ep : Nat} {t : SetTable}
theorem few_line {n : Nat} (h : n < 64) : n ≤ sizeLine := by
  have : (64 : Nat) ≤ sizeLine := by decide
  omega
theorem relayN {o : Obj} (ho : s.heap.get? a = some o) (hex : o.ExactSet) (hd : o.data = .set es ep t) (rows : es.toList = rowsN w L) (hp : t.place.size = es.size) (dm : t.dummies = #[]) (hm : es.size ≤ t.mask) (nd : (L.map (·.2)).Nodup) (tup : ∀ p ∈ L, NI s.heap p.2 p.1)
    (led : w.params.followText "set-order" = true ∨ t.led = true) (few : L.length < 64) {wanted M : Nat} (hM : SetTable.sizeAbove wanted - 1 = M) (mok : MaskOk M) (h128 : SetTable.sizeAbove wanted ≤ 128) (room : L.length * 5 < M * 3) {Q : Unit → Shared → Prop}
    (q : ∀ (h' : Heap) (L' : List NE) (es' : Array (Int × Value)) (ep' : Nat) (t' : SetTable), Heap.SameBut a s.heap h' → SetNR w h' a L' es' ep' t' → L'.Perm L → Q () { heap := h', gens := s.gens, drawn := s.drawn, toks := s.toks, os := s.os }) :
    wpAny (model P w) A (setRelay a wanted) Q E s := by
  have hsz : es.size = L.length := by
    rw [← Array.length_toList, rows]
    exact List.length_map ..
  have hfits : t.fits es.size = true := by
    have h4 : t.fill = t.place.size := by rw [SetTable.fill, dm]; rfl
    simp only [SetTable.fits, Bool.and_eq_true, beq_iff_eq, decide_eq_true_eq]
    constructor <;> omega
  rw [setRelay_eq]
  refine wpAny_bind (wpAny_setState_of ho hd hfits ?_)
  dsimp only
  have hline : ¬ SetTable.sizeAbove wanted > sizeLine := by
    have : (128 : Nat) ≤ sizeLine := by decide
    omega
  rw [if_neg hline]
  obtain ⟨t', order, hr, hperm, tab, hmask, hled, hplain, hdm⟩ := relaid_ok t (hs := Array.map (fun x => x.1) es) hM mok (by rw [Array.size_map]; omega)
  rw [hr]
  dsimp only
  rw [Array.size_map, hsz] at hperm
  obtain ⟨L2, e1, e2, e3⟩ := orderN (w := w) L es order rows hperm
  generalize Array.filterMap (fun x => es[x]?) order = es' at e1 ⊢
  have hs' : es'.size = es.size := by
    rw [hsz, ← e2.length_eq, ← Array.length_toList, e1]
    exact List.length_map ..
  rw [if_neg (by simp [hs'])]
  refine wpAny_bind (wpAny_pure ?_)
  dsimp only
  have hlen := e2.length_eq
  refine wpAny_storeSet_of ho hd ?_ (few_line (by omega))
  obtain ⟨cls, dict, slots⟩ := hex
  have sb := Heap.SameBut.update s.heap a (Obj.putSet es' t')
  have hst := store_at (es' := es') (t' := t') ho hd
  refine q _ L2 es' (ep + 1) t' sb ⟨⟨_, hst, ⟨cls, dict, slots⟩, rfl⟩, e1, ?_, (e2.map _).nodup_iff.mpr nd, fun p hp => ni_same ho hd sb (tup p (e2.mem_iff.mp hp)), ?_, by rw [hmask]; omega, by omega⟩ e2
  · rw [e3]
    exact tab
  · rw [hled]
    exact led
theorem addN (R : SetNR w s.heap a L es ep t) {x : Addr} {k : NestedKey} (hx : NI s.heap k x) (hu : A.units + 8 < cLine) (hfew : L.length + 1 < 64) {Q : Bool → Shared → Prop}
    (q : ∀ (b : Bool) (h' : Heap) (L' : List NE) (es' : Array (Int × Value)) (ep' : Nat) (t' : SetTable), Heap.SameBut a s.heap h' → SetNR w h' a L' es' ep' t' → (k ∈ L.map (·.2) → L' = L) → (k ∉ L.map (·.2) → L'.Perm ((x, k) :: L)) →
      Q b { heap := h', gens := s.gens, drawn := s.drawn, toks := s.toks, os := s.os }) :
    wpAny (model P w) A (setAddHashed a (.ref x) (NestedKey.hash w k)) Q E s := by
  obtain ⟨o, ho, hex, hd⟩ := R.ob
  have hsl := R.size
  have hroom := R.room
  show wpAny _ _ (holding [_] (setAddHashedIn a (.ref x) (NestedKey.hash w k) 100000)) _ _ _
  refine wpAny_holding ?_
  rw [show (100000 : Nat) = 99999 + 1 from rfl, setAddHashedIn_succ]
  refine wpAny_bind (wpAny_setState_of ho hd R.fits ?_)
  dsimp only
  have hbs : ¬ byScan (.ref x) es = true := by
    unfold byScan
    simp [Value.scannable]
  rw [if_neg hbs]
  refine wpAny_bind (search_atN R hx hu (fun hm => ?_) fun K hm hK hb => ?_)
  · exact wpAny_pure (q false s.heap L es ep t (.refl a s.heap) R (fun _ => rfl) fun z => absurd hm z)
  · dsimp only
    refine wpAny_bind (wpAny_setState_of ho hd R.fits ?_)
    dsimp only
    obtain ⟨q1, q2, q3, q4, q5, q6, q7, q8, q9⟩ := R.tab.put hK hb
    rw [List.length_map] at q2 q9
    generalize hput : t.put (way t.mask (NestedKey.hash w k) K) = tp at q1 q3 q4 q5 q6 q7 q8 q9 ⊢
    obtain ⟨t1, p1⟩ := tp
    dsimp only at q1 q3 q4 q5 q6 q7 q8 q9 ⊢
    subst q1
    generalize SetTable.below t.place (way t.mask (NestedKey.hash w k) K) = p at q2 q3 ⊢
    have main : ∀ bv : Bool, wpAny (model P w) A (do
        storeSet a (SetTable.insertAt es p (NestedKey.hash w k, .ref x)) (if bv = true then t1 else { mask := t1.mask, place := t1.place, dummies := t1.dummies, finger := t1.finger, led := t1.led, moves := t1.moves, plain := false })
        if (!false && (if bv = true then t1 else { mask := t1.mask, place := t1.place, dummies := t1.dummies, finger := t1.finger, led := t1.led, moves := t1.moves, plain := false } : SetTable).tooFull) = true then do
            let __r ← setRelay a (SetTable.grown (es.size + 1))
            pure true
          else pure true) Q E s := by
      intro bv
      obtain ⟨t2, ht2, h2m, h2p, h2d, h2l⟩ : ∃ t2 : SetTable, (if bv = true then t1 else { mask := t1.mask, place := t1.place, dummies := t1.dummies, finger := t1.finger, led := t1.led, moves := t1.moves, plain := false }) = t2 ∧ t2.mask = t1.mask ∧ t2.place = t1.place ∧ t2.dummies = t1.dummies ∧ t2.led = t1.led := by
        cases bv
        · exact ⟨_, rfl, rfl, rfl, rfl, rfl⟩
        · exact ⟨_, rfl, rfl, rfl, rfl, rfl⟩
      rw [ht2]
      have tab2 : TabOk t2 (List.take p (L.map fun p => NestedKey.hash w p.2) ++ NestedKey.hash w k :: List.drop p (L.map fun p => NestedKey.hash w p.2)) := by
        obtain ⟨a1, a2, a3, a4, a5, a6⟩ := q3
        exact ⟨by rw [h2p]; exact a1, by rw [h2d]; exact a2, by rw [h2p]; exact a3, by rw [h2m]; exact a4, by rw [h2p, h2m]; exact a5, by rw [h2p, h2m]; exact a6⟩
      have rows2 : (SetTable.insertAt es p (NestedKey.hash w k, Value.ref x)).toList = rowsN w (L.take p ++ (x, k) :: L.drop p) := by
        rw [SetTable.toList_insertAt, R.rows]
        unfold rowsN
        rw [List.map_append, List.map_cons, ← List.map_take, ← List.map_drop]
      have pm := put_perm L p ((x, k) : NE)
      have sz2 : (SetTable.insertAt es p (NestedKey.hash w k, Value.ref x)).size = L.length + 1 := by
        rw [← Array.length_toList, rows2]
        unfold rowsN
        rw [List.length_map, pm.length_eq]
        rfl
      have hashes : (List.take p L ++ (x, k) :: List.drop p L).map (fun p => NestedKey.hash w p.2) = List.take p (L.map fun p => NestedKey.hash w p.2) ++ NestedKey.hash w k :: List.drop p (L.map fun p => NestedKey.hash w p.2) := by
        rw [List.map_append, List.map_cons, ← List.map_take, ← List.map_drop]
      have nd2 : ((L.take p ++ (x, k) :: L.drop p).map (·.2)).Nodup := by
        rw [(pm.map _).nodup_iff, List.map_cons, List.nodup_cons]
        exact ⟨hm, R.nd⟩
      generalize SetTable.insertAt es p (NestedKey.hash w k, Value.ref x) = es2 at rows2 sz2 ⊢
      generalize L.take p ++ (x, k) :: L.drop p = L2 at rows2 pm hashes nd2
      have len2 : L2.length = L.length + 1 := by rw [pm.length_eq]; rfl
      rw [← hashes] at tab2
      refine wpAny_bind (wpAny_storeSet_of ho hd ?_ (few_line (by omega)))
      obtain ⟨cls, dict, slots⟩ := hex
      have sb := Heap.SameBut.update s.heap a (Obj.putSet es2 t2)
      have hst := store_at (es' := es2) (t' := t2) ho hd
      generalize s.heap.update a (Obj.putSet es2 t2) = h2 at sb hst ⊢
      have tup2 : ∀ y ∈ L2, NI h2 y.2 y.1 := fun y hy => ni_same ho hd sb (by
        rcases List.mem_cons.mp (pm.mem_iff.mp hy) with rfl | hy
        · exact hx
        · exact R.tup y hy)
      have led2 : w.params.followText "set-order" = true ∨ t2.led = true := by
        rw [h2l, q5]
        exact R.led
      have fill2 : t2.fill = L.length + 1 := by
        rw [← q9, SetTable.fill, SetTable.fill, h2p, h2d]
      by_cases hfull : (!false && t2.tooFull) = true
      · rw [if_pos hfull]
        have hf2 : t2.fill * 5 ≥ t2.mask * 3 := by
          simpa [SetTable.tooFull] using hfull
        rw [fill2, h2m, q4] at hf2
        have hsize2 : es2.size = L.length + 1 := sz2
        have place2 : t2.place.size = es2.size := by
          have := tab2.sz
          rw [List.length_map] at this
          omega
        have step : ∀ (wanted M : Nat), es.size + 1 = wanted → SetTable.sizeAbove (SetTable.grown wanted) - 1 = M → MaskOk M → SetTable.sizeAbove (SetTable.grown wanted) ≤ 128 → (L.length + 1) * 5 < M * 3 →
            wpAny (model P w) A (do
              let __r ← setRelay a (SetTable.grown (es.size + 1))
              pure true) Q E { heap := h2, gens := s.gens, drawn := s.drawn, toks := s.toks, os := s.os } := fun wanted M hw hM mok h128 rm => by
          rw [hw]
          refine wpAny_bind (relayN (s := { heap := h2, gens := s.gens, drawn := s.drawn, toks := s.toks, os := s.os }) (L := L2) hst ⟨cls, dict, slots⟩ rfl rows2 place2 tab2.dm (by rw [h2m, q4]; omega) nd2 tup2 led2 (by omega) hM mok h128 (by omega) fun h3 L3 es3 ep3 t3 sb3 R3 p3 => ?_)
          exact wpAny_pure (q true h3 L3 es3 ep3 t3 (sb.trans sb3) R3 (fun z => absurd z hm) fun _ => p3.trans pm)
        rcases R.tab.mok with e | e | e
        · rw [e] at hf2 hroom
          exact step 5 31 (by omega) (by rw [size_20]) (Or.inr (Or.inl rfl)) (by rw [size_20]; decide) (by omega)
        · rw [e] at hf2 hroom
          exact step 19 127 (by omega) (by rw [size_76]) (Or.inr (Or.inr rfl)) (by rw [size_76]; decide) (by omega)
        · rw [e] at hf2 hroom
          omega
      · rw [if_neg hfull]
        have hf2 : ¬ t2.fill * 5 ≥ t2.mask * 3 := fun z => hfull (by simpa [SetTable.tooFull] using z)
        refine wpAny_pure (q true h2 L2 es2 (ep + 1) t2 sb ⟨⟨_, hst, ⟨cls, dict, slots⟩, rfl⟩, rows2, tab2, nd2, tup2, led2, by omega, by omega⟩ (fun z => absurd z hm) fun _ => pm)
    by_cases hpl : t1.plain = true
    · rw [if_pos hpl]
      exact wpAny_bind (hashBy_key 8 k _ s hx.1 A E _ main)
    · rw [if_neg hpl]
      exact wpAny_bind (wpAny_pure (main true))
end
end KS
namespace KS
open PySem PySem.Spec PyProof.Rows L2 PySem.Calls
/-! set(a list of nested tuples) -/
/-- what stands in a set behind some adding -/
def GotN (ks L : List NE) : Prop := (∀ p ∈ L, p ∈ ks) ∧ ∀ p ∈ ks, p.2 ∈ L.map (·.2)
theorem gotN_zero : GotN [] [] := ⟨fun p hp => hp, fun p hp => absurd hp (by simp)⟩
theorem gotN_snoc {ks L L' : List NE} {x : Addr} {k : NestedKey} (G : GotN ks L) (h1 : k ∈ L.map (·.2) → L' = L) (h2 : k ∉ L.map (·.2) → L'.Perm ((x, k) :: L)) : GotN (ks ++ [(x, k)]) L' := by
  by_cases hk : k ∈ L.map (·.2)
  · rw [h1 hk]
    refine ⟨fun p hp => List.mem_append_left _ (G.1 p hp), fun p hp => ?_⟩
    rcases List.mem_append.mp hp with hp | hp
    · exact G.2 p hp
    · obtain rfl := List.mem_singleton.mp hp
      exact hk
  · have pm := h2 hk
    refine ⟨fun p hp => ?_, fun p hp => ?_⟩
    · rcases List.mem_cons.mp (pm.mem_iff.mp hp) with rfl | hp
      · exact List.mem_append_right _ (List.mem_singleton.mpr rfl)
      · exact List.mem_append_left _ (G.1 p hp)
    · rw [(pm.map _).mem_iff, List.map_cons]
      rcases List.mem_append.mp hp with hp | hp
      · exact List.mem_cons_of_mem _ (G.2 p hp)
      · obtain rfl := List.mem_singleton.mp hp
        exact List.mem_cons_self ..
theorem gotN_len {ks L : List NE} (G : GotN ks L) (nd : (L.map (·.2)).Nodup) : L.length ≤ ks.length := by
  have nd2 : L.Nodup := nodup_of_map nd
  exact nd2.length_le_of_subset fun p hp => G.1 p hp
theorem get_none {h : Heap} {n : Nat} (hm : h.objs.size ≤ n) : h.get? n = none := by
  cases e : h.get? n with
  | none => rfl
  | some o => exact absurd (Heap.lt_size e) (Nat.not_lt.mpr hm)
theorem setN_fresh {w : World} {h : Heap} {a : Addr} (hg : h.get? a = some { cls := .type "set", data := .set #[] 0 (SetTable.fresh 0 0 (!w.params.followText "set-order")) }) : SetNR w h a [] #[] 0 (SetTable.fresh 0 0 (!w.params.followText "set-order")) := by
  have z := setTR_fresh (P := default) (w := w) hg
  exact ⟨z.ob, rfl, z.tab, List.nodup_nil, fun p hp => absurd hp (by simp), z.led, z.room, by decide⟩
section
variable {P : Program} {w : World} {A : Around} {E : Value → Shared → Prop}
theorem set_update_nested {R : Result → Shared → Prop} {I : Addr} {fp wr : List Addr} {G : Array GenState → Array GenState → Prop} {n : Nat} {Pv : Nat → Value → Prop} {St : Nat → Shared → Prop} (W : WalksS P w A.in1 I fp wr G n Pv St) (S : Addr) (hSf : S ∉ fp) (ks : List NE) (hsz : n = ks.length) (hn : ks.length < 64)
    (hval : ∀ i v, Pv i v → ∃ p : NE, ks[i]? = some p ∧ v = .ref p.1) (h0 : Heap) (hk : ∀ p ∈ ks, NI h0 p.2 p.1) (hS0 : h0.get? S = none) (hw0 : ∀ b ∈ wr, h0.get? b = none) (hu : A.in1.units + 8 < cLine) : ∀ (m i : Nat) (s : Shared), n - i = m → i ≤ n → St i s →
    (∀ b o, h0.get? b = some o → s.heap.get? b = some o) → (∃ L es ep t, SetNR w s.heap S L es ep t ∧ GotN (ks.take i) L) →
    (∀ (s' : Shared) (L : List NE) (es : Array (Int × Value)) (ep : Nat) (t : SetTable), Moved (S :: wr) G s s' → SetNR w s'.heap S L es ep t → GotN ks L → (∀ b o, h0.get? b = some o → s'.heap.get? b = some o) → R (.ok (.ret .none)) s') →
    codeAny (model P w) A (.builtin "set.update.loop" ⟨[.ref S, .ref I], []⟩) R s := by
  have hSw : S ∉ wr := fun h => hSf (W.sub S h)
  have hsub : ∀ b, b ∈ wr → b ∈ S :: wr := fun b hb => List.mem_cons_of_mem S hb
  intro m
  induction m with
  | zero =>
    intro i s hm hi hst hkp hS hR
    obtain rfl : i = n := by omega
    refine codeAny_builtin F.entry_set_update_loop ?_
    rw [Around.under_plainId F.plain_set_update_loop]
    obtain ⟨L, es, ep, t, RS, GS⟩ := hS
    have kp' : ∀ s' : Shared, Moved wr G s s' → ∀ b o, h0.get? b = some o → s'.heap.get? b = some o := fun s' hm' b o e => hm'.heap b o (fun hb => by rw [hw0 b hb] at e; cases e) (hkp b o e)
    refine wpAny_bind (W.done s _ _ hst fun s' hm' => wpAny_pure (hR s' L es ep t (Moved.mono hm' hsub) (RS.keep (fun o ho => hm'.heap S o hSw ho) fun p hp => ni_keep (kp' s' hm') (hk p ?_)) ?_ (kp' s' hm')))
    · exact List.mem_of_mem_take (GS.1 p hp)
    · rw [hsz, List.take_length] at GS
      exact GS
  | succ m ih =>
    intro i s hm hi hst hkp hS hR
    have hlt : i < n := by omega
    refine codeAny_builtin F.entry_set_update_loop ?_
    rw [Around.under_plainId F.plain_set_update_loop]
    refine wpAny_bind (W.item i s _ _ hlt hst fun v s' hP hst' hm' => ?_)
    obtain ⟨p, hkp', rfl⟩ := hval i v hP
    obtain ⟨L, es, ep, t, RS, GS⟩ := hS
    have kp' : ∀ b o, h0.get? b = some o → s'.heap.get? b = some o := fun b o e => hm'.heap b o (fun hb => by rw [hw0 b hb] at e; cases e) (hkp b o e)
    have RS' : SetNR w s'.heap S L es ep t := RS.keep (fun o ho => hm'.heap S o hSw ho) fun q hq => ni_keep kp' (hk q (List.mem_of_mem_take (GS.1 q hq)))
    have hpk : NI s'.heap p.2 p.1 := ni_keep kp' (hk p (List.mem_of_getElem? hkp'))
    have hlen := gotN_len GS RS.nd
    rw [List.length_take] at hlen
    refine wpAny_bind (wpAny_holding (wpAny_holding (wpAny_bind ((nestedKind P w).pyHash (k := p.2) (by exact hu) (ni_kind hpk) (addN (s := { heap := s'.heap, gens := s'.gens, drawn := s'.drawn, toks := s'.toks + (nestedKind P w).draws p.2, os := s'.os }) RS' hpk hu (by omega) fun bb h' L' es' ep' t' hsb R2 e1 e2 => ?_)))))
    have GS2 : GotN (ks.take (i + 1)) L' := by
      rw [take_next hkp']
      exact gotN_snoc GS e1 e2
    have kp2 : ∀ b o, h0.get? b = some o → h'.get? b = some o := fun b o e => by
      rw [hsb.right b fun z => by rw [z, hS0] at e; cases e]
      exact kp' b o e
    refine wpAny_pure ⟨plainId_quiet F.plain_set_update_loop _, ih (i + 1) _ (by omega) hlt (W.frame (i + 1) s' h' _ hst' (Nat.le_add_right ..) fun b hb o e => ?_) kp2 ⟨L', es', ep', t', R2, GS2⟩ fun s'' L2 es2 ep2 t2 hm'' R3 G3 k3 => hR s'' L2 es2 ep2 t2 (Moved.trans W.gtrans (Moved.then_heap (Moved.mono hm' hsub) (Nat.le_add_right ..) fun b o hb e => ?_) hm'') R3 G3 k3⟩
    · rw [hsb.right b fun h => hSf (h ▸ hb)]
      exact e
    · rw [hsb.right b fun h => hb (by rw [h]; exact List.mem_cons_self ..)]
      exact e
end
section
variable {prog : Program} {w : World} {A : Around}
theorem call_set_listN {E : Value → Shared → Prop} {s : Shared} {l : Addr} {items : Array Value} {ks : List NE} {Q : Value → Shared → Prop} (hh : A.handled = none) (hu : A.units + 30 < cLine) (hl : s.heap.IsList l items) (hsz : ks.length = items.size) (hn : ks.length < 64)
    (hv : ∀ (i : Nat) (v : Value), items[i]? = some v → ∃ p : NE, ks[i]? = some p ∧ v = .ref p.1) (hk : ∀ p ∈ ks, NI s.heap p.2 p.1)
    (h : ∀ (h' : Heap) (tk : Nat) (L : List NE) (es : Array (Int × Value)) (ep : Nat) (t : SetTable), SetNR w h' s.heap.objs.size L es ep t → GotN ks L → (∀ (b : Nat) (o : Obj), b < s.heap.objs.size → s.heap.get? b = some o → h'.get? b = some o) → Q (.ref s.heap.objs.size) { heap := h', gens := s.gens, drawn := s.drawn, toks := tk, os := s.os }) :
    wpAny (model prog w) A (call (.type "set") [.ref l]) Q E s := by
  obtain ⟨c, tl, hmro⟩ := F.called_set.mro
  have hmade := F.called_set.made
  have hsub := F.called_set.sub
  have h1 := F.called_set.notType
  have h2 := F.called_set.canCreate
  have hct := F.typeCall_set_1 (Value.ref l)
  refine wpAny_call (codeAny_of_tree ?_)
  refine wpAny_pure ⟨Code.quiet_builtin _ (by decide +kernel), codeAny_builtin F.entry_type_call ?_⟩
  rw [Around.under_plain (weight_type_call_type "set" [Value.ref l] []) rfl]
  unfold Builtin.«type.__call__»
  repeat (first | wp_step)
  refine codeAny_mono (code_set_led1 (P := prog) (w := w) (E := E) (Value.ref l) (Q₁ := fun v s1 => v = .ref s.heap.objs.size ∧ s1 = { heap := s.heap.push { cls := .type "set", data := .set #[] 0 (SetTable.fresh 0 0 (!w.params.followText "set-order")) }, gens := s.gens, drawn := s.drawn, toks := s.toks, os := s.os }) ⟨rfl, rfl⟩) fun r s1 hr => ?_
  rcases r with e | (v | _ | _ | _) <;> first | exact hr | exact hr.elim | skip
  obtain ⟨rfl, rfl⟩ := hr
  generalize eled : (!w.params.followText "set-order") = led
  have hget : (s.heap.push { cls := .type "set", data := .set #[] 0 (SetTable.fresh 0 0 led) }).get? s.heap.objs.size = some { cls := .type "set", data := .set #[] 0 (SetTable.fresh 0 0 led) } := Heap.get?_push_size _ rfl
  have hold : ∀ b o, s.heap.get? b = some o → (s.heap.push { cls := .type "set", data := .set #[] 0 (SetTable.fresh 0 0 led) }).get? b = some o := fun b o e => Heap.get?_push_of_some _ e
  generalize hh2 : s.heap.push { cls := .type "set", data := .set #[] 0 (SetTable.fresh 0 0 led) } = h2' at hget hold ⊢
  have hT : (⟨h2', s.gens, s.drawn, s.toks, s.os⟩ : Shared).TypeIs (.ref s.heap.objs.size) "set" := ⟨_, hget, rfl⟩
  have hli := F.called_set.init.lookup
  have hbi := F.called_set.init.bind (.ref s.heap.objs.size)
  dsimp only
  refine wpAny_bind (wpAny_isInstance hT hsub ?_)
  refine wpAny_ite_false rfl ?_
  refine wpAny_bind (wpAny_holding ?_)
  unfold callSpecial?
  refine wpAny_bind (wpAny_specialOf hT hli (wpAny_holding ?_))
  refine wpAny_bind (wpAny_of_eq hbi (wpAny_bind (wpAny_call ?_)))
  refine codeAny_mono (codeAny_call_builtin (R := fun r s' => r = .ok (.ret .none) ∧ (∃ (L : List NE) (es : Array (Int × Value)) (ep : Nat) (t : SetTable), SetNR w s'.heap s.heap.objs.size L es ep t ∧ GotN ks L) ∧ (∀ (b : Nat) (o : Obj), b < s.heap.objs.size → s.heap.get? b = some o → s'.heap.get? b = some o) ∧ s'.gens = s.gens ∧ s'.drawn = s.drawn ∧ s'.os = s.os) F.called_set.init.plain F.entry_set_init (check_set_init_1 hT ?_)) ?_
  · unfold Builtin.«set.__init__»
    repeat (first | wp_step)
    obtain ⟨ol, el, ec, nl, ed⟩ := hl
    have hlg := hold _ _ el
    refine wpAny_loadPart_at hlg ?_
    rw [ec]
    refine wpAny_pure ?_
    refine wpAny_of_eq F.sub_list_set ?_
    have hl1 : h2'.IsList l items := ⟨ol, hlg, ec, nl, ed⟩
    repeat (first | with_reducible refine wpAny_pyIter_list hl1 ?_ | with_reducible refine wpAny_runValue ?_ | with_reducible refine wpAny_loadPart_at hlg ?_ | rw [ec] | refine wpAny_of_eq F.sub_list_frozenset ?_ | wp_step)
    have sz2 : h2'.objs.size = s.heap.objs.size + 1 := by rw [← hh2, Heap.size_push]
    have hlS := Heap.lt_size el
    have I1 : ∀ b o, h2'.get? b = some o → (h2'.push { cls := Value.type "list_iterator", data := Data.fields #[Value.ref l, Value.int 0 0] }).get? b = some o := fun b o e => Heap.get?_push_of_some _ e
    have hIt : (h2'.push { cls := Value.type "list_iterator", data := Data.fields #[Value.ref l, Value.int 0 0] }).get? h2'.objs.size = some { cls := Value.type "list_iterator", data := Data.fields #[Value.ref l, Value.int 0 0] } := Heap.get?_push_size _ rfl
    generalize hh3 : h2'.push { cls := Value.type "list_iterator", data := Data.fields #[Value.ref l, Value.int 0 0] } = h3' at I1 hIt ⊢
    have kp3 : ∀ b o, s.heap.get? b = some o → h3'.get? b = some o := fun b o e => I1 _ _ (hold _ _ e)
    have units : A.in1.in1.in1.units = A.units + 3 := rfl
    refine set_update_nested (P := prog) (w := w) (Walks.list (show A.in1.in1.in1.handled = none from hh) h2'.objs.size l (by rw [sz2]; exact Nat.ne_of_lt (Nat.lt_succ_of_lt hlS)) items).toS s.heap.objs.size (by rw [sz2]; simp; exact Nat.ne_of_gt hlS) ks hsz.symm hn (fun i v hP => hv i v hP) s.heap hk (get_none (Nat.le_refl _)) (fun b hb => ?_) (by rw [units]; omega) _ 0 _ rfl (Nat.zero_le _) ⟨?_, _, I1 _ _ hlg, ec, nl, ed⟩ kp3 ⟨[], #[], 0, SetTable.fresh 0 0 led, ?_, gotN_zero⟩ ?_
    · have : b = h2'.objs.size := by simpa using hb
      rw [this, sz2]
      exact get_none (Nat.le_succ _)
    · exact ⟨_, hIt, rfl, rfl⟩
    · rw [← eled]
      exact setN_fresh (w := w) (by rw [eled]; exact I1 _ _ hget)
    · intro s' L es ep t hm' hS' hG hkp
      repeat (first | wp_step)
      refine ⟨rfl, ⟨L, es, ep, t, hS', hG⟩, fun b o hb e => hm'.heap b o ?_ (I1 _ _ (hold _ _ e)), hm'.gens, hm'.drawn, hm'.os⟩
      rw [sz2]
      simp
      exact ⟨Nat.ne_of_lt hb, Nat.ne_of_lt (Nat.lt_succ_of_lt hb)⟩
  · rintro r s' ⟨rfl, ⟨L, es, ep, t, g1, gc⟩, g2, g3, g4, g5⟩
    obtain ⟨hp', gs', dr', tk', os'⟩ := s'
    dsimp only at g1 g2 g3 g4 g5
    subst g3 g4 g5
    show wpAny _ _ (pure (some Value.none)) _ _ _
    refine wpAny_pure ?_
    repeat (first | wp_step)
    exact h hp' tk' L es ep t g1 gc g2
end
end KS
namespace KS
open PySem PySem.Spec PyProof.Rows L2 PySem.Calls NL
/-! sets of nested tuples, by hand: the object, set(list), sorted(set), set.add -/
def SetN0 (w : World) (h : Heap) (a : Addr) (L : List NE) : Prop := ∃ es ep t, (∃ o, h.get? a = some o ∧ o.ExactSet ∧ o.data = .set es ep t) ∧ es.toList = rowsN w L ∧ TabOk t (L.map fun p => NestedKey.hash w p.2) ∧ (L.map (·.2)).Nodup ∧ (w.params.followText "set-order" = true ∨ t.led = true) ∧ L.length * 5 < t.mask * 3 ∧ L.length < 64
def SetNO (w : World) (a : Addr) (L : List NE) : HO := .ext fun h => SetN0 w h a L
theorem SetNR.t0 {w : World} {h : Heap} {a : Addr} {L : List NE} {es : Array (Int × Value)} {ep : Nat} {t : SetTable} (R : SetNR w h a L es ep t) : SetN0 w h a L := ⟨es, ep, t, R.ob, R.rows, R.tab, R.nd, R.led, R.room, R.few⟩
theorem SetN0.full {w : World} {h : Heap} {a : Addr} {L : List NE} (z : SetN0 w h a L) (k : ∀ p ∈ L, NI h p.2 p.1) : ∃ es ep t, SetNR w h a L es ep t :=
  let ⟨es, ep, t, h1, h2, h3, h4, h5, h6, h7⟩ := z
  ⟨es, ep, t, h1, h2, h3, h4, k, h5, h6, h7⟩
theorem setN_ok {P : Program} {w : World} {H : Hp} {h : Heap} {a : Addr} {L : List NE} (z : SetN0 w h a L) : ObjOk P w H h a (SetNO w a L) :=
  ⟨z, let ⟨_, _, _, ⟨o, ho, _⟩, _⟩ := z; ⟨o, ho⟩, fun h1 h2 z st => by
    obtain ⟨es, ep, t, ⟨o, ho, r⟩, rest⟩ := z
    exact ⟨es, ep, t, ⟨o, st _ ho, r⟩, rest⟩⟩
theorem setN_get {P : Program} {w : World} {H : Hp} {h : Heap} {a : Addr} {L : List NE} (hok : HOk P w H h) (e : H a = some (SetNO w a L)) : SetN0 w h a L := by
  obtain ⟨z, _, _⟩ := hok a _ e
  exact z
section
variable {X : Cx}
abbrev keysOk (X : Cx) (H : Hp) (L : List NE) : Prop := ∀ p ∈ L, IsKey X.K H p.1 p.2
/-- set(a list of nested tuples) -/
def rSetN (X : Cx) : List V → Hp → VK → Prop := fun xs H Q => ∃ (l : Addr) (ks : List NE), xs = [.ref l] ∧ SqL X.K H l (ks.map fun p => V.ref p.1) ∧ keysOk X H ks ∧ ks.length < 64 ∧ ∀ p L, H p = none → GotN ks L → (L.map (·.2)).Nodup → Q (.ref p) (upd H p (SetNO X.w p L))
theorem refsN_of_vals : ∀ {ks : List NE} {us : List Value}, Vals (ks.map fun p => V.ref p.1) us → us = ks.map fun p => Value.ref p.1
  | [], _, .nil => rfl
  | _ :: ks, _, .cons r t => by
    rw [List.map_cons, ← refsN_of_vals t]
    cases r
    rfl
theorem cr_setN (hc : X.calm = true) (hu : X.A.units + 30 < cLine) : CallR X (.type "set") (rSetN X) := by
  intro pins s σ H vs us Q I r h
  obtain ⟨l, ks, rfl, hs, hk, hn, q⟩ := h
  obtain ⟨its, rv, hl, hz⟩ := I.list hs
  rw [Vals.ref1 r]
  obtain rfl := refsN_of_vals rv
  refine call_set_listN (ks := ks) (I.ok.hd hc) hu hl.isList (by simp) hn (fun i v hv => ?_) (fun p hp => (hk p hp).is I) fun h' tk L es ep t R G kp => ?_
  · rw [List.getElem?_toArray, List.getElem?_map] at hv
    obtain ⟨p, hp, rfl⟩ := Option.map_eq_some_iff.mp hv
    exact ⟨p, hp, rfl⟩
  · exact ⟨.ref s.heap.objs.size, _, I.laid (o := SetNO X.w s.heap.objs.size L) (t' := tk) (fun b o e => kp b o (Heap.lt_size e) e) (Nat.le_refl _) (setN_ok R.t0), rfl, q _ L (I.hok.fresh (Nat.le_refl _)) G R.nd⟩
/-- sorted(a set of nested tuples) -/
def rSortSN (X : Cx) : List V → Hp → VK → Prop := fun vs H Q => ∃ (a : Addr) (L : List NE) (D : NE → PyData), vs = [.ref a] ∧ H a = some (SetNO X.w a L) ∧ keysOk X H L ∧ (∀ x ∈ L, Dp X.K H (.ref x.1) (D x) ∧ (D x).depth ≤ 20) ∧ W.AllAlike (L.map D) ∧ W.Sortable (L.map D) ∧
  ∀ (p : Addr) (L' : List NE), H p = none → L'.Perm L → Q (.ref p) (upd H p (.lst ((L'.mergeSort (W.dataLe false D)).map fun x => V.ref x.1)))
theorem each_ne {R : Value → NE → Prop} : ∀ (L : List NE), (∀ x ∈ L, R (.ref x.1) x) → W.EachIs R (L.map fun x => Value.ref x.1) L
  | [], _ => .nil
  | x :: L, f => .cons (f x (List.mem_cons_self ..)) (each_ne L fun y hy => f y (List.mem_cons_of_mem _ hy))
theorem each_nes : ∀ {vs : List Value} {L : List NE}, W.EachIs (fun (v : Value) (z : NE) => v = .ref z.1) vs L → vs = L.map fun z => Value.ref z.1
  | _, _, .nil => rfl
  | _, _, .cons e r => by rw [List.map_cons, ← each_nes r, e]
theorem vals_ne : ∀ L : List NE, Vals (L.map fun x => V.ref x.1) (L.map fun x => Value.ref x.1)
  | [] => .nil
  | _ :: L => .cons rfl (vals_ne L)
/-- a list, one of whose orders is a map of another, is a map of an order of it -/
theorem perm_map {α β : Type} (f : α → β) {l m : List β} (h : l.Perm m) : ∀ L : List α, m = L.map f → ∃ L' : List α, l = L'.map f ∧ L'.Perm L := by
  induction h with
  | nil => intro L e; exact ⟨[], rfl, by cases L with | nil => exact .nil | cons => cases e⟩
  | cons x h ih =>
    intro L e
    cases L with
    | nil => cases e
    | cons y L =>
      rw [List.map_cons, List.cons.injEq] at e
      obtain ⟨L', e1, p⟩ := ih L e.2
      exact ⟨y :: L', by rw [List.map_cons, e.1, e1], p.cons y⟩
  | swap x y l =>
    intro L e
    match L, e with
    | a :: b :: L, e =>
      simp only [List.map_cons, List.cons.injEq] at e
      obtain ⟨e1, e2, e3⟩ := e
      exact ⟨b :: a :: L, by simp [e1, e2, e3], .swap a b L⟩
  | trans h1 h2 ih1 ih2 =>
    intro L e
    obtain ⟨L1, e1, p1⟩ := ih2 L e
    obtain ⟨L2, e2, p2⟩ := ih1 L1 e1
    exact ⟨L2, e2, p2.trans p1⟩
theorem inv_drawn {pins : List (Addr × Obj)} {σ : L2.St} {H : Hp} {s : Shared} (I : Inv X pins σ H s) (d : Drawn) : Inv X pins σ H { heap := s.heap, gens := s.gens, drawn := d, toks := s.toks, os := s.os } :=
  ⟨I.ok, I.os, I.bare, I.base, I.loc, I.cell, I.free, I.freeC, I.pin, I.hok, I.len⟩
theorem cr_sortedSN (hc : X.calm = true) (hu : X.A.units + 40 < cLine) : CallR X (.builtin "sorted") (rSortSN X) := by
  intro pins s σ H vs us Q I r h
  obtain ⟨a, L0, D, ev, ha, hK, hD, hal0, hso0, q⟩ := h
  subst ev
  obtain rfl := Vals.ref1 r
  obtain ⟨es, ep, t, R⟩ := (setN_get I.hok ha).full fun p hp => (hK p hp).is I
  obtain ⟨o, ho, hex, hd⟩ := R.ob
  have hfew := R.few
  have hsz := R.size
  have hb : es.size < scanBound := by
    have : (64 : Nat) ≤ scanBound := by decide
    omega
  refine Calls.call_function_entry kind_sorted plain_sorted entry_sorted (args_sorted1 (.ref a)) (id (wpAny_bind (wpAny_pure (wpAny_bind (collect_set (I.ok.hd hc) ⟨o, ho, hex.1, hd⟩ R.fits hb R.tab.ris R.led fun s' out hk _ hg ho' hperm => ?_)))))
  obtain ⟨h', g', d', tk, os'⟩ := s'
  dsimp only at hk hg ho' ⊢
  subst hg ho'
  have e0 : es.toList.map (fun x => x.2) = L0.map fun x => Value.ref x.1 := by
    rw [R.rows, rowsN, List.map_map]
    rfl
  rw [e0] at hperm
  obtain ⟨L, rfl, pm⟩ := perm_map (fun x : NE => Value.ref x.1) hperm L0 rfl
  have hL : L.length ≤ sizeLine := few_line (by rw [pm.length_eq]; exact hfew)
  have hal : W.AllAlike (L.map D) := fun x hx y hy => hal0 x ((pm.map D).mem_iff.mp hx) y ((pm.map D).mem_iff.mp hy)
  have hso : W.Sortable (L.map D) := hso0.imp (fun z x hx => z x ((pm.map D).mem_iff.mp hx)) fun z x hx => z x ((pm.map D).mem_iff.mp hx)
  have I1 : Inv X pins σ H { heap := h', gens := s.gens, drawn := d', toks := tk, os := s.os } := inv_drawn (I.kept (t' := tk) hk) d'
  have hn0 : H h'.objs.size = none := I1.hok.fresh (Nat.le_refl _)
  refine wpAny_bind (wpAny_newList ?_ (by rw [List.length_map]; exact hL))
  have hob : (h'.push { cls := .type "list", data := .seq (L.map fun x => Value.ref x.1).toArray }).get? h'.objs.size = some (seqObj "list" (L.map fun x => Value.ref x.1).toArray 0) := Heap.get?_push_size _ rfl
  have ka : ∀ b o, h'.get? b = some o → (h'.push { cls := .type "list", data := .seq (L.map fun x => Value.ref x.1).toArray }).get? b = some o := fun b o e => Heap.get?_push_of_some _ e
  have apart : ∀ b o, h'.get? b = some o → b ≠ h'.objs.size := fun b o e => Nat.ne_of_lt (Heap.lt_size e)
  dsimp only
  generalize h'.push { cls := .type "list", data := .seq (L.map fun x => Value.ref x.1).toArray } = h2 at hob ka ⊢
  have ks : ∀ b o, h'.get? b = some o → (W.sortingHeap h2 h'.objs.size (L.map fun x => Value.ref x.1)).get? b = some o := fun b o e => W.sortingHeap_old (apart b o e) (ka b o e)
  have e1 : W.EachIs (fun (v : Value) (z : NE) => v = .ref z.1) (L.map fun x => Value.ref x.1) L := each_ne L fun _ _ => rfl
  have e2 : W.EachIs (fun (v : Value) (z : NE) => ∃ ws, Reads (W.sortingHeap h2 h'.objs.size (L.map fun x => Value.ref x.1)) v (D z) ws) (L.map fun x => Value.ref x.1) L := each_ne L fun x hx => by
    obtain ⟨w1, r1⟩ := Dp.reads I _ _ _ (hD x (pm.mem_iff.mp hx)).1 rfl
    exact ⟨_, PyProof.Rows.Reads.keeps (fun b o e => ks b o (hk b o e)) r1⟩
  have hu1 : X.A.in1.units = X.A.units + 1 := rfl
  have hu2 : X.A.in1.in1.units = X.A.in1.units + 1 := rfl
  refine id (wpAny_bind (wpAny_holding (wpAny_call_entry slot_list_sort ⟨_, hob, rfl⟩ entry_list_sort ?_ (args_list_sort _))))
  refine W.list_sort_vals (s := { heap := h2, gens := s.gens, drawn := d', toks := tk, os := s.os }) (κ := W.dataKind (W.sortingHeap h2 h'.objs.size (L.map fun x => Value.ref x.1)) (L.map D)) hob
    (W.SortsAt.data (s := { heap := W.sortingHeap h2 h'.objs.size (L.map fun x => Value.ref x.1), gens := s.gens, drawn := d', toks := tk, os := s.os }) (W.each_map (R := fun v d => ∃ ws, Reads (W.sortingHeap h2 h'.objs.size (L.map fun x => Value.ref x.1)) v d ws) D e2) hal hso fun d hd => ?_)
    (by rw [List.length_map]; exact hL) ⟨.none, rfl, ?_⟩
  · obtain ⟨x, hx, rfl⟩ := List.mem_map.mp hd
    have := (hD x (pm.mem_iff.mp hx)).2
    omega
  · have eo := each_nes (W.sortVals_data false e1 e2 hal)
    generalize W.sortVals (W.dataKind (W.sortingHeap h2 h'.objs.size (L.map fun x => Value.ref x.1)) (L.map D)) false (L.map fun x => Value.ref x.1) (L.map fun x => Value.ref x.1) = out at eo ⊢
    subst eo
    have pz := List.mergeSort_perm L (W.dataLe false D)
    have q' := q h'.objs.size L hn0 pm
    generalize L.mergeSort (W.dataLe false D) = zs at pz q' ⊢
    obtain ⟨eF, heF⟩ := PyProof.Rows.sortedHeap_at (vs := L.map fun x => Value.ref x.1) (out := (zs.map fun z => Value.ref z.1).toArray) hob
    have kF : ∀ b o, h'.get? b = some o → (sortedHeap h2 h'.objs.size (L.map fun x => Value.ref x.1) (zs.map fun z => Value.ref z.1).toArray).get? b = some o := fun b o e =>
      (PyProof.Rows.sortedHeap_old (apart b o e) (Heap.lt_size (ka b o e))).trans (ka b o e)
    refine wpAny_pure ?_
    refine ⟨.ref h'.objs.size, rfl, .ref h'.objs.size, upd H h'.objs.size (.lst (zs.map fun x => V.ref x.1)), ?_, rfl, q'⟩
    exact I1.laid (o := .lst (zs.map fun x => V.ref x.1)) (t' := tk) (fun b o e => kF b o e) (Nat.le_refl _) ⟨by rw [List.length_map, pz.length_eq]; exact hL, _, eF, vals_ne zs, heF⟩
end
end KS
namespace KS
open PySem PySem.Spec PyProof.Rows L2 PySem.Calls NL
/-! {e for target in iter if ..} -/
/-- how a comprehension's new set is told: empty at first (o0), and by each adding (put D y H N: N tells of whatever heap is there behind it) -/
structure SK (P : Program) (w : World) (K : PySem.W.Frag) (rm : Nat) where
  o0 : Addr → HO
  put : Addr → V → Hp → (Hp → Prop) → Prop
  new : ∀ {H : Hp} (h : Heap), sysModules < h.objs.size → ObjOk P w H (h.push { cls := .type "set", data := .set #[] 0 (SetTable.fresh 0 0 (!w.params.followText "set-order")) }) h.objs.size (o0 h.objs.size)
  add : ∀ {X : Cx} {pins : List (Addr × Obj)} {σ : L2.St} {H : Hp} {N : Hp → Prop} {s : Shared} {E : Value → Shared → Prop} {D : Addr} {y : V} {u : Value} {Q : Value → Shared → Prop}, X.prog = P → X.w = w → X.K = K → X.A.units + rm < cLine → Inv X pins σ H s → put D y H N → RelV y u →
    (∀ H' s', N H' → Inv X pins σ H' s' → Q .none s') → wpAny (model P w) X.A (call (.builtin "set.add") [.ref D, u]) Q E s
section
variable {X : Cx} {rm : Nat}
def tSg (dk : SK X.prog X.w X.K rm) (wi : TI) (g : TG) (tt : TT) (tk : TE) (vs : List Nat) : TE := fun σ H Q => wi σ H fun J H1 => ∀ D, H1 D = none → ∃ W : Nat → Nat → Hp → Prop, (∃ m, W 0 m (upd H1 D (dk.o0 D))) ∧ ∀ i m H, W i m H →
  (J.stop i H ∧ Q (.ref D) H) ∨ (J.go i H ∧ ∃ Nx : Hp → Prop, (∀ H', Nx H' → ∃ m', m' < m ∧ W (i + 1) m' H') ∧ ∀ x H', J.yld i H x H' → g x (wipe σ vs) H' fun σ2 H2 => wipe σ2 vs = wipe σ vs ∧ tt σ2 H2 fun b H3 =>
    if b = true then tk σ2 H3 fun y H4 => dk.put D y H4 Nx else Nx H3)
theorem pe_sg (dk : SK X.prog X.w X.K rm) {kx tg iter : Expr} {ifs : List Expr} {scope : Scope} {own : List (Str × Nat)} {pos : Pos} {wi : TI} {g : TG} {tt : TT} {tk : TE} (hu : X.A.units + rm < cLine) (hc : X.calm = true) (hN : X.N.Nodup) (hi : PI X tg iter wi)
    (ok : BlkOk X.N X.env.scope scope own)
    (hg : ∀ (s : Shared) (H : Hp) (C : Addr) (cl : List (Str × Addr)) (fp : List Addr), PG (X.blk s H scope (compEnvC scope cl C X.env) fp) tg g)
    (ht : ∀ (s : Shared) (H : Hp) (C : Addr) (cl : List (Str × Addr)) (fp : List Addr), PTs (X.blk s H scope (compEnvC scope cl C X.env) fp) ifs tt)
    (hk : ∀ (s : Shared) (H : Hp) (C : Addr) (cl : List (Str × Addr)) (fp : List Addr), PE (X.blk s H scope (compEnvC scope cl C X.env) fp) kx tk)
    (hs : ∀ x, foldedSetIterable iter X.env x = pure x := by intro _; rfl) : PE X (.SetComp kx [⟨tg, iter, ifs, 0⟩] scope pos) (tSg dk wi g tt tk (own.map (·.2))) := by
  refine ⟨fun pins s σ H Q I h => ?_⟩
  rw [arm_eval_SetComp]
  have seen : ∀ y ∈ scope.names, y.2 = .free → ∃ c, X.env.cells.lookup y.1 = some c := fun y hy e => (ok.free y hy e).elim (fun k => I.ok.has _ (.inl k)) fun k => I.ok.has _ (.inr k)
  refine wpAny_comprehension_free rfl hs (closure_ok seen) ok.kind (fun y hy e => (ok.uniq y hy).trans (by rw [e])) (thn (hi.run pins s σ H _ I h) fun xv s1 hx => thn hx fun itv s2 h2 => ?_)
  obtain ⟨it, fp, tn, J, H2, eit, I2, T, st2, f2, q⟩ := h2
  subst eit
  refine wpAny_newSet_raw fun led eled => ?_
  refine newEnv_comp ?_
  obtain ⟨D, hD⟩ : ∃ D, s2.heap.objs.size = D := ⟨_, rfl⟩
  rw [hD]
  have free2 : H2 D = none := I2.hok.fresh (Nat.le_of_eq hD)
  obtain ⟨W, ⟨m0, start⟩, turn⟩ := q D free2
  generalize hs3 : ({ s2 with heap := s2.heap.push { cls := .type "set", data := .set #[] 0 (SetTable.fresh 0 0 led) } } : Shared) = s3
  have hp3 : s3.heap = s2.heap.push { cls := .type "set", data := .set #[] 0 (SetTable.fresh 0 0 led) } := by rw [← hs3]
  have I3 : Inv X pins σ (upd H2 D (dk.o0 D)) s3 := by
    subst hs3
    subst hD
    exact I2.laid (t' := s2.toks) (fun _ _ z => Heap.get?_push_of_some _ z) (Nat.le_refl _) (eled ▸ dk.new s2.heap I2.big)
  have below : ∀ b ∈ fp, b < s2.heap.objs.size := fun b hb => let ⟨_, z, _⟩ := T.obj _ _ st2 b hb; Heap.lt_size z
  have f3 : ∀ b ∈ fp, FpOk X pins (upd H2 D (dk.o0 D)) b ∧ b < s3.heap.objs.size := fun b hb => by
    have lt := below b hb
    refine ⟨⟨(upd_ne (hD ▸ Nat.ne_of_lt lt)).trans (f2 b hb).1, (f2 b hb).2⟩, ?_⟩
    rw [hp3, Heap.size_push]
    exact Nat.lt_succ_of_lt lt
  have st3 : tn 0 s3.heap := T.keep _ _ _ st2 fun b _ o z => by rw [hp3]; exact Heap.get?_push_of_some _ z
  have I4 := block_start I3 ok hN f3
  show codeAny _ _ (.compStart _ 0 (.ref it) (.ref D) (compEnvC scope (cellsFrom (s3.heap.objs.size + 1) scope.names (cloFrom X.env.cells scope.names [])) s3.heap.objs.size X.env)) (compPost _ X.A X.xe _ _ (.ref D) s3.heap.objs.size)
    { s3 with heap := pushCells (s3.heap.push { cls := .type "dict", data := .dict #[] }) scope.names }
  obtain ⟨ce, hce⟩ : ∃ ce, compEnvC scope (cellsFrom (s3.heap.objs.size + 1) scope.names (cloFrom X.env.cells scope.names [])) s3.heap.objs.size X.env = ce := ⟨_, rfl⟩
  have pg : PG (X.blk s3 (upd H2 D (dk.o0 D)) scope ce fp) tg g := hce ▸ hg ..
  have pt : PTs (X.blk s3 (upd H2 D (dk.o0 D)) scope ce fp) ifs tt := hce ▸ ht ..
  have pk : PE (X.blk s3 (upd H2 D (dk.o0 D)) scope ce fp) kx tk := hce ▸ hk ..
  have cL : ce.locals = s3.heap.objs.size := by rw [← hce]; rfl
  have none3 : ∀ b ∈ fp, upd H2 D (dk.o0 D) b = none := fun b hb => (f3 b hb).1.1
  rw [hce] at I4 ⊢
  obtain ⟨H3, hH3⟩ : ∃ H3, upd H2 D (dk.o0 D) = H3 := ⟨_, rfl⟩
  rw [hH3] at I3 I4 pg pt pk start none3 f3
  generalize hs4 : ({ s3 with heap := pushCells (s3.heap.push { cls := .type "dict", data := .dict #[] }) scope.names } : Shared) = s4 at I4 ⊢
  have st4 : tn 0 s4.heap := T.keep _ _ _ st3 fun b _ o z => by rw [← hs4]; exact pushCells_keeps _ _ _ _ (Heap.get?_push_of_some _ z)
  have stays : ∀ {τ : L2.St} {G : Hp} {t : Shared}, Inv (X.blk s3 H3 scope ce fp) [] τ G t → (∀ b ∈ fp, G b = none) → ∀ b ∈ fp, FpOk (X.blk s3 H3 scope ce fp) [] G b := fun Iτ nn b hb =>
    ⟨nn b hb, (Iτ.ok.exf b hb).1, Iτ.ok.exfs b hb, .inl hb, (Iτ.ok.exf b hb).2, fun p hp => absurd (List.append_nil ([] : List (Addr × Obj)) ▸ hp) (fun z => nomatch z)⟩
  have loop : codeAny (model X.prog X.w) X.A (.compLoop (.SetComp kx [⟨tg, iter, ifs, 0⟩] scope pos) 0 (.ref it) (.ref D) ce) (compPost (model X.prog X.w) X.A X.xe none (EP X pins σ Q) (.ref D) s3.heap.objs.size) s4 := by
    refine compLoop_set_any (fun n t => ∃ i G, Inv (X.blk s3 H3 scope ce fp) [] (wipe σ (own.map (·.2))) G t ∧ tn i t.heap ∧ (∀ b ∈ fp, G b = none) ∧ W i n G) ?_ m0 ⟨0, H3, I4, st4, none3, start⟩
    rintro n s5 ⟨i, G, I5, st5, n5, w5⟩
    rcases turn i n G w5 with ⟨over, fine⟩ | ⟨more, Nx, hNx, step⟩
    · refine thnF (T.done (X.blk s3 H3 scope ce fp) rfl rfl rfl hc i [] s5 _ G (fun _ _ => False) I5 (stays I5 n5) st5 over) fun r s6 ⟨er, I6⟩ => ?_
      subst er
      have back : Inv X pins σ G s6 := I3.call' (ch := fp) I6.os I6.base I6.hok I6.bare fun b hb => let ⟨z1, _⟩ := f3 b hb; ⟨z1.2.2.2.1, z1.2.1, z1.2.2.2.2.1, z1.2.2.2.2.2⟩
      have gone : G s3.heap.objs.size = none := cL ▸ (I6.free : G ce.locals = none)
      obtain ⟨m, names, _⟩ := I6.loc
      have names : s6.heap.Ns s3.heap.objs.size m := cL ▸ (names : s6.heap.Ns ce.locals m)
      refine ⟨m, names, fun h'' sb => ?_⟩
      obtain ⟨g0, g1, g2, g3, g4, g5⟩ := I3.fpOk (Nat.le_refl _) gone
      exact ⟨.ref D, G, back.turned (t' := s6.toks) (fun b o hb e => (sb.2 b hb).trans e) g0 g1 g3 g4 g5, rfl, fine⟩
    · refine thnF (T.item (X.blk s3 H3 scope ce fp) rfl rfl rfl hc i [] s5 _ G (fun _ _ => False) I5 (stays I5 n5) st5 more) fun r s6 ⟨u, er, h6⟩ => ?_
      subst er
      refine thnF h6 fun _ s7 ⟨x, G7, I7, r7, y7, st7, n7⟩ => ?_
      refine thnF (pg.run _ s7 _ G7 x u _ (I7.pinned (stays I7 n7) (T.obj _ _ st7)) r7 (step x G7 y7)) fun _ s8 ⟨σ8, G8, I8, same8, q8⟩ => ?_
      refine thnF (pt.run _ s8 σ8 G8 _ I8 q8) fun b s9 ⟨G9, I9, q9⟩ => ?_
      have next : ∀ {t : Shared} {G' : Hp}, Inv (X.blk s3 H3 scope ce fp) ([] ++ pinsAt fp s7.heap) σ8 G' t → Nx G' → ∃ m, m < n ∧ ∃ i G', Inv (X.blk s3 H3 scope ce fp) [] (wipe σ (own.map (·.2))) G' t ∧ tn i t.heap ∧ (∀ b ∈ fp, G' b = none) ∧ W i m G' := fun {t G'} It nx => by
        obtain ⟨m', less, w'⟩ := hNx G' nx
        have kept : ∀ b ∈ fp, ∀ o, s7.heap.get? b = some o → t.heap.get? b = some o ∧ G' b = none := fun b hb o e => by
          obtain ⟨z1, z2, _⟩ := It.pin (b, o) (List.mem_append_right _ (List.mem_append_right _ (mem_pinsAt hb e)))
          exact ⟨z1, z2⟩
        refine ⟨m', less, i + 1, G', It.unpinned (pins := []) |>.weak (by rw [← same8, wipe_length]) (fun j v e => (wipe_some (same8 ▸ e)).1), T.keep _ _ _ st7 fun b hb o e => (kept b hb o e).1, fun b hb => ?_, w'⟩
        obtain ⟨o, e, _⟩ := T.obj _ _ st7 b hb
        exact (kept b hb o e).2
      cases b with
      | false =>
        rw [if_neg (fun z => nomatch z)] at q9
        exact next I9 q9
      | true =>
        rw [if_pos rfl] at q9
        refine thnF (pk.run _ s9 σ8 G9 _ I9 q9) fun uk s10 ⟨yk, G10, I10, r10, hput⟩ => ?_
        exact dk.add (X := X.blk s3 H3 scope ce fp) rfl rfl rfl hu I10 hput r10 fun H' s12 nx I12 => next I12 nx
  exact codeAny_compStart_set loop (T.self X.A 0 _ _ _ st4 loop)
/-- over a tuple that stays -/
theorem sg_tup {P : Program} {w : World} {K : PySem.W.Frag} {rm : Nat} {dk : SK P w K rm} {a : Addr} {xs : List V} {g : TG} {tt : TT} {tk : TE} {vs : List Nat} {σ : L2.St} {H1 : Hp} {D : Addr} {Qd : Hp → Prop} (Pv : Nat → Hp → Prop) (h0 : Pv 0 (upd H1 D (dk.o0 D))) (hl : ∀ i H, i ≤ xs.length → Pv i H → SqT K H a xs)
    (hs : ∀ i x H, xs[i]? = some x → Pv i H → g x (wipe σ vs) H fun σ2 H2 => wipe σ2 vs = wipe σ vs ∧ tt σ2 H2 fun b H3 => if b = true then tk σ2 H3 fun y H4 => dk.put D y H4 (Pv (i + 1)) else Pv (i + 1) H3)
    (hd : ∀ H, Pv xs.length H → Qd H) :
    ∃ W : Nat → Nat → Hp → Prop, (∃ m, W 0 m (upd H1 D (dk.o0 D))) ∧ ∀ i m H, W i m H → ((Itt K a).stop i H ∧ Qd H) ∨ ((Itt K a).go i H ∧ ∃ Nx : Hp → Prop, (∀ H', Nx H' → ∃ m', m' < m ∧ W (i + 1) m' H') ∧ ∀ x H', (Itt K a).yld i H x H' →
      g x (wipe σ vs) H' fun σ2 H2 => wipe σ2 vs = wipe σ vs ∧ tt σ2 H2 fun b H3 => if b = true then tk σ2 H3 fun y H4 => dk.put D y H4 Nx else Nx H3) := by
  refine ⟨fun i m H => m + i = xs.length ∧ Pv i H, ⟨xs.length, rfl, h0⟩, fun i m H ⟨e, p⟩ => ?_⟩
  have st := hl i H (by omega) p
  rcases Nat.eq_zero_or_pos m with hm | hm
  · have ei : i = xs.length := by omega
    subst ei
    exact .inl ⟨⟨xs, st, Nat.le_refl _⟩, hd H p⟩
  · have lt : i < xs.length := by omega
    refine .inr ⟨⟨xs, xs[i], st, List.getElem?_eq_getElem lt⟩, Pv (i + 1), fun H' p' => ⟨m - 1, by omega, by omega, p'⟩, fun x H' ⟨eH, hx⟩ => ?_⟩
    subst eH
    exact hs i x _ (hx xs st) p
end
/-- a write into a set that stands -/
theorem addN_call {P : Program} {w : World} {A : Around} {E : Value → Shared → Prop} {s : Shared} {a : Addr} {L : List NE} {es : Array (Int × Value)} {ep : Nat} {t : SetTable} (R : SetNR w s.heap a L es ep t) {x : Addr} {k : NestedKey} (hx : NI s.heap k x) (hu : A.units + 9 < cLine) (hfew : L.length + 1 < 64) {Q : Value → Shared → Prop}
    (q : ∀ (h' : Heap) (tk : Nat) (L' : List NE) (es' : Array (Int × Value)) (ep' : Nat) (t' : SetTable), Heap.SameBut a s.heap h' → SetNR w h' a L' es' ep' t' → (k ∈ L.map (·.2) → L' = L) → (k ∉ L.map (·.2) → L'.Perm ((x, k) :: L)) →
      Q .none { heap := h', gens := s.gens, drawn := s.drawn, toks := tk, os := s.os }) :
    wpAny (model P w) A (call (.builtin "set.add") [.ref a, .ref x]) Q E s := by
  obtain ⟨o, ho, hex, hd⟩ := R.ob
  have hu1 : A.in1.units = A.units + 1 := rfl
  refine wpAny_call_entry F.slot_set_add ⟨o, ho, hex.1⟩ F.entry_set_add ?_ (F.args_set_add_2 (.ref a) (.ref x))
  unfold Builtin.«set.add»
  unfold Builtin.Frozenset.oneOther
  dsimp only [List.isEmpty]
  rw [bind_assoc]
  refine wpAny_bind (wpAny_pure (wpAny_bind (wpAny_pure ?_)))
  refine wpAny_bind (wpAny_holding (wpAny_bind ((nestedKind P w).pyHash (k := k) (by show A.in1.units + 8 < cLine; omega) (ni_kind hx) (addN (s := { heap := s.heap, gens := s.gens, drawn := s.drawn, toks := s.toks + (nestedKind P w).draws k, os := s.os }) R hx (by omega) hfew fun b h' L' es' ep' t' sb R' e1 e2 => ?_))))
  exact wpAny_pure ⟨.none, rfl, q h' _ L' es' ep' t' sb R' e1 e2⟩
/-- nested tuples -/
def skN (P : Program) (w : World) (K : PySem.W.Frag) : SK P w K 9 where
  o0 := fun D => SetNO w D []
  put := fun D y H N => ∃ b k L, y = .ref b ∧ H D = some (SetNO w D L) ∧ (∀ p ∈ L, IsKey K H p.1 p.2) ∧ IsKey K H b k ∧ L.length + 1 < 64 ∧ ∀ L' : List NE, (L'.map (·.2)).Nodup → (k ∈ L.map (·.2) → L' = L) → (k ∉ L.map (·.2) → L'.Perm ((b, k) :: L)) → N (upd H D (SetNO w D L'))
  new := fun h hb => setN_ok (setN_fresh (Heap.get?_push_size _ rfl)).t0
  add := by
    intro X pins σ H N s E D y u Q e1 e2 e3 hu I hp ry h
    subst e1 e2 e3
    obtain ⟨b, k, L, ey, hD, hK, hb, hl, eH⟩ := hp
    subst ey
    obtain rfl : u = Value.ref b := ry
    obtain ⟨es, ep, t, R⟩ := (setN_get I.hok hD).full fun p hp => (hK p hp).is I
    refine addN_call R (hb.is I) hu hl fun h' tk L' es' ep' t' sb R' e1 e2 => h _ _ (eH L' R'.nd e1 e2) ?_
    obtain ⟨o, ho, _⟩ := R'.ob
    exact d_write I (by rw [hD]; exact True.intro) sb ⟨o, ho⟩ (setN_ok R'.t0)
end KS
namespace KS
open PySem PySem.Spec PyProof.Rows L2 PySem.Calls NL
/-! sets of texts (or whole numbers) whose order is known up to its turning -/
section
variable {P : Program} {w : World} {K : Type} [DecidableEq K] {knd : KeyKind P w K}
def rowsM (knd : KeyKind P w K) (L : List (K × Value)) : List (Int × Value) := L.map fun r => (knd.hash r.1, r.2)
structure SetMR (knd : KeyKind P w K) (h : Heap) (a : Addr) (L : List (K × Value)) (es : Array (Int × Value)) (ep : Nat) (t : SetTable) : Prop where
  ob : ∃ o, h.get? a = some o ∧ o.ExactSet ∧ o.data = .set es ep t
  rows : es.toList = rowsM knd L
  is : ∀ r ∈ L, knd.is r.1 r.2 = true ∧ r.2.scannable = true
  nd : (L.map (·.1)).Nodup
  fits : t.fits es.size = true
  ris : Ris t.place.toList
  led : w.params.followText "set-order" = true ∨ t.led = true
  few : L.length < 64
section
variable {A : Around} {E : Value → Shared → Prop} {s : Shared} {a : Addr} {L : List (K × Value)} {es : Array (Int × Value)} {ep : Nat} {t : SetTable}
theorem SetMR.size {h : Heap} (R : SetMR knd h a L es ep t) : es.size = L.length := by
  rw [← Array.length_toList, R.rows]
  exact List.length_map ..
theorem SetMR.elems {h : Heap} (R : SetMR knd h a L es ep t) : ElemsOf knd es.toList := fun e he => by
  rw [R.rows] at he
  obtain ⟨r, hr, rfl⟩ := List.mem_map.mp he
  exact ⟨⟨r.1, (R.is r hr).1, rfl⟩, (R.is r hr).2⟩
theorem SetMR.keep {h h' : Heap} (R : SetMR knd h a L es ep t) (ka : ∀ o, h.get? a = some o → h'.get? a = some o) : SetMR knd h' a L es ep t :=
  let ⟨o, ho, r⟩ := R.ob
  ⟨⟨o, ka o ho, r⟩, R.rows, R.is, R.nd, R.fits, R.ris, R.led, R.few⟩
theorem tailM {g : Bool → Sem Unit} (hg : ∀ (b : Bool) (s₁ : Shared) (Q' : Unit → Shared → Prop), Q' () s₁ → wpAny (model P w) A (g b) Q' E s₁) {o : Obj} (ho : s.heap.get? a = some o) (hex : o.ExactSet) (hd : o.data = .set es ep t) {es1 : Array (Int × Value)} {t2 : SetTable} {L1 : List (K × Value)}
    (rows : es1.toList = rowsM knd L1) (is : ∀ r ∈ L1, knd.is r.1 r.2 = true ∧ r.2.scannable = true) (nd : (L1.map (·.1)).Nodup) (fits : t2.fits es1.size = true) (ris : Ris t2.place.toList) (led : w.params.followText "set-order" = true ∨ t2.led = true) (few : L1.length < 64) {wasDummy : Bool} {R : Option Bool → Shared → Prop}
    (q : ∀ (h' : Heap) (L' : List (K × Value)) (es' : Array (Int × Value)) (ep' : Nat) (t' : SetTable), Heap.SameBut a s.heap h' → SetMR knd h' a L' es' ep' t' → L'.Perm L1 → R (some true) { heap := h', gens := s.gens, drawn := s.drawn, toks := s.toks, os := s.os }) :
    wpAny (model P w) A (do
      storeSet a es1 t2
      if (!wasDummy && t2.tooFull) = true then do
          g (relayAll t2 es1 (SetTable.grown es1.size)).2.2
          storeSet a (relayAll t2 es1 (SetTable.grown es1.size)).1 (relayAll t2 es1 (SetTable.grown es1.size)).2.1
          pure (some true)
        else pure (some true)) R E s := by
  have hsz : es1.size = L1.length := by
    rw [← Array.length_toList, rows]
    exact List.length_map ..
  refine wpAny_bind (wpAny_storeSet_of ho hd ?_ (few_line (by omega)))
  obtain ⟨cls, dict, slots⟩ := hex
  have sb := Heap.SameBut.update s.heap a (Obj.putSet es1 t2)
  have hst := store_at (es' := es1) (t' := t2) ho hd
  generalize s.heap.update a (Obj.putSet es1 t2) = h2 at sb hst ⊢
  by_cases hfull : (!wasDummy && t2.tooFull) = true
  · rw [if_pos hfull]
    refine wpAny_bind (hg _ _ _ ?_)
    have e1 := relayAll_perm t2 es1 (SetTable.grown es1.size)
    have e2 := relayAll_fits t2 es1 (SetTable.grown es1.size)
    have e3 := relayAll_ris t2 es1 (SetTable.grown es1.size)
    have e4 := relayAll_led t2 es1 (SetTable.grown es1.size)
    generalize relayAll t2 es1 (SetTable.grown es1.size) = rl at e1 e2 e3 e4 ⊢
    obtain ⟨es3, t3, gv⟩ := rl
    dsimp only at e1 e2 e3 e4 ⊢
    rw [rows] at e1
    obtain ⟨L3, r3, p3⟩ := perm_map (fun r : K × Value => (knd.hash r.1, r.2)) e1 L1 rfl
    have l3 := p3.length_eq
    have sz3 : es3.size = L3.length := by
      rw [← Array.length_toList, r3]
      exact List.length_map ..
    refine wpAny_bind (wpAny_storeSet_of (s := { heap := h2, gens := s.gens, drawn := s.drawn, toks := s.toks, os := s.os }) hst rfl ?_ (few_line (by omega)))
    have sb3 := Heap.SameBut.update h2 a (Obj.putSet es3 t3)
    have hst3 := store_at (es' := es3) (t' := t3) hst rfl
    refine wpAny_pure (q _ L3 es3 _ t3 (sb.trans sb3) ⟨⟨_, hst3, ⟨cls, dict, slots⟩, rfl⟩, r3, fun r hr => is r (p3.mem_iff.mp hr), (p3.map _).nodup_iff.mpr nd, e2, e3, by rw [e4]; exact led, by omega⟩ p3)
  · rw [if_neg hfull]
    exact wpAny_pure (q h2 L1 es1 _ t2 sb ⟨⟨_, hst, ⟨cls, dict, slots⟩, rfl⟩, rows, is, nd, fits, ris, led, few⟩ (.refl _))
theorem addM (R : SetMR knd s.heap a L es ep t) {x : Value} {k : K} (hk : knd.is k x = true) (hs : x.scannable = true) (hfew : L.length + 1 < 64) {Q : Bool → Shared → Prop}
    (hby : ∀ (Q' : Bool → Shared → Prop), (∀ b, Q' b s) → wpAny (model P w) A (hashByValue 8 x) Q' E s)
    (q : ∀ (b : Bool) (h' : Heap) (L' : List (K × Value)) (es' : Array (Int × Value)) (ep' : Nat) (t' : SetTable), Heap.SameBut a s.heap h' → SetMR knd h' a L' es' ep' t' → (k ∈ L.map (·.1) → L' = L) → (k ∉ L.map (·.1) → L'.Perm ((k, x) :: L)) →
      Q b { heap := h', gens := s.gens, drawn := s.drawn, toks := s.toks, os := s.os }) :
    wpAny (model P w) A (setAddHashed a x (knd.hash k)) Q E s := by
  obtain ⟨o, ho, hex, hd⟩ := R.ob
  have hsl := R.size
  show wpAny _ _ (holding [_] (setAddHashedIn a x (knd.hash k) 100000)) _ _ _
  refine wpAny_holding ?_
  rw [show (100000 : Nat) = 99999 + 1 from rfl, setAddHashedIn_succ]
  refine wpAny_bind (wpAny_setState_of ho hd R.fits ?_)
  dsimp only
  have hb : es.size < scanBound := by
    have := R.few
    have : (64 : Nat) ≤ scanBound := by decide
    omega
  rw [if_pos (byScan_of hs hb R.elems)]
  refine wpAny_bind ?_
  unfold setAddByScan
  refine wpAny_bind (wpAny_rule ?_)
  refine wpAny_bind (wpAny_setScan_of hk ho hd R.fits R.elems ?_)
  cases hfi : List.findIdx? (fun e : Int × Value => knd.is k e.2) es.toList with
  | some j =>
    dsimp only
    refine wpAny_pure (wpAny_pure (q false s.heap L es ep t (.refl a s.heap) R (fun _ => rfl) fun z => ?_))
    exfalso
    obtain ⟨hj, e2, _⟩ := List.findIdx?_eq_some_iff_getElem.mp hfi
    have hm : es.toList[j] ∈ rowsM knd L := R.rows ▸ List.getElem_mem hj
    obtain ⟨r, hr, er⟩ := List.mem_map.mp hm
    have e3 : knd.is k r.2 = true := by
      rw [show r.2 = (es.toList[j]).2 from by rw [← er]]
      exact e2
    exact z (List.mem_map.mpr ⟨r, hr, knd.inj _ _ _ (R.is r hr).1 e3⟩)
  | none =>
    dsimp only
    have hno : k ∉ L.map (·.1) := fun z => by
      obtain ⟨r, hr, rfl⟩ := List.mem_map.mp z
      have := List.findIdx?_eq_none_iff.mp hfi (knd.hash r.1, r.2) (by rw [R.rows]; exact List.mem_map.mpr ⟨r, hr, rfl⟩)
      rw [(R.is r hr).1] at this
      cases this
    have e1 := layNew_perm t es (knd.hash k) x
    have e2 := layNew_fits t es (knd.hash k) x
    have e3 := layNew_ris t es (knd.hash k) x R.ris
    have e4 := layNew_led t es (knd.hash k) x
    generalize layNew t es (knd.hash k) x = ln at e1 e2 e3 e4 ⊢
    obtain ⟨es1, t1, wd, gv⟩ := ln
    dsimp only at e1 e2 e3 e4 ⊢
    have e5 : (es.push (knd.hash k, x)).toList = (L ++ [(k, x)]).map fun r => (knd.hash r.1, r.2) := by
      rw [Array.toList_push, R.rows, rowsM, List.map_append]
      rfl
    rw [e5] at e1
    obtain ⟨L1, r1, p1⟩ := perm_map (fun r : K × Value => (knd.hash r.1, r.2)) e1 _ rfl
    have p2 : L1.Perm ((k, x) :: L) := p1.trans (by simpa using List.perm_append_comm (l₁ := L) (l₂ := [(k, x)]))
    have l1 : L1.length = L.length + 1 := by rw [p2.length_eq]; rfl
    have is1 : ∀ r ∈ L1, knd.is r.1 r.2 = true ∧ r.2.scannable = true := fun r hr => by
      rcases List.mem_cons.mp (p2.mem_iff.mp hr) with rfl | hr
      · exact ⟨hk, hs⟩
      · exact R.is r hr
    have nd1 : (L1.map (·.1)).Nodup := by
      rw [(p2.map _).nodup_iff, List.map_cons, List.nodup_cons]
      exact ⟨hno, R.nd⟩
    have main : ∀ (g : Bool → Sem Unit), (∀ (b : Bool) (s₁ : Shared) (Q' : Unit → Shared → Prop), Q' () s₁ → wpAny (model P w) A (g b) Q' E s₁) → ∀ bv : Bool, wpAny (model P w) A (do
        storeSet a es1 (if bv = true then t1 else { mask := t1.mask, place := t1.place, dummies := t1.dummies, finger := t1.finger, led := t1.led, moves := t1.moves, plain := false })
        if (!wd && (if bv = true then t1 else { mask := t1.mask, place := t1.place, dummies := t1.dummies, finger := t1.finger, led := t1.led, moves := t1.moves, plain := false } : SetTable).tooFull) = true then do
            g (relayAll (if bv = true then t1 else { mask := t1.mask, place := t1.place, dummies := t1.dummies, finger := t1.finger, led := t1.led, moves := t1.moves, plain := false }) es1 (SetTable.grown es1.size)).2.2
            storeSet a (relayAll (if bv = true then t1 else { mask := t1.mask, place := t1.place, dummies := t1.dummies, finger := t1.finger, led := t1.led, moves := t1.moves, plain := false }) es1 (SetTable.grown es1.size)).1 (relayAll (if bv = true then t1 else { mask := t1.mask, place := t1.place, dummies := t1.dummies, finger := t1.finger, led := t1.led, moves := t1.moves, plain := false }) es1 (SetTable.grown es1.size)).2.1
            pure (some true)
          else pure (some true)) (fun added s' => wpAny (model P w) A (match added with
            | some added => pure added
            | none => setAddHashedIn a x (knd.hash k) 99999) Q E s') E s := by
      intro g hg bv
      obtain ⟨t2, ht2, h2m, h2p, h2d, h2l⟩ : ∃ t2 : SetTable, (if bv = true then t1 else { mask := t1.mask, place := t1.place, dummies := t1.dummies, finger := t1.finger, led := t1.led, moves := t1.moves, plain := false }) = t2 ∧ t2.mask = t1.mask ∧ t2.place = t1.place ∧ t2.dummies = t1.dummies ∧ t2.led = t1.led := by
        cases bv
        · exact ⟨_, rfl, rfl, rfl, rfl, rfl⟩
        · exact ⟨_, rfl, rfl, rfl, rfl, rfl⟩
      rw [ht2]
      have fits2 : t2.fits es1.size = true := by
        rw [SetTable.fits, SetTable.fill, h2p, h2d, h2m]
        exact e2
      exact tailM hg ho hex hd r1 is1 nd1 fits2 (by rw [h2p]; exact e3) (by rw [h2l, e4]; exact R.led) (by omega) fun h' L' es' ep' t' sb R' p' => wpAny_pure (q true h' L' es' ep' t' sb R' (fun z => absurd z hno) fun _ => p'.trans p2)
    have hgave : ∀ (g : Bool → Sem Unit), (∀ b, g b = if b = true then rule "set.scan.the-table-gave-way" else pure ()) → ∀ (b : Bool) (s₁ : Shared) (Q' : Unit → Shared → Prop), Q' () s₁ → wpAny (model P w) A (g b) Q' E s₁ := fun g hg b s₁ Q' q' => by
      rw [hg b]
      cases b
      · rw [if_neg (by decide)]; exact wpAny_pure q'
      · rw [if_pos rfl]; exact wpAny_rule q'
    refine wpAny_bind (hgave _ (fun b => by cases b <;> rfl) gv s _ ?_)
    by_cases hpl : t1.plain = true
    · rw [if_pos hpl]
      exact wpAny_bind (hby _ fun b => main _ (hgave _ fun b => by cases b <;> rfl) b)
    · rw [if_neg hpl]
      exact wpAny_bind (wpAny_pure (main _ (hgave _ fun b => by cases b <;> rfl) true))
end
end
end KS
namespace KS
open PySem PySem.Spec PyProof.Rows L2 PySem.Calls NL
/-! sets of texts, by hand: the object, sorted(set), set.add -/
def SetMO (P : Program) (w : World) (a : Addr) (zs : List Str) : HO := .ext fun h => ∃ L es ep t, L.map (·.1) = zs ∧ SetMR (strKind P w) h a L es ep t
theorem setM_ok {P : Program} {w : World} {H : Hp} {h : Heap} {a : Addr} {L : List (Str × Value)} {es : Array (Int × Value)} {ep : Nat} {t : SetTable} (R : SetMR (strKind P w) h a L es ep t) : ObjOk P w H h a (SetMO P w a (L.map (·.1))) :=
  ⟨⟨L, es, ep, t, rfl, R⟩, let ⟨o, ho, _⟩ := R.ob; ⟨o, ho⟩, fun h1 h2 z st => by
    obtain ⟨L, es, ep, t, e, R⟩ := z
    exact ⟨L, es, ep, t, e, R.keep fun o ho => st _ ho⟩⟩
theorem setM_get {P : Program} {w : World} {H : Hp} {h : Heap} {a : Addr} {zs : List Str} (hok : HOk P w H h) (e : H a = some (SetMO P w a zs)) : ∃ L es ep t, L.map (·.1) = zs ∧ SetMR (strKind P w) h a L es ep t := by
  obtain ⟨z, _, _⟩ := hok a _ e
  exact z
theorem str_is {P : Program} {w : World} {z : Str} {v : Value} (h : (strKind P w).is z v = true) : ∃ tk, v = .str z tk := by
  cases v <;> first | cases h | (obtain rfl := of_decide_eq_true h; exact ⟨_, rfl⟩) | (obtain rfl := eq_of_beq h; exact ⟨_, rfl⟩)
theorem each_st : ∀ (L : List (Str × Value)), (∀ r ∈ L, ∃ tk, r.2 = .str r.1 tk) → W.EachIs (fun (v : Value) (z : Str) => ∃ tk, v = .str z tk) (L.map fun x => x.2) (L.map fun x => x.1)
  | [], _ => .nil
  | x :: L, f => .cons (f x (List.mem_cons_self ..)) (each_st L fun y hy => f y (List.mem_cons_of_mem _ hy))
theorem vals_st : ∀ {vs : List Value} {zs : List Str}, W.EachIs (fun (v : Value) (z : Str) => ∃ tk, v = .str z tk) vs zs → Vals (zs.map V.str) vs
  | _, _, .nil => .nil
  | _, _, .cons e r => .cons e (vals_st r)
section
variable {X : Cx}
/-- sorted(a set of texts) -/
def rSortSM (X : Cx) : List V → Hp → VK → Prop := fun vs H Q => ∃ (a : Addr) (zs : List Str), vs = [V.ref a] ∧ H a = some (SetMO X.prog X.w a zs) ∧ ∀ (p : Addr) (zs' : List Str), H p = none → zs'.Perm zs → Q (.ref p) (upd H p (.lst ((zs'.mergeSort (W.dataLe false PyData.str)).map V.str)))
theorem strs_alike (zs : List Str) : W.AllAlike (zs.map PyData.str) := fun x hx y hy => by
  obtain ⟨a, _, rfl⟩ := List.mem_map.mp hx
  obtain ⟨b, _, rfl⟩ := List.mem_map.mp hy
  rfl
theorem strs_sortable (zs : List Str) : W.Sortable (zs.map PyData.str) := .inr fun x hx => by
  obtain ⟨a, _, rfl⟩ := List.mem_map.mp hx
  exact ⟨by simp, fun xs => by simp⟩
theorem cr_sortedSM (hc : X.calm = true) (hu : X.A.units + 40 < cLine) : CallR X (.builtin "sorted") (rSortSM X) := by
  intro pins s σ H vs us Q I r h
  obtain ⟨a, zs0, ev, ha, q⟩ := h
  subst ev
  obtain rfl := Vals.ref1 r
  obtain ⟨L0, es, ep, t, ek, R⟩ := setM_get I.hok ha
  obtain ⟨o, ho, hex, hd⟩ := R.ob
  have hfew := R.few
  have hsz := R.size
  have hb : es.size < scanBound := by
    have : (64 : Nat) ≤ scanBound := by decide
    omega
  refine Calls.call_function_entry kind_sorted plain_sorted entry_sorted (args_sorted1 (.ref a)) (id (wpAny_bind (wpAny_pure (wpAny_bind (collect_set (I.ok.hd hc) ⟨o, ho, hex.1, hd⟩ R.fits hb R.ris R.led fun s' out hk _ hg ho' hperm => ?_)))))
  obtain ⟨h', g', d', tk, os'⟩ := s'
  dsimp only at hk hg ho' ⊢
  subst hg ho'
  have e0 : es.toList.map (fun x => x.2) = L0.map fun r => r.2 := by
    rw [R.rows, rowsM, List.map_map]
    rfl
  rw [e0] at hperm
  obtain ⟨L, rfl, pm⟩ := perm_map (fun r : Str × Value => r.2) hperm L0 rfl
  have hL : L.length ≤ sizeLine := few_line (by rw [pm.length_eq]; exact hfew)
  have hst : ∀ r ∈ L, ∃ tk, r.2 = .str r.1 tk := fun r hr => str_is (R.is r (pm.mem_iff.mp hr)).1
  have I1 : Inv X pins σ H { heap := h', gens := s.gens, drawn := d', toks := tk, os := s.os } := inv_drawn (I.kept (t' := tk) hk) d'
  have hn0 : H h'.objs.size = none := I1.hok.fresh (Nat.le_refl _)
  refine wpAny_bind (wpAny_newList ?_ (by rw [List.length_map]; exact hL))
  have hob : (h'.push { cls := .type "list", data := .seq (L.map fun x : Str × Value => x.2).toArray }).get? h'.objs.size = some (seqObj "list" (L.map fun x : Str × Value => x.2).toArray 0) := Heap.get?_push_size _ rfl
  have ka : ∀ b o, h'.get? b = some o → (h'.push { cls := .type "list", data := .seq (L.map fun x : Str × Value => x.2).toArray }).get? b = some o := fun b o e => Heap.get?_push_of_some _ e
  have apart : ∀ b o, h'.get? b = some o → b ≠ h'.objs.size := fun b o e => Nat.ne_of_lt (Heap.lt_size e)
  dsimp only
  generalize h'.push { cls := .type "list", data := .seq (L.map fun x : Str × Value => x.2).toArray } = h2 at hob ka ⊢
  have ks : ∀ b o, h'.get? b = some o → (W.sortingHeap h2 h'.objs.size (L.map fun x : Str × Value => x.2)).get? b = some o := fun b o e => W.sortingHeap_old (apart b o e) (ka b o e)
  have e1 : W.EachIs (fun (v : Value) (z : Str) => ∃ tk, v = .str z tk) (L.map fun x : Str × Value => x.2) (L.map fun x => x.1) := each_st L hst
  have e2 : W.EachIs (fun (v : Value) (z : Str) => ∃ ws, Reads (W.sortingHeap h2 h'.objs.size (L.map fun x : Str × Value => x.2)) v (.str z) ws) (L.map fun x : Str × Value => x.2) (L.map fun x => x.1) := e1.mono fun v z ⟨tk, e⟩ => by
    rw [e]
    exact ⟨_, .str ..⟩
  have hu1 : X.A.in1.units = X.A.units + 1 := rfl
  have hu2 : X.A.in1.in1.units = X.A.in1.units + 1 := rfl
  refine id (wpAny_bind (wpAny_holding (wpAny_call_entry slot_list_sort ⟨_, hob, rfl⟩ entry_list_sort ?_ (args_list_sort _))))
  refine W.list_sort_vals (s := { heap := h2, gens := s.gens, drawn := d', toks := tk, os := s.os }) (κ := W.dataKind (W.sortingHeap h2 h'.objs.size (L.map fun x : Str × Value => x.2)) ((L.map fun x => x.1).map PyData.str)) hob
    (W.SortsAt.data (s := { heap := W.sortingHeap h2 h'.objs.size (L.map fun x : Str × Value => x.2), gens := s.gens, drawn := d', toks := tk, os := s.os }) (W.each_map (R := fun v d => ∃ ws, Reads (W.sortingHeap h2 h'.objs.size (L.map fun x : Str × Value => x.2)) v d ws) PyData.str e2) (strs_alike _) (strs_sortable _) fun d hd => ?_)
    (by rw [List.length_map]; exact hL) ⟨.none, rfl, ?_⟩
  · obtain ⟨x, hx, rfl⟩ := List.mem_map.mp hd
    show _ + (0 : Nat) < _
    omega
  · have eo := W.sortVals_data false e1 e2 (strs_alike _)
    generalize W.sortVals (W.dataKind (W.sortingHeap h2 h'.objs.size (L.map fun x : Str × Value => x.2)) ((L.map fun x => x.1).map PyData.str)) false (L.map fun x : Str × Value => x.2) (L.map fun x : Str × Value => x.2) = out at eo ⊢
    have pz := List.mergeSort_perm (L.map fun x => x.1) (W.dataLe false PyData.str)
    have q' := q h'.objs.size (L.map fun x => x.1) hn0 (by rw [← ek]; exact pm.map _)
    generalize (L.map fun x => x.1).mergeSort (W.dataLe false PyData.str) = zs at pz q' eo ⊢
    obtain ⟨eF, heF⟩ := PyProof.Rows.sortedHeap_at (vs := L.map fun x : Str × Value => x.2) (out := out.toArray) hob
    have kF : ∀ b o, h'.get? b = some o → (sortedHeap h2 h'.objs.size (L.map fun x : Str × Value => x.2) out.toArray).get? b = some o := fun b o e =>
      (PyProof.Rows.sortedHeap_old (apart b o e) (Heap.lt_size (ka b o e))).trans (ka b o e)
    refine wpAny_pure ?_
    refine ⟨.ref h'.objs.size, rfl, .ref h'.objs.size, upd H h'.objs.size (.lst (zs.map V.str)), ?_, rfl, q'⟩
    exact I1.laid (o := .lst (zs.map V.str)) (t' := tk) (fun b o e => kF b o e) (Nat.le_refl _) ⟨by rw [List.length_map, pz.length_eq, List.length_map]; exact hL, _, eF, vals_st eo, heF⟩
end
/-- a write into a set of texts -/
theorem addM_call {P : Program} {w : World} {A : Around} {E : Value → Shared → Prop} {s : Shared} {a : Addr} {L : List (Str × Value)} {es : Array (Int × Value)} {ep : Nat} {t : SetTable} (R : SetMR (strKind P w) s.heap a L es ep t) {z : Str} {tz : Tok} (hfew : L.length + 1 < 64) {Q : Value → Shared → Prop}
    (q : ∀ (h' : Heap) (tk : Nat) (L' : List (Str × Value)) (es' : Array (Int × Value)) (ep' : Nat) (t' : SetTable), Heap.SameBut a s.heap h' → SetMR (strKind P w) h' a L' es' ep' t' → (z ∈ L.map (·.1) → L' = L) → (z ∉ L.map (·.1) → L'.Perm ((z, .str z tz) :: L)) →
      Q .none { heap := h', gens := s.gens, drawn := s.drawn, toks := tk, os := s.os }) :
    wpAny (model P w) A (call (.builtin "set.add") [.ref a, .str z tz]) Q E s := by
  obtain ⟨o, ho, hex, hd⟩ := R.ob
  have hz : (strKind P w).is z (.str z tz) = true := by simp [PySem.strKind, Value.isStrOf]
  refine wpAny_call_entry F.slot_set_add ⟨o, ho, hex.1⟩ F.entry_set_add ?_ (F.args_set_add_2 (.ref a) (.str z tz))
  unfold Builtin.«set.add»
  unfold Builtin.Frozenset.oneOther
  dsimp only [List.isEmpty]
  rw [bind_assoc]
  refine wpAny_bind (wpAny_pure (wpAny_bind (wpAny_pure ?_)))
  refine wpAny_bind (wpAny_holding (wpAny_bind ((strKind P w).pyHash hz (addM (s := { heap := s.heap, gens := s.gens, drawn := s.drawn, toks := s.toks + 1, os := s.os }) R hz rfl hfew (fun Q' q' => wpAny_pure (q' false)) fun b h' L' es' ep' t' sb R' e1 e2 => ?_))))
  exact wpAny_pure ⟨.none, rfl, q h' _ L' es' ep' t' sb R' e1 e2⟩
theorem setM_fresh {P : Program} {w : World} {h : Heap} {a : Addr} (hg : h.get? a = some { cls := .type "set", data := .set #[] 0 (SetTable.fresh 0 0 (!w.params.followText "set-order")) }) : SetMR (strKind P w) h a [] #[] 0 (SetTable.fresh 0 0 (!w.params.followText "set-order")) := by
  have R := setN_fresh (w := w) hg
  exact ⟨R.ob, rfl, fun r hr => absurd hr (by simp), List.nodup_nil, R.fits, R.tab.ris, R.led, by decide⟩
/-- texts -/
def skM (P : Program) (w : World) (K : PySem.W.Frag) : SK P w K 9 where
  o0 := fun D => SetMO P w D []
  put := fun D y H N => ∃ z zs, y = .str z ∧ H D = some (SetMO P w D zs) ∧ zs.length + 1 < 64 ∧ ∀ zs' : List Str, zs'.Nodup → (z ∈ zs → zs' = zs) → (z ∉ zs → zs'.Perm (z :: zs)) → N (upd H D (SetMO P w D zs'))
  new := fun h hb => setM_ok (L := []) (setM_fresh (Heap.get?_push_size _ rfl))
  add := by
    intro X pins σ H N s E D y u Q e1 e2 e3 hu I hp ry h
    subst e1 e2 e3
    obtain ⟨z, zs, ey, hD, hl, eH⟩ := hp
    subst ey
    obtain ⟨tz, rfl⟩ : ∃ tz, u = Value.str z tz := ry
    obtain ⟨L, es, ep, t, ek, R⟩ := setM_get I.hok hD
    subst ek
    rw [List.length_map] at hl
    refine addM_call R hl fun h' tk L' es' ep' t' sb R' e1 e2 => h _ _ (eH (L'.map (·.1)) R'.nd (fun z => by rw [e1 z]) fun z => by simpa using (e2 z).map (·.1)) ?_
    obtain ⟨o, ho, _⟩ := R'.ob
    exact d_write I (by rw [hD]; exact True.intro) sb ⟨o, ho⟩ (setM_ok R')
end KS
namespace KW
open PySem PySem.Spec PyProof.Rows L2 KZ KS KP DC
/-! workers_of, items_of, untold_of, has_room, is_log, check_log, fillings -/
section
variable {α : Type} [DecidableEq α]
def dd : List α → List α
  | [] => []
  | x :: l => if x ∈ l then dd l else x :: dd l
theorem dd_mem : ∀ {l : List α} {z : α}, z ∈ dd l ↔ z ∈ l
  | [], z => Iff.rfl
  | x :: l, z => by
    unfold dd
    by_cases h : x ∈ l
    · rw [if_pos h, dd_mem (l := l), List.mem_cons]
      exact ⟨.inr, fun e => e.elim (fun e => e ▸ h) id⟩
    · rw [if_neg h, List.mem_cons, List.mem_cons, dd_mem (l := l)]
theorem dd_nodup : ∀ l : List α, (dd l).Nodup
  | [] => List.nodup_nil
  | x :: l => by
    unfold dd
    by_cases h : x ∈ l
    · rw [if_pos h]
      exact dd_nodup l
    · rw [if_neg h]
      exact List.nodup_cons.mpr ⟨fun z => h (dd_mem.mp z), dd_nodup l⟩
theorem dd_len {l zs : List α} (n : zs.Nodup) (h : ∀ z, z ∈ zs ↔ z ∈ l) : zs.length = (dd l).length :=
  ((List.perm_ext_iff_of_nodup n (dd_nodup l)).mpr fun z => (h z).trans dd_mem.symm).length_eq
theorem dd_le {l m : List α} (h : ∀ z ∈ l, z ∈ m) : (dd l).length ≤ m.length := by
  have : ∀ {a b : List α}, a.Nodup → (∀ z ∈ a, z ∈ b) → a.length ≤ b.length := by
    intro a
    induction a with
    | nil => intro b _ _; exact Nat.zero_le _
    | cons x a ih =>
      intro b n h
      have hx := h x (List.mem_cons_self ..)
      have nx := (List.nodup_cons.mp n)
      have := ih (b := b.erase x) nx.2 (fun z hz => (List.mem_erase_of_ne (fun e => nx.1 (by rw [← e]; exact hz))).mpr (h z (List.mem_cons_of_mem _ hz)))
      rw [List.length_erase_of_mem hx] at this
      have := List.length_pos_of_mem hx
      rw [List.length_cons]
      omega
  exact this (dd_nodup l) fun z hz => h z (dd_mem.mp hz)
end
def wkOf : Ev → Option Str
  | .fresh w => some w
  | .gap w => some w
  | .clear => none
  | .run w _ _ => some w
def itOf : Ev → Option Th
  | .run _ t _ => some t
  | _ => none
def roomB (page : List Ev) : Bool := decide (page.length ≤ 30) && (decide ((dd (page.filterMap wkOf)).length ≤ 3) && (decide ((dd (page.filterMap itOf)).length ≤ 5) && decide ((page.filter untD).length ≤ 3)))
def logB (gs : List Grp) (page : List Ev) : Bool := roomB page && !(fillsP (hmOf gs) page).isEmpty
abbrev iWork : Nat := 27
abbrev iIts : Nat := 28
abbrev iUnts : Nat := 29
abbrev iRoom : Nat := 25
theorem scWork : FnScope ["events", "event"] ["events"] (defScope (topAt iWork)) := ⟨rfl, rfl, rfl, by decide +kernel, rfl, by decide +kernel, by decide +kernel⟩
theorem scIts : FnScope ["events", "event"] ["events"] (defScope (topAt iIts)) := ⟨rfl, rfl, rfl, by decide +kernel, rfl, by decide +kernel, by decide +kernel⟩
theorem scUnts : FnScope ["events", "event"] ["events"] (defScope (topAt iUnts)) := ⟨rfl, rfl, rfl, by decide +kernel, rfl, by decide +kernel, by decide +kernel⟩
theorem scRoom : FnScope ["events"] ["events"] (defScope (topAt iRoom)) := ⟨rfl, rfl, rfl, by decide +kernel, rfl, by decide +kernel, by decide +kernel⟩
theorem hu40 {k : Nat} {A : Around} (hr : Room k A) : A.units + 40 < cLine := by have := hr.un; omega
theorem hu9' {k : Nat} {A : Around} (hr : Room k A) : A.units + 9 < cLine := by have := hr.un; omega
theorem take1 {α : Type} {l : List α} {k : Nat} {x : α} (h : l[k]? = some x) : l.take (k + 1) = l.take k ++ [x] := by rw [List.take_succ, h]; rfl
theorem fm_snoc {α β : Type} (f : α → Option β) (l : List α) (x : α) : (l ++ [x]).filterMap f = l.filterMap f ++ (f x).toList := by
  rw [List.filterMap_append]
  cases h : f x <;> simp [h]
def spWork (K : PySem.W.Frag) : Sp := fun vs H Q _ => ∃ (v0 : V) (page : List Ev), vs = [v0] ∧ Dp K H v0 (.tuple (page.map evD)) ∧ page.length ≤ 40 ∧
  ∀ (p : Addr) (zs : List Str) H', Sm H H' → zs.Nodup → (∀ z, z ∈ zs ↔ z ∈ page.filterMap wkOf) → H' p = some (.tup (zs.map V.str)) → Q (.ref p) H'
section
variable {P : Program} {w : World} {K : PySem.W.Frag} {mg : Str → Option Value} {base : Heap} {CS : Addr}
theorem ok_work {f : Addr} {fd : FuncData} (F : Fd K iWork "workers_of" f fd) (gt : mg "tuple" = none) (gs : mg "sorted" = none) : FnOk P w K mg base CX0 1 f fd ["events"] (spWork K) := by
  refine F.ok scWork (fun vs H Q E h => ?_) (fun cdv A outer s H vs Q E hr h => ?_)
  · obtain ⟨v0, page, rfl, _⟩ := h
    rfl
  · obtain ⟨v0, page, rfl, d0, hn, q⟩ := h
    have hu := hr.un
    refine ⟨_, pss_one (ps_ret (pe_callTy call_tuple_of (by rfl) gt (by decide +kernel) (pa_cons (pe_callB (cr_sortedSM rfl (hu40 hr)) (by rfl) gs PyProof.Rows.boot_sorted (pa_cons
      (pe_sg (X := cxOf CX0 P w K mg base ["events", "event"] "workers_of" (defScope (topAt iWork)) f cdv A outer s H E) (skM P w K) (own := [("event", 1)]) (g := gName 1) (tt := tWT P w K (testF (opF (opF (vF 1) (cF (sc (.int 0))) oIx) (cF (sc (.str "clear"))) (oEq true)))) (tk := tW P w K (opF (vF 1) (cF (sc (.int 1))) oIx)) (hu9' hr) rfl scWork.nd (pi_tup (pv 0)) (blkOk_by (N := ["events", "event"]) (sc := defScope (topAt iWork)) (by decide +kernel)) (fun _ _ _ _ _ => pg_name (i := 1) scWork.nd rfl (Or.inl rfl))
        (fun s H C cl fp => wts_one (wt_cmp (X := Cx.blk _ s H _ _ fp) (NL.op_neP (hu30 hr)) (m_eq true) (we_ix ix_seq m_ix (we_v (pv 1)) (we_c pe_int) (fun _ _ => rfl)) (we_c pe_str) (nomark _)))
        (fun s H C cl fp => we_ix (X := Cx.blk _ s H _ _ fp) ix_seq m_ix (we_v (pv 1)) (we_c pe_int) (fun _ _ => rfl))) pa_nil)) pa_nil))), ?_⟩
    obtain ⟨a1, us, rfl, sq1, du⟩ : ∃ a1 us, v0 = .ref a1 ∧ SqT K H a1 us ∧ DpAll K H us (page.map evD) := by
      cases d0 with
      | tup hs t => exact ⟨_, _, rfl, hs, t⟩
    have lus : us.length = page.length := by rw [dpa_len du, List.length_map]
    refine ⟨_, rfl, a1, rfl, ⟨us, sq1⟩, fun D nD => sg_tup (a := a1) (xs := us)
      (fun i H' => ∃ zs, H' D = some (SetMO P w D zs) ∧ Sm H H' ∧ zs.Nodup ∧ (∀ z, z ∈ zs ↔ z ∈ (page.take i).filterMap wkOf) ∧ zs.length ≤ i)
      ⟨[], upd_same, upd_sm nD, List.nodup_nil, fun z => by simp, Nat.le_refl _⟩ (fun i H' _ ⟨_, _, s, _⟩ => sqt_sm s sq1) ?_ ?_⟩
    · rintro i x H1 hx ⟨zs, hD, s1, nd, hm, hl⟩
      have hi : i < us.length := (List.getElem?_eq_some_iff.mp hx).1
      obtain ⟨e, he⟩ : ∃ e, page[i]? = some e := ⟨_, List.getElem?_eq_getElem (by omega)⟩
      obtain ⟨x', hx', dx0⟩ := dpa_at du i (evD e) (by rw [List.getElem?_map, he]; rfl)
      obtain rfl := Option.some.inj (hx'.symm.trans hx)
      rw [take1 he, fm_snoc]
      refine ⟨rfl, ?_⟩
      have s1' := s1
      have ht : testF (opF (opF (vF 1) (cF (sc (.int 0))) oIx) (cF (sc (.str "clear"))) (oEq true)) [none, some (.d (evD e))] = some (wkOf e).isSome := by cases e <;> rfl
      refine ⟨[none, some (.d (evD e))], _, er_no (er_yes (.d (dp_sm s1 dx0)) er_nil), ht, fun H2 s2 => ?_⟩
      cases hw : wkOf e with
      | none => exact ite_no ⟨zs, s2 _ _ hD, s1.trans s2, nd, fun z => by simpa using hm z, by omega⟩
      | some z =>
        have hk : opF (vF 1) (cF (sc (.int 1))) oIx [none, some (.d (evD e))] = some (.d (.str z)) := by cases e <;> cases hw <;> rfl
        refine ite_yes ⟨[none, some (.d (evD e))], _, er_no (er_yes (.d (dp_sm (s1.trans s2) dx0)) er_nil), hk, fun v H3 s3 rv => ?_⟩
        obtain rfl : v = .str z := by
          cases rw_d rv
          rfl
        refine ⟨z, zs, rfl, s3 _ _ (s2 _ _ hD), by omega, fun zs' nd' h1 h2 => ⟨zs', upd_same, sm_put (s1.trans (s2.trans s3)) nD, nd', fun y => ?_, ?_⟩⟩
        · by_cases hz : z ∈ zs
          · rw [h1 hz]
            simp only [Option.toList, List.mem_append, List.mem_singleton]
            exact ⟨fun e => .inl ((hm y).mp e), fun e => e.elim (hm y).mpr fun e => e ▸ hz⟩
          · rw [(h2 hz).mem_iff, List.mem_cons]
            simp only [Option.toList, List.mem_append, List.mem_singleton]
            exact ⟨fun e => e.elim .inr fun e => .inl ((hm y).mp e), fun e => e.elim (fun e => .inr ((hm y).mpr e)) .inl⟩
        · by_cases hz : z ∈ zs
          · rw [h1 hz]
            omega
          · rw [(h2 hz).length_eq, List.length_cons]
            omega
    · rintro H1 ⟨zs, hD, s1, nd, hm, hl⟩
      rw [lus, List.take_length] at hm
      refine ⟨D, zs, rfl, hD, fun p zs' np pm => ?_⟩
      have pz := (List.mergeSort_perm zs' (W.dataLe false PyData.str)).trans pm
      refine ⟨p, _, rfl, .inl ⟨SqL.of upd_same, fun l nl => q l (zs'.mergeSort (W.dataLe false PyData.str)) _ (s1.trans ((upd_sm np).trans (upd_sm nl))) (pz.nodup_iff.mpr nd) (fun z => pz.mem_iff.trans (hm z)) upd_same⟩⟩
/-! items_of -/
def keyTh : NestedKey → Th
  | .tup [.text c, .num n] => (c, n)
  | _ => ("", 0)
theorem keyTh_of (t : Th) : keyTh (thKey t) = t := rfl
def spIts (K : PySem.W.Frag) : Sp := fun vs H Q _ => ∃ (v0 : V) (page : List Ev), vs = [v0] ∧ Dp K H v0 (.tuple (page.map evD)) ∧ page.length ≤ 40 ∧
  ∀ (p : Addr) (us : List V) (ts : List Th) H', Sm H H' → ts.Nodup → (∀ t, t ∈ ts ↔ t ∈ page.filterMap itOf) → H' p = some (.tup us) → DpAll K H' us (ts.map thD) → Q (.ref p) H'
theorem thD_ref {H : Hp} {v : V} {t : Th} (h : Dp K H v (thD t)) : ∃ b, v = .ref b := by
  cases h with
  | tup h _ => exact ⟨_, rfl⟩
theorem thKey_dp {K : PySem.W.Frag} {R : Hp} {a : Addr} {t : Th} (h : Dp K R (.ref a) (thD t)) : NL.IsKey K R a (thKey t) := ⟨_, h, thKey_nk t, by simp [thKey, NestedKey.depth, NestedKey.depthAll]⟩
structure InvIt (K : PySem.W.Frag) (H : Hp) (L : List NE) (ts : List Th) (n : Nat) : Prop where
  nd : (L.map (·.2)).Nodup
  it : ∀ p ∈ L, p.2 = thKey (keyTh p.2) ∧ keyTh p.2 ∈ ts ∧ Dp K H (.ref p.1) (thD (keyTh p.2))
  all : ∀ t ∈ ts, thKey t ∈ L.map (·.2)
  le : L.length ≤ n
theorem InvIt.sm {H H' : Hp} {L : List NE} {ts : List Th} {n : Nat} (s : Sm H H') (h : InvIt K H L ts n) : InvIt K H' L ts n := ⟨h.nd, fun p hp => let ⟨a, b, c⟩ := h.it p hp; ⟨a, b, dp_sm s c⟩, h.all, h.le⟩
theorem dpa_its {H : Hp} : ∀ {L : List NE}, (∀ p ∈ L, Dp K H (.ref p.1) (thD (keyTh p.2))) → DpAll K H (L.map fun x => V.ref x.1) ((L.map fun x => keyTh x.2).map thD)
  | [], _ => .nil
  | p :: L, h => .cons (h p (List.mem_cons_self ..)) (dpa_its fun q hq => h q (List.mem_cons_of_mem _ hq))
theorem ok_its {f : Addr} {fd : FuncData} (F : Fd K iIts "items_of" f fd) (gt : mg "tuple" = none) (gs : mg "sorted" = none) : FnOk P w K mg base CX0 1 f fd ["events"] (spIts K) := by
  refine F.ok scIts (fun vs H Q E h => ?_) (fun cdv A outer s H vs Q E hr h => ?_)
  · obtain ⟨v0, page, rfl, _⟩ := h
    rfl
  · obtain ⟨v0, page, rfl, d0, hn, q⟩ := h
    refine ⟨_, pss_one (ps_ret (pe_callTy call_tuple_of (by rfl) gt (by decide +kernel) (pa_cons (pe_callB (cr_sortedSN rfl (hu40 hr)) (by rfl) gs PyProof.Rows.boot_sorted (pa_cons
      (pe_sg (X := cxOf CX0 P w K mg base ["events", "event"] "items_of" (defScope (topAt iIts)) f cdv A outer s H E) (skN P w K) (own := [("event", 1)]) (g := gName 1) (tt := tWT P w K (testF (opF (opF (vF 1) (cF (sc (.int 0))) oIx) (cF (sc (.str "run"))) (oEq false)))) (tk := tW P w K (opF (vF 1) (cF (sc (.int 2))) oIx)) (hu9' hr) rfl scIts.nd (pi_tup (pv 0)) (blkOk_by (N := ["events", "event"]) (sc := defScope (topAt iIts)) (by decide +kernel)) (fun _ _ _ _ _ => pg_name (i := 1) scIts.nd rfl (Or.inl rfl))
        (fun s H C cl fp => wts_one (wt_cmp (X := Cx.blk _ s H _ _ fp) (NL.op_eqP (hu30 hr)) (m_eq false) (we_ix ix_seq m_ix (we_v (pv 1)) (we_c pe_int) (fun _ _ => rfl)) (we_c pe_str) (nomark _)))
        (fun s H C cl fp => we_ix (X := Cx.blk _ s H _ _ fp) ix_seq m_ix (we_v (pv 1)) (we_c pe_int) (fun _ _ => rfl))) pa_nil)) pa_nil))), ?_⟩
    obtain ⟨a1, us, rfl, sq1, du⟩ : ∃ a1 us, v0 = .ref a1 ∧ SqT K H a1 us ∧ DpAll K H us (page.map evD) := by
      cases d0 with
      | tup hs t => exact ⟨_, _, rfl, hs, t⟩
    have lus : us.length = page.length := by rw [dpa_len du, List.length_map]
    refine ⟨_, rfl, a1, rfl, ⟨us, sq1⟩, fun D nD => sg_tup (a := a1) (xs := us)
      (fun i H' => ∃ L, H' D = some (SetNO w D L) ∧ Sm H H' ∧ InvIt K H' L ((page.take i).filterMap itOf) i)
      ⟨[], upd_same, upd_sm nD, List.nodup_nil, fun p hp => absurd hp (by simp), fun t ht => absurd ht (by simp), Nat.le_refl _⟩ (fun i H' _ ⟨_, _, s, _⟩ => sqt_sm s sq1) ?_ ?_⟩
    · rintro i x H1 hx ⟨L, hD, s1, I⟩
      have hi : i < us.length := (List.getElem?_eq_some_iff.mp hx).1
      obtain ⟨e, he⟩ : ∃ e, page[i]? = some e := ⟨_, List.getElem?_eq_getElem (by omega)⟩
      obtain ⟨x', hx', dx0⟩ := dpa_at du i (evD e) (by rw [List.getElem?_map, he]; rfl)
      obtain rfl := Option.some.inj (hx'.symm.trans hx)
      rw [take1 he, fm_snoc]
      refine ⟨rfl, ?_⟩
      have ht : testF (opF (opF (vF 1) (cF (sc (.int 0))) oIx) (cF (sc (.str "run"))) (oEq false)) [none, some (.d (evD e))] = some (itOf e).isSome := by cases e <;> rfl
      refine ⟨[none, some (.d (evD e))], _, er_no (er_yes (.d (dp_sm s1 dx0)) er_nil), ht, fun H2 s2 => ?_⟩
      have I2 := I.sm s2
      cases hw : itOf e with
      | none => exact ite_no ⟨L, s2 _ _ hD, s1.trans s2, I2.nd, fun p hp => by simpa using I2.it p hp, fun t ht => I2.all t (by simpa using ht), Nat.le_succ_of_le I2.le⟩
      | some t =>
        have hk : opF (vF 1) (cF (sc (.int 2))) oIx [none, some (.d (evD e))] = some (.d (thD t)) := by cases e <;> cases hw <;> rfl
        refine ite_yes ⟨[none, some (.d (evD e))], _, er_no (er_yes (.d (dp_sm (s1.trans s2) dx0)) er_nil), hk, fun v H3 s3 rv => ?_⟩
        have I3 := I2.sm s3
        have dv := rw_d rv
        obtain ⟨b, rfl⟩ := thD_ref dv
        have hle := I.le
        have hD3 := s3 _ _ (s2 _ _ hD)
        refine ⟨b, thKey t, L, rfl, hD3, fun p hp => ?_, thKey_dp dv, by omega, fun L' nd' h1 h2 => ?_⟩
        · obtain ⟨k1, k2, k3⟩ := I3.it p hp
          rw [k1]
          exact thKey_dp k3
        have du4 : ∀ {v : V} {t : Th}, Dp K H3 v (thD t) → Dp K (upd H3 D (SetNO w D L')) v (thD t) := fun {v t} h => by
          have h2 := dp_le (S := [D]) (fun b hb => by rw [List.mem_singleton.mp hb]; exact .inr ⟨_, hD3⟩) (show noL (thD t) = true from rfl) h
          rw [← dls_put (x := D) (o := SetNO w D L') (by simp)] at h2
          exact dp_sm (dls_sm _ _) h2
        refine ⟨L', upd_same, sm_put (s1.trans (s2.trans s3)) nD, nd', fun p hp => ?_, fun y hy => ?_, ?_⟩
        · by_cases hz : thKey t ∈ L.map (·.2)
          · rw [h1 hz] at hp
            obtain ⟨k1, k2, k3⟩ := I3.it p hp
            exact ⟨k1, List.mem_append_left _ k2, du4 k3⟩
          · rcases List.mem_cons.mp ((h2 hz).mem_iff.mp hp) with rfl | hp
            · exact ⟨rfl, List.mem_append_right _ (by simp [keyTh_of]), du4 dv⟩
            · obtain ⟨k1, k2, k3⟩ := I3.it p hp
              exact ⟨k1, List.mem_append_left _ k2, du4 k3⟩
        · by_cases hz : thKey t ∈ L.map (·.2)
          · rw [h1 hz]
            rcases List.mem_append.mp hy with hy | hy
            · exact I3.all y hy
            · simp at hy
              rw [hy]
              exact hz
          · rw [((h2 hz).map (·.2)).mem_iff, List.map_cons, List.mem_cons]
            rcases List.mem_append.mp hy with hy | hy
            · exact .inr (I3.all y hy)
            · simp at hy
              rw [hy]
              exact .inl rfl
        · by_cases hz : thKey t ∈ L.map (·.2)
          · rw [h1 hz]
            omega
          · rw [(h2 hz).length_eq, List.length_cons]
            omega
    · rintro H1 ⟨L, hD, s1, I⟩
      rw [lus, List.take_length] at I
      refine ⟨D, L, fun x => thD (keyTh x.2), rfl, hD, fun p hp => ?_, fun p hp => ⟨(I.it p hp).2.2, by simp [thD, PyData.depth, PyData.depthAll]⟩, ?_, ?_, fun p L' np pm => ?_⟩
      · obtain ⟨k1, k2, k3⟩ := I.it p hp
        rw [k1]
        exact thKey_dp k3
      · intro x hx y hy
        obtain ⟨a, _, rfl⟩ := List.mem_map.mp hx
        obtain ⟨b, _, rfl⟩ := List.mem_map.mp hy
        exact thD_alike _ _
      · refine .inl fun d hd => ?_
        obtain ⟨a, _, rfl⟩ := List.mem_map.mp hd
        exact ⟨_, _, rfl⟩
      · have pz := (List.mergeSort_perm L' (W.dataLe false fun x : NE => thD (keyTh x.2))).trans pm
        generalize L'.mergeSort (W.dataLe false fun x : NE => thD (keyTh x.2)) = Z at pz ⊢
        have zk : ∀ x ∈ Z, x.2 = thKey (keyTh x.2) := fun x hx => (I.it x (pz.mem_iff.mp hx)).1
        refine ⟨p, _, rfl, .inl ⟨SqL.of upd_same, fun l nl => q l _ (Z.map fun x => keyTh x.2) _ (s1.trans ((upd_sm np).trans (upd_sm nl))) ?_ (fun t => ?_) upd_same (dpa_its fun x hx => dp_sm ((upd_sm np).trans (upd_sm nl)) (I.it x (pz.mem_iff.mp hx)).2.2)⟩⟩
        · have n1 := ((pz.map (·.2)).nodup_iff.mpr I.nd)
          refine List.pairwise_map.mpr ((List.pairwise_map.mp n1).imp_of_mem fun {a b} ha hb ne e => ne ?_)
          rw [zk a ha, zk b hb, e]
        · constructor
          · intro ht
            obtain ⟨x, hx, rfl⟩ := List.mem_map.mp ht
            exact (I.it x (pz.mem_iff.mp hx)).2.1
          · intro ht
            obtain ⟨x, hx, e⟩ := List.mem_map.mp (I.all t ht)
            exact List.mem_map.mpr ⟨x, pz.mem_iff.mpr hx, by rw [e]; rfl⟩
/-! untold_of, has_room -/
def spUnts (K : PySem.W.Frag) : Sp := fun vs H Q _ => ∃ (v0 : V) (page : List Ev), vs = [v0] ∧ Dp K H v0 (.tuple (page.map evD)) ∧ page.length ≤ 1000 ∧ ∀ H', Sm H H' → Q (.int (page.filter untD).length) H'
def unB (d : PyData) : Bool := match evOf d with
  | some e => untD e
  | none => false
theorem ok_unts {f : Addr} {fd : FuncData} (F : Fd K iUnts "untold_of" f fd) (hunt : Pu P w K mg base 1 "_is_untold" 1 semUnt) (gl : mg "len" = none) : FnOk P w K mg base CX0 2 f fd ["events"] (spUnts K) := by
  refine F.ok scUnts (fun vs H Q E h => ?_) (fun cdv A outer s H vs Q E hr h => ?_)
  · obtain ⟨v0, page, rfl, _⟩ := h
    rfl
  · obtain ⟨v0, page, rfl, d0, hn, q⟩ := h
    refine ⟨_, pss_one (ps_ret (we_blt call_len m_len (by rfl) gl PySem.boot_len (wa_cons (we_lcT mkD_ok (own := [("event", 1)]) (t := .one 1) rfl scUnts.nd (we_v (pv 0)) (blkOk_by (N := ["events", "event"]) (sc := defScope (topAt iUnts)) (by decide +kernel)) (fun _ _ _ _ _ => pg_name (i := 1) scUnts.nd rfl (Or.inl rfl))
      (fun s H C cl fp => wts_one (wt_val (we_call (X := Cx.blk _ s H _ _ fp) hunt hr (by decide) (by rfl) (wa_cons (we_v (pv 1)) wa_nil)))) (fun s H C cl fp => we_v (X := Cx.blk _ s H _ _ fp) (pv 1))) wa_nil))), ?_⟩
    refine ⟨[some (.d (.tuple (page.map evD))), none], .d (.int (page.filter untD).length), er_yes (.d d0) (er_no er_nil), ?_, fun v H' s' r => ?_⟩
    · refine blt_e (cons_e (lcF_filter (p := unB) (h := id) (ds := page.map evD) (x := .d (.tuple (page.map evD))) rfl rfl (by rw [List.length_map]; exact hn) fun d hd => ?_) rfl) ?_
      · obtain ⟨e, _, rfl⟩ := List.mem_map.mp hd
        refine ⟨_, rfl, ?_, noL_ev e, rfl⟩
        unfold unB
        rw [evOf_D]
        show testF (callF 1 semUnt (consF (vF 1) nilF)) [some (.d (.tuple (page.map evD))), some (.d (evD e))] = _
        refine test_e (b := untD e) ?_
        show (evOf (evD e)).map (fun e => bF (untD e)) = _
        rw [evOf_D]
        rfl
      · rw [List.map_id, List.filter_map]
        have : (unB ∘ evD) = untD := by
          funext e
          show unB (evD e) = _
          unfold unB
          rw [evOf_D]
        rw [this]
        show some (Wv.d (.int (((page.filter untD).map evD).length : Int))) = _
        rw [List.length_map]
    · have : v = .int (page.filter untD).length := by
        cases rw_d r
        rfl
      rw [this]
      exact q H' s'
def spRoom (K : PySem.W.Frag) : Sp := fun vs H Q _ => ∃ (v0 : V) (page : List Ev), vs = [v0] ∧ Dp K H v0 (.tuple (page.map evD)) ∧ page.length ≤ 1000 ∧ ∀ H', Sm H H' → Q (.bl (roomB page)) H'
theorem ok_room {f fW fI fU : Addr} {fd fdW fdI fdU : FuncData} {t0 t1 t2 t3 : Tok} (F : Fd K iRoom "has_room" f fd)
    (GW : FnOk P w K mg base CX0 1 fW fdW ["events"] (spWork K)) (bW : Binds K fdW ["events"] []) (kW : PySem.W.keepIn K (.ref fW) = true) (gW : mg "workers_of" = some (.ref fW))
    (GI : FnOk P w K mg base CX0 1 fI fdI ["events"] (spIts K)) (bI : Binds K fdI ["events"] []) (kI : PySem.W.keepIn K (.ref fI) = true) (gI : mg "items_of" = some (.ref fI))
    (GU : FnOk P w K mg base CX0 2 fU fdU ["events"] (spUnts K)) (bU : Binds K fdU ["events"] []) (kU : PySem.W.keepIn K (.ref fU) = true) (gU : mg "untold_of" = some (.ref fU))
    (gl : mg "len" = none) (g30 : mg "MOST_EVENTS" = some (.int 30 t0)) (g3 : mg "MOST_WORKERS" = some (.int 3 t1)) (g5 : mg "MOST_ITEMS" = some (.int 5 t2)) (gu3 : mg "MOST_UNTOLD" = some (.int 3 t3)) :
    FnOk P w K mg base CX0 3 f fd ["events"] (spRoom K) := by
  refine F.ok scRoom (fun vs H Q E h => ?_) (fun cdv A outer s H vs Q E hr h => ?_)
  · obtain ⟨v0, page, rfl, _⟩ := h
    rfl
  · obtain ⟨v0, page, rfl, d0, hn, q⟩ := h
    have hr1 := hr.mono (show 1 ≤ 2 by decide)
    refine ⟨_, pss_cons (ps_if (PW.pt (pw_or (pt_cmpR op_gt (pe_callB call_len_seq (by rfl) gl PySem.boot_len (pa_cons (pv 0) pa_nil)) (pe_glob (v := .int 30) rfl g30 ⟨_, rfl⟩) (nomark _))
        (pw_or1 (pt_cmpR op_gt (pe_callB call_len_seq (by rfl) gl PySem.boot_len (pa_cons (pe_call GW hr1 rfl gW kW bW .nil pass0 (pa_cons (pv 0) pa_nil)) pa_nil)) (pe_glob (v := .int 3) rfl g3 ⟨_, rfl⟩) (nomark _)))))
        (pss_one (ps_ret pe_bl)) pss_nil)
      (pss_one (ps_ret (pe_and (pe_cmpR op_le (pe_callB call_len_seq (by rfl) gl PySem.boot_len (pa_cons (pe_call GI hr1 rfl gI kI bI .nil pass0 (pa_cons (pv 0) pa_nil)) pa_nil)) (pe_glob (v := .int 5) rfl g5 ⟨_, rfl⟩) (nomark _))
        (pe_one (pe_cmpR op_le (pe_call GU hr rfl gU kU bU .nil pass0 (pa_cons (pv 0) pa_nil)) (pe_glob (v := .int 3) rfl gu3 ⟨_, rfl⟩) (nomark _)))))), ?_⟩
    obtain ⟨a1, us, rfl, sq1, du⟩ : ∃ a1 us, v0 = .ref a1 ∧ SqT K H a1 us ∧ DpAll K H us (page.map evD) := by
      cases d0 with
      | tup hs t => exact ⟨_, _, rfl, hs, t⟩
    have lus : us.length = page.length := by rw [dpa_len du, List.length_map]
    have lt_dec : ∀ {n : Nat} {m : Nat}, decide ((m : Int) < (n : Int)) = !decide (n ≤ m) := fun {n m} => by
      by_cases h : n ≤ m
      · rw [decide_eq_true h, decide_eq_false (by omega)]
        rfl
      · rw [decide_eq_false h, decide_eq_true (by omega)]
        rfl
    have le_dec : ∀ {n : Nat} {m : Nat}, decide ((n : Int) ≤ (m : Int)) = decide (n ≤ m) := fun {n m} => decide_eq_decide.mpr (by omega)
    have rb : roomB page = (decide (page.length ≤ 30) && (decide ((dd (page.filterMap wkOf)).length ≤ 3) && (decide ((dd (page.filterMap itOf)).length ≤ 5) && decide ((page.filter untD).length ≤ 3)))) := rfl
    refine ⟨_, rfl, a1, us, rfl, .inr sq1, _, _, rfl, rfl, _, rfl, ?_⟩
    rw [lus, show decide ((30 : Int) < (page.length : Int)) = !decide (page.length ≤ 30) from lt_dec (m := 30)]
    by_cases h30 : page.length ≤ 30
    · rw [decide_eq_true h30] at rb ⊢
      refine ite_no ?_
      refine ⟨_, rfl, _, page, rfl, d0, by omega, fun p zs H1 s1 nd hm hp => ?_⟩
      refine ⟨p, _, rfl, .inr (SqT.of hp), _, _, rfl, rfl, _, rfl, ?_⟩
      rw [List.length_map, dd_len nd hm, show decide ((3 : Int) < ((dd (page.filterMap wkOf)).length : Int)) = !decide ((dd (page.filterMap wkOf)).length ≤ 3) from lt_dec (m := 3)]
      by_cases h3 : (dd (page.filterMap wkOf)).length ≤ 3
      · rw [decide_eq_true h3] at rb ⊢
        refine ite_no ?_
        refine ⟨_, rfl, _, page, rfl, dp_sm s1 d0, by omega, fun p2 us2 ts H2 s2 nd2 hm2 hp2 dus => ?_⟩
        have lu2 : us2.length = (dd (page.filterMap itOf)).length := by rw [dpa_len dus, List.length_map, dd_len nd2 hm2]
        refine ⟨p2, _, rfl, .inr (SqT.of hp2), _, _, rfl, rfl, _, rfl, ?_⟩
        rw [lu2, show decide (((dd (page.filterMap itOf)).length : Int) ≤ (5 : Int)) = decide ((dd (page.filterMap itOf)).length ≤ 5) from le_dec (m := 5)]
        by_cases h5 : (dd (page.filterMap itOf)).length ≤ 5
        · rw [decide_eq_true h5] at rb ⊢
          refine ite_yes ?_
          refine ⟨_, rfl, _, page, rfl, dp_sm (s1.trans s2) d0, hn, fun H3 s3 => ?_⟩
          refine ⟨_, _, rfl, rfl, ?_⟩
          show Q (.bl (decide (((page.filter untD).length : Int) ≤ (3 : Int)))) H3
          rw [show decide (((page.filter untD).length : Int) ≤ (3 : Int)) = decide ((page.filter untD).length ≤ 3) from le_dec (m := 3)]
          rw [show decide ((page.filter untD).length ≤ 3) = roomB page from rb.symm]
          exact q H3 ((s1.trans s2).trans s3)
        · rw [decide_eq_false h5] at rb ⊢
          refine ite_no ?_
          have rb : roomB page = false := rb
          rw [← rb]
          exact q H2 (s1.trans s2)
      · rw [decide_eq_false h3] at rb ⊢
        refine ite_yes ?_
        have rb : roomB page = false := rb
        show Q (.bl false) H1
        rw [← rb]
        exact q H1 s1
    · rw [decide_eq_false h30] at rb ⊢
      refine ite_yes ?_
      have rb : roomB page = false := rb
      show Q (.bl false) H
      rw [← rb]
      exact q H (Sm.rfl' H)
end
end KW
namespace KW
open PySem PySem.Spec PyProof.Rows L2 KZ KS KP DC
/-! is_log, check_log -/
abbrev iLog : Nat := 21
abbrev iCheckLog : Nat := 23
theorem scLog : FnScope ["shop", "value", "event"] ["shop", "value"] (defScope (topAt iLog)) := ⟨rfl, rfl, rfl, by decide +kernel, rfl, by decide +kernel, by decide +kernel⟩
theorem scCheckLog : FnScope ["shop", "log"] ["shop", "log"] (defScope (topAt iCheckLog)) := ⟨rfl, rfl, rfl, by decide +kernel, rfl, by decide +kernel, by decide +kernel⟩
/-- a shop, and rows of its events -/
def ShEv (P : Program) (w : World) (K : PySem.W.Frag) (CS : Addr) (H : Hp) (v0 v1 : V) (gs : List Grp) (page : List Ev) : Prop := GoodGs gs ∧ RW P w K H v0 (.ob CS (shopI gs)) ∧ Dp K H v1 (.tuple (page.map evD)) ∧ (∀ e ∈ page, EvOk gs e) ∧ page.length ≤ 100
theorem ShEv.sm {P : Program} {w : World} {K : PySem.W.Frag} {CS : Addr} {H H' : Hp} (s : Sm H H') {v0 v1 : V} {gs : List Grp} {page : List Ev} (h : ShEv P w K CS H v0 v1 gs page) : ShEv P w K CS H' v0 v1 gs page := let ⟨a, b, c, d⟩ := h; ⟨a, rw_sm s b, dp_sm s c, d⟩
def spLog (P : Program) (w : World) (K : PySem.W.Frag) (CS : Addr) : Sp := fun vs H Q _ => ∃ (v0 v1 : V) (gs : List Grp) (page : List Ev), vs = [v0, v1] ∧ ShEv P w K CS H v0 v1 gs page ∧ ∀ H', Sm H H' → Q (.bl (logB gs page)) H'
section
variable {P : Program} {w : World} {K : PySem.W.Frag} {mg : Str → Option Value} {base : Heap} {CS : Addr}
theorem ok_log {f fR fF : Addr} {fd fdR fdF : FuncData} (F : Fd K iLog "is_log" f fd) (hev : Pu P w K mg base 3 "is_event" 2 (semEvent CS))
    (GR : FnOk P w K mg base CX0 3 fR fdR ["events"] (spRoom K)) (bR : Binds K fdR ["events"] []) (kR : PySem.W.keepIn K (.ref fR) = true) (gR : mg "has_room" = some (.ref fR))
    (GF : FnOk P w K mg base CX0 3 fF fdF ["shop", "events"] (spFills P w K CS)) (bFn : Binds K fdF ["shop", "events"] []) (kF : PySem.W.keepIn K (.ref fF) = true) (gF : mg "fillings_of" = some (.ref fF))
    (gi : mg "isinstance" = none) (gt : mg "tuple" = none) (ga : mg "all" = none) (gl : mg "len" = none) : FnOk P w K mg base CX0 4 f fd ["shop", "value"] (spLog P w K CS) := by
  refine F.ok scLog (fun vs H Q E h => ?_) (fun cdv A outer s H vs Q E hr h => ?_)
  · obtain ⟨v0, v1, gs, page, rfl, _⟩ := h
    rfl
  · obtain ⟨v0, v1, gs, page, rfl, ⟨G, r0, d1, ok, hn⟩, q⟩ := h
    refine ⟨_, pss_cons (ps_if (wt_ww (ww_or (wt_not (wt_val (we_isi (T := "tuple") (pe_callB call_isi (by rfl) gi PyProof.Rows.boot_isinstance (pa_cons (we_v (pv 1)) (pa_cons (pe_bltn (v := .ty "tuple") rfl gt (by decide +kernel) rfl) pa_nil))))))
        (ww_or1 (wt_not (wt_val (we_blt (cr_all rfl) m_all (by rfl) ga PyProof.Rows.boot_all (wa_cons (we_lcT mkD_ok (own := [("event", 2)]) (t := .one 2) rfl scLog.nd (we_v (pv 1)) (blkOk_by (N := ["shop", "value", "event"]) (sc := defScope (topAt iLog)) (by decide +kernel)) (fun _ _ _ _ _ => pg_name (i := 2) scLog.nd rfl (Or.inl rfl)) (fun _ _ _ _ _ => wts_nil)
          (fun s H C cl fp => we_call (X := Cx.blk _ s H _ _ fp) hev hr (by decide) (by rfl) (wa_cons (we_v (pv 0)) (wa_cons (we_v (pv 2)) wa_nil)))) wa_nil)))))))
        (pss_one (ps_ret pe_bl)) pss_nil)
      (pss_one (ps_ret (pe_and (pe_call GR hr rfl gR kR bR .nil pass0 (pa_cons (pv 1) pa_nil)) (pe_one (pe_cmpR op_gt (pe_callB call_len_seq (by rfl) gl PySem.boot_len (pa_cons (pe_call GF hr rfl gF kF bFn .nil pass0 (pa_cons (pv 0) (pa_cons (pv 1) pa_nil))) pa_nil)) pe_int (nomark _)))))), ?_⟩
    have E0 : ER P w K H [some v0, some v1, none] [some (.ob CS (shopI gs)), some (.d (.tuple (page.map evD))), none] := er_yes r0 (er_yes (.d d1) (er_no er_nil))
    refine ⟨_, false, E0, ?_, fun H1 s1 => ite_no ?_⟩
    · have t1 : tNotF (testF (isF "tuple" (vF 1))) [some (.ob CS (shopI gs)), some (.d (.tuple (page.map evD))), none] = some false := not_e (b := true) (test_e (b := true) (by
        show some (bF (isTy "tuple" (.tuple (page.map evD)))) = _
        rw [isTy_tuple]))
      unfold tOrF
      rw [t1]
      refine not_e (b := true) (test_e (b := true) (blt_e (cons_e (lcF_all (p := fun _ => true) (ds := page.map evD) rfl (by rw [List.length_map]; omega) fun d hd => ?_) rfl) ?_))
      · obtain ⟨e, he, rfl⟩ := List.mem_map.mp hd
        exact ⟨_, rfl, event_sem (CS := CS) (ok e he)⟩
      · show (boolsD ((page.map evD).map fun _ => PyData.bool true)).map (fun bs => KW.bF (bs.all id)) = _
        rw [show ((page.map evD).map fun _ => PyData.bool true) = ((page.map evD).map fun _ => true).map PyData.bool from by simp only [List.map_map]; rfl, boolsD_map, Option.map_some]
        have : ((page.map evD).map fun _ => true).all id = true := List.all_eq_true.mpr fun b hb => by
          obtain ⟨_, _, rfl⟩ := List.mem_map.mp hb
          rfl
        rw [this]
    · refine ⟨_, rfl, v1, page, rfl, dp_sm s1 d1, by omega, fun H2 s2 => ?_⟩
      cases hB : roomB page with
      | false =>
        refine ⟨_, rfl, ite_no ?_⟩
        have e : logB gs page = false := by unfold logB; rw [hB]; rfl
        rw [← e]
        exact q H2 (s1.trans s2)
      | true =>
        refine ⟨_, rfl, ite_yes ?_⟩
        have hu3 : (page.filter untD).length ≤ 3 := by
          unfold roomB at hB
          simp only [Bool.and_eq_true, decide_eq_true_eq] at hB
          exact hB.2.2.2
        refine ⟨_, rfl, _, rfl, v0, v1, gs, page, rfl, G, rw_sm (s1.trans s2) r0, dp_sm (s1.trans s2) d1, ok, hn, hu3, fun v H3 s3 dv => ?_⟩
        obtain ⟨p, us, rfl, sq, du⟩ : ∃ p us, v = .ref p ∧ SqT K H3 p us ∧ DpAll K H3 us ((fillsP (hmOf gs) page).map fillD) := by
          cases dv with
          | tup hs t => exact ⟨_, _, rfl, hs, t⟩
        have lu : us.length = (fillsP (hmOf gs) page).length := by rw [dpa_len du, List.length_map]
        refine ⟨p, us, rfl, .inr sq, _, _, rfl, rfl, ?_⟩
        have e : logB gs page = decide ((0 : Int) < (us.length : Int)) := by
          unfold logB
          rw [hB, lu]
          cases fillsP (hmOf gs) page with
          | nil => rfl
          | cons x l =>
            rw [decide_eq_true (by rw [List.length_cons]; omega)]
            rfl
        show Q (.bl (decide ((0 : Int) < (us.length : Int)))) H3
        rw [← e]
        exact q H3 ((s1.trans s2).trans s3)
def spCheckLog (P : Program) (w : World) (K : PySem.W.Frag) (CS : Addr) : Sp := fun vs H Q _ => ∃ (v0 v1 : V) (gs : List Grp) (page : List Ev), vs = [v0, v1] ∧ ShEv P w K CS H v0 v1 gs page ∧ logB gs page = true ∧ ∀ H', Sm H H' → Q .non H'
theorem ok_checkLog {f fL : Addr} {fd fdL : FuncData} (F : Fd K iCheckLog "check_log" f fd) (GL : FnOk P w K mg base CX0 4 fL fdL ["shop", "value"] (spLog P w K CS)) (bL : Binds K fdL ["shop", "value"] []) (kL : PySem.W.keepIn K (.ref fL) = true) (gL : mg "is_log" = some (.ref fL)) :
    FnOk P w K mg base CX0 5 f fd ["shop", "log"] (spCheckLog P w K CS) := by
  refine F.ok scCheckLog (fun vs H Q E h => ?_) (fun cdv A outer s H vs Q E hr h => ?_)
  · obtain ⟨v0, v1, gs, page, rfl, _⟩ := h
    rfl
  · obtain ⟨v0, v1, gs, page, rfl, S, hL, q⟩ := h
    refine ⟨_, pss_one (ps_if (pt_not (pt_val (pe_call GL hr rfl gL kL bL .nil pass0 (pa_cons (pv 0) (pa_cons (pv 1) pa_nil))))) wss_no pss_nil), ?_⟩
    refine ⟨_, rfl, _, rfl, v0, v1, gs, page, rfl, S, fun H1 s1 => ?_⟩
    rw [hL]
    exact ⟨_, rfl, ite_no (q H1 s1)⟩
end
end KW
namespace NL
open PySem PySem.Spec PyProof.Rows L2
end NL
namespace NL
open PySem PySem.Spec PyProof.Rows L2
/-! a dict of keys of any depth, locked: walked by its keys, read -/
theorem DNo.getR {P : Program} {w : World} {H : Hp} {h : Heap} {a : Addr} {L : LN} (hok : HOk P w H h) (e : Rd H a (DNo P w a L)) : (a == sysModules) = false ∧ L.length ≤ sizeLine ∧ (L.map (·.1)).Nodup ∧ ∃ xs, KN L xs ∧
    ∃ o es ep, h.get? a = some o ∧ o.ExactDict ∧ o.data = .dict es ep ∧ es.toList = xs.map (entryOfKey (nestedKind P w)) := by
  rcases e with e | ⟨o, e⟩
  · exact DNo.get hok e
  · obtain ⟨_, z, _, _⟩ := hok a _ e
    exact z
/-- the dict at a, locked or not, its keys standing -/
structure DNR (P : Program) (w : World) (K : PySem.W.Frag) (H : Hp) (a : Addr) (L : LN) : Prop where
  ob : Rd H a (DNo P w a L)
  ks : ∀ x ∈ L, IsKey K H x.2.1 x.1
section
variable {X : Cx} {pins : List (Addr × Obj)} {σ : L2.St} {H : Hp} {s : Shared} {a b : Addr} {L : LN} {k : NestedKey} {u : Value} {v : V} {A : Around} {E : Value → Shared → Prop}
theorem DNR.at (I : Inv X pins σ H s) (D : DNR X.prog X.w X.K H a L) : (a == sysModules) = false ∧ L.length ≤ sizeLine ∧ ∃ xs, KN L xs ∧ s.heap.DictOfH (nestedKind X.prog X.w) a xs := by
  obtain ⟨z1, z2, z3, xs, z4, o, es, ep, z5, z6, z7, z8⟩ := D.ob |> DNo.getR I.hok
  refine ⟨z1, z2, xs, z4, o, es, ep, z5, z6, z7, z8, fun x hx => ?_, by rw [← KN.keys z4]; exact z3⟩
  have hk := D.ks
  clear z8 z3 z2 D
  induction z4 with
  | nil => exact nomatch hx
  | @cons p q ps qs h t ih =>
    rcases List.mem_cons.mp hx with e | hx
    · subst e
      rw [← h.1, ← h.2.1]
      exact (hk p (List.mem_cons_self ..)).is I
    · exact ih hx fun y hy => hk y (List.mem_cons_of_mem _ hy)
theorem DNR.dict (I : Inv X pins σ H s) {L : LN} (e : Rd H a (DNo X.prog X.w a L)) : s.TypeIs (.ref a) "dict" := by
  obtain ⟨_, _, _, xs, _, ob, es, ep, g, x, dt, _⟩ := DNo.getR I.hok e
  exact ⟨ob, g, x.1⟩
end
/-! loops over it -/
end NL
namespace NL
open PySem PySem.Spec PyProof.Rows L2
/-! enumerate(tuple) -/
def IteT (K : PySem.W.Frag) (a : Addr) : It :=
  ⟨fun i H => ∃ (xs : List V) (x : V), SqT K H a xs ∧ xs[i]? = some x, fun i H v H' => ∃ T x, v = .ref T ∧ H T = none ∧ H' = upd H T (.tup [.int (i : Nat), x]) ∧ ∀ xs, SqT K H a xs → xs[i]? = some x, fun i H => ∃ xs : List V, SqT K H a xs ∧ xs.length ≤ i⟩
theorem tup_apart {h : Heap} {a it : Addr} {items : Array Value} {i : Nat} (h1 : h.IsTuple a items) (h2 : h.IsTupleIter it a i) : a ≠ it := by
  rintro rfl
  obtain ⟨o, e, c, _⟩ := h1
  obtain ⟨o', e', c', _⟩ := h2
  rw [e] at e'
  cases e'
  rw [c] at c'
  exact absurd c' (by decide)
theorem enum_apart {h : Heap} {a e it : Addr} {items : Array Value} {c : Int} {old : Value} (h1 : h.IsTuple a items) (h2 : IsEnum h e it c old) : e ≠ a := by
  rintro rfl
  obtain ⟨o, q, c, _⟩ := h1
  rw [show h.get? e = _ from h2] at q
  cases q
  exact absurd (show Value.type "enumerate" = Value.type "tuple" from c) (by decide)
theorem turn_enumT {P : Program} {w : World} {K : PySem.W.Frag} {elts : List Expr} {kk : Nat} {tpos : Pos} (a e it : Addr) :
    Turn P w K (.Tuple elts kk tpos) (IteT K a) [e, it] e (fun i h => (∃ old, IsEnum h e it ((i : Nat) : Int) old) ∧ h.IsTupleIter it a i ∧ e ≠ it) where
  mem := by simp
  obj := fun i h st b hb => by
    obtain ⟨⟨old, he⟩, ⟨o, ho, hc, hd⟩, _⟩ := st
    have e' : b = e ∨ b = it := by simpa using hb
    rcases e' with z | z
    · rw [z]; exact ⟨_, he, fun v q => nomatch q⟩
    · rw [z]; exact ⟨o, ho, fun v q => by rw [hd] at q; cases q⟩
  keep := fun i h h' st k => let ⟨⟨old, he⟩, hi, hne⟩ := st; ⟨⟨old, k e (by simp) _ he⟩, hi.at fun o q => k it (by simp) o q, hne⟩
  item := by
    intro X hP hw hK hc i pins s σ H E I hf st hg
    subst hP hw hK
    obtain ⟨⟨old, he⟩, hit, hne⟩ := st
    obtain ⟨xs, x, hq, hx⟩ := hg
    obtain ⟨its, rv, p, hz⟩ := I.tuple hq
    obtain ⟨u, hu, ru⟩ := rv.get hx
    have hT0 : s.heap.IsTuple a its.toArray := p
    have hel : e < s.heap.objs.size := Heap.lt_size he
    have hil : it < s.heap.objs.size := by obtain ⟨_, q, _⟩ := hit; exact Heap.lt_size q
    have hA : X.A.in1.handled = none := I.ok.hd hc
    have D := Draws.tuple (prog := X.prog) (w := X.w) (A := X.A.in1) hA it a (tup_apart hT0 hit) its.toArray
    have hlt : i < its.toArray.size := by
      have := (List.getElem?_eq_some_iff.mp hu).1
      simpa using this
    refine wpAny_pyNext_enum_itemD D he ⟨hit, hT0⟩ hlt hne (by simp [hne, enum_apart hT0 he]) fun y h' tk hy ho hst hT hsz hk => ?_
    have ey : y = u := by
      have h1 : its.toArray[i]? = some y := hy
      rw [List.getElem?_toArray, hu] at h1
      exact (Option.some.inj h1).symm
    subst ey
    refine ⟨_, rfl, wpAny_letOwnedTupleGo_enum (s := { s with heap := h', toks := tk + 1 }) ho fun h'' he' sb => ?_⟩
    have hT2 : h''.get? s.heap.objs.size = some { cls := .type "tuple", data := .seq #[.int i tk, y] } := (sb.2 _ (Nat.ne_of_gt hel)).trans hT
    have new : ObjOk X.prog X.w (upd H s.heap.objs.size (.tup [.int (i : Nat), x])) h'' s.heap.objs.size (.tup [.int (i : Nat), x]) :=
      ⟨by show 2 ≤ sizeLine; decide, [.int i tk, y], .cons ⟨_, rfl⟩ (.cons ru .nil), ⟨_, hT2, rfl, _, rfl⟩⟩
    have I1 : Inv X pins σ (upd H s.heap.objs.size (.tup [.int (i : Nat), x])) { s with heap := h'', toks := tk + 1 } :=
      I.turnedNew (ch := [e, it]) (fun b ob hb q => (sb.2 b (fun z => hb (by simp [z]))).trans (hk b ob (fun z => hb (by simp [z])) (fun z => hb (by simp [z])) q)) hf (Nat.le_refl _) new
    refine ⟨.ref s.heap.objs.size, _, I1, rfl, ⟨_, x, rfl, I.hok.fresh (Nat.le_refl _), rfl, fun ys hy => by rw [I.tuple_inj hy hq]; exact hx⟩, ⟨⟨y, ?_⟩, hst.1.at fun o q => (sb.2 it (Ne.symm hne)).trans q, hne⟩, fun b hb => ?_⟩
    · have e1 : ((i + 1 : Nat) : Int) = (i : Int) + 1 := by omega
      rw [e1]; exact he'
    · have hb' : b < s.heap.objs.size := by
        have e' : b = e ∨ b = it := by simpa using hb
        rcases e' with z | z
        · rw [z]; exact hel
        · rw [z]; exact hil
      rw [upd_ne (Nat.ne_of_lt hb')]
      exact (hf b hb).1
  done := by
    intro X hP hw hK hc i pins s σ H E I hf st hg
    subst hP hw hK
    obtain ⟨⟨old, he⟩, hit, hne⟩ := st
    obtain ⟨xs, hq, hx⟩ := hg
    obtain ⟨its, rv, p, hz⟩ := I.tuple hq
    obtain ⟨f0, f1, f2, f3, f4, f5⟩ := hf it (by simp)
    have hl := rv.length
    have hT0 : s.heap.IsTuple a its.toArray := p
    have hA : X.A.in1.handled = none := I.ok.hd hc
    have hT : s.TypeIs (.ref e) "enumerate" := ⟨_, he, rfl⟩
    unfold pyNext
    refine wpAny_bind (wpAny_attempt (wpAny_callSpecial?_slot (name := Str.ofString "__next__") hT F.slot_enumerate_next
      (wpAny_call_entry F.slot_enumerate_next hT F.entry_enumerate_next ?_ (F.args_enumerate_next_1 _))))
    show wpAny _ _ (field (.ref e) 2 >>= _) _ _ _
    refine wpAny_bind (wpAny_field he rfl (x := .ref it) rfl ?_)
    refine wpAny_bind (wpAny_nextOf_tuple_end hA hit hT0 (by simp; omega) fun h' x he' hx' => ?_)
    obtain ⟨o, ho, hc⟩ := hx'
    refine wpAny_bind (wpAny_isInstance (T := "StopIteration") (b := true) ⟨o, ho, hc⟩ isSubtype_stop ?_)
    exact wpAny_pure ⟨rfl, I.turned (t' := s.toks) (fun b o hb q => he' b o hb q) f0 f1 f3 f4 f5⟩
  self := fun A i s Q E st h => let ⟨⟨_, he⟩, _⟩ := st; wpAny_pyIter_enum he h
set_option maxHeartbeats 4000000 in
theorem meets_enumerate_newT (l : Addr) (items : Array Value) (n : Nat) (dct : Option Addr) (sl : Array (Option Value)) :
    Meets (Builtin.«enumerate.__new__» ⟨[.type "enumerate", .ref l], []⟩) (fun _ R s => s.heap.get? l = some { cls := .type "tuple", dict := dct, data := .seq items n, slots := sl } ∧
      R (.ok (.ret (.ref (s.heap.push { cls := .type "tuple_iterator", data := .fields #[.ref l, .int 0 0] }).objs.size)))
        { s with heap := (s.heap.push { cls := .type "tuple_iterator", data := .fields #[.ref l, .int 0 0] }).push { cls := .type "enumerate", data := .fields #[.none, .bool false, .ref s.heap.objs.size, rawInt 0, .none, .none] } }) :=
  .of_wp fun prog w A R s h => by
    obtain ⟨hp, g, d, tk, os⟩ := s; obtain ⟨hl, h⟩ := h
    have hsub := sub_enumerate
    have hL : Heap.IsTuple (Shared.heap ⟨hp, g, d, tk, os⟩) l items := ⟨_, hl, rfl, n, rfl⟩
    wp_walk using AutoSeq1.wpAny_loadPart' hl
    refine wpAny_stack_any fun st => wpAny_pure ?_
    split
    · rename_i c _ _ _ _ _
      cases (c == Value.type "enumerate")
      · wp_walk using AutoSeq1.wpAny_loadPart' hl, wpAny_pyIter_tuple hL
        exact ⟨_, rfl, h⟩
      · wp_walk using AutoSeq1.wpAny_loadPart' hl, wpAny_pyIter_tuple hL
        exact ⟨_, rfl, h⟩
    · wp_walk using AutoSeq1.wpAny_loadPart' hl, wpAny_pyIter_tuple hL
      exact ⟨_, rfl, h⟩
theorem call_enumerate_tuple {prog : Program} {w : World} {A : Around} {E : Value → Shared → Prop} {s : Shared} {l : Addr} {items : Array Value} {Q : Value → Shared → Prop} (hL : s.heap.IsTuple l items)
    (h : ∀ h', IsEnum h' (s.heap.objs.size + 1) s.heap.objs.size 0 .none → h'.IsTupleIter s.heap.objs.size l 0 → h'.objs.size = s.heap.objs.size + 2 →
      (∀ b o, s.heap.get? b = some o → h'.get? b = some o) → Q (.ref (s.heap.objs.size + 1)) { s with heap := h' }) :
    wpAny (model prog w) A (call (.type "enumerate") [.ref l]) Q E s := by
  obtain ⟨⟨c, dct, dt, sl⟩, hl, hc, n, hd⟩ := hL
  replace hc : c = .type "tuple" := hc
  replace hd : dt = .seq items n := hd
  subst hc hd
  refine callType_new F.called_enumerate (by decide) (F.typeCall_enumerate_1 _) (F.newCall_enumerate_1 _) (fun obj => F.args_object_init_2 obj _) F.entry_enumerate_new
    (meets_enumerate_newT l items n dct sl) ⟨hl, ?_⟩
  have hz : (s.heap.push { cls := .type "tuple_iterator", data := .fields #[.ref l, .int 0 0] }).objs.size = s.heap.objs.size + 1 := Heap.size_push ..
  show _ ∧ _
  rw [hz]
  have he : IsEnum ((s.heap.push { cls := .type "tuple_iterator", data := .fields #[.ref l, .int 0 0] }).push
      { cls := .type "enumerate", data := .fields #[.none, .bool false, .ref s.heap.objs.size, rawInt 0, .none, .none] }) (s.heap.objs.size + 1) s.heap.objs.size 0 .none := by
    have := Heap.get?_push_size (s.heap.push { cls := .type "tuple_iterator", data := .fields #[.ref l, .int 0 0] })
      (o := { cls := .type "enumerate", data := .fields #[.none, .bool false, .ref s.heap.objs.size, rawInt 0, .none, .none] }) rfl
    rw [hz] at this; exact this
  refine ⟨⟨_, he, rfl⟩, h _ he ⟨_, Heap.get?_push_of_some _ (Heap.get?_push_size _ rfl), rfl, rfl⟩ (by rw [Heap.size_push, hz]) fun b o x => Heap.get?_push_of_some _ (Heap.get?_push_of_some _ x)⟩
def iEnumT (K : PySem.W.Frag) (ta : TA) : TI := fun σ H R => ta σ H fun vs H1 => ∃ a xs, vs = [.ref a] ∧ SqT K H1 a xs ∧ R (IteT K a) H1
theorem pi_enumT {X : Cx} {e : Expr} {ta : TA} {p pos tpos : Pos} {elts : List Expr} {kk : Nat} (hg : Gl X "enumerate") (hm : X.mg "enumerate" = none) (ha : PA X [e] ta) (hs : starEach [e] X.env = [(false, eval e X.env)] := by rfl) :
    PI X (.Tuple elts kk tpos) (.Call (.Name "enumerate" p) [e] [] pos) (iEnumT X.K ta) := by
  refine ⟨fun pins s σ H R I h => ?_⟩
  refine Call_ (ld_blt I hg hm boot_enumerate (PyProof.Rows.callWith_type1 (thn (ha.run pos pins s σ H _ I h) fun us s1 ⟨vs, H1, I1, r1, q1⟩ => ?_) hs rfl))
  obtain ⟨a, xs, ex, hq, q⟩ := q1
  subst ex
  cases r1 with
  | cons r rr =>
    cases rr
    cases r
    obtain ⟨its, rv, p', hz⟩ := I1.tuple hq
    refine call_enumerate_tuple p' fun h' he hit hsz hk => wpAny_pyIter_enum he ?_
    have I2 : Inv X pins σ H1 { s1 with heap := h' } := I1.kept (t' := s1.toks) hk
    refine ⟨s1.heap.objs.size + 1, [s1.heap.objs.size + 1, s1.heap.objs.size], _, _, H1, rfl, I2, turn_enumT a (s1.heap.objs.size + 1) s1.heap.objs.size, ⟨⟨.none, he⟩, hit, Nat.succ_ne_self _⟩, fun b hb => ?_, q⟩
    have e' : b = s1.heap.objs.size + 1 ∨ b = s1.heap.objs.size := by simpa using hb
    have hle : s1.heap.objs.size ≤ b := by
      rcases e' with z | z
      · rw [z]; exact Nat.le_add_right _ _
      · rw [z]; exact Nat.le_refl _
    exact I1.fpOk hle (I1.hok.fresh hle)
end NL
namespace KW
open PySem PySem.Spec PyProof.Rows L2 KZ KS KP DC
/-! the law's _law_items -/
abbrev iItems : Nat := 53
abbrev NIt : List Str := ["_law_jar_here", "_law_home_here", "_law_found", "_law_check"]
theorem scItems : FnScope NIt ["_law_jar_here", "_law_home_here"] (defScope (topAt iItems)) := ⟨rfl, rfl, rfl, by decide +kernel, rfl, by decide +kernel, by decide +kernel⟩
def spItems (K : PySem.W.Frag) : Sp := fun vs H Q _ => ∃ (J hm : Addr) (c : Nat) (gs : List Grp), vs = [.ref J, .ref hm] ∧ Jar J H c ∧ c < 80000 ∧ H hm = some (.dK (homeOf gs)) ∧ GoodGs gs ∧
  ∀ (l : Addr) (us : List V) (ts : List Th) (H' : Hp), Kp J H H' → Jar J H' (c + 20) → H l = none → l ≠ J → H' l = some (.lst us) → us ≠ [] → us.length ≤ 5 → DpAll K (dls [J] H') us (ts.map thD) → (∀ t ∈ ts, ItOk gs t) → Q (.ref l) H'
section
variable {P : Program} {w : World} {K : PySem.W.Frag} {mg : Str → Option Value} {base : Heap}
theorem ok_items {f fT : Addr} {fd fdT : FuncData} (F : Fd K iItems "_law_items" f fd) (FT : Fd K iTake "_law_take" fT fdT) (gT : mg "_law_take" = some (.ref fT)) (gi : mg "int" = none) (gs_ : mg "sorted" = none) (gse : mg "set" = none) :
    FnOk P w K mg base CX0 2 f fd ["_law_jar_here", "_law_home_here"] (spItems K) := by
  have GT : FnOk P w K mg base CX0 1 fT fdT ["_law_jar_here", "_law_many"] spTake := ok_take FT gi
  have bT : Binds K fdT ["_law_jar_here", "_law_many"] [] := FT.bindsN fun _ _ _ _ _ _ us hl => match us, hl with | [_, _], _ => rfl
  refine F.ok scItems (fun vs H Q E h => ?_) (fun cdv A outer s H vs Q E hr h => ?_)
  · obtain ⟨J, hm, c, gs, rfl, _⟩ := h
    rfl
  · obtain ⟨J, hm, c, gs, rfl, hJ, hc, hh, G, q⟩ := h
    refine ⟨_, PSs.nox (pss_cons (ps_set (i := 2) scItems.nd rfl (Or.inl rfl) (pe_lst pa_nil))
      (pss_cons (ps_for PassesOwn.never rfl (pi_list (pe_callB (call_sortedD rfl) (by rfl) gs_ PyProof.Rows.boot_sorted (pa_cons (pv 1) pa_nil))) (pg_name (i := 3) scItems.nd rfl (Or.inl rfl))
        (pss_cons (ps_expr (pe_bm PySem.F.plainAttrs_list PySem.F.slot_list_append PySem.F.type_list_append mt_append (pv 2) (pa_cons (pe_tup (pa_cons (pv 3) (pa_cons (pe_op op_add pe_int (pe_call GT hr rfl gT FT.kp bT .nil pass0 (pa_cons (pv 0) (pa_cons pe_int pa_nil)))) pa_nil))) pa_nil)))
        (pss_one (ps_if (pt_cmpR op_eq (pe_call GT hr rfl gT FT.kp bT .nil pass0 (pa_cons (pv 0) (pa_cons pe_int pa_nil))) pe_int (nomark _)) (pss_one (ps_expr (pe_bm PySem.F.plainAttrs_list PySem.F.slot_list_append PySem.F.type_list_append mt_append (pv 2) (pa_cons (pe_tup (pa_cons (pv 3) (pa_cons (pe_op op_add pe_int (pe_call GT hr rfl gT FT.kp bT .nil pass0 (pa_cons (pv 0) (pa_cons pe_int pa_nil)))) pa_nil))) pa_nil)))) pss_nil))))
      (pss_one (ps_ret (pe_slice sl_list (pe_callB (cr_sortedSN rfl (hu40 hr)) (by rfl) gs_ PyProof.Rows.boot_sorted (pa_cons (pe_callTy (cr_setN rfl (hu30 hr)) (by rfl) gse (by decide +kernel) (pa_cons (pv 2) pa_nil)) pa_nil)) po_none (po_some pe_int)))))), ?_⟩
    have sl : sizeLine = 16777216 := sizeLine_eq
    have x0 : Sce J H c [J] (dls [J] H) H := Sce.start (Kp.refl J H) hJ
    refine ⟨by rw [sl]; decide, fun F0 nF => ?_⟩
    have F0J : F0 ≠ J := hJ.ne nF
    have x1 := (x0.ext (o := .lst []) nF).re
    have hm1 : dls [F0, J] (upd H F0 (.lst [])) hm = some (.dK (homeOf gs)) := dls_at (by rw [upd_ne (ne_of_none hh nF)]; exact hh) (by
      have h1 : hm ≠ J := fun z => by
        obtain ⟨m, s, k, e, _⟩ := hJ
        rw [z, e] at hh
        cases hh
      simp [ne_of_none hh nF, h1])
    have hF1 : (upd H F0 (.lst [])) F0 = some (.lst []) := upd_same
    generalize upd H F0 (.lst []) = H1 at x1 hm1 hF1 ⊢
    have lC : (gs.flatMap (·.2)).length ≤ 4 := G.tot
    refine ⟨_, rfl, hm, homeOf gs, gs.flatMap (·.2), rfl, .inl (x1.at hm1), homeOf_keys gs, by omega, fun ys pl perm srt npl => ?_⟩
    have lys : ys.length ≤ 4 := by rw [perm.length_eq]; exact lC
    have memC : ∀ {y : Str}, y ∈ ys → ∃ g ∈ gs, y ∈ g.2 := fun {y} hy => List.mem_flatMap.mp (perm.mem_iff.mp hy)
    have plJ : pl ≠ J := x1.jar.ne npl
    have plF : pl ≠ F0 := fun z => by rw [z, hF1] at npl; cases npl
    have x2 := (x1.new (o := .lst (ys.map V.str)) npl).re
    have hF2 : (upd H1 pl (.lst (ys.map V.str))) F0 = some (.lst []) := by rw [upd_ne (Ne.symm plF)]; exact hF1
    have pl2 : dls [F0, J] (upd H1 pl (.lst (ys.map V.str))) pl = some (.lst (ys.map V.str)) := dls_at upd_same (by simp [plF, plJ])
    generalize upd H1 pl (.lst (ys.map V.str)) = H2 at x2 hF2 pl2 ⊢
    have nys : 0 < ys.length := by
      obtain ⟨g, t, eg⟩ := List.exists_cons_of_ne_nil G.ne
      have h1 := (G.ch g (by rw [eg]; exact List.mem_cons_self ..)).1
      have h2 := perm.length_eq
      rw [eg, List.flatMap_cons, List.length_append] at h2
      have h3 := List.length_pos_iff.mpr h1
      omega
    refine ⟨pl, rfl, ⟨_, SqL.of (x2.at pl2)⟩, for_list (K := K) (a := pl) (xs := ys.map V.str)
      (fun k σ H' => ∃ (zi : ZT) (a3 : Option V), σ = [some (.ref J), some (.ref hm), some (.ref F0), a3] ∧ H' F0 = some (.lst (zV zi)) ∧ ZTok (dls [F0, J] H') zi ∧ (∀ z ∈ zi, ItOk gs z.2) ∧ k ≤ zi.length ∧ zi.length ≤ 2 * k ∧ Sce J H (c + 3 * k) [F0, J] (dls [F0, J] H2) H')
      ⟨[], _, rfl, hF2, (fun z hz => absurd hz List.not_mem_nil), (fun z hz => absurd hz List.not_mem_nil), Nat.le_refl _, Nat.le_refl _, x2⟩ (fun k σ H' _ ⟨_, _, _, _, _, _, _, _, x⟩ => SqL.of (x.at pl2)) ?_ ?_⟩
    · rintro k v σ H3 hx ⟨zi, a3, rfl, hF3, ok3, it3, l1, l2, x3⟩
      rw [List.getElem?_map] at hx
      obtain ⟨y, hy, rfl⟩ := Option.map_eq_some_iff.mp hx
      have hk : k < ys.length := (List.getElem?_eq_some_iff.mp hy).1
      have yC := memC (List.mem_of_getElem? hy)
      refine ⟨_, rfl, .inl ⟨rfl, _, SqL.of hF3⟩, ?_⟩
      refine ⟨_, rfl, _, rfl, J, _, c + 3 * k, rfl, x3.jar, by omega, by decide, by decide, fun r H4 r0 r1 kp4 j4 => ?_⟩
      have x4 := x3.call kp4 j4
      have hF4 : H4 F0 = some (.lst (zV zi)) := kp4 _ _ hF3 F0J
      have ok4 := ZTok_sm (dls_kp (S := [F0, J]) kp4 (by simp)) ok3
      refine ⟨_, _, rfl, rfl, (by show (2 : Nat) ≤ sizeLine; decide), fun t nt => ?_⟩
      have tF : t ≠ F0 := fun z => by rw [z, hF4] at nt; cases nt
      have tJ : t ≠ J := x4.jar.ne nt
      refine ⟨F0, _, _, rfl, rfl, by rw [upd_ne (Ne.symm tF)]; exact hF4, by rw [List.length_map, sl]; omega, ?_⟩
      have x5 := (x4.new (o := .tup [.str y, .int (1 + r)]) nt).put (l := F0) (o := .lst (zV zi ++ [V.ref t])) (by simp) F0J nF
      have ok5 : ZTok (dls [F0, J] (upd (upd H4 t (.tup [.str y, .int (1 + r)])) F0 (.lst (zV zi ++ [V.ref t])))) (zi ++ [(t, (y, 1 + r))]) := by
        rw [dls_put (by simp)]
        exact ZTok_add (ZTok_sm (dls_new nt) ok4) (dls_at upd_same (by simp [tF, tJ]))
      have hF5 : (upd (upd H4 t (.tup [.str y, .int (1 + r)])) F0 (.lst (zV zi ++ [V.ref t]))) F0 = some (.lst (zV (zi ++ [(t, (y, 1 + r))]))) := by rw [upd_same, zV_add]
      have it5 : ∀ z ∈ zi ++ [(t, (y, 1 + r))], ItOk gs z.2 := fun z hz => (List.mem_append.mp hz).elim (it3 z) fun hz => by
        rw [List.mem_singleton.mp hz]
        exact ⟨yC, by show 1 ≤ 1 + r; omega, by show 1 + r ≤ 9; omega⟩
      have l5 : (zi ++ [(t, (y, 1 + r))]).length = zi.length + 1 := by simp
      generalize upd (upd H4 t (.tup [.str y, .int (1 + r)])) F0 (.lst (zV zi ++ [V.ref t])) = H5 at x5 ok5 hF5 ⊢
      generalize zi ++ [(t, (y, 1 + r))] = z5 at ok5 hF5 it5 l5 ⊢
      clear ok3 it3 hF3 x3 kp4 j4 x4 hF4 ok4 nt tF tJ r0 r1
      refine ⟨_, rfl, J, _, c + 3 * k + 1, rfl, x5.jar, by omega, by decide, by decide, fun r H6 r0 r1 kp6 j6 => ?_⟩
      have x6 := x5.call kp6 j6
      have hF6 : H6 F0 = some (.lst (zV z5)) := kp6 _ _ hF5 F0J
      have ok6 := ZTok_sm (dls_kp (S := [F0, J]) kp6 (by simp)) ok5
      refine ⟨rfl, _, rfl, ite2 (fun _ => ?_) (fun _ => ?_)⟩
      · refine ⟨_, rfl, .inl ⟨rfl, _, SqL.of hF6⟩, ?_⟩
        refine ⟨_, rfl, _, rfl, J, _, c + 3 * k + 2, rfl, x6.jar, by omega, by decide, by decide, fun r H7 r0 r1 kp7 j7 => ?_⟩
        have x7 := x6.call kp7 j7
        have hF7 : H7 F0 = some (.lst (zV z5)) := kp7 _ _ hF6 F0J
        have ok7 := ZTok_sm (dls_kp (S := [F0, J]) kp7 (by simp)) ok6
        refine ⟨_, _, rfl, rfl, (by show (2 : Nat) ≤ sizeLine; decide), fun t nt => ?_⟩
        have tF : t ≠ F0 := fun z => by rw [z, hF7] at nt; cases nt
        have tJ : t ≠ J := x7.jar.ne nt
        refine ⟨F0, _, _, rfl, rfl, by rw [upd_ne (Ne.symm tF)]; exact hF7, by rw [List.length_map, sl]; omega, ?_⟩
        refine ⟨z5 ++ [(t, (y, 1 + r))], _, rfl, by rw [upd_same, zV_add], ?_, fun z hz => (List.mem_append.mp hz).elim (it5 z) fun hz => ?_, by simp; omega, by simp; omega, ((x7.new (o := .tup [.str y, .int (1 + r)]) nt).put (l := F0) (o := .lst (zV z5 ++ [V.ref t])) (by simp) F0J nF).up (by omega)⟩
        · rw [dls_put (by simp)]
          exact ZTok_add (ZTok_sm (dls_new nt) ok7) (dls_at upd_same (by simp [tF, tJ]))
        · rw [List.mem_singleton.mp hz]
          exact ⟨yC, by show 1 ≤ 1 + r; omega, by show 1 + r ≤ 9; omega⟩
      · exact ⟨z5, _, rfl, hF6, ok6, it5, by omega, by omega, x6.up (by omega)⟩
    · rintro σ H3 ⟨zi, a3, rfl, hF3, ok3, it3, l1, l2, x3⟩
      rw [List.length_map] at l1 l2 x3
      have ok3' : ZTok H3 zi := ZTok_sm (dls_sm _ _) ok3
      have eks : (zi.map fun z => ((z.1, thKey z.2) : NE)).map (fun p => V.ref p.1) = zV zi := by rw [List.map_map]; rfl
      refine ⟨_, rfl, F0, zi.map fun z => ((z.1, thKey z.2) : NE), rfl, by rw [eks]; exact SqL.of hF3, fun p hp => ?_, by rw [List.length_map]; omega, fun p L np GN nd => ?_⟩
      · obtain ⟨z, hz, rfl⟩ := List.mem_map.mp hp
        exact thKey_is (ok3' z hz)
      have mL : ∀ x ∈ L, ∃ z ∈ zi, x = (z.1, thKey z.2) := fun x hx => by
        obtain ⟨z, hz, e⟩ := List.mem_map.mp (GN.1 x hx)
        exact ⟨z, hz, e.symm⟩
      have lL : L.length ≤ zi.length := by
        have := gotN_len GN nd
        rwa [List.length_map] at this
      have x4 := x3.new (o := SetNO w p L) np
      have pF : p ≠ F0 := fun z => by rw [z, hF3] at np; cases np
      have pJ : p ≠ J := x3.jar.ne np
      have ok4 := ZTok_sm (dls_new (S := [F0, J]) (o := SetNO w p L) np) ok3
      have ok4' := ZTok_sm (dls_sm _ _) ok4
      have hp4 : (upd H3 p (SetNO w p L)) p = some (SetNO w p L) := upd_same
      refine ⟨p, L, fun x => thD (keyTh x.2), rfl, hp4, fun x hx => ?_, fun x hx => ?_, ?_, ?_, fun p2 L' np2 pm => ?_⟩
      · obtain ⟨z, hz, rfl⟩ := mL x hx
        exact thKey_is (ok4' z hz)
      · obtain ⟨z, hz, rfl⟩ := mL x hx
        exact ⟨thD_at (ok4' z hz), thD_depth _⟩
      · intro x hx y hy
        obtain ⟨a, _, rfl⟩ := List.mem_map.mp hx
        obtain ⟨b, _, rfl⟩ := List.mem_map.mp hy
        exact thD_alike _ _
      · refine .inl fun d hd => ?_
        obtain ⟨a, _, rfl⟩ := List.mem_map.mp hd
        exact ⟨_, _, rfl⟩
      · have pz := (List.mergeSort_perm L' (W.dataLe false fun x : NE => thD (keyTh x.2))).trans pm
        generalize L'.mergeSort (W.dataLe false fun x : NE => thD (keyTh x.2)) = Z at pz ⊢
        have p2J : p2 ≠ J := x4.jar.ne np2
        have x5 := x4.new (o := .lst (Z.map fun x => V.ref x.1)) np2
        have ok5 := ZTok_sm (dls_new (S := [F0, J]) (o := .lst (Z.map fun x => V.ref x.1)) np2) ok4
        have h5 : (upd (upd H3 p (SetNO w p L)) p2 (.lst (Z.map fun x => V.ref x.1))) p2 = some (.lst (Z.map fun x => V.ref x.1)) := upd_same
        have n5 : Z ≠ [] := fun z => by
          have hz : 0 < zi.length := by omega
          obtain ⟨y, hy⟩ : ∃ y, y ∈ zi := ⟨zi[0], List.getElem_mem _⟩
          have hL : thKey y.2 ∈ L.map (·.2) := GN.2 _ (List.mem_map.mpr ⟨y, hy, rfl⟩)
          obtain ⟨x, hx, _⟩ := List.mem_map.mp hL
          have := pz.mem_iff.mpr hx
          rw [z] at this
          cases this
        clear hp4
        refine ⟨_, rfl, p2, _, rfl, SqL.of h5, fun l nl => ?_⟩
        have x6 := x5.new (o := .lst (cutV (Z.map fun x => V.ref x.1) none (some 5))) nl
        have ok6 := ZTok_sm (dls_new (S := [F0, J]) (o := .lst (cutV (Z.map fun x => V.ref x.1) none (some 5))) nl) ok5
        have ec : cutV (Z.map fun x => V.ref x.1) none (some 5) = (Z.take 5).map fun x => V.ref x.1 := by
          rw [List.map_take]
          unfold cutV
          rw [HT.sIx_none, List.drop_zero, show (some (5 : Int)) = some ((5 : Nat) : Int) from rfl, HT.sIx_nat, Nat.sub_zero]
          exact (List.take_eq_take_min ..).symm
        refine q l _ ((Z.take 5).map fun x => keyTh x.2) _ x6.kp (x6.jar.up (by omega)) (x5.none nl) (x5.jar.ne nl) upd_same ?_ ?_ ?_ ?_
        · rw [ec]
          intro z
          have := List.map_eq_nil_iff.mp z
          rw [List.take_eq_nil_iff] at this
          exact this.elim (by decide) n5
        · rw [ec, List.length_map, List.length_take]
          omega
        · rw [ec] at ok6 ⊢
          refine dpa_its fun x hx => ?_
          obtain ⟨z, hz, rfl⟩ := mL x (pz.mem_iff.mp (List.mem_of_mem_take hx))
          exact thD_at (dls_sub (S := [J]) (S' := [F0, J]) (by simp) _ _ (ok6 z hz))
        · intro t ht
          obtain ⟨x, hx, rfl⟩ := List.mem_map.mp ht
          obtain ⟨z, hz, rfl⟩ := mL x (pz.mem_iff.mp (List.mem_of_mem_take hx))
          exact it3 z hz
end
end KW
namespace KW
open PySem PySem.Spec PyProof.Rows L2 KZ KS KP DC
/-! the law's _law_any_log -/
theorem ite_yes' {c : Bool} {A B : Prop} (e : c = true) (h : A) : if c = true then A else B := by
  rw [if_pos e]
  exact h
theorem ite_no' {c : Bool} {A B : Prop} (e : c = false) (h : B) : if c = true then A else B := by
  rw [e, if_neg (by decide)]
  exact h
theorem valV_ndk {kvs : List (L2.Key × V)} {k : L2.Key} {v : V} (nd : (kvs.map (·.1)).Nodup) (h : (k, v) ∈ kvs) : valV kvs k = some v := by
  induction kvs with
  | nil => exact absurd h List.not_mem_nil
  | cons p kvs ih =>
    rw [List.map_cons, List.nodup_cons] at nd
    rcases List.mem_cons.mp h with rfl | h
    · exact valV_pos rfl
    · have ne : ¬ p.1 = k := fun e => nd.1 (by rw [e]; exact List.mem_map.mpr ⟨_, h, rfl⟩)
      rw [valV_neg ne]
      exact ih nd.2 h
theorem home_at {gs : List Grp} (G : GoodGs gs) {c : Str} (h : ∃ g ∈ gs, c ∈ g.2) : valV (homeOf gs) (.inr c) = some (.str (hmOf gs c)) := by
  obtain ⟨g, hg, hc⟩ := h
  rw [hm_of G hg hc]
  refine valV_ndk ?_ ?_
  · rw [homeOf_keys]
    exact List.pairwise_map.mpr ((List.nodup_append.mp G.nm.1).2.1.imp fun ne e => ne (Sum.inr.inj e))
  · exact List.mem_flatMap.mpr ⟨g, hg, List.mem_map.mpr ⟨c, hc, rfl⟩⟩
theorem th_sq {K : PySem.W.Frag} {R : Hp} {a : Addr} {t : Th} (h : Dp K R (.ref a) (thD t)) : SqT K R a [.str t.1, .int t.2] := by
  unfold thD at h
  cases h with
  | tup s t =>
    cases t with
    | cons d1 t =>
    cases t with
    | cons d2 t =>
    cases t
    cases d1
    cases d2
    exact s
theorem sqt_dls {K : PySem.W.Frag} {H : Hp} {S : List Addr} {a : Addr} {xs : List V} (h : SqT K (dls S H) a xs) : SqT K H a xs := sqt_sm (dls_sm _ _) h
/-- what is told of a shop's log: its events, who is on it, what runs -/
structure PgOk (gs : List Grp) (zs : List Str) (ts : List Th) (page : List Ev) : Prop where
  ok : ∀ e ∈ page, EvOk gs e
  wk : ∀ e ∈ page, ∀ w, wkOf e = some w → w ∈ zs
  it : ∀ e ∈ page, ∀ t, itOf e = some t → t ∈ ts
theorem PgOk.add {gs : List Grp} {zs : List Str} {ts : List Th} {page : List Ev} (h : PgOk gs zs ts page) {e : Ev} (h1 : EvOk gs e) (h2 : ∀ w, wkOf e = some w → w ∈ zs) (h3 : ∀ t, itOf e = some t → t ∈ ts) : PgOk gs zs ts (page ++ [e]) :=
  ⟨fun x hx => (List.mem_append.mp hx).elim (h.ok x) fun hx => by rw [List.mem_singleton.mp hx]; exact h1, fun x hx => (List.mem_append.mp hx).elim (h.wk x) fun hx => by rw [List.mem_singleton.mp hx]; exact h2, fun x hx => (List.mem_append.mp hx).elim (h.it x) fun hx => by rw [List.mem_singleton.mp hx]; exact h3⟩
theorem unt_add (page : List Ev) (e : Ev) : ((page ++ [e]).filter untD).length = (page.filter untD).length + (if untD e = true then 1 else 0) := by
  rw [List.filter_append, List.length_append]
  cases h : untD e <;> simp [List.filter_cons, h]
theorem OpD.put_ne {H : Hp} {a x : Addr} {f : Str → Str} {n : Nat} {o : HO} (h : OpD H a f n) (ne : a ≠ x) : OpD (upd H x o) a f n := let ⟨kvs, h1, r⟩ := h; ⟨kvs, by rw [upd_ne ne]; exact h1, r⟩
theorem OpD.up {H : Hp} {a : Addr} {f : Str → Str} {n m : Nat} (h : OpD H a f n) (l : n ≤ m) : OpD H a f m := let ⟨kvs, h1, h2, h3⟩ := h; ⟨kvs, h1, Nat.le_trans h2 l, h3⟩
theorem OpD.kp {J a : Addr} {H H' : Hp} {f : Str → Str} {n : Nat} (k : Kp J H H') (ne : a ≠ J) (h : OpD H a f n) : OpD H' a f n := let ⟨kvs, h1, r⟩ := h; ⟨kvs, k _ _ h1 ne, r⟩
/-- an outcome as it is written -/
def vO : Option Str → V
  | none => .non
  | some z => .str z
theorem scal_vO {z : Str} (o : Option Str) : scal (vO o) (.str z) = true := by cases o <;> rfl
theorem vO_dp {K : PySem.W.Frag} {H : Hp} (o : Option Str) : Dp K H (vO o) (outD o) := by
  cases o with
  | none => exact .non
  | some z => exact .str z
theorem ev_dp {K : PySem.W.Frag} {H : Hp} {a : Addr} {w : Str} {v : V} {t : Th} {o : Option Str} (h : H a = some (.tup [.str "run", .str w, v, vO o])) (d : Dp K H v (thD t)) : Dp K H (.ref a) (evD (.run w t o)) := .tup (SqT.of h) (.cons (.str _) (.cons (.str _) (.cons d (.cons (vO_dp o) .nil))))
/-- if .. is None and left == 0 or .. : it passes -/
abbrev tIfA (K : PySem.W.Frag) : TS := tIfS (tOr (tAnd (tTest (tOp (fun x y H Q => y = V.non ∧ Q (V.bl (decide (x = V.non))) H) (tVar 12) (tC V.non))) (tTest (tOp rEq (tVar 6) (tC (V.int 0)))))
  (tAnd (tTest (tOp rEq (tVar 12) (tC (V.str "skip")))) (tTest (tOp rEq (tDGet2 (tVar 7) (tVar 10) (tC (V.str ""))) (tDGet (tVar 1) (tOp (rIxT K) (tVar 11) (tC (V.int 0)))))))) (tAsg (tC (V.str "pass")) (gName 12)) tNext
theorem ifA_ok {K : PySem.W.Frag} {H : Hp} {D : Ends} {s0 s2 s3 s4 s5 s8 s9 : Option V} {hm d b2 : Addr} {lf : Int} {z : Str} {t : Th} {o : Option Str} {gs : List Grp} {fo : Str → Str} {n : Nat} (G : GoodGs gs) (hit : ItOk gs t) (hh : H hm = some (.dK (homeOf gs))) (op : OpD H d fo n) (dt : SqT K H b2 [.str t.1, .int t.2]) (ho : toldB o = true)
    (k : ∀ o' : Option Str, toldB o' = true → (o' = none → lf ≠ 0) → D.nx [s0, some (.ref hm), s2, s3, s4, s5, some (.int lf), some (.ref d), s8, s9, some (.str z), some (.ref b2), some (vO o')] H) :
    tIfA K D [s0, some (.ref hm), s2, s3, s4, s5, some (.int lf), some (.ref d), s8, s9, some (.str z), some (.ref b2), some (vO o)] H := by
  obtain ⟨kvs, hd8, lk8, hv8⟩ := op
  cases o with
  | none =>
    refine ⟨_, rfl, rfl, _, rfl, ite_yes' rfl ?_⟩
    refine ⟨_, rfl, rfl, _, rfl, ?_⟩
    by_cases h0 : lf = 0
    · exact ite_yes' (decide_eq_true (by rw [h0])) (ite_yes (k (some "pass") (by decide) fun z => by cases z))
    · exact ite_no' (decide_eq_false fun z => h0 (V.int.inj z)) ⟨_, rfl, rfl, _, rfl, ite_no' rfl (ite_no (k none rfl fun _ => h0))⟩
  | some y =>
    refine ⟨_, rfl, rfl, _, rfl, ite_no' rfl ?_⟩
    refine ite_no ⟨_, rfl, rfl, _, rfl, ite2 (fun _ => ?_) (fun _ => ite_no (k (some y) ho fun z => by cases z))⟩
    refine ⟨_, rfl, d, rfl, .inl ⟨_, .inl hd8⟩, _, rfl, _, DGet.k (k := .inr z) hd8, ?_⟩
    rw [hv8 z]
    refine ⟨_, rfl, _, rfl, b2, [.str t.1, .int t.2], 0, .str t.1, rfl, rfl, dt, rfl, hm, _, rfl, .inl ⟨_, .inr t.1, .inl hh, rfl, (home_at G hit.1).symm⟩, rfl, _, rfl, ite2 (fun _ => ?_) (fun _ => ?_)⟩
    · exact k (some "pass") (by decide) fun z => by cases z
    · exact k (some y) ho fun z => by cases z
abbrev iAny : Nat := 54
abbrev NAl : List Str := ["_law_jar_here", "_law_home_here", "_law_some", "_law_workers", "_law_many", "_law_found", "_law_left", "_law_opened", "_law_turn", "_law_way", "_law_worker", "_law_item", "_law_out"]
theorem scAny : FnScope NAl ["_law_jar_here", "_law_home_here", "_law_some", "_law_workers", "_law_many"] (defScope (topAt iAny)) := ⟨rfl, rfl, rfl, by decide +kernel, rfl, by decide +kernel, by decide +kernel⟩
/-- what a log is drawn from -/
structure Draw (K : PySem.W.Frag) (J hm lS lW : Addr) (H : Hp) (gs : List Grp) (us : List V) (ts : List Th) (zs : List Str) : Prop where
  home : H hm = some (.dK (homeOf gs))
  good : GoodGs gs
  some_ : H lS = some (.lst us)
  sJ : lS ≠ J
  sne : us ≠ []
  sle : us.length ≤ 5
  sdp : DpAll K (dls [J] H) us (ts.map thD)
  sit : ∀ t ∈ ts, ItOk gs t
  wks : H lW = some (.lst (zs.map V.str))
  wJ : lW ≠ J
  wne : zs ≠ []
  wle : zs.length ≤ 3
  wnm : ∀ z ∈ zs, nameB z = true
def spAny (K : PySem.W.Frag) : Sp := fun vs H Q _ => ∃ (J hm lS lW : Addr) (many c : Nat) (gs : List Grp) (us : List V) (ts : List Th) (zs : List Str), vs = [.ref J, .ref hm, .ref lS, .ref lW, .int many] ∧ Jar J H c ∧ c < 70000 ∧ Draw K J hm lS lW H gs us ts zs ∧ many ≤ 40 ∧
  ∀ (p : Addr) (page : List Ev) (H' : Hp), Kp J H H' → Jar J H' (c + 1 + 4 * many) → H p = none → p ≠ J → Dp K (dls [J] H') (.ref p) (.tuple (page.map evD)) → page.length = many → PgOk gs zs ts page → (page.filter untD).length ≤ 3 → Q (.ref p) H'
section
variable {P : Program} {w : World} {K : PySem.W.Frag} {mg : Str → Option Value} {base : Heap}
theorem ok_any {f fO fT : Addr} {fd fdO fdT : FuncData} (F : Fd K iAny "_law_any_log" f fd) (FO : Fd K KZ.iOf "_law_of" fO fdO) (FT : Fd K iTake "_law_take" fT fdT) (gO : mg "_law_of" = some (.ref fO)) (gT : mg "_law_take" = some (.ref fT)) (gi : mg "int" = none) (gl : mg "len" = none) (gr : mg "range" = none) (gt : mg "tuple" = none) :
    FnOk P w K mg base CX0 3 f fd ["_law_jar_here", "_law_home_here", "_law_some", "_law_workers", "_law_many"] (spAny K) := by
  have GT : FnOk P w K mg base CX0 1 fT fdT ["_law_jar_here", "_law_many"] spTake := ok_take FT gi
  have bT : Binds K fdT ["_law_jar_here", "_law_many"] [] := FT.bindsN fun _ _ _ _ _ _ us hl => match us, hl with | [_, _], _ => rfl
  have GO : FnOk P w K mg base CX0 2 fO fdO ["_law_jar_here", "_law_some"] (spOf K) := ok_of FO FT gT gi gl
  have bO : Binds K fdO ["_law_jar_here", "_law_some"] [] := FO.bindsN fun _ _ _ _ _ _ us hl => match us, hl with | [_, _], _ => rfl
  refine F.ok scAny (fun vs H Q E h => ?_) (fun cdv A outer s H vs Q E hr h => ?_)
  · obtain ⟨J, hm, lS, lW, many, c, gs, us, ts, zs, rfl, _⟩ := h
    rfl
  · obtain ⟨J, hm, lS, lW, many, c, gs, us, ts, zs, rfl, hJ, hc, Dr, hmn, q⟩ := h
    have hr1 := hr.mono (show 1 ≤ 2 by decide)
    have hu1 : (A.deeper (envOfC "_law_any_log" (defScope (topAt iAny)) s.heap.objs.size f cdv)).units + 1 < cLine := by have := hr.un; omega
    refine ⟨_, PSs.nox (pss_cons (ps_par3 (i := 5) (j := 6) (l := 7) rfl scAny.nd rfl rfl rfl (by decide) (by decide) (by decide) rfl rfl rfl (pa_cons (pe_lst pa_nil) (pa_cons (pe_call GT hr1 rfl gT FT.kp bT .nil pass0 (pa_cons (pv 0) (pa_cons pe_int pa_nil))) (pa_cons pe_dnewK pa_nil))) (by rfl))
      (pss_cons (ps_for PassesOwn.never rfl (pi_range1 rfl gr (pa_cons (pv 4) pa_nil)) (pg_name (i := 8) scAny.nd rfl (Or.inl rfl))
        (pss_cons (ps_par3 (i := 9) (j := 10) (l := 11) rfl scAny.nd rfl rfl rfl (by decide) (by decide) (by decide) rfl rfl rfl (pa_cons (pe_call GT hr1 rfl gT FT.kp bT .nil pass0 (pa_cons (pv 0) (pa_cons pe_int pa_nil))) (pa_cons (pe_call GO hr rfl gO FO.kp bO .nil pass0 (pa_cons (pv 0) (pa_cons (pv 3) pa_nil))) (pa_cons (pe_call GO hr rfl gO FO.kp bO .nil pass0 (pa_cons (pv 0) (pa_cons (pv 2) pa_nil))) pa_nil))) (by rfl))
        (pss_one (ps_if (pt_cmpR op_lt (pv 9) pe_int (nomark _))
          (pss_cons (ps_dput hu1 (pv 7) (pv 10) (pe_ifExp (pt_cmpR op_lt (pv 9) pe_int (nomark _)) pe_str (pe_dget2 hu1 (pv 7) (pv 10) pe_str ⟨rfl, rfl, rfl, rfl⟩)) rfl)
          (pss_one (ps_expr (pe_bm PySem.F.plainAttrs_list PySem.F.slot_list_append PySem.F.type_list_append mt_append (pv 5) (pa_cons (pe_ix ix_list (pe_lst (pa_cons (pe_tup (pa_cons pe_str (pa_cons (pv 10) pa_nil))) (pa_cons (pe_tup (pa_cons pe_str (pa_cons (pv 10) pa_nil))) (pa_cons (pe_tup (pa_cons pe_str pa_nil)) pa_nil)))) (pv 9) (fun _ _ => rfl)) pa_nil)))))
          (pss_cons (ps_set (i := 12) scAny.nd rfl (Or.inl rfl) (pe_call GO hr rfl gO FO.kp bO .nil pass0 (pa_cons (pv 0) (pa_cons (pe_lst (pa_cons pe_str (pa_cons pe_str (pa_cons pe_str (pa_cons pe_str (pa_cons pe_str (pa_cons pe_str (pa_cons pe_non pa_nil)))))))) pa_nil))))
          (pss_cons (ps_if (PW.pt (pw_or (PW.pt (pw_and (pt_cmpR op_isN (pv 12) pe_non (nomark _)) (pw_and1 (pt_cmpR op_eq (pv 6) pe_int (nomark _)))))
              (pw_or1 (PW.pt (pw_and (pt_cmpR op_eq (pv 12) pe_str (nomark _)) (pw_and1 (pt_cmpR op_eq (pe_dget2 hu1 (pv 7) (pv 10) pe_str ⟨rfl, rfl, rfl, rfl⟩) (pe_dget hu1 (pv 1) (pe_ix ix_tup (pv 11) pe_int (fun _ _ => rfl)) (fun _ _ => rfl)) (nomark _))))))))
            (pss_one (ps_set (i := 12) scAny.nd rfl (Or.inl rfl) pe_str)) pss_nil)
          (pss_cons (ps_set (i := 6) scAny.nd rfl (Or.inl rfl) (pe_op op_sub (pv 6) (pe_callTy call_int1 (by rfl) gi (by decide +kernel) (pa_cons (pe_cmpR op_isN (pv 12) pe_non (nomark _)) pa_nil))))
          (pss_cons (ps_dput hu1 (pv 7) (pv 10) (pe_ifExp (pt_cmpR op_ne (pv 12) pe_str (nomark _)) (pe_dget hu1 (pv 1) (pe_ix ix_tup (pv 11) pe_int (fun _ _ => rfl)) (fun _ _ => rfl)) pe_str) rfl)
          (pss_one (ps_expr (pe_bm PySem.F.plainAttrs_list PySem.F.slot_list_append PySem.F.type_list_append mt_append (pv 5) (pa_cons (pe_tup (pa_cons pe_str (pa_cons (pv 10) (pa_cons (pv 11) (pa_cons (pv 12) pa_nil))))) pa_nil))))))))))))
      (pss_one (ps_ret (pe_callTy call_tuple_of (by rfl) gt (by decide +kernel) (pa_cons (pv 5) pa_nil)))))), ?_⟩
    have sl : sizeLine = 16777216 := sizeLine_eq
    have mC : ∀ t ∈ ts, valV (homeOf gs) (.inr t.1) = some (.str (hmOf gs t.1)) := fun t ht => home_at Dr.good (Dr.sit t ht).1
    have lus : us.length = ts.length := by rw [dpa_len Dr.sdp, List.length_map]
    have hmJ : hm ≠ J := fun z => by
      obtain ⟨m, s, k, e, _⟩ := hJ
      have := Dr.home
      rw [z, e] at this
      cases this
    have rh : dls [J] H hm = some (.dK (homeOf gs)) := dls_at Dr.home (by simp [hmJ])
    have rs : dls [J] H lS = some (.lst us) := dls_at Dr.some_ (by simp [Dr.sJ])
    have rw_ : dls [J] H lW = some (.lst (zs.map V.str)) := dls_at Dr.wks (by simp [Dr.wJ])
    have x0 : Sce J H c [J] (dls [J] H) H := Sce.start (Kp.refl J H) hJ
    refine ⟨by rw [sl]; decide, fun F0 nF => ?_⟩
    have F0J : F0 ≠ J := hJ.ne nF
    have x1 := x0.ext (o := .lst []) nF
    have hF1 : (upd H F0 (.lst [])) F0 = some (.lst []) := upd_same
    generalize upd H F0 (.lst []) = H1 at x1 hF1 ⊢
    refine ⟨_, rfl, J, 4, c, rfl, x1.jar, by omega, by decide, by decide, fun lf H2 l0 l4 kp2 j2 => ?_⟩
    have x2 := x1.call kp2 j2
    have hF2 := kp2 _ _ hF1 F0J
    refine fun d nd => ?_
    have dJ : d ≠ J := x2.jar.ne nd
    have dF : d ≠ F0 := fun z => by rw [z, hF2] at nd; cases nd
    have nd0 : H d = none := x2.none nd
    have x3 := x2.ext (o := .dK []) nd
    have hF3 : (upd H2 d (.dK [])) F0 = some (.lst []) := by rw [upd_ne (Ne.symm dF)]; exact hF2
    have op3 : OpD (upd H2 d (.dK [])) d (fun _ => "") 0 := OpD.nil upd_same
    generalize upd H2 d (.dK []) = H3 at x3 hF3 op3 ⊢
    clear x2 hF2 kp2 j2 nd x1 hF1 x0
    refine ⟨_, _, _, rfl, ?_⟩
    refine ⟨_, rfl, _, rfl, by omega, by omega, for_range (lo := 0) (n := many)
      (fun k σ H' => ∃ (vs : List V) (page : List Ev) (lf : Int) (fo : Str → Str) (a8 a9 a10 a11 a12 : Option V), σ = [some (.ref J), some (.ref hm), some (.ref lS), some (.ref lW), some (.int many), some (.ref F0), some (.int lf), some (.ref d), a8, a9, a10, a11, a12] ∧
        H' F0 = some (.lst vs) ∧ DpAll K (dls [d, F0, J] H') vs (page.map evD) ∧ page.length = k ∧ PgOk gs zs ts page ∧ 0 ≤ lf ∧ lf + ((page.filter untD).length : Int) ≤ 3 ∧ OpD H' d fo k ∧ Sce J H (c + 1 + 4 * k) [d, F0, J] (dls [J] H) H')
      ⟨[], [], lf, _, _, _, _, _, _, rfl, hF3, .nil, rfl, ⟨fun e he => absurd he (by simp), fun e he => absurd he (by simp), fun e he => absurd he (by simp)⟩, l0, by simp; omega, op3, x3⟩ ?_ ?_⟩
    · rintro k σ H4 hk ⟨vs, page, lf, fo, a8, a9, a10, a11, a12, rfl, hF4, dv4, lp, pg, lf0, lf3, op4, x4⟩
      have lvs : vs.length = k := by rw [dpa_len dv4, List.length_map, lp]
      refine ⟨_, rfl, J, 10, c + 1 + 4 * k, rfl, x4.jar, by omega, by decide, by decide, fun wy H5 y0 y10 kp5 j5 => ?_⟩
      have x5 := x4.call kp5 j5
      refine ⟨_, rfl, _, rfl, J, _, _, rfl, j5, by omega, .inl ⟨lW, zs.map V.str, rfl, Dr.wJ, x5.at rw_, by simpa using Dr.wne, by rw [List.length_map]; have := Dr.wle; omega, fun i v H6 hv kp6 j6 => ?_⟩⟩
      rw [List.getElem?_map] at hv
      obtain ⟨z, hz, rfl⟩ := Option.map_eq_some_iff.mp hv
      have hz := List.mem_of_getElem? hz
      have x6 := x5.call kp6 j6
      refine ⟨_, rfl, _, rfl, J, _, _, rfl, j6, by omega, .inl ⟨lS, us, rfl, Dr.sJ, x6.at rs, Dr.sne, by have := Dr.sle; omega, fun i2 v2 H7 hv2 kp7 j7 => ?_⟩⟩
      have hi2 : i2 < us.length := (List.getElem?_eq_some_iff.mp hv2).1
      obtain ⟨t, ht⟩ : ∃ t, ts[i2]? = some t := ⟨_, List.getElem?_eq_getElem (by omega)⟩
      obtain ⟨v2', hv2', dt0⟩ := dpa_at Dr.sdp i2 (thD t) (by rw [List.getElem?_map, ht]; rfl)
      obtain rfl := Option.some.inj (hv2'.symm.trans hv2)
      have htm := List.mem_of_getElem? ht
      have x7 := x6.call kp7 j7
      have kp47 := (kp5.trans kp6).trans kp7
      have hF7 : H7 F0 = some (.lst vs) := kp47 _ _ hF4 F0J
      have dv7 : DpAll K (dls [d, F0, J] H7) vs (page.map evD) := dpa_sm (dls_kp kp47 (by simp)) dv4
      have op7 := op4.kp kp47 dJ
      clear kp5 kp6 kp7 kp47 j5 j6 j7 x4 x5 x6 dv4 hF4 op4 hv hv2 hv2'
      refine ⟨_, _, _, rfl, ?_⟩
      refine ⟨_, rfl, _, _, rfl, rfl, _, rfl, ite2 (fun h3 => ?_) (fun h3 => ?_)⟩
      · have h3 : wy < 3 := of_decide_eq_true h3
        obtain ⟨kvs, hd7, lk7, hv7⟩ := op7
        apply by_key (Pf := fun H8 => ∃ g : Str, H8 = upd H7 d (.dK (putK kvs (.inr z) (.str g))))
        rotate_left
        · intro key
          refine ⟨_, rfl, _, _, rfl, rfl, _, rfl, ite2 (fun _ => ?_) (fun _ => ?_)⟩
          · exact ⟨_, rfl, _, rfl, d, _, rfl, DPut.k (k := .inr z) hd7 (by rw [sl]; omega), key _ ⟨_, rfl⟩⟩
          · refine ⟨_, rfl, d, rfl, .inl ⟨_, .inl hd7⟩, _, rfl, _, DGet.k (k := .inr z) hd7, ?_⟩
            rw [hv7 z]
            exact ⟨_, rfl, _, rfl, d, _, rfl, DPut.k (k := .inr z) hd7 (by rw [sl]; omega), key _ ⟨_, rfl⟩⟩
        · rintro H8 ⟨g, rfl⟩
          have op8 : OpD (upd H7 d (.dK (putK kvs (.inr z) (.str g)))) d (updF fo z g) (k + 1) := OpD.put lk7 hv7 upd_same
          have x8 := x7.put (l := d) (o := .dK (putK kvs (.inr z) (.str g))) (by simp) dJ nd0
          have hF8 : (upd H7 d (.dK (putK kvs (.inr z) (.str g)))) F0 = some (.lst vs) := by rw [upd_ne (Ne.symm dF)]; exact hF7
          have dv8 : DpAll K (dls [d, F0, J] (upd H7 d (.dK (putK kvs (.inr z) (.str g))))) vs (page.map evD) := by rw [dls_put (by simp)]; exact dv7
          generalize upd H7 d (.dK (putK kvs (.inr z) (.str g))) = H8 at op8 x8 hF8 dv8 ⊢
          refine ⟨_, rfl, .inl ⟨rfl, _, SqL.of hF8⟩, ?_⟩
          refine ⟨_, rfl, (by show (2 : Nat) ≤ sizeLine; decide), fun t1 n1 => ⟨_, rfl, (by show (2 : Nat) ≤ sizeLine; decide), fun t2 n2 => ⟨(by show (1 : Nat) ≤ sizeLine; decide), fun t3 n3 => ⟨(by show (3 : Nat) ≤ sizeLine; decide), fun L nL => ?_⟩⟩⟩⟩
          have s8 : Sm H8 (upd (upd (upd (upd H8 t1 (.tup [.str "fresh", .str z])) t2 (.tup [.str "gap", .str z])) t3 (.tup [.str "clear"])) L (.lst [.ref t1, .ref t2, .ref t3])) := (((upd_sm n1).trans (upd_sm n2)).trans (upd_sm n3)).trans (upd_sm nL)
          have e1 := upd_sm nL (o := .lst [.ref t1, .ref t2, .ref t3]) _ _ (upd_sm n3 (o := .tup [.str "clear"]) _ _ (upd_sm n2 (o := .tup [.str "gap", .str z]) _ _ (upd_same (H := H8) (a := t1) (o := .tup [.str "fresh", .str z]))))
          have e2 := upd_sm nL (o := .lst [.ref t1, .ref t2, .ref t3]) _ _ (upd_sm n3 (o := .tup [.str "clear"]) _ _ (upd_same (H := upd H8 t1 (.tup [.str "fresh", .str z])) (a := t2) (o := .tup [.str "gap", .str z])))
          have e3 := upd_sm nL (o := .lst [.ref t1, .ref t2, .ref t3]) _ _ (upd_same (H := upd (upd H8 t1 (.tup [.str "fresh", .str z])) t2 (.tup [.str "gap", .str z])) (a := t3) (o := .tup [.str "clear"]))
          have eL : (upd (upd (upd (upd H8 t1 (.tup [.str "fresh", .str z])) t2 (.tup [.str "gap", .str z])) t3 (.tup [.str "clear"])) L (.lst [.ref t1, .ref t2, .ref t3])) L = some (.lst [.ref t1, .ref t2, .ref t3]) := upd_same
          have nS : ∀ {b : Addr} {o : HO} {Hx : Hp}, Sm H8 Hx → Hx b = none → b ∉ [d, F0, J] := fun {b o Hx} s n => by
            simp only [List.mem_cons, List.not_mem_nil, or_false, not_or]
            refine ⟨fun q => ?_, fun q => ?_, fun q => ?_⟩
            · obtain ⟨_, h1, _⟩ := op8
              rw [q, s _ _ h1] at n
              cases n
            · rw [q, s _ _ hF8] at n
              cases n
            · obtain ⟨m, y, k, e, _⟩ := x8.jar
              rw [q, s _ _ e] at n
              cases n
          have m1 := nS (o := .tup []) (Sm.rfl' H8) n1
          have m2 := nS (o := .tup []) (upd_sm n1) n2
          have m3 := nS (o := .tup []) ((upd_sm n1).trans (upd_sm n2)) n3
          generalize upd (upd (upd (upd H8 t1 (.tup [.str "fresh", .str z])) t2 (.tup [.str "gap", .str z])) t3 (.tup [.str "clear"])) L (.lst [.ref t1, .ref t2, .ref t3]) = H9 at s8 e1 e2 e3 eL ⊢
          obtain ⟨e, ti, h1, h2, h3, h4, h5, h6⟩ : ∃ (e : Ev) (ti : Addr), EvOk gs e ∧ untD e = false ∧ (∀ w, wkOf e = some w → w = z) ∧ itOf e = none ∧ Dp K (dls [d, F0, J] H9) (.ref ti) (evD e) ∧ atI [V.ref t1, V.ref t2, V.ref t3] wy = some (.ref ti) := by
            have hy : wy = 0 ∨ wy = 1 ∨ wy = 2 := by omega
            rcases hy with rfl | rfl | rfl
            · exact ⟨.fresh z, t1, Dr.wnm z hz, rfl, fun w hw => by cases hw; rfl, rfl, .tup (SqT.of (dls_at e1 m1)) (.cons (.str _) (.cons (.str _) .nil)), rfl⟩
            · exact ⟨.gap z, t2, Dr.wnm z hz, rfl, fun w hw => by cases hw; rfl, rfl, .tup (SqT.of (dls_at e2 m2)) (.cons (.str _) (.cons (.str _) .nil)), rfl⟩
            · exact ⟨.clear, t3, trivial, rfl, (fun w hw => by cases hw), rfl, .tup (SqT.of (dls_at e3 m3)) (.cons (.str _) .nil), rfl⟩
          exact ⟨_, rfl, L, [.ref t1, .ref t2, .ref t3], wy, .ref ti, rfl, rfl, SqL.of eL, h6, F0, vs, .ref ti, rfl, rfl, s8 _ _ hF8, by rw [sl, lvs]; omega,
              vs ++ [.ref ti], page ++ [e], lf, updF fo z g, _, _, _, _, _, rfl, upd_same, by rw [dls_put (by simp), List.map_append]; exact dpa_app (dpa_sm (dls_mono s8) dv8) (.cons h5 .nil), by simp [lp], pg.add h1 (fun w hw => by rw [h3 w hw]; exact hz) (fun t ht => by rw [h4] at ht; cases ht), lf0, by rw [unt_add, h2]; simpa using lf3, (op8.sm s8).put_ne dF, ((x8.step s8).put (by simp) F0J nF).up (by omega)⟩
      · clear h3
        refine ⟨_, rfl, (by show (7 : Nat) ≤ sizeLine; decide), fun L nL => ?_⟩
        have x8 := x7.new (o := .lst [.str "pass", .str "pass", .str "fail", .str "fail", .str "cut", .str "skip", .non]) nL
        refine ⟨J, _, _, rfl, x8.jar, by omega, .inl ⟨L, _, rfl, x7.jar.ne nL, upd_same, by simp, by decide, fun i v H8 hv kp8 j8 => ?_⟩⟩
        obtain ⟨o, rfl, ho⟩ : ∃ o : Option Str, v = vO o ∧ toldB o = true := by
          have hm := List.mem_of_getElem? hv
          simp only [List.mem_cons, List.not_mem_nil, or_false] at hm
          rcases hm with rfl | rfl | rfl | rfl | rfl | rfl | rfl
          · exact ⟨some "pass", rfl, by decide⟩
          · exact ⟨some "pass", rfl, by decide⟩
          · exact ⟨some "fail", rfl, by decide⟩
          · exact ⟨some "fail", rfl, by decide⟩
          · exact ⟨some "cut", rfl, by decide⟩
          · exact ⟨some "skip", rfl, by decide⟩
          · exact ⟨none, rfl, rfl⟩
        have x9 := x8.call kp8 j8
        have hF8 : H8 F0 = some (.lst vs) := kp8 _ _ (upd_sm nL _ _ hF7) F0J
        have dv8 : DpAll K (dls [d, F0, J] H8) vs (page.map evD) := dpa_sm ((dls_new nL).trans (dls_kp kp8 (by simp))) dv7
        have op8 : OpD H8 d fo k := (op7.sm (upd_sm nL)).kp kp8 dJ
        have dt8 : Dp K (dls [d, F0, J] H8) v2' (thD t) := dp_sm x9.sm dt0
        clear kp8 x8 hv op7 dv7 hF7 x7 nL
        obtain ⟨b2, rfl⟩ := thD_ref dt8
        refine ifA_ok (s0 := some (.ref J)) (s2 := some (.ref lS)) (s3 := some (.ref lW)) (s4 := some (.int many)) (s5 := some (.ref F0)) (s8 := some (.int (0 + (k : Int)))) (s9 := some (.int wy)) (z := z) (t := t) (o := o) Dr.good (Dr.sit t htm) (x9.at rh) op8 (sqt_dls (th_sq dt8)) ho fun o' ho' hz' => ?_
        obtain ⟨kvs, hd8, lk8, hv8⟩ := op8
        have eI : ∃ u : Int, (if decide (vO o' = V.non) = true then (1 : Int) else 0) = u ∧ (o' = none → u = 1) ∧ (o' ≠ none → u = 0) := by
          cases o' with
          | none => exact ⟨1, rfl, fun _ => rfl, fun z => absurd rfl z⟩
          | some y => exact ⟨0, rfl, fun z => (by cases z), fun _ => rfl⟩
        obtain ⟨u, eu, u1, u0⟩ := eI
        refine ⟨_, rfl, _, rfl, rfl, .inr ⟨_, rfl, _, _, rfl, rfl, ?_⟩⟩
        rw [eu]
        apply by_key (Pf := fun H9 => ∃ g : Str, H9 = upd H8 d (.dK (putK kvs (.inr z) (.str g))))
        rotate_left
        · intro key
          refine ⟨_, rfl, scal_vO o', _, rfl, ite2 (fun _ => ?_) (fun _ => ?_)⟩
          · refine ⟨_, rfl, _, rfl, b2, [.str t.1, .int t.2], 0, .str t.1, rfl, rfl, sqt_dls (th_sq dt8), rfl, hm, _, rfl, .inl ⟨_, .inr t.1, .inl (x9.at rh), rfl, (mC t htm).symm⟩, ?_⟩
            exact ⟨_, rfl, _, rfl, d, _, rfl, DPut.k (k := .inr z) hd8 (by rw [sl]; omega), key _ ⟨_, rfl⟩⟩
          · exact ⟨_, rfl, _, rfl, d, _, rfl, DPut.k (k := .inr z) hd8 (by rw [sl]; omega), key _ ⟨_, rfl⟩⟩
        · rintro H9 ⟨g, rfl⟩
          have op9 : OpD (upd H8 d (.dK (putK kvs (.inr z) (.str g)))) d (updF fo z g) (k + 1) := OpD.put lk8 hv8 upd_same
          have x10 := x9.put (l := d) (o := .dK (putK kvs (.inr z) (.str g))) (by simp) dJ nd0
          have hF9 : (upd H8 d (.dK (putK kvs (.inr z) (.str g)))) F0 = some (.lst vs) := by rw [upd_ne (Ne.symm dF)]; exact hF8
          have dv9 : DpAll K (dls [d, F0, J] (upd H8 d (.dK (putK kvs (.inr z) (.str g))))) vs (page.map evD) := by rw [dls_put (by simp)]; exact dv8
          have dt9 : Dp K (dls [d, F0, J] (upd H8 d (.dK (putK kvs (.inr z) (.str g))))) (.ref b2) (thD t) := by rw [dls_put (by simp)]; exact dt8
          generalize upd H8 d (.dK (putK kvs (.inr z) (.str g))) = H9 at op9 x10 hF9 dv9 dt9 ⊢
          refine ⟨_, rfl, .inl ⟨rfl, _, SqL.of hF9⟩, ?_⟩
          refine ⟨_, rfl, _, rfl, _, rfl, (by show (4 : Nat) ≤ sizeLine; decide), fun q' nq => ?_⟩
          have qF : q' ≠ F0 := fun z => by rw [z, hF9] at nq; cases nq
          have qJ : q' ≠ J := x10.jar.ne nq
          have qd : q' ≠ d := fun z => by
            obtain ⟨_, h1, _⟩ := op9
            rw [z, h1] at nq
            cases nq
          have s9 := upd_sm (o := .tup [.str "run", .str z, .ref b2, vO o']) nq
          refine ⟨F0, vs, _, rfl, rfl, s9 _ _ hF9, by rw [sl, lvs]; omega, ?_⟩
          refine ⟨vs ++ [.ref q'], page ++ [.run z t o'], lf - u, updF fo z g, _, _, _, _, _, rfl, upd_same, ?_, by simp [lp], pg.add (e := .run z t o') ⟨Dr.wnm z hz, Dr.sit t htm, ho'⟩ (fun w hw => by cases hw; exact hz) (fun t' ht' => by cases ht'; exact htm), ?_, ?_, (op9.sm s9).put_ne dF, ((x10.step s9).put (by simp) F0J nF).up (by omega)⟩
          · rw [dls_put (by simp), List.map_append]
            exact dpa_app (dpa_sm (dls_mono s9) dv9) (.cons (ev_dp (dls_at upd_same (by simp [qF, qJ, qd])) (dp_sm (dls_mono s9) dt9)) .nil)
          · cases o' with
            | none =>
              have := hz' rfl
              rw [u1 rfl]
              omega
            | some y =>
              rw [u0 (by simp)]
              omega
          · rw [unt_add]
            cases o' with
            | none =>
              rw [u1 rfl, if_pos (show untD (.run z t none) = true from rfl)]
              omega
            | some y =>
              rw [u0 (by simp), if_neg (by simp [untD])]
              omega
    · rintro σ H4 ⟨vs, page, lf, fo, a8, a9, a10, a11, a12, rfl, hF4, dv4, lp, pg, lf0, lf3, op4, x4⟩
      refine ⟨_, rfl, F0, vs, rfl, .inl ⟨SqL.of hF4, fun p np => ?_⟩⟩
      have x5 := x4.new (o := .tup vs) np
      have pJ := x4.jar.ne np
      exact q p page _ x5.kp x5.jar (x4.none np) pJ (.tup (SqT.of (dls_at upd_same (by simp [pJ]))) (dpa_sm ((dls_new np).trans (dls_sub (by simp))) dv4)) lp pg (by omega)
end
end KW
namespace KW
open PySem PySem.Spec PyProof.Rows L2 KZ KS KP DC
/-! the law's _law_brought -/
/-- over an enumerate(tuple) -/
theorem for_enumT {K : PySem.W.Frag} {a : Addr} {xs : List V} {g : TG} {tb : TS} {D : Ends} {σ : L2.St} {H : Hp} (Pv : Nat → L2.St → Hp → Prop) (h0 : Pv 0 σ H) (hl : ∀ i σ H, i ≤ xs.length → Pv i σ H → SqT K H a xs)
    (hs : ∀ i x T σ H, xs[i]? = some x → Pv i σ H → H T = none → g (.ref T) σ (upd H T (.tup [.int (i : Nat), x])) fun σ2 H2 => tb { D with nx := Pv (i + 1), ct := Pv (i + 1), bk := D.nx } σ2 H2) (hd : ∀ σ H, Pv xs.length σ H → D.nx σ H) :
    ∃ W : Nat → Nat → L2.St → Hp → Prop, (∃ m, W 0 m σ H) ∧ ∀ i m σ H, W i m σ H →
      ((NL.IteT K a).stop i H ∧ D.nx σ H) ∨ ((NL.IteT K a).go i H ∧ ∃ N : L2.St → Hp → Prop, (∀ σ' H', N σ' H' → ∃ m', m' < m ∧ W (i + 1) m' σ' H') ∧ ∀ x H', (NL.IteT K a).yld i H x H' → g x σ H' fun σ2 H2 => tb { D with nx := N, ct := N, bk := D.nx } σ2 H2) := by
  refine ⟨fun i m σ H => m = xs.length - i ∧ i ≤ xs.length ∧ Pv i σ H, ⟨xs.length, by simp, Nat.zero_le _, h0⟩, ?_⟩
  rintro i m σ H ⟨rfl, hi, p⟩
  have q := hl i σ H hi p
  by_cases hlt : i < xs.length
  · refine .inr ⟨⟨xs, xs[i], q, List.getElem?_eq_getElem hlt⟩, Pv (i + 1), fun σ' H' p' => ⟨xs.length - (i + 1), by omega, rfl, hlt, p'⟩, fun x H' y => ?_⟩
    obtain ⟨T, x', rfl, nT, rfl, hx⟩ := y
    exact hs i x' T σ H (hx xs q) p nT
  · have : i = xs.length := by omega
    subst this
    exact .inl ⟨⟨xs, q, Nat.le_refl _⟩, hd σ H p⟩
mutual
theorem dp_nt {K : PySem.W.Frag} {H : Hp} {S : List Addr} (h : ∀ a ∈ S, ∀ vs, ¬ Rd H a (.tup vs)) : ∀ {v : V} {d : PyData}, noL d = true → Dp K H v d → Dp K (dls S H) v d
  | _, _, _, .non => .non
  | _, _, _, .bl b => .bl b
  | _, _, _, .int i => .int i
  | _, _, _, .str x => .str x
  | _, _, n, .lst _ _ => by cases n
  | _, _, n, .tup hs t => .tup (match hs with
      | .inl (.inl e) => .inl (.inl (dls_at e fun z => h _ z _ (.inl e)))
      | .inl (.inr ⟨o, e⟩) => .inl (.inr ⟨o, dls_at e fun z => h _ z _ (.inr ⟨o, e⟩)⟩)
      | .inr e => .inr e) (dpa_nt h n t)
theorem dpa_nt {K : PySem.W.Frag} {H : Hp} {S : List Addr} (h : ∀ a ∈ S, ∀ vs, ¬ Rd H a (.tup vs)) : ∀ {v : List V} {d : List PyData}, noLs d = true → DpAll K H v d → DpAll K (dls S H) v d
  | _, _, _, .nil => .nil
  | _, _, n, .cons a t => .cons (dp_nt h (Bool.and_eq_true_iff.mp n).1 a) (dpa_nt h (Bool.and_eq_true_iff.mp n).2 t)
end
theorem lst_nt {H : Hp} {a : Addr} {xs : List V} (h : H a = some (.lst xs)) : ∀ vs, ¬ Rd H a (.tup vs) := fun vs r => by
  rcases r with e | ⟨o, e⟩ <;> rw [h] at e <;> cases e
theorem dK_nt {H : Hp} {a : Addr} {kvs : List (L2.Key × V)} (h : H a = some (.dK kvs)) : ∀ vs, ¬ Rd H a (.tup vs) := fun vs r => by
  rcases r with e | ⟨o, e⟩ <;> rw [h] at e <;> cases e
/-- the walk's own things: what is open, what was brought, what is left of the filling -/
structure ScB (K : PySem.W.Frag) (H H' : Hp) (d F0 R0 : Addr) (us : List V) (acc : List PyData) (fo : Str → Str) (n : Nat) (rest : List Str) : Prop where
  hF : H' F0 = some (.lst us)
  dv : DpAll K (dls [R0, F0, d] H') us acc
  op : OpD H' d fo n
  hR : H' R0 = some (.lst (rest.map V.str))
  sm : Sm H (dls [R0, F0, d] H')
  dF : d ≠ F0
  dR : d ≠ R0
  FR : F0 ≠ R0
section
variable {K : PySem.W.Frag} {H H' : Hp} {d F0 R0 : Addr} {us : List V} {acc : List PyData} {fo : Str → Str} {n : Nat} {rest : List Str}
theorem ScB.step (h : ScB K H H' d F0 R0 us acc fo n rest) {H2 : Hp} (s : Sm H' H2) : ScB K H H2 d F0 R0 us acc fo n rest := ⟨s _ _ h.hF, dpa_sm (dls_mono s) h.dv, h.op.sm s, s _ _ h.hR, h.sm.trans (dls_mono s), h.dF, h.dR, h.FR⟩
theorem ScB.all (h : ScB K H H' d F0 R0 us acc fo n rest) : Sm H H' := h.sm.trans (dls_sm _ _)
theorem ScB.nt (h : ScB K H H' d F0 R0 us acc fo n rest) : ∀ a ∈ [R0, F0, d], ∀ vs, ¬ Rd H' a (.tup vs) := fun a ha => by
  simp only [List.mem_cons, List.not_mem_nil, or_false] at ha
  rcases ha with rfl | rfl | rfl
  · exact lst_nt h.hR
  · exact lst_nt h.hF
  · obtain ⟨kvs, e, _⟩ := h.op
    exact dK_nt e
theorem ScB.app (h : ScB K H H' d F0 R0 us acc fo n rest) {v : V} {D : PyData} (dv : Dp K H' v D) (nl : noL D = true) : ScB K H (upd H' F0 (.lst (us ++ [v]))) d F0 R0 (us ++ [v]) (acc ++ [D]) fo n rest :=
  ⟨upd_same, by rw [dls_put (by simp)]; exact dpa_app h.dv (.cons (dp_nt h.nt nl dv) .nil), h.op.put_ne h.dF, by rw [upd_ne (Ne.symm h.FR)]; exact h.hR, by rw [dls_put (by simp)]; exact h.sm, h.dF, h.dR, h.FR⟩
theorem ScB.put (h : ScB K H H' d F0 R0 us acc fo n rest) {kvs : List (L2.Key × V)} (hl : kvs.length ≤ n) (hv : ∀ z : Str, (valV kvs (.inr z)).getD (.str "") = .str (fo z)) (z g : Str) : ScB K H (upd H' d (.dK (putK kvs (.inr z) (.str g)))) d F0 R0 us acc (updF fo z g) (n + 1) rest :=
  ⟨by rw [upd_ne (Ne.symm h.dF)]; exact h.hF, by rw [dls_put (by simp)]; exact h.dv, OpD.put hl hv upd_same, by rw [upd_ne (Ne.symm h.dR)]; exact h.hR, by rw [dls_put (by simp)]; exact h.sm, h.dF, h.dR, h.FR⟩
theorem ScB.pop (h : ScB K H H' d F0 R0 us acc fo n rest) {r : List Str} : ScB K H (upd H' R0 (.lst (r.map V.str))) d F0 R0 us acc fo n r :=
  ⟨by rw [upd_ne h.FR]; exact h.hF, by rw [dls_put (by simp)]; exact h.dv, h.op.put_ne h.dR, upd_same, by rw [dls_put (by simp)]; exact h.sm, h.dF, h.dR, h.FR⟩
theorem ScB.up (h : ScB K H H' d F0 R0 us acc fo n rest) {m : Nat} (l : n ≤ m) : ScB K H H' d F0 R0 us acc fo m rest := ⟨h.hF, h.dv, h.op.up l, h.hR, h.sm, h.dF, h.dR, h.FR⟩
theorem seq0 {n : Nat} (h : 0 < n) : seqIndex? 0 n = some 0 := by
  unfold seqIndex?
  simp [h]
/-- out = rest.pop(0) if .. is None else .. -/
theorem out_ok {P : Program} {w : World} {ft : EV → Option Bool} {fe : EF} {D : Ends} {σ : L2.St} {ε : EV} {o : Option Str} {i j : Nat} (B : ScB K H H' d F0 R0 us acc fo n rest) (hE : ∀ {H4 : Hp}, Sm H H4 → ER P w K H4 σ ε) (h5 : σ[i]? = some (some (.ref R0))) (e1 : ft ε = some (noneB (outD o))) (e2 : fe ε = some (.d (outD o))) (hr : o = none → rest ≠ [])
    (k : ∀ (z : Str) (rest' : List Str) H2, ScB K H H2 d F0 R0 us acc fo n rest' → ((o = none ∧ rest = z :: rest') ∨ (o = some z ∧ rest' = rest)) → D.nx (σ.set j (some (.str z))) H2) :
    tAsg (tIf (tWT P w K ft) (tBM K "list" rPopAt (tVar i) (tCons (tC (.int 0)) tNil)) (tW P w K fe)) (gName j) D σ H' := by
  refine ⟨ε, _, hE B.all, e1, fun H9 s9 => ?_⟩
  have B9 := B.step s9
  cases o with
  | none =>
    obtain ⟨z, rest', er⟩ := List.exists_cons_of_ne_nil (hr rfl)
    refine ite_yes' rfl ⟨_, h5, .inl ⟨rfl, _, SqL.of B9.hR⟩, R0, _, 0, 0, .str z, rfl, rfl, B9.hR, by decide, by decide, by rw [er]; exact seq0 (by simp), by rw [er]; rfl, ?_⟩
    refine k z rest' _ ?_ (.inl ⟨rfl, er⟩)
    rw [er]
    exact B9.pop
  | some z =>
    refine ite_no' rfl ⟨ε, _, hE B9.all, e2, fun v H10 s10 rv => ?_⟩
    have ev : v = .str z := by
      cases rw_d rv
      rfl
    rw [ev]
    exact k z rest _ (B9.step s10) (.inr ⟨rfl, rfl⟩)
/-- found.append(e) of data -/
theorem tapp_ok {P : Program} {w : World} {g : EF} {D : Ends} {σ : L2.St} {ε : EV} {x : PyData} {i : Nat} (hσ : σ[i]? = some (some (.ref F0))) (hF : H' F0 = some (.lst us)) (hl : us.length < 10000) (E : ER P w K H' σ ε) (e : g ε = some (.d x))
    (k : ∀ v H2, Sm H' H2 → Dp K H2 v x → D.nx σ (upd H2 F0 (.lst (us ++ [v])))) : tDrop (tBM K "list" rAppend (tVar i) (tWA P w K (consF g nilF))) D σ H' := by
  refine ⟨_, hσ, .inl ⟨rfl, _, SqL.of hF⟩, ε, [.d x], E, cons_e e rfl, fun vs H2 s2 r2 => ?_⟩
  cases r2 with
  | cons r t =>
    cases t
    exact ⟨F0, us, _, rfl, rfl, s2 _ _ hF, by rw [sizeLine_eq]; omega, k _ H2 s2 (rw_d r)⟩
/-- if ..: found.append(..) -/
theorem ifapp_ok {P : Program} {w : World} {ft : EV → Option Bool} {g : EF} {D : Ends} {σ : L2.St} {ε : EV} {x : PyData} {b : Bool} {i : Nat} (B : ScB K H H' d F0 R0 us acc fo n rest) (hE : ∀ {H4 : Hp}, Sm H H4 → ER P w K H4 σ ε) (h4 : σ[i]? = some (some (.ref F0))) (e1 : ft ε = some b) (e2 : b = true → g ε = some (.d x)) (nl : noL x = true) (hl : us.length < 10000)
    (k : ∀ us' H2, ScB K H H2 d F0 R0 us' (acc ++ if b = true then [x] else []) fo n rest → us'.length ≤ us.length + 1 → D.nx σ H2) :
    tIfS (tWT P w K ft) (tDrop (tBM K "list" rAppend (tVar i) (tWA P w K (consF g nilF)))) tNext D σ H' := by
  refine ⟨ε, b, hE B.all, e1, fun H9 s9 => ?_⟩
  have B9 := B.step s9
  cases b with
  | true =>
    refine ite_yes (tapp_ok h4 B9.hF hl (hE B9.all) (e2 rfl) fun v H2 s2 dv => ?_)
    exact k _ _ ((B9.step s2).app dv nl) (by simp)
  | false =>
    refine ite_no (k us _ ?_ (by omega))
    rw [if_neg (by decide), List.append_nil]
    exact B9
theorem dput_ok {P : Program} {w : World} {fi fv : EF} {D : Ends} {σ : L2.St} {ε : EV} {z g : Str} {i : Nat} (B : ScB K H H' d F0 R0 us acc fo n rest) (hE : ∀ {H4 : Hp}, Sm H H4 → ER P w K H4 σ ε) (h3 : σ[i]? = some (some (.ref d))) (e1 : fi ε = some (.d (.str z))) (e2 : fv ε = some (.d (.str g))) (hl : n < 10000)
    (k : ∀ H2, ScB K H H2 d F0 R0 us acc (updF fo z g) (n + 1) rest → D.nx σ H2) : sDPut (tVar i) (tW P w K fi) (tW P w K fv) D σ H' := by
  refine ⟨ε, _, hE B.all, e2, fun v H1 s1 rv => ⟨_, h3, ε, _, hE (B.step s1).all, e1, fun u H2 s2 ru => ?_⟩⟩
  have ev : v = .str g := by
    cases rw_d rv
    rfl
  have eu : u = .str z := by
    cases rw_d ru
    rfl
  subst ev eu
  have B2 := (B.step s1).step s2
  obtain ⟨kvs, hd, lk1, hv⟩ := B2.op
  exact ⟨d, _, rfl, DPut.k (k := .inr z) hd (by rw [sizeLine_eq]; omega), k _ (B2.put lk1 hv z g)⟩
end
section
variable {ε : EV}
theorem and_e {f g : EV → Option Bool} {a b : Bool} (h : f ε = some a) (t : g ε = some b) : tAndF f g ε = some (a && b) := by
  cases a with
  | true => exact and_yes h t
  | false => exact and_no h
theorem ife_e {c : EV → Option Bool} {f g : EF} {b : Bool} {x y : Wv} (h : c ε = some b) (hf : f ε = some x) (hg : g ε = some y) : ifeF c f g ε = some (if b = true then x else y) := by
  unfold ifeF
  rw [h, Option.bind_some]
  cases b
  · exact hg
  · exact hf
end
theorem if_str {p : Prop} [Decidable p] {a b : Str} : (if decide p = true then Wv.d (.str a) else Wv.d (.str b)) = Wv.d (.str (if p then a else b)) := by
  by_cases h : p
  · rw [if_pos (decide_eq_true h), if_pos h]
  · rw [if_neg (by simp [h]), if_neg h]
theorem if_d {p : Prop} [Decidable p] {a b : PyData} : (if decide p = true then Wv.d a else Wv.d b) = Wv.d (if p then a else b) := by
  by_cases h : p
  · rw [if_pos (decide_eq_true h), if_pos h]
  · rw [if_neg (by simp [h]), if_neg h]
theorem map_app {x : Option (List PyData)} {as bs : List PyData} : (x.map fun l => bs ++ l).map (as ++ ·) = x.map ((as ++ bs) ++ ·) := by
  cases x <;> simp
theorem dstr {P : Program} {w : World} {K : PySem.W.Frag} {H : Hp} {v : V} {z : Str} (r : RW P w K H v (.d (.str z))) : v = .str z := by
  cases rw_d r
  rfl
theorem notin2_W (z a b : Str) : oNotIn (.d (.str z)) (.d (.tuple [.str a, .str b])) = some (bF (!decide (z = a ∨ z = b))) := by
  show (if (PyData.str z).plain = true ∧ PyData.plainAll ([a, b].map .str) = true ∧ min (PyData.depthAll ([a, b].map .str)) (PyData.str z).depth ≤ 20 then some (bF (true ^^ ([a, b].map PyData.str).any fun y => PyData.eqv y (.str z))) else none) = _
  rw [if_pos ⟨by simp [PyData.plain], plainAll_strs _, by rw [depthAll_strs]; simp⟩, Bool.true_xor, any_str]
  congr 3
  exact decide_eq_decide.mpr (by simp)
theorem goB_run {hm : Str → Str} {i : Nat} {fo : Str → Str} {rest rest' : List Str} {w z : Str} {t : Th} {o : Option Str} {p : List Ev} (h : (o = none ∧ rest = z :: rest') ∨ (o = some z ∧ rest' = rest)) :
    goB hm i fo rest (.run w t o :: p) = if z = "skip" ∧ fo w = hm t.1 then none else (goB hm (i + 1) (updF fo w (if z = "skip" then "" else hm t.1)) rest' p).map fun l => lettE hm i w t z (fo w) ++ l := by
  rcases h with ⟨rfl, rfl⟩ | ⟨rfl, rfl⟩
  · rfl
  · cases rest' <;> rfl
abbrev iBrought : Nat := 55
abbrev NBr : List Str := ["_law_home_here", "_law_page", "_law_fill", "_law_opened", "_law_found", "_law_rest", "_law_at", "_law_event", "_law_group", "_law_elder", "_law_out"]
theorem scBr : FnScope NBr ["_law_home_here", "_law_page", "_law_fill"] (defScope (topAt iBrought)) := ⟨rfl, rfl, rfl, by decide +kernel, rfl, by decide +kernel, by decide +kernel⟩
def spBrought (K : PySem.W.Frag) : Sp := fun vs H Q _ => ∃ (hm : Addr) (vp vf : V) (gs : List Grp) (page : List Ev) (f : List Str), vs = [.ref hm, vp, vf] ∧ H hm = some (.dK (homeOf gs)) ∧ GoodGs gs ∧ Dp K H vp (.tuple (page.map evD)) ∧ Dp K H vf (fillD f) ∧ (∀ e ∈ page, EvOk gs e) ∧ page.length ≤ 100 ∧ (page.filter untD).length ≤ f.length ∧ f.length ≤ 100 ∧
  (goB (hmOf gs) 0 (fun _ => "") f page = none → ∀ H', Sm H H' → Q .non H') ∧
  ∀ (l : Addr) (us : List V) (ds : List PyData) H', goB (hmOf gs) 0 (fun _ => "") f page = some ds → Sm H H' → H l = none → H' l = some (.lst us) → DpAll K (dls [l] H') us ds → Sm H (dls [l] H') → us.length ≤ 1000 → Q (.ref l) H'
section
variable {P : Program} {w : World} {K : PySem.W.Frag} {mg : Str → Option Value} {base : Heap}
theorem ok_brought {f : Addr} {fd : FuncData} (F : Fd K iBrought "_law_brought" f fd) (ge : mg "enumerate" = none) (gls : mg "list" = none) : FnOk P w K mg base CX0 1 f fd ["_law_home_here", "_law_page", "_law_fill"] (spBrought K) := by
  refine F.ok scBr (fun vs H Q E h => ?_) (fun cdv A outer s H vs Q E hr h => ?_)
  · obtain ⟨hm, vp, vf, gs, page, f, rfl, _⟩ := h
    rfl
  · obtain ⟨hm, vp, vf, gs, page, fl, rfl, hh, G, dp0, df0, ok, ln, lu, lf, qn, q⟩ := h
    have hu1 : (A.deeper (envOfC "_law_brought" (defScope (topAt iBrought)) s.heap.objs.size f cdv)).units + 1 < cLine := by have := hr.un; omega
    refine ⟨_, PSs.nox (pss_cons (ps_par3 (i := 3) (j := 4) (l := 5) rfl scBr.nd rfl rfl rfl (by decide) (by decide) (by decide) rfl rfl rfl (pa_cons pe_dnewK (pa_cons (pe_lst pa_nil) (pa_cons (pe_callTy call_list_of (by rfl) gls (by decide +kernel) (pa_cons (pv 2) pa_nil)) pa_nil))) (by rfl))
      (pss_cons (ps_for PassesOwn.never rfl (NL.pi_enumT rfl ge (pa_cons (pv 1) pa_nil)) (pg_tup rfl (pgs_cons (pg_name (i := 6) scBr.nd rfl (Or.inl rfl)) (pgs_cons (pg_name (i := 7) scBr.nd rfl (Or.inl rfl)) pgs_nil)))
        (pss_cons (ps_if (wt_cmp (NL.op_eqP (hu30 hr)) (m_eq false) (we_ix ix_seq m_ix (we_v (pv 7)) (we_c pe_int) (fun _ _ => rfl)) (we_c pe_str) (nomark _))
            (pss_one (ps_dput hu1 (pv 3) (we_ix ix_seq m_ix (we_v (pv 7)) (we_c pe_int) (fun _ _ => rfl)) pe_str rfl)) pss_nil)
        (pss_cons (ps_if (wt_cmp (NL.op_eqP (hu30 hr)) (m_eq false) (we_ix ix_seq m_ix (we_v (pv 7)) (we_c pe_int) (fun _ _ => rfl)) (we_c pe_str) (nomark _))
            (pss_cons (ps_dput hu1 (pv 3) (we_ix ix_seq m_ix (we_v (pv 7)) (we_c pe_int) (fun _ _ => rfl)) pe_str rfl)
            (pss_one (ps_expr (pe_bm PySem.F.plainAttrs_list PySem.F.slot_list_append PySem.F.type_list_append mt_append (pv 4) (wa_cons (we_tup (wa_cons (we_v (pv 6)) (wa_cons (we_ix ix_seq m_ix (we_v (pv 7)) (we_c pe_int) (fun _ _ => rfl)) (wa_cons (we_tup (wa_cons (we_c pe_str) (wa_cons (we_v (pv 6)) wa_nil))) wa_nil)))) wa_nil))))) pss_nil)
        (pss_one (ps_if (wt_cmp (NL.op_eqP (hu30 hr)) (m_eq false) (we_ix ix_seq m_ix (we_v (pv 7)) (we_c pe_int) (fun _ _ => rfl)) (we_c pe_str) (nomark _))
          (pss_cons (ps_par (i := 8) (j := 9) rfl scBr.nd rfl rfl (by decide) rfl rfl (pa_cons (pe_dget hu1 (pv 0) (we_ix ix_seq m_ix (we_ix ix_seq m_ix (we_v (pv 7)) (we_c pe_int) (fun _ _ => rfl)) (we_c pe_int) (fun _ _ => rfl)) (fun _ _ => rfl)) (pa_cons (pe_dget2 hu1 (pv 3) (we_ix ix_seq m_ix (we_v (pv 7)) (we_c pe_int) (fun _ _ => rfl)) pe_str ⟨rfl, rfl, rfl, rfl⟩) pa_nil)) (by rfl))
          (pss_cons (ps_set (i := 10) scBr.nd rfl (Or.inl rfl) (pe_ifExp (wt_cmp op_isN m_isN (we_ix ix_seq m_ix (we_v (pv 7)) (we_c pe_int) (fun _ _ => rfl)) (we_c pe_non) (nomark _)) (pe_bm PySem.F.plainAttrs_list PySem.F.slot_list_pop PySem.F.type_list_pop mt_popAt (pv 5) (pa_cons pe_int pa_nil)) (we_ix ix_seq m_ix (we_v (pv 7)) (we_c pe_int) (fun _ _ => rfl))))
          (pss_cons (ps_if (wt_ww (ww_and (wt_cmp (NL.op_eqP (hu30 hr)) (m_eq false) (we_v (pv 10)) (we_c pe_str) (nomark _)) (ww_and1 (wt_cmp (NL.op_eqP (hu30 hr)) (m_eq false) (we_v (pv 9)) (we_v (pv 8)) (nomark _))))) (pss_one (ps_ret pe_non)) pss_nil)
          (pss_cons (ps_if (wt_cmp (op_notInW (hu30 hr)) m_notIn (we_v (pv 9)) (we_tup (wa_cons (we_c pe_str) (wa_cons (we_v (pv 8)) wa_nil))) rfl)
              (pss_one (ps_expr (pe_bm PySem.F.plainAttrs_list PySem.F.slot_list_append PySem.F.type_list_append mt_append (pv 4) (wa_cons (we_tup (wa_cons (we_v (pv 6)) (wa_cons (we_ix ix_seq m_ix (we_v (pv 7)) (we_c pe_int) (fun _ _ => rfl)) (wa_cons (we_tup (wa_cons (we_c pe_str) (wa_cons (we_v (pv 9)) wa_nil))) wa_nil)))) wa_nil)))) pss_nil)
          (pss_cons (ps_if (wt_cmp (NL.op_neP (hu30 hr)) (m_eq true) (we_v (pv 9)) (we_v (pv 8)) (nomark _))
              (pss_one (ps_expr (pe_bm PySem.F.plainAttrs_list PySem.F.slot_list_append PySem.F.type_list_append mt_append (pv 4) (wa_cons (we_tup (wa_cons (we_v (pv 6)) (wa_cons (we_ix ix_seq m_ix (we_v (pv 7)) (we_c pe_int) (fun _ _ => rfl)) (wa_cons (we_tup (wa_cons (we_ife (wt_cmp (NL.op_eqP (hu30 hr)) (m_eq false) (we_v (pv 10)) (we_c pe_str) (nomark _)) (we_c pe_str) (we_c pe_str)) (wa_cons (we_tup (wa_cons (we_v (pv 8)) (wa_cons (we_c pe_int) wa_nil))) wa_nil))) wa_nil)))) wa_nil)))) pss_nil)
          (pss_cons (ps_dput hu1 (pv 3) (we_ix ix_seq m_ix (we_v (pv 7)) (we_c pe_int) (fun _ _ => rfl)) (we_ife (wt_cmp (NL.op_eqP (hu30 hr)) (m_eq false) (we_v (pv 10)) (we_c pe_str) (nomark _)) (we_c pe_str) (we_v (pv 8))) rfl)
          (pss_one (ps_if (wt_cmp (NL.op_neP (hu30 hr)) (m_eq true) (we_v (pv 10)) (we_c pe_str) (nomark _))
              (pss_one (ps_expr (pe_bm PySem.F.plainAttrs_list PySem.F.slot_list_append PySem.F.type_list_append mt_append (pv 4) (wa_cons (we_tup (wa_cons (we_v (pv 6)) (wa_cons (we_ix ix_seq m_ix (we_v (pv 7)) (we_c pe_int) (fun _ _ => rfl)) (wa_cons (we_ife (wt_cmp (NL.op_eqP (hu30 hr)) (m_eq false) (we_v (pv 10)) (we_c pe_str) (nomark _)) (we_tup (wa_cons (we_c pe_str) (wa_cons (we_v (pv 6)) wa_nil))) (we_tup (wa_cons (we_v (pv 10)) (wa_cons (we_ix ix_seq m_ix (we_v (pv 7)) (we_c pe_int) (fun _ _ => rfl)) wa_nil)))) wa_nil)))) wa_nil)))) pss_nil)))))))) pss_nil)))))
      (pss_one (ps_ret (pv 4))))), ?_⟩
    have sl : sizeLine = 16777216 := sizeLine_eq
    obtain ⟨a1, us1, rfl, sq1, du1⟩ : ∃ a1 us, vp = .ref a1 ∧ SqT K H a1 us ∧ DpAll K H us (page.map evD) := by
      cases dp0 with
      | tup hs t => exact ⟨_, _, rfl, hs, t⟩
    obtain ⟨a2, us2, rfl, sq2, du2⟩ : ∃ a2 us, vf = .ref a2 ∧ SqT K H a2 us ∧ DpAll K H us (fl.map .str) := by
      cases df0 with
      | tup hs t => exact ⟨_, _, rfl, hs, t⟩
    have e2 : us2 = fl.map V.str := dpa_strs du2
    subst e2
    have lus : us1.length = page.length := by rw [dpa_len du1, List.length_map]
    have mC : ∀ e ∈ page, ∀ t, itOf e = some t → valV (homeOf gs) (.inr t.1) = some (.str (hmOf gs t.1)) := fun e he t ht => by
      have := ok e he
      cases e <;> cases ht
      exact home_at G this.2.1.1
    refine fun d nd => ⟨by rw [sl]; decide, fun F0 nF => ⟨_, rfl, a2, _, rfl, .inr (sqt_sm ((upd_sm nd).trans (upd_sm nF)) sq2), fun R0 nR => ⟨_, _, _, rfl, ?_⟩⟩⟩
    have nF0 := sm_no (upd_sm nd) nF
    have nR0 := sm_no ((upd_sm nd).trans (upd_sm nF)) nR
    have dF : d ≠ F0 := fun z => by rw [← z, upd_same] at nF; cases nF
    have FR : F0 ≠ R0 := fun z => by rw [← z, upd_same] at nR; cases nR
    have dR : d ≠ R0 := fun z => by rw [← z, upd_ne dF, upd_same] at nR; cases nR
    have B0 : ScB K H (upd (upd (upd H d (.dK [])) F0 (.lst [])) R0 (.lst (fl.map V.str))) d F0 R0 [] [] (fun _ => "") 0 fl :=
      ⟨by rw [upd_ne FR, upd_same], .nil, OpD.nil (by rw [upd_ne dR, upd_ne dF, upd_same]), upd_same, fun b o e => dls_at (((upd_sm nd).trans (upd_sm nF)).trans (upd_sm nR) _ _ e) (by simp [ne_of_none e nd, ne_of_none e nF0, ne_of_none e nR0]), dF, dR, FR⟩
    generalize upd (upd (upd H d (.dK [])) F0 (.lst [])) R0 (.lst (fl.map V.str)) = H1 at B0 ⊢
    refine ⟨_, rfl, a1, us1, rfl, sqt_sm B0.all sq1, for_enumT (K := K) (a := a1) (xs := us1)
      (fun i σ H' => ∃ (us : List V) (acc : List PyData) (fo : Str → Str) (rest : List Str) (b6 b7 b8 b9 b10 : Option V), σ = [some (.ref hm), some (.ref a1), some (.ref a2), some (.ref d), some (.ref F0), some (.ref R0), b6, b7, b8, b9, b10] ∧ ScB K H H' d F0 R0 us acc fo i rest ∧
        goB (hmOf gs) 0 (fun _ => "") fl page = (goB (hmOf gs) i fo rest (page.drop i)).map (acc ++ ·) ∧ ((page.drop i).filter untD).length ≤ rest.length ∧ rest.length ≤ 100 ∧ us.length ≤ 4 * i)
      ⟨[], [], _, fl, _, _, _, _, _, rfl, B0, by rw [List.drop_zero]; simp, by rw [List.drop_zero]; exact lu, lf, Nat.zero_le _⟩
      (fun i σ H' _ ⟨_, _, _, _, _, _, _, _, _, _, B, _⟩ => sqt_sm B.all sq1) ?_ ?_⟩
    · rintro i x T σ H2 hx ⟨us, acc, fo, rest, b6, b7, b8, b9, b10, rfl, B, eG, lr, lr2, lU⟩ nT
      have hi : i < us1.length := (List.getElem?_eq_some_iff.mp hx).1
      obtain ⟨e, he⟩ : ∃ e, page[i]? = some e := ⟨_, List.getElem?_eq_getElem (by omega)⟩
      obtain ⟨x', hx', dx0⟩ := dpa_at du1 i (evD e) (by rw [List.getElem?_map, he]; rfl)
      obtain rfl := Option.some.inj (hx'.symm.trans hx)
      have hem := List.mem_of_getElem? he
      have edr : page.drop i = e :: page.drop (i + 1) := by
        rw [List.drop_eq_getElem_cons (by omega)]
        congr 1
        exact (List.getElem?_eq_some_iff.mp he).2
      rw [edr] at eG lr
      refine ⟨T, _, rfl, SqT.of upd_same, rfl, _, _, rfl, _, _, rfl, rfl, ?_⟩
      have B2 := B.step (upd_sm (o := .tup [.int (i : Nat), x']) nT)
      clear B
      generalize upd H2 T (.tup [.int (i : Nat), x']) = H3 at B2 ⊢
      have E3 : ∀ {H4 : Hp} {s0 s1 s2 s3 s4 s5 s8 s9 s10 : Option V}, Sm H H4 → ER P w K H4 [s0, s1, s2, s3, s4, s5, some (.int i), some x', s8, s9, s10] [none, none, none, none, none, none, some (.d (.int i)), some (.d (evD e)), none, none, none] := fun {H4 s0 s1 s2 s3 s4 s5 s8 s9 s10} s => er_no (er_no (er_no (er_no (er_no (er_no (er_yes (.d (.int _)) (er_yes (.d (dp_sm s dx0)) (er_no (er_no (er_no er_nil))))))))))
      have lk : ∀ {n : Nat}, n ≤ i → n < sizeLine := fun {n} h => by rw [sl]; omega
      cases e with
      | fresh w' =>
        refine ⟨_, true, E3 B2.all, rfl, fun H4 s4 => ite_yes ?_⟩
        have B4 := B2.step s4
        refine ⟨_, rfl, _, .d (.str w'), E3 B4.all, rfl, fun v H5 s5 rv => ?_⟩
        obtain rfl := dstr rv
        have B5 := B4.step s5
        obtain ⟨kvs, hd, lk1, hv⟩ := B5.op
        refine ⟨d, _, rfl, DPut.k (k := .inr w') hd (lk lk1), ?_⟩
        have B6 := B5.put lk1 hv w' ""
        refine ⟨_, false, E3 B6.all, rfl, fun H7 s7 => ite_no ⟨_, false, E3 (B6.step s7).all, rfl, fun H8 s8 => ite_no ?_⟩⟩
        exact ⟨us, acc, _, rest, _, _, _, _, _, rfl, (B6.step s7).step s8, eG, lr, lr2, by omega⟩
      | clear =>
        refine ⟨_, false, E3 B2.all, rfl, fun H4 s4 => ite_no ?_⟩
        refine ⟨_, false, E3 (B2.step s4).all, rfl, fun H7 s7 => ite_no ⟨_, false, E3 ((B2.step s4).step s7).all, rfl, fun H8 s8 => ite_no ?_⟩⟩
        exact ⟨us, acc, _, rest, _, _, _, _, _, rfl, (((B2.step s4).step s7).step s8).up (by omega), eG, lr, lr2, by omega⟩
      | gap w' =>
        refine ⟨_, false, E3 B2.all, rfl, fun H4 s4 => ite_no ?_⟩
        have B4 := B2.step s4
        refine ⟨_, true, E3 B4.all, rfl, fun H5 s5 => ite_yes ?_⟩
        have B5 := B4.step s5
        refine ⟨_, rfl, _, .d (.str w'), E3 B5.all, rfl, fun v H6 s6 rv => ?_⟩
        obtain rfl := dstr rv
        have B6 := B5.step s6
        obtain ⟨kvs, hd, lk1, hv⟩ := B6.op
        refine ⟨d, _, rfl, DPut.k (k := .inr w') hd (lk lk1), ?_⟩
        have B7 := B6.put lk1 hv w' ""
        refine tapp_ok rfl B7.hF (by omega) (E3 B7.all) (x := .tuple [.int i, .str w', .tuple [.str "gap", .int i]]) rfl fun v H8 s8 dv => ?_
        have B8 := (B7.step s8).app dv rfl
        refine ⟨_, false, E3 B8.all, rfl, fun H9 s9 => ite_no ?_⟩
        refine ⟨_, _, _, rest, _, _, _, _, _, rfl, B8.step s9, ?_, lr, lr2, by simp; omega⟩
        rw [eG]
        exact map_app (x := goB (hmOf gs) (i + 1) (updF fo w' "") rest (page.drop (i + 1))) (bs := [.tuple [.int i, .str w', .tuple [.str "gap", .int i]]])
      | run w' t o =>
        refine ⟨_, false, E3 B2.all, rfl, fun H4 s4 => ite_no ?_⟩
        have B4 := B2.step s4
        refine ⟨_, false, E3 B4.all, rfl, fun H5 s5 => ite_no ?_⟩
        have B5 := B4.step s5
        refine ⟨_, true, E3 B5.all, rfl, fun H6 s6 => ite_yes ?_⟩
        have B6 := B5.step s6
        refine ⟨_, rfl, _, .d (.str t.1), E3 B6.all, rfl, fun v H7 s7 rv => ?_⟩
        obtain rfl := dstr rv
        have B7 := B6.step s7
        refine ⟨hm, _, rfl, .inl ⟨_, .inr t.1, .inl (B7.all _ _ hh), rfl, (mC _ hem t rfl).symm⟩, ?_⟩
        obtain ⟨kvs, hd, lk1, hv⟩ := B7.op
        refine ⟨_, rfl, d, rfl, .inl ⟨_, .inl hd⟩, _, .d (.str w'), E3 B7.all, rfl, fun v H8 s8 rv => ?_⟩
        obtain rfl := dstr rv
        have B8 := B7.step s8
        refine ⟨_, DGet.k (k := .inr w') (s8 _ _ hd), ?_⟩
        rw [hv w']
        refine ⟨_, _, rfl, ?_⟩
        clear B2 B4 B5 B6 B7 hd hv lk1
        refine out_ok (o := o) B8 E3 rfl rfl rfl (fun ho z => ?_) fun z rest' H9 B9 ho => ?_
        · rw [z, ho, List.filter_cons_of_pos rfl] at lr
          simp at lr
        have E4 : ∀ {H4 : Hp}, Sm H H4 → ER P w K H4 [some (.ref hm), some (.ref a1), some (.ref a2), some (.ref d), some (.ref F0), some (.ref R0), some (.int i), some x', some (.str (hmOf gs t.1)), some (.str (fo w')), some (.str z)] [none, none, none, none, none, none, some (.d (.int i)), some (.d (evD (.run w' t o))), some (.d (.str (hmOf gs t.1))), some (.d (.str (fo w'))), some (.d (.str z))] := fun {H4} s => er_no (er_no (er_no (er_no (er_no (er_no (er_yes (.d (.int _)) (er_yes (.d (dp_sm s dx0)) (er_yes (.d (.str _)) (er_yes (.d (.str _)) (er_yes (.d (.str _)) er_nil))))))))))
        rw [goB_run ho] at eG
        refine ⟨_, decide (z = "skip") && decide (fo w' = hmOf gs t.1), E4 B9.all, ?_, fun H10 s10 => ?_⟩
        · exact and_e (test_e (cmp_e rfl rfl (eqs_W z "skip"))) (test_e (cmp_e rfl rfl (eqs_W (fo w') (hmOf gs t.1))))
        have B10 := B9.step s10
        by_cases hs : z = "skip" ∧ fo w' = hmOf gs t.1
        · rw [if_pos hs] at eG
          exact ite_yes' (by rw [hs.1, hs.2]; simp) (qn eG H10 B10.all)
        rw [if_neg hs] at eG
        refine ite_no' (by simpa using hs) ?_
        refine ifapp_ok (x := .tuple [.int i, .str w', .tuple [.str "close", .str (fo w')]]) (b := !decide (fo w' = "" ∨ fo w' = hmOf gs t.1)) B10 E4 rfl ?_ (fun _ => rfl) rfl (by omega) fun us1' H11 B11 l11 => ?_
        · exact test_e (cmp_e rfl rfl (notin2_W (fo w') "" (hmOf gs t.1)))
        refine ifapp_ok (x := .tuple [.int i, .str w', .tuple [.str (if z = "skip" then "fail" else "pass"), thD (hmOf gs t.1, 0)]]) (b := !decide (fo w' = hmOf gs t.1)) B11 E4 rfl ?_ (fun _ => ?_) rfl (by omega) fun us2' H12 B12 l12 => ?_
        · exact test_e (cmp_e rfl rfl (eqn_W (fo w') (hmOf gs t.1)))
        · have e1 := ife_e (f := cF (sc (V.str "fail"))) (g := cF (sc (V.str "pass"))) (test_e (cmp_e (ε := [none, none, none, none, none, none, some (.d (.int i)), some (.d (evD (.run w' t o))), some (.d (.str (hmOf gs t.1))), some (.d (.str (fo w'))), some (.d (.str z))]) (f := vF 10) (g := cF (sc (V.str "skip"))) rfl rfl (eqs_W z "skip"))) rfl rfl
          rw [show sc (V.str "fail") = .str "fail" from rfl, show sc (V.str "pass") = .str "pass" from rfl, if_str] at e1
          exact tup_e (cons_e rfl (cons_e rfl (cons_e (tup_e (cons_e e1 (cons_e rfl rfl)) rfl (show (2 : Nat) ≤ 1000 by decide)) rfl))) rfl (show (3 : Nat) ≤ 1000 by decide)
        refine dput_ok (z := w') (g := if z = "skip" then "" else hmOf gs t.1) B12 E4 rfl rfl ?_ (by omega) fun H13 B13 => ?_
        · have e1 := ife_e (f := cF (sc (V.str ""))) (g := vF 8) (test_e (cmp_e (ε := [none, none, none, none, none, none, some (.d (.int i)), some (.d (evD (.run w' t o))), some (.d (.str (hmOf gs t.1))), some (.d (.str (fo w'))), some (.d (.str z))]) (f := vF 10) (g := cF (sc (V.str "skip"))) rfl rfl (eqs_W z "skip"))) rfl rfl
          rw [show sc (V.str "") = .str "" from rfl, if_str] at e1
          exact e1
        refine ifapp_ok (x := .tuple [.int i, .str w', if z = "cut" then .tuple [.str "cut", .int i] else .tuple [.str z, thD t]]) (b := !decide (z = "skip")) B13 E4 rfl ?_ (fun _ => ?_) ?_ (by omega) fun us3' H14 B14 l14 => ?_
        · exact test_e (cmp_e rfl rfl (eqn_W z "skip"))
        · have e1 := ife_e (f := tupF (consF (cF (sc (V.str "cut"))) (consF (vF 6) nilF))) (g := tupF (consF (vF 10) (consF (opF (vF 7) (cF (sc (.int 2))) oIx) nilF))) (test_e (cmp_e (ε := [none, none, none, none, none, none, some (.d (.int i)), some (.d (evD (.run w' t o))), some (.d (.str (hmOf gs t.1))), some (.d (.str (fo w'))), some (.d (.str z))]) (f := vF 10) (g := cF (sc (V.str "cut"))) rfl rfl (eqs_W z "cut"))) (x := .d (.tuple [.str "cut", .int i])) (y := .d (.tuple [.str z, thD t])) rfl rfl
          rw [if_d] at e1
          exact tup_e (cons_e rfl (cons_e rfl (cons_e e1 rfl))) rfl (show (3 : Nat) ≤ 1000 by decide)
        · by_cases hc : z = "cut"
          · rw [if_pos hc]
            rfl
          · rw [if_neg hc]
            rfl
        refine ⟨us3', _, _, rest', _, _, _, _, _, rfl, B14, ?_, ?_, ?_, by omega⟩
        · rw [eG, map_app]
          congr 2
          unfold lettE
          by_cases c1 : fo w' = hmOf gs t.1
          · have c2 : z ≠ "skip" := fun c => hs ⟨c, c1⟩
            simp [c1, c2]
          · by_cases c0 : fo w' = ""
            · by_cases c2 : z = "skip" <;> simp [c1, c2, c0] <;> simp [← c0, c1]
            · by_cases c2 : z = "skip" <;> simp [c1, c2, c0]
        · rcases ho with ⟨rfl, rfl⟩ | ⟨rfl, rfl⟩
          · rw [List.filter_cons_of_pos rfl] at lr
            simp at lr
            omega
          · rw [List.filter_cons_of_neg (by simp [untD])] at lr
            exact lr
        · rcases ho with ⟨rfl, rfl⟩ | ⟨rfl, rfl⟩
          · simp at lr2
            omega
          · exact lr2
    · rintro σ H2 ⟨us, acc, fo, rest, b6, b7, b8, b9, b10, rfl, B, eG, lr, lr2, lU⟩
      rw [lus, List.drop_length] at eG
      have eG : goB (hmOf gs) 0 (fun _ => "") fl page = some acc := by rw [eG]; simp [goB]
      refine ⟨_, rfl, q F0 us acc H2 eG B.all nF0 B.hF (dpa_sm (dls_sub (by simp)) B.dv) (B.sm.trans (dls_sub (by simp))) (by omega)⟩
end
end KW
namespace KW
open PySem PySem.Spec PyProof.Rows L2 KZ KS KP DC
/-! told_of, run_letters, letters_of -/
/-- over an enumerate(list) -/
theorem for_enumL {K : PySem.W.Frag} {a : Addr} {xs : List V} {g : TG} {tb : TS} {D : Ends} {σ : L2.St} {H : Hp} (Pv : Nat → L2.St → Hp → Prop) (h0 : Pv 0 σ H) (hl : ∀ i σ H, i ≤ xs.length → Pv i σ H → SqL K H a xs)
    (hs : ∀ i x T σ H, xs[i]? = some x → Pv i σ H → H T = none → g (.ref T) σ (upd H T (.tup [.int (i : Nat), x])) fun σ2 H2 => tb { D with nx := Pv (i + 1), ct := Pv (i + 1), bk := D.nx } σ2 H2) (hd : ∀ σ H, Pv xs.length σ H → D.nx σ H) :
    ∃ W : Nat → Nat → L2.St → Hp → Prop, (∃ m, W 0 m σ H) ∧ ∀ i m σ H, W i m σ H →
      ((Ite K a).stop i H ∧ D.nx σ H) ∨ ((Ite K a).go i H ∧ ∃ N : L2.St → Hp → Prop, (∀ σ' H', N σ' H' → ∃ m', m' < m ∧ W (i + 1) m' σ' H') ∧ ∀ x H', (Ite K a).yld i H x H' → g x σ H' fun σ2 H2 => tb { D with nx := N, ct := N, bk := D.nx } σ2 H2) := by
  refine ⟨fun i m σ H => m = xs.length - i ∧ i ≤ xs.length ∧ Pv i σ H, ⟨xs.length, by simp, Nat.zero_le _, h0⟩, ?_⟩
  rintro i m σ H ⟨rfl, hi, p⟩
  have q := hl i σ H hi p
  by_cases hlt : i < xs.length
  · refine .inr ⟨⟨xs, xs[i], q, List.getElem?_eq_getElem hlt⟩, Pv (i + 1), fun σ' H' p' => ⟨xs.length - (i + 1), by omega, rfl, hlt, p'⟩, fun x H' y => ?_⟩
    obtain ⟨T, x', rfl, nT, rfl, hx⟩ := y
    exact hs i x' T σ H (hx xs q) p nT
  · have : i = xs.length := by omega
    subst this
    exact .inl ⟨⟨xs, q, Nat.le_refl _⟩, hd σ H p⟩
/-- a list of one's own that data are gathered in -/
structure LsB (K : PySem.W.Frag) (H H' : Hp) (F0 : Addr) (us : List V) (acc : List PyData) : Prop where
  nF : H F0 = none
  hF : H' F0 = some (.lst us)
  dv : DpAll K (dls [F0] H') us acc
  sm : Sm H (dls [F0] H')
section
variable {K : PySem.W.Frag} {H H' : Hp} {F0 : Addr} {us : List V} {acc : List PyData}
theorem LsB.new (nF : H F0 = none) : LsB K H (upd H F0 (.lst [])) F0 [] [] := ⟨nF, upd_same, .nil, fun b o e => dls_at (upd_sm nF _ _ e) (by simp [ne_of_none e nF])⟩
theorem LsB.step (h : LsB K H H' F0 us acc) {H2 : Hp} (s : Sm H' H2) : LsB K H H2 F0 us acc := ⟨h.nF, s _ _ h.hF, dpa_sm (dls_mono s) h.dv, h.sm.trans (dls_mono s)⟩
theorem LsB.all (h : LsB K H H' F0 us acc) : Sm H H' := h.sm.trans (dls_sm _ _)
theorem LsB.len (h : LsB K H H' F0 us acc) : us.length = acc.length := dpa_len h.dv
theorem LsB.app' (h : LsB K H H' F0 us acc) {v : V} {D : PyData} (dv : Dp K (dls [F0] H') v D) : LsB K H (upd H' F0 (.lst (us ++ [v]))) F0 (us ++ [v]) (acc ++ [D]) :=
  ⟨h.nF, upd_same, by rw [dls_put (by simp)]; exact dpa_app h.dv (.cons dv .nil), by rw [dls_put (by simp)]; exact h.sm⟩
theorem LsB.app (h : LsB K H H' F0 us acc) {v : V} {D : PyData} (dv : Dp K H' v D) (nl : noL D = true) : LsB K H (upd H' F0 (.lst (us ++ [v]))) F0 (us ++ [v]) (acc ++ [D]) := h.app' (dp_le (le1 h.hF) nl dv)
/-- l.append(e) of data -/
theorem lapp_ok {P : Program} {w : World} {g : EF} {D : Ends} {σ : L2.St} {ε : EV} {x : PyData} {i : Nat} (B : LsB K H H' F0 us acc) (hE : ∀ {H4 : Hp}, Sm H H4 → ER P w K H4 σ ε) (hσ : σ[i]? = some (some (.ref F0))) (e : g ε = some (.d x)) (nl : noL x = true) (hl : acc.length < 10000)
    (k : ∀ us' H2, LsB K H H2 F0 us' (acc ++ [x]) → D.nx σ H2) : tDrop (tBM K "list" rAppend (tVar i) (tWA P w K (consF g nilF))) D σ H' := by
  have := B.len
  exact tapp_ok hσ B.hF (by omega) (hE B.all) e fun v H2 s2 dv => k _ _ ((B.step s2).app dv nl)
/-- if ..: l.append(..) -/
theorem lifapp_ok {P : Program} {w : World} {ft : EV → Option Bool} {g : EF} {D : Ends} {σ : L2.St} {ε : EV} {x : PyData} {b : Bool} {i : Nat} (B : LsB K H H' F0 us acc) (hE : ∀ {H4 : Hp}, Sm H H4 → ER P w K H4 σ ε) (h4 : σ[i]? = some (some (.ref F0))) (e1 : ft ε = some b) (e2 : b = true → g ε = some (.d x)) (nl : noL x = true) (hl : acc.length < 10000)
    (k : ∀ us' H2, LsB K H H2 F0 us' (acc ++ if b = true then [x] else []) → D.nx σ H2) :
    tIfS (tWT P w K ft) (tDrop (tBM K "list" rAppend (tVar i) (tWA P w K (consF g nilF)))) tNext D σ H' := by
  refine ⟨ε, b, hE B.all, e1, fun H9 s9 => ?_⟩
  have B9 := B.step s9
  cases b with
  | true => exact ite_yes (lapp_ok B9 hE h4 (e2 rfl) nl hl k)
  | false =>
    refine ite_no (k us _ ?_)
    rw [if_neg (by decide), List.append_nil]
    exact B9
/-- if ..: x = ..; l.append(..) -/
theorem lif2_ok {P : Program} {w : World} {ft : EV → Option Bool} {fs g : EF} {D : Ends} {σ : L2.St} {ε ε2 : EV} {x : PyData} {y : Wv} {b : Bool} {i j : Nat} {s8 : Option V} (B : LsB K H H' F0 us acc) (hE : ∀ {H4 : Hp}, Sm H H4 → ER P w K H4 σ ε) (hs : σ.set j s8 = σ) (h4 : ∀ v, (σ.set j v)[i]? = some (some (.ref F0))) (e1 : ft ε = some b) (e0 : fs ε = some y)
    (hE2 : ∀ {v : V} {H4 : Hp}, Sm H H4 → RW P w K H4 v y → ER P w K H4 (σ.set j (some v)) ε2) (e2 : b = true → g ε2 = some (.d x)) (nl : noL x = true) (hl : acc.length < 10000)
    (k : ∀ us' H2 s, LsB K H H2 F0 us' (acc ++ if b = true then [x] else []) → D.nx (σ.set j s) H2) :
    tIfS (tWT P w K ft) (tSeq (tAsg (tW P w K fs) (gName j)) (tDrop (tBM K "list" rAppend (tVar i) (tWA P w K (consF g nilF))))) tNext D σ H' := by
  refine ⟨ε, b, hE B.all, e1, fun H9 s9 => ?_⟩
  have B9 := B.step s9
  cases b with
  | true =>
    refine ite_yes ⟨ε, y, hE B9.all, e0, fun v H8 s8' rv => ?_⟩
    have B8 := B9.step s8'
    have := B8.len
    exact tapp_ok (σ := σ.set j (some v)) (h4 _) B8.hF (by omega) (hE2 B8.all rv) (e2 rfl) fun v H2 s2 dv => k _ _ _ ((B8.step s2).app dv nl)
  | false =>
    refine ite_no ?_
    have := k us H9 s8 (by rw [if_neg (by decide), List.append_nil]; exact B9)
    rw [hs] at this
    exact this
end
theorem oIx_at' {ds : List PyData} {n : Nat} {d : PyData} (e : ds[n]? = some d) : oIx (.d (.tuple ds)) (.d (.int n)) = some (.d d) := by
  have hl := (List.getElem?_eq_some_iff.mp e).1
  show (some (n : Int)).bind (fun i => (L2.atI ds i).map Wv.d) = _
  rw [Option.bind_some, atI_nat e]
  rfl
abbrev iTold : Nat := 31
abbrev iRunL : Nat := 33
abbrev iLets : Nat := 32
abbrev NTo : List Str := ["events", "filling", "told", "used", "event"]
theorem scTold : FnScope NTo ["events", "filling"] (defScope (topAt iTold)) := ⟨rfl, rfl, rfl, by decide +kernel, rfl, by decide +kernel, by decide +kernel⟩
def spTold (K : PySem.W.Frag) : Sp := fun vs H Q _ => ∃ (v0 v1 : V) (page : List Ev) (f : List Str), vs = [v0, v1] ∧ Dp K H v0 (.tuple (page.map evD)) ∧ Dp K H v1 (fillD f) ∧ page.length ≤ 100 ∧ f.length ≤ 100 ∧ (page.filter untD).length ≤ f.length ∧
  ∀ v H', Sm H H' → Dp K H' v (.tuple ((toldP page f).map evD)) → Q v H'
section
variable {P : Program} {w : World} {K : PySem.W.Frag} {mg : Str → Option Value} {base : Heap} {CS : Addr}
theorem ok_told {f : Addr} {fd : FuncData} (F : Fd K iTold "told_of" f fd) (hunt : Pu P w K mg base 1 "_is_untold" 1 semUnt) (gt : mg "tuple" = none) : FnOk P w K mg base CX0 2 f fd ["events", "filling"] (spTold K) := by
  refine F.ok scTold (fun vs H Q E h => ?_) (fun cdv A outer s H vs Q E hr h => ?_)
  · obtain ⟨v0, v1, page, f, rfl, _⟩ := h
    rfl
  · obtain ⟨v0, v1, page, fl, rfl, d0, d1, ln, lf, lu, q⟩ := h
    refine ⟨_, PSs.nox (pss_cons (ps_set (i := 2) scTold.nd rfl (Or.inl rfl) (pe_lst pa_nil))
      (pss_cons (ps_set (i := 3) scTold.nd rfl (Or.inl rfl) pe_int)
      (pss_cons (ps_for PassesOwn.never rfl (pi_tup (pv 0)) (pg_name (i := 4) scTold.nd rfl (Or.inl rfl))
        (pss_one (ps_if (wt_val (we_call hunt hr (by decide) (by rfl) (wa_cons (we_v (pv 4)) wa_nil)))
          (pss_cons (ps_expr (pe_bm PySem.F.plainAttrs_list PySem.F.slot_list_append PySem.F.type_list_append mt_append (pv 2) (wa_cons (we_op op_catA m_cat (we_slT (we_v (pv 4)) wo_none (wo_some (we_c pe_int))) (we_tup (wa_cons (we_ix ix_seq m_ix (we_v (pv 1)) (we_v (pv 3)) (fun _ _ => rfl)) wa_nil))) wa_nil)))
          (pss_one (ps_aug (i := 3) scTold.nd rfl (Or.inl rfl) pe_int ip_add)))
          (pss_one (ps_expr (pe_bm PySem.F.plainAttrs_list PySem.F.slot_list_append PySem.F.type_list_append mt_append (pv 2) (wa_cons (we_v (pv 4)) wa_nil)))))))
      (pss_one (ps_ret (pe_callTy call_tuple_of (by rfl) gt (by decide +kernel) (pa_cons (pv 2) pa_nil))))))), ?_⟩
    have sl : sizeLine = 16777216 := sizeLine_eq
    obtain ⟨a0, us0, rfl, sq0, du0⟩ : ∃ a us, v0 = .ref a ∧ SqT K H a us ∧ DpAll K H us (page.map evD) := by
      cases d0 with
      | tup hs t => exact ⟨_, _, rfl, hs, t⟩
    have lus : us0.length = page.length := by rw [dpa_len du0, List.length_map]
    refine ⟨by rw [sl]; exact Nat.zero_le _, fun F0 nF => ?_⟩
    have B0 : LsB K H (upd H F0 (.lst [])) F0 [] [] := .new nF
    generalize upd H F0 (.lst []) = H1 at B0 ⊢
    refine ⟨_, rfl, a0, rfl, ⟨us0, sqt_sm B0.all sq0⟩, for_tup (K := K) (a := a0) (xs := us0)
      (fun i σ H' => ∃ (us : List V) (b4 : Option V), σ = [some (.ref a0), some v1, some (.ref F0), some (.int ((page.take i).filter untD).length), b4] ∧ LsB K H H' F0 us ((toldP (page.take i) fl).map evD))
      ⟨[], _, rfl, B0⟩ (fun i σ H' _ ⟨_, _, _, B⟩ => sqt_sm B.all sq0) ?_ ?_⟩
    · rintro i x σ H2 hx ⟨us, b4, rfl, B⟩
      have hi : i < us0.length := (List.getElem?_eq_some_iff.mp hx).1
      obtain ⟨e, he⟩ : ∃ e, page[i]? = some e := ⟨_, List.getElem?_eq_getElem (by omega)⟩
      obtain ⟨x', hx', dx0⟩ := dpa_at du0 i (evD e) (by rw [List.getElem?_map, he]; rfl)
      obtain rfl := Option.some.inj (hx'.symm.trans hx)
      have lt := toldP_len (page.take i) fl
      have l1 : (page.take i).length ≤ 100 := Nat.le_trans (List.length_take_le ..) (by omega)
      have un : untD e = true → ((page.take i).filter untD).length < fl.length := fun hu => by
        have : ((page.take (i + 1)).filter untD).length ≤ (page.filter untD).length := List.Sublist.length_le ((List.take_sublist (i + 1) page).filter _)
        rw [take1 he, unt_add, if_pos hu] at this
        omega
      rw [take1 he, toldP_snoc, List.map_append, unt_add]
      generalize ((page.take i).filter untD).length = n at un ⊢
      generalize toldP (page.take i) fl = tp at B lt ⊢
      have E1 : ∀ {H4 : Hp}, Sm H H4 → ER P w K H4 [some (.ref a0), some v1, some (.ref F0), some (.int n), some x'] [none, some (.d (fillD fl)), none, some (.d (.int n)), some (.d (evD e))] := fun {H4} s => er_no (er_yes (.d (dp_sm s d1)) (er_no (er_yes (.d (.int _)) (er_yes (.d (dp_sm s dx0)) er_nil))))
      refine ⟨_, untD e, E1 B.all, ?_, fun H3 s3 => ?_⟩
      · refine test_e (b := untD e) ?_
        show (evOf (evD e)).map (fun e => bF (untD e)) = _
        rw [evOf_D]
        rfl
      have B3 := B.step s3
      cases hu : untD e with
      | true =>
        have hn := un hu
        rw [if_pos rfl, if_pos rfl]
        obtain ⟨w', t, rfl⟩ : ∃ w' t, e = .run w' t none := by
          cases e with
          | run w' t o =>
            cases o with
            | none => exact ⟨w', t, rfl⟩
            | some z => cases hu
          | _ => cases hu
        refine ite_yes (lapp_ok (x := evD (.run w' t (some (fl[n])))) B3 E1 rfl ?_ (noL_ev _) (by rw [List.length_map]; omega) fun us' H4 B4 => ?_)
        · have ix : opF (vF 1) (vF 3) oIx [none, some (.d (fillD fl)), none, some (.d (.int n)), some (.d (evD (.run w' t none)))] = some (.d (.str (fl[n]))) :=
            op_e (x := .d (fillD fl)) (y := .d (.int n)) rfl rfl (oIx_at' (by rw [List.getElem?_map, List.getElem?_eq_getElem hn]; rfl))
          exact cat_e (as := [.str "run", .str w', thD t]) (bs := [.str (fl[n])]) (sl_e (ds := [.str "run", .str w', thD t, .none]) (a := none) (b := some 3) rfl rfl rfl) (tup_e (cons_e ix rfl) rfl (by simp)) (by simp)
        · refine ⟨_, rfl, _, _, rfl, rfl, us', _, rfl, ?_⟩
          have : (fl.drop n).headD "" = fl[n] := by
            rw [List.drop_eq_getElem_cons hn]
            rfl
          rw [this]
          exact B4
      | false =>
        rw [if_neg (by decide), if_neg (by decide)]
        exact ite_no (lapp_ok (x := evD e) B3 E1 rfl rfl (noL_ev _) (by rw [List.length_map]; omega) fun us' H4 B4 => ⟨us', _, rfl, B4⟩)
    · rintro σ H2 ⟨us, b4, rfl, B⟩
      rw [lus, List.take_length] at B
      exact ⟨_, rfl, F0, us, rfl, .inl ⟨SqL.of B.hF, fun p np => q _ _ (B.all.trans (upd_sm np)) (.tup (SqT.of upd_same) (dpa_sm ((dls_sm _ _).trans (upd_sm np)) B.dv))⟩⟩
/-! run_letters -/
abbrev NRl : List Str := ["shop", "number", "event", "opened", "item", "outcome", "group", "row", "tried"]
theorem scRunL : FnScope NRl ["shop", "number", "event", "opened"] (defScope (topAt iRunL)) := ⟨rfl, rfl, rfl, by decide +kernel, rfl, by decide +kernel, by decide +kernel⟩
def spRunL (P : Program) (w : World) (K : PySem.W.Frag) (CS : Addr) : Sp := fun vs H Q _ => ∃ (v0 v2 : V) (n : Nat) (el : Str) (gs : List Grp) (w' : Str) (t : Th) (z : Str), vs = [v0, .int n, v2, .str el] ∧ GoodGs gs ∧ RW P w K H v0 (.ob CS (shopI gs)) ∧ Dp K H v2 (evD (.run w' t (some z))) ∧ (∃ g ∈ gs, t.1 ∈ g.2) ∧
  ∀ (l : Addr) (us : List V) H', LsB K H H' l us (runLet (hmOf gs) n t z el) → Q (.ref l) H'
theorem noL_let {hm : Str → Str} {n : Nat} {t : Th} {z el : Str} : ∀ d ∈ runLet hm n t z el, noL d = true := fun d h => by
  unfold runLet at h
  rcases List.mem_append.mp h with h | h
  · split at h
    · cases h
    · rw [List.mem_singleton.mp h]; rfl
  rcases List.mem_append.mp h with h | h
  · split at h
    · cases h
    · rw [List.mem_singleton.mp h]; rfl
  · split at h
    · cases h
    · rw [List.mem_singleton.mp h]; split <;> rfl
theorem ok_runL {f : Addr} {fd : FuncData} (F : Fd K iRunL "run_letters" f fd) (T : ShopT K CS) (hg : Pm P w K mg base 1 CS "group_of" 2 (semGroupOf CS)) : FnOk P w K mg base CX0 2 f fd ["shop", "number", "event", "opened"] (spRunL P w K CS) := by
  refine F.ok scRunL (fun vs H Q E h => ?_) (fun cdv A outer s H vs Q E hr h => ?_)
  · obtain ⟨v0, v2, n, el, gs, w', t, z, rfl, _⟩ := h
    rfl
  · obtain ⟨v0, v2, n, el, gs, w', t, z, rfl, G, r0, d2, hc, q⟩ := h
    refine ⟨_, pss_cons (ps_set (i := 4) scRunL.nd rfl (Or.inl rfl) (we_ix ix_seq m_ix (we_v (pv 2)) (we_c pe_int) (fun _ _ => rfl)))
      (pss_cons (ps_set (i := 5) scRunL.nd rfl (Or.inl rfl) (we_ix ix_seq m_ix (we_v (pv 2)) (we_c pe_int) (fun _ _ => rfl)))
      (pss_cons (ps_set (i := 6) scRunL.nd rfl (Or.inl rfl) (we_meth hg hr (by decide) T.cls (we_v (pv 0)) (wa_cons (we_ix ix_seq m_ix (we_v (pv 4)) (we_c pe_int) (fun _ _ => rfl)) wa_nil)))
      (pss_cons (ps_set (i := 7) scRunL.nd rfl (Or.inl rfl) (pe_lst pa_nil))
      (pss_cons (ps_if (wt_cmp (op_notInW (hu30 hr)) m_notIn (we_v (pv 3)) (we_tup (wa_cons (we_c pe_str) (wa_cons (we_v (pv 6)) wa_nil))) rfl)
          (pss_one (ps_expr (pe_bm PySem.F.plainAttrs_list PySem.F.slot_list_append PySem.F.type_list_append mt_append (pv 7) (wa_cons (we_tup (wa_cons (we_c pe_str) (wa_cons (we_v (pv 3)) wa_nil))) wa_nil)))) pss_nil)
      (pss_cons (ps_if (wt_cmp (NL.op_neP (hu30 hr)) (m_eq true) (we_v (pv 3)) (we_v (pv 6)) (nomark _))
          (pss_cons (ps_set (i := 8) scRunL.nd rfl (Or.inl rfl) (we_ife (wt_cmp (NL.op_eqP (hu30 hr)) (m_eq false) (we_v (pv 5)) (we_c pe_str) (nomark _)) (we_c pe_str) (we_c pe_str)))
          (pss_one (ps_expr (pe_bm PySem.F.plainAttrs_list PySem.F.slot_list_append PySem.F.type_list_append mt_append (pv 7) (wa_cons (we_tup (wa_cons (we_v (pv 8)) (wa_cons (we_tup (wa_cons (we_v (pv 6)) (wa_cons (we_c pe_int) wa_nil))) wa_nil))) wa_nil))))) pss_nil)
      (pss_cons (ps_if (wt_cmp (NL.op_eqP (hu30 hr)) (m_eq false) (we_v (pv 5)) (we_c pe_str) (nomark _))
          (pss_one (ps_expr (pe_bm PySem.F.plainAttrs_list PySem.F.slot_list_append PySem.F.type_list_append mt_append (pv 7) (wa_cons (we_tup (wa_cons (we_c pe_str) (wa_cons (we_v (pv 1)) wa_nil))) wa_nil))))
          (pss_one (ps_if (wt_cmp (NL.op_neP (hu30 hr)) (m_eq true) (we_v (pv 5)) (we_c pe_str) (nomark _))
            (pss_one (ps_expr (pe_bm PySem.F.plainAttrs_list PySem.F.slot_list_append PySem.F.type_list_append mt_append (pv 7) (wa_cons (we_tup (wa_cons (we_v (pv 5)) (wa_cons (we_v (pv 4)) wa_nil))) wa_nil)))) pss_nil)))
      (pss_one (ps_ret (pv 7))))))))), ?_⟩
    have sl : sizeLine = 16777216 := sizeLine_eq
    refine ⟨[some (.ob CS (shopI gs)), none, some (.d (evD (.run w' t (some z)))), none, none, none, none, none, none], .d (thD t), er_yes r0 (er_no (er_yes (.d d2) (er_no (er_no (er_no (er_no (er_no (er_no er_nil)))))))), rfl, fun v4 H1 s1 r4 => ?_⟩
    refine ⟨[some (.ob CS (shopI gs)), none, some (.d (evD (.run w' t (some z)))), none, none, none, none, none, none], .d (.str z), er_yes (rw_sm s1 r0) (er_no (er_yes (.d (dp_sm s1 d2)) (er_no (er_no (er_no (er_no (er_no (er_no er_nil)))))))), rfl, fun v5 H2 s2 r5 => ?_⟩
    obtain rfl := dstr r5
    have s12 := s1.trans s2
    refine ⟨[some (.ob CS (shopI gs)), none, none, none, some (.d (thD t)), none, none, none, none], .d (.str (hmOf gs t.1)), er_yes (rw_sm s12 r0) (er_no (er_no (er_no (er_yes (rw_sm s2 r4) (er_no (er_no (er_no (er_no er_nil)))))))), ?_, fun v6 H3 s3 r6 => ?_⟩
    · unfold methF
      rw [show vF 0 [some (.ob CS (shopI gs)), none, none, none, some (.d (thD t)), none, none, none, none] = some (Wv.ob CS (shopI gs)) from rfl, Option.bind_some]
      dsimp only
      rw [if_pos ⟨rfl, rfl⟩]
      exact gOf_sem (CS := CS) G hc
    obtain rfl := dstr r6
    have s13 := s12.trans s3
    refine ⟨by rw [sl]; exact Nat.zero_le _, fun F0 nF => ?_⟩
    have B0 : LsB K H3 (upd H3 F0 (.lst [])) F0 [] [] := .new nF
    generalize upd H3 F0 (.lst []) = H4 at B0 ⊢
    have E1 : ∀ {H5 : Hp} {s8 : Option V}, Sm H3 H5 → ER P w K H5 [some v0, some (.int n), some v2, some (.str el), some v4, some (.str z), some (.str (hmOf gs t.1)), some (.ref F0), s8] [none, some (.d (.int n)), none, some (.d (.str el)), some (.d (thD t)), some (.d (.str z)), some (.d (.str (hmOf gs t.1))), none, none] := fun {H5 s8} s => er_no (er_yes (.d (.int _)) (er_no (er_yes (.d (.str _)) (er_yes (rw_sm ((s2.trans s3).trans s) r4) (er_yes (.d (.str _)) (er_yes (.d (.str _)) (er_no (er_no er_nil))))))))
    refine lifapp_ok (x := .tuple [.str "close", .str el]) (b := !decide (el = "" ∨ el = hmOf gs t.1)) B0 E1 rfl (test_e (cmp_e rfl rfl (notin2_W el "" (hmOf gs t.1)))) (fun _ => rfl) rfl (by decide) fun us1 H5 B5 => ?_
    have l5 : ([] ++ if (!decide (el = "" ∨ el = hmOf gs t.1)) = true then [PyData.tuple [.str "close", .str el]] else []).length ≤ 1 := by split <;> simp
    refine lif2_ok (j := 8) (s8 := none) (x := .tuple [.str (if z = "skip" then "fail" else "pass"), thD (hmOf gs t.1, 0)]) (y := .d (.str (if z = "skip" then "fail" else "pass"))) (b := !decide (el = hmOf gs t.1))
      (ε2 := [none, some (.d (.int n)), none, some (.d (.str el)), some (.d (thD t)), some (.d (.str z)), some (.d (.str (hmOf gs t.1))), none, some (.d (.str (if z = "skip" then "fail" else "pass")))]) B5 E1 rfl (fun _ => rfl)
      (test_e (cmp_e rfl rfl (eqn_W el (hmOf gs t.1)))) ?_ (fun {v H7} s rv => ?_) (fun _ => rfl) rfl (by omega) fun us2 H6 s8 B6 => ?_
    · have e1 := ife_e (f := cF (sc (V.str "fail"))) (g := cF (sc (V.str "pass"))) (test_e (cmp_e (ε := [none, some (.d (.int n)), none, some (.d (.str el)), some (.d (thD t)), some (.d (.str z)), some (.d (.str (hmOf gs t.1))), none, none]) (f := vF 5) (g := cF (sc (V.str "skip"))) rfl rfl (eqs_W z "skip"))) rfl rfl
      rw [show sc (V.str "fail") = .str "fail" from rfl, show sc (V.str "pass") = .str "pass" from rfl, if_str] at e1
      exact e1
    · exact er_no (er_yes (.d (.int _)) (er_no (er_yes (.d (.str _)) (er_yes (rw_sm ((s2.trans s3).trans s) r4) (er_yes (.d (.str _)) (er_yes (.d (.str _)) (er_no (er_yes rv er_nil))))))))
    have l6 : (([] ++ if (!decide (el = "" ∨ el = hmOf gs t.1)) = true then [PyData.tuple [.str "close", .str el]] else []) ++ if (!decide (el = hmOf gs t.1)) = true then [PyData.tuple [.str (if z = "skip" then "fail" else "pass"), thD (hmOf gs t.1, 0)]] else []).length ≤ 2 := by
      rw [List.length_append]
      have : (if (!decide (el = hmOf gs t.1)) = true then [PyData.tuple [.str (if z = "skip" then "fail" else "pass"), thD (hmOf gs t.1, 0)]] else []).length ≤ 1 := by split <;> simp
      omega
    have eR : ((([] ++ if (!decide (el = "" ∨ el = hmOf gs t.1)) = true then [PyData.tuple [.str "close", .str el]] else []) ++ if (!decide (el = hmOf gs t.1)) = true then [PyData.tuple [.str (if z = "skip" then "fail" else "pass"), thD (hmOf gs t.1, 0)]] else []) ++ (if z = "skip" then [] else [if z = "cut" then .tuple [.str "cut", .int n] else .tuple [.str z, thD t]])) = runLet (hmOf gs) n t z el := by
      unfold runLet
      by_cases c1 : el = hmOf gs t.1
      · by_cases c2 : z = "skip" <;> simp [c1, c2]
      · by_cases c0 : el = ""
        · by_cases c2 : z = "skip" <;> simp [c1, c2, c0] <;> simp [← c0, c1]
        · by_cases c2 : z = "skip" <;> simp [c1, c2, c0]
    generalize (([] ++ if (!decide (el = "" ∨ el = hmOf gs t.1)) = true then [PyData.tuple [.str "close", .str el]] else []) ++ if (!decide (el = hmOf gs t.1)) = true then [PyData.tuple [.str (if z = "skip" then "fail" else "pass"), thD (hmOf gs t.1, 0)]] else []) = acc at B6 l6 eR ⊢
    have fin : ∀ us H7, LsB K H3 H7 F0 us (runLet (hmOf gs) n t z el) → Q (.ref F0) H7 := fun us H7 B => q F0 us H7 ⟨sm_no s13 B.nF, B.hF, B.dv, s13.trans B.sm⟩
    refine ⟨_, decide (z = "cut"), E1 B6.all, test_e (cmp_e rfl rfl (eqs_W z "cut")), fun H7 s7 => ?_⟩
    have B7 := B6.step s7
    by_cases hc2 : z = "cut"
    · refine ite_yes' (decide_eq_true hc2) (lapp_ok (x := .tuple [.str "cut", .int n]) B7 E1 rfl rfl rfl (by omega) fun us' H8 B8 => ⟨_, rfl, fin us' H8 ?_⟩)
      rw [← eR, if_neg (by rw [hc2]; decide), if_pos hc2]
      exact B8
    · refine ite_no' (decide_eq_false hc2) (lifapp_ok (x := .tuple [.str z, thD t]) (b := !decide (z = "skip")) B7 E1 rfl (test_e (cmp_e rfl rfl (eqn_W z "skip"))) (fun _ => rfl) rfl (by omega) fun us' H8 B8 => ⟨_, rfl, fin us' H8 ?_⟩)
      rw [← eR]
      by_cases c3 : z = "skip"
      · rw [if_pos c3]
        rw [if_neg (by simp [c3])] at B8
        exact B8
      · rw [if_neg c3, if_neg hc2]
        rw [if_pos (by simp [c3])] at B8
        exact B8
/-! letters_of -/
def stO (hm : Str → Str) (o : Str → Str) (l : List Ev) : Str → Str := l.foldl (fun o e => stepO hm o e) o
theorem rowsL_snoc (hm : Str → Str) : ∀ (l : List Ev) (n : Nat) (o : Str → Str) (e : Ev), rowsL hm n o (l ++ [e]) = rowsL hm n o l ++ [rowE hm (n + l.length) (stO hm o l) e]
  | [], n, o, e => rfl
  | a :: l, n, o, e => by
    show rowE hm n o a :: rowsL hm (n + 1) (stepO hm o a) (l ++ [e]) = rowE hm n o a :: (rowsL hm (n + 1) (stepO hm o a) l ++ [_])
    rw [rowsL_snoc hm l, List.length_cons, show n + 1 + l.length = n + (l.length + 1) by omega]
    rfl
theorem told_ok {gs : List Grp} {page : List Ev} {f : List Str} (ok : ∀ e ∈ page, EvOk gs e) (hf : ∀ z ∈ f, z ∈ outsU) (hl : (page.filter untD).length ≤ f.length) : ∀ e ∈ toldP page f, EvOk gs e ∧ told1 e = true := by
  induction page generalizing f with
  | nil => intro e h; cases h
  | cons a p ih =>
    intro e h
    unfold toldP at h
    cases hu : untD a with
    | true =>
      rw [if_pos hu] at h
      rw [List.filter_cons_of_pos hu, List.length_cons] at hl
      cases f with
      | nil => simp at hl
      | cons z f =>
        rcases List.mem_cons.mp h with rfl | h
        · have := ok a (List.mem_cons_self ..)
          cases a with
          | run w t o =>
            refine ⟨⟨this.1, this.2.1, ?_⟩, rfl⟩
            have hz := hf z (List.mem_cons_self ..)
            simp only [outsU, List.mem_cons, List.not_mem_nil, or_false] at hz
            show decide (z ∈ toldW) = true
            rcases hz with rfl | rfl | rfl <;> decide
          | _ => cases hu
        · exact ih (fun x hx => ok x (List.mem_cons_of_mem _ hx)) (fun y hy => hf y (List.mem_cons_of_mem _ hy)) (by simpa using hl) e h
    | false =>
      rw [if_neg (by simp [hu])] at h
      rw [List.filter_cons_of_neg (by simp [hu])] at hl
      rcases List.mem_cons.mp h with rfl | h
      · refine ⟨ok e (List.mem_cons_self ..), ?_⟩
        cases e with
        | run w t o => cases o <;> first | rfl | cases hu
        | _ => rfl
      · exact ih (fun x hx => ok x (List.mem_cons_of_mem _ hx)) hf hl e h
abbrev NLe : List Str := ["shop", "events", "filling", "opened", "rows", "number", "event"]
theorem scLets : FnScope NLe ["shop", "events", "filling"] (defScope (topAt iLets)) := ⟨rfl, rfl, rfl, by decide +kernel, rfl, by decide +kernel, by decide +kernel⟩
/-- rows.append(what an event that is told brings) -/
theorem rowapp_ok {D : Ends} {H H' : Hp} {F0 : Addr} {us : List V} {acc : List PyData} {s1 s2 : Option V} {v0 x : V} {da : Addr} {n : Nat} {gs : List Grp} {e : Ev} {fo : Str → Str} {m : Nat} (G : GoodGs gs) (r0 : RW P w K H v0 (.ob CS (shopI gs))) (B : LsB K H H' F0 us acc) (dx : Dp K (dls [F0] H') x (evD e)) (hd : OpD (dls [F0] H') da fo m) (ok : EvOk gs e) (t1 : told1 e = true) (hl : acc.length < 10000)
    (k : ∀ us' H2, LsB K H H2 F0 us' (acc ++ [.list (rowE (hmOf gs) n fo e)]) → Sm (dls [F0] H') (dls [F0] H2) → (∃ l, us' = us ++ [V.ref l] ∧ H l = none) → D.nx [some v0, s1, s2, some (.ref da), some (.ref F0), some (.int n), some x] H2) :
    tIfS (tWT P w K (testF (opF (opF (vF 6) (cF (sc (V.int 0))) oIx) (cF (sc (V.str "run"))) (oEq false))))
      (tDrop (tBM K "list" rAppend (tVar 4) (tCons (tCall (spRunL P w K CS) [] E0 (tCons (tVar 0) (tCons (tVar 5) (tCons (tVar 6) (tCons (tDGet2 (tVar 3) (tW P w K (opF (vF 6) (cF (sc (V.int 1))) oIx)) (tC (V.str ""))) tNil))))) tNil)))
      (tIfS (tWT P w K (testF (opF (opF (vF 6) (cF (sc (V.int 0))) oIx) (cF (sc (V.str "gap"))) (oEq false))))
        (tDrop (tBM K "list" rAppend (tVar 4) (tCons (tLst (tWA P w K (consF (tupF (consF (cF (sc (V.str "gap"))) (consF (vF 5) nilF))) nilF))) tNil)))
        (tDrop (tBM K "list" rAppend (tVar 4) (tCons (tLst tNil) tNil)))) D [some v0, s1, s2, some (.ref da), some (.ref F0), some (.int n), some x] H' := by
  have sl : sizeLine = 16777216 := sizeLine_eq
  have lu := B.len
  have E1 : ∀ {H2 : Hp}, Sm (dls [F0] H') H2 → ER P w K H2 [some v0, s1, s2, some (.ref da), some (.ref F0), some (.int n), some x] [none, none, none, none, none, some (.d (.int n)), some (.d (evD e))] := fun {H2} s => er_no (er_no (er_no (er_no (er_no (er_yes (.d (.int _)) (er_yes (.d (dp_sm s dx)) er_nil))))))
  have empty : ∀ {H2 : Hp}, Sm H' H2 → rowE (hmOf gs) n fo e = [] → tDrop (tBM K "list" rAppend (tVar 4) (tCons (tLst tNil) tNil)) D [some v0, s1, s2, some (.ref da), some (.ref F0), some (.int n), some x] H2 := fun {H2} s er => by
    have B2 := B.step s
    refine ⟨_, rfl, .inl ⟨rfl, _, SqL.of B2.hF⟩, by rw [sl]; exact Nat.zero_le _, fun l nl => ?_⟩
    have B3 := B2.step (upd_sm (o := .lst []) nl)
    have lF : l ≠ F0 := fun z => by rw [z, B2.hF] at nl; cases nl
    refine ⟨F0, us, .ref l, rfl, rfl, B3.hF, by rw [sl]; omega, k (us ++ [.ref l]) (upd (upd H2 l (.lst [])) F0 (.lst (us ++ [.ref l]))) ?_ ?_ ⟨l, rfl, sm_no B2.all nl⟩⟩
    · rw [er]
      exact B3.app' (.lst (SqL.of (dls_at upd_same (by simp [lF]))) .nil)
    · rw [dls_put (by simp)]
      exact (dls_mono s).trans (dls_mono (upd_sm nl))
  cases e with
  | fresh w' => exact ⟨_, false, E1 (dls_sm _ _), rfl, fun H2 s2 => ite_no ⟨_, false, E1 ((dls_sm _ _).trans s2), rfl, fun H3 s3 => ite_no (empty (s2.trans s3) rfl)⟩⟩
  | clear => exact ⟨_, false, E1 (dls_sm _ _), rfl, fun H2 s2 => ite_no ⟨_, false, E1 ((dls_sm _ _).trans s2), rfl, fun H3 s3 => ite_no (empty (s2.trans s3) rfl)⟩⟩
  | gap w' =>
    refine ⟨_, false, E1 (dls_sm _ _), rfl, fun H2 s2 => ite_no ⟨_, true, E1 ((dls_sm _ _).trans s2), rfl, fun H3 s3 => ite_yes ?_⟩⟩
    have B3 := B.step (s2.trans s3)
    refine ⟨_, rfl, .inl ⟨rfl, _, SqL.of B3.hF⟩, ?_⟩
    refine ⟨_, [.d (.tuple [.str "gap", .int n])], E1 ((dls_sm _ _).trans (s2.trans s3)), rfl, fun vs H4 s4 rv => ?_⟩
    have B4 := B3.step s4
    cases rv with
    | @cons vg _ _ _ r t =>
      cases t
      have dr := dp_le (le1 B4.hF) (show noL (.tuple [.str "gap", .int n]) = true from rfl) (rw_d r)
      refine ⟨by rw [sl]; show (1 : Nat) ≤ _; decide, fun l nl => ?_⟩
      have B5 := B4.step (upd_sm (o := .lst [vg]) nl)
      have lF : l ≠ F0 := fun z => by rw [z, B4.hF] at nl; cases nl
      refine ⟨F0, us, _, rfl, rfl, B5.hF, by rw [sl]; omega, k _ _ (B5.app' (.lst (SqL.of (dls_at upd_same (by simp [lF]))) (.cons (dp_sm (dls_mono (upd_sm nl)) dr) .nil))) ?_ ⟨l, rfl, sm_no B4.all nl⟩⟩
      rw [dls_put (by simp)]
      exact (dls_mono ((s2.trans s3).trans s4)).trans (dls_mono (upd_sm nl))
  | run w' t o =>
    obtain ⟨z, rfl⟩ : ∃ z, o = some z := by
      cases o with
      | none => cases t1
      | some z => exact ⟨z, rfl⟩
    refine ⟨_, true, E1 (dls_sm _ _), rfl, fun H2 s2 => ite_yes ?_⟩
    have B2 := B.step s2
    obtain ⟨kvs, hd1, _, hv⟩ := hd
    have u2 : Sm (dls [F0] H') H2 := (dls_sm _ _).trans s2
    refine ⟨_, rfl, .inl ⟨rfl, _, SqL.of B2.hF⟩, ?_⟩
    refine ⟨_, rfl, _, rfl, _, rfl, _, rfl, da, rfl, .inl ⟨_, .inl (u2 _ _ hd1)⟩, _, .d (.str w'), E1 u2, rfl, fun v H3 s3 rv => ?_⟩
    obtain rfl := dstr rv
    have u3 := u2.trans s3
    refine ⟨_, DGet.k (k := .inr w') (u3 _ _ hd1), ?_⟩
    rw [hv w']
    have B3 := B2.step s3
    refine ⟨v0, x, n, fo w', gs, w', t, z, rfl, G, rw_sm B3.all r0, dp_sm u3 dx, ok.2.1.1, fun l us' H4 BL => ?_⟩
    have s4 : Sm H3 H4 := BL.all
    have B4 := B3.step s4
    have lF : l ≠ F0 := fun zz => by
      have := BL.nF
      rw [zz, B3.hF] at this
      cases this
    have hl4 := BL.hF
    have nls : ∀ ds : List PyData, (∀ d ∈ ds, noL d = true) → noLs ds = true := fun ds => by
      induction ds with
      | nil => intro _; rfl
      | cons d ds ih => intro h; show (noL d && noLs ds) = true; rw [h d (List.mem_cons_self ..), ih fun y hy => h y (List.mem_cons_of_mem _ hy)]; rfl
    refine ⟨F0, us, _, rfl, rfl, B4.hF, by rw [sl]; omega, k _ _ (B4.app' (.lst (SqL.of (dls_at hl4 (by simp [lF]))) (dpa_le (le1 B4.hF) (nls _ noL_let) (dpa_sm (dls_sm _ _) BL.dv)))) ?_ ⟨l, rfl, sm_no B3.all BL.nF⟩⟩
    rw [dls_put (by simp)]
    exact dls_mono ((s2.trans s3).trans s4)
def spLets (P : Program) (w : World) (K : PySem.W.Frag) (CS : Addr) : Sp := fun vs H Q _ => ∃ (v0 v1 v2 : V) (gs : List Grp) (page : List Ev) (f : List Str), vs = [v0, v1, v2] ∧ ShEv P w K CS H v0 v1 gs page ∧ Dp K H v2 (fillD f) ∧ f.length ≤ 100 ∧ (page.filter untD).length ≤ f.length ∧ (∀ z ∈ f, z ∈ outsU) ∧
  ∀ (l : Addr) (us : List V) H', LsB K H H' l us ((rowsL (hmOf gs) 0 (fun _ => "") (toldP page f)).map .list) → (∀ u ∈ us, ∃ r, u = V.ref r ∧ H r = none) → Q (.ref l) H'
theorem ok_lets {f fT fR fB : Addr} {fd fdT fdR fdB : FuncData} (F : Fd K iLets "letters_of" f fd)
    (GT : FnOk P w K mg base CX0 2 fT fdT ["events", "filling"] (spTold K)) (bT : Binds K fdT ["events", "filling"] []) (kT : PySem.W.keepIn K (.ref fT) = true) (gT : mg "told_of" = some (.ref fT))
    (GR : FnOk P w K mg base CX0 2 fR fdR ["shop", "number", "event", "opened"] (spRunL P w K CS)) (bR : Binds K fdR ["shop", "number", "event", "opened"] []) (kR : PySem.W.keepIn K (.ref fR) = true) (gR : mg "run_letters" = some (.ref fR))
    (GB : FnOk P w K mg base CX0 2 fB fdB ["shop", "event", "opened"] (spBeh P w K CS)) (bB : Binds K fdB ["shop", "event", "opened"] []) (kB : PySem.W.keepIn K (.ref fB) = true) (gB : mg "_opened_behind" = some (.ref fB))
    (ge : mg "enumerate" = none) : FnOk P w K mg base CX0 3 f fd ["shop", "events", "filling"] (spLets P w K CS) := by
  refine F.ok scLets (fun vs H Q E h => ?_) (fun cdv A outer s H vs Q E hr h => ?_)
  · obtain ⟨v0, v1, v2, gs, page, f, rfl, _⟩ := h
    rfl
  · obtain ⟨v0, v1, v2, gs, page, fl, rfl, ⟨G, r0, d1, ok, ln⟩, d2, lf, lu, hf, q⟩ := h
    have hu1 : (A.deeper (envOfC "letters_of" (defScope (topAt iLets)) s.heap.objs.size f cdv)).units + 1 < cLine := by have := hr.un; omega
    refine ⟨_, PSs.nox (pss_cons (ps_set (i := 3) scLets.nd rfl (Or.inl rfl) pe_dnewK)
      (pss_cons (ps_set (i := 4) scLets.nd rfl (Or.inl rfl) (pe_lst pa_nil))
      (pss_cons (ps_for PassesOwn.never rfl (NL.pi_enumT rfl ge (pa_cons (pe_call GT hr rfl gT kT bT .nil pass0 (pa_cons (pv 1) (pa_cons (pv 2) pa_nil))) pa_nil)) (pg_tup rfl (pgs_cons (pg_name (i := 5) scLets.nd rfl (Or.inl rfl)) (pgs_cons (pg_name (i := 6) scLets.nd rfl (Or.inl rfl)) pgs_nil)))
        (pss_cons (ps_if (wt_cmp (NL.op_eqP (hu30 hr)) (m_eq false) (we_ix ix_seq m_ix (we_v (pv 6)) (we_c pe_int) (fun _ _ => rfl)) (we_c pe_str) (nomark _))
            (pss_one (ps_expr (pe_bm PySem.F.plainAttrs_list PySem.F.slot_list_append PySem.F.type_list_append mt_append (pv 4) (pa_cons (pe_call GR hr rfl gR kR bR .nil pass0 (pa_cons (pv 0) (pa_cons (pv 5) (pa_cons (pv 6) (pa_cons (pe_dget2 hu1 (pv 3) (we_ix ix_seq m_ix (we_v (pv 6)) (we_c pe_int) (fun _ _ => rfl)) pe_str ⟨rfl, rfl, rfl, rfl⟩) pa_nil))))) pa_nil))))
            (pss_one (ps_if (wt_cmp (NL.op_eqP (hu30 hr)) (m_eq false) (we_ix ix_seq m_ix (we_v (pv 6)) (we_c pe_int) (fun _ _ => rfl)) (we_c pe_str) (nomark _))
              (pss_one (ps_expr (pe_bm PySem.F.plainAttrs_list PySem.F.slot_list_append PySem.F.type_list_append mt_append (pv 4) (pa_cons (pe_lst (wa_cons (we_tup (wa_cons (we_c pe_str) (wa_cons (we_v (pv 5)) wa_nil))) wa_nil)) pa_nil))))
              (pss_one (ps_expr (pe_bm PySem.F.plainAttrs_list PySem.F.slot_list_append PySem.F.type_list_append mt_append (pv 4) (pa_cons (pe_lst pa_nil) pa_nil)))))))
        (pss_one (ps_set (i := 3) scLets.nd rfl (Or.inl rfl) (pe_call GB hr rfl gB kB bB .nil pass0 (pa_cons (pv 0) (pa_cons (pv 6) (pa_cons (pv 3) pa_nil))))))))
      (pss_one (ps_ret (pv 4)))))), ?_⟩
    have sl : sizeLine = 16777216 := sizeLine_eq
    refine fun d nd => ⟨by rw [sl]; exact Nat.zero_le _, fun F0 nF1 => ?_⟩
    have nF := sm_no (upd_sm nd) nF1
    have dF : d ≠ F0 := fun z => by rw [← z, upd_same] at nF1; cases nF1
    have B1 : LsB K (upd H d (.dK [])) (upd (upd H d (.dK [])) F0 (.lst [])) F0 [] [] := .new nF1
    have B0 : LsB K H (upd (upd H d (.dK [])) F0 (.lst [])) F0 [] [] := ⟨nF, B1.hF, .nil, (upd_sm nd).trans B1.sm⟩
    have op0 : OpD (dls [F0] (upd (upd H d (.dK [])) F0 (.lst []))) d (fun _ => "") 0 := OpD.nil (B1.sm _ _ upd_same)
    generalize upd (upd H d (.dK [])) F0 (.lst []) = H1 at B0 op0 ⊢
    refine ⟨_, rfl, _, rfl, v1, v2, page, fl, rfl, dp_sm B0.all d1, dp_sm B0.all d2, ln, lf, lu, fun vt H2 s2 dt => ?_⟩
    have B2 := B0.step s2
    have op2 := op0.sm (dls_mono s2)
    obtain ⟨at_, ut, rfl, sqt, dut⟩ : ∃ a us, vt = .ref a ∧ SqT K H2 a us ∧ DpAll K H2 us ((toldP page fl).map evD) := by
      cases dt with
      | tup hs t => exact ⟨_, _, rfl, hs, t⟩
    have okT := told_ok ok hf lu
    have lT := toldP_len page fl
    have lut : ut.length = (toldP page fl).length := by rw [dpa_len dut, List.length_map]
    have dutF : DpAll K (dls [F0] H2) ut ((toldP page fl).map evD) := dpa_le (le1 B2.hF) (noLs_evs _) dut
    have sqtF : SqT K (dls [F0] H2) at_ ut := (match sqt with
      | .inl h => .inl (le_tup (le1 B2.hF) h)
      | .inr h => .inr h)
    clear sqt dut
    generalize toldP page fl = tp at okT lT lut dutF q
    refine ⟨at_, ut, rfl, sqt_dls sqtF, for_enumT (K := K) (a := at_) (xs := ut)
      (fun i σ H' => ∃ (us : List V) (da : Addr) (b5 b6 : Option V), σ = [some v0, some v1, some v2, some (.ref da), some (.ref F0), b5, b6] ∧ LsB K H H' F0 us ((rowsL (hmOf gs) 0 (fun _ => "") (tp.take i)).map .list) ∧ OpD (dls [F0] H') da (stO (hmOf gs) (fun _ => "") (tp.take i)) i ∧ Sm (dls [F0] H2) (dls [F0] H') ∧ ∀ u ∈ us, ∃ r, u = V.ref r ∧ H r = none)
      ⟨[], d, _, _, rfl, B2, op2, Sm.rfl' _, fun u hu => absurd hu (by simp)⟩ (fun i σ H' _ ⟨_, _, _, _, _, _, _, s, _⟩ => sqt_dls (sqt_sm s sqtF)) ?_ ?_⟩
    · rintro i x T σ H3 hx ⟨us, da, b5, b6, rfl, B3, op3, s23, nw⟩ nT
      have hi : i < ut.length := (List.getElem?_eq_some_iff.mp hx).1
      obtain ⟨e, he⟩ : ∃ e, tp[i]? = some e := ⟨_, List.getElem?_eq_getElem (by omega)⟩
      obtain ⟨x', hx', dx0⟩ := dpa_at dutF i (evD e) (by rw [List.getElem?_map, he]; rfl)
      obtain rfl := Option.some.inj (hx'.symm.trans hx)
      obtain ⟨oke, te⟩ := okT e (List.mem_of_getElem? he)
      have li : (tp.take i).length = i := by rw [List.length_take]; omega
      rw [take1 he, rowsL_snoc, List.map_append, li, Nat.zero_add, show stO (hmOf gs) (fun _ => "") (tp.take i ++ [e]) = stepO (hmOf gs) (stO (hmOf gs) (fun _ => "") (tp.take i)) e from by unfold stO; rw [List.foldl_append]; rfl]
      have lacc : ((rowsL (hmOf gs) 0 (fun _ => "") (tp.take i)).map PyData.list).length ≤ 100 := by
        rw [List.length_map]
        have : ∀ (l : List Ev) n o, (rowsL (hmOf gs) n o l).length = l.length := fun l => by
          induction l with
          | nil => intro n o; rfl
          | cons a l ih => intro n o; show (rowsL (hmOf gs) (n + 1) _ l).length + 1 = _; rw [ih]; rfl
        rw [this, li]
        omega
      generalize (rowsL (hmOf gs) 0 (fun _ => "") (tp.take i)).map PyData.list = acc at B3 lacc ⊢
      generalize stO (hmOf gs) (fun _ => "") (tp.take i) = fo at op3 ⊢
      refine ⟨T, _, rfl, SqT.of upd_same, rfl, _, _, rfl, _, _, rfl, rfl, ?_⟩
      have sT := upd_sm (o := .tup [.int (i : Nat), x']) nT
      have B4 := B3.step sT
      have op4 := op3.sm (dls_mono sT)
      have s24 := s23.trans (dls_mono sT)
      generalize upd H3 T (.tup [.int (i : Nat), x']) = H4 at B4 op4 s24 ⊢
      refine rowapp_ok (CS := CS) (n := i) (e := e) (gs := gs) G r0 B4 (dp_sm s24 dx0) op4 oke te (by omega) fun us' H5 B5 s45 ⟨l, eus, nl⟩ => ?_
      have op5 := op4.sm s45
      have s25 := s24.trans s45
      refine ⟨_, rfl, _, rfl, _, rfl, v0, x', da, gs, e, fo, i, rfl, G, rw_sm B5.all r0, dp_sm (s25.trans (dls_sm _ _)) dx0, oke, te, op5.sm (dls_sm _ _), by omega, fun p H6 np s56 op6 => ?_⟩
      have pF : p ≠ F0 := fun z => by rw [z, B5.hF] at np; cases np
      obtain ⟨kvs, k1, k2⟩ := op6
      exact ⟨us', p, _, _, rfl, B5.step s56, ⟨kvs, dls_at k1 (by simp [pF]), k2⟩, s25.trans (dls_mono s56), fun u hu => by
        rw [eus] at hu
        exact (List.mem_append.mp hu).elim (nw u) fun hu => ⟨l, List.mem_singleton.mp hu, nl⟩⟩
    · rintro σ H3 ⟨us, da, b5, b6, rfl, B3, op3, s23, nw⟩
      rw [lut, List.take_length] at B3
      exact ⟨_, rfl, q F0 us H3 B3 nw⟩
end
end KW
namespace KW
open PySem PySem.Spec PyProof.Rows L2 KZ KP DC
/-! raised with the very value -/
theorem pss_never {X : Cx} {rest : List Stmt} : PSs X rest (fun _ _ _ => False) := ⟨fun pins s σ H D I h => h.elim⟩
/-- raised with the very value -/
def raiV (E : XK) (H : Hp) (C : Addr) (v : V) : Prop := ∀ (dx : Addr) (H' : Hp), Sm H H' → H' dx = some (.xd [("value", v)]) → E (.ref C) (some dx) H'
theorem raiV_sm {E : XK} {H H' : Hp} {C : Addr} {v : V} (s : Sm H H') (h : raiV E H C v) : raiV E H' C v := fun dx H2 s2 e => h dx H2 (s.trans s2) e
theorem pv_raise {X : Cx} {E : XK} {x : Str} {C : Addr} {e : Expr} {p pos pos2 : Pos} {i : Nat} (hc : X.calm = true) (tk : Takes X fun cls d _ H => E cls d H) (R : Er X.prog X.w X.K X.mg X.base x "value" C) (hr : Room 2 X.A) (hg : Gl X x) (he : PE X e (tVar i)) (hdb : (x == ("__debug__" : Str)) = false)
    (hs : starEach [e] X.env = (false, eval e X.env) :: starEach [] X.env := by rfl) : PS X (.Raise (some (.Call (.Name x p) [e] [] pos)) none pos2) (fun _ σ H => tVar i σ H fun v H1 => raiV E H1 C v) := by
  obtain ⟨fI, fd, iC, tI, F1, b1, b2⟩ := R.ini
  have hb : L2.Binds X.K fd ["self", "value"] [] := fun s us _ hl => by
    match us, hl with
    | [a, u], _ => exact b1 s a u
  refine PS.wk (ps_raise hc tk (pmk_oex (sp := spIni C "value") (dvs := []) R.ox iC tI F1 hr hb .nil pass0 hg R.gC (pa_cons he pa_nil (hs := hs)) hdb hs rfl)) fun D σ H h => ?_
  obtain ⟨v, hv, q⟩ := h
  refine ⟨v, hv, (show (1 : Nat) ≤ 1000 from by decide), fun a na => ⟨a, v, rfl, upd_same, fun d hd nd => ⟨rfl, d, [("value", v)], upd_same, ?_, ?_, ?_⟩⟩⟩
  · rw [upd_ne nd, upd_same]
  · rw [upd_ne nd] at hd
    exact hd
  · rw [upd_ne nd] at hd
    have sm : Sm H (upd (del (upd (upd (upd H a (exo a C none)) d (exd d [("value", v)])) a (exo a C (some d))) a) d (.xd [("value", v)])) := fun b o e => by
      have ba : b ≠ a := ne_of_none e na
      have bd : b ≠ d := ne_of_none e hd
      rw [upd_ne bd, del_ne ba, upd_ne ba, upd_ne bd, upd_ne ba]
      exact e
    exact q d _ sm upd_same
section
variable {P : Program} {w : World} {K : PySem.W.Frag} {mg : Str → Option Value} {base : Heap}
theorem FnOk.or {CX : CXT} {k : Nat} {f : Addr} {fd : FuncData} {ps : List Str} {sp sp' : Sp} (h : FnOk P w K mg base CX k f fd ps sp) (h' : FnOk P w K mg base CX k f fd ps sp') : FnOk P w K mg base CX k f fd ps (fun vs H Q E => sp vs H Q E ∨ sp' vs H Q E) :=
  ⟨fun vs H Q E z => z.elim (h.len vs H Q E) (h'.len vs H Q E), fun A outer s H args us vs Q E hr e0 bt vl z => z.elim (h.run A outer s H args us vs Q E hr e0 bt vl) (h'.run A outer s H args us vs Q E hr e0 bt vl)⟩
end
end KW
namespace KS
open PySem PySem.Spec PyProof.Rows L2 PySem.SeqAt
/-! {} is none of some tuples -/
theorem tuple_eq_declines_dict (l b : Addr) (items : Array Value) (n : Nat) (dd dd2 : Option Addr) (dt2 : Data) (sl sl2 : Array (Option Value)) :
    Meets (Builtin.«tuple.__eq__» ⟨[.ref l, .ref b], []⟩) (fun _ R s => s.heap.get? l = some { cls := .type "tuple", dict := dd, data := .seq items n, slots := sl } ∧ s.heap.get? b = some { cls := .type "dict", dict := dd2, data := dt2, slots := sl2 } ∧ R (.ok (.ret .notImplemented)) s) :=
  .of_wp fun prog w A R s h => by obtain ⟨hp, g, d, tk, os⟩ := s; obtain ⟨hl, hb, h⟩ := h; have f1 := F.sub_dict_tuple; wp_walk using AutoSeq1.wpAny_loadPart' hl, AutoSeq1.wpAny_loadPart' hb; exact ⟨_, rfl, h⟩
theorem dict_eq_declines_tuple (l b : Addr) (items : Array Value) (n : Nat) (dd dd2 : Option Addr) (dt2 : Data) (sl sl2 : Array (Option Value)) :
    Meets (Builtin.«dict.__eq__» ⟨[.ref b, .ref l], []⟩) (fun _ R s => s.heap.get? l = some { cls := .type "tuple", dict := dd, data := .seq items n, slots := sl } ∧ s.heap.get? b = some { cls := .type "dict", dict := dd2, data := dt2, slots := sl2 } ∧ R (.ok (.ret .notImplemented)) s) :=
  .of_wp fun prog w A R s h => by obtain ⟨hp, g, d, tk, os⟩ := s; obtain ⟨hl, hb, h⟩ := h; have f1 := F.sub_tuple_dict; wp_walk using AutoSeq1.wpAny_loadPart' hl, AutoSeq1.wpAny_loadPart' hb; exact ⟨_, rfl, h⟩
theorem RcAt.tuple_dict {A : Around} {s : Shared} {l b : Addr} {items : Array Value} {ob : Obj} (hl : s.heap.IsTuple l items) (hb : s.heap.get? b = some ob) (hc : ob.cls = .type "dict") (hu : A.units < cLine) : RcAt A s (.ref l) (.ref b) false := fun prog w E Q h => by
  obtain ⟨⟨cls, dd, data, sl⟩, ho, hc1, n, hd⟩ := id hl
  obtain ⟨cls2, dd2, data2, sl2⟩ := ob
  simp only at hc hc1 hd
  subst hc hc1 hd
  have hne : l ≠ b := fun e => by
    rw [e, hb] at ho
    have := congrArg Obj.cls (Option.some.inj ho)
    exact absurd this (by simp)
  exact (rc_eq_decline_or (k := false) ⟨_, ho, rfl⟩ ⟨_, hb, rfl⟩ (by decide) F.sub_dict_tuple F.slot_tuple_eq F.slot_dict_eq_refl
    (fun _ hq => call_meets F.slot_tuple_eq ⟨_, ho, rfl⟩ F.entry_tuple_eq (F.args_tuple_eq_2 _ _) (tuple_eq_declines_dict l b items n dd dd2 data2 sl sl2) ⟨ho, hb, hq⟩)
    (fun _ hq => call_meets F.slot_dict_eq_refl ⟨_, hb, rfl⟩ F.entry_dict_eq (F.args_dict_eq_2 _ _) (dict_eq_declines_tuple l b items n dd dd2 data2 sl sl2) ⟨ho, hb, hq⟩)
    (fun _ hq => wpAny_isSame_ref_other' hne ho hb (by simp) hq) (.inr hu) h)
theorem EqAt.tuple_dict {A : Around} {s : Shared} {l b : Addr} {items : Array Value} {ob : Obj} (hl : s.heap.IsTuple l items) (hb : s.heap.get? b = some ob) (hc : ob.cls = .type "dict") (hu : A.units < cLine) : EqAt A s (.ref l) (.ref b) false := by
  refine .of_refs (fun e => ?_) (RcAt.tuple_dict hl hb hc hu)
  obtain ⟨o, ho, hc1, _⟩ := hl
  rw [e, hb] at ho
  cases ho
  rw [hc] at hc1
  exact absurd hc1 (by simp)
section
variable {X : Cx}
/-- {} not in a tuple of tuples -/
def rNotInD (X : Cx) : R2 := fun x y H Q => ∃ (a b : Addr) (us : List V) (kvs : List (L2.Key × V)), x = .ref a ∧ y = .ref b ∧ H a = some (.dK kvs) ∧ SqT X.K H b us ∧ (∀ u ∈ us, ∃ c vs, u = .ref c ∧ SqT X.K H c vs) ∧ Q (.bl true) H
theorem op_notInD (hu : X.A.units + 30 < cLine) : OpR X (compareOp .NotIn) (rNotInD X) := by
  intro pins s σ H x y v u Q I rx ry h
  obtain ⟨a, b, us, kvs, rfl, rfl, ha, hb, hus, q⟩ := h
  obtain rfl : v = Value.ref a := rx
  obtain rfl : u = Value.ref b := ry
  obtain ⟨its, rv, p, hz⟩ := I.tuple hb
  obtain ⟨_, nm, vs, kv, dof⟩ := (show ObjOk X.prog X.w H s.heap a (.dK kvs) from I.hok a _ ha)
  obtain ⟨o, es, ep, g1, g2, g3, g4, g5, g6⟩ := dof
  refine notIn_tupleAt (fun _ => false) p (fun y hy => ?_) ?_
  · have hy' : y ∈ its := by simpa using hy
    obtain ⟨i, hi⟩ := List.getElem?_of_mem hy'
    have : ∀ {us : List V} {its : List Value} {i : Nat} {y : Value}, Vals us its → its[i]? = some y → ∃ w, us[i]? = some w ∧ RelV w y := by
      intro us its i y r
      induction r generalizing i with
      | nil => intro h; simp at h
      | cons r1 _ ih =>
        intro h
        cases i with
        | zero => simp at h; subst h; exact ⟨_, by simp, r1⟩
        | succ i => obtain ⟨w, h1, h2⟩ := ih (i := i) (by simpa using h); exact ⟨w, by simpa using h1, h2⟩
    obtain ⟨w, hw, rw'⟩ := this rv hi
    obtain ⟨c, vs2, rfl, hc⟩ := hus w (List.mem_of_getElem? hw)
    obtain rfl : y = Value.ref c := rw'
    obtain ⟨its2, _, p2, _⟩ := I.tuple hc
    exact EqAt.tuple_dict p2 g1 g2.1 (by show X.A.units + 1 < _; omega)
  · have : (!its.toArray.any fun _ => false) = true := by simp
    rw [this]
    exact ⟨.bl true, H, I, rfl, q⟩
/-- not in, of data or {} -/
def rNotInX (X : Cx) : R2 := fun x y H Q => NL.rInP X true x y H Q ∨ rNotInD X x y H Q
theorem op_notInX (hu : X.A.units + 30 < cLine) : OpR X (compareOp .NotIn) (rNotInX X) := by
  intro pins s σ H x y v u Q I rx ry q
  rcases q with q | q
  · exact NL.op_notInP hu pins s σ H x y v u Q I rx ry q
  · exact op_notInD hu pins s σ H x y v u Q I rx ry q
end
end KS
namespace KW
open PySem PySem.Spec PyProof.Rows L2 KZ KS KP DC
/-! check_filling, letters: told and refused -/
abbrev iChkF : Nat := 24
abbrev iLetters : Nat := 22
theorem scChkF : FnScope ["shop", "log", "filling"] ["shop", "log", "filling"] (defScope (topAt iChkF)) := ⟨rfl, rfl, rfl, by decide +kernel, rfl, by decide +kernel, by decide +kernel⟩
abbrev NLt : List Str := ["shop", "log", "filling", "found", "number", "row", "letter"]
theorem scLetters : FnScope NLt ["shop", "log", "filling"] (defScope (topAt iLetters)) := ⟨rfl, rfl, rfl, by decide +kernel, rfl, by decide +kernel, by decide +kernel⟩
theorem eqv_strs : ∀ {zs : List Str} {ds : List PyData}, PyData.eqvAll (zs.map .str) ds = true → ds = zs.map .str
  | [], [], _ => rfl
  | [], _ :: _, h => by simp [PyData.eqvAll] at h
  | _ :: _, [], h => by simp [PyData.eqvAll] at h
  | z :: zs, d :: ds, h => by
    rw [List.map_cons, KM.eqvAll_cons, Bool.and_eq_true] at h
    rw [List.map_cons, eqv_strs h.2]
    have h1 := h.1
    cases d with
    | str y =>
      rw [eqs] at h1
      rw [of_decide_eq_true h1]
    | _ => simp [PyData.eqv] at h1
theorem eqv_fill {f : List Str} {d : PyData} (h : PyData.eqv (fillD f) d = true) : d = fillD f := by
  cases d with
  | tuple ds =>
    unfold fillD at h ⊢
    rw [eqv_strs (show PyData.eqvAll (f.map .str) ds = true by simpa [PyData.eqv] using h)]
  | _ => simp [fillD, PyData.eqv] at h
/-- what is no filling of the log -/
def NoFill (K : PySem.W.Frag) (H : Hp) (v : V) (fs : List (List Str)) : Prop :=
  (∃ d, Dp K H v d ∧ d.plain = true ∧ ∀ g ∈ fs, d ≠ fillD g) ∨ ∃ a kvs, v = .ref a ∧ H a = some (.dK kvs)
theorem NoFill.sm {K : PySem.W.Frag} {H H' : Hp} (s : Sm H H') {v : V} {fs : List (List Str)} : NoFill K H v fs → NoFill K H' v fs
  | .inl ⟨d, h1, h2⟩ => .inl ⟨d, dp_sm s h1, h2⟩
  | .inr ⟨a, kvs, h1, h2⟩ => .inr ⟨a, kvs, h1, s _ _ h2⟩
theorem fs_plain : ∀ fs : List (List Str), PyData.plainAll (fs.map fillD) = true
  | [] => by simp [PyData.plainAll]
  | f :: fs => by simp [PyData.plainAll, PyData.plain, fillD, plainAll_strs f, fs_plain fs]
theorem fs_depth : ∀ fs : List (List Str), PyData.depthAll (fs.map fillD) ≤ 1
  | [] => by simp [PyData.depthAll]
  | f :: fs => by
    have := fs_depth fs
    simp only [List.map_cons, PyData.depthAll, fillD, PyData.depth, depthAll_strs f]
    omega
def spChkF (P : Program) (w : World) (K : PySem.W.Frag) (CS : Addr) : Sp := fun vs H Q _ => ∃ (v0 v1 v2 : V) (gs : List Grp) (page : List Ev) (f : List Str), vs = [v0, v1, v2] ∧ ShEv P w K CS H v0 v1 gs page ∧ logB gs page = true ∧ Dp K H v2 (fillD f) ∧ f ∈ fillsP (hmOf gs) page ∧ ∀ H', Sm H H' → Q .non H'
def spChkX (P : Program) (w : World) (K : PySem.W.Frag) (CS BF : Addr) : Sp := fun vs H _ E => ∃ (v0 v1 v2 : V) (gs : List Grp) (page : List Ev), vs = [v0, v1, v2] ∧ ShEv P w K CS H v0 v1 gs page ∧ logB gs page = true ∧ NoFill K H v2 (fillsP (hmOf gs) page) ∧ raiV E H BF v2
theorem logB_un {gs : List Grp} {page : List Ev} (h : logB gs page = true) : (page.filter untD).length ≤ 3 := by
  unfold logB roomB at h
  simp only [Bool.and_eq_true, decide_eq_true_eq] at h
  exact h.1.2.2.2
section
variable {P : Program} {w : World} {K : PySem.W.Frag} {mg : Str → Option Value} {base : Heap} {CS : Addr}
theorem ok_chkF {f fL fF : Addr} {fd fdL fdF : FuncData} (F : Fd K iChkF "check_filling" f fd) (GL : FnOk P w K mg base CX0 5 fL fdL ["shop", "log"] (spCheckLog P w K CS)) (bL : Binds K fdL ["shop", "log"] []) (kL : PySem.W.keepIn K (.ref fL) = true) (gL : mg "check_log" = some (.ref fL))
    (GF : FnOk P w K mg base CX0 3 fF fdF ["shop", "events"] (spFills P w K CS)) (bFn : Binds K fdF ["shop", "events"] []) (kF : PySem.W.keepIn K (.ref fF) = true) (gF : mg "fillings_of" = some (.ref fF)) :
    FnOk P w K mg base CX0 6 f fd ["shop", "log", "filling"] (spChkF P w K CS) := by
  refine F.ok scChkF (fun vs H Q E h => ?_) (fun cdv A outer s H vs Q E hr h => ?_)
  · obtain ⟨v0, v1, v2, gs, page, f, rfl, _⟩ := h
    rfl
  · obtain ⟨v0, v1, v2, gs, page, fl, rfl, S, hL, d2, hf, q⟩ := h
    refine ⟨_, pss_cons (ps_expr (pe_call GL hr rfl gL kL bL .nil pass0 (pa_cons (pv 0) (pa_cons (pv 1) pa_nil))))
      (pss_one (ps_if (pt_cmpR (NL.op_notInP (hu30 hr)) (pv 2) (pe_call GF (hr.mono (by decide)) rfl gF kF bFn .nil pass0 (pa_cons (pv 0) (pa_cons (pv 1) pa_nil))) rfl) wss_no pss_nil)), ?_⟩
    refine ⟨_, rfl, _, rfl, v0, v1, gs, page, rfl, S, hL, fun H1 s1 => ?_⟩
    obtain ⟨G, r0, d1, ok, hn⟩ := S.sm s1
    refine ⟨_, rfl, _, rfl, _, rfl, v0, v1, gs, page, rfl, G, r0, d1, ok, hn, logB_un hL, fun v H2 s2 dv => ?_⟩
    have fp := fs_plain (fillsP (hmOf gs) page)
    have fdp := fs_depth (fillsP (hmOf gs) page)
    refine ⟨fillD fl, (fillsP (hmOf gs) page).map fillD, dp_sm (s1.trans s2) d2, .inl dv, by simp only [fillD, PyData.plain]; exact plainAll_strs fl, fp, by omega, ?_⟩
    have : ((fillsP (hmOf gs) page).map fillD).any (fun z => PyData.eqv z (fillD fl)) = true := List.any_eq_true.mpr ⟨fillD fl, List.mem_map.mpr ⟨fl, hf, rfl⟩, by
      unfold fillD
      have : ∀ zs : List Str, PyData.eqvAll (zs.map .str) (zs.map .str) = true := fun zs => by
        induction zs with
        | nil => simp [PyData.eqvAll]
        | cons z zs ih => rw [List.map_cons, KM.eqvAll_cons, ih, eqs]; simp
      simpa [PyData.eqv] using this fl⟩
    rw [this]
    exact ⟨_, rfl, ite_no (q H2 (s1.trans s2))⟩
theorem ok_chkX {BF : Addr} {f fL fF : Addr} {fd fdL fdF : FuncData} (F : Fd K iChkF "check_filling" f fd) (GL : FnOk P w K mg base CX0 5 fL fdL ["shop", "log"] (spCheckLog P w K CS)) (bL : Binds K fdL ["shop", "log"] []) (kL : PySem.W.keepIn K (.ref fL) = true) (gL : mg "check_log" = some (.ref fL))
    (GF : FnOk P w K mg base CX0 3 fF fdF ["shop", "events"] (spFills P w K CS)) (bFn : Binds K fdF ["shop", "events"] []) (kF : PySem.W.keepIn K (.ref fF) = true) (gF : mg "fillings_of" = some (.ref fF)) (R : Er P w K mg base "BadFilling" "value" BF) :
    FnOk P w K mg base (L2.CX P w) 6 f fd ["shop", "log", "filling"] (spChkX P w K CS BF) := by
  refine F.ok scChkF (fun vs H Q E h => ?_) (fun cdv A outer s H vs Q E hr h => ?_)
  · obtain ⟨v0, v1, v2, gs, page, rfl, _⟩ := h
    rfl
  · obtain ⟨v0, v1, v2, gs, page, rfl, S, hL, no, ra⟩ := h
    have tk : Takes (cxOf (L2.CX P w) P w K mg base ["shop", "log", "filling"] "check_filling" (defScope (topAt iChkF)) f cdv A outer s H E) (fun cls d _ H => E cls d H) := takes_of rfl rfl rfl rfl
    refine ⟨_, pss_cons (ps_expr (pe_call GL hr rfl gL kL bL .nil pass0 (pa_cons (pv 0) (pa_cons (pv 1) pa_nil))))
      (pss_one (ps_if (pt_cmpR (op_notInX (hu30 hr)) (pv 2) (pe_call GF (hr.mono (by decide)) rfl gF kF bFn .nil pass0 (pa_cons (pv 0) (pa_cons (pv 1) pa_nil))) rfl) (pss_one (pv_raise rfl tk R (hr.mono (by decide)) rfl (pv 2) (by decide))) pss_nil)), ?_⟩
    refine ⟨_, rfl, _, rfl, v0, v1, gs, page, rfl, S, hL, fun H1 s1 => ?_⟩
    obtain ⟨G, r0, d1, ok, hn⟩ := S.sm s1
    refine ⟨_, rfl, _, rfl, _, rfl, v0, v1, gs, page, rfl, G, r0, d1, ok, hn, logB_un hL, fun v H2 s2 dv => ?_⟩
    have fp := fs_plain (fillsP (hmOf gs) page)
    have fdp := fs_depth (fillsP (hmOf gs) page)
    have fin : ∃ k, V.bl true = V.bl k ∧ if k = true then tVar 2 [some v0, some v1, some v2] H2 (fun v H1 => raiV E H1 BF v) else Q .non H2 := ⟨_, rfl, ite_yes ⟨_, rfl, raiV_sm (s1.trans s2) ra⟩⟩
    rcases no.sm (s1.trans s2) with ⟨d, hd, pd, nd⟩ | ⟨a, kvs, rfl, ha⟩
    · refine .inl ⟨d, (fillsP (hmOf gs) page).map fillD, hd, .inl dv, pd, fp, by omega, ?_⟩
      have : ((fillsP (hmOf gs) page).map fillD).any (fun z => PyData.eqv z d) = false := by
        refine List.any_eq_false.mpr fun x hx e => ?_
        obtain ⟨g, hg, rfl⟩ := List.mem_map.mp hx
        exact nd g hg (eqv_fill e)
      rw [this]
      exact fin
    · obtain ⟨p, us, rfl, sq, du⟩ : ∃ p us, v = .ref p ∧ SqT K H2 p us ∧ DpAll K H2 us ((fillsP (hmOf gs) page).map fillD) := by
        cases dv with
        | tup hs t => exact ⟨_, _, rfl, hs, t⟩
      refine .inr ⟨a, p, us, kvs, rfl, rfl, ha, sq, fun u hu => ?_, fin⟩
      obtain ⟨i, hi⟩ := List.getElem?_of_mem hu
      have lu : us.length = (fillsP (hmOf gs) page).length := by rw [dpa_len du, List.length_map]
      have hlt := (List.getElem?_eq_some_iff.mp hi).1
      obtain ⟨x, hx, dx⟩ := dpa_at du i (fillD ((fillsP (hmOf gs) page)[i]'(by omega))) (by rw [List.getElem?_map, List.getElem?_eq_getElem (by omega)]; rfl)
      obtain rfl := Option.some.inj (hx.symm.trans hi)
      cases dx with
      | tup hs _ => exact ⟨_, _, rfl, hs⟩
end
end KW
namespace KW
open PySem PySem.Spec PyProof.Rows L2 KZ KS KP DC
/-! letters: told and refused -/
theorem rowE_len {hm : Str → Str} {n : Nat} {o : Str → Str} {e : Ev} : (rowE hm n o e).length ≤ 3 := by
  cases e with
  | fresh w => exact Nat.zero_le _
  | gap w => exact (by decide : 1 ≤ 3)
  | clear => exact Nat.zero_le _
  | run w t out =>
    cases out with
    | none => exact Nat.zero_le _
    | some z =>
      show (runLet hm n t z (o w)).length ≤ 3
      unfold runLet
      rw [List.length_append, List.length_append]
      have a : (if o w = "" ∨ o w = hm t.1 then ([] : List PyData) else [.tuple [.str "close", .str (o w)]]).length ≤ 1 := by split <;> simp
      have b : (if o w = hm t.1 then ([] : List PyData) else [.tuple [.str (if z = "skip" then "fail" else "pass"), thD (hm t.1, 0)]]).length ≤ 1 := by split <;> simp
      have c : (if z = "skip" then ([] : List PyData) else [if z = "cut" then .tuple [.str "cut", .int n] else .tuple [.str z, thD t]]).length ≤ 1 := by split <;> simp
      omega
theorem rowE_noL {hm : Str → Str} {n : Nat} {o : Str → Str} {e : Ev} : ∀ d ∈ rowE hm n o e, noL d = true := by
  cases e with
  | fresh w => intro d h; cases h
  | gap w => intro d h; rw [List.mem_singleton.mp h]; rfl
  | clear => intro d h; cases h
  | run w t out =>
    cases out with
    | none => intro d h; cases h
    | some z => exact noL_let
theorem rowsL_len (hm : Str → Str) : ∀ (l : List Ev) (n : Nat) (o : Str → Str), (rowsL hm n o l).length = l.length
  | [], _, _ => rfl
  | e :: l, n, o => by
    show (rowsL hm (n + 1) _ l).length + 1 = _
    rw [rowsL_len hm l, List.length_cons]
theorem rowsL_at {hm : Str → Str} : ∀ {l : List Ev} {n i : Nat} {o : Str → Str} {e : Ev}, l[i]? = some e → ∃ o', (rowsL hm n o l)[i]? = some (rowE hm (n + i) o' e)
  | [], n, i, o, e, h => by simp at h
  | a :: l, n, i, o, e, h => by
    cases i with
    | zero =>
      simp at h
      subst h
      exact ⟨o, rfl⟩
    | succ i =>
      obtain ⟨o', h'⟩ := rowsL_at (hm := hm) (l := l) (n := n + 1) (i := i) (o := stepO hm o a) (e := e) (by simpa using h)
      refine ⟨o', ?_⟩
      rw [show n + (i + 1) = n + 1 + i by omega, ← h']
      rfl
theorem flatL_snoc : ∀ {p : List Ev} {rs : List (List PyData)} {n : Nat} {e : Ev} {r : List PyData}, rs.length = p.length → flatL n (p ++ [e]) (rs ++ [r]) = flatL n p rs ++ r.map (fun l => .tuple [.int ((n + p.length : Nat) : Int), .str (wkE e), l])
  | [], [], n, e, r, _ => by
    show r.map _ ++ [] = [] ++ r.map _
    rw [List.append_nil]
    rfl
  | [], _ :: _, n, e, r, h => by cases h
  | _ :: _, [], n, e, r, h => by cases h
  | a :: p, x :: rs, n, e, r, h => by
    show x.map _ ++ flatL (n + 1) (p ++ [e]) (rs ++ [r]) = (x.map _ ++ flatL (n + 1) p rs) ++ r.map _
    rw [flatL_snoc (p := p) (rs := rs) (by simpa using h), List.append_assoc, List.length_cons, show n + 1 + p.length = n + (p.length + 1) by omega]
theorem flatL_len {c : Nat} : ∀ {p : List Ev} {rs : List (List PyData)} {n : Nat}, (∀ r ∈ rs, r.length ≤ c) → (flatL n p rs).length ≤ c * rs.length
  | [], rs, n, _ => by simp [flatL]
  | _ :: _, [], n, _ => by simp [flatL]
  | a :: p, x :: rs, n, h => by
    show (x.map _ ++ flatL (n + 1) p rs).length ≤ _
    have h1 := h x (List.mem_cons_self ..)
    have h2 := flatL_len (p := p) (rs := rs) (n := n + 1) fun r hr => h r (List.mem_cons_of_mem _ hr)
    rw [List.length_append, List.length_map, List.length_cons, Nat.mul_add]
    omega
theorem prodR_ok : ∀ {page : List Ev} {f : List Str}, f ∈ prodR page → f.length = (page.filter untD).length ∧ ∀ z ∈ f, z ∈ outsU
  | [], f, h => by
    obtain rfl := List.mem_singleton.mp h
    exact ⟨rfl, fun z hz => absurd hz (by simp)⟩
  | e :: p, f, h => by
    unfold prodR at h
    cases hu : untD e with
    | true =>
      rw [if_pos hu] at h
      obtain ⟨z, hz, h⟩ := List.mem_flatMap.mp h
      obtain ⟨g, hg, rfl⟩ := List.mem_map.mp h
      obtain ⟨h1, h2⟩ := prodR_ok hg
      refine ⟨by rw [List.filter_cons_of_pos hu, List.length_cons, List.length_cons, h1], fun y hy => ?_⟩
      rcases List.mem_cons.mp hy with rfl | hy
      · exact hz
      · exact h2 y hy
    | false =>
      rw [if_neg (by simp [hu])] at h
      rw [List.filter_cons_of_neg (by simp [hu])]
      exact prodR_ok h
theorem fills_ok {hm : Str → Str} {page : List Ev} {f : List Str} (h : f ∈ fillsP hm page) : f.length = (page.filter untD).length ∧ (∀ z ∈ f, z ∈ outsU) ∧ (goB hm 0 (fun _ => "") f page).isSome = true := by
  rw [fills_are, prodL, prodL_R] at h
  have h := List.mem_filter.mp h
  have h1 : f ∈ prodR page := by simpa using h.1
  exact ⟨(prodR_ok h1).1, (prodR_ok h1).2, h.2⟩
theorem wk_at {e0 : Ev} {e : Ev} (h : e = e0 ∨ ∃ z, untD e0 = true ∧ e = tellE e0 z) {hm : Str → Str} {n : Nat} {o : Str → Str} {d : PyData} (hd : d ∈ rowE hm n o e) : oIx (.d (evD e0)) (.d (.int 1)) = some (.d (.str (wkE e0))) := by
  cases e0 with
  | clear =>
    rcases h with rfl | ⟨z, h, _⟩
    · cases hd
    · cases h
  | _ => rfl
def spLtrs (P : Program) (w : World) (K : PySem.W.Frag) (CS : Addr) : Sp := fun vs H Q _ => ∃ (v0 v1 v2 : V) (gs : List Grp) (page : List Ev) (f : List Str) (ds : List PyData), vs = [v0, v1, v2] ∧ ShEv P w K CS H v0 v1 gs page ∧ logB gs page = true ∧ Dp K H v2 (fillD f) ∧ f ∈ fillsP (hmOf gs) page ∧ goB (hmOf gs) 0 (fun _ => "") f page = some ds ∧
  ∀ v H', Sm H H' → Dp K H' v (.tuple ds) → Q v H'
section
variable {P : Program} {w : World} {K : PySem.W.Frag} {mg : Str → Option Value} {base : Heap} {CS : Addr}
theorem ok_letters {CX : CXT} {f fC fL : Addr} {fd fdC fdL : FuncData} (F : Fd K iLetters "letters" f fd) (GC : FnOk P w K mg base CX0 6 fC fdC ["shop", "log", "filling"] (spChkF P w K CS)) (bC : Binds K fdC ["shop", "log", "filling"] []) (kC : PySem.W.keepIn K (.ref fC) = true) (gC : mg "check_filling" = some (.ref fC))
    (GL : FnOk P w K mg base CX0 3 fL fdL ["shop", "events", "filling"] (spLets P w K CS)) (bL : Binds K fdL ["shop", "events", "filling"] []) (kL : PySem.W.keepIn K (.ref fL) = true) (gL : mg "letters_of" = some (.ref fL)) (ge : mg "enumerate" = none) (gt : mg "tuple" = none) :
    FnOk P w K mg base CX 7 f fd ["shop", "log", "filling"] (spLtrs P w K CS) := by
  refine F.ok scLetters (fun vs H Q E h => ?_) (fun cdv A outer s H vs Q E hr h => ?_)
  · obtain ⟨v0, v1, v2, gs, page, f, ds, rfl, _⟩ := h
    rfl
  · obtain ⟨v0, v1, v2, gs, page, fl, ds, rfl, S, hL, d2, hf, eG, q⟩ := h
    refine ⟨_, PSs.nox (pss_cons (ps_expr (pe_call GC hr rfl gC kC bC .nil pass0 (pa_cons (pv 0) (pa_cons (pv 1) (pa_cons (pv 2) pa_nil)))))
      (pss_cons (ps_set (i := 3) scLetters.nd rfl (Or.inl rfl) (pe_lst pa_nil))
      (pss_cons (ps_for PassesOwn.never rfl (L2.pi_enum rfl ge (pa_cons (pe_call GL (hr.mono (by decide)) rfl gL kL bL .nil pass0 (pa_cons (pv 0) (pa_cons (pv 1) (pa_cons (pv 2) pa_nil)))) pa_nil)) (pg_tup rfl (pgs_cons (pg_name (i := 4) scLetters.nd rfl (Or.inl rfl)) (pgs_cons (pg_name (i := 5) scLetters.nd rfl (Or.inl rfl)) pgs_nil)))
        (pss_one (ps_for PassesOwn.never rfl (pi_list (pv 5)) (pg_name (i := 6) scLetters.nd rfl (Or.inl rfl))
          (pss_one (ps_expr (pe_bm PySem.F.plainAttrs_list PySem.F.slot_list_append PySem.F.type_list_append mt_append (pv 3) (wa_cons (we_tup (wa_cons (we_v (pv 4)) (wa_cons (we_ix ix_seq m_ix (we_ix ix_seq m_ix (we_v (pv 1)) (we_v (pv 4)) (fun _ _ => rfl)) (we_c pe_int) (fun _ _ => rfl)) (wa_cons (we_v (pv 6)) wa_nil)))) wa_nil)))))))
      (pss_one (ps_ret (pe_callTy call_tuple_of (by rfl) gt (by decide +kernel) (pa_cons (pv 3) pa_nil))))))), ?_⟩
    have sl : sizeLine = 16777216 := sizeLine_eq
    obtain ⟨lf, lz, _⟩ := fills_ok hf
    have lun := logB_un hL
    refine ⟨_, rfl, _, rfl, _, rfl, v0, v1, v2, gs, page, fl, rfl, S, hL, d2, hf, fun H1 s1 => ?_⟩
    have S1 := S.sm s1
    have d21 := dp_sm s1 d2
    refine ⟨by rw [sl]; exact Nat.zero_le _, fun F0 nF => ?_⟩
    have B0 : LsB K H1 (upd H1 F0 (.lst [])) F0 [] [] := .new nF
    have hF2 : (upd H1 F0 (.lst [])) F0 = some (.lst []) := upd_same
    have S2 := S1.sm (upd_sm (o := .lst []) nF)
    have d22 := dp_sm (upd_sm (o := .lst []) nF) d21
    generalize upd H1 F0 (.lst []) = H2 at B0 hF2 S2 d22 ⊢
    refine ⟨_, rfl, _, rfl, _, rfl, v0, v1, v2, gs, page, fl, rfl, S2, d22, by omega, by omega, lz, fun l us H3 BL nw => ?_⟩
    have lF : l ≠ F0 := fun z => by
      have := BL.nF
      rw [z, hF2] at this
      cases this
    have B3 := B0.step BL.all
    have tl : (toldP page fl).length = page.length := toldP_len page fl
    have tat : ∀ {i : Nat} {e : Ev}, (toldP page fl)[i]? = some e → ∃ e0, page[i]? = some e0 ∧ wkE e = wkE e0 ∧ (e = e0 ∨ ∃ z, untD e0 = true ∧ e = tellE e0 z) := fun h => told_at h
    have eF : flatL 0 page (rowsL (hmOf gs) 0 (fun _ => "") (toldP page fl)) = ds := rows_goB (hmOf gs) page 0 _ fl ds eG
    generalize toldP page fl = tp at BL tl tat eF
    have lus : us.length = tp.length := by rw [BL.len, List.length_map, rowsL_len]
    obtain ⟨G, r0, d1, ok, ln⟩ := S1
    have hl3 : (dls [F0] H3) l = some (.lst us) := dls_at BL.hF (by simp [lF])
    have nls : ∀ ds : List PyData, (∀ d ∈ ds, noL d = true) → noLs ds = true := fun ds => by
      induction ds with
      | nil => intro _; rfl
      | cons d ds ih => intro h; show (noL d && noLs ds) = true; rw [h d (List.mem_cons_self ..), ih fun y hy => h y (List.mem_cons_of_mem _ hy)]; rfl
    have nF3 : (dls [F0] H3) F0 = none := by simp [dls]
    -- row i
    have row : ∀ (i : Nat) (x : V), us[i]? = some x → ∃ (e e0 : Ev) (o' : Str → Str) (r : Addr) (ys : List V), page[i]? = some e0 ∧ (e = e0 ∨ ∃ z, untD e0 = true ∧ e = tellE e0 z) ∧ (rowsL (hmOf gs) 0 (fun _ => "") tp)[i]? = some (rowE (hmOf gs) i o' e) ∧ x = .ref r ∧ SqL K (dls [F0] H3) r ys ∧ DpAll K (dls [F0] H3) ys (rowE (hmOf gs) i o' e) := by
      intro i x hx
      have hi : i < us.length := (List.getElem?_eq_some_iff.mp hx).1
      obtain ⟨e, he⟩ : ∃ e, tp[i]? = some e := ⟨_, List.getElem?_eq_getElem (by omega)⟩
      obtain ⟨e0, h0, _, he0⟩ := tat he
      obtain ⟨o', ho⟩ := rowsL_at (hm := hmOf gs) (n := 0) (o := fun _ => "") he
      rw [Nat.zero_add] at ho
      obtain ⟨x', hx', dx⟩ := dpa_at BL.dv i (.list (rowE (hmOf gs) i o' e)) (by rw [List.getElem?_map, ho]; rfl)
      obtain rfl := Option.some.inj (hx'.symm.trans hx)
      obtain ⟨r, rfl, nr⟩ := nw x' (List.mem_of_getElem? hx)
      cases dx with
      | @lst _ ys _ sq da =>
        have rF : r ≠ F0 := fun z => by rw [z, hF2] at nr; cases nr
        refine ⟨e, e0, o', r, ys, h0, he0, ho, rfl, ?_, dpa_le (le1 B3.hF) (nls _ rowE_noL) (dpa_sm (dls_sm _ _) da)⟩
        have mv : ∀ {o : HO}, (dls [l] H3) r = some o → (dls [F0] H3) r = some o := fun h => dls_at (dls_sm _ _ _ _ h) (by simp [rF])
        rcases sq with h | h
        · exact .inl (h.elim (fun h => .inl (mv h)) fun ⟨o, h⟩ => .inr ⟨o, mv h⟩)
        · exact .inr h
    refine ⟨l, us, rfl, SqL.of BL.hF, for_enumL (K := K) (a := l) (xs := us)
      (fun i σ H' => ∃ (vs : List V) (b4 b5 b6 : Option V), σ = [some v0, some v1, some v2, some (.ref F0), b4, b5, b6] ∧ LsB K H1 H' F0 vs (flatL 0 (page.take i) ((rowsL (hmOf gs) 0 (fun _ => "") tp).take i)) ∧ Sm (dls [F0] H3) (dls [F0] H'))
      ⟨[], _, _, _, rfl, B3, Sm.rfl' _⟩ (fun i σ H' _ ⟨_, _, _, _, _, _, s⟩ => SqL.of (dls_sm _ _ _ _ (s _ _ hl3))) ?_ ?_⟩
    · rintro i x T σ H4 hx ⟨vs, b4, b5, b6, rfl, B4, s34⟩ nT
      have hi : i < us.length := (List.getElem?_eq_some_iff.mp hx).1
      obtain ⟨e, e0, o', r, ys, h0, he0, ho, rfl, sq, dy⟩ := row i x hx
      have lrw := rowsL_len (hmOf gs) tp 0 (fun _ => "")
      rw [take1 h0, take1 ho, flatL_snoc (by rw [List.length_take, List.length_take]; omega), List.length_take, Nat.min_eq_left (by omega), Nat.zero_add]
      have lac : (flatL 0 (page.take i) ((rowsL (hmOf gs) 0 (fun _ => "") tp).take i)).length ≤ 300 := by
        refine Nat.le_trans (flatL_len (c := 3) fun r hr => ?_) (by rw [List.length_take]; omega)
        obtain ⟨j, hj⟩ := List.getElem?_of_mem (List.mem_of_mem_take hr)
        have lj := (List.getElem?_eq_some_iff.mp hj).1
        obtain ⟨e, he⟩ : ∃ e, tp[j]? = some e := ⟨_, List.getElem?_eq_getElem (by omega)⟩
        obtain ⟨o', ho⟩ := rowsL_at (hm := hmOf gs) (n := 0) (o := fun _ => "") he
        rw [ho] at hj
        cases hj
        exact rowE_len
      generalize flatL 0 (page.take i) ((rowsL (hmOf gs) 0 (fun _ => "") tp).take i) = acc at B4 lac ⊢
      have lr3 : (rowE (hmOf gs) i o' e).length ≤ 3 := rowE_len
      have nlr : ∀ d ∈ rowE (hmOf gs) i o' e, noL d = true := rowE_noL
      have wk : ∀ d ∈ rowE (hmOf gs) i o' e, oIx (.d (evD e0)) (.d (.int 1)) = some (.d (.str (wkE e0))) := fun d hd => wk_at he0 hd
      generalize rowE (hmOf gs) i o' e = ls at dy lr3 nlr wk ⊢
      have ly : ys.length = ls.length := dpa_len dy
      refine ⟨T, _, rfl, SqT.of upd_same, rfl, _, _, rfl, _, _, rfl, rfl, ?_⟩
      have B5 := B4.step (upd_sm (o := .tup [.int (i : Nat), V.ref r]) nT)
      have s35 := s34.trans (dls_mono (upd_sm (o := .tup [.int (i : Nat), V.ref r]) nT))
      clear B4 s34 ho
      generalize upd H4 T (.tup [.int (i : Nat), V.ref r]) = H5 at B5 s35 ⊢
      refine ⟨_, rfl, r, rfl, ⟨ys, sql_sm (dls_sm [F0] _) (sql_sm s35 sq)⟩, for_list (K := K) (a := r) (xs := ys)
        (fun j σ H' => ∃ (vs : List V) (b6 : Option V), σ = [some v0, some v1, some v2, some (.ref F0), some (.int i), some (.ref r), b6] ∧ LsB K H1 H' F0 vs (acc ++ (ls.take j).map fun l => .tuple [.int i, .str (wkE e0), l]) ∧ Sm (dls [F0] H3) (dls [F0] H'))
        ⟨_, _, rfl, by simpa using B5, s35⟩ (fun j σ H' _ ⟨_, _, _, _, s⟩ => sql_sm (dls_sm _ _) (sql_sm s sq)) ?_ ?_⟩
      · rintro j y σ H6 hy ⟨vs, b6, rfl, B6, s36⟩
        obtain ⟨d, hd⟩ : ∃ d, ls[j]? = some d := ⟨_, List.getElem?_eq_getElem (by have := (List.getElem?_eq_some_iff.mp hy).1; omega)⟩
        obtain ⟨y', hy', dyy⟩ := dpa_at dy j d hd
        obtain rfl := Option.some.inj (hy'.symm.trans hy)
        have hdm := List.mem_of_getElem? hd
        have nd := nlr d hdm
        have lt : ((ls.take j).map fun l => PyData.tuple [.int i, .str (wkE e0), l]).length ≤ 3 := by rw [List.length_map, List.length_take]; omega
        have B6' : LsB K (dls [F0] H3) H6 F0 vs (acc ++ (ls.take j).map fun l => .tuple [.int i, .str (wkE e0), l]) := ⟨nF3, B6.hF, B6.dv, s36⟩
        refine lapp_ok (x := .tuple [.int i, .str (wkE e0), d]) (ε := [none, some (.d (.tuple (page.map evD))), none, none, some (.d (.int i)), none, some (.d d)]) B6' (fun {H7} s7 => ?_) rfl ?_ ?_ (by rw [List.length_append]; omega) (fun us' H7 B7 => ?_)
        · exact er_no (er_yes (.d (dp_sm (B3.sm.trans s7) d1)) (er_no (er_no (er_yes (.d (.int _)) (er_no (er_yes (.d (dp_sm s7 dyy)) er_nil))))))
        · have e1 : opF (opF (vF 1) (vF 4) oIx) (cF (sc (V.int 1))) oIx [none, some (Wv.d (PyData.tuple (List.map evD page))), none, none, some (Wv.d (PyData.int ↑i)), none, some (Wv.d d)] = some (.d (.str (wkE e0))) := by
            show ((oIx (.d (.tuple (page.map evD))) (.d (.int i))).bind fun x => oIx x (.d (.int 1))) = _
            rw [oIx_at' (d := evD e0) (by rw [List.getElem?_map, h0]; rfl)]
            exact wk d hdm
          simp only [tupF, consF]
          rw [e1]
          rfl
        · simp [noL, noLs, nd]
        · rw [take1 hd, List.map_append, ← List.append_assoc]
          exact ⟨us', _, rfl, ⟨nF, B7.hF, B7.dv, B3.sm.trans B7.sm⟩, B7.sm⟩
      · rintro σ H6 ⟨vs, b6, rfl, B6, s36⟩
        rw [ly, List.take_length] at B6
        exact ⟨vs, _, _, _, rfl, B6, s36⟩
    · rintro σ H4 ⟨vs, b4, b5, b6, rfl, B4, s34⟩
      rw [List.take_of_length_le (by omega), List.take_of_length_le (by rw [rowsL_len]; omega), eF] at B4
      refine ⟨_, rfl, F0, vs, rfl, .inl ⟨SqL.of B4.hF, fun p np => ?_⟩⟩
      have pF : p ≠ F0 := fun z => by rw [z, B4.hF] at np; cases np
      exact q _ _ (s1.trans (B4.all.trans (upd_sm np))) (.tup (SqT.of upd_same) (dpa_sm (dls_sm _ _) (dpa_sm (dls_mono (upd_sm np)) B4.dv)))
def spLtX (P : Program) (w : World) (K : PySem.W.Frag) (CS BF : Addr) : Sp := fun vs H Q E => spLtrs P w K CS vs H Q E ∨ spChkX P w K CS BF vs H Q E
theorem ok_ltX {BF : Addr} {f fC : Addr} {fd fdC : FuncData} (F : Fd K iLetters "letters" f fd) (GC : FnOk P w K mg base (L2.CX P w) 6 fC fdC ["shop", "log", "filling"] (spChkX P w K CS BF)) (bC : Binds K fdC ["shop", "log", "filling"] []) (kC : PySem.W.keepIn K (.ref fC) = true) (gC : mg "check_filling" = some (.ref fC)) :
    FnOk P w K mg base (L2.CX P w) 7 f fd ["shop", "log", "filling"] (spChkX P w K CS BF) := by
  refine F.ok scLetters (fun vs H Q E h => ?_) (fun cdv A outer s H vs Q E hr h => ?_)
  · obtain ⟨v0, v1, v2, gs, page, rfl, _⟩ := h
    rfl
  · obtain ⟨v0, v1, v2, gs, page, rfl, rest⟩ := h
    have tk : Takes (cxOf (L2.CX P w) P w K mg base NLt "letters" (defScope (topAt iLetters)) f cdv A outer s H E) (fun cls d _ H => E cls d H) := takes_of rfl rfl rfl rfl
    refine ⟨_, pss_cons (ps_expr (pe_call GC hr rfl gC kC bC .nil (passes_call tk fun _ _ _ _ h => h) (pa_cons (pv 0) (pa_cons (pv 1) (pa_cons (pv 2) pa_nil))))) pss_never, ?_⟩
    exact ⟨_, rfl, _, rfl, _, rfl, v0, v1, v2, gs, page, rfl, rest.1, rest.2.1, rest.2.2.1, fun dx H' s e => rest.2.2.2 dx H' s e⟩
theorem ok_lettersX {BF : Addr} {f fC fL : Addr} {fd fdC fdL : FuncData} (F : Fd K iLetters "letters" f fd) (GC : FnOk P w K mg base CX0 6 fC fdC ["shop", "log", "filling"] (spChkF P w K CS)) (GX : FnOk P w K mg base (L2.CX P w) 6 fC fdC ["shop", "log", "filling"] (spChkX P w K CS BF)) (bC : Binds K fdC ["shop", "log", "filling"] []) (kC : PySem.W.keepIn K (.ref fC) = true) (gC : mg "check_filling" = some (.ref fC))
    (GL : FnOk P w K mg base CX0 3 fL fdL ["shop", "events", "filling"] (spLets P w K CS)) (bL : Binds K fdL ["shop", "events", "filling"] []) (kL : PySem.W.keepIn K (.ref fL) = true) (gL : mg "letters_of" = some (.ref fL)) (ge : mg "enumerate" = none) (gt : mg "tuple" = none) :
    FnOk P w K mg base (L2.CX P w) 7 f fd ["shop", "log", "filling"] (spLtX P w K CS BF) := KW.FnOk.or (ok_letters F GC bC kC gC GL bL kL gL ge gt) (ok_ltX F GX bC kC gC)
end
end KW
namespace KW
open PySem PySem.Spec PyProof.Rows L2 KZ KS KP DC
/-! the law's _law_fills -/
theorem prodL_len : ∀ (page : List Ev) (L : List (List Str)), (page.foldl (fun L e => stepL e L) L).length = L.length * 3 ^ (page.filter untD).length
  | [], L => by simp
  | e :: p, L => by
    rw [List.foldl_cons, prodL_len p]
    unfold stepL
    cases h : untD e with
    | true =>
      rw [if_pos rfl, List.filter_cons_of_pos h, List.length_cons, Nat.pow_succ]
      have : (L.flatMap fun f => outsU.map fun z => f ++ [z]).length = L.length * 3 := by
        induction L with
        | nil => rfl
        | cons x L ih => rw [List.flatMap_cons, List.length_append, ih, List.length_map, List.length_cons]; show 3 + _ = _; omega
      rw [this, Nat.mul_assoc, Nat.mul_comm 3]
    | false => rw [if_neg (by simp), List.filter_cons_of_neg (by simp [h])]
theorem prodL_fl : ∀ (page : List Ev) (L : List (List Str)) (n : Nat), (∀ g ∈ L, g.length = n) → ∀ f ∈ page.foldl (fun L e => stepL e L) L, f.length = n + (page.filter untD).length
  | [], L, n, h, f, hf => h f hf
  | e :: p, L, n, h, f, hf => by
    rw [List.foldl_cons] at hf
    cases he : untD e with
    | true =>
      rw [List.filter_cons_of_pos he, List.length_cons]
      have := prodL_fl p (stepL e L) (n + 1) (fun g hg => by
        unfold stepL at hg
        rw [if_pos he] at hg
        obtain ⟨g0, h0, hg⟩ := List.mem_flatMap.mp hg
        obtain ⟨z, _, rfl⟩ := List.mem_map.mp hg
        rw [List.length_append, h g0 h0]
        rfl) f hf
      omega
    | false =>
      rw [List.filter_cons_of_neg (by simp [he])]
      refine prodL_fl p (stepL e L) n (fun g hg => ?_) f hf
      unfold stepL at hg
      rw [if_neg (by simp [he])] at hg
      exact h g hg
/-- the law's fillings -/
def fillsL (hm : Str → Str) (page : List Ev) : List (List Str) := (prodL page).filter fun f => (goB hm 0 (fun _ => "") f page).isSome
theorem noLs_fills : ∀ fs : List (List Str), noLs (fs.map fillD) = true
  | [] => rfl
  | f :: t => by
    show (noL (fillD f) && noLs (t.map fillD)) = true
    rw [noLs_fills t, show noL (fillD f) = true from noLs_strs f]
    rfl
abbrev iFillsL : Nat := 56
abbrev NFl : List Str := ["_law_home_here", "_law_page", "_law_found", "_law_event", "_law_longer", "_law_fill", "_law_out"]
theorem scFl : FnScope NFl ["_law_home_here", "_law_page"] (defScope (topAt iFillsL)) := ⟨rfl, rfl, rfl, by decide +kernel, rfl, by decide +kernel, by decide +kernel⟩
def spFillsL (K : PySem.W.Frag) : Sp := fun vs H Q _ => ∃ (hm : Addr) (vp : V) (gs : List Grp) (page : List Ev), vs = [.ref hm, vp] ∧ H hm = some (.dK (homeOf gs)) ∧ GoodGs gs ∧ Dp K H vp (.tuple (page.map evD)) ∧ (∀ e ∈ page, EvOk gs e) ∧ page.length ≤ 100 ∧ (page.filter untD).length ≤ 3 ∧
  ∀ (l : Addr) (us : List V) H', Sm H H' → H l = none → H' l = some (.lst us) → DpAll K (dls [l] H') us ((fillsL (hmOf gs) page).map fillD) → Sm H (dls [l] H') → Q (.ref l) H'
section
variable {P : Program} {w : World} {K : PySem.W.Frag} {mg : Str → Option Value} {base : Heap}
theorem ok_fillsL {f fB : Addr} {fd fdB : FuncData} (F : Fd K iFillsL "_law_fills" f fd)
    (GB : FnOk P w K mg base CX0 1 fB fdB ["_law_home_here", "_law_page", "_law_fill"] (spBrought K)) (bB : Binds K fdB ["_law_home_here", "_law_page", "_law_fill"] []) (kB : PySem.W.keepIn K (.ref fB) = true) (gB : mg "_law_brought" = some (.ref fB))
    (gls : mg "list" = none) : FnOk P w K mg base CX0 2 f fd ["_law_home_here", "_law_page"] (spFillsL K) := by
  refine F.ok scFl (fun vs H Q E h => ?_) (fun cdv A outer s H vs Q E hr h => ?_)
  · obtain ⟨hm, vp, gs, page, rfl, _⟩ := h
    rfl
  · obtain ⟨hm, vp, gs, page, rfl, hh, G, dp0, ok, ln, lu, q⟩ := h
    refine ⟨_, PSs.nox (pss_cons (ps_set (i := 2) scFl.nd rfl (Or.inl rfl) (pe_lst (pa_cons (pe_tup pa_nil) pa_nil)))
      (pss_cons (ps_for PassesOwn.never rfl (pi_tup (pv 1)) (pg_name (i := 3) scFl.nd rfl (Or.inl rfl))
        (pss_one (ps_if (wt_ww (ww_and (wt_cmp (NL.op_eqP (hu30 hr)) (m_eq false) (we_ix ix_seq m_ix (we_v (pv 3)) (we_c pe_int) (fun _ _ => rfl)) (we_c pe_str) (nomark _)) (ww_and1 (wt_cmp op_isN m_isN (we_ix ix_seq m_ix (we_v (pv 3)) (we_c pe_int) (fun _ _ => rfl)) (we_c pe_non) (nomark _)))))
          (pss_cons (ps_set (i := 4) scFl.nd rfl (Or.inl rfl) (pe_lst pa_nil))
          (pss_cons (ps_for PassesOwn.never rfl (pi_list (pe_callTy call_list_of (by rfl) gls (by decide +kernel) (pa_cons (pv 2) pa_nil))) (pg_name (i := 5) scFl.nd rfl (Or.inr rfl))
            (pss_one (ps_expr (pe_bm PySem.F.plainAttrs_list PySem.F.slot_list_extend PySem.F.type_list_extend mt_extend (pv 4) (pa_cons (pe_lcTf (own := [("_law_out", 6)]) (t := .one 6) rfl scFl.nd (we_tup (wa_cons (we_c pe_str) (wa_cons (we_c pe_str) (wa_cons (we_c pe_str) wa_nil)))) (blkOk_by (N := NFl) (sc := defScope (topAt iFillsL)) (by decide +kernel)) (fun _ _ _ _ _ => pg_name (i := 6) scFl.nd rfl (Or.inl rfl)) (fun _ _ _ _ _ => wts_nil)
              (fun s H C cl fp => we_op (X := Cx.blk _ s H _ _ fp) op_catA m_cat (we_v (pv 5)) (we_tup (wa_cons (we_v (pv 6)) wa_nil)))) pa_nil)))))
          (pss_one (ps_set (i := 2) scFl.nd rfl (Or.inl rfl) (pv 4))))) pss_nil)))
      (pss_one (ps_ret (pe_lc (own := [("_law_fill", 5)]) (g := gName 5) (te := tVar 5) (tt := tTest (tOp (fun x y H Q => y = V.non ∧ Q (V.bl (!decide (x = V.non))) H) (tCall (spBrought K) [] E0 (tCons (tVar 0) (tCons (tVar 1) (tCons (tVar 5) tNil)))) (tC .non))) rfl scFl.nd (pi_list (pv 2)) (blkOk_by (N := NFl) (sc := defScope (topAt iFillsL)) (by decide +kernel)) (fun _ _ _ _ _ => pg_name (i := 5) scFl.nd rfl (Or.inl rfl))
        (fun _ _ _ _ _ => pts_one (pt_cmpR op_notN (pe_call GB hr rfl gB kB bB .nil pass0 (pa_cons (pv 0) (pa_cons (pv 1) (pa_cons (pv 5) pa_nil)))) pe_non (nomark _)))
        (fun _ _ _ _ _ => pv 5)))))), ?_⟩
    have sl : sizeLine = 16777216 := sizeLine_eq
    obtain ⟨a1, us1, rfl, sq1, du1⟩ : ∃ a1 us, vp = .ref a1 ∧ SqT K H a1 us ∧ DpAll K H us (page.map evD) := by
      cases dp0 with
      | tup hs t => exact ⟨_, _, rfl, hs, t⟩
    have lus : us1.length = page.length := by rw [dpa_len du1, List.length_map]
    refine ⟨by rw [sl]; decide, fun p1 np1 => ⟨by rw [sl]; show (1 : Nat) ≤ _; decide, fun F0 nF0 => ?_⟩⟩
    have s1 : Sm H (upd H p1 (.tup [])) := upd_sm np1
    have nFH := sm_no s1 nF0
    have pF : p1 ≠ F0 := fun z => by rw [← z, upd_same] at nF0; cases nF0
    have s2 := s1.trans (upd_sm (o := .lst [.ref p1]) nF0)
    have hF0 : (upd (upd H p1 (.tup [])) F0 (.lst [.ref p1])) F0 = some (.lst [.ref p1]) := upd_same
    have dv0 : DpAll K (dls [F0] (upd (upd H p1 (.tup [])) F0 (.lst [.ref p1]))) [.ref p1] ([([] : List Str)].map fillD) := .cons (.tup (SqT.of (dls_at (by rw [upd_ne pF, upd_same]) (by simp [pF]))) .nil) .nil
    generalize upd (upd H p1 (.tup [])) F0 (.lst [.ref p1]) = H2 at s2 hF0 dv0 ⊢
    have pl3 : ∀ i, ((page.take i).filter untD).length ≤ 3 := fun i => Nat.le_trans (List.Sublist.length_le ((List.take_sublist i page).filter _)) lu
    have rl : ∀ i, ((page.take i).foldl (fun L e => stepL e L) [[]]).length ≤ 27 := fun i => by
      rw [prodL_len, List.length_singleton, Nat.one_mul]
      exact Nat.le_trans (Nat.pow_le_pow_right (by decide) (pl3 i)) (by decide)
    refine ⟨_, rfl, a1, rfl, ⟨us1, sqt_sm s2 sq1⟩, for_tup (K := K) (a := a1) (xs := us1)
      (fun i σ H' => ∃ (Fa : Addr) (xs : List V) (b3 b4 b5 b6 : Option V), σ = [some (.ref hm), some (.ref a1), some (.ref Fa), b3, b4, b5, b6] ∧ H Fa = none ∧ H' Fa = some (.lst xs) ∧ Sm H H' ∧ DpAll K (dls [Fa] H') xs (((page.take i).foldl (fun L e => stepL e L) [[]]).map fillD))
      ⟨F0, _, _, _, _, _, rfl, nFH, hF0, s2, dv0⟩ (fun i σ H' _ ⟨_, _, _, _, _, _, _, _, _, s, _⟩ => sqt_sm s sq1) ?_ ?_⟩
    · rintro i x σ H5 hx ⟨Fa, xs, b3, b4, b5, b6, rfl, nF, hF, s5, dv⟩
      have hi : i < us1.length := (List.getElem?_eq_some_iff.mp hx).1
      obtain ⟨e, he⟩ : ∃ e, page[i]? = some e := ⟨_, List.getElem?_eq_getElem (by omega)⟩
      obtain ⟨x', hx', dx0⟩ := dpa_at du1 i (evD e) (by rw [List.getElem?_map, he]; rfl)
      obtain rfl := Option.some.inj (hx'.symm.trans hx)
      have hlen := rl i
      have fl := prodL_fl (page.take i) [[]] 0 (fun g hg => by rw [List.mem_singleton.mp hg]; rfl)
      have p3 := pl3 i
      rw [take1 he, List.foldl_append]
      generalize (page.take i).foldl (fun L e => stepL e L) [[]] = L at dv hlen fl ⊢
      have lxs : xs.length = L.length := by rw [dpa_len dv, List.length_map]
      refine ⟨[none, none, none, some (.d (evD e)), none, none, none], untD e, er_no (er_no (er_no (er_yes (.d (dp_sm s5 dx0)) (er_no (er_no (er_no er_nil)))))), ?_, fun H6 s6 => ?_⟩
      · cases e with
        | run w t o => cases o <;> rfl
        | _ => rfl
      have dv6 := dpa_sm (dls_mono s6) dv
      have hF6 := s6 _ _ hF
      have s06 := s5.trans s6
      cases hu : untD e with
      | false =>
        refine ite_no ⟨Fa, xs, _, _, _, _, rfl, nF, hF6, s06, ?_⟩
        show DpAll K _ _ ((stepL e L).map fillD)
        unfold stepL
        rw [if_neg (by simp [hu])]
        exact dv6
      | true =>
        refine ite_yes ⟨by rw [sl]; decide, fun F2 nF2 => ?_⟩
        have s7 : Sm H6 (upd H6 F2 (.lst [])) := upd_sm nF2
        have hF7 : (upd H6 F2 (.lst [])) F2 = some (.lst []) := upd_same
        refine ⟨_, rfl, Fa, xs, rfl, .inl (SqL.of (s7 _ _ hF6)), fun C nC => ?_⟩
        have h82 : (upd (upd H6 F2 (.lst [])) C (.lst xs)) F2 = some (.lst []) := upd_sm nC _ _ hF7
        have hC8 : (upd (upd H6 F2 (.lst [])) C (.lst xs)) C = some (.lst xs) := upd_same
        have s68 : Sm H6 (upd (upd H6 F2 (.lst [])) C (.lst xs)) := s7.trans (upd_sm nC)
        generalize upd (upd H6 F2 (.lst [])) C (.lst xs) = H8 at h82 hC8 s68 ⊢
        have CF : C ≠ F2 := fun z => by rw [z, hF7] at nC; cases nC
        have d68 : Sm H6 (dls [F2] H8) := fun b o z => dls_at (s68 _ _ z) (by simp [ne_of_none z nF2])
        have dv8 : DpAll K (dls [F2] H8) xs (L.map fillD) := dpa_sm ((dls_sm _ _).trans d68) dv6
        have dC : (dls [F2] H8) C = some (.lst xs) := dls_at hC8 (by simp [CF])
        have dH : Sm H (dls [F2] H8) := s06.trans d68
        refine ⟨C, rfl, ⟨xs, SqL.of hC8⟩, for_list (K := K) (a := C) (xs := xs)
          (fun j σ H' => ∃ (ys : List V) (b5 b6 : Option V), σ = [some (.ref hm), some (.ref a1), some (.ref Fa), some x', some (.ref F2), b5, b6] ∧ H' F2 = some (.lst ys) ∧ Sm (dls [F2] H8) (dls [F2] H') ∧ DpAll K (dls [F2] H') ys (((L.take j).flatMap fun f => outsU.map fun z => f ++ [z]).map fillD))
          ⟨[], _, _, rfl, h82, Sm.rfl' _, .nil⟩ (fun j σ H' _ ⟨_, _, _, _, _, s, _⟩ => SqL.of (dls_sm _ _ _ _ (s _ _ dC))) ?_ ?_⟩
        · rintro j y σ H9 hy ⟨ys, b5, b6, rfl, hF9, s9, dy⟩
          have hj : j < xs.length := (List.getElem?_eq_some_iff.mp hy).1
          obtain ⟨g, hg⟩ : ∃ g, L[j]? = some g := ⟨_, List.getElem?_eq_getElem (by omega)⟩
          obtain ⟨y', hy', dy0⟩ := dpa_at dv8 j (fillD g) (by rw [List.getElem?_map, hg]; rfl)
          obtain rfl := Option.some.inj (hy'.symm.trans hy)
          have lg := fl g (List.mem_of_getElem? hg)
          have lys : ys.length = ((L.take j).flatMap fun f => outsU.map fun z => f ++ [z]).length := by rw [dpa_len dy, List.length_map]
          have l81 : ((L.take j).flatMap fun f => outsU.map fun z => f ++ [z]).length ≤ 81 := by
            refine Nat.le_trans (flat_len (c := 3) fun r' _ => ?_) ?_
            · rw [List.length_map]
              exact Nat.le_refl _
            · rw [List.length_take]
              omega
          rw [take1 hg, List.flatMap_append, List.flatMap_cons, List.flatMap_nil, List.append_nil]
          generalize ((L.take j).flatMap fun f => outsU.map fun z => f ++ [z]) = gr at dy lys l81 ⊢
          have dy9 : Dp K (dls [F2] H9) y' (fillD g) := dp_sm s9 dy0
          refine ⟨_, rfl, .inl ⟨rfl, _, SqL.of hF9⟩, ?_⟩
          refine ⟨[none, none, none, none, none, some (.d (fillD g)), none], ((outsU.map PyData.str).map fun d => .tuple (g.map PyData.str ++ [d])).map .d, er_no (er_no (er_no (er_no (er_no (er_yes (.d (dp_sm (dls_sm _ _) dy9)) (er_no er_nil)))))), ?_, fun a vs H10 na s10 ha rv => ?_⟩
          · rw [lcO_filter (p := fun _ => true) (h := fun d => .tuple (g.map PyData.str ++ [d])) (ds := outsU.map PyData.str) (x := .d (.tuple (outsU.map PyData.str))) rfl rfl (by decide) fun d hd => ?_]
            · rw [List.filter_eq_self.mpr fun _ _ => rfl]
            · refine ⟨_, rfl, rfl, ?_, cat_e (as := g.map .str) (bs := [d]) rfl rfl (by rw [List.length_map, List.length_singleton]; omega)⟩
              obtain ⟨z, _, rfl⟩ := List.mem_map.mp hd
              show noLs (g.map .str ++ [.str z]) = true
              rw [show g.map PyData.str ++ [.str z] = (g ++ [z]).map .str from by rw [List.map_append]; rfl]
              exact noLs_strs _
          · have aF : a ≠ F2 := fun z => by rw [z, hF9] at na; cases na
            have lvs : vs.length = 3 := rv.len
            have hF10 := s10 _ _ hF9
            refine ⟨F2, a, ys, vs, rfl, rfl, hF10, ha, by rw [sl]; omega, ys ++ vs, _, _, rfl, upd_same, ?_, ?_⟩
            · rw [dls_put (by simp)]
              exact s9.trans (dls_mono s10)
            · rw [dls_put (by simp), List.map_append]
              refine dpa_app (dpa_sm (dls_mono s10) dy) ?_
              have r1 := rws_map rv
              have e1 : ((outsU.map PyData.str).map fun d => PyData.tuple (g.map PyData.str ++ [d])) = (outsU.map fun z => g ++ [z]).map fillD := by
                rw [List.map_map, List.map_map]
                refine List.map_congr_left fun z _ => ?_
                show PyData.tuple (g.map PyData.str ++ [.str z]) = .tuple ((g ++ [z]).map .str)
                rw [List.map_append]
                rfl
              rw [e1] at r1
              refine dpa_le (le1 hF10) ?_ r1
              exact noLs_fills _
        · rintro σ H9 ⟨ys, b5, b6, rfl, hF9, s9, dy⟩
          rw [lxs, List.take_length] at dy
          refine ⟨_, rfl, F2, ys, _, _, _, _, rfl, sm_no s06 nF2, hF9, dH.trans (s9.trans (dls_sm _ _)), ?_⟩
          show DpAll K _ _ ((stepL e L).map fillD)
          unfold stepL
          rw [if_pos hu]
          exact dy
    · rintro σ H5 ⟨Fa, xs, b3, b4, b5, b6, rfl, nF, hF, s5, dv⟩
      have hlen := rl page.length
      have fl := prodL_fl page [[]] 0 (fun g hg => by rw [List.mem_singleton.mp hg]; rfl)
      rw [List.take_length] at hlen
      rw [lus, List.take_length] at dv
      have dv : DpAll K (dls [Fa] H5) xs ((prodL page).map fillD) := dv
      have lxs : xs.length = (prodL page).length := by rw [dpa_len dv, List.length_map]
      have hlen : (prodL page).length ≤ 27 := hlen
      refine ⟨_, rfl, Fa, rfl, ⟨xs, SqL.of hF⟩, fun D nD => lc_list (K := K) (a := Fa) (xs := xs)
        (fun k H' => ∃ us, H' D = some (.lst us) ∧ us.length ≤ k ∧ Sm H5 (dls [D] H') ∧ DpAll K (dls [D] H') us ((((prodL page).take k).filter fun f => (goB (hmOf gs) 0 (fun _ => "") f page).isSome).map fillD))
        ⟨[], upd_same, Nat.le_refl _, fun b o e => dls_at (upd_sm nD _ _ e) (by simp [ne_of_none e nD]), .nil⟩ (fun k H' _ ⟨_, _, _, s, _⟩ => SqL.of (dls_sm _ _ _ _ (s _ _ hF))) ?_ ?_⟩
      · rintro k x H6 hx ⟨us', hD, lu', s56, du'⟩
        have hk : k < xs.length := (List.getElem?_eq_some_iff.mp hx).1
        obtain ⟨g, hg⟩ : ∃ g, (prodL page)[k]? = some g := ⟨_, List.getElem?_eq_getElem (by omega)⟩
        obtain ⟨y', hy', dy0⟩ := dpa_at dv k (fillD g) (by rw [List.getElem?_map, hg]; rfl)
        obtain rfl := Option.some.inj (hy'.symm.trans hx)
        have lg : g.length = 0 + (page.filter untD).length := fl g (List.mem_of_getElem? hg)
        have s06 := s5.trans (s56.trans (dls_sm _ _))
        have dyD : Dp K (dls [D] H6) y' (fillD g) := dp_sm ((dls_sm _ _).trans s56) dy0
        rw [take1 hg, List.filter_append, List.map_append]
        refine ⟨rfl, ?_⟩
        refine ⟨_, rfl, _, rfl, _, rfl, hm, _, _, gs, page, g, rfl, s06 _ _ hh, G, dp_sm s06 dp0, dp_sm (dls_sm _ _) dyD, ok, ln, by omega, by omega, fun en H7 s7 => ?_, fun l us'' ds H7 es s7 nl hl du'' sl7 _ => ?_⟩
        · refine ⟨rfl, _, rfl, ite_no' rfl ⟨us', s7 _ _ hD, by omega, s56.trans (dls_mono s7), ?_⟩⟩
          rw [List.filter_cons_of_neg (by rw [en]; simp), List.filter_nil, List.map_nil, List.append_nil]
          exact dpa_sm (dls_mono s7) du'
        · refine ⟨rfl, _, rfl, ite_yes' rfl ⟨_, rfl, us', s7 _ _ hD, by rw [sl]; omega, us' ++ [y'], upd_same, by rw [List.length_append, List.length_singleton]; omega, ?_, ?_⟩⟩
          · rw [dls_put (by simp)]
            exact s56.trans (dls_mono s7)
          · rw [dls_put (by simp), List.filter_cons_of_pos (by rw [es]; rfl), List.filter_nil]
            exact dpa_app (dpa_sm (dls_mono s7) du') (.cons (dp_sm (dls_mono s7) dyD) .nil)
      · rintro H6 ⟨us', hD, lu', s56, du'⟩
        rw [lxs, List.take_length] at du'
        exact q D us' H6 (s5.trans (s56.trans (dls_sm _ _))) (sm_no s5 nD) hD du' (s5.trans s56)
end
end KW
namespace KW
open PySem PySem.Spec PyProof.Rows L2 KZ KS KP DC
/-! what is brought can be shown -/
theorem nameB_Z {z : Str} (h : nameB z = true) : zB z = true := by
  unfold nameB at h
  simp only [Bool.and_eq_true, decide_eq_true_eq] at h
  unfold zB
  rw [Bool.and_eq_true, decide_eq_true_eq]
  refine ⟨by omega, List.all_eq_true.mpr fun c hc => decide_eq_true ?_⟩
  have := of_decide_eq_true (List.all_eq_true.mp h.2 c hc)
  rw [small_list] at this
  obtain ⟨i, hi, rfl⟩ := List.mem_map.mp this
  have := List.mem_range.mp hi
  omega
theorem int_sh : ∀ n : Nat, n < 200 → shB (.int n) = true := by
  have : (List.range 200).all (fun n => shB (.int (n : Int))) = true := by decide +kernel
  exact fun n hn => List.all_eq_true.mp this n (List.mem_range.mpr hn)
structure ShD (d : PyData) : Prop where
  sh : shB d = true
  wt : wtS d ≤ 2000
  dp : d.depth ≤ 5
theorem lett_ok {hm : Str → Str} {n : Nat} {w : Str} {t : Th} {z el : Str} (hn : n < 200) (hw : zB w = true) (h1 : zB t.1 = true) (h2 : 1 ≤ t.2 ∧ t.2 ≤ 9) (h3 : zB (hm t.1) = true) (hz : z ∈ toldW) (he : zB el = true) : (∀ d ∈ lettE hm n w t z el, ShD d) ∧ (lettE hm n w t z el).length ≤ 3 := by
  obtain ⟨k, hk, k9⟩ : ∃ k : Nat, t.2 = (k : Int) ∧ k < 200 := ⟨t.2.toNat, by omega, by omega⟩
  have i1 := int_sh n hn
  have i2 := int_sh k k9
  have i0 := int_sh 0 (by decide)
  have mk : ∀ {l : PyData}, shB l = true → wtS l ≤ 1000 → l.depth ≤ 3 → ShD (.tuple [.int n, .str w, l]) := fun {l} a b c => ⟨by
      show (shB (.int n) && (zB w && (shB l && true))) = true
      rw [i1, hw, a]
      rfl, by simp only [wtS, wtSs]; omega, by simp only [PyData.depth, PyData.depthAll]; omega⟩
  have hT : shB (thD t) = true := by
    show (zB t.1 && (shB (.int t.2) && true)) = true
    rw [h1, hk, i2]
    rfl
  have hz' : zB z = true := by
    simp only [toldW, List.mem_cons, List.not_mem_nil, or_false] at hz
    rcases hz with rfl | rfl | rfl | rfl <;> decide +kernel
  unfold lettE
  refine ⟨fun d hd => ?_, ?_⟩
  · rcases List.mem_append.mp hd with hd | hd
    · split at hd
      · cases hd
      · rw [List.mem_singleton.mp hd]
        exact mk (by show (zB "close" && (zB el && true)) = true; rw [he]; decide +kernel) (by simp only [wtS, wtSs]; omega) (by simp only [PyData.depth, PyData.depthAll]; omega)
    · rcases List.mem_append.mp hd with hd | hd
      · split at hd
        · cases hd
        · rw [List.mem_singleton.mp hd]
          refine mk ?_ (by simp only [wtS, wtSs, thD]; omega) (by simp only [PyData.depth, PyData.depthAll, thD]; omega)
          show (zB (if z = "skip" then "fail" else "pass") && ((zB (hm t.1) && (shB (.int 0) && true)) && true)) = true
          rw [h3, show shB (.int 0) = true from i0]
          split <;> decide +kernel
      · split at hd
        · cases hd
        · rw [List.mem_singleton.mp hd]
          refine mk ?_ ?_ ?_
          · split
            · show (zB "cut" && (shB (.int n) && true)) = true
              rw [i1]
              decide +kernel
            · show (zB z && (shB (thD t) && true)) = true
              rw [hz', hT]
              rfl
          · split <;> simp only [wtS, wtSs, thD] <;> omega
          · split <;> simp only [PyData.depth, PyData.depthAll, thD] <;> omega
  · have a : (if el = "" ∨ el = hm t.1 then ([] : List PyData) else [.tuple [.int n, .str w, .tuple [.str "close", .str el]]]).length ≤ 1 := by split <;> simp
    have b : (if el = hm t.1 then ([] : List PyData) else [.tuple [.int n, .str w, .tuple [.str (if z = "skip" then "fail" else "pass"), thD (hm t.1, 0)]]]).length ≤ 1 := by split <;> simp
    have c : (if z = "skip" then ([] : List PyData) else [.tuple [.int n, .str w, if z = "cut" then .tuple [.str "cut", .int n] else .tuple [.str z, thD t]]]).length ≤ 1 := by split <;> simp
    rw [List.length_append, List.length_append]
    omega
theorem due_ok {gs : List Grp} (G : GoodGs gs) : ∀ (page : List Ev) (n : Nat) (o : Str → Str) (f : List Str) (ds : List PyData), (∀ e ∈ page, EvOk gs e) → (∀ z ∈ f, z ∈ outsU) → (∀ x, zB (o x) = true) → n + page.length ≤ 150 → goB (hmOf gs) n o f page = some ds → (∀ d ∈ ds, ShD d) ∧ ds.length ≤ 3 * page.length
  | [], n, o, f, ds, _, _, _, _, h => by
    cases h
    exact ⟨fun d hd => (by cases hd), Nat.zero_le _⟩
  | .fresh w :: p, n, o, f, ds, ok, hf, ho, ln, h => by
    have ih := due_ok G p (n + 1) (updF o w "") f ds (fun e he => ok e (List.mem_cons_of_mem _ he)) hf (fun x => by unfold updF; split; rfl; exact ho x) (by simp at ln; omega) h
    exact ⟨ih.1, by rw [List.length_cons]; omega⟩
  | .gap w :: p, n, o, f, ds, ok, hf, ho, ln, h => by
    obtain ⟨l', h1, rfl⟩ := Option.map_eq_some_iff.mp (show (goB (hmOf gs) (n + 1) (updF o w "") f p).map _ = some ds from h)
    have ih := due_ok G p (n + 1) (updF o w "") f l' (fun e he => ok e (List.mem_cons_of_mem _ he)) hf (fun x => by unfold updF; split; rfl; exact ho x) (by simp at ln; omega) h1
    have hw : zB w = true := nameB_Z (ok _ (List.mem_cons_self ..))
    have i1 := int_sh n (by simp at ln; omega)
    refine ⟨fun d hd => ?_, by rw [List.length_cons, List.length_cons]; omega⟩
    rcases List.mem_cons.mp hd with rfl | hd
    · refine ⟨?_, by simp only [wtS, wtSs]; omega, by simp only [PyData.depth, PyData.depthAll]; omega⟩
      show (shB (.int n) && (zB w && ((zB "gap" && (shB (.int n) && true)) && true))) = true
      rw [i1, hw]
      decide +kernel
    · exact ih.1 d hd
  | .clear :: p, n, o, f, ds, ok, hf, ho, ln, h => by
    have ih := due_ok G p (n + 1) o f ds (fun e he => ok e (List.mem_cons_of_mem _ he)) hf ho (by simp at ln; omega) h
    exact ⟨ih.1, by rw [List.length_cons]; omega⟩
  | .run w t out :: p, n, o, f, ds, ok, hf, ho, ln, h => by
    obtain ⟨hw, ⟨⟨g, hg, hc⟩, t1, t9⟩, hout⟩ := ok _ (List.mem_cons_self ..)
    have hm := hm_of G hg hc
    have nmg := (good_nm G).1 g hg
    have nmc := (good_nm G).2 g hg t.1 hc
    have h3 : zB (hmOf gs t.1) = true := by rw [hm]; exact nm_Z nmg
    obtain ⟨z, f', hz, hf', e⟩ : ∃ (z : Str) (f' : List Str), z ∈ toldW ∧ (∀ z ∈ f', z ∈ outsU) ∧ goB (hmOf gs) n o f (.run w t out :: p) = if z = "skip" ∧ o w = hmOf gs t.1 then none else (goB (hmOf gs) (n + 1) (updF o w (if z = "skip" then "" else hmOf gs t.1)) f' p).map fun l => lettE (hmOf gs) n w t z (o w) ++ l := by
      cases out with
      | some z => exact ⟨z, f, of_decide_eq_true hout, hf, rfl⟩
      | none =>
        cases f with
        | nil => cases h
        | cons z f =>
          refine ⟨z, f, ?_, fun y hy => hf y (List.mem_cons_of_mem _ hy), rfl⟩
          have := hf z (List.mem_cons_self ..)
          simp only [outsU, List.mem_cons, List.not_mem_nil, or_false] at this
          rcases this with rfl | rfl | rfl <;> decide
    rw [e] at h
    by_cases hs : z = "skip" ∧ o w = hmOf gs t.1
    · rw [if_pos hs] at h
      cases h
    · rw [if_neg hs] at h
      obtain ⟨l', h1, rfl⟩ := Option.map_eq_some_iff.mp h
      have ih := due_ok G p (n + 1) _ f' l' (fun e he => ok e (List.mem_cons_of_mem _ he)) hf' (fun x => by
        unfold updF
        split
        · split
          · rfl
          · exact h3
        · exact ho x) (by simp at ln; omega) h1
      have lt := lett_ok (hm := hmOf gs) (n := n) (by simp at ln; omega) (nameB_Z hw) (nm_Z nmc) ⟨t1, t9⟩ h3 hz (ho w)
      refine ⟨fun d hd => (List.mem_append.mp hd).elim (lt.1 d) (ih.1 d), ?_⟩
      rw [List.length_append, List.length_cons]
      have := lt.2
      have := ih.2
      omega
theorem due_shw {ds : List PyData} (h : ∀ d ∈ ds, ShD d) (l : ds.length ≤ 300) : shB (.tuple ds) = true ∧ wtS (.tuple ds) ≤ 1000000 ∧ (PyData.tuple ds).depth ≤ 20 := by
  have h3 : shBs ds = true := by
    have := fun d hd => (h d hd).sh
    clear h l
    induction ds with
    | nil => rfl
    | cons d ds ih => show (shB d && shBs ds) = true; rw [this d (List.mem_cons_self ..), ih fun x hx => this x (List.mem_cons_of_mem _ hx)]; rfl
  have h4 : wtSs ds ≤ 2002 * ds.length := by
    have := fun d hd => (h d hd).wt
    clear h l h3
    induction ds with
    | nil => exact Nat.le_refl _
    | cons d ds ih =>
      have a := this d (List.mem_cons_self ..)
      have b := ih fun x hx => this x (List.mem_cons_of_mem _ hx)
      simp only [wtSs, List.length_cons]
      omega
  have h5 : PyData.depthAll ds ≤ 5 := depthAll_m fun d hd => (h d hd).dp
  refine ⟨h3, ?_, ?_⟩
  · simp only [wtS]
    omega
  · simp only [PyData.depth]
    omega
end KW
namespace KW
open PySem PySem.Spec PyProof.Rows L2 KZ KS KP DC LamX KH
theorem noL_strs (zs : List Str) : noL (.tuple (zs.map .str)) = true := noLs_strs zs
theorem prodL_out : ∀ (page : List Ev) (L : List (List Str)), (∀ g ∈ L, ∀ z ∈ g, z ∈ outsU) → ∀ f ∈ page.foldl (fun L e => stepL e L) L, ∀ z ∈ f, z ∈ outsU
  | [], L, h, f, hf => h f hf
  | e :: p, L, h, f, hf => by
    rw [List.foldl_cons] at hf
    refine prodL_out p (stepL e L) (fun g hg z hz => ?_) f hf
    unfold stepL at hg
    by_cases he : untD e = true
    · rw [if_pos he] at hg
      obtain ⟨g0, h0, hg⟩ := List.mem_flatMap.mp hg
      obtain ⟨y, hy, rfl⟩ := List.mem_map.mp hg
      rcases List.mem_append.mp hz with hz | hz
      · exact h g0 h0 z hz
      · rw [List.mem_singleton.mp hz]
        exact hy
    · rw [if_neg he] at hg
      exact h g hg z hz
structure FsOk (fs : List (List Str)) : Prop where
  few : fs.length ≤ 27
  len : ∀ f ∈ fs, f.length ≤ 3
  out : ∀ f ∈ fs, ∀ z ∈ f, z ∈ outsU
theorem fillsL_ok {hm : Str → Str} {page : List Ev} (h : (page.filter untD).length ≤ 3) : FsOk (fillsL hm page) where
  few := by
    refine Nat.le_trans (List.length_filter_le ..) ?_
    unfold prodL
    rw [prodL_len, List.length_singleton, Nat.one_mul]
    exact Nat.le_trans (Nat.pow_le_pow_right (by decide) h) (by decide)
  len := fun f hf => by
    rw [prodL_fl page [[]] 0 (fun g hg => by rw [List.mem_singleton.mp hg]; rfl) f (List.mem_filter.mp hf).1]
    omega
  out := fun f hf => prodL_out page [[]] (fun g hg z hz => by rw [List.mem_singleton.mp hg] at hz; cases hz) f (List.mem_filter.mp hf).1
theorem wts_strs : ∀ zs : List Str, wtSs (zs.map .str) = 204 * zs.length
  | [] => rfl
  | z :: zs => by
    simp only [List.map_cons, wtSs, wtS, wts_strs zs, List.length_cons]
    omega
theorem sh_strs : ∀ zs : List Str, (∀ z ∈ zs, z ∈ outsU) → shBs (zs.map .str) = true
  | [], _ => rfl
  | z :: zs, h => by
    show (zB z && shBs (zs.map .str)) = true
    rw [sh_strs zs fun y hy => h y (List.mem_cons_of_mem _ hy), Bool.and_true]
    have := h z (List.mem_cons_self ..)
    simp only [outsU, List.mem_cons, List.not_mem_nil, or_false] at this
    rcases this with rfl | rfl | rfl <;> decide
theorem room_of {gs : List Grp} {zs : List Str} {ts : List Th} {page : List Ev} (h : PgOk gs zs ts page) (l : page.length ≤ 30) (hz : zs.length ≤ 3) (ht : ts.length ≤ 5) (hu : (page.filter untD).length ≤ 3) : roomB page = true := by
  have h1 : (dd (page.filterMap wkOf)).length ≤ 3 := Nat.le_trans (dd_le fun z hz => by
    obtain ⟨e, he, e2⟩ := List.mem_filterMap.mp hz
    exact h.wk e he z e2) hz
  have h2 : (dd (page.filterMap itOf)).length ≤ 5 := Nat.le_trans (dd_le fun z hz => by
    obtain ⟨e, he, e2⟩ := List.mem_filterMap.mp hz
    exact h.it e he z e2) ht
  unfold roomB
  simp only [Bool.and_eq_true, decide_eq_true_eq]
  exact ⟨l, h1, h2, hu⟩
theorem log_of {gs : List Grp} {zs : List Str} {ts : List Th} {page : List Ev} (h : PgOk gs zs ts page) (l : page.length ≤ 30) (hz : zs.length ≤ 3) (ht : ts.length ≤ 5) (hu : (page.filter untD).length ≤ 3) : logB gs page = !(fillsL (hmOf gs) page).isEmpty := by
  unfold logB
  rw [room_of h l hz ht hu, Bool.true_and, fills_are]
  rfl
theorem noLs_gD : ∀ gs : List Grp, noLs (gs.map gD) = true
  | [] => rfl
  | g :: gs => by
    show (noL (gD g) && noLs (gs.map gD)) = true
    rw [noLs_gD gs]
    show ((true && (noL (.tuple (g.2.map .str)) && true)) && true) = true
    rw [noL_strs]
    rfl
theorem noLs_app : ∀ as bs : List PyData, noLs (as ++ bs) = (noLs as && noLs bs)
  | [], bs => rfl
  | a :: as, bs => by
    show (noL a && noLs (as ++ bs)) = (noL a && noLs as && noLs bs)
    rw [noLs_app as bs, Bool.and_assoc]
theorem noLs_homes : ∀ gs : List Grp, noLs ((homesN gs).map (·.2)) = true
  | [] => rfl
  | g :: gs => by
    have ih := noLs_homes gs
    unfold homesN at ih ⊢
    rw [List.flatMap_cons, List.map_append, noLs_app, ih, Bool.and_true, List.map_map]
    induction g.2 with
    | nil => rfl
    | cons c cs ih2 => exact ih2
theorem shop_nj {P : Program} {w : World} {K : PySem.W.Frag} {H : Hp} {J : Addr} {c : Nat} (j : Jar J H c) {CS : Addr} {gs : List Grp} {v : V} (h : RW P w K H v (.ob CS (shopI gs))) : RW P w K (dls [J] H) v (.ob CS (shopI gs)) := by
  cases h with
  | @ob a _ dx fs _ h t =>
    refine .ob (jar_not j h fun xs z => by cases z) ?_
    unfold shopI shopF at t ⊢
    cases t with
    | cons a1 t =>
      cases t with
      | cons a2 t =>
        cases t with
        | cons a3 t =>
          cases t
          exact .cons (rw_d_nj j (noLs_gD gs) a1) (.cons (rw_dk_nj j (noLs_homes gs) a2) (.cons (rw_d_nj j (noL_strs _) a3) .nil))
end KW
namespace KZ
open PySem PySem.Spec PyProof.Rows L2 LamX NdefX
abbrev iJar : Nat := 47
/-! ## the jar of a cell, the law -/
theorem op_powB {X : Cx} : OpR X (binaryOp .Pow) (rI (fun i j => i = 10 ^ (60 : Int).toNat ∧ j = 5) fun i j => .int (i ^ j.toNat)) := opI fun i j t u s Q E hc q => by
  obtain ⟨rfl, rfl⟩ := hc
  exact PySem.AutoIntOps.pow_4 (by decide) (by decide) (by decide +kernel) (by decide +kernel) (by decide +kernel) q
def spJar (K : PySem.W.Frag) : Sp := fun vs H Q _ => ∃ (a : Addr) (ns : List Int) (k : Nat), vs = [.ref a, .int (k : Int)] ∧ SqL K H a (ns.map V.int) ∧ ns.length ≤ 63 ∧ k ≤ 100 ∧ ∀ (J : Addr) (H' : Hp), H J = none → Sm H H' → Jar J H' 0 → Q (.ref J) H'
theorem scJar : FnScope ["_law_script", "_law_k", "_law_cell", "_law_mine"] ["_law_script", "_law_k"] (defScope (topAt iJar)) := ⟨rfl, rfl, rfl, by decide +kernel, rfl, by decide +kernel, by decide +kernel⟩
theorem mine_lt {a : Int} (b : Int) (hb : b = 0 ∨ b = 1) (h : 0 ≤ a) : 0 ≤ a % (10 ^ (60 : Int).toNat) ^ (5 : Int).toNat * b ∧ a % (10 ^ (60 : Int).toNat) ^ (5 : Int).toNat * b < 2 ^ 1000 := by
  have p0 : (0 : Int) < (10 ^ (60 : Int).toNat) ^ (5 : Int).toNat := by decide +kernel
  have p1 : ((10 : Int) ^ (60 : Int).toNat) ^ (5 : Int).toNat < 2 ^ 1000 := by decide +kernel
  have q0 := Int.emod_nonneg a (show ((10 : Int) ^ (60 : Int).toNat) ^ (5 : Int).toNat ≠ 0 by omega)
  have q1 := Int.emod_lt_of_pos a p0
  rcases hb with h | h <;> subst h
  · rw [Int.mul_zero]
    exact ⟨by decide, by decide +kernel⟩
  · rw [Int.mul_one]
    exact ⟨q0, by omega⟩
section
variable {P : Program} {w : World} {K : PySem.W.Frag} {mg : Str → Option Value} {base : Heap}
theorem ok_jar {f : Addr} {fd : FuncData} (F : Fd K iJar "_law_jar" f fd) (gl : mg "len" = none) (gi : mg "int" = none) (ga : mg "abs" = none) : FnOk P w K mg base CX0 1 f fd ["_law_script", "_law_k"] (spJar K) := by
  refine F.ok scJar (fun vs H Q E h => ?_) (fun cdv A outer s H vs Q E hr h => ?_)
  · obtain ⟨a, ns, k, rfl, _⟩ := h
    rfl
  · obtain ⟨a, ns, k, rfl, hS, hl, hk, q⟩ := h
    refine ⟨_, pss_cons (ps_set (i := 2) scJar.nd rfl (Or.inl rfl) (pe_ifExp (pt_cmpR op_lt (pv 1) (pe_callB call_len_seq (by rfl) gl PySem.boot_len (pa_cons (pv 0) pa_nil)) (nomark _)) (pe_ix ix_list (pv 0) (pv 1) (fun _ _ => rfl)) (pe_op op_add (pe_op op_mul pe_int (pv 1)) pe_int)))
      (pss_cons (ps_set (i := 3) scJar.nd rfl (Or.inl rfl) (pe_op op_mul (pe_op op_mod (pe_callTy call_int1 (by rfl) gi (by decide +kernel) (pa_cons (pe_callB call_abs (by rfl) ga PyProof.Rows.boot_abs (pa_cons (pv 2) pa_nil)) pa_nil)) (pe_op op_powB (pe_op op_pow pe_int pe_int) pe_int))
          (pe_callTy call_int1 (by rfl) gi (by decide +kernel) (pa_cons (pe_cmpR op_ge (pe_callB call_abs (by rfl) ga PyProof.Rows.boot_abs (pa_cons (pv 2) pa_nil)) (pe_op op_pow pe_int pe_int) (nomark _)) pa_nil))))
      (pss_one (ps_ret (pe_lst (pa_cons (pv 3) (pa_cons (pe_op op_mod (pe_callTy call_int1 (by rfl) gi (by decide +kernel) (pa_cons (pe_op op_add (pe_op op_add (pe_op op_mul (pe_op op_mod (pe_callTy call_int1 (by rfl) gi (by decide +kernel) (pa_cons (pv 2) pa_nil)) pe_int) pe_int) (pe_op op_mul (pe_op op_mul pe_int (pv 1)) (pv 1))) pe_int) pa_nil)) pe_int) (pa_cons pe_int pa_nil))))))), ?_⟩
    -- whatever the cell is
    have c60 : CPow 10 60 := ⟨by decide, by decide, by decide⟩
    have c18 : CPow 10 18 := ⟨by decide, by decide, by decide⟩
    have pp : (0 : Int) < (10 ^ (60 : Int).toNat) ^ (5 : Int).toNat := by decide +kernel
    have m1 : (0 : Int) < 2305843009213693951 := by decide
    have m2 : (0 : Int) < 2305843009213693921 := by decide
    have cm : ∀ x : Int, CMul x 70901 := fun x => .inr ⟨by decide, by decide⟩
    have c8 : CMul 8543 (k : Int) := .inl ⟨by decide, by decide⟩
    have c9 : CMul (8543 * (k : Int)) (k : Int) := .inr ⟨by omega, by omega⟩
    have cb : ∀ (x : Int) (b : Bool), CMul x (if b = true then 1 else 0) := fun x b => by cases b <;> exact .inr ⟨by decide, by decide⟩
    have b01 : ∀ b : Bool, (if b = true then (1 : Int) else 0) = 0 ∨ (if b = true then (1 : Int) else 0) = 1 := fun b => by cases b <;> simp
    have ab : ∀ z : Int, 0 ≤ if z < 0 then -z else z := fun z => by split <;> omega
    refine ⟨_, rfl, _, rfl, a, _, rfl, .inl hS, _, _, rfl, rfl, _, rfl, ?_⟩
    have fin : ∀ (J : Addr) (H' : Hp) (x y : Int), H J = none → 0 ≤ x ∧ x < 2 ^ 1000 → H' = upd H J (.lst [.int x, .int (y % 2305843009213693921), .int 0]) → Q (.ref J) H' := fun J H' x y nJ hx e => by
      subst e
      have y0 := Int.emod_nonneg y (show (2305843009213693921 : Int) ≠ 0 by decide)
      have y1 := Int.emod_lt_of_pos y m2
      have e61 : (2 : Int) ^ 61 = 2305843009213693952 := by decide
      exact q J _ nJ (Sm.new (H := H) (H' := H) (fun b o e => e) nJ) ⟨x, _, 0, upd_same, hx.1, hx.2, y0, by omega, Int.le_refl 0, Int.le_refl 0⟩
    refine ite2 (fun h => ?_) (fun h => ?_)
    · have hlt : (k : Int) < ((ns.map V.int).length : Int) := of_decide_eq_true h
      have hk2 : k < ns.length := by rw [List.length_map] at hlt; omega
      have hz : (ns.map V.int)[k]? = some (.int ns[k]) := by simp [hk2]
      refine ⟨_, rfl, _, rfl, a, _, _, _, rfl, rfl, hS, atI_nat hz, ?_⟩
      generalize ns[k] = z
      refine ⟨_, rfl, z, rfl, .inl ⟨_, rfl, 10, 60, rfl, rfl, c60, _, _, rfl, rfl, ⟨rfl, rfl⟩, _, _, rfl, rfl, pp, _, rfl, z, rfl, 10, 18, rfl, rfl, c18, _, _, rfl, rfl, .inr ⟨_, rfl, _, _, rfl, rfl, cb _ _, ?_⟩⟩⟩
      exact ⟨_, rfl, _, rfl, .inl ⟨_, rfl, _, _, rfl, rfl, m1, _, _, rfl, rfl, cm _, _, rfl, _, _, rfl, rfl, c8, _, rfl, _, _, rfl, rfl, c9, _, _, rfl, rfl, _, _, rfl, rfl, .inl ⟨_, rfl, _, _, rfl, rfl, m2, (by show (3 : Nat) ≤ sizeLine; decide), fun J nJ => fin J _ _ _ nJ (mine_lt _ (b01 _) (ab z)) rfl⟩⟩⟩
    · refine ⟨_, rfl, _, _, rfl, rfl, .inl ⟨by decide, by decide⟩, _, _, rfl, rfl, ?_⟩
      generalize hz : (31 : Int) * (k : Int) + 17 = z
      refine ⟨_, rfl, z, hz ▸ rfl, .inl ⟨_, rfl, 10, 60, rfl, rfl, c60, _, _, rfl, rfl, ⟨rfl, rfl⟩, _, _, rfl, rfl, pp, _, rfl, z, hz ▸ rfl, 10, 18, rfl, rfl, c18, _, _, rfl, rfl, .inr ⟨_, rfl, _, _, rfl, rfl, cb _ _, ?_⟩⟩⟩
      exact ⟨_, rfl, _, rfl, .inl ⟨_, rfl, _, _, rfl, rfl, m1, _, _, rfl, rfl, cm _, _, rfl, _, _, rfl, rfl, c8, _, rfl, _, _, rfl, rfl, c9, _, _, rfl, rfl, _, _, rfl, rfl, .inl ⟨_, rfl, _, _, rfl, rfl, m2, (by show (3 : Nat) ≤ sizeLine; decide), fun J nJ => fin J _ _ _ nJ (mine_lt _ (b01 _) (ab z)) rfl⟩⟩⟩
end
end KZ
namespace KW
open PySem PySem.Spec PyProof.Rows L2 KZ KS KP DC LamX KH
/-! the law's _law_is_refused -/
abbrev iRefd : Nat := 58
abbrev NRj : List Str := ["_law_place", "_law_page", "_law_value", "_law_caught", "error"]
theorem scRefd : FnScope NRj ["_law_place", "_law_page", "_law_value"] (defScope (topAt iRefd)) := ⟨rfl, rfl, rfl, by decide +kernel, rfl, by decide +kernel, by decide +kernel⟩
structure RefJ (P : Program) (w : World) (K : PySem.W.Frag) (mg : Str → Option Value) (base : Heap) (CE BF : Addr) : Prop where
  s : mg "SpoilError" = some (.ref CE)
  er : Er P w K mg base "BadFilling" "value" BF
  ex : PySem.W.exmOne K (.ref BF) (.ref CE) = some true
  ki : PySem.W.kitOne K (.ref BF) (.ref BF) = some true
  kv : PySem.W.kitOne K (.ref BF) (.type "ValueError") = some true
  gI : mg "isinstance" = none
  gV : mg "ValueError" = none
  gr : mg "repr" = none
def tbJ (P : Program) (w : World) (K : PySem.W.Frag) (CS BF : Addr) : WX → TS := fun W => tDrop (tCallS (spLtX P w K CS BF) (fun σ cls d H => W cls d σ H) (tCons (tVar 0) (tCons (tVar 1) (tCons (tVar 2) tNil))))
def spRefd (P : Program) (w : World) (K : PySem.W.Frag) (CS : Addr) : Sp := fun vs H Q _ => ∃ (v0 v1 v2 : V) (gs : List Grp) (page : List Ev) (x : Wv) (dx : PyData), vs = [v0, v1, v2] ∧ ShEv P w K CS H v0 v1 gs page ∧ logB gs page = true ∧ NoFill K H v2 (fillsP (hmOf gs) page) ∧
  RW P w K H v2 x ∧ reprOf x = some dx ∧ shB dx = true ∧ wtS dx ≤ 1000000 ∧ dx.depth ≤ 20 ∧ ∀ H', Sm H H' → Q (.bl true) H'
section
variable {P : Program} {w : World} {K : PySem.W.Frag} {mg : Str → Option Value} {base : Heap} {CS : Addr}
theorem ok_refd {CE BF : Addr} {f fL : Addr} {fd fdL : FuncData} (F : Fd K iRefd "_law_is_refused" f fd) (T : RefJ P w K mg base CE BF) (sy : SysD K)
    (GL : FnOk P w K mg base (L2.CX P w) 7 fL fdL ["shop", "log", "filling"] (spLtX P w K CS BF)) (bL : Binds K fdL ["shop", "log", "filling"] []) (kL : PySem.W.keepIn K (.ref fL) = true) (gL : mg "letters" = some (.ref fL)) :
    FnG P w K mg base 8 f fd ["_law_place", "_law_page", "_law_value"] (spRefd P w K CS) := by
  refine fnG_of F scRefd (fun vs H Q E h => ?_) (fun cdv A outer s H vs Q E hg hr h => ?_)
  · obtain ⟨v0, v1, v2, gs, page, x, dx, rfl, _⟩ := h
    rfl
  · obtain ⟨v0, v1, v2, gs, page, x, dx, rfl, S, hL, no, rx, ex, sh, wt, dp, q⟩ := h
    have hgA := deeper_guards (env := envOfC "_law_is_refused" (defScope (topAt iRefd)) s.heap.objs.size f cdv) hg
    have hu30 : (A.deeper (envOfC "_law_is_refused" (defScope (topAt iRefd)) s.heap.objs.size f cdv)).units + 30 < cLine := by have := hr.un; omega
    refine ⟨_, PSs.nox (pss_cons (ps_set (i := 3) scRefd.nd rfl (Or.inl rfl) pe_non)
      (pss_cons (ps_try_held (X := (cxOf CX0 P w K mg base NRj "_law_is_refused" (defScope (topAt iRefd)) f cdv A outer s H E).nox) (c := .ref CE) (i := 4)
        (tb := tbJ P w K CS BF)
        rfl rfl scRefd.nd rfl rfl ⟨rfl, by decide, .inl T.s⟩ takes0 (fun W pn xe tk _ => ?body)
        (fun ae oe cls d pn hz hf => pss_one (ps_set (i := 3) scRefd.nd rfl (Or.inl rfl) (pv 4))))
      (pss_one (ps_ret (pe_and (pe_callB call_isH (by rfl) T.gI PyProof.Rows.boot_isinstance (pa_cons (pv 3) (pa_cons (pe_glob (v := .ref BF) rfl T.er.gC rfl) pa_nil)))
        (pe_and (pe_callB call_isH (by rfl) T.gI PyProof.Rows.boot_isinstance (pa_cons (pv 3) (pa_cons (pe_bltn (v := .ty "ValueError") rfl T.gV (by decide +kernel) rfl) pa_nil)))
        (pe_one (pe_cmpR op_eq (pe_callB (show CallR _ (.builtin "repr") (rRepQ P w K) from call_repQ (by exact hgA) (by exact hu30) sy) (by rfl) T.gr PyProof.Rows.boot_repr (pa_cons (pe_hf (pv 3)) pa_nil))
          (pe_callB (show CallR _ (.builtin "repr") (rRepQ P w K) from call_repQ (by exact hgA) (by exact hu30) sy) (by rfl) T.gr PyProof.Rows.boot_repr (pa_cons (pv 2) pa_nil)) (nomark _))))))))), ?_⟩
    case body => exact pss_one (ps_expr (pe_callS GL hr (by rfl) gL kL bL (passAt tk) (pa_cons (pv 0) (pa_cons (pv 1) (pa_cons (pv 2) pa_nil)))))
    refine ⟨_, rfl, _, rfl, _, rfl, .inr ⟨v0, v1, v2, gs, page, rfl, S, hL, no, fun dd H1 s1 e1 => ?_⟩⟩
    refine ⟨true, T.ex, fun _ ae na hl => ?_, fun z => nomatch z⟩
    refine ⟨.ref ae, rfl, fun _ => ?_⟩
    have na' : upd H1 ae (exh ae (.ref BF) (some dd)) ae = some (exh ae (.ref BF) (some dd)) := upd_same
    have nd : upd H1 ae (exh ae (.ref BF) (some dd)) dd = some (.xd [("value", v2)]) := by rw [upd_ne (ne_of_none e1 na)]; exact e1
    have sm0 : Sm H (upd H1 ae (exh ae (.ref BF) (some dd))) := s1.trans (upd_sm na)
    show (fun H2 : Hp => _) (upd H1 ae (exh ae (.ref BF) (some dd)))
    generalize upd H1 ae (exh ae (.ref BF) (some dd)) = H2 at na' nd sm0 ⊢
    have rx2 := rw_sm sm0 rx
    refine ⟨.ref ae, rfl, ?_⟩
    dsimp only [tCons, tNil, tC, tCB]
    refine ⟨ae, BF, dd, "BadFilling", "value", _, .ref BF, .ref BF, true, rfl, T.er, na', nd, fun u r => r, T.ki, ?_⟩
    refine ⟨true, rfl, ?_⟩
    show (if true = true then _ else _)
    rw [if_pos rfl]
    refine ⟨.ref ae, rfl, ?_⟩
    dsimp only [tCons, tNil, tC, tCB]
    refine ⟨ae, BF, dd, "BadFilling", "value", _, .ty "ValueError", .type "ValueError", true, rfl, T.er, na', nd, fun u r => r, T.kv, ?_⟩
    refine ⟨true, rfl, ?_⟩
    show (if true = true then _ else _)
    rw [if_pos rfl]
    refine ⟨.ref ae, rfl, ae, BF, dd, "BadFilling", _, v2, rfl, T.er, na', nd, rfl, ?_⟩
    refine ⟨v2, dx, rfl, .inl ⟨x, rx2, ex⟩, sh, wt, dp, ?_⟩
    refine ⟨_, rfl, v2, dx, rfl, .inl ⟨x, rx2, ex⟩, sh, wt, dp, rfl, ?_⟩
    rw [decide_eq_true rfl]
    exact q H2 sm0
end
end KW
namespace KW
open PySem PySem.Spec PyProof.Rows L2 KZ KS KP DC
/-! the law's _law_odd -/
def dnF : EF := fun _ => some (.dk [])
theorem we_dnewK {X : Cx} {pos : Pos} : WE X (.Dict [] [] pos) dnF := PE.wk pe_dnewK fun σ H Q ⟨ε, r, E, e, q⟩ => by
  cases e
  exact fun p np => q _ _ (upd_sm np) (.dk upd_same .nil)
def listT : List Wv → Option Wv
  | [.d (.tuple ds)] => some (.d (.list ds))
  | _ => none
def rListOfW (K : PySem.W.Frag) : List V → Hp → VK → Prop := fun xs H Q => ∃ p ys, xs = [V.ref p] ∧ (SqL K H p ys ∨ SqT K H p ys) ∧ ∀ l : Addr, H l = none → Q (V.ref l) (upd H l (.lst ys))
theorem m_listT {X : Cx} : MeetsA X (rListOfW X.K) listT := by
  intro H vs ws c Q r e q
  unfold listT at e
  split at e
  · obtain ⟨v, rfl, r1⟩ := rws1 r
    cases e
    cases rw_d r1 with
    | tup h t => exact ⟨_, _, rfl, .inr h, fun l hl => q _ _ (upd_sm hl) (.d (.lst (SqL.of upd_same) (dpa_sm (upd_sm hl) t)))⟩
  · cases e
theorem rws_at {P : Program} {w : World} {K : PySem.W.Frag} {H : Hp} : ∀ {vs : List V} {ws : List Wv} {i : Nat} {v : V}, RWs P w K H vs ws → vs[i]? = some v → ∃ x, ws[i]? = some x ∧ RW P w K H v x
  | _, _, 0, v, .cons r _, h => ⟨_, rfl, by cases h; exact r⟩
  | _, _, i + 1, v, .cons _ t, h => rws_at (i := i) t (by simpa using h)
  | _, _, i, v, .nil, h => by simp at h
theorem rws_len {P : Program} {w : World} {K : PySem.W.Frag} {H : Hp} : ∀ {vs : List V} {ws : List Wv}, RWs P w K H vs ws → vs.length = ws.length
  | _, _, .nil => rfl
  | _, _, .cons _ t => congrArg (· + 1) (rws_len t)
structure GoodD (d : PyData) : Prop where
  al : alL noJ d = true
  pl : d.plain = true
  sh : shB d = true
  wt : wtS d ≤ 20000
  dp : d.depth ≤ 9
def OdW (x : Wv) : Prop := (∃ d, x = .d d ∧ GoodD d) ∨ x = .dk []
def OdV (K : PySem.W.Frag) (J : Addr) (H : Hp) (v : V) : Prop := (∃ d, Dp K (dls [J] H) v d ∧ GoodD d) ∨ ∃ a, v = .ref a ∧ H a = some (.dK [])
theorem odv_of {P : Program} {w : World} {K : PySem.W.Frag} {J : Addr} {H : Hp} {c : Nat} (j : Jar J H c) {v : V} {x : Wv} (h : RW P w K H v x) (o : OdW x) : OdV K J H v := by
  rcases o with ⟨d, rfl, g⟩ | rfl
  · exact .inl ⟨d, dp_leL (sep_jar (K := K) j).1 (sep_jar j).2 g.al (rw_d h), g⟩
  · cases h with
    | dk h p =>
      cases p
      exact .inr ⟨_, rfl, h⟩
theorem OdV.kp {K : PySem.W.Frag} {J : Addr} {H H' : Hp} {c : Nat} (j : Jar J H c) (k : Kp J H H') {v : V} : OdV K J H v → OdV K J H' v
  | .inl ⟨d, h, g⟩ => .inl ⟨d, dp_sm (dls_kp k (by simp)) h, g⟩
  | .inr ⟨a, e, h⟩ => .inr ⟨a, e, k _ _ h fun z => by
      obtain ⟨m, s, q, e2, _⟩ := j
      rw [z, e2] at h
      cases h⟩
theorem OdV.sm {K : PySem.W.Frag} {J : Addr} {H H' : Hp} (s : Sm H H') {v : V} : OdV K J H v → OdV K J H' v
  | .inl ⟨d, h, g⟩ => .inl ⟨d, dp_sm (dls_mono s) h, g⟩
  | .inr ⟨a, e, h⟩ => .inr ⟨a, e, s _ _ h⟩
/-- rows of small values -/
structure Row (ds : List PyData) (n : Nat) : Prop where
  m : ∀ d ∈ ds, GoodD d ∧ wtS d ≤ 1000 ∧ d.depth ≤ 2
  l : ds.length ≤ n
  n10 : n ≤ 10
  j : noJ ds = true
theorem Row.good {ds : List PyData} {n : Nat} (R : Row ds n) : GoodD (.tuple ds) ∧ GoodD (.list ds) := by
  have h1 : alLs noJ ds = true := alLs_mem fun d hd => (R.m d hd).1.al
  have h2 : PyData.plainAll ds = true := by
    have := fun d hd => (R.m d hd).1.pl
    clear R h1
    induction ds with
    | nil => simp [PyData.plainAll]
    | cons d ds ih => simp [PyData.plainAll, this d (List.mem_cons_self ..), ih fun x hx => this x (List.mem_cons_of_mem _ hx)]
  have h3 : shBs ds = true := by
    have := fun d hd => (R.m d hd).1.sh
    clear R h1 h2
    induction ds with
    | nil => rfl
    | cons d ds ih => show (shB d && shBs ds) = true; rw [this d (List.mem_cons_self ..), ih fun x hx => this x (List.mem_cons_of_mem _ hx)]; rfl
  have h4 : wtSs ds ≤ 1010 * ds.length := by
    have := fun d hd => (R.m d hd).2.1
    clear R h1 h2 h3
    induction ds with
    | nil => exact Nat.le_refl _
    | cons d ds ih =>
      have a := this d (List.mem_cons_self ..)
      have b := ih fun x hx => this x (List.mem_cons_of_mem _ hx)
      simp only [wtSs, List.length_cons]
      omega
  have h5 : PyData.depthAll ds ≤ 2 := depthAll_m fun d hd => (R.m d hd).2.2
  have hl := R.l
  have hn := R.n10
  refine ⟨⟨h1, by simp [PyData.plain, h2], h3, ?_, ?_⟩, ⟨?_, by simp [PyData.plain, h2], h3, ?_, ?_⟩⟩
  · simp only [wtS]
    omega
  · simp only [PyData.depth]
    omega
  · show (noJ ds && alLs noJ ds) = true
    rw [R.j, h1]
    rfl
  · simp only [wtS]
    omega
  · simp only [PyData.depth]
    omega
theorem good_out {z : Str} (h : z ∈ outsU) : GoodD (.str z) ∧ wtS (.str z) ≤ 1000 ∧ (PyData.str z).depth ≤ 2 := by
  simp only [outsU, List.mem_cons, List.not_mem_nil, or_false] at h
  rcases h with rfl | rfl | rfl <;> exact ⟨⟨rfl, rfl, by decide, by decide, by decide⟩, by decide, by decide⟩
theorem row_strs {ds : List PyData} {n : Nat} (h : ∀ d ∈ ds, ∃ z ∈ outsU, d = .str z) (l : ds.length ≤ n) (n10 : n ≤ 10) : Row ds n := by
  refine ⟨fun d hd => ?_, l, n10, ?_⟩
  · obtain ⟨z, hz, rfl⟩ := h d hd
    exact good_out hz
  · cases ds with
    | nil => rfl
    | cons d ds =>
      obtain ⟨z, hz, rfl⟩ := h d (List.mem_cons_self ..)
      rfl
theorem fill_mem {f : List Str} (h : ∀ z ∈ f, z ∈ outsU) : ∀ d ∈ f.map PyData.str, ∃ z ∈ outsU, d = .str z := fun d hd => by
  obtain ⟨z, hz, rfl⟩ := List.mem_map.mp hd
  exact ⟨z, h z hz, rfl⟩
theorem row_fill {f : List Str} (h : ∀ z ∈ f, z ∈ outsU) (l : f.length ≤ 3) : Row (f.map .str) 3 := row_strs (fill_mem h) (by rw [List.length_map]; exact l) (by decide)
theorem row_one' {f : List Str} (h : ∀ z ∈ f, z ∈ outsU) (l : f.length ≤ 3) : Row [fillD f] 1 := by
  refine ⟨fun d hd => ?_, Nat.le_refl _, by decide, rfl⟩
  rw [List.mem_singleton.mp hd]
  refine ⟨(row_fill h l).good.1, ?_, ?_⟩
  · have : ∀ zs : List Str, wtSs (zs.map .str) = 204 * zs.length := fun zs => by
      induction zs with
      | nil => rfl
      | cons z zs ih => simp only [List.map_cons, wtSs, wtS, ih, List.length_cons]; omega
    simp only [fillD, wtS, this]
    omega
  · simp only [fillD, PyData.depth, depthAll_strs]
    decide
/-- the values at first -/
def od1 (f : List Str) : List Wv := [.d .none, .d (.bool true), .d (.bool false), .d (.int 0), .d (.int 1), .d (.int (-1)), .d (.int 10), .d (.int 30), .d (.str ""), .d (.str "A"), .d (.str "toolongxx"), .d (.str "pass"), .d (.tuple []), .d (.list []), .dk [], .d (.tuple [.tuple []]), .d (.list [fillD f]), .d (.tuple [fillD f])]
def od2 (f : List Str) : List Wv := [.d (.list (f.map .str)), .d (.tuple (f.map PyData.str).reverse), .d (.tuple (f.map .str ++ cutD (f.map .str) none (some 1))), .d (.tuple (cutD (f.map .str) (some 1) none)), .d (.tuple (cutD (f.map .str) none (some (-1))))]
theorem od1_ok {f : List Str} (h : ∀ z ∈ f, z ∈ outsU) (l : f.length ≤ 3) : ∀ x ∈ od1 f, OdW x := fun x hx => by
  have sc : ∀ {d : PyData}, alL noJ d = true → d.plain = true → shB d = true → wtS d ≤ 20000 → d.depth ≤ 9 → OdW (.d d) := fun a b c d e => .inl ⟨_, rfl, ⟨a, b, c, d, e⟩⟩
  simp only [od1, List.mem_cons, List.not_mem_nil, or_false] at hx
  rcases hx with rfl | rfl | rfl | rfl | rfl | rfl | rfl | rfl | rfl | rfl | rfl | rfl | rfl | rfl | rfl | rfl | rfl | rfl
  · exact sc rfl rfl rfl (by decide) (by decide)
  · exact sc rfl rfl rfl (by decide) (by decide)
  · exact sc rfl rfl rfl (by decide) (by decide)
  · exact sc rfl rfl (by decide +kernel) (by decide) (by decide)
  · exact sc rfl rfl (by decide +kernel) (by decide) (by decide)
  · exact sc rfl rfl (by decide +kernel) (by decide) (by decide)
  · exact sc rfl rfl (by decide +kernel) (by decide) (by decide)
  · exact sc rfl rfl (by decide +kernel) (by decide) (by decide)
  · exact sc rfl rfl (by decide +kernel) (by decide) (by decide)
  · exact sc rfl rfl (by decide +kernel) (by decide) (by decide)
  · exact sc rfl rfl (by decide +kernel) (by decide) (by decide)
  · exact sc rfl rfl (by decide +kernel) (by decide) (by decide)
  · exact sc rfl rfl (by decide +kernel) (by decide) (by decide)
  · exact sc rfl rfl (by decide +kernel) (by decide) (by decide)
  · exact .inr rfl
  · exact sc rfl (by simp [PyData.plain, PyData.plainAll]) (by decide +kernel) (by decide) (by decide)
  · exact .inl ⟨_, rfl, (row_one' h l).good.2⟩
  · exact .inl ⟨_, rfl, (row_one' h l).good.1⟩
theorem od2_ok {f : List Str} (h : ∀ z ∈ f, z ∈ outsU) (l : f.length ≤ 3) : ∀ x ∈ od2 f, OdW x := fun x hx => by
  have fm := fill_mem h
  have lm : (f.map PyData.str).length ≤ 3 := by rw [List.length_map]; exact l
  have lc : ∀ i j, (cutD (f.map PyData.str) i j).length ≤ 3 := fun i j => by
    unfold cutD
    rw [List.length_take, List.length_drop]
    omega
  simp only [od2, List.mem_cons, List.not_mem_nil, or_false] at hx
  rcases hx with rfl | rfl | rfl | rfl | rfl
  · exact .inl ⟨_, rfl, (row_strs fm lm (by decide)).good.2⟩
  · exact .inl ⟨_, rfl, (row_strs (n := 3) (fun d hd => fm d (List.mem_reverse.mp hd)) (by rw [List.length_reverse]; exact lm) (by decide)).good.1⟩
  · exact .inl ⟨_, rfl, (row_strs (n := 6) (fun d hd => (List.mem_append.mp hd).elim (fm d) fun hd => fm d (cut_mem d hd)) (by rw [List.length_append]; have := lc none (some 1); omega) (by decide)).good.1⟩
  · exact .inl ⟨_, rfl, (row_strs (n := 3) (fun d hd => fm d (cut_mem d hd)) (lc _ _) (by decide)).good.1⟩
  · exact .inl ⟨_, rfl, (row_strs (n := 3) (fun d hd => fm d (cut_mem d hd)) (lc _ _) (by decide)).good.1⟩
abbrev iOddF : Nat := 57
abbrev NOf : List Str := ["_law_jar_here", "_law_thing", "_law_some"]
theorem scOddF : FnScope NOf ["_law_jar_here", "_law_thing"] (defScope (topAt iOddF)) := ⟨rfl, rfl, rfl, by decide +kernel, rfl, by decide +kernel, by decide +kernel⟩
def spOddF (K : PySem.W.Frag) : Sp := fun vs H Q _ => ∃ (J : Addr) (vf : V) (f : List Str) (c : Nat), vs = [.ref J, vf] ∧ Jar J H c ∧ c < 90000 ∧ Dp K H vf (fillD f) ∧ (∀ z ∈ f, z ∈ outsU) ∧ f.length ≤ 3 ∧
  ∀ (v : V) (H' : Hp), Kp J H H' → Jar J H' (c + 1) → OdV K J H' v → Q v H'
section
variable {P : Program} {w : World} {K : PySem.W.Frag} {mg : Str → Option Value} {base : Heap}
theorem ok_oddF {f fO fT : Addr} {fd fdO fdT : FuncData} (F : Fd K iOddF "_law_odd" f fd) (FO : Fd K KZ.iOf "_law_of" fO fdO) (FT : Fd K iTake "_law_take" fT fdT) (gO : mg "_law_of" = some (.ref fO)) (gT : mg "_law_take" = some (.ref fT)) (gi : mg "int" = none) (gl : mg "len" = none)
    (gli : mg "list" = none) (gin : mg "isinstance" = none) (gt : mg "tuple" = none) (gs_ : mg "str" = none) : FnOk P w K mg base CX0 3 f fd ["_law_jar_here", "_law_thing"] (spOddF K) := by
  have GO : FnOk P w K mg base CX0 2 fO fdO ["_law_jar_here", "_law_some"] (spOf K) := ok_of FO FT gT gi gl
  have bO : Binds K fdO ["_law_jar_here", "_law_some"] [] := FO.bindsN fun _ _ _ _ _ _ us hl => match us, hl with | [_, _], _ => rfl
  refine F.ok scOddF (fun vs H Q E h => ?_) (fun cdv A outer s H vs Q E hr h => ?_)
  · obtain ⟨J, vf, f, c, rfl, _⟩ := h
    rfl
  · obtain ⟨J, vf, fl, c, rfl, hJ, hc, df, ho, l3, q⟩ := h
    refine ⟨_, PSs.nox (pss_cons (ps_set (i := 2) scOddF.nd rfl (Or.inl rfl) (pe_lst (wa_cons (we_c pe_non) (wa_cons (we_c pe_bl) (wa_cons (we_c pe_bl) (wa_cons (we_c pe_int) (wa_cons (we_c pe_int) (wa_cons we_neg1 (wa_cons (we_c pe_int) (wa_cons (we_c pe_int)
        (wa_cons (we_c pe_str) (wa_cons (we_c pe_str) (wa_cons (we_c pe_str) (wa_cons (we_c pe_str) (wa_cons (we_tup wa_nil) (wa_cons (we_lst wa_nil) (wa_cons we_dnewK (wa_cons (we_tup (wa_cons (we_tup wa_nil) wa_nil)) (wa_cons (we_lst (wa_cons (we_v (pv 1)) wa_nil)) (wa_cons (we_tup (wa_cons (we_v (pv 1)) wa_nil)) wa_nil))))))))))))))))))))
      (pss_cons (ps_if (wt_val (we_isi (T := "tuple") (pe_callB call_isi (by rfl) gin PyProof.Rows.boot_isinstance (pa_cons (we_v (pv 1)) (pa_cons (pe_bltn (v := .ty "tuple") rfl gt (by decide +kernel) rfl) pa_nil)))))
          (pss_one (ps_set (i := 2) scOddF.nd rfl (Or.inl rfl) (pe_op op_cat (pv 2) (pe_op op_rep (pe_lst (wa_cons (we_bty call_list_of m_listT (by rfl) gli (by decide +kernel) (wa_cons (we_v (pv 1)) wa_nil)) (wa_cons (we_revT (we_v (pv 1)))
            (wa_cons (we_op op_catA m_cat (we_v (pv 1)) (we_slT (we_v (pv 1)) wo_none (wo_some (we_c pe_int)))) (wa_cons (we_slT (we_v (pv 1)) (wo_some (we_c pe_int)) wo_none) (wa_cons (we_slT (we_v (pv 1)) wo_none (wo_some we_neg1)) wa_nil)))))) pe_int)))) pss_nil)
      (pss_cons (ps_if (wt_val (we_isi (T := "str") (pe_callB call_isi (by rfl) gin PyProof.Rows.boot_isinstance (pa_cons (we_v (pv 1)) (pa_cons (pe_bltn (v := .ty "str") rfl gs_ (by decide +kernel) rfl) pa_nil))))) pss_never pss_nil)
      (pss_cons (ps_if (wt_val (we_isi (T := "int") (pe_callB call_isi (by rfl) gin PyProof.Rows.boot_isinstance (pa_cons (we_v (pv 1)) (pa_cons (pe_bltn (v := .ty "int") rfl gi (by decide +kernel) rfl) pa_nil))))) pss_never pss_nil)
      (pss_one (ps_ret (pe_call GO hr rfl gO FO.kp bO .nil pass0 (pa_cons (pv 0) (pa_cons (pv 2) pa_nil))))))))), ?_⟩
    have sl : sizeLine = 16777216 := sizeLine_eq
    have E1 : ∀ {H2 : Hp} {s2 : Option V}, Sm H H2 → ER P w K H2 [some (.ref J), some vf, s2] [none, some (.d (fillD fl)), none] := fun {H2 s2} s => er_no (er_yes (.d (dp_sm s df)) (er_no er_nil))
    refine ⟨[none, some (.d (fillD fl)), none], od1 fl, E1 (Sm.rfl' _), rfl, fun vs H1 s1 r1 => ?_⟩
    have lv : vs.length = 18 := by rw [rws_len r1]; rfl
    have j1 := Jar.sm s1 hJ
    have ov1 : ∀ v ∈ vs, OdV K J H1 v := fun v hv => by
      obtain ⟨i, hi⟩ := List.getElem?_of_mem hv
      obtain ⟨x, hx, rx⟩ := rws_at r1 hi
      exact odv_of j1 rx (od1_ok ho l3 x (List.mem_of_getElem? hx))
    refine ⟨by rw [sl]; omega, fun l nl => ?_⟩
    have s2 := upd_sm (o := .lst vs) nl
    have h2 : (upd H1 l (.lst vs)) l = some (.lst vs) := upd_same
    have lJ : l ≠ J := j1.ne nl
    generalize upd H1 l (.lst vs) = H2 at s2 h2 ⊢
    have k2 : Kp J H H2 := Kp.sm (Kp.refl J H) (s1.trans s2)
    have j2 := Jar.sm s2 j1
    have ov2 : ∀ v ∈ vs, OdV K J H2 v := fun v hv => (ov1 v hv).sm s2
    refine ⟨_, true, E1 (s1.trans s2), rfl, fun H3 s3 => ite_yes ?_⟩
    have lm : (fl.map PyData.str).length ≤ 3 := by rw [List.length_map]; exact l3
    have eC : opF (vF 1) (slF (vF 1) (fun _ => some none) (fun ε => (cF (sc (V.int 1)) ε).bind fun x => Option.map some (iOf x))) oCat [none, some (.d (fillD fl)), none] = some (.d (.tuple (fl.map .str ++ cutD (fl.map .str) none (some 1)))) := if_pos (by
      have : (cutD (fl.map PyData.str) none (some 1)).length ≤ 3 := by
        unfold cutD
        rw [List.length_take, List.length_drop]
        omega
      omega)
    refine ⟨_, rfl, [none, some (.d (fillD fl)), none], od2 fl, E1 ((s1.trans s2).trans s3), (by simp only [consF]; rw [eC]; rfl), fun us H4 s4 r4 => ?_⟩
    have lu : us.length = 5 := by rw [rws_len r4]; rfl
    have j4 := Jar.sm (s3.trans s4) j2
    have ou4 : ∀ v ∈ us, OdV K J H4 v := fun v hv => by
      obtain ⟨i, hi⟩ := List.getElem?_of_mem hv
      obtain ⟨x, hx, rx⟩ := rws_at r4 hi
      exact odv_of j4 rx (od2_ok ho l3 x (List.mem_of_getElem? hx))
    have ov4 : ∀ v ∈ vs, OdV K J H4 v := fun v hv => (ov2 v hv).sm (s3.trans s4)
    have h4 := (s3.trans s4) _ _ h2
    have k4 : Kp J H H4 := Kp.sm k2 (s3.trans s4)
    refine ⟨by rw [sl]; omega, fun l2 nl2 => ⟨l2, 2, us, rfl, rfl, upd_same, by decide, by decide, by rw [sl, lu]; decide, fun p np => ⟨l, p, vs, _, rfl, rfl, upd_sm np _ _ (upd_sm nl2 _ _ h4), upd_same, by rw [sl, lv]; simp [lu], fun p2 np2 => ?_⟩⟩⟩
    have s5 := ((upd_sm (o := .lst us) nl2).trans (upd_sm (o := .lst (List.replicate (2 : Int).toNat us).flatten) np)).trans (upd_sm (o := .lst (vs ++ (List.replicate (2 : Int).toNat us).flatten)) np2)
    have h5 : (upd (upd (upd H4 l2 (.lst us)) p (.lst (List.replicate (2 : Int).toNat us).flatten)) p2 (.lst (vs ++ (List.replicate (2 : Int).toNat us).flatten))) p2 = some (.lst (vs ++ (List.replicate (2 : Int).toNat us).flatten)) := upd_same
    have p2J : p2 ≠ J := (Jar.sm ((upd_sm (o := .lst us) nl2).trans (upd_sm (o := .lst (List.replicate (2 : Int).toNat us).flatten) np)) j4).ne np2
    generalize upd (upd (upd H4 l2 (.lst us)) p (.lst (List.replicate (2 : Int).toNat us).flatten)) p2 (.lst (vs ++ (List.replicate (2 : Int).toNat us).flatten)) = H5 at s5 h5 ⊢
    have all5 : ∀ v ∈ vs ++ (List.replicate (2 : Int).toNat us).flatten, OdV K J H5 v := fun v hv => by
      rcases List.mem_append.mp hv with hv | hv
      · exact (ov4 v hv).sm s5
      · have hv2 : v ∈ us := by
          obtain ⟨l, hl, hv⟩ := List.mem_flatten.mp hv
          rw [(List.mem_replicate.mp hl).2] at hv
          exact hv
        exact (ou4 v hv2).sm s5
    have l5 : (vs ++ (List.replicate (2 : Int).toNat us).flatten).length = 28 := by
      show (vs ++ (us ++ (us ++ []))).length = 28
      simp [lv, lu]
    generalize vs ++ (List.replicate (2 : Int).toNat us).flatten = ws at h5 all5 l5
    have j5 := Jar.sm s5 j4
    have k5 : Kp J H H5 := Kp.sm k4 s5
    have up5 := ((s1.trans s2).trans (s3.trans s4)).trans s5
    refine ⟨_, false, E1 up5, rfl, fun H6 s6 => ite_no ⟨_, false, E1 (up5.trans s6), rfl, fun H7 s7 => ite_no ?_⟩⟩
    have s57 := s6.trans s7
    refine ⟨_, rfl, _, rfl, J, _, c, rfl, Jar.sm s57 j5, by omega, .inl ⟨p2, ws, rfl, p2J, s57 _ _ h5, (fun z => by rw [z] at l5; cases l5), by omega, fun i v H8 hv k8 j8 => ?_⟩⟩
    exact q v H8 ((Kp.sm k5 s57).trans k8) j8 (((all5 v (List.mem_of_getElem? hv)).sm s57).kp (Jar.sm s57 j5) k8)
end
end KW
namespace KW
open PySem PySem.Spec PyProof.Rows L2 KZ KS KP DC
/-! the law's _law_others -/
def oAddI : Wv → Wv → Option Wv
  | .d (.int i), .d (.int j) => some (.d (.int (i + j)))
  | _, _ => none
theorem m_addI {X : Cx} : Meets2 X (rI0 fun i j => V.int (i + j)) oAddI := by
  intro H x y a b c Q ra rb e q
  unfold oAddI at e
  split at e
  · cases e
    cases rw_d ra
    cases rw_d rb
    exact ⟨_, _, rfl, rfl, q _ _ (Sm.rfl' H) (.d (.int _))⟩
  · cases e
/-- what is written in the place of an outcome -/
def Out1 (d : PyData) : Prop := GoodD d ∧ wtS d ≤ 1000 ∧ d.depth ≤ 2 ∧ noL d = true ∧ ∀ i, d ≠ .int i
theorem out1_row {ds : List PyData} {n : Nat} (h : ∀ d ∈ ds, Out1 d) (l : ds.length ≤ n) (n10 : n ≤ 10) : Row ds n := by
  refine ⟨fun d hd => ⟨(h d hd).1, (h d hd).2.1, (h d hd).2.2.1⟩, l, n10, ?_⟩
  cases ds with
  | nil => rfl
  | cons d ds =>
    have := (h d (List.mem_cons_self ..)).2.2.2.2
    cases d with
    | int i => exact absurd rfl (this i)
    | _ => rfl
theorem out1_str {z : Str} (h : z ∈ outsU) : Out1 (.str z) := ⟨(good_out h).1, (good_out h).2.1, (good_out h).2.2, rfl, fun i e => nomatch e⟩
def outs8 : List V := [.str "skip", .str "skip", .str "fail", .str "cut", .str "Pass", .non, .str "", .bl true]
theorem outs8_ok {K : PySem.W.Frag} {H : Hp} {v : V} (h : v ∈ outs8) : ∃ d, Dp K H v d ∧ Out1 d := by
  have sc : ∀ {d : PyData}, alL noJ d = true → d.plain = true → shB d = true → wtS d ≤ 1000 → d.depth ≤ 2 → noL d = true → (∀ i, d ≠ .int i) → Out1 d := fun a b c d e f g => ⟨⟨a, b, c, by omega, by omega⟩, d, e, f, g⟩
  simp only [outs8, List.mem_cons, List.not_mem_nil, or_false] at h
  rcases h with rfl | rfl | rfl | rfl | rfl | rfl | rfl | rfl
  · exact ⟨_, .str _, sc rfl rfl (by decide +kernel) (by decide) (by decide) rfl (fun i e => nomatch e)⟩
  · exact ⟨_, .str _, sc rfl rfl (by decide +kernel) (by decide) (by decide) rfl (fun i e => nomatch e)⟩
  · exact ⟨_, .str _, sc rfl rfl (by decide +kernel) (by decide) (by decide) rfl (fun i e => nomatch e)⟩
  · exact ⟨_, .str _, sc rfl rfl (by decide +kernel) (by decide) (by decide) rfl (fun i e => nomatch e)⟩
  · exact ⟨_, .str _, sc rfl rfl (by decide +kernel) (by decide) (by decide) rfl (fun i e => nomatch e)⟩
  · exact ⟨_, .non, sc rfl rfl rfl (by decide) (by decide) rfl (fun i e => nomatch e)⟩
  · exact ⟨_, .str _, sc rfl rfl (by decide +kernel) (by decide) (by decide) rfl (fun i e => nomatch e)⟩
  · exact ⟨_, .bl _, sc rfl rfl rfl (by decide) (by decide) rfl (fun i e => nomatch e)⟩
/-- one thing otherwise -/
def ot3 (ds : List PyData) (a : Int) (o : PyData) : List Wv := [.d (.tuple ((cutD ds none (some a) ++ [o]) ++ cutD ds (some (a + 1)) none)), .d (.tuple ((cutD ds none (some a) ++ [o]) ++ cutD ds (some a) none)), .d (.tuple (cutD ds none (some a) ++ cutD ds (some (a + 1)) none))]
theorem cut_le {ds : List PyData} {i j : Option Int} : (cutD ds i j).length ≤ ds.length := by
  unfold cutD
  rw [List.length_take, List.length_drop]
  omega
theorem ot3_ok {ds : List PyData} {a : Int} {o : PyData} (h : ∀ d ∈ ds, Out1 d) (l : ds.length ≤ 3) (ho : Out1 o) : ∀ x ∈ ot3 ds a o, OdW x := fun x hx => by
  have c := fun i j => cut_le (ds := ds) (i := i) (j := j)
  have mc : ∀ {i j}, ∀ d ∈ cutD ds i j, Out1 d := fun d hd => h d (cut_mem d hd)
  have ma : ∀ {as bs : List PyData}, (∀ d ∈ as, Out1 d) → (∀ d ∈ bs, Out1 d) → ∀ d ∈ as ++ bs, Out1 d := fun p q d hd => (List.mem_append.mp hd).elim (p d) (q d)
  have m1 : ∀ d ∈ [o], Out1 d := fun d hd => by rw [List.mem_singleton.mp hd]; exact ho
  simp only [ot3, List.mem_cons, List.not_mem_nil, or_false] at hx
  have c1 := c none (some a)
  have c2 := c (some a) none
  have c3 := c (some (a + 1)) none
  rcases hx with rfl | rfl | rfl
  · exact .inl ⟨_, rfl, (out1_row (n := 7) (ma (ma mc m1) mc) (by rw [List.length_append, List.length_append, List.length_singleton]; omega) (by decide)).good.1⟩
  · exact .inl ⟨_, rfl, (out1_row (n := 7) (ma (ma mc m1) mc) (by rw [List.length_append, List.length_append, List.length_singleton]; omega) (by decide)).good.1⟩
  · exact .inl ⟨_, rfl, (out1_row (n := 7) (ma mc mc) (by rw [List.length_append]; omega) (by decide)).good.1⟩
theorem cat_e' {f g : EF} {ε : EV} {xs ys : List PyData} (hf : f ε = some (.d (.tuple xs))) (hg : g ε = some (.d (.tuple ys))) (h : xs.length + ys.length ≤ 1000) : opF f g oCat ε = some (.d (.tuple (xs ++ ys))) := by
  unfold opF
  rw [hf, hg]
  exact if_pos h
theorem consF_e {f : EF} {g : AF} {ε : EV} {x : Wv} {xs : List Wv} (hf : f ε = some x) (hg : g ε = some xs) : consF f g ε = some (x :: xs) := by
  unfold consF
  rw [hf, hg]
  rfl
abbrev iOth : Nat := 59
abbrev NOt : List Str := ["_law_jar_here", "_law_fill", "_law_at", "_law_out", "_law_some"]
theorem scOth : FnScope NOt ["_law_jar_here", "_law_fill"] (defScope (topAt iOth)) := ⟨rfl, rfl, rfl, by decide +kernel, rfl, by decide +kernel, by decide +kernel⟩
def spOth (K : PySem.W.Frag) : Sp := fun vs H Q _ => ∃ (J : Addr) (vf : V) (f : List Str) (c : Nat), vs = [.ref J, vf] ∧ Jar J H c ∧ c < 80000 ∧ Dp K H vf (fillD f) ∧ (∀ z ∈ f, z ∈ outsU) ∧ f.length ≤ 3 ∧
  ∀ (v : V) (H' : Hp), Kp J H H' → Jar J H' (c + 4) → OdV K J H' v → Q v H'
section
variable {P : Program} {w : World} {K : PySem.W.Frag} {mg : Str → Option Value} {base : Heap}
theorem ok_oth {f fO fT fD : Addr} {fd fdO fdT fdD : FuncData} (F : Fd K iOth "_law_others" f fd) (FO : Fd K KZ.iOf "_law_of" fO fdO) (FT : Fd K iTake "_law_take" fT fdT) (FD : Fd K iOddF "_law_odd" fD fdD) (gO : mg "_law_of" = some (.ref fO)) (gT : mg "_law_take" = some (.ref fT)) (gD : mg "_law_odd" = some (.ref fD)) (gi : mg "int" = none) (gl : mg "len" = none)
    (gli : mg "list" = none) (gin : mg "isinstance" = none) (gt : mg "tuple" = none) (gs_ : mg "str" = none) : FnOk P w K mg base CX0 4 f fd ["_law_jar_here", "_law_fill"] (spOth K) := by
  have GO : FnOk P w K mg base CX0 2 fO fdO ["_law_jar_here", "_law_some"] (spOf K) := ok_of FO FT gT gi gl
  have bO : Binds K fdO ["_law_jar_here", "_law_some"] [] := FO.bindsN fun _ _ _ _ _ _ us hl => match us, hl with | [_, _], _ => rfl
  have GT : FnOk P w K mg base CX0 1 fT fdT ["_law_jar_here", "_law_many"] spTake := ok_take FT gi
  have bT : Binds K fdT ["_law_jar_here", "_law_many"] [] := FT.bindsN fun _ _ _ _ _ _ us hl => match us, hl with | [_, _], _ => rfl
  have GD : FnOk P w K mg base CX0 3 fD fdD ["_law_jar_here", "_law_thing"] (spOddF K) := ok_oddF FD FO FT gO gT gi gl gli gin gt gs_
  have bD : Binds K fdD ["_law_jar_here", "_law_thing"] [] := FD.bindsN fun _ _ _ _ _ _ us hl => match us, hl with | [_, _], _ => rfl
  refine F.ok scOth (fun vs H Q E h => ?_) (fun cdv A outer s H vs Q E hr h => ?_)
  · obtain ⟨J, vf, f, c, rfl, _⟩ := h
    rfl
  · obtain ⟨J, vf, fl, c, rfl, hJ, hc, df, ho, l3, q⟩ := h
    have hr2 := hr.mono (show 2 ≤ 3 by decide)
    refine ⟨_, PSs.nox (pss_cons (ps_par (i := 2) (j := 3) rfl scOth.nd rfl rfl (by decide) rfl rfl (pa_cons (pe_call GT (hr.mono (by decide)) rfl gT FT.kp bT .nil pass0 (pa_cons (pv 0) (pa_cons (pe_op op_add (pe_callB call_len_seq (by rfl) gl PySem.boot_len (pa_cons (pv 1) pa_nil)) pe_int) pa_nil)))
          (pa_cons (pe_call GO hr2 rfl gO FO.kp bO .nil pass0 (pa_cons (pv 0) (pa_cons (pe_lst (pa_cons pe_str (pa_cons pe_str (pa_cons pe_str (pa_cons pe_str (pa_cons pe_str (pa_cons pe_non (pa_cons pe_str (pa_cons pe_bl pa_nil))))))))) pa_nil))) pa_nil)) (by rfl))
      (pss_cons (ps_set (i := 4) scOth.nd rfl (Or.inl rfl) (pe_lst (wa_cons (we_op op_catA m_cat (we_op op_catA m_cat (we_slT (we_v (pv 1)) wo_none (wo_some (we_v (pv 2)))) (we_tup (wa_cons (we_v (pv 3)) wa_nil))) (we_slT (we_v (pv 1)) (wo_some (we_op op_add m_addI (we_v (pv 2)) (we_c pe_int))) wo_none))
          (wa_cons (we_op op_catA m_cat (we_op op_catA m_cat (we_slT (we_v (pv 1)) wo_none (wo_some (we_v (pv 2)))) (we_tup (wa_cons (we_v (pv 3)) wa_nil))) (we_slT (we_v (pv 1)) (wo_some (we_v (pv 2))) wo_none))
          (wa_cons (we_op op_catA m_cat (we_slT (we_v (pv 1)) wo_none (wo_some (we_v (pv 2)))) (we_slT (we_v (pv 1)) (wo_some (we_op op_add m_addI (we_v (pv 2)) (we_c pe_int))) wo_none)) wa_nil)))))
      (pss_one (ps_ret (pe_call GO hr2 rfl gO FO.kp bO .nil pass0 (pa_cons (pv 0) (pa_cons (pe_op op_cat (pv 4) (pe_lst (pa_cons (pe_callTy call_list_of (by rfl) gli (by decide +kernel) (pa_cons (pv 1) pa_nil)) (pa_cons (pe_call GD hr rfl gD FD.kp bD .nil pass0 (pa_cons (pv 0) (pa_cons (pv 1) pa_nil))) pa_nil)))) pa_nil))))))), ?_⟩
    have sl : sizeLine = 16777216 := sizeLine_eq
    obtain ⟨af, uf, rfl, sqf, duf⟩ : ∃ a us, vf = .ref a ∧ SqT K H a us ∧ DpAll K H us (fl.map .str) := by
      cases df with
      | tup hs t => exact ⟨_, _, rfl, hs, t⟩
    have df : Dp K H (.ref af) (fillD fl) := .tup sqf duf
    have luf : uf.length = fl.length := by rw [dpa_len duf, List.length_map]
    have D0 : Dp K (dls [J] H) (.ref af) (fillD fl) := dp_nj hJ (noLs_strs fl) df
    have Dk : ∀ {H' : Hp}, Kp J H H' → Dp K H' (.ref af) (fillD fl) := fun k => dp_sm ((dls_kp k (by simp)).trans (dls_sm _ _)) D0
    have Sk : ∀ {H' : Hp}, Kp J H H' → SqT K H' af uf := fun {H'} k => by
      have := D0
      cases this with
      | tup hs t => 
        rcases sqf with (h | ⟨o, h⟩) | h
        · exact .inl (.inl (k _ _ h fun z => by obtain ⟨m, s, q, e, _⟩ := hJ; rw [z, e] at h; cases h))
        · exact .inl (.inr ⟨o, k _ _ h fun z => by obtain ⟨m, s, q, e, _⟩ := hJ; rw [z, e] at h; cases h⟩)
        · exact .inr h
    refine ⟨_, rfl, _, rfl, af, uf, rfl, .inr sqf, _, _, rfl, rfl, ?_⟩
    refine ⟨J, _, c, rfl, hJ, by omega, by omega, by omega, fun r H1 r0 r1 k1 j1 => ?_⟩
    refine ⟨_, rfl, (by show (8 : Nat) ≤ sizeLine; decide), fun L nL => ?_⟩
    refine ⟨J, _, _, rfl, j1.new nL, by omega, .inl ⟨L, outs8, rfl, j1.ne nL, upd_same, by decide, by decide, fun i v H2 hv k2 j2 => ?_⟩⟩
    have k2 : Kp J H H2 := (k1.new nL).trans k2
    obtain ⟨o, dO, oo⟩ := outs8_ok (K := K) (H := H2) (List.mem_of_getElem? hv)
    refine ⟨_, _, rfl, ?_⟩
    have E2 : ER P w K H2 [some (.ref J), some (.ref af), some (.int r), some v, none] [none, some (.d (fillD fl)), some (.d (.int r)), some (.d o), none] := er_no (er_yes (.d (Dk k2)) (er_yes (.d (.int r)) (er_yes (.d dO) (er_no er_nil))))
    have c := fun i j => cut_le (ds := fl.map PyData.str) (i := i) (j := j)
    have lm : (fl.map PyData.str).length ≤ 3 := by rw [List.length_map]; exact l3
    refine ⟨_, _, E2, consF_e (cat_e' (cat_e' rfl rfl (by have := c none (some r); rw [List.length_singleton]; omega)) rfl (by have := c none (some r); have := c (some (r + 1)) none; rw [List.length_append, List.length_singleton]; omega))
      (consF_e (cat_e' (cat_e' rfl rfl (by have := c none (some r); rw [List.length_singleton]; omega)) rfl (by have := c none (some r); have := c (some r) none; rw [List.length_append, List.length_singleton]; omega))
      (consF_e (cat_e' rfl rfl (by have := c none (some r); have := c (some (r + 1)) none; omega)) rfl)), fun vs H3 s3 r3 => ?_⟩
    have lv : vs.length = 3 := by rw [rws_len r3]; rfl
    have k3 := Kp.sm k2 s3
    have j3 := Jar.sm s3 j2
    have ov3 : ∀ v ∈ vs, OdV K J H3 v := fun v hv => by
      obtain ⟨i, hi⟩ := List.getElem?_of_mem hv
      obtain ⟨x, hx, rx⟩ := rws_at r3 hi
      exact odv_of j3 rx (ot3_ok (ds := fl.map .str) (a := r) (o := o) (fun d hd => by
        obtain ⟨z, hz, rfl⟩ := List.mem_map.mp hd
        exact out1_str (ho z hz)) lm oo x (List.mem_of_getElem? hx))
    refine ⟨by rw [sl]; omega, fun l nl => ?_⟩
    have s4 := upd_sm (o := .lst vs) nl
    have h4 : (upd H3 l (.lst vs)) l = some (.lst vs) := upd_same
    have lJ : l ≠ J := j3.ne nl
    generalize upd H3 l (.lst vs) = H4 at s4 h4 ⊢
    have k4 := Kp.sm k3 s4
    have j4 := Jar.sm s4 j3
    have ov4 : ∀ v ∈ vs, OdV K J H4 v := fun v hv => (ov3 v hv).sm s4
    refine ⟨_, rfl, _, rfl, _, rfl, af, uf, rfl, .inr (Sk k4), fun lf nlf => ?_⟩
    have s5 := upd_sm (o := .lst uf) nlf
    have duf' : DpAll K (upd H4 lf (.lst uf)) uf (fl.map .str) := by
      have : ∀ zs : List Str, DpAll K (upd H4 lf (.lst uf)) (zs.map V.str) (zs.map .str) := fun zs => by
        induction zs with
        | nil => exact .nil
        | cons z zs ih => exact .cons (.str z) ih
      have h := this fl
      rw [← dpa_strs duf] at h
      exact h
    have d5 : Dp K (upd H4 lf (.lst uf)) (.ref lf) (.list (fl.map .str)) := .lst (SqL.of upd_same) duf'
    generalize upd H4 lf (.lst uf) = H5 at s5 d5 ⊢
    have k5 := Kp.sm k4 s5
    have j5 := Jar.sm s5 j4
    have ol5 : OdV K J H5 (.ref lf) := odv_of (P := P) (w := w) j5 (.d d5) (.inl ⟨_, rfl, (row_fill ho l3).good.2⟩)
    have ov5 : ∀ v ∈ vs, OdV K J H5 v := fun v hv => (ov4 v hv).sm s5
    refine ⟨_, rfl, _, rfl, J, _, fl, _, rfl, j5, by omega, Dk k5, ho, l3, fun v6 H6 k6 j6 o6 => ?_⟩
    have h6 := k6 _ _ (s5 _ _ h4) lJ
    refine ⟨(by show (2 : Nat) ≤ sizeLine; decide), fun l2 nl2 => ⟨l, l2, vs, [.ref lf, v6], rfl, rfl, upd_sm nl2 _ _ h6, upd_same, by rw [sl, lv]; simp, fun p np => ?_⟩⟩
    have s7 := (upd_sm (o := .lst [V.ref lf, v6]) nl2).trans (upd_sm (o := .lst (vs ++ [V.ref lf, v6])) np)
    have h7 : (upd (upd H6 l2 (.lst [V.ref lf, v6])) p (.lst (vs ++ [V.ref lf, v6]))) p = some (.lst (vs ++ [V.ref lf, v6])) := upd_same
    have pJ : p ≠ J := (Jar.sm (upd_sm (o := .lst [V.ref lf, v6]) nl2) j6).ne np
    generalize upd (upd H6 l2 (.lst [V.ref lf, v6])) p (.lst (vs ++ [V.ref lf, v6])) = H7 at s7 h7 ⊢
    have j7 := Jar.sm s7 j6
    have o7 : ∀ v ∈ vs ++ [V.ref lf, v6], OdV K J H7 v := fun v hv => by
      rcases List.mem_append.mp hv with hv | hv
      · exact ((ov5 v hv).kp j5 k6).sm s7
      · rcases List.mem_cons.mp hv with rfl | hv
        · exact (ol5.kp j5 k6).sm s7
        · rw [List.mem_singleton.mp hv]
          exact o6.sm s7
    refine ⟨J, _, _, rfl, j7, by omega, .inl ⟨p, _, rfl, pJ, h7, by simp, by rw [List.length_append, lv]; simp, fun i v H8 hv k8 j8 => ?_⟩⟩
    exact q v H8 ((Kp.sm (k5.trans k6) s7).trans k8) (j8.up (by omega)) ((o7 v (List.mem_of_getElem? hv)).kp j7 k8)
end
end KW
namespace KW
open PySem PySem.Spec PyProof.Rows L2 KZ KS KP DC LamX KH
/-! one log's look -/
abbrev NRt : List Str := ["_law_jar_here", "_law_groups_here", "_law_place", "_law_home_here", "_law_some", "_law_page", "_law_fills_here", "_law_fill", "_law_due", "_law_turn", "_law_value", "_law_one"]
abbrev iR5 : Nat := 60
theorem scR5 : FnScope NRt ["_law_jar_here"] (defScope (topAt iR5)) := ⟨rfl, rfl, rfl, by decide +kernel, rfl, by decide +kernel, by decide +kernel⟩
def spRight : Sp := fun vs H Q _ => ∃ (J : Addr) (c : Nat), vs = [.ref J] ∧ Jar J H c ∧ c < 60000 ∧ ∀ (H' : Hp), Jar J H' (c + 1000) → Kp J H H' → Q (.bl true) H'
theorem cutV_mem {vs : List V} {i j : Option Int} {v : V} (h : v ∈ cutV vs i j) : v ∈ vs := List.mem_of_mem_drop (List.mem_of_mem_take h)
theorem cutV_le {vs : List V} {i j : Option Int} : (cutV vs i j).length ≤ vs.length := by
  unfold cutV
  rw [List.length_take, List.length_drop]
  omega
theorem fillD_shw {f : List Str} (l : f.length ≤ 3) (o : ∀ z ∈ f, z ∈ outsU) : shB (fillD f) = true ∧ wtS (fillD f) ≤ 1000000 ∧ (fillD f).depth ≤ 20 := by
  refine ⟨sh_strs f o, ?_, ?_⟩
  · simp only [fillD, wtS, wts_strs f]
    omega
  · simp only [fillD, PyData.depth, depthAll_strs]
    decide
/-- [repr(one) for one in fills] -/
theorem reprs_ok {P : Program} {w : World} {K : PySem.W.Frag} {s0 s1 s2 s3 s4 s5 s7 s8 s9 s10 s11 : Option V} {L : Addr} {us : List V} {fs : List (List Str)} {H : Hp} {Q : VK} (hL : H L = some (.lst us)) (du : DpAll K H us (fs.map fillD)) (F : FsOk fs)
    (k : ∀ (D : Addr) H', Sm H H' → H' D = some (.lst (fs.map fun f => V.str (fillD f).shown)) → Q (.ref D) H') :
    tLc (iList K (tVar 6)) (gName 11) tYes (tCB (rRepQ P w K) (tCons (tVar 11) tNil)) [11] [s0, s1, s2, s3, s4, s5, some (.ref L), s7, s8, s9, s10, s11] H Q := by
  have lu : us.length = fs.length := by rw [dpa_len du, List.length_map]
  have := F.few
  refine ⟨_, rfl, L, rfl, ⟨us, SqL.of hL⟩, fun D' nD => lc_list (K := K) (a := L) (xs := us) (fun k H' => H' D' = some (.lst ((fs.take k).map fun f => V.str (fillD f).shown)) ∧ Sm H H')
    ⟨upd_same, upd_sm nD⟩ (fun k H' _ ⟨_, s⟩ => SqL.of (s _ _ hL)) ?_ ?_⟩
  · rintro j x H1 hx ⟨hD, s1⟩
    have hj : j < us.length := (List.getElem?_eq_some_iff.mp hx).1
    obtain ⟨f, hf⟩ : ∃ f, fs[j]? = some f := ⟨_, List.getElem?_eq_getElem (by omega)⟩
    obtain ⟨x', hx', dx⟩ := dpa_at du j (fillD f) (by rw [List.getElem?_map, hf]; rfl)
    obtain rfl := Option.some.inj (hx'.symm.trans hx)
    have fm := List.mem_of_getElem? hf
    obtain ⟨S1, S2, S3⟩ := fillD_shw (F.len f fm) (F.out f fm)
    refine ⟨rfl, ?_⟩
    refine ⟨_, rfl, x', fillD f, rfl, .inl ⟨.d _, .d (dp_sm s1 dx), rfl⟩, S1, S2, S3, _, hD, by rw [sizeLine_eq, List.length_map, List.length_take]; omega, ?_, sm_put s1 nD⟩
    rw [upd_same, take1 hf, List.map_append]
    rfl
  · rintro H1 ⟨hD, s1⟩
    rw [List.take_of_length_le (by omega)] at hD
    exact k D' H1 s1 hD
theorem notin_no {fs : List (List Str)} {d : PyData} (h : ((fs.map fun f => PyData.str (fillD f).shown).any fun z => PyData.eqv z (.str d.shown)) = false) : ∀ g ∈ fs, d ≠ fillD g := fun g hg e => by
  have := List.any_eq_false.mp h (.str (fillD g).shown) (List.mem_map.mpr ⟨g, hg, rfl⟩)
  rw [e, eqs] at this
  simp at this
section
variable {P : Program} {w : World} {K : PySem.W.Frag} {mg : Str → Option Value} {base : Heap}
theorem ok_right {f : Addr} {fd : FuncData} (FR : Fd K iR5 "_law_right" f fd)
    {fG fH fT fI fA fF fB fL fO fJ : Addr} {fdG fdH fdT fdI fdA fdF fdB fdL fdO fdJ : FuncData} {CS : Addr}
    (GG : FnOk P w K mg base CX0 4 fG fdG ["_law_jar_here", "_law_most"] spGroups) (bG : Binds K fdG ["_law_jar_here", "_law_most"] []) (kG : PySem.W.keepIn K (.ref fG) = true) (gG : mg "_law_groups" = some (.ref fG))
    (GH : FnOk P w K mg base CX0 1 fH fdH ["_law_groups_here"] spHome) (bH : Binds K fdH ["_law_groups_here"] []) (kH : PySem.W.keepIn K (.ref fH) = true) (gH : mg "_law_home" = some (.ref fH))
    (GT : FnOk P w K mg base CX0 1 fT fdT ["_law_jar_here", "_law_many"] spTake) (bT : Binds K fdT ["_law_jar_here", "_law_many"] []) (kT : PySem.W.keepIn K (.ref fT) = true) (gT : mg "_law_take" = some (.ref fT))
    (GI : FnOk P w K mg base CX0 2 fI fdI ["_law_jar_here", "_law_home_here"] (spItems K)) (bI : Binds K fdI ["_law_jar_here", "_law_home_here"] []) (kI : PySem.W.keepIn K (.ref fI) = true) (gI : mg "_law_items" = some (.ref fI))
    (GA : FnOk P w K mg base CX0 3 fA fdA ["_law_jar_here", "_law_home_here", "_law_some", "_law_workers", "_law_many"] (spAny K)) (bA : Binds K fdA ["_law_jar_here", "_law_home_here", "_law_some", "_law_workers", "_law_many"] []) (kA : PySem.W.keepIn K (.ref fA) = true) (gA : mg "_law_any_log" = some (.ref fA))
    (GF : FnOk P w K mg base CX0 2 fF fdF ["_law_home_here", "_law_page"] (spFillsL K)) (bF_ : Binds K fdF ["_law_home_here", "_law_page"] []) (kF : PySem.W.keepIn K (.ref fF) = true) (gF : mg "_law_fills" = some (.ref fF))
    (GB : FnOk P w K mg base CX0 1 fB fdB ["_law_home_here", "_law_page", "_law_fill"] (spBrought K)) (bB : Binds K fdB ["_law_home_here", "_law_page", "_law_fill"] []) (kB : PySem.W.keepIn K (.ref fB) = true) (gB : mg "_law_brought" = some (.ref fB))
    (GL : FnOk P w K mg base CX0 7 fL fdL ["shop", "log", "filling"] (spLtrs P w K CS)) (bL : Binds K fdL ["shop", "log", "filling"] []) (kL : PySem.W.keepIn K (.ref fL) = true) (gL : mg "letters" = some (.ref fL))
    (GO : FnOk P w K mg base CX0 4 fO fdO ["_law_jar_here", "_law_fill"] (spOth K)) (bO : Binds K fdO ["_law_jar_here", "_law_fill"] []) (kO : PySem.W.keepIn K (.ref fO) = true) (gO : mg "_law_others" = some (.ref fO))
    (GJ : FnG P w K mg base 8 fJ fdJ ["_law_place", "_law_page", "_law_value"] (spRefd P w K CS)) (bJ : Binds K fdJ ["_law_place", "_law_page", "_law_value"] []) (kJ : PySem.W.keepIn K (.ref fJ) = true) (gJ : mg "_law_is_refused" = some (.ref fJ))
    (piS : Pi_ P w K mg base 5 "Shop" CS 1 (semShopI CS))
    (grp : mg "repr" = none) (gr : mg "range" = none) (gt : mg "tuple" = none) (sy : SysD K) :
    FnG P w K mg base 9 f fd ["_law_jar_here"] spRight := by
  refine fnG_of FR scR5 (fun vs H Q E h => ?_) (fun cdv A outer s H vs Q E hg hr h => ?_)
  · obtain ⟨J, c, rfl, _⟩ := h
    rfl
  · obtain ⟨J, c, rfl, hJ, hc, q⟩ := h
    have hr7 := hr.mono (show 7 ≤ 8 by decide)
    have hr4 := hr.mono (show 4 ≤ 8 by decide)
    have hr3 := hr.mono (show 3 ≤ 8 by decide)
    have hr2 := hr.mono (show 2 ≤ 8 by decide)
    have hr1 := hr.mono (show 1 ≤ 8 by decide)
    have hgA := deeper_guards (env := envOfC "_law_right" (defScope (topAt iR5)) s.heap.objs.size f cdv) hg
    have hu30 : (A.deeper (envOfC "_law_right" (defScope (topAt iR5)) s.heap.objs.size f cdv)).units + 30 < cLine := by have := hr.un; omega
    refine ⟨_, PSs.nox (pss_cons (ps_set (i := 1) scR5.nd rfl (Or.inl rfl) (pe_call GG hr4 rfl gG kG bG .nil pass0 (pa_cons (pv 0) (pa_cons pe_int pa_nil))))
      (pss_cons (ps_par (i := 2) (j := 3) rfl scR5.nd rfl rfl (by decide) rfl rfl (pa_cons (pe_makeW piS hr (by decide) (by rfl) (pa_cons (pv 1) pa_nil)) (pa_cons (pe_call GH hr1 rfl gH kH bH .nil pass0 (pa_cons (pv 1) pa_nil)) pa_nil)) (by rfl))
      (pss_cons (ps_set (i := 4) scR5.nd rfl (Or.inl rfl) (pe_call GI hr2 rfl gI kI bI .nil pass0 (pa_cons (pv 0) (pa_cons (pv 3) pa_nil))))
      (pss_cons (ps_set (i := 5) scR5.nd rfl (Or.inl rfl) (pe_call GA hr3 rfl gA kA bA .nil pass0 (pa_cons (pv 0) (pa_cons (pv 3) (pa_cons (pv 4)
          (pa_cons (pe_slice sl_list (pe_lst (pa_cons pe_str (pa_cons pe_str (pa_cons pe_str pa_nil)))) po_none (po_some (pe_op op_add pe_int (pe_call GT hr1 rfl gT kT bT .nil pass0 (pa_cons (pv 0) (pa_cons pe_int pa_nil))))))
          (pa_cons (pe_call GT hr1 rfl gT kT bT .nil pass0 (pa_cons (pv 0) (pa_cons pe_int pa_nil))) pa_nil)))))))
      (pss_cons (ps_set (i := 6) scR5.nd rfl (Or.inl rfl) (pe_call GF hr2 rfl gF kF bF_ .nil pass0 (pa_cons (pv 3) (pa_cons (pv 5) pa_nil))))
      (pss_cons (ps_for PassesOwn.never rfl (pi_list (pe_op op_cat (pe_slice sl_list (pv 6) po_none (po_some pe_int)) (pe_slice sl_list (pe_slice sl_list (pv 6) (po_some pe_int) po_none) (po_some (pe_un un_neg pe_int)) po_none))) (pg_name (i := 7) scR5.nd rfl (Or.inl rfl))
        (pss_cons (ps_set (i := 8) scR5.nd rfl (Or.inl rfl) (pe_callTy call_tuple_of (by rfl) gt (by decide +kernel) (pa_cons (pe_call GB hr1 rfl gB kB bB .nil pass0 (pa_cons (pv 3) (pa_cons (pv 5) (pa_cons (pv 7) pa_nil)))) pa_nil)))
        (pss_cons (ps_if (pt_cmpR op_ne (pe_callB (show CallR _ (.builtin "repr") (rRepQ P w K) from call_repQ hgA hu30 sy) (by rfl) grp PyProof.Rows.boot_repr (pa_cons (pe_call GL hr7 rfl gL kL bL .nil pass0 (pa_cons (pv 2) (pa_cons (pv 5) (pa_cons (pv 7) pa_nil)))) pa_nil))
            (pe_callB (show CallR _ (.builtin "repr") (rRepQ P w K) from call_repQ hgA hu30 sy) (by rfl) grp PyProof.Rows.boot_repr (pa_cons (pv 8) pa_nil)) (nomark _)) (pss_one (ps_ret pe_bl)) pss_nil)
        (pss_one (ps_for PassesOwn.never rfl (pi_range1 rfl gr (pa_cons pe_int pa_nil)) (pg_name (i := 9) scR5.nd rfl (Or.inl rfl))
          (pss_cons (ps_set (i := 10) scR5.nd rfl (Or.inl rfl) (pe_call GO hr4 rfl gO kO bO .nil pass0 (pa_cons (pv 0) (pa_cons (pv 7) pa_nil))))
          (pss_one (ps_if (PW.pt (pw_and (pt_cmpR (NL.op_notInP hu30) (pe_callB (show CallR _ (.builtin "repr") (rRepQ P w K) from call_repQ hgA hu30 sy) (by rfl) grp PyProof.Rows.boot_repr (pa_cons (pv 10) pa_nil))
              (pe_lc (own := [("_law_one", 11)]) (g := gName 11) (tt := tYes) rfl scR5.nd (pi_list (pv 6)) (blkOk_by (N := NRt) (sc := defScope (topAt iR5)) (by decide +kernel)) (fun _ _ _ _ _ => pg_name (i := 11) scR5.nd rfl (Or.inl rfl)) (fun _ _ _ _ _ => pts_nil)
                (fun _ _ _ _ _ => pe_callB (show CallR _ (.builtin "repr") (rRepQ P w K) from call_repQ hgA hu30 sy) (by rfl) grp PyProof.Rows.boot_repr (pa_cons (pv 11) pa_nil))) rfl)
              (pw_and1 (pt_not (pt_val (pe_callG GJ hgA hr rfl gJ kJ bJ (pa_cons (pv 2) (pa_cons (pv 5) (pa_cons (pv 10) pa_nil)))))))))
            (pss_one (ps_ret pe_bl)) pss_nil))))))))
      (pss_one (ps_ret pe_bl)))))))), ?_⟩
    have sl : sizeLine = 16777216 := sizeLine_eq
    -- the shop
    refine ⟨_, rfl, J, 4, c, rfl, by decide, by decide, hJ, by omega, fun p gs H1 np hgs good kp1 j1 => ?_⟩
    have x1 := Sce.start kp1 j1
    have g1 := gsAt_dls hgs j1
    refine ⟨_, rfl, [.d (.tuple (dsOf gs))], shopI gs, rfl, .cons (.d (gsAt_dp hgs)) .nil, rfl, good_shop good, fun vS H2 s2 rS => ?_⟩
    have s2 : Sm H1 H2 := s2
    have x2 := x1.step s2
    have lC := good.tot
    refine ⟨_, rfl, p, gs, rfl, gsAt_sm s2 hgs, (List.nodup_append.mp good.nm.1).2.1, by omega, fun hm H3 nh hh s3 => ?_⟩
    have x3 := x2.step s3
    have hmJ : hm ≠ J := x2.jar.ne nh
    refine ⟨_, _, rfl, ?_⟩
    have rS4 : RW P w K (dls [J] H3) vS (.ob CS (shopI gs)) := shop_nj x3.jar (rw_sm s3 rS)
    have hh4 : dls [J] H3 hm = some (.dK (homeOf gs)) := dls_at hh (by simp [hmJ])
    clear rS hh x2 x1 g1 s3 s2
    -- the items
    refine ⟨_, rfl, _, rfl, J, hm, c + 20, gs, rfl, x3.jar, by omega, dls_sm _ _ _ _ hh4, good, fun lS us ts H5 kp5 j5 nlS lSJ hlS une ule dus tit => ?_⟩
    have x5 := (x3.call kp5 j5).re
    have m45 : Sm (dls [J] H3) (dls [J] H5) := dls_kp kp5 (by simp)
    have rS5 := rw_sm m45 rS4
    have hh5 := m45 _ _ hh4
    have hl5 : dls [J] H5 lS = some (.lst us) := dls_at hlS (by simp [lSJ])
    have lut : us.length = ts.length := by rw [dpa_len dus, List.length_map]
    clear rS4 hh4 m45 x3
    -- the workers
    refine ⟨_, rfl, _, rfl, _, rfl, by rw [sl]; show (3 : Nat) ≤ _; decide, fun l0 nl0 => ?_⟩
    have x7 := x5.new (o := .lst [.str "p", .str "q", .str "w"]) nl0
    have h70 : (upd H5 l0 (.lst [.str "p", .str "q", .str "w"])) l0 = some (.lst [.str "p", .str "q", .str "w"]) := upd_same
    have l0J : l0 ≠ J := x5.jar.ne nl0
    generalize upd H5 l0 (.lst [.str "p", .str "q", .str "w"]) = H7 at x7 h70 ⊢
    refine ⟨_, rfl, J, 3, _, rfl, x7.jar, by omega, by decide, by decide, fun r H8 r0 r3 kp8 j8 => ?_⟩
    have x8 := x7.call kp8 j8
    refine ⟨_, _, rfl, rfl, _, rfl, l0, _, rfl, SqL.of (kp8 _ _ h70 l0J), fun lW nW => ?_⟩
    obtain ⟨zs, ez, zne, zle, znm⟩ : ∃ zs : List Str, cutV [V.str "p", .str "q", .str "w"] none (some (1 + r)) = zs.map V.str ∧ zs ≠ [] ∧ zs.length ≤ 3 ∧ ∀ z ∈ zs, nameB z = true := by
      have hr : r = 0 ∨ r = 1 ∨ r = 2 := by omega
      rcases hr with rfl | rfl | rfl
      · exact ⟨["p"], rfl, by simp, by decide, by decide⟩
      · exact ⟨["p", "q"], rfl, by simp, by decide, by decide⟩
      · exact ⟨["p", "q", "w"], rfl, by simp, by decide, by decide⟩
    rw [ez]
    have x9 := x8.new (o := .lst (zs.map V.str)) nW
    have hW9 : (upd H8 lW (.lst (zs.map V.str))) lW = some (.lst (zs.map V.str)) := upd_same
    have lWJ : lW ≠ J := x8.jar.ne nW
    generalize upd H8 lW (.lst (zs.map V.str)) = H9 at x9 hW9 ⊢
    clear x8 x7 h70 kp8 j8 nW
    -- the log
    refine ⟨_, rfl, J, 31, _, rfl, x9.jar, by omega, by decide, by decide, fun m H10 m0 m31 kp10 j10 => ?_⟩
    have x10 := x9.call kp10 j10
    obtain ⟨many, rfl⟩ : ∃ n : Nat, m = (n : Int) := ⟨m.toNat, by omega⟩
    refine ⟨J, hm, lS, lW, many, _, gs, us, ts, zs, rfl, j10, by omega, ⟨x10.at hh5, good, x10.at hl5, lSJ, une, ule, dpa_sm x10.sm dus, tit, kp10 _ _ hW9 lWJ, lWJ, zne, zle, znm⟩, by omega, fun pP page H11 kp11 j11 npP pPJ dP lP pg hu => ?_⟩
    have x11 := x10.call kp11 j11
    have lm30 : page.length ≤ 30 := by omega
    -- its fillings
    have FS := fillsL_ok (hm := hmOf gs) hu
    refine ⟨_, rfl, _, rfl, hm, _, gs, page, rfl, x11.at hh5, good, dp_sm (dls_sm _ _) dP, pg.ok, by omega, hu, fun lF usF H12 s12 nF hF dF _ => ?_⟩
    have x12 := x11.step s12
    have lFJ : lF ≠ J := x11.jar.ne nF
    have dF12 : DpAll K (dls [J] H12) usF ((fillsL (hmOf gs) page).map fillD) := dpa_nj x12.jar (noLs_fills _) (dpa_sm (dls_sm _ _) dF)
    have hF12 : dls [J] H12 lF = some (.lst usF) := dls_at hF (by simp [lFJ])
    have dP12 : Dp K (dls [J] H12) (.ref pP) (.tuple (page.map evD)) := dp_sm (dls_mono s12) dP
    have rS12 := rw_sm x12.sm rS5
    have hh12 := x12.sm _ _ hh5
    have eLog := log_of pg lm30 zle (by omega) hu
    have efs : fillsP (hmOf gs) page = fillsL (hmOf gs) page := fills_are (hmOf gs) page
    have fso : ∀ f ∈ fillsL (hmOf gs) page, (goB (hmOf gs) 0 (fun _ => "") f page).isSome = true := fun f hf => (List.mem_filter.mp hf).2
    have flen : ∀ f ∈ fillsL (hmOf gs) page, f.length = (page.filter untD).length := fun f hf => (fills_ok (by rw [efs]; exact hf)).1
    generalize fillsL (hmOf gs) page = fs at FS dF12 eLog efs fso flen
    have lus : usF.length = fs.length := by rw [dpa_len dF12, List.length_map]
    have few := FS.few
    clear dF hF s12 nF
    have x13 := (x12.re).up (show c + 20 + 20 + 1 + 1 + 1 + 4 * many ≤ c + 300 by omega)
    clear x12 x11 x10 x9 x5 kp10 j10 kp11 j11 kp5 j5 dP rS5 hh5 hl5 dus
    -- which are looked at
    refine ⟨_, rfl, _, rfl, lF, usF, rfl, SqL.of (x13.at hF12), fun p1 np1 => ?_⟩
    have x14 := x13.new (o := .lst (cutV usF none (some 2))) np1
    have h1 : (upd H12 p1 (.lst (cutV usF none (some 2)))) p1 = some (.lst (cutV usF none (some 2))) := upd_same
    generalize upd H12 p1 (.lst (cutV usF none (some 2))) = H14 at x14 h1 ⊢
    refine ⟨_, rfl, _, rfl, lF, usF, rfl, SqL.of (x14.at hF12), fun p2 np2 => ?_⟩
    have x15 := x14.new (o := .lst (cutV usF (some 2) none)) np2
    have h12 := upd_sm (o := .lst (cutV usF (some 2) none)) np2 _ _ h1
    have h2 : (upd H14 p2 (.lst (cutV usF (some 2) none))) p2 = some (.lst (cutV usF (some 2) none)) := upd_same
    generalize upd H14 p2 (.lst (cutV usF (some 2) none)) = H15 at x15 h12 h2 ⊢
    refine ⟨_, rfl, _, rfl, p2, _, rfl, SqL.of h2, fun p3 np3 => ?_⟩
    have x16 := x15.new (o := .lst (cutV (cutV usF (some 2) none) (some (-2)) none)) np3
    have h13 := upd_sm (o := .lst (cutV (cutV usF (some 2) none) (some (-2)) none)) np3 _ _ h12
    have h3 : (upd H15 p3 (.lst (cutV (cutV usF (some 2) none) (some (-2)) none))) p3 = some (.lst (cutV (cutV usF (some 2) none) (some (-2)) none)) := upd_same
    generalize upd H15 p3 (.lst (cutV (cutV usF (some 2) none) (some (-2)) none)) = H16 at x16 h13 h3 ⊢
    obtain ⟨xs, exs⟩ : ∃ xs, xs = cutV usF none (some 2) ++ cutV (cutV usF (some 2) none) (some (-2)) none := ⟨_, rfl⟩
    have lxs : xs.length ≤ 54 := by
      have a := cutV_le (vs := usF) (i := none) (j := some 2)
      have b := cutV_le (vs := usF) (i := some 2) (j := none)
      have d := cutV_le (vs := cutV usF (some 2) none) (i := some (-2)) (j := none)
      rw [exs, List.length_append]
      omega
    have mxs : ∀ x ∈ xs, x ∈ usF := fun x hx => by
      rw [exs] at hx
      exact (List.mem_append.mp hx).elim cutV_mem fun h => cutV_mem (cutV_mem h)
    refine ⟨p1, p3, _, _, rfl, rfl, h13, h3, by rw [sl, ← List.length_append, ← exs]; omega, fun p4 np4 => ?_⟩
    rw [← exs]
    clear exs
    have x17 := x16.new (o := .lst xs) np4
    have h4 : dls [J] (upd H16 p4 (.lst xs)) p4 = some (.lst xs) := dls_at upd_same (by simp [x16.jar.ne np4])
    generalize upd H16 p4 (.lst xs) = H17 at x17 h4 ⊢
    have dF17 := dpa_sm x17.sm dF12
    have hF17 := x17.sm _ _ hF12
    have dP17 := dp_sm x17.sm dP12
    have rS17 := rw_sm x17.sm rS12
    have hh17 := x17.sm _ _ hh12
    have x18 := x17.re
    clear x17 x16 x15 x14 x13 h1 h12 h2 h13 h3 dF12 hF12 dP12 rS12 hh12
    have SE : ∀ {H' : Hp} {cc : Nat}, Sce J H cc [J] (dls [J] H17) H' → ShEv P w K CS H' vS (.ref pP) gs page := fun {H' cc} x => ⟨good, rw_sm x.all rS17, dp_sm x.all dP17, pg.ok, by omega⟩
    refine ⟨p4, rfl, ⟨xs, SqL.of (x18.at h4)⟩, for_list (K := K) (a := p4) (xs := xs)
      (fun i σ H' => ∃ a7 a8 a9 a10 a11 : Option V, σ = [some (.ref J), some (.ref p), some vS, some (.ref hm), some (.ref lS), some (.ref pP), some (.ref lF), a7, a8, a9, a10, a11] ∧ Sce J H (c + 300 + 12 * i) [J] (dls [J] H17) H')
      ⟨_, _, _, _, _, rfl, x18⟩ (fun i σ H' _ ⟨_, _, _, _, _, _, x⟩ => SqL.of (x.at h4)) ?_ ?_⟩
    · rintro i x σ H18 hx ⟨a7, a8, a9, a10, a11, rfl, x19⟩
      have hi : i < xs.length := (List.getElem?_eq_some_iff.mp hx).1
      obtain ⟨fl, hfl, dx⟩ : ∃ fl ∈ fs, Dp K (dls [J] H17) x (fillD fl) := by
        obtain ⟨j, hj⟩ := List.getElem?_of_mem (mxs x (List.mem_of_getElem? hx))
        have hlt := (List.getElem?_eq_some_iff.mp hj).1
        obtain ⟨x', hx', dx⟩ := dpa_at dF17 j (fillD (fs[j]'(by omega))) (by rw [List.getElem?_map, List.getElem?_eq_getElem (by omega)]; rfl)
        obtain rfl := Option.some.inj (hx'.symm.trans hj)
        exact ⟨_, List.getElem_mem _, dx⟩
      obtain ⟨ds, eds⟩ := Option.isSome_iff_exists.mp (fso fl hfl)
      have hLog : logB gs page = true := by
        rw [eLog]
        cases fs with
        | nil => cases hfl
        | cons _ _ => rfl
      have fl3 := FS.len fl hfl
      have flo := FS.out fl hfl
      have due := due_ok good page 0 (fun _ => "") fl ds pg.ok flo (fun _ => rfl) (by omega) eds
      obtain ⟨D1, D2, D3⟩ := due_shw due.1 (by omega)
      -- what is due
      refine ⟨_, rfl, _, rfl, _, rfl, hm, .ref pP, x, gs, page, fl, rfl, x19.at hh17, good, dp_sm x19.all dP17, dp_sm x19.all dx, pg.ok, by omega, by rw [flen fl hfl]; exact Nat.le_refl _, by omega, (fun e => by rw [eds] at e; cases e), fun lB usB dsB H19 eB sB nB hB dB _ _ => ?_⟩
      obtain rfl : ds = dsB := Option.some.inj (eds.symm.trans eB)
      refine ⟨lB, usB, rfl, .inl ⟨SqL.of hB, fun td ntd => ?_⟩⟩
      have x20 := (x19.step sB).new (o := .tup usB) ntd
      have dD : Dp K (upd H19 td (.tup usB)) (.ref td) (.tuple ds) := .tup (SqT.of upd_same) (dpa_sm ((dls_sm _ _).trans (upd_sm ntd)) dB)
      generalize upd H19 td (.tup usB) = H20 at x20 dD ⊢
      -- what is told
      refine ⟨_, rfl, _, rfl, _, rfl, vS, .ref pP, x, gs, page, fl, ds, rfl, SE x20, hLog, dp_sm x20.all dx, by rw [efs]; exact hfl, eds, fun v H21 s21 dv => ?_⟩
      refine ⟨v, .tuple ds, rfl, .inl ⟨.d _, .d dv, rfl⟩, D1, D2, D3, ?_⟩
      refine ⟨_, rfl, .ref td, .tuple ds, rfl, .inl ⟨.d _, .d (dp_sm s21 dD), rfl⟩, D1, D2, D3, ?_⟩
      refine ⟨rfl, _, rfl, ite_no' (by rw [decide_eq_true rfl]; rfl) ?_⟩
      have x21 := x20.step s21
      -- what is none
      refine ⟨3, rfl, by decide, by decide, for_range (lo := 0) (n := 3)
        (fun k σ H' => ∃ a9 a10 a11 : Option V, σ = [some (.ref J), some (.ref p), some vS, some (.ref hm), some (.ref lS), some (.ref pP), some (.ref lF), some x, some (.ref td), a9, a10, a11] ∧ Sce J H (c + 300 + 12 * i + 4 * k) [J] (dls [J] H17) H')
        ⟨_, _, _, rfl, x21⟩ ?_ ?_⟩
      · rintro k σ H22 hk ⟨a9, a10, a11, rfl, x22⟩
        refine ⟨_, rfl, _, rfl, J, x, fl, _, rfl, x22.jar, by omega, dp_sm x22.all dx, flo, fl3, fun v H23 k23 j23 ov => ?_⟩
        have x23 := x22.call k23 j23
        obtain ⟨xw, dw, rx, ex, sh, wt, dp, nof⟩ : ∃ (xw : Wv) (dw : PyData), RW P w K H23 v xw ∧ reprOf xw = some dw ∧ shB dw = true ∧ wtS dw ≤ 1000000 ∧ dw.depth ≤ 20 ∧ (((fs.map fun f => PyData.str (fillD f).shown).any fun z => PyData.eqv z (.str dw.shown)) = false → ∀ {H' : Hp}, Sm H23 H' → NoFill K H' v fs) := by
          rcases ov with ⟨d, hd, g⟩ | ⟨a, rfl, ha⟩
          · exact ⟨.d d, d, .d (dp_sm (dls_sm _ _) hd), rfl, g.sh, by have := g.wt; omega, by have := g.dp; omega, fun h {H'} s => .inl ⟨d, dp_sm ((dls_sm _ _).trans s) hd, g.pl, notin_no h⟩⟩
          · exact ⟨.dk [], .dict [], .dk ha .nil, rfl, rfl, by decide, by decide, fun h {H'} s => .inr ⟨a, [], rfl, s _ _ ha⟩⟩
        refine ⟨_, rfl, v, dw, rfl, .inl ⟨xw, rx, ex⟩, sh, wt, dp, ?_⟩
        refine reprs_ok (x23.at hF17) (dpa_sm x23.all dF17) FS fun D H24 s24 hD => ?_
        have dst : ∀ gs' : List (List Str), DpAll K H24 (gs'.map fun f => V.str (fillD f).shown) (gs'.map fun f => PyData.str (fillD f).shown) := fun gs' => by
          induction gs' with
          | nil => exact .nil
          | cons z zs ih => exact .cons (.str _) ih
        have ep : (fs.map fun f => PyData.str (fillD f).shown) = (fs.map fun f => (fillD f).shown).map .str := by rw [List.map_map]; rfl
        refine ⟨.str dw.shown, fs.map fun f => .str (fillD f).shown, .str _, .inr (.lst (SqL.of hD) (dst fs)), rfl, by rw [ep]; exact plainAll_strs _, by rw [ep, depthAll_strs]; simp, ?_⟩
        cases hany : (fs.map fun f => PyData.str (fillD f).shown).any fun z => PyData.eqv z (.str dw.shown) with
        | true => exact ⟨_, rfl, ite_no' rfl (ite_no ⟨_, _, _, rfl, (x23.step s24).up (by omega)⟩)⟩
        | false =>
          refine ⟨_, rfl, ite_yes' rfl ?_⟩
          have rx' := rw_sm s24 rx
          refine ⟨_, rfl, _, rfl, _, rfl, vS, .ref pP, v, gs, page, xw, dw, rfl, SE (x23.step s24), hLog, by rw [efs]; exact nof hany s24, rx', ex, sh, wt, dp, fun H25 s25 => ?_⟩
          exact ⟨_, rfl, ite_no ⟨_, _, _, rfl, ((x23.step s24).step s25).up (by omega)⟩⟩
      · rintro σ H22 ⟨a9, a10, a11, rfl, x22⟩
        exact ⟨_, _, _, _, _, rfl, x22.up (by omega)⟩
    · rintro σ H18 ⟨a7, a8, a9, a10, a11, rfl, x19⟩
      exact q _ (x19.jar.up (by omega)) x19.kp
end
end KW
namespace KW
open PySem PySem.Spec PyProof.Rows L2 KZ KS KP DC LamX
/-! the law -/
abbrev NLaw : List Str := ["_law_script", "_law_k", "_law_jar_here", "_law_turn"]
theorem sql_turn {K : PySem.W.Frag} {J a : Addr} {xs : List V} {H H1 H2 : Hp} (h : SqL K H a xs) (nJ : H J = none) (sm : Sm H H1) (x : Kp J H1 H2) : SqL K H2 a xs := by
  rcases h with (h | ⟨o, h⟩) | h
  · exact .inl (.inl (x _ _ (sm _ _ h) (ne_of_none h nJ)))
  · exact .inl (.inr ⟨o, x _ _ (sm _ _ h) (ne_of_none h nJ)⟩)
  · exact .inr h
def spLaw (K : PySem.W.Frag) : Sp := fun vs H Q _ => ∃ (a : Addr) (ns : List Int), vs = [.ref a] ∧ SqL K H a (ns.map V.int) ∧ ns.length ≤ 63 ∧ ∀ H', Q (.bl true) H'
theorem scLaw : FnScope NLaw ["_law_script"] (defScope (topAt iLaw)) := ⟨rfl, rfl, rfl, by decide +kernel, rfl, by decide +kernel, by decide +kernel⟩
section
variable {P : Program} {w : World} {K : PySem.W.Frag} {mg : Str → Option Value} {base : Heap}
theorem ok_law {f fJ fR : Addr} {fd fdJ fdR : FuncData} (F : Fd K iLaw "law" f fd) (GJ : FnOk P w K mg base CX0 1 fJ fdJ ["_law_script", "_law_k"] (spJar K)) (bJ : Binds K fdJ ["_law_script", "_law_k"] []) (kJ : PySem.W.keepIn K (.ref fJ) = true) (gJ : mg "_law_jar" = some (.ref fJ))
    (GR : FnG P w K mg base 9 fR fdR ["_law_jar_here"] spRight) (bR : Binds K fdR ["_law_jar_here"] []) (kR : PySem.W.keepIn K (.ref fR) = true) (gR : mg "_law_right" = some (.ref fR)) (gr : mg "range" = none) (gx : mg "max" = none) (gn : mg "min" = none) (gl : mg "len" = none) (gA : mg "all" = none) :
    FnG P w K mg base 10 f fd ["_law_script"] (spLaw K) := by
  refine fnG_of F scLaw (fun vs H Q E h => ?_) (fun cdv A outer s H vs Q E hg hr h => ?_)
  · obtain ⟨a, ns, rfl, _⟩ := h
    rfl
  · obtain ⟨a, ns, rfl, hS, hl, q⟩ := h
    have hr1 := hr.mono (show 1 ≤ 9 by decide)
    have hgA := deeper_guards (env := envOfC "law" (defScope (topAt iLaw)) s.heap.objs.size f cdv) hg
    refine ⟨_, PSs.nox (pss_cons (ps_for PassesOwn.never rfl
        (pi_range1 rfl gr (pa_cons (pe_callB (call_max2 rfl) (by rfl) gx PyProof.Rows.boot_max (pa_cons pe_int (pa_cons (pe_callB (call_min2 rfl) (by rfl) gn PyProof.Rows.boot_min (pa_cons pe_int (pa_cons (pe_callB call_len_seq (by rfl) gl PySem.boot_len (pa_cons (pv 0) pa_nil)) pa_nil))) pa_nil))) pa_nil))
        (pg_name (i := 1) scLaw.nd rfl (Or.inl rfl))
        (pss_cons (ps_set (i := 2) scLaw.nd rfl (Or.inr rfl) (pe_call GJ hr1 rfl gJ kJ bJ .nil pass0 (pa_cons (pv 0) (pa_cons (pv 1) pa_nil))))
        (pss_one (ps_if (pt_not (pt_val (pe_callB (cr_all rfl) (by rfl) gA PyProof.Rows.boot_all (pa_cons (pe_lc (own := [("_law_turn", 3)]) (g := gName 3) (tt := tYes) rfl scLaw.nd
            (pi_range1 rfl gr (pa_cons pe_int pa_nil)) (blkOk_by (N := NLaw) (sc := defScope (topAt iLaw)) (by decide +kernel)) (fun _ _ _ _ _ => pg_name (i := 3) scLaw.nd rfl (Or.inl rfl)) (fun _ _ _ _ _ => pts_nil)
            (fun _ _ _ _ _ => pe_callG GR hgA hr rfl gR kR bR (pa_cons (pv 2) pa_nil))) pa_nil)))) (pss_one (ps_ret pe_bl)) pss_nil))))
      (pss_one (ps_ret pe_bl))), ?_⟩
    refine ⟨_, rfl, a, _, rfl, .inl hS, _, _, rfl, _, _, rfl, ?_⟩
    have nlen : (ns.map V.int).length = ns.length := List.length_map ..
    rw [nlen]
    have lo : ∀ m : Int, 0 ≤ m → 1 ≤ (if (if m < 3 then m else 3) > 1 then (if m < 3 then m else 3) else 1) ∧ (if (if m < 3 then m else 3) > 1 then (if m < 3 then m else 3) else 1) ≤ 3 := fun m hm => by
      by_cases h3 : m < 3
      · rw [if_pos h3]
        by_cases h1 : m > 1
        · rw [if_pos h1]
          omega
        · rw [if_neg h1]
          omega
      · rw [if_neg h3]
        decide
    obtain ⟨lo1, lo3⟩ := lo (ns.length : Int) (by omega)
    generalize (if (if (ns.length : Int) < 3 then (ns.length : Int) else 3) > 1 then (if (ns.length : Int) < 3 then (ns.length : Int) else 3) else 1) = m at lo1 lo3 ⊢
    refine ⟨m, rfl, by omega, by omega, for_range (lo := 0) (n := m.toNat)
      (fun n σ H' => ∃ a1 a2 a3 : Option V, σ = [some (.ref a), a1, a2, a3] ∧ SqL K H' a (ns.map V.int)) ⟨_, _, _, rfl, hS⟩ ?_ ?_⟩
    · rintro n σ H1 hn ⟨a1, a2, a3, rfl, hS1⟩
      refine ⟨_, rfl, _, rfl, a, ns, n, (by rw [Int.zero_add]; rfl), hS1, hl, by omega, fun J H2 nJ sm jar => ?_⟩
      have hS2 := sql_turn hS1 nJ sm (Kp.refl J H2)
      have aJ : ∀ {o : HO}, H1 a = some o → a ≠ J := fun e => ne_of_none e nJ
      refine ⟨2, rfl, by decide, by decide, fun D nD => lc_range (lo := 0) (n := (2 : Int).toNat)
        (fun k H' => H' D = some (.lst ((List.replicate k true).map V.bl)) ∧ Jar J H' (1000 * k) ∧ (∀ b o, H2 b = some o → b ≠ J → H' b = some o)) ⟨upd_same, ?_, fun b o e ne => ?_⟩ ?_ ?_⟩
      · exact jar.new nD
      · rw [upd_ne (ne_of_none e nD)]
        exact e
      · rintro k H3 hk ⟨hD, j3, keep⟩
        have hk2 : k < 2 := hk
        refine ⟨rfl, ?_⟩
        refine ⟨_, rfl, J, 1000 * k, rfl, j3, by omega, fun H4 j4 kp4 => ?_⟩
        have DJ : D ≠ J := fun e => by
          obtain ⟨_, _, _, e2, _⟩ := jar
          rw [e, e2] at nD
          cases nD
        have hD4 : H4 D = some (.lst ((List.replicate k true).map V.bl)) := kp4 _ _ hD DJ
        refine ⟨_, hD4, by rw [List.length_map, List.length_replicate, sizeLine_eq]; omega, ?_, ?_, fun b o e ne => ?_⟩
        · rw [upd_same, List.replicate_succ', List.map_append]
          rfl
        · exact (j4.up (by omega)).put DJ
        · rw [upd_ne (ne_of_none e nD)]
          exact kp4 _ _ (keep b o e ne) ne
      · rintro H3 ⟨hD, j3, keep⟩
        refine ⟨D, _, rfl, SqL.of hD, ?_⟩
        have : ((List.replicate (2 : Int).toNat true).all id) = true := by simp
        rw [this]
        refine ⟨_, rfl, ite2 (fun z => absurd z (by simp)) (fun _ => ?_)⟩
        refine ⟨_, _, _, rfl, ?_⟩
        exact sql_turn (H1 := H2) hS1 nJ sm keep
    · rintro σ H1 ⟨a1, a2, a3, rfl, hS1⟩
      exact q H1
end
end KW
namespace KW
open PySem PySem.Spec PyProof.Rows L2 KZ KS KP DC
/-! BadFilling's __init__ -/
abbrev iBadFilling : Nat := 6
theorem scErrO : FnScope ["self", "value"] ["self", "value"] (defScope (inClass (topAt iBadFilling) 0)) := ⟨rfl, rfl, rfl, by decide +kernel, rfl, by decide +kernel, by decide +kernel⟩
section
variable {P : Program} {w : World} {K : PySem.W.Frag} {mg : Str → Option Value} {base : Heap}
/-- what stands of an error's class, but its __init__ -/
structure ErT (K : PySem.W.Frag) (mg : Str → Option Value) (x : Str) (C : Addr) : Prop where
  gC : mg x = some (.ref C)
  ox : OexC K C
  no : PySem.W.findIn K (.ref C) "value" = some none
  ga : PySem.W.findIn K (.ref C) "__getattribute__" = some (some (.builtin "BaseException.__getattribute__"))
  gg : PySem.W.findIn K (.ref C) "__getattr__" = some none
  hdC : PySem.W.hasDictIn K C = true
  gc : PySem.W.findIn K (.ref C) "__class__" = some (some (.builtin "object.__class__"))
  mo : PySem.W.mroIn K C (.type "object") = some true
  sg : PySem.W.specialIn K (.builtin "object.__class__") "__get__" = some (some (.builtin "getset_descriptor.__get__"))
  tk : PySem.W.takesIn K (.builtin "object.__class__") = some true
theorem er_ofBadFilling {x : Str} {C : Addr} (T : ErT K mg x C)
    (M : ∃ f fd, FunD K "__init__" (x ++ ".__init__") (defArgs (inClass (topAt iBadFilling) 0)) (defBody (inClass (topAt iBadFilling) 0)) (defScope (inClass (topAt iBadFilling) 0)) [] [] f fd ∧ PySem.W.findIn K (.ref C) "__init__" = some (some (.ref f)) ∧ PySem.W.typeIn K (.ref f) = some (.type "function")) :
    Er P w K mg base x "value" C := by
  obtain ⟨f, fd, F, h1, h2⟩ := M
  refine ⟨T.gC, T.ox, T.no, T.ga, T.gg, T.hdC, T.gc, T.mo, T.sg, T.tk, f, fd, h1, h2, F.ok scErrO (fun vs H Q E z => ?_) (fun cdv A outer s H vs Q E hr z => ?_), fun s a u => ?_, fun s a u => ?_⟩
  · obtain ⟨a, v, rfl, _⟩ := z
    rfl
  · obtain ⟨a, v, rfl, ea, k⟩ := z
    exact ⟨_, pss_one (ps_ost (pe_var (i := 0) rfl (.inl rfl)) (pe_var (i := 1) rfl (.inl rfl))), _, rfl, _, rfl, a, C, rfl, T.ox, T.no, .inl ⟨ea, fun dx n ne => k dx n ne⟩⟩
  · obtain ⟨oc, od, dV, kV, doc, pm, an, cdv, ct, osl, rfl, lk, hcd, hD, hK⟩ := F.ex
    rcases hD with ⟨_, rfl⟩ | ⟨e, _⟩
    · exact .of_eq rfl
    · exact absurd rfl e
  · obtain ⟨oc, od, dV, kV, doc, pm, an, cdv, ct, osl, rfl, lk, hcd, hD, hK⟩ := F.ex
    rcases hD with ⟨_, rfl⟩ | ⟨e, _⟩
    · exact .of_eq rfl
    · exact absurd rfl e
end
end KW
namespace KW
open PySem PySem.Spec PyProof.Rows L2 KZ KS KP DC LamX KH
theorem oexB_ok {K : PySem.W.Frag} {C : Addr} (h : oexB K C = true) : ∃ nm q N bs bm sn sub ab col dd k0 k1 k2 k3 k5, K.lookup C = some (excClassObj nm q C N bs bm true sn sub ab col dd k0 k1 k2 k3 k5 "ValueError.__new__") ∧ PySem.HandSPX.refsVE bm = true := by
  unfold oexB at h
  split at h
  · rename_i ty dd cd sl e
    split at h
    · rename_i B bm k0 k1 k2 k3 n k5 e1 e2
      simp only [Bool.and_eq_true, beq_iff_eq, Bool.not_eq_true'] at h
      obtain ⟨y1, y2, y3, y4, y5, y6⟩ := h
      subst y1 y2 y3
      obtain ⟨nm, bs, mro, ns, qn, hd, sn, sub, ab, col, del⟩ := cd
      dsimp only at e1 y4 y5
      subst e1 y4 y5
      have sl' : sl = #[k0, k1, k2, k3, some (.builtin "ValueError.__new__"), k5] := by
        have z := congrArg List.toArray e2
        simpa using z
      subst sl'
      exact ⟨nm, qn, ns, bs, bm, sn, sub, ab, col, dd, k0, k1, k2, k3, k5, e, y6⟩
    · cases h
  · cases h
structure ErrF (K : PySem.W.Frag) (x f : Str) : Prop where
  ox : OexC K (He.ga K x)
  no : PySem.W.findIn K (.ref (He.ga K x)) f = some none
  iC : PySem.W.findIn K (.ref (He.ga K x)) "__init__" = some (some (.ref (He.ma K (He.ga K x) "__init__")))
  tI : PySem.W.typeIn K (.ref (He.ma K (He.ga K x) "__init__")) = some (.type "function")
  ga : PySem.W.findIn K (.ref (He.ga K x)) "__getattribute__" = some (some (.builtin "BaseException.__getattribute__"))
  gg : PySem.W.findIn K (.ref (He.ga K x)) "__getattr__" = some none
  gc : PySem.W.findIn K (.ref (He.ga K x)) "__class__" = some (some (.builtin "object.__class__"))
  mo : PySem.W.mroIn K (He.ga K x) (.type "object") = some true
  kV : PySem.W.kitOne K (.ref (He.ga K x)) (.type "ValueError") = some true
  ex : PySem.W.exmOne K (.ref (He.ga K x)) (.ref (He.ga K "SpoilError")) = some true
  hd : PySem.W.hasDictIn K (He.ga K x) = true
theorem errB_ok {K : PySem.W.Frag} {x f : Str} (h : errB K x f = true) : ErrF K x f := by
  unfold errB at h
  dsimp only at h
  obtain ⟨y1, h⟩ := He.ba h
  obtain ⟨y2, h⟩ := He.ba h
  obtain ⟨y3, h⟩ := He.ba h
  obtain ⟨y4, h⟩ := He.ba h
  obtain ⟨y5, h⟩ := He.ba h
  obtain ⟨y6, h⟩ := He.ba h
  obtain ⟨y7, h⟩ := He.ba h
  obtain ⟨y8, h⟩ := He.ba h
  obtain ⟨y9, h⟩ := He.ba h
  obtain ⟨y10, h⟩ := He.ba h
  obtain ⟨y11, h⟩ := He.ba h
  obtain ⟨y12, h⟩ := He.ba h
  obtain ⟨y13, h⟩ := He.ba h
  obtain ⟨y14, y15⟩ := He.ba h
  exact ⟨⟨oexB_ok y1, He.eqO_ok y2, of_decide_eq_true y3, of_decide_eq_true y4, y5⟩, He.eqO_ok y6, He.eqO_ok y7, of_decide_eq_true y8, He.eqO_ok y9, He.eqO_ok y10, He.eqO_ok y11, of_decide_eq_true y12, of_decide_eq_true y13, of_decide_eq_true y14, y15⟩
theorem sys_ok {K : PySem.W.Frag} (h : sysB K = true) : SysD K := by
  unfold sysB at h
  split at h
  · rename_i c d dt sl e
    exact ⟨_, e, congrArg Value.type (of_decide_eq_true h)⟩
  · cases h
theorem facts {w : World} {mg : Str → Option Value} {fL : Addr} {h : Heap} {K : PySem.W.Frag} (X : K.In h) (G : h.Ns mainGlobals mg) (hL : mg "law" = some (.ref fL)) (c : SaysZ w h K) : AtG PySem.Challenge.rw_spoilorder_k05_letters_in_their_order w K 10 63 "_law_script" mg fL h := by
  obtain ⟨c, cp⟩ := c
  have cd := c.t.d
  have mo := c.more
  obtain ⟨eb, mo⟩ := He.ba mo
  obtain ⟨pb, mo⟩ := He.ba mo
  obtain ⟨sg, mo⟩ := He.ba mo
  obtain ⟨tk, mo⟩ := He.ba mo
  obtain ⟨sy, mo⟩ := He.ba mo
  obtain ⟨tp_TOLD_OUTCOMES, mo⟩ := He.ba mo
  obtain ⟨tp_UNTOLD_OUTCOMES, mo⟩ := He.ba mo
  have pr := mo
  have three_at : ∀ k, k < 1 → k ∈ three := fun k hk => List.mem_range.mpr hk
  have er : ∀ k, k < 1 → ErrF K (errName k) "value" := fun k hk => errB_ok (List.all_eq_true.mp eb k (three_at k hk))
  have ki : ∀ k < 1, ∀ j < 1, PySem.W.kitOne K (.ref (He.ga K (errName k))) (.ref (He.ga K (errName j))) = some (decide (j = k)) := fun k hk j hj => of_decide_eq_true (List.all_eq_true.mp (List.all_eq_true.mp pb k (three_at k hk)) j (three_at j hj))
  clear pr cp
  have z_ValueError := He.free_ok X G (cd.fact 43 (f := .free "ValueError") rfl)
  have z_abs := He.free_ok X G (cd.fact 44 (f := .free "abs") rfl)
  have z_all := He.free_ok X G (cd.fact 45 (f := .free "all") rfl)
  have z_bool := He.free_ok X G (cd.fact 46 (f := .free "bool") rfl)
  have z_dict := He.free_ok X G (cd.fact 47 (f := .free "dict") rfl)
  have z_enumerate := He.free_ok X G (cd.fact 48 (f := .free "enumerate") rfl)
  have z_int := He.free_ok X G (cd.fact 49 (f := .free "int") rfl)
  have z_isinstance := He.free_ok X G (cd.fact 50 (f := .free "isinstance") rfl)
  have z_len := He.free_ok X G (cd.fact 51 (f := .free "len") rfl)
  have z_list := He.free_ok X G (cd.fact 52 (f := .free "list") rfl)
  have z_max := He.free_ok X G (cd.fact 53 (f := .free "max") rfl)
  have z_min := He.free_ok X G (cd.fact 54 (f := .free "min") rfl)
  have z_range := He.free_ok X G (cd.fact 55 (f := .free "range") rfl)
  have z_repr := He.free_ok X G (cd.fact 56 (f := .free "repr") rfl)
  have z_set := He.free_ok X G (cd.fact 57 (f := .free "set") rfl)
  have z_sorted := He.free_ok X G (cd.fact 58 (f := .free "sorted") rfl)
  have z_str := He.free_ok X G (cd.fact 59 (f := .free "str") rfl)
  have z_tuple := He.free_ok X G (cd.fact 60 (f := .free "tuple") rfl)
  have z_zip := He.free_ok X G (cd.fact 61 (f := .free "zip") rfl)
  obtain ⟨t_MOST_EVENTS, i_MOST_EVENTS⟩ := He.int_ok X G (cd.fact 62 (f := .int "MOST_EVENTS" 30) rfl)
  obtain ⟨t_MOST_WORKERS, i_MOST_WORKERS⟩ := He.int_ok X G (cd.fact 63 (f := .int "MOST_WORKERS" 3) rfl)
  obtain ⟨t_MOST_ITEMS, i_MOST_ITEMS⟩ := He.int_ok X G (cd.fact 64 (f := .int "MOST_ITEMS" 5) rfl)
  obtain ⟨t_MOST_UNTOLD, i_MOST_UNTOLD⟩ := He.int_ok X G (cd.fact 65 (f := .int "MOST_UNTOLD" 3) rfl)
  obtain ⟨t_MOST_CHECKS_OF_GROUP, i_MOST_CHECKS_OF_GROUP⟩ := He.int_ok X G (cd.fact 66 (f := .int "MOST_CHECKS_OF_GROUP" 4) rfl)
  obtain ⟨t_MOST_GROUPS, i_MOST_GROUPS⟩ := He.int_ok X G (cd.fact 67 (f := .int "MOST_GROUPS" 3) rfl)
  obtain ⟨t_MOST_CHECKS, i_MOST_CHECKS⟩ := He.int_ok X G (cd.fact 68 (f := .int "MOST_CHECKS" 5) rfl)
  obtain ⟨t_LAST_EDITION, i_LAST_EDITION⟩ := He.int_ok X G (cd.fact 69 (f := .int "LAST_EDITION" 9) rfl)
  obtain ⟨t_LONGEST_NAME, i_LONGEST_NAME⟩ := He.int_ok X G (cd.fact 70 (f := .int "LONGEST_NAME" 8) rfl)
  obtain ⟨t_AL, i_AL⟩ := He.str_ok X G (cd.fact 71 (f := .str "ALPHABET" small) rfl)
  obtain ⟨fd10, F10⟩ := cd.def_ 0 (d := defD 10 "is_integer") rfl
  have g10 := He.glo_ok X G (cd.fact 0 (f := .glo "is_integer") rfl)
  have FG10 : FG K mg 10 "is_integer" := ⟨_, fd10, F10, g10⟩
  obtain ⟨fd11, F11⟩ := cd.def_ 1 (d := defD 11 "is_name") rfl
  have g11 := He.glo_ok X G (cd.fact 1 (f := .glo "is_name") rfl)
  have FG11 : FG K mg 11 "is_name" := ⟨_, fd11, F11, g11⟩
  obtain ⟨fd12, F12⟩ := cd.def_ 2 (d := defD 12 "is_row") rfl
  have g12 := He.glo_ok X G (cd.fact 2 (f := .glo "is_row") rfl)
  have FG12 : FG K mg 12 "is_row" := ⟨_, fd12, F12, g12⟩
  obtain ⟨fd13, F13⟩ := cd.def_ 3 (d := defD 13 "ascends") rfl
  have g13 := He.glo_ok X G (cd.fact 3 (f := .glo "ascends") rfl)
  have FG13 : FG K mg 13 "ascends" := ⟨_, fd13, F13, g13⟩
  obtain ⟨fd21, F21⟩ := cd.def_ 4 (d := defD 21 "is_log") rfl
  have g21 := He.glo_ok X G (cd.fact 4 (f := .glo "is_log") rfl)
  have FG21 : FG K mg 21 "is_log" := ⟨_, fd21, F21, g21⟩
  obtain ⟨fd22, F22⟩ := cd.def_ 5 (d := defD 22 "letters") rfl
  have g22 := He.glo_ok X G (cd.fact 5 (f := .glo "letters") rfl)
  have FG22 : FG K mg 22 "letters" := ⟨_, fd22, F22, g22⟩
  obtain ⟨fd23, F23⟩ := cd.def_ 6 (d := defD 23 "check_log") rfl
  have g23 := He.glo_ok X G (cd.fact 6 (f := .glo "check_log") rfl)
  have FG23 : FG K mg 23 "check_log" := ⟨_, fd23, F23, g23⟩
  obtain ⟨fd24, F24⟩ := cd.def_ 7 (d := defD 24 "check_filling") rfl
  have g24 := He.glo_ok X G (cd.fact 7 (f := .glo "check_filling") rfl)
  have FG24 : FG K mg 24 "check_filling" := ⟨_, fd24, F24, g24⟩
  obtain ⟨fd25, F25⟩ := cd.def_ 8 (d := defD 25 "has_room") rfl
  have g25 := He.glo_ok X G (cd.fact 8 (f := .glo "has_room") rfl)
  have FG25 : FG K mg 25 "has_room" := ⟨_, fd25, F25, g25⟩
  obtain ⟨fd26, F26⟩ := cd.def_ 9 (d := defD 26 "is_event") rfl
  have g26 := He.glo_ok X G (cd.fact 9 (f := .glo "is_event") rfl)
  have FG26 : FG K mg 26 "is_event" := ⟨_, fd26, F26, g26⟩
  obtain ⟨fd27, F27⟩ := cd.def_ 10 (d := defD 27 "workers_of") rfl
  have g27 := He.glo_ok X G (cd.fact 10 (f := .glo "workers_of") rfl)
  have FG27 : FG K mg 27 "workers_of" := ⟨_, fd27, F27, g27⟩
  obtain ⟨fd28, F28⟩ := cd.def_ 11 (d := defD 28 "items_of") rfl
  have g28 := He.glo_ok X G (cd.fact 11 (f := .glo "items_of") rfl)
  have FG28 : FG K mg 28 "items_of" := ⟨_, fd28, F28, g28⟩
  obtain ⟨fd29, F29⟩ := cd.def_ 12 (d := defD 29 "untold_of") rfl
  have g29 := He.glo_ok X G (cd.fact 12 (f := .glo "untold_of") rfl)
  have FG29 : FG K mg 29 "untold_of" := ⟨_, fd29, F29, g29⟩
  obtain ⟨fd30, F30⟩ := cd.def_ 13 (d := defD 30 "fillings_of") rfl
  have g30 := He.glo_ok X G (cd.fact 13 (f := .glo "fillings_of") rfl)
  have FG30 : FG K mg 30 "fillings_of" := ⟨_, fd30, F30, g30⟩
  obtain ⟨fd31, F31⟩ := cd.def_ 14 (d := defD 31 "told_of") rfl
  have g31 := He.glo_ok X G (cd.fact 14 (f := .glo "told_of") rfl)
  have FG31 : FG K mg 31 "told_of" := ⟨_, fd31, F31, g31⟩
  obtain ⟨fd32, F32⟩ := cd.def_ 15 (d := defD 32 "letters_of") rfl
  have g32 := He.glo_ok X G (cd.fact 15 (f := .glo "letters_of") rfl)
  have FG32 : FG K mg 32 "letters_of" := ⟨_, fd32, F32, g32⟩
  obtain ⟨fd33, F33⟩ := cd.def_ 16 (d := defD 33 "run_letters") rfl
  have g33 := He.glo_ok X G (cd.fact 16 (f := .glo "run_letters") rfl)
  have FG33 : FG K mg 33 "run_letters" := ⟨_, fd33, F33, g33⟩
  obtain ⟨fd34, F34⟩ := cd.def_ 17 (d := defD 34 "_is_untold") rfl
  have g34 := He.glo_ok X G (cd.fact 17 (f := .glo "_is_untold") rfl)
  have FG34 : FG K mg 34 "_is_untold" := ⟨_, fd34, F34, g34⟩
  obtain ⟨fd35, F35⟩ := cd.def_ 18 (d := defD 35 "_tellings") rfl
  have g35 := He.glo_ok X G (cd.fact 18 (f := .glo "_tellings") rfl)
  have FG35 : FG K mg 35 "_tellings" := ⟨_, fd35, F35, g35⟩
  obtain ⟨fd36, F36⟩ := cd.def_ 19 (d := defD 36 "_opened_behind") rfl
  have g36 := He.glo_ok X G (cd.fact 19 (f := .glo "_opened_behind") rfl)
  have FG36 : FG K mg 36 "_opened_behind" := ⟨_, fd36, F36, g36⟩
  obtain ⟨fd43, F43⟩ := cd.def_ 20 (d := defD 43 "_are_groups") rfl
  have g43 := He.glo_ok X G (cd.fact 20 (f := .glo "_are_groups") rfl)
  have FG43 : FG K mg 43 "_are_groups" := ⟨_, fd43, F43, g43⟩
  obtain ⟨fd44, F44⟩ := cd.def_ 21 (d := defD 44 "_is_group_row") rfl
  have g44 := He.glo_ok X G (cd.fact 21 (f := .glo "_is_group_row") rfl)
  have FG44 : FG K mg 44 "_is_group_row" := ⟨_, fd44, F44, g44⟩
  obtain ⟨fd45, F45⟩ := cd.def_ 22 (d := defD 45 "_are_checks") rfl
  have g45 := He.glo_ok X G (cd.fact 22 (f := .glo "_are_checks") rfl)
  have FG45 : FG K mg 45 "_are_checks" := ⟨_, fd45, F45, g45⟩
  obtain ⟨fd47, F47⟩ := cd.def_ 23 (d := defD 47 "_law_jar") rfl
  have g47 := He.glo_ok X G (cd.fact 23 (f := .glo "_law_jar") rfl)
  have FG47 : FG K mg 47 "_law_jar" := ⟨_, fd47, F47, g47⟩
  obtain ⟨fd48, F48⟩ := cd.def_ 24 (d := defD 48 "_law_take") rfl
  have g48 := He.glo_ok X G (cd.fact 24 (f := .glo "_law_take") rfl)
  have FG48 : FG K mg 48 "_law_take" := ⟨_, fd48, F48, g48⟩
  obtain ⟨fd49, F49⟩ := cd.def_ 25 (d := defD 49 "_law_of") rfl
  have g49 := He.glo_ok X G (cd.fact 25 (f := .glo "_law_of") rfl)
  have FG49 : FG K mg 49 "_law_of" := ⟨_, fd49, F49, g49⟩
  obtain ⟨fd50, F50⟩ := cd.def_ 26 (d := defD 50 "_law_names") rfl
  have g50 := He.glo_ok X G (cd.fact 26 (f := .glo "_law_names") rfl)
  have FG50 : FG K mg 50 "_law_names" := ⟨_, fd50, F50, g50⟩
  obtain ⟨fd51, F51⟩ := cd.def_ 27 (d := defD 51 "_law_groups") rfl
  have g51 := He.glo_ok X G (cd.fact 27 (f := .glo "_law_groups") rfl)
  have FG51 : FG K mg 51 "_law_groups" := ⟨_, fd51, F51, g51⟩
  obtain ⟨fd52, F52⟩ := cd.def_ 28 (d := defD 52 "_law_home") rfl
  have g52 := He.glo_ok X G (cd.fact 28 (f := .glo "_law_home") rfl)
  have FG52 : FG K mg 52 "_law_home" := ⟨_, fd52, F52, g52⟩
  obtain ⟨fd53, F53⟩ := cd.def_ 29 (d := defD 53 "_law_items") rfl
  have g53 := He.glo_ok X G (cd.fact 29 (f := .glo "_law_items") rfl)
  have FG53 : FG K mg 53 "_law_items" := ⟨_, fd53, F53, g53⟩
  obtain ⟨fd54, F54⟩ := cd.def_ 30 (d := defD 54 "_law_any_log") rfl
  have g54 := He.glo_ok X G (cd.fact 30 (f := .glo "_law_any_log") rfl)
  have FG54 : FG K mg 54 "_law_any_log" := ⟨_, fd54, F54, g54⟩
  obtain ⟨fd55, F55⟩ := cd.def_ 31 (d := defD 55 "_law_brought") rfl
  have g55 := He.glo_ok X G (cd.fact 31 (f := .glo "_law_brought") rfl)
  have FG55 : FG K mg 55 "_law_brought" := ⟨_, fd55, F55, g55⟩
  obtain ⟨fd56, F56⟩ := cd.def_ 32 (d := defD 56 "_law_fills") rfl
  have g56 := He.glo_ok X G (cd.fact 32 (f := .glo "_law_fills") rfl)
  have FG56 : FG K mg 56 "_law_fills" := ⟨_, fd56, F56, g56⟩
  obtain ⟨fd57, F57⟩ := cd.def_ 33 (d := defD 57 "_law_odd") rfl
  have g57 := He.glo_ok X G (cd.fact 33 (f := .glo "_law_odd") rfl)
  have FG57 : FG K mg 57 "_law_odd" := ⟨_, fd57, F57, g57⟩
  obtain ⟨fd58, F58⟩ := cd.def_ 34 (d := defD 58 "_law_is_refused") rfl
  have g58 := He.glo_ok X G (cd.fact 34 (f := .glo "_law_is_refused") rfl)
  have FG58 : FG K mg 58 "_law_is_refused" := ⟨_, fd58, F58, g58⟩
  obtain ⟨fd59, F59⟩ := cd.def_ 35 (d := defD 59 "_law_others") rfl
  have g59 := He.glo_ok X G (cd.fact 35 (f := .glo "_law_others") rfl)
  have FG59 : FG K mg 59 "_law_others" := ⟨_, fd59, F59, g59⟩
  obtain ⟨fd60, F60⟩ := cd.def_ 36 (d := defD 60 "_law_right") rfl
  have g60 := He.glo_ok X G (cd.fact 36 (f := .glo "_law_right") rfl)
  have FG60 : FG K mg 60 "_law_right" := ⟨_, fd60, F60, g60⟩
  obtain ⟨fd61, F61⟩ := cd.def_ 37 (d := defD 61 "law") rfl
  have g61 := He.glo_ok X G (cd.fact 37 (f := .glo "law") rfl)
  have FG61 : FG K mg 61 "law" := ⟨_, fd61, F61, g61⟩
  have MS_group_of : FM K (He.ga K "Shop") iShop 4 "Shop" "group_of" := by
    obtain ⟨fd, F⟩ := cd.def_ 38 (d := metD 42 4 "Shop" "group_of") rfl
    exact ⟨_, fd, F, He.meth_ok (cd.fact 77 (f := .meth "Shop" "group_of") rfl)⟩
  have MS_is_item : FM K (He.ga K "Shop") iShop 5 "Shop" "is_item" := by
    obtain ⟨fd, F⟩ := cd.def_ 39 (d := metD 42 5 "Shop" "is_item") rfl
    exact ⟨_, fd, F, He.meth_ok (cd.fact 78 (f := .meth "Shop" "is_item") rfl)⟩
  obtain ⟨fdSi, FSi⟩ := cd.def_ 40 (d := iniD 42 "Shop" "Shop.__init__") rfl
  have mkS := He.mkr_ok (cd.fact 73 (f := .mkr "Shop") rfl)
  have g_SpoilError := He.glo_ok X G (cd.fact 38 (f := .glo "SpoilError") rfl)
  have g_BadFilling := He.glo_ok X G (cd.fact 39 (f := .glo "BadFilling") rfl)
  have g_Shop := He.glo_ok X G (cd.fact 40 (f := .glo "Shop") rfl)
  have g_TOLD_OUTCOMES := He.glo_ok X G (cd.fact 41 (f := .glo "TOLD_OUTCOMES") rfl)
  have g_UNTOLD_OUTCOMES := He.glo_ok X G (cd.fact 42 (f := .glo "UNTOLD_OUTCOMES") rfl)
  have TS : ShopT K (He.ga K "Shop") := ⟨He.cls_ok (cd.fact 72 (f := .cls "Shop") rfl), He.noat_ok (cd.fact 74 (f := .noat "Shop" "_groups") rfl), He.noat_ok (cd.fact 75 (f := .noat "Shop" "_homes") rfl), He.noat_ok (cd.fact 76 (f := .noat "Shop" "_checks") rfl)⟩
  have d_TOLD_OUTCOMES : ∀ H, Dp K H (.ref (He.ga K "TOLD_OUTCOMES")) (.tuple ([("cut" : Str), ("fail" : Str), ("pass" : Str), ("skip" : Str)].map .str)) := fun H => .tup (He.tupB_ok tp_TOLD_OUTCOMES H) (.cons (.str _) (.cons (.str _) (.cons (.str _) (.cons (.str _) .nil))))
  have d_UNTOLD_OUTCOMES : ∀ H, Dp K H (.ref (He.ga K "UNTOLD_OUTCOMES")) (.tuple ([("fail" : Str), ("pass" : Str), ("skip" : Str)].map .str)) := fun H => .tup (He.tupB_ok tp_UNTOLD_OUTCOMES H) (.cons (.str _) (.cons (.str _) (.cons (.str _) .nil)))
  have e := hL.symm.trans g61
  cases e
  refine ⟨fd61, [], spLaw K, fun p hp => absurd hp List.not_mem_nil, fun p hp => absurd hp List.not_mem_nil, fun p hp => absurd hp List.not_mem_nil, fun t u => ?_, fun H a ns hl hT hS => ?_, fun base XB GB TB => ?_⟩
  · exact FunD.bindsA (ps := ["_law_script"]) F61 (fun _ _ _ _ _ _ us hl => match us, hl with | [_], _ => rfl) t [u] rfl
  · exact ⟨a, ns, rfl, hS, hl, fun _ => rfl⟩
  · generalize PySem.Challenge.rw_spoilorder_k05_letters_in_their_order.prog = P
    have int : Pu P w K mg base 1 "is_integer" 3 semInt := pu_int FG10 z_isinstance z_int z_bool
    have row : Pu P w K mg base 1 "is_row" 3 semRow := pu_row FG12 z_isinstance z_tuple z_len
    have nam : Pu P w K mg base 1 "is_name" 1 semName := pu_name FG11 z_isinstance z_str z_len z_all i_AL i_LONGEST_NAME
    have asc : Pu P w K mg base 1 "ascends" 1 semAsc := pu_asc FG13 z_all z_range z_len
    have chk := pu_checks row nam asc FG45 i_MOST_CHECKS_OF_GROUP z_all
    have grr := pu_groupRow row nam chk FG44
    have grs := pu_groups row asc grr FG43 i_MOST_GROUPS i_MOST_CHECKS z_all z_len z_set
    have item := pm_item TS row int MS_is_item i_LAST_EDITION
    have gOf : Pm P w K mg base 1 (He.ga K "Shop") "group_of" 2 (semGroupOf (He.ga K "Shop")) := pm_groupOf TS MS_group_of
    have piS := pi_shop TS ⟨_, fdSi, FSi, mkS⟩ g_Shop grs z_tuple z_sorted z_list
    have erT : ∀ k, k < 1 → mg (errName k) = some (.ref (He.ga K (errName k))) → ErT K mg (errName k) (He.ga K (errName k)) := fun k hk hg => by
      have ef := er k hk
      exact ⟨hg, ef.ox, ef.no, ef.ga, ef.gg, ef.hd, ef.gc, ef.mo, He.eqO_ok sg, of_decide_eq_true tk⟩
    have er_BadFilling : Er P w K mg base "BadFilling" "value" (He.ga K "BadFilling") := by
      obtain ⟨fd, F⟩ := cd.def_ 41 (d := iniD 6 "BadFilling" ("BadFilling" ++ ".__init__")) rfl
      exact er_ofBadFilling (erT 0 (by decide) (He.glo_ok X G (cd.fact 39 (f := .glo "BadFilling") rfl))) ⟨_, fd, F, (er 0 (by decide)).iC, (er 0 (by decide)).tI⟩
    have vbT : Binds K fd48 ["_law_jar_here", "_law_many"] [] := F48.bindsN fun _ _ _ _ _ _ us hl => match us, hl with | [_, _], _ => rfl
    have vbG : Binds K fd51 ["_law_jar_here", "_law_most"] [] := F51.bindsN fun _ _ _ _ _ _ us hl => match us, hl with | [_, _], _ => rfl
    have vbH : Binds K fd52 ["_law_groups_here"] [] := F52.bindsN fun _ _ _ _ _ _ us hl => match us, hl with | [_], _ => rfl
    have vbI : Binds K fd53 ["_law_jar_here", "_law_home_here"] [] := F53.bindsN fun _ _ _ _ _ _ us hl => match us, hl with | [_, _], _ => rfl
    have vbA : Binds K fd54 ["_law_jar_here", "_law_home_here", "_law_some", "_law_workers", "_law_many"] [] := F54.bindsN fun _ _ _ _ _ _ us hl => match us, hl with | [_, _, _, _, _], _ => rfl
    have vbB : Binds K fd55 ["_law_home_here", "_law_page", "_law_fill"] [] := F55.bindsN fun _ _ _ _ _ _ us hl => match us, hl with | [_, _, _], _ => rfl
    have vbF : Binds K fd56 ["_law_home_here", "_law_page"] [] := F56.bindsN fun _ _ _ _ _ _ us hl => match us, hl with | [_, _], _ => rfl
    have vbR : Binds K fd60 ["_law_jar_here"] [] := F60.bindsN fun _ _ _ _ _ _ us hl => match us, hl with | [_], _ => rfl
    have vbJ : Binds K fd47 ["_law_script", "_law_k"] [] := F47.bindsN fun _ _ _ _ _ _ us hl => match us, hl with | [_, _], _ => rfl
    have vbTe : Binds K fd35 ["shop", "event", "opened"] [] := F35.bindsN fun _ _ _ _ _ _ us hl => match us, hl with | [_, _, _], _ => rfl
    have vbOb : Binds K fd36 ["shop", "event", "opened"] [] := F36.bindsN fun _ _ _ _ _ _ us hl => match us, hl with | [_, _, _], _ => rfl
    have vbWk : Binds K fd27 ["events"] [] := F27.bindsN fun _ _ _ _ _ _ us hl => match us, hl with | [_], _ => rfl
    have vbIt : Binds K fd28 ["events"] [] := F28.bindsN fun _ _ _ _ _ _ us hl => match us, hl with | [_], _ => rfl
    have vbUn : Binds K fd29 ["events"] [] := F29.bindsN fun _ _ _ _ _ _ us hl => match us, hl with | [_], _ => rfl
    have vbRo : Binds K fd25 ["events"] [] := F25.bindsN fun _ _ _ _ _ _ us hl => match us, hl with | [_], _ => rfl
    have vbFi : Binds K fd30 ["shop", "events"] [] := F30.bindsN fun _ _ _ _ _ _ us hl => match us, hl with | [_, _], _ => rfl
    have vbLo : Binds K fd21 ["shop", "value"] [] := F21.bindsN fun _ _ _ _ _ _ us hl => match us, hl with | [_, _], _ => rfl
    have vbCl : Binds K fd23 ["shop", "log"] [] := F23.bindsN fun _ _ _ _ _ _ us hl => match us, hl with | [_, _], _ => rfl
    have vbCf : Binds K fd24 ["shop", "log", "filling"] [] := F24.bindsN fun _ _ _ _ _ _ us hl => match us, hl with | [_, _, _], _ => rfl
    have vbLe : Binds K fd22 ["shop", "log", "filling"] [] := F22.bindsN fun _ _ _ _ _ _ us hl => match us, hl with | [_, _, _], _ => rfl
    have vbTo : Binds K fd31 ["events", "filling"] [] := F31.bindsN fun _ _ _ _ _ _ us hl => match us, hl with | [_, _], _ => rfl
    have vbRl : Binds K fd33 ["shop", "number", "event", "opened"] [] := F33.bindsN fun _ _ _ _ _ _ us hl => match us, hl with | [_, _, _, _], _ => rfl
    have vbLs : Binds K fd32 ["shop", "events", "filling"] [] := F32.bindsN fun _ _ _ _ _ _ us hl => match us, hl with | [_, _, _], _ => rfl
    have vbOd : Binds K fd57 ["_law_jar_here", "_law_thing"] [] := F57.bindsN fun _ _ _ _ _ _ us hl => match us, hl with | [_, _], _ => rfl
    have vbRj : Binds K fd58 ["_law_place", "_law_page", "_law_value"] [] := F58.bindsN fun _ _ _ _ _ _ us hl => match us, hl with | [_, _, _], _ => rfl
    have vbOt : Binds K fd59 ["_law_jar_here", "_law_fill"] [] := F59.bindsN fun _ _ _ _ _ _ us hl => match us, hl with | [_, _], _ => rfl
    have unt := pu_unt (P := P) (w := w) (base := base) FG34
    have event := pu_event TS row nam item FG26 z_len g_TOLD_OUTCOMES d_TOLD_OUTCOMES
    have tell := ok_tell F35 TS gOf unt g_UNTOLD_OUTCOMES d_UNTOLD_OUTCOMES
    have beh := ok_beh F36 TS gOf z_dict
    have fillsO := ok_fills F30 unt tell vbTe F35.kp g35 beh vbOb F36.kp g36 z_tuple z_list
    have work := ok_work (P := P) (w := w) (base := base) F27 z_tuple z_sorted
    have its := ok_its (P := P) (w := w) (base := base) F28 z_tuple z_sorted
    have unts := ok_unts F29 unt z_len
    have room := ok_room F25 work vbWk F27.kp g27 its vbIt F28.kp g28 unts vbUn F29.kp g29 z_len i_MOST_EVENTS i_MOST_WORKERS i_MOST_ITEMS i_MOST_UNTOLD
    have log := ok_log F21 event room vbRo F25.kp g25 fillsO vbFi F30.kp g30 z_isinstance z_tuple z_all z_len
    have clog := ok_checkLog F23 log vbLo F21.kp g21
    have chkF := ok_chkF F24 clog vbCl F23.kp g23 fillsO vbFi F30.kp g30
    have chkX := ok_chkX F24 clog vbCl F23.kp g23 fillsO vbFi F30.kp g30 er_BadFilling
    have told := ok_told F31 unt z_tuple
    have runL := ok_runL F33 TS gOf
    have lets := ok_lets F32 told vbTo F31.kp g31 runL vbRl F33.kp g33 beh vbOb F36.kp g36 z_enumerate
    have ltrs := ok_letters (CX := CX0) F22 chkF vbCf F24.kp g24 lets vbLs F32.kp g32 z_enumerate z_tuple
    have ltrsX := ok_lettersX F22 chkF chkX vbCf F24.kp g24 lets vbLs F32.kp g32 z_enumerate z_tuple
    have take_ := ok_take (P := P) (w := w) (base := base) F48 z_int
    have groups := ok_groups (P := P) (w := w) (base := base) F51 F50 F49 F48 g50 g49 g48 z_int z_len z_range z_max z_dict z_zip z_tuple z_sorted
    have home := ok_home (P := P) (w := w) (base := base) F52 z_dict
    have items := ok_items (P := P) (w := w) (base := base) F53 F48 g48 z_int z_sorted z_set
    have any_ := ok_any (P := P) (w := w) (base := base) F54 F49 F48 g49 g48 z_int z_len z_range z_tuple
    have brought := ok_brought (P := P) (w := w) (base := base) F55 z_enumerate z_list
    have fillsL := ok_fillsL F56 brought vbB F55.kp g55 z_list
    have oth := ok_oth (P := P) (w := w) (base := base) F59 F49 F48 F57 g49 g48 g57 z_int z_len z_list z_isinstance z_tuple z_str
    have refd := ok_refd F58 ⟨g_SpoilError, er_BadFilling, (er 0 (by decide)).ex, ki 0 (by decide) 0 (by decide), (er 0 (by decide)).kV, z_isinstance, z_ValueError, z_repr⟩ (sys_ok sy) ltrsX vbLe F22.kp g22
    have right := ok_right F60 groups vbG F51.kp g51 home vbH F52.kp g52 take_ vbT F48.kp g48 items vbI F53.kp g53 any_ vbA F54.kp g54 fillsL vbF F56.kp g56 brought vbB F55.kp g55 ltrs vbLe F22.kp g22 oth vbOt F59.kp g59 refd vbRj F58.kp g58 piS z_repr z_range z_tuple (sys_ok sy)
    have jar := ok_jar (P := P) (w := w) (base := base) F47 z_len z_int z_abs
    exact ok_law F61 jar vbJ F47.kp g47 right vbR F60.kp g60 z_range z_max z_min z_len z_all
end KW
open PySem PySem.W PySem.Calls PyProof.Rows
set_option maxRecDepth 100000 in
set_option maxHeartbeats 0 in
theorem PySem.Challenge.cw_spoilorder_k05_letters_in_their_order_holds : PySem.Challenge.rw_spoilorder_k05_letters_in_their_order.Holds := by
  w_on; o_law
  refine HandSHeadRun.head_any (r := OpenLaw.row PySem.Challenge.rw_spoilorder_k05_letters_in_their_order) (q := view (OpenLaw.row PySem.Challenge.rw_spoilorder_k05_letters_in_their_order).prog [61]) (H := KW.hkZ) (ob := KW.obZ) (M := 30000) (loose := KW.loose) (d := HandSHeadRun.topDef (OpenLaw.row PySem.Challenge.rw_spoilorder_k05_letters_in_their_order).prog 61) (kwd := []) KW.obZ_eq
    (by kernel_rfl) (fun s => by kernel_rfl) KW.runZ (by kernel_rfl) (by kernel_rfl) (by kernel_rfl) (by rfl) (by first | assumption | decide +kernel) (by decide +kernel) ⟨rfl, rfl, rfl, rfl, rfl, by decide +kernel⟩ ?hw ?hc
  case hw => w_witness2
  case hc =>
    refine KZ.walk_G (l := PySem.Challenge.rw_spoilorder_k05_letters_in_their_order) (n := 63) (k := 10) (x := "_law_script") rfl (by decide) (by kernel_rfl) ⟨rfl, by decide, by decide⟩ ?F
    intro w mg fa h Y G hmg0
    obtain ⟨K, KX, c⟩ := Y
    have hmg : mg ("law" : PySem.Str) = some (.ref fa) := by
      have e : (HandSHeadRun.topDef (OpenLaw.row PySem.Challenge.rw_spoilorder_k05_letters_in_their_order).prog 61).name = ("law" : PySem.Str) := by kernel_rfl
      rw [← e]
      exact hmg0
    exact ⟨K, KX, KW.facts KX G hmg c⟩
